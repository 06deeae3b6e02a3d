import PyProof.Rows.All
import Wide.All
import OpenK.AllK
import Wide.FinOn
import Lean
import PyProof.EqAt
import PyProof.EqKinds
import PyProof.TupleCall
import PySem.Challenge.RW_dueworth_k26_fillings
import Open.Tree
import Open.Head
section
set_option Elab.async false
set_option linter.all false
set_option maxRecDepth 100000
set_option maxHeartbeats 0
namespace ET
open PySem PySem.W PyProof.Rows
def gf(tb:String→Option Builtin)(p:Program)(w:World)(n₀:Nat)(ann:Option Value):Nat→SharedT→Thread→Option SharedT
 |0,_,_=>none
 |n+1,s,t=>match through t with
  |true=>some s
  |false=>match stepOk n₀ ann t with
   |false=>none
   |true=>match stepT (denote tb) p w s t with
    |some x=>gf tb p w n₀ ann n x.1 x.2
    |none=>none
theorem kg{tb:String→Option Builtin}{p:Program}{w:World}{n₀:Nat}{ann:Option Value}:∀{n:Nat} {s s':SharedT} {t:Thread},gf tb p w n₀ ann n s t=some s'→topRun tb p w n₀ ann n s.abs t=some s'.abs
 |0,_,_,_,h=>by cases h
 |n+1,s,s',t,h=>by
  unfold gf at h
  unfold topRun
  cases he:through t with
  |true=>rw[he]at h;cases h;rfl
  |false=>
   rw[he]at h
   cases hk:stepOk n₀ ann t with
   |false=>rw[hk]at h;cases h
   |true=>
    rw[hk]at h
    cases hs:stepT (denote tb) p w s t with
    |none=>rw[hs]at h;cases h
    |some r=>rw[hs]at h;rw[stepT_spec hs];exact kg h
def xP:List Obj→BT→Nat→Option (BT×Nat)
 |[],t,n=>some (t,n)
 |o::os,t,n=>match ((t.ins n o).get n).isSome with
  |true=>xP os (t.ins n o) (n+1)
  |false=>none
theorem nU{life:Life}:∀{os:List Obj} {t t':BT} {n n':Nat},xP os t n=some (t',n')→absHeap t' n' life=⟨(absHeap t n life).objs++os.toArray,life⟩
 |[],t,t',n,n',h=>by cases h;simp[absHeap]
 |o::os,t,t',n,n',h=>by
  unfold xP at h
  cases g:((t.ins n o).get n).isSome with
  |false=>rw[g]at h;cases h
  |true=>
   rw[g]at h
   rw[nU h,absHeap_ins g]
   simp[Heap.push]
def gg(tb:String→Option Builtin)(p:Program)(w:World)(N:Nat)(s₀:Shared):Option Shared:=
 match s₀.heap.isNs mainGlobals&&s₀.gens.size == 0 with
 |true=>match xP s₀.heap.objs.toList .nil 0 with
  |some x=>match gf tb p w x.2 (s₀.heap.nsMap mainGlobals "__annotations__") N ⟨x.1,x.2,s₀.heap.life,s₀.gens,s₀.drawn,s₀.toks,s₀.os⟩ (topStub p)with
   |some s=>match staticsOk (importedModules p.main.body) s₀.heap s.abs.heap&&namesBound p s.abs.heap&&gensDone s.abs&&laidKept s₀.heap s.abs.heap with
    |true=>some s.abs
    |false=>none
   |none=>none
  |none=>none
 |false=>none
theorem mK{tb:String→Option Builtin}{p:Program}{w:World}{N:Nat}{s₀ s:Shared}(h:gg tb p w N s₀=some s):topFrom tb p w N s₀=some s:=by
 unfold gg at h
 unfold topFrom
 cases h1:s₀.heap.isNs mainGlobals&&s₀.gens.size == 0 with
 |false=>rw[h1]at h;cases h
 |true=>
  rw[h1]at h
  dsimp only at h ⊢
  cases h2:xP s₀.heap.objs.toList .nil 0 with
  |none=>rw[h2]at h;cases h
  |some x=>
   rw[h2]at h
   dsimp only at h
   have e:=nU (life:=s₀.heap.life) h2
   have e':absHeap x.1 x.2 s₀.heap.life=s₀.heap:=by
    rw[e]
    simp[absHeap,BT.list]
   have n':x.2=s₀.heap.objs.size:=by rw[←e',absHeap_size]
   cases h3:gf tb p w x.2 (s₀.heap.nsMap mainGlobals "__annotations__") N ⟨x.1,x.2,s₀.heap.life,s₀.gens,s₀.drawn,s₀.toks,s₀.os⟩ (topStub p)with
   |none=>rw[h3]at h;cases h
   |some r=>
    rw[h3]at h
    dsimp only at h
    have ea:SharedT.abs ⟨x.1,x.2,s₀.heap.life,s₀.gens,s₀.drawn,s₀.toks,s₀.os⟩=s₀:=by
     unfold SharedT.abs
     rw[e']
    have:=kg h3
    rw[ea,n']at this
    rw[this]
    exact h
theorem mL{tb:String→Option Builtin}{p:Program}{w:World}{N:Nat}{s₀:Shared}{α:Type}{f:Shared→α}{a:α}(h:Option.map f (gg tb p w N s₀)=some a):Option.map f (topFrom tb p w N s₀)=some a:=by
 obtain⟨s,h1,h2⟩:=Option.map_eq_some_iff.mp h
 rw[mK h1]
 exact congrArg some h2
def seenT(p q:Program)(loose:List Str)(Xt:Shared→Bool){α:Type}(Yf:Shared→α)(N:Nat)(u u':World):=
 Option.map (fun c=>Option.map (fun s=>(openSeen q loose (importedModules p.main.body) Xt true s,Yf s)) (gg treeTable p u' N c)) (fencedOpening treeTable p u N)
lay_quick seenT
theorem nV{p q:Program}{loose:List Str}{Xt:Shared→Bool}{α:Type}{Yf:Shared→α}{N:Nat}{u u':World}{r}(h:PySem.W.Fast.tw2787559817927863336 p q loose Xt Yf N u u'=r):seenT p q loose Xt Yf N u u'=r:=by
 rw[PySem.W.Fast.te2787559817927863336]
 exact h
theorem zw{p q:Program}{loose:List Str}{Xt:Shared→Bool}{α:Type}{Yf:Shared→α}{Ya:World→α}{N:Nat}
  (h:∀u:World,seenT p q loose Xt Yf N u u=some (some (openGood q loose,Ya u))):LeftO p q loose Xt Yf Ya N:=fun u=>by
 obtain⟨c,a,b⟩:=Option.map_eq_some_iff.mp (h u)
 unfold openEnds
 rw[a]
 exact mL b
theorem qo{p q:Program}{loose:List Str}{Xt:Shared→Bool}{α:Type}{Yf:Shared→α}{Ya:World→α}{N:Nat}(row:String)
  (h0:∀u:World,seenT p q loose Xt Yf N u (u.withFollow row false)=some (some (openGood q loose,Ya (u.withFollow row false))))
  (h1:∀u:World,seenT p q loose Xt Yf N u (u.withFollow row true)=some (some (openGood q loose,Ya (u.withFollow row true)))):LeftO p q loose Xt Yf Ya N:=fun u=>by
 obtain⟨c,a,b⟩:=Option.map_eq_some_iff.mp (h0 u)
 obtain⟨c',a',b'⟩:=Option.map_eq_some_iff.mp (h1 u)
 have hc:c'=c:=by rw[a]at a';cases a';rfl
 subst hc
 have b:=mL b
 have b':=mL b'
 have hu:=World.withFollow_self u row
 unfold openEnds
 rw[a]
 cases hb:u.params.followText row<;>rw[hb]at hu
 ·rw[hu]at b
  exact b
 ·rw[hu]at b'
  exact b'
end ET
namespace E26
open PySem PySem.W PyProof.Rows
abbrev tp(i:Nat):Stmt:=PySem.Challenge.pw_dueworth_k26_fillings.main.body.getD i (.Pass ⟨0,0,0,0⟩)
/-- the text without what says nothing -/
def vw:Program:={ PySem.Challenge.pw_dueworth_k26_fillings with main:={ PySem.Challenge.pw_dueworth_k26_fillings.main with body:=[tp 1,tp 2,tp 3,tp 4,tp 6,tp 7,tp 10,tp 11,tp 13,tp 14,tp 15,tp 16,tp 17,tp 18,tp 19,tp 20,tp 21,tp 22,tp 23,tp 24,tp 25,tp 26,tp 27,tp 28,tp 29,tp 30,tp 31,tp 32,tp 33,tp 34] } }
abbrev rr:RowW:=OpenRow.toRowW (OpenLaw.row PySem.Challenge.rw_dueworth_k26_fillings)
local macro_rules | `(tactic| o_head $H)=>`(tactic|
 refine holds_open (q:=vw) (loose:=["SIDES_FROM","parts_reached"]) (Xt:=fun s=>(xlAt vw [] s&&recOk (RowW.records rr) s)) (XP:=XL vw []) (N:=2140)
  (Yf:=Hook.obs $H) (Ya:=Hook.val $H) (YP:=Hook.says $H) ?hl (Hook.of $H) (Hook.keeps $H) (fun s e=>xl_of s (Bool.and_eq_true_iff.mp e).1)
  XL.keeps rfl rfl rfl (fun s e=>recFacts_of (Bool.and_eq_true_iff.mp e).2) rfl (by assumption)
  (by decide +kernel) ⟨rfl,rfl,rfl,rfl,rfl,by decide +kernel⟩ ?hw ?hc)
/-- the law is well said: by the quick twin of the look,with no twin of the program -/
theorem said:OpenLaw.wellSaid PySem.Challenge.rw_dueworth_k26_fillings=true:=(congrFun PySem.W.Fast.te9446332074065402090 _).trans (by kernel_rfl)
/-- says nothing; what lies in the heap is written down by the way -/
theorem early(h:∀P:Prop,P):PySem.Challenge.rw_dueworth_k26_fillings.Holds:=by
 w_on;refine holds_law said fun said=>?_;k_head
 all_goals exact h _
abbrev as:List Addr:=[2,3,15,16,18,19,21,22,23,25,26,28,29,30,32,33,35,36,37,39,40,42,43,44,46,47,49,50,51,52,54,55,57,58,59,61,62,64,65,66,68,69,71,72,73,76,77,78,80,81,83,84,85,88,89,90,92,93,95,96,97,99,100,102,103,104,106,107,109,110,111,113,114,116,117,118,120,121,123,124,125,127,128,130,131,132,134,135,137,138,139,142,143,144,146,147,149,150,151,153,154,156,157,158,160,161,163,164,165,168,169,170,172,173,175,176,177,180,181,182,185,186,187,189,190,192,193,194,197,198,199,202,203,204,207,208]
theorem AC(P:Params):as=(early.heap_1 P).map (·.1):=by kernel_rfl
noncomputable abbrev hk:Hook:=kHook early.heap_1 as AC
theorem xQ(u:World):ET.seenT (OpenLaw.row PySem.Challenge.rw_dueworth_k26_fillings).prog vw ["SIDES_FROM","parts_reached"] (fun s=>(xlAt vw [] s&&recOk (RowW.records rr) s)) (Hook.obs hk) 2140 u (u.withFollow "special-get-raises" false)=some (some (openGood vw ["SIDES_FROM","parts_reached"],Hook.val hk (u.withFollow "special-get-raises" false))):=ET.nV (by kernel_rfl)
theorem xR(u:World):ET.seenT (OpenLaw.row PySem.Challenge.rw_dueworth_k26_fillings).prog vw ["SIDES_FROM","parts_reached"] (fun s=>(xlAt vw [] s&&recOk (RowW.records rr) s)) (Hook.obs hk) 2140 u (u.withFollow "special-get-raises" true)=some (some (openGood vw ["SIDES_FROM","parts_reached"],Hook.val hk (u.withFollow "special-get-raises" true))):=ET.nV (by kernel_rfl)
theorem left:LeftO (OpenLaw.row PySem.Challenge.rw_dueworth_k26_fillings).prog vw ["SIDES_FROM","parts_reached"] (fun s=>(xlAt vw [] s&&recOk (RowW.records rr) s)) (Hook.obs hk) (Hook.val hk) 2140:=ET.qo "special-get-raises" xQ xR
end E26
end
open PySem in
abbrev Vq:=Value->Shared->Prop
open PySem in
abbrev Va:=List (Addr×Obj)
open PySem in
abbrev Vo:=PySem.W.Frag
open PySem in
abbrev Vr:=Str->Option Value
open PySem in
abbrev Vs:=List Str
open PySem in
abbrev Vu:=List Int
open PySem in
abbrev Vv:=List Value
open PySem in
abbrev Vw:=Array Value
set_option Elab.async false
set_option linter.all false
set_option maxRecDepth 100000
namespace L2
open PySem PySem.Spec PyProof.Rows
abbrev bb:=Sum Int Str
noncomputable def kh:bb->Value->Bool
 | .inl k,v=>Value.isInt k v
 | .inr x,v=>Value.isStrOf x v
noncomputable def zK(w:World):bb->Int
 | .inl k=>hashInt k
 | .inr x=>hashStr w x
theorem bg:∀{k:bb} {v:Value},kh k v=true->(∃i t,k=Sum.inl i/\v=Value.int i t)\/(∃x t,k=Sum.inr x/\v=Value.str x t)
 | .inl i,v,h=>by
  obtain⟨t,e⟩:=Value.isInt_shape (k:=i) (v:=v) h
  exact .inl ⟨i,t,rfl,e⟩
 | .inr x,v,h=>by
  obtain⟨t,e⟩:=Value.isStrOf_shape (x:=x) (v:=v) h
  exact .inr ⟨x,t,rfl,e⟩
def oR(i:Int)(t:Tok):kh (.inl i) (.int i t)=true:=by simp[kh,Value.isInt]
def gY(x:Str)(t:Tok):kh (.inr x) (.str x t)=true:=by simp[kh,Value.isStrOf]
def vE(a b:Int):decide ((Sum.inl a:bb)=Sum.inl b)=(a == b):=by
 by_cases e:a=b
 ·subst e;simp
 ·have h:¬(Sum.inl a:bb)=Sum.inl b:=fun q=>e (Sum.inl.inj q)
  rw[decide_eq_false h]
  exact(beq_eq_false_iff_ne.mpr e).symm
def vF(a b:Str):decide ((Sum.inr a:bb)=Sum.inr b)=decide (a=b):=by
 by_cases e:a=b
 ·subst e;simp
 ·have h:¬(Sum.inr a:bb)=Sum.inr b:=fun q=>e (Sum.inr.inj q)
  rw[decide_eq_false h,decide_eq_false e]
def vG(a:Int)(b:Str):decide ((Sum.inl a:bb)=Sum.inr b)=false:=decide_eq_false (fun q=>nomatch q)
def vH(a:Str)(b:Int):decide ((Sum.inr a:bb)=Sum.inl b)=false:=decide_eq_false (fun q=>nomatch q)
noncomputable def aP(prog:Program)(w:World):PySem.KeyKind prog w bb where
 is:=kh
 hash:=zK w
 inj:=fun v a b ha hb=>by
  rcases bg ha with⟨i,t,rfl,rfl⟩|⟨x,t,rfl,rfl⟩
  ·rcases bg hb with⟨j,u,rfl,e⟩|⟨y,u,rfl,e⟩
   ·injection e with e1 _;rw[e1]
   ·exact nomatch e
  ·rcases bg hb with⟨j,u,rfl,e⟩|⟨y,u,rfl,e⟩
   ·exact nomatch e
   ·injection e with e1 _;rw[e1]
 byValue:=fun k v h=>by
  rcases bg h with⟨i,t,rfl,rfl⟩|⟨x,t,rfl,rfl⟩<;>rfl
 pyHash:=fun hv h=>by
  rcases bg hv with⟨i,t,rfl,rfl⟩|⟨x,t,rfl,rfl⟩
  ·exact wpAny_pyHash_int h
  ·exact wpAny_pyHash_str h
 eqBool:=fun hu hv h=>by
  rcases bg hu with⟨i,t,rfl,rfl⟩|⟨x,t,rfl,rfl⟩
  ·rcases bg hv with⟨j,u,rfl,rfl⟩|⟨y,u,rfl,rfl⟩
   ·rw[vE]at h;exact wpAny_eqBool_int h
   ·rw[vG]at h;exact SeqAt.EqAt.int_str i t y u _ _ _ _ h
  ·rcases bg hv with⟨j,u,rfl,rfl⟩|⟨y,u,rfl,rfl⟩
   ·rw[vH]at h;exact SeqAt.EqAt.str_int x t j u _ _ _ _ h
   ·rw[vF]at h;exact wpAny_eqBool_str h
 «strs»:=fun k x t v h=>by
  rcases bg h with⟨i,u,rfl,e⟩|⟨y,u,rfl,e⟩
  ·exact nomatch e
  ·injection e with e1 _
   subst e1
   cases v<;>rfl
def lL(prog:Program)(w:World)(i:Int)(t:Tok):(aP prog w).is (.inl i) (.int i t)=true:=oR i t
def lM(prog:Program)(w:World)(x:Str)(t:Tok):(aP prog w).is (.inr x) (.str x t)=true:=gY x t
inductive V where
 |non|bl (b:Bool)|int (i:Int)|str (x:Str)|Ew (b:Array UInt8)|GC (b:UInt64)|ref (a:Addr)|ty (n:String)
 deriving DecidableEq
noncomputable def RelV:V->Value->Prop
 | .non,u=>u=Value.none
 | .bl b,u=>u=Value.bool b
 | .int i,u=>∃t,u=Value.int i t
 | .str x,u=>∃t,u=Value.str x t
 | .Ew b,u=>∃t,u=Value.bytes b t
 | .GC b,u=>∃t,u=Value.float b t
 | .ref a,u=>u=Value.ref a
 | .ty n,u=>u=Value.type n
noncomputable abbrev Vals:List V->List Value->Prop:=Paired RelV
theorem Vals.length{xs:List V}{us:Vv}(r:Vals xs us):xs.length=us.length:=Paired.length r
theorem Vals.get:∀{xs:List V} {us:Vv} {i:Nat} {x:V},Vals xs us->xs[i]?=some x->∃u,us[i]?=some u/\RelV x u
 |_,_,_,_,.nil,e=>by simp at e
 |_,_,0,_,.cons r _,e=>by simp at e;subst e;exact⟨_,rfl,r⟩
 |_,_,i+1,x,.cons _ t,e=>by
  obtain⟨u,h1,h2⟩:=Vals.get (i:=i) (x:=x) t (by simpa using e)
  exact⟨u,by simpa using h1,h2⟩
theorem Vals.set{x:V}{u:Value}(r:RelV x u):∀{xs:List V} {us:Vv} (i:Nat),Vals xs us->Vals (xs.set i x) (us.set i u)
 |_,_,_,.nil=>.nil
 |_,_,0,.cons _ t=>.cons r t
 |_,_,i+1,.cons q t=>.cons q (Vals.set r i t)
theorem Vals.append:∀{xs ys:List V} {us ws:Vv},Vals xs us->Vals ys ws->Vals (xs++ys) (us++ws)
 |_,_,_,_,.nil,s=>s
 |_,_,_,_,.cons r t,s=>.cons r (Vals.append t s)
theorem Vals.take:∀{xs:List V} {us:Vv} (n:Nat),Vals xs us->Vals (xs.take n) (us.take n)
 |_,_,0,_=>.nil
 |_,_,_+1,.nil=>.nil
 |_,_,n+1,.cons r t=>.cons r (Vals.take n t)
theorem Vals.drop:∀{xs:List V} {us:Vv} (n:Nat),Vals xs us->Vals (xs.drop n) (us.drop n)
 |_,_,0,r=>r
 |_,_,_+1,.nil=>.nil
 |_,_,n+1,.cons _ t=>Vals.drop n t
noncomputable def RelO:Option V->Option Value->Prop
 |some v,some u=>RelV v u
 |none,none=>True
 |_,_=>False
noncomputable def KV{κ:Type}:List (κ×V)->List (κ×Value)->Prop:=Paired fun(p:κ×V) (q:κ×Value)=>p.1=q.1/\RelV p.2 q.2
noncomputable def kV:bb->V
 | .inl i=>.int i
 | .inr x=>.str x
inductive HO where
 /-- a list -/
 |lst (xs:List V)
 /-- a tuple (never changes) -/
 |tup (xs:List V)
 /-- a dict whose keys are ints and texts; one whose keys are tuples of ints and texts (the empty one is both) -/
 |dK (kvs:List (bb×V))|dT (kvs:List (List bb×V))
 /-- a set of ints: its members,its size -/
 |set (S:Int->Bool) (n:Nat)
 /-- an instance of the class at C,its dict at dx,its attributes -/
 |ins (C dx:Addr) (fs:List (Str×V))
 /-- the dict of the instance at x -/
 |own (x:Addr)
 /-- the dict of an exception -/
 |xd (fs:List (Str×V))
 /-- a bound method,f of x -/
 |met (f x:Addr)
 /-- a range object lo,lo + 1,.. below hi -/
 |GD (lo hi:Int)
 /-- a thing that is known to the object (the script; a dict while a loop walks it): read,never written while it is so -/
 |frz (o:Obj) (u:HO)
 /-- a code object's table -/
 |Fh (ps:Vw)
 /-- any other thing,by what is true of its one object (a def of HE own: ID a S n:=HO.ext fun h=>..) -/
 |ext (φ:Heap->Prop)
abbrev Hp:=Addr->Option HO
noncomputable def upd(H:Hp)(a:Addr)(o:HO):Hp:=fun b=>if b=a then some o else H b
def ar{H:Hp}{a:Addr}{o:HO}:upd H a o a=some o:=by unfold upd;rw[if_pos rfl]
def ay{H:Hp}{a b:Addr}{o:HO}(h:b≠a):upd H a o b=H b:=by unfold upd;rw[if_neg h]
def xS{H:Hp}{a b:Addr}{o u:HO}(h:H a=some o)(h':H b=some u)(d:o≠u):a≠b:=by
 intro e;subst e;rw[h]at h';exact d (Option.some.inj h')
def aQ{H:Hp}{a b:Addr}{o:HO}(h:H a=some o)(h':H b=none):a≠b:=by
 intro e;subst e;rw[h]at h';cases h'
def BR(h:Heap)(a:Addr)(its:Vw):Prop:=∃o,h.get? a=some o/\o.dict=none/\o.cls = .type "tuple"/\∃n,o.data = .seq its n
def BR.tup{h:Heap}{a:Addr}{its:Vw}(x:BR h a its):IsTup h a its:=let ⟨o,e,_,c,d⟩:=x;⟨o,e,c,d⟩
def BR.new(h:Heap)(its:Vw):BR (h.push { cls:=.type "tuple",data:=.seq its }) h.objs.size its:=⟨_,Heap.get?_push_size _ rfl,rfl,rfl,_,rfl⟩
section
variable (P:Program) (w:World)
noncomputable def ObjOk(H:Hp)(h:Heap)(a:Addr):HO->Prop
 | .lst xs=>xs.length<=sizeLine/\∃(its:Vv) (n:Nat),Vals xs its/\h.get? a=some { cls:=.type "list",data:=.seq its.toArray n }
 | .tup xs=>xs.length<=sizeLine/\∃its:List Value,Vals xs its/\BR h a its.toArray
 | .dK kvs=>kvs.length<=sizeLine/\(a == sysModules)=false/\∃vs,KV kvs vs/\h.DictOf (aP P w) a vs
 | .dT kvs=>kvs.length<=sizeLine/\(a == sysModules)=false/\∃xs:List (List bb×Addr×Value),
   Paired (fun(p:List bb×V) (q:List bb×Addr×Value)=>p.1=q.1/\H q.2.1=some (.tup (p.1.map kV))/\RelV p.2 q.2.2) kvs xs/\
   ∃o es ep,h.get? a=some o/\o.ExactDict/\o.data = .dict es ep/\es.toList=xs.map (entryOfKey (tupleKind (aP P w)))/\(xs.map (·.1)).Nodup
 | .set S n=>h.SetOf (intKind P w) a S n
 | .ins C dx fs=>H dx=some (.own a)/\fs.length<=1000/\dx≠a/\h.get? a=some (PySem.W.instObj C dx)/\
   ∃mA,h.Ns1 dx mA/\(∀f,RelO (fs.lookup f) (mA f))/\PySem.Within mA (fs.map (·.1))
 | .own _=>∃o,h.get? a=some o
 | .xd fs=>∃mA,h.Ns1 a mA/\∀f,RelO (fs.lookup f) (mA f)
 | .GD lo hi=>∃t u v,h.get? a=some { cls:=.type "range",data:=.fields #[.int lo t,.int hi u,.int 1 v] }
 | .frz o u=>h.get? a=some o/\ObjOk H h a u
 | .Fh ps=>h.get? a=some { cls:=.none,data:=.fields ps }
 | .met f x=>h.get? a=some (PySem.W.methodObj (.ref f) (.ref x))
 | .ext φ=>φ h/\(∃o,h.get? a=some o)/\∀h1 h2:Heap,φ h1->(∀o,h1.get? a=some o->h2.get? a=some o)->φ h2
def CT(H:Hp)(h:Heap):Prop:=∀a o,H a=some o->ObjOk P w H h a o
end
section
variable {P:Program} {w:World} {H H':Hp} {h h':Heap} {a:Addr} {o:HO}
theorem ObjOk.lt(x:ObjOk P w H h a o):a < h.objs.size:=by
 cases o with
 |lst xs=>obtain⟨_,_,_,_,e⟩:=x;exact Heap.lt_size e
 |tup xs=>obtain⟨_,_,_,p⟩:=x;exact p.tup.lt
 |dK kvs=>obtain⟨_,_,_,_,o,_,_,e,_⟩:=x;exact Heap.lt_size e
 |dT kvs=>obtain⟨_,_,_,_,o,_,_,e,_⟩:=x;exact Heap.lt_size e
 |set S n=>obtain⟨o,_,_,_,e,_⟩:=x;exact Heap.lt_size e
 |ins C dx fs=>obtain⟨_,_,_,e,_⟩:=x;exact Heap.lt_size e
 |own y=>obtain⟨_,e⟩:=x;exact Heap.lt_size e
 |xd fs=>obtain⟨_,⟨_,_,_,e,_⟩,_⟩:=x;exact Heap.lt_size e
 |GD lo hi=>obtain⟨_,_,_,e⟩:=x;exact Heap.lt_size e
 |frz ob u=>obtain⟨e,_⟩:=x;exact Heap.lt_size e
 |Fh ps=>exact Heap.lt_size (show h.get? a=some _ from x)
 |met f y=>exact Heap.lt_size (show h.get? a=some _ from x)
 |ext φ=>obtain⟨_,⟨_,e⟩,_⟩:=x;exact Heap.lt_size e
theorem Paired.Fi{α β:Type}{F G:α->β->Prop}:∀{l₁:List α} {l₂:List β},Paired F l₁ l₂->(∀a b,F a b->G a b)->Paired G l₁ l₂
 |_,_,.nil,_=>.nil
 |_,_,.cons r t,f=>.cons (f _ _ r) (Paired.Fi t f)
def ObjOk.stay(x:ObjOk P w H h a o)(k:∀b u,(b=a\/H b=some (.own a))->h.get? b=some u->h'.get? b=some u)
  (ho:∀b,H b=some (.own a)->H' b=some (.own a)) (ht:∀b xs,H b=some (.tup xs)->H' b=some (.tup xs)):ObjOk P w H' h' a o:=by
 induction o with
 |lst xs=>obtain⟨z,its,n,r,e⟩:=x;exact⟨z,its,n,r,k _ _ (.inl rfl) e⟩
 |tup xs=>obtain⟨z,its,r,ob,e,c⟩:=x;exact⟨z,its,r,ob,k _ _ (.inl rfl) e,c⟩
 |dK kvs=>obtain⟨z,y,vs,r,ob,es,ep,e,c⟩:=x;exact⟨z,y,vs,r,ob,es,ep,k _ _ (.inl rfl) e,c⟩
 |dT kvs=>
  obtain⟨z,y,xs,r,ob,es,ep,e,c⟩:=x
  exact⟨z,y,xs,Paired.Fi r fun p q z=>⟨z.1,ht _ _ z.2.1,z.2.2⟩,ob,es,ep,k _ _ (.inl rfl) e,c⟩
 |set S n=>obtain⟨ob,es,ep,t,e,c⟩:=x;exact⟨ob,es,ep,t,k _ _ (.inl rfl) e,c⟩
 |ins C dx fs=>
  obtain⟨d,z,ne,e,mA,⟨od,es,ep,e2,c⟩,r⟩:=x
  exact⟨ho _ d,z,ne,k _ _ (.inl rfl) e,mA,⟨od,es,ep,k _ _ (.inr d) e2,c⟩,r⟩
 |own y=>obtain⟨ob,e⟩:=x;exact⟨ob,k _ _ (.inl rfl) e⟩
 |xd fs=>obtain⟨mA,⟨od,es,ep,e,c⟩,r⟩:=x;exact⟨mA,⟨od,es,ep,k _ _ (.inl rfl) e,c⟩,r⟩
 |GD lo hi=>obtain⟨t,u,v,e⟩:=x;exact⟨t,u,v,k _ _ (.inl rfl) e⟩
 |frz ob u ih=>obtain⟨e,q⟩:=x;exact⟨k _ _ (.inl rfl) e,ih q⟩
 |Fh ps=>
  have e:h.get? a=some { cls:=.none,data:=.fields ps }:=x
  show h'.get? a=some { cls:=.none,data:=.fields ps }
  exact k a _ (.inl rfl) e
 |met f y=>
  have e:h.get? a=some (PySem.W.methodObj (.ref f) (.ref y)):=x
  show h'.get? a=some (PySem.W.methodObj (.ref f) (.ref y))
  exact k a _ (.inl rfl) e
 |ext φ=>obtain⟨p,⟨o,e⟩,st⟩:=x;exact⟨st _ _ p fun o q=>k _ _ (.inl rfl) q,⟨o,k _ _ (.inl rfl) e⟩,st⟩
theorem CT.lt(x:CT P w H h)(e:H a=some o):a < h.objs.size:=(x a o e).lt
def CT.fresh(x:CT P w H h)(e:h.objs.size<=a):H a=none:=by
 cases q:H a with
 |none=>rfl
 |some u=>exact absurd (Nat.lt_of_lt_of_le (x.lt q) e) (Nat.lt_irrefl _)
def CT.kept(x:CT P w H h)(k:∀b u,h.get? b=some u->h'.get? b=some u):CT P w H h':=fun a o e=>
 (x a o e).stay (fun b u _ q=>k b u q) (fun _ q=>q) fun _ _ q=>q
def CT.laid(x:CT P w H h)(k:∀b u,h.get? b=some u->h'.get? b=some u)(hp:h.objs.size<=a)(new:ObjOk P w (upd H a o) h' a o):CT P w (upd H a o) h':=fun b u e=>by
 have hn:=x.fresh hp
 by_cases hb:b=a
 ·subst hb;rw[ar]at e;cases e;exact new
 ·rw[ay hb]at e
  exact(x b u e).stay (fun c v _ q=>k c v q) (fun c q=>by rw[ay (aQ q hn)];exact q) fun c xs q=>by rw[ay (aQ q hn)];exact q
end
def Rd(H:Hp)(a:Addr)(u:HO):Prop:=H a=some u\/∃o,H a=some (.frz o u)
def Rd.ok{P:Program}{w:World}{H:Hp}{h:Heap}{a:Addr}{u:HO}(r:Rd H a u)(x:CT P w H h):ObjOk P w H h a u:=by
 rcases r with r|⟨o,r⟩
 ·exact x a u r
 ·obtain⟨_,q⟩:=x a _ r
  exact q
noncomputable def xT:Option HO->Prop
 |some (.lst _)=>True
 |some (.dK _)=>True
 |some (.dT _)=>True
 |some (.set _ _)=>True
 |some (.ins _ _ _)=>True
 |some (.ext _)=>True
 |_=>False
section
variable {P:Program} {w:World} {H:Hp} {h h':Heap} {x e:Addr} {o':HO}
def CT.write(ok:CT P w H h)(mu:xT (H x))(he:e=x\/H e=some (.own x))(k:∀b u,b≠e->h.get? b=some u->h'.get? b=some u)(FJ:∃u,h'.get? e=some u)
  (new:ObjOk P w (upd H x o') h' x o'):CT P w (upd H x o') h':=fun b u q=>by
 have FO:∀c y,H c=some (.own y)->c≠x:=fun c y r z=>by subst z;rw[r]at mu;exact mu
 have GE:∀c xs,H c=some (.tup xs)->c≠x:=fun c xs r z=>by subst z;rw[r]at mu;exact mu
 by_cases hb:b=x
 ·subst hb;rw[ar]at q;cases q;exact new
 ·rw[ay hb]at q
  by_cases Fj:b=e
  ·have q':H b=some (.own x):=by
    rcases he with z|z
    ·exact absurd (Fj.trans z) hb
    ·rw[Fj];exact z
   rw[q]at q';cases q'
   obtain⟨v,hv⟩:=FJ
   exact⟨v,by rw[Fj];exact hv⟩
  ·refine(ok b u q).stay (fun c v hc r=>k c v ?_ r) (fun c r=>by rw[ay (FO c b r)];exact r) fun c xs r=>by rw[ay (GE c xs r)];exact r
   rcases hc with rfl|hc
   ·exact Fj
   ·rintro rfl
    rcases he with z|z
    ·exact FO c b hc z
    ·rw[hc]at z;cases z;exact hb rfl
end
structure Un (fs ex:List Addr) (H H':Hp) (h h':Heap):Prop where
 keep:∀b o,h.get? b=some o->H b=none->b ∉ fs->b ∉ ex->h'.get? b=some o
 slot:∀b o,h.get? b=some o->H b=none->b∈fs->b ∉ ex->∃sl,h'.get? b=some { o with slots:=sl }
 free:∀b o,h.get? b=some o->H b=none->b ∉ ex->H' b=none
 there:∀b o,h.get? b=some o->b ∉ ex->∃o',h'.get? b=some o'
 tups:∀b xs,H b=some (.tup xs)->H' b=some (.tup xs)
 DA:∀b o u,H b=some (.frz o u)->H' b=some (.frz o u)
 DM:∀b ps,H b=some (.Fh ps)->∃more,H' b=some (.Fh (ps++more))
section
variable {fs fs' ex ex':List Addr} {H H1 H2:Hp} {h h1 h2 h':Heap} {a x e:Addr} {o:HO}
def Un.any(u:Un fs ex H H1 h h1){b:Addr}{ob:Obj}(q:h.get? b=some ob)(n:H b=none)(hx:b ∉ ex):∃sl,h1.get? b=some { ob with slots:=sl }:=by
 by_cases hb:b∈fs
 ·exact u.slot b ob q n hb hx
 ·exact⟨ob.slots,u.keep b ob q n hb hx⟩
def Un.kept(k:∀b u,h.get? b=some u->h'.get? b=some u):Un fs ex H H h h':=
 ⟨fun b ob q _ _ _=>k b ob q,fun b ob q _ _ _=>⟨ob.slots,k b ob q⟩,fun _ _ _ n _=>n,fun b ob q _=>⟨ob,k b ob q⟩,fun _ _ q=>q,fun _ _ _ q=>q,fun _ ps q=>⟨#[],by rw[q];simp⟩⟩
def Un.refl:Un fs ex H H h h:=Un.kept fun _ _ q=>q
def Un.laid(k:∀b u,h.get? b=some u->h'.get? b=some u)(hp:h.objs.size<=a)(hn:H a=none):Un fs ex H (upd H a o) h h' where
 keep:=fun b u q _ _ _=>k b u q
 slot:=fun b u q _ _ _=>⟨u.slots,k b u q⟩
 free:=fun b u q n _=>by rw[ay (Nat.ne_of_lt (Nat.lt_of_lt_of_le (Heap.lt_size q) hp))];exact n
 there:=fun b u q _=>⟨u,k b u q⟩
 tups:=fun b xs q=>by rw[ay (aQ q hn)];exact q
 DA:=fun b u xs q=>by rw[ay (aQ q hn)];exact q
 DM:=fun b ps q=>⟨#[],by rw[ay (aQ q hn),q];simp⟩
def Un.write(mu:xT (H x))(he:e=x\/H e=some (.own x))(k:∀b u,b≠e->h.get? b=some u->h'.get? b=some u)(FJ:∃u,h'.get? e=some u):Un fs ex H (upd H x o) h h':=by
 have hx:∀b,H b=none->b≠x:=fun b n z=>by subst z;rw[n]at mu;exact mu
 have hb:∀b,H b=none->b≠e:=fun b n z=>by
  subst z
  rcases he with r|r
  ·exact hx b n r
  ·rw[n]at r;cases r
 have hm:∀b u,H b=some u->¬xT (some u)->b≠x:=fun b u q nm z=>by subst z;rw[q]at mu;exact nm mu
 refine⟨fun b u q n _ _=>k b u (hb b n) q,fun b u q n _ _=>⟨u.slots,k b u (hb b n) q⟩,fun b u q n _=>by rw[ay (hx b n)];exact n,fun b u q _=>?_,
  fun b xs q=>by rw[ay (hm b _ q fun z=>z)];exact q,fun b u xs q=>by rw[ay (hm b _ q fun z=>z)];exact q,fun b ps q=>⟨#[],by rw[ay (hm b _ q fun z=>z),q];simp⟩⟩
 by_cases Fj:b=e
 ·subst Fj;exact FJ
 ·exact⟨u,k b u Fj q⟩
end
noncomputable def zx(h:Heap)(H:Hp):List Addr:=(List.range h.objs.size).filter fun a=>(H a).isSome
noncomputable def kQ(h:Heap)(H:Hp):Heap:=PySem.W.hideAll h (zx h H)
def oS(h:Heap)(H:Hp):(kQ h H).objs.size=h.objs.size:=PySem.W.hideAll_size _ _
def qp{h:Heap}{H:Hp}{b:Addr}{o:Obj}(e:h.get? b=some o)(n:H b=none):(kQ h H).get? b=some o:=
 PySem.W.hideAll_get _ e fun hm=>by
  have q:(H b).isSome=true:=(List.mem_filter.mp hm).2
  rw[n]at q;simp at q
def sV{h:Heap}{H:Hp}{b:Addr}{o:Obj}(e:(kQ h H).get? b=some o):h.get? b=some o/\H b=none:=by
 have e':h.get? b=some o:=PySem.W.of_hideAll (zx h H) e
 refine⟨e',?_⟩
 cases q:H b with
 |none=>rfl
 |some x=>
  have hm:b∈zx h H:=List.mem_filter.mpr ⟨List.mem_range.mpr (Heap.lt_size e'),by simp[q]⟩
  have z:(kQ h H).get? b=none:=PySem.W.hideAll_none (zx h H) hm
  rw[z]at e;cases e
structure Mod (K:Vo) (mg:Vr) (base:Heap):Prop where
 GF:K.In base
 glob:base.Ns mainGlobals mg
 blt:∃mb,base.Ns builtinsNs mb/\∀x:Str,x ≠ "__name__"->mb x=bootBuiltins x
 nolimit:base.NoLimit
structure Cx where
 prog:Program
 w:World
 K:Vo
 mg:Vr
 base:Heap
 A:Around
 N:List Str
 s₀:Shared
 H₀:Hp
 env:Env
 outer:List Env
 stack:List Env
 ex:List Addr
 fn:Str->Bool
 calm:Bool
 pn:Va
 xe:Value->Shared->Prop
noncomputable def frs(l:List Env):List Addr:=l.filterMap (·.frame)
noncomputable abbrev Cx.fs(X:Cx):List Addr:=frs X.outer
def zy(sc:Scope)(x:Str):Prop:=sc.names.lookup x=some .local\/sc.names.lookup x=some .cell\/sc.names.lookup x=some .free
def u6(sc:Scope)(x:Str):Prop:=sc.names.lookup x=some .local\/sc.names.lookup x=some .cell
def zL(env:Env)(h:Heap)(m:Vr)(x:Str)(u:Value):Prop:=
 (env.kindOf x=some .local/\m x=some u)\/((env.kindOf x=some .cell\/env.kindOf x=some .free)/\∃c,env.cells.lookup x=some c/\h.IsCell c (some u))
structure Cx.Ok (X:Cx):Prop where
 mod:Mod X.K X.mg X.base
 kind:X.env.scope.kind = .function
 glob:X.env.globals=mainGlobals
 blt:X.env.builtins=builtinsNs
 above:X.s₀.heap.objs.size<=X.env.locals
 inj:∀x y c,X.env.cells.lookup x=some c->X.env.cells.lookup y=some c->x=y
 has:∀x,(X.env.kindOf x=some .cell\/X.env.kindOf x=some .free)->∃c,X.env.cells.lookup x=some c
 FK:∀x c,X.fn x=true->X.env.cells.lookup x=some c->X.s₀.heap.objs.size<=c
 hd:X.calm=true->X.A.handled=none
 frames:X.A.frames=some X.stack
 stk:X.stack=X.outer\/(X.stack=X.env::X.outer/\X.env.frame=some X.env.locals)
 GG:∀b∈X.ex,b≠X.env.locals/\∀x c,X.env.cells.lookup x=some c->c≠b
 bs:∀b o,X.base.get? b=some o->X.s₀.heap.get? b=some o/\X.H₀ b=none
 ES:X.base.objs.size<=X.s₀.heap.objs.size
 Ej:∀b o,X.base.get? b=some o->b ∉ X.ex
 Ex:∀b∈X.ex,b ∉ X.fs
 Dh:X.s₀.heap.FunFrames X.base X.outer
 Fk:∀b∈X.fs,X.H₀ b=none
structure Inv (X:Cx) (pins:Va) (σ:List (Option V)) (H:Hp) (s:Shared):Prop where
 ok:X.Ok
 os:s.os=X.s₀.os
 bare:AllBare s.gens
 base:Un X.fs X.ex X.H₀ H X.s₀.heap s.heap
 loc:∃m,s.heap.Ns X.env.locals m/\∀(i:Nat) (x:Str) (v:V),X.N[i]?=some x->σ[i]?=some (some v)->zy X.env.scope x->∃u,RelV v u/\zL X.env s.heap m x u
 cell:∀x c,X.env.cells.lookup x=some c->∃v,s.heap.IsCell c v
 free:H X.env.locals=none
 CH:∀x c,X.env.cells.lookup x=some c->H c=none
 pin:∀p∈X.pn++pins,s.heap.get? p.1=some p.2/\H p.1=none/\p.1≠X.env.locals/\p.1 ∉ X.fs/\∀v,p.2.data ≠ .cell v
 hok:CT X.prog X.w H s.heap
 len:σ.length=X.N.length
section
variable {X:Cx} {pins:Va} {σ:List (Option V)} {H H':Hp} {s:Shared} {h':Heap}
def Cx.Ok.GH(ok:X.Ok){b:Addr}{o:Obj}(e:X.base.get? b=some o):b ∉ X.fs:=fun hb=>by
 have:=(ok.Dh.mem hb).1
 rw[e]at this;cases this
theorem Inv.bs(I:Inv X pins σ H s):∀b o,X.base.get? b=some o->s.heap.get? b=some o/\H b=none:=fun b o e=>
 ⟨I.base.keep b o (I.ok.bs b o e).1 (I.ok.bs b o e).2 (I.ok.GH e) (I.ok.Ej b o e),I.base.free b o (I.ok.bs b o e).1 (I.ok.bs b o e).2 (I.ok.Ej b o e)⟩
def Inv.bk(I:Inv X pins σ H s):∀b o,X.base.get? b=some o->s.heap.get? b=some o:=fun b o e=>(I.bs b o e).1
theorem Inv.mod(I:Inv X pins σ H s):Mod X.K X.mg X.base:=I.ok.mod
def Inv.Ey(I:Inv X pins σ H s):X.K.In s.heap:=I.ok.mod.GF.keeps I.bk
theorem Inv.lt(I:Inv X pins σ H s):X.env.locals < s.heap.objs.size:=let ⟨_,hn,_⟩:=I.loc;hn.lt
def Inv.sz(I:Inv X pins σ H s):X.s₀.heap.objs.size<=s.heap.objs.size:=Nat.le_trans I.ok.above (Nat.le_of_lt I.lt)
def Inv.FP(I:Inv X pins σ H s){a:Addr}(h:s.heap.objs.size<=a):a ∉ X.fs:=fun hb=>by
 obtain⟨_,o,ho,_⟩:=I.ok.Dh.mem hb
 exact absurd (Nat.lt_of_lt_of_le (Heap.lt_size ho) (Nat.le_trans I.sz h)) (Nat.lt_irrefl _)
def Inv.Fl(I:Inv X pins σ H s):∀x c,X.env.cells.lookup x=some c->c≠X.env.locals:=fun x c e z=>by
 obtain⟨v,o,ho,hd⟩:=I.cell x c e
 obtain⟨m,⟨o',es,ep,ho',hd',_⟩,_⟩:=I.loc
 rw[z,ho']at ho;cases ho;rw[hd']at hd;cases hd
theorem Inv.Dh(I:Inv X pins σ H s):s.heap.FunFrames X.base X.outer:=by
 have all:∀(l:List Env),(∀b∈frs l,b∈X.fs)->X.s₀.heap.FunFrames X.base l->s.heap.FunFrames X.base l:=by
  intro l
  induction l with
  |nil=>intro _ _;trivial
  |cons env r ih=>
   intro hs hl
   obtain⟨hk,⟨L,o,hf,hn,ho,hd⟩,hr⟩:=hl
   have hL:L∈X.fs:=hs L (by unfold frs;rw[List.filterMap_cons,hf];exact List.mem_cons_self)
   obtain⟨sl,e⟩:=I.base.slot L o ho (I.ok.Fk L hL) hL fun z=>I.ok.Ex L z hL
   exact⟨hk,⟨L,_,hf,hn,e,hd⟩,ih (fun b hb=>hs b (by unfold frs;rw[List.filterMap_cons,hf];exact List.mem_cons_of_mem _ hb)) hr⟩
 exact all X.outer (fun _ hb=>hb) I.ok.Dh
theorem Inv.stack(I:Inv X pins σ H s):s.heap.FunFrames X.base X.stack:=by
 rcases I.ok.stk with e|⟨e,hf⟩
 ·rw[e];exact I.Dh
 ·rw[e]
  obtain⟨m,hn,_⟩:=I.loc
  refine .cons (by rw[I.ok.kind];decide) hf hn ?_ I.Dh
  exact Heap.get?_none_of_le (Nat.le_trans I.ok.ES I.ok.above)
def Inv.C8(I:Inv X pins σ H s):∀b∈frs X.stack,b∈X.env.locals::X.fs:=fun b hb=>by
 rcases I.ok.stk with e|⟨e,hf⟩
 ·rw[e]at hb;exact List.mem_cons_of_mem _ hb
 ·rw[e]at hb
  unfold frs at hb
  rw[List.filterMap_cons,hf]at hb
  exact hb
def Inv.Ec(I:Inv X pins σ H s):∀b∈frs X.stack,H b=none:=fun b hb=>by
 rcases List.mem_cons.mp (I.C8 b hb)with e|hb
 ·rw[e];exact I.free
 ·obtain⟨_,o,ho,_⟩:=I.ok.Dh.mem hb
  exact I.base.free b o ho (I.ok.Fk b hb) fun z=>I.ok.Ex b z hb
def Inv.step{g':Array GenState}{t':Nat}{d':Drawn}{ch:List Addr}(I:Inv X pins σ H s)
  (hch:∀b∈ch,(b∈X.ex\/X.s₀.heap.objs.size<=b)/\b≠X.env.locals/\(∀x c,X.env.cells.lookup x=some c->c≠b)/\∀p∈X.pn++pins,p.1≠b)
  (keep:∀b o,b≠X.env.locals->b ∉ X.fs->b ∉ ch->s.heap.get? b=some o->H b=none->h'.get? b=some o)
  (slot:∀b o,b≠X.env.locals->b∈X.fs->b ∉ ch->s.heap.get? b=some o->H b=none->∃sl,h'.get? b=some { o with slots:=sl }) (free:∀b o,b ∉ ch->s.heap.get? b=some o->H b=none->H' b=none)
  (there:∀b o,b ∉ ch->s.heap.get? b=some o->∃o',h'.get? b=some o')
  (tups:∀b xs,H b=some (.tup xs)->H' b=some (.tup xs)) (DA:∀b o u,H b=some (.frz o u)->H' b=some (.frz o u)) (DM:∀b ps,H b=some (.Fh ps)->∃more,H' b=some (.Fh (ps++more)))
  (ns:∀m,s.heap.Ns X.env.locals m->h'.Ns X.env.locals m) (hok:CT X.prog X.w H' h') (hg:AllBare g') :
  Inv X pins σ H' { s with heap:=h',gens:=g',drawn:=d',toks:=t' }:=by
 have HF:∀b o,X.s₀.heap.get? b=some o->b≠X.env.locals:=fun b o e=>Nat.ne_of_lt (Nat.lt_of_lt_of_le (Heap.lt_size e) I.ok.above)
 have Gh:∀b o,X.s₀.heap.get? b=some o->b ∉ X.ex->b ∉ ch:=fun b o e hx hb=>by
  rcases(hch b hb).1 with z|z
  ·exact hx z
  ·exact absurd (Nat.lt_of_lt_of_le (Heap.lt_size e) z) (Nat.lt_irrefl _)
 have cellK:∀x c,X.env.cells.lookup x=some c->∀v,s.heap.IsCell c v->h'.IsCell c v:=fun x c e v ⟨o,ho,hd⟩=>by
  have FQ:c ∉ ch:=fun z=>(hch c z).2.2.1 x c e rfl
  by_cases hc:c∈X.fs
  ·obtain⟨sl,q⟩:=slot c o (I.Fl x c e) hc FQ ho (I.CH x c e)
   exact⟨_,q,hd⟩
  ·exact⟨o,keep c o (I.Fl x c e) hc FQ ho (I.CH x c e),hd⟩
 refine⟨I.ok,I.os,hg,⟨fun b o e n hb hx=>?_,fun b o e n hb hx=>?_,fun b o e n hx=>?_,fun b o e hx=>?_,fun b xs e=>tups b xs (I.base.tups b xs e),fun b o xs e=>DA b o xs (I.base.DA b o xs e),fun b ps e=>?_⟩,?_,fun x c e=>?_,?_,fun x c e=>?_,fun p hp=>?_,hok,I.len⟩
 ·exact keep b o (HF b o e) hb (Gh b o e hx) (I.base.keep b o e n hb hx) (I.base.free b o e n hx)
 ·obtain⟨sl,e1⟩:=I.base.slot b o e n hb hx
  obtain⟨sl',e2⟩:=slot b _ (HF b o e) hb (Gh b o e hx) e1 (I.base.free b o e n hx)
  exact⟨sl',e2⟩
 ·obtain⟨o',e1⟩:=I.base.there b o e hx
  exact free b o' (Gh b o e hx) e1 (I.base.free b o e n hx)
 ·obtain⟨o',e1⟩:=I.base.there b o e hx
  exact there b o' (Gh b o e hx) e1
 ·obtain⟨m1,e1⟩:=I.base.DM b ps e
  obtain⟨m2,e2⟩:=DM b _ e1
  exact⟨m1++m2,by rw[e2,Array.append_assoc]⟩
 ·obtain⟨m,hn,hl⟩:=I.loc
  refine⟨m,ns m hn,fun i x v e1 e2 e3=>?_⟩
  obtain⟨u,r,l⟩:=hl i x v e1 e2 e3
  refine⟨u,r,?_⟩
  rcases l with l|⟨k,c,e,z⟩
  ·exact .inl l
  ·exact .inr ⟨k,c,e,cellK x c e _ z⟩
 ·obtain⟨v,z⟩:=I.cell x c e
  exact⟨v,cellK x c e v z⟩
 ·obtain⟨m,⟨o,_,_,ho,_⟩,_⟩:=I.loc
  exact free _ o (fun z=>(hch _ z).2.1 rfl) ho I.free
 ·obtain⟨v,o,ho,hd⟩:=I.cell x c e
  exact free c o (fun z=>(hch c z).2.2.1 x c e rfl) ho (I.CH x c e)
 ·obtain⟨e,n,ne,nf,d⟩:=I.pin p hp
  have FQ:p.1 ∉ ch:=fun z=>(hch p.1 z).2.2.2 p hp rfl
  exact⟨keep p.1 p.2 ne nf FQ e n,free p.1 p.2 FQ e n,ne,nf,d⟩
def Inv.un{t':Nat}(I:Inv X pins σ H s)(u:Un X.fs [] H H' s.heap h')(hok:CT X.prog X.w H' h'):Inv X pins σ H' { s with heap:=h',toks:=t' }:=by
 obtain⟨m,⟨o,es,ep,ho,r⟩,_⟩:=id I.loc
 obtain⟨sl,hL⟩:=u.any ho I.free (by simp)
 exact I.step (g':=s.gens) (d':=s.drawn) (ch:=[]) (fun _ z=>nomatch z) (fun b o _ hb _ e n=>u.keep b o e n hb (by simp)) (fun b o _ hb _ e n=>u.slot b o e n hb (by simp)) (fun b o _ e n=>u.free b o e n (by simp)) (fun b o _ e=>u.there b o e (by simp)) u.tups u.DA u.DM (fun m' hm=>by
  obtain⟨o',es',GI,ho',r'⟩:=hm
  rw[ho]at ho';cases ho'
  exact⟨_,es',GI,hL,r'⟩) hok I.bare
def Inv.call{g':Array GenState}{t':Nat}{d':Drawn}{ch:List Addr}(I:Inv X pins σ H s)(u:Un (frs X.stack) ch H H' s.heap h')(hok:CT X.prog X.w H' h')(hg:AllBare g')
  (hch:∀b∈ch,(b∈X.ex\/X.s₀.heap.objs.size<=b)/\b≠X.env.locals/\(∀x c,X.env.cells.lookup x=some c->c≠b)/\∀p∈X.pn++pins,p.1≠b) :
  Inv X pins σ H' { s with heap:=h',gens:=g',drawn:=d',toks:=t' }:=by
 obtain⟨m,⟨o,es,ep,ho,r⟩,_⟩:=id I.loc
 obtain⟨sl,hL⟩:=u.any ho I.free fun z=>(hch _ z).2.1 rfl
 exact I.step (ch:=ch) hch (fun b o hL hb hc e n=>u.keep b o e n (fun z=>(List.mem_cons.mp (I.C8 b z)).elim hL hb) hc) (fun b o _ _ hc e n=>u.any e n hc) (fun b o hc e n=>u.free b o e n hc) (fun b o hc e=>u.there b o e hc) u.tups u.DA u.DM (fun m' hm=>by
  obtain⟨o',es',GI,ho',r'⟩:=hm
  rw[ho]at ho';cases ho'
  exact⟨_,es',GI,hL,r'⟩) hok hg
def Inv.turned{t':Nat}{it:Addr}(I:Inv X pins σ H s)(k:∀b o,b≠it->s.heap.get? b=some o->h'.get? b=some o)(hn:H it=none)(hL:it≠X.env.locals)
  (h1:it∈X.ex\/X.s₀.heap.objs.size<=it) (h2:∀x c,X.env.cells.lookup x=some c->c≠it) (h3:∀p∈X.pn++pins,p.1≠it):Inv X pins σ H { s with heap:=h',toks:=t' }:=by
 have FR:∀b u,H b=some u->b≠it:=fun b u e z=>by rw[z,hn]at e;cases e
 refine I.step (g':=s.gens) (d':=s.drawn) (ch:=[it]) (fun b hb=>?_) (fun b o _ _ hc e _=>k b o (fun z=>hc (by simp[z])) e) (fun b o _ _ hc e _=>⟨o.slots,k b o (fun z=>hc (by simp[z])) e⟩) (fun _ _ _ _ n=>n)
  (fun b o hc e=>⟨o,k b o (fun z=>hc (by simp[z])) e⟩) (fun _ _ e=>e) (fun _ _ _ e=>e) (fun b ps e=>⟨#[],by rw[e];simp⟩) (fun m hm=>?_) (fun b u e=>?_) I.bare
 ·have e:b=it:=by simpa using hb
  subst e
  exact⟨h1,hL,h2,h3⟩
 ·obtain⟨o,es,ep,ho,r⟩:=hm
  exact⟨o,es,ep,k _ o (Ne.symm hL) ho,r⟩
 ·refine(I.hok b u e).stay (fun c v hc q=>k c v ?_ q) (fun _ q=>q) fun _ _ q=>q
  rcases hc with z|z
  ·rw[z];exact FR b u e
  ·exact FR c _ z
def Inv.tok(I:Inv X pins σ H s)(t:Nat):Inv X pins σ H { s with toks:=t }:=I.un (h':=s.heap) (t':=t) Un.refl I.hok
theorem Inv.kept{t':Nat}(I:Inv X pins σ H s)(k:∀b u,s.heap.get? b=some u->h'.get? b=some u):Inv X pins σ H { s with heap:=h',toks:=t' }:=I.un (Un.kept k) (I.hok.kept k)
theorem Inv.laid{a:Addr}{o:HO}{t':Nat}(I:Inv X pins σ H s)(k:∀b u,s.heap.get? b=some u->h'.get? b=some u)(hp:s.heap.objs.size<=a)(new:ObjOk X.prog X.w (upd H a o) h' a o) :
  Inv X pins σ (upd H a o) { s with heap:=h',toks:=t' }:=I.un (Un.laid k hp (I.hok.fresh hp)) (I.hok.laid k hp new)
theorem Inv.write{x e:Addr}{o:HO}{t':Nat}(I:Inv X pins σ H s)(mu:xT (H x))(he:e=x\/H e=some (.own x))(k:∀b u,b≠e->s.heap.get? b=some u->h'.get? b=some u)(FJ:∃u,h'.get? e=some u)
  (new:ObjOk X.prog X.w (upd H x o) h' x o):Inv X pins σ (upd H x o) { s with heap:=h',toks:=t' }:=I.un (Un.write mu he k FJ) (I.hok.write mu he k FJ new)
def Inv.weak{σ':List (Option V)}(I:Inv X pins σ H s)(hl:σ'.length=σ.length)(w:∀(i:Nat) v,σ'[i]?=some (some v)->σ[i]?=some (some v)):Inv X pins σ' H s:=
 ⟨I.ok,I.os,I.bare,I.base,let ⟨m,hn,hl'⟩:=I.loc;⟨m,hn,fun i x v e1 e2 e3=>hl' i x v e1 (w i v e2) e3⟩,I.cell,I.free,I.CH,I.pin,I.hok,hl.trans I.len⟩
def Inv.Dl{Ed:Va}(I:Inv X pins σ H s)(h:∀p∈Ed,s.heap.get? p.1=some p.2/\H p.1=none/\p.1≠X.env.locals/\p.1 ∉ X.fs/\∀v,p.2.data ≠ .cell v):Inv X Ed σ H s:=
 ⟨I.ok,I.os,I.bare,I.base,I.loc,I.cell,I.free,I.CH,fun p hp=>(List.mem_append.mp hp).elim (fun z=>I.pin p (List.mem_append_left _ z)) (h p),I.hok,I.len⟩
def lN{N:Vs}(hN:N.Nodup){i j:Nat}{x:Str}(a:N[i]?=some x)(b:N[j]?=some x):i=j:=by
 obtain⟨h1,e1⟩:=List.getElem?_eq_some_iff.mp a
 obtain⟨h2,e2⟩:=List.getElem?_eq_some_iff.mp b
 exact(List.getElem_inj hN).mp (e1.trans e2.symm)
def ki {M : Model} {A : Around} {E : Value -> Shared -> Prop} {i : Nat} {x : Str} {v : V} {u : Value} {Q : Unit -> Shared -> Prop} (I : Inv X pins σ H s) (hN : X.N.Nodup) (hi : X.N[i]? = some x) (hx : u6 X.env.scope x) (r : RelV v u)
  (h : ∀ s', Inv X pins (σ.set i (some v)) H s' -> (∃ a, Heap.SameBut a s.heap s'.heap /\ (a = X.env.locals \/ X.env.cells.lookup x = some a)) -> Q () s') (hf : X.fn x = true \/ X.env.scope.names.lookup x = some .local := by first | exact .inl rfl | exact .inr rfl | assumption) : wpAny M A (storeName X.env x u) Q E s := by
 obtain ⟨m, hn, hl⟩ := id I.loc
 have hcls : (X.env.scope.kind == .class || (X.env.scope.kind == .module && X.env.locals != X.env.globals)) = false := by rw [I.ok.kind]; rfl
 have HH : i < σ.length := by rw [I.len]; exact (List.getElem?_eq_some_iff.mp hi).1
 have Fl := I.Fl
 have tracked : ∀ {a : Addr} {h' : Heap}, (∃ o, s.heap.get? a = some o /\ H a = none) -> Heap.SameBut a s.heap h' -> CT X.prog X.w H h' := fun {a h'} ha hs b ob e => by
  obtain ⟨_, _, hfree⟩ := ha
  refine (I.hok b ob e).stay (fun c w' hc q => (hs.2 c ?_).trans q) (fun _ q => q) fun _ _ q => q
  rintro rfl
  rcases hc with rfl | hc
  ·rw [hfree] at e; cases e
  ·rw [hfree] at hc; cases hc
 rcases hx with hk | hk
 ·refine wpAny_storeName_local hk hn (fun h' hn' hs => ?_) hcls
  obtain ⟨oL, _, _, FS, _⟩ := id hn
  refine h _ ⟨I.ok, I.os, I.bare, ⟨fun b o e n hb hx => ?_, fun b o e n hb hx => ?_, I.base.free, fun b o e hx => ?_, I.base.tups, I.base.DA, I.base.DM⟩, ⟨_, hn', fun j y v' e1 e2 e3 => ?_⟩, fun y c e => ?_, I.free, I.CH, fun p hp => ?_, tracked ⟨oL, FS, I.free⟩ hs, by simpa using I.len⟩ ⟨_, hs, .inl rfl⟩
  ·exact (hs.2 b (Nat.ne_of_lt (Nat.lt_of_lt_of_le (Heap.lt_size e) I.ok.above))).trans (I.base.keep b o e n hb hx)
  ·obtain ⟨sl, e1⟩ := I.base.slot b o e n hb hx
   exact ⟨sl, (hs.2 b (Nat.ne_of_lt (Nat.lt_of_lt_of_le (Heap.lt_size e) I.ok.above))).trans e1⟩
  ·obtain ⟨o', e1⟩ := I.base.there b o e hx
   exact ⟨o', (hs.2 b (Nat.ne_of_lt (Nat.lt_of_lt_of_le (Heap.lt_size e) I.ok.above))).trans e1⟩
  ·by_cases hj : j = i
   ·subst hj
    rw [hi] at e1; cases e1
    rw [List.getElem?_set_self HH] at e2
    cases e2
    exact ⟨u, r, .inl ⟨hk, by simp⟩⟩
   ·rw [List.getElem?_set_ne (Ne.symm hj)] at e2
    obtain ⟨u', r', q⟩ := hl j y v' e1 e2 e3
    refine ⟨u', r', ?_⟩
    rcases q with ⟨k, e⟩ | ⟨k, c, e, z⟩
    ·refine .inl ⟨k, ?_⟩
     have : y ≠ x := fun e => hj (lN hN e1 (e ▸ hi))
     simp [this, e]
    ·exact .inr ⟨k, c, e, z.sameBut hs (Fl y c e)⟩
  ·obtain ⟨w', z⟩ := I.cell y c e
   exact ⟨w', z.sameBut hs (Fl y c e)⟩
  ·obtain ⟨e, n, ne, nf, d⟩ := I.pin p hp
   exact ⟨(hs.2 p.1 ne).trans e, n, ne, nf, d⟩
 ·have hfn : X.fn x = true := by
   rcases hf with z | z
   ·exact z
   ·rw [z] at hk; cases hk
  obtain ⟨c, hc⟩ := I.ok.has x (.inl hk)
  obtain ⟨w', z⟩ := I.cell x c hc
  refine wpAny_storeName_cell I.ok.kind hk hc z (fun h' hc' hs => ?_)
  obtain ⟨oc, hoc, GJ⟩ := id z
  refine h { s with heap := h' } ⟨I.ok, I.os, I.bare, ⟨fun b o e n hb hx => ?_, fun b o e n hb hx => ?_, I.base.free, fun b o e hx => ?_, I.base.tups, I.base.DA, I.base.DM⟩, ⟨m, hn.sameBut hs (Ne.symm (Fl x c hc)), fun j y v' e1 e2 e3 => ?_⟩, fun y c' e => ?_, I.free, I.CH, fun p hp => ?_, tracked ⟨oc, hoc, I.CH x c hc⟩ hs, by simpa using I.len⟩ ⟨c, hs, .inr hc⟩
  ·exact (hs.2 b (Nat.ne_of_lt (Nat.lt_of_lt_of_le (Heap.lt_size e) (I.ok.FK x c hfn hc)))).trans (I.base.keep b o e n hb hx)
  ·obtain ⟨sl, e1⟩ := I.base.slot b o e n hb hx
   exact ⟨sl, (hs.2 b (Nat.ne_of_lt (Nat.lt_of_lt_of_le (Heap.lt_size e) (I.ok.FK x c hfn hc)))).trans e1⟩
  ·obtain ⟨o', e1⟩ := I.base.there b o e hx
   exact ⟨o', (hs.2 b (Nat.ne_of_lt (Nat.lt_of_lt_of_le (Heap.lt_size e) (I.ok.FK x c hfn hc)))).trans e1⟩
  ·by_cases hj : j = i
   ·subst hj
    rw [hi] at e1; cases e1
    rw [List.getElem?_set_self HH] at e2
    cases e2
    exact ⟨u, r, .inr ⟨.inl hk, c, hc, hc'⟩⟩
   ·rw [List.getElem?_set_ne (Ne.symm hj)] at e2
    obtain ⟨u', r', q⟩ := hl j y v' e1 e2 e3
    refine ⟨u', r', ?_⟩
    rcases q with q | ⟨k, c', e, z'⟩
    ·exact .inl q
    ·refine .inr ⟨k, c', e, z'.sameBut hs ?_⟩
     rintro rfl
     exact hj (lN hN e1 (I.ok.inj _ _ _ e hc ▸ hi))
  ·by_cases hcc : c' = c
   ·subst hcc; exact ⟨_, hc'⟩
   ·obtain ⟨w2, z2⟩ := I.cell y c' e
    exact ⟨w2, z2.sameBut hs hcc⟩
  ·obtain ⟨e, n, ne, nf, d⟩ := I.pin p hp
   refine ⟨(hs.2 p.1 ?_).trans e, n, ne, nf, d⟩
   intro q
   rw [q, hoc] at e
   have q' : oc = p.2 := Option.some.inj e
   exact d w' (by rw [<- q']; exact GJ)
def cE{M:Model}{A:Around}{E:Vq}{i:Nat}{x:Str}{v:V}{u:Value}{Q:Unit->Shared->Prop}(I:Inv X pins σ H s)(hN:X.N.Nodup)(hi:X.N[i]?=some x)(hx:u6 X.env.scope x)(r:RelV v u)
  (h:∀s',Inv X pins (σ.set i (some v)) H s'->Q () s') (hf:X.fn x=true\/X.env.scope.names.lookup x=some .local:=by first|exact .inl rfl|exact .inr rfl|assumption):wpAny M A (storeName X.env x u) Q E s:=
 ki I hN hi hx r (fun s' I' _=>h s' I') hf
def Inv.FT{s':Shared}{ch:List Addr}(I:Inv X pins σ H s)(ho:s'.os=s.os)(u:Un (frs X.stack) ch H H' s.heap s'.heap)(hok:CT X.prog X.w H' s'.heap)(hg:AllBare s'.gens)
  (hch:∀b∈ch,(b∈X.ex\/X.s₀.heap.objs.size<=b)/\b≠X.env.locals/\(∀x c,X.env.cells.lookup x=some c->c≠b)/\∀p∈X.pn++pins,p.1≠b):Inv X pins σ H' s':=by
 obtain⟨h',g',d',t',o'⟩:=s'
 have e:o'=s.os:=ho
 subst e
 exact I.call (g':=g') (t':=t') (d':=d') u hok hg hch
end
abbrev XK:=Value->Option Addr->Hp->Prop
abbrev St:=List (Option V)
abbrev VK:=V->Hp->Prop
abbrev TE:=St->Hp->VK->Prop
abbrev TT:=St->Hp->(Bool->Hp->Prop)->Prop
abbrev TA:=St->Hp->(List V->Hp->Prop)->Prop
structure mM where
 nx:St->Hp->Prop
 rt:VK
 bk:St->Hp->Prop:=fun _ _=>False
 ct:St->Hp->Prop:=fun _ _=>False
abbrev TS:=mM->St->Hp->Prop
def EP(X:Cx)(pins:Va)(σ:St)(Q:VK)(u:Value)(s':Shared):Prop:=∃v H',Inv X pins σ H' s'/\RelV v u/\Q v H'
def TP(X:Cx)(pins:Va)(σ:St)(Q:Bool->Hp->Prop)(b:Bool)(s':Shared):Prop:=∃H',Inv X pins σ H' s'/\Q b H'
def AP(X:Cx)(pins:Va)(σ:St)(Q:List V->Hp->Prop)(us:Vv)(s':Shared):Prop:=∃vs H',Inv X pins σ H' s'/\Vals vs us/\Q vs H'
def SP(X:Cx)(pins:Va)(D:mM)(f:Flow)(s':Shared):Prop:=
 match f with
 | .next=>∃σ' H',Inv X pins σ' H' s'/\D.nx σ' H'
 | .brk=>∃σ' H',Inv X pins σ' H' s'/\D.bk σ' H'
 | .cont=>∃σ' H',Inv X pins σ' H' s'/\D.ct σ' H'
 | .ret u=>∃v σ' H',Inv X pins σ' H' s'/\RelV v u/\D.rt v H'
def PE(X:Cx)(e:Expr)(t:TE):Prop:=
 ∀(pins:Va) (s:Shared) (σ:St) (H:Hp) (Q:VK),Inv X pins σ H s->t σ H Q->wpAny (model X.prog X.w) X.A (eval e X.env) (EP X pins σ Q) X.xe s
def PT(X:Cx)(e:Expr)(t:TT):Prop:=
 ∀(pins:Va) (s:Shared) (σ:St) (H:Hp) (Q:Bool->Hp->Prop),Inv X pins σ H s->t σ H Q->wpAny (model X.prog X.w) X.A (isTrue e X.env (eval e X.env)) (TP X pins σ Q) X.xe s
def PW(X:Cx)(e:Expr)(t:TT):Prop:=
 ∀(whole:Sem Value) (pins:Va) (s:Shared) (σ:St) (H:Hp) (Q:Bool->Hp->Prop),Inv X pins σ H s->t σ H Q->wpAny (model X.prog X.w) X.A (isTrue e X.env whole) (TP X pins σ Q) X.xe s
def PW.pt{X:Cx}{e:Expr}{t:TT}(h:PW X e t):PT X e t:=h _
def PA(X:Cx)(es:List Expr)(t:TA):Prop:=
 ∀(pos:Pos) (pins:Va) (s:Shared) (σ:St) (H:Hp) (Q:List V->Hp->Prop),Inv X pins σ H s->t σ H Q->wpAny (model X.prog X.w) X.A (spliced (backTo pos (starEach es X.env))) (AP X pins σ Q) X.xe s
def PS(X:Cx)(st:Stmt)(t:TS):Prop:=
 ∀(pins:Va) (s:Shared) (σ:St) (H:Hp) (D:mM),Inv X pins σ H s->t D σ H->wpAny (model X.prog X.w) X.A (exec st X.env) (SP X pins D) X.xe s
def DN(X:Cx)(st:List Stmt)(t:TS):Prop:=
 ∀(pins:Va) (s:Shared) (σ:St) (H:Hp) (D:mM),Inv X pins σ H s->t D σ H->wpAny (model X.prog X.w) X.A (execs st X.env) (SP X pins D) X.xe s
def Bh{α:Type}{t:Sem α}{Q Q':α->Shared->Prop}{M:Model}{A:Around}{E:Vq}{s:Shared}(h:wpAny M A t Q E s)(hQ:∀a s,Q a s->Q' a s):wpAny M A t Q' E s:=wpAny_mono h hQ fun _ _ x=>x
section
variable {X:Cx}
def zM(i:Nat):TE:=fun σ H Q=>∃v,σ[i]?=some (some v)/\Q v H
def tC(v:V):TE:=fun _ H Q=>Q v H
def vI{i:Nat}{x:Str}{pos:Pos}(hN:X.N[i]?=some x)(hv:zy X.env.scope x)(hd:(x == ("__debug__":Str))=false:=by decide)(hcd:(x == ("__classdict__":Str))=false:=by decide):PE X (.Name x pos) (zM i):=by
 intro pins s σ H Q I h
 obtain⟨v,e,h⟩:=h
 obtain⟨m,hn,hl⟩:=I.loc
 obtain⟨u,r,l⟩:=hl i x v hN e hv
 have fin:EP X pins σ Q u s:=⟨v,H,I,r,h⟩
 rcases l with⟨hk,hm⟩|⟨hk,c,hc,hcell⟩
 ·exact wpAny_Name (wpAny_loadName_local I.ok.kind hk hn hm fin) hd
 ·rcases hk with hk|hk
  ·exact wpAny_Name (wpAny_loadName_cell I.ok.kind hk hc hcell fin) hd
  ·exact wpAny_Name (wpAny_loadName_free I.ok.kind hk hc hcell fin hcd) hd
def vJ{i j pos}:PE X (.Constant (.int i) j pos) (tC (.int i)):=fun _ _ _ H _ I h=>wpAny_Constant_int ⟨.int i,H,I.tok _,⟨_,rfl⟩,h⟩
def xU{b j pos}:PE X (.Constant (.bool b) j pos) (tC (.bl b)):=fun _ _ _ H _ I h=>Constant_bool ⟨.bl b,H,I,rfl,h⟩
def vK{j pos}:PE X (.Constant .none j pos) (tC .non):=fun _ _ _ H _ I h=>Constant_none ⟨.non,H,I,rfl,h⟩
def vL{x j pos}:PE X (.Constant (.str x) j pos) (tC (.str x)):=fun _ _ _ H _ I h=>Calls.Constant_str ⟨.str x,H,I.tok _,⟨_,rfl⟩,h⟩
def Gl(X:Cx)(x:Str):Prop:=X.env.kindOf x=some .globalImplicit
def nW{E:Vq}{pins:Va}{s:Shared}{σ:St}{H:Hp}{x:Str}{u:Value}{pos:Pos}{Q:Vq}(I:Inv X pins σ H s)(hg:Gl X x)(hm:X.mg x=some u)(h:Q u s)
  (hd:(x == ("__debug__":Str))=false:=by decide):wpAny (model X.prog X.w) X.A (eval (.Name x pos) X.env) Q E s:=
 Calls.Name_function_global I.ok.kind hg (Calls.loadGlobal_global (by rw[I.ok.glob];exact I.mod.glob.keeps I.bk) hm h) hd
def cF{E:Vq}{pins:Va}{s:Shared}{σ:St}{H:Hp}{x:Str}{u:Value}{pos:Pos}{Q:Vq}(I:Inv X pins σ H s)(hg:Gl X x)(hm:X.mg x=none)(hv:bootBuiltins x=some u)(h:Q u s)
  (hn:x ≠ "__name__":=by decide) (hd:(x == ("__debug__":Str))=false:=by decide):wpAny (model X.prog X.w) X.A (eval (.Name x pos) X.env) Q E s:=by
 obtain⟨mb,h1,h2⟩:=I.mod.blt
 exact Calls.Name_function_global I.ok.kind hg (Calls.loadGlobal_builtin (by rw[I.ok.glob];exact I.mod.glob.keeps I.bk) hm (by rw[I.ok.blt];exact h1.keeps I.bk) ((h2 x hn).trans hv) h) hd
def sW{x:Str}{v:V}{u:Value}{pos:Pos}(hg:Gl X x)(hm:X.mg x=none)(hv:bootBuiltins x=some u)(r:RelV v u)(hn:x ≠ "__name__":=by decide)(hd:(x == ("__debug__":Str))=false:=by decide):PE X (.Name x pos) (tC v):=
 fun _ _ _ H _ I h=>cF I hg hm hv ⟨v,H,I,r,h⟩ hn hd
variable {a b:Expr} {ta tb:TE} {pos:Pos}
def tB(t:TE):TT:=fun σ H Q=>t σ H fun x H1=>∃c,x = .bl c/\Q c H1
def vM{e:Expr}{t:TE}(h:PE X e t)(he:∀whole,isTrue e X.env whole=(do let v <-whole;standAt e.pos;holding [v] (truthy v)):=by intro _;rfl):PT X e (tB t):=by
 intro pins s σ H Q I hw
 refine isTrue_plain (Bh (h pins s σ H _ I hw) fun v s1 ⟨x,H1,I1,r1,q1⟩=>?_) (he _)
 obtain⟨d,rfl,q⟩:=q1
 cases r1
 exact wpAny_truthy_bool ⟨H1,I1,q⟩
variable {tA Gj:TT} {rest:List Expr}
def zN(t u:TT):TT:=fun σ H Q=>t σ H fun c H1=>if c=true then u σ H1 Q else Q false H1
def AK(t u:TT):TT:=fun σ H Q=>t σ H fun c H1=>if c=true then Q true H1 else u σ H1 Q
def zO(t:TT):TT:=fun σ H Q=>t σ H fun c H1=>Q (!c) H1
def sX(ha:PT X a tA):PW X (.BoolOp .And [a] pos) tA:=by
 intro wh pins s σ H Q I h
 refine isTrue_and (Bh (ha pins s σ H Q I h) fun c s1 e=>?_)
 cases c with
 |true=>exact isTrue_and_nil e
 |false=>exact e
def vN(ha:PT X a tA):PW X (.BoolOp .Or [a] pos) tA:=by
 intro wh pins s σ H Q I h
 refine isTrue_or (Bh (ha pins s σ H Q I h) fun c s1 e=>?_)
 cases c with
 |false=>exact isTrue_or_nil e
 |true=>exact e
def vO(ha:PT X a tA)(hb:PW X (.BoolOp .And (b::rest) pos) Gj):PW X (.BoolOp .And (a::b::rest) pos) (zN tA Gj):=by
 intro wh pins s σ H Q I h
 refine isTrue_and (Bh (ha pins s σ H _ I h) fun c s1 ⟨H1,I1,q1⟩=>?_)
 cases c with
 |true=>exact hb wh pins s1 σ H1 Q I1 q1
 |false=>exact⟨H1,I1,q1⟩
def xV(ha:PT X a tA)(hb:PW X (.BoolOp .Or (b::rest) pos) Gj):PW X (.BoolOp .Or (a::b::rest) pos) (AK tA Gj):=by
 intro wh pins s σ H Q I h
 refine isTrue_or (Bh (ha pins s σ H _ I h) fun c s1 ⟨H1,I1,q1⟩=>?_)
 cases c with
 |true=>exact⟨H1,I1,q1⟩
 |false=>exact hb wh pins s1 σ H1 Q I1 q1
def vP(ha:PT X a tA):PT X (.UnaryOp .Not a pos) (zO tA):=by
 intro pins s σ H Q I h
 exact isTrue_not (ha pins s σ H (fun c H1=>Q (!c) H1) I h)
def xW(ta tb:TE):TE:=fun σ H Q=>ta σ H fun x H1=>∃c,x = .bl c/\if c=true then tb σ H1 Q else Q (.bl false) H1
def xX(ta:TE):TE:=fun σ H Q=>ta σ H fun x H1=>∃c,x = .bl c/\Q (.bl (!c)) H1
def vQ{op}{t:TE}(h:PE X a t):PE X (.BoolOp op [a] pos) t:=fun pins s σ H Q I hw=>BoolOp_one (h pins s σ H Q I hw)
def vR(ha:PE X a ta)(hb:PE X (.BoolOp .And (b::rest) pos) tb):PE X (.BoolOp .And (a::b::rest) pos) (xW ta tb):=by
 intro pins s σ H Q I h
 refine BoolOp_and (Bh (ha pins s σ H _ I h) fun v s1 ⟨x,H1,I1,r1,q1⟩=>?_)
 obtain⟨c,rfl,q1⟩:=q1
 cases r1
 refine wpAny_truthy_bool ?_
 cases c with
 |true=>exact hb pins s1 σ H1 Q I1 q1
 |false=>exact⟨.bl false,H1,I1,rfl,q1⟩
def vS(ha:PE X a ta):PE X (.UnaryOp .Not a pos) (xX ta):=by
 intro pins s σ H Q I h
 refine UnaryOp_ (Bh (ha pins s σ H _ I h) fun v s1 ⟨x,H1,I1,r1,q1⟩=>?_)
 obtain⟨c,rfl,q1⟩:=q1
 cases r1
 exact not_of (wpAny_truthy_bool ⟨.bl (!c),H1,I1,rfl,q1⟩)
def AL(t:TT)(ta tb:TE):TE:=fun σ H Q=>t σ H fun c H1=>if c=true then ta σ H1 Q else tb σ H1 Q
def qq{c:Expr}(hc:PT X c tA)(ha:PE X a ta)(hb:PE X b tb):PE X (.IfExp c a b pos) (AL tA ta tb):=by
 intro pins s σ H Q I h
 refine wpAny_IfExp (Bh (hc pins s σ H _ I h) fun d s1 ⟨H1,I1,q1⟩=>?_)
 cases d with
 |true=>exact ha pins s1 σ H1 Q I1 q1
 |false=>exact hb pins s1 σ H1 Q I1 q1
end
def SqL(K:Vo)(H:Hp)(a:Addr)(xs:List V):Prop:=
 Rd H a (.lst xs) \/
  ∃(o:Obj) (its:Vw) (n:Nat),K.lookup a=some o/\o.cls = .type "list"/\o.dict=none/\o.data = .seq its n/\its.size<=sizeLine/\Vals xs its.toList
def Cj(K:Vo)(H:Hp)(a:Addr)(xs:List V):Prop:=
 Rd H a (.tup xs) \/
  ∃(o:Obj) (its:Vw) (n:Nat),K.lookup a=some o/\o.cls = .type "tuple"/\o.dict=none/\o.data = .seq its n/\its.size<=sizeLine/\Vals xs its.toList
noncomputable def zP:Value->Option V
 | .none=>some .non
 | .bool b=>some (.bl b)
 | .int i _=>some (.int i)
 | .str x _=>some (.str x)
 | .bytes b _=>some (.Ew b)
 | .float b _=>some (.GC b)
 | .ref a=>some (.ref a)
 | .type n=>some (.ty n)
 |_=>none
def RelV.abs{x:V}{u:Value}(r:RelV x u):zP u=some x:=by
 cases x with
 |non=>cases r;rfl
 |bl _=>cases r;rfl
 |int _=>obtain⟨t,rfl⟩:=r;rfl
 |str _=>obtain⟨t,rfl⟩:=r;rfl
 |Ew _=>obtain⟨t,rfl⟩:=r;rfl
 |GC _=>obtain⟨t,rfl⟩:=r;rfl
 |ref _=>cases r;rfl
 |ty _=>cases r;rfl
theorem RelV.inj{x y:V}{u:Value}(r:RelV x u)(q:RelV y u):x=y:=Option.some.inj (r.abs.symm.trans q.abs)
theorem Vals.inj:∀{xs ys:List V} {us:Vv},Vals xs us->Vals ys us->xs=ys
 |_,_,_,.nil,.nil=>rfl
 |_,_,_,.cons r t,.cons r' t'=>by rw[r.inj r',Vals.inj t t']
section
variable {X:Cx} {pins:Va} {σ:St} {H:Hp} {s:Shared} {a:Addr} {xs ys:List V}
def SqL.of{K:Vo}(h:H a=some (.lst xs)):SqL K H a xs:=.inl (.inl h)
def Cj.of{K:Vo}(h:H a=some (.tup xs)):Cj K H a xs:=.inl (.inl h)
def Inv.list(I:Inv X pins σ H s)(h:SqL X.K H a xs):∃its:List Value,Vals xs its/\PlainL s.heap a its.toArray/\xs.length<=sizeLine:=by
 rcases h with h|⟨o,its,n,hk,hc,hd,hs,hz,r⟩
 ·obtain⟨z,its,n,r,e⟩:=h.ok I.hok
  exact⟨its,r,⟨_,n,e,rfl,rfl,rfl⟩,z⟩
 ·refine⟨its.toList,r,⟨o,n,I.Ey a o hk,hc,hd,by simpa using hs⟩,?_⟩
  have e:=r.length
  simp only[Array.length_toList]at e
  omega
def Inv.tuple(I:Inv X pins σ H s)(h:Cj X.K H a xs):∃its:List Value,Vals xs its/\IsTup s.heap a its.toArray/\xs.length<=sizeLine:=by
 rcases h with h|⟨o,its,n,hk,hc,_,hs,hz,r⟩
 ·obtain⟨z,its,r,p⟩:=h.ok I.hok
  exact⟨its,r,p.tup,z⟩
 ·refine⟨its.toList,r,⟨o,I.Ey a o hk,hc,n,by simpa using hs⟩,?_⟩
  have e:=r.length
  simp only[Array.length_toList]at e
  omega
def Inv.DO(I:Inv X pins σ H s)(h:SqL X.K H a xs)(h':SqL X.K H a ys):xs=ys:=by
 obtain⟨its,r,⟨o,n,e,_,_,d⟩,_⟩:=I.list h
 obtain⟨its',r',⟨o',n',e',_,_,d'⟩,_⟩:=I.list h'
 rw[e]at e';cases e'
 rw[d]at d'
 injection d' with d1 _
 have:its=its':=by simpa using congrArg Array.toList d1
 subst this
 exact r.inj r'
def Inv.Dz(I:Inv X pins σ H s)(h:Cj X.K H a xs)(h':Cj X.K H a ys):xs=ys:=by
 obtain⟨its,r,⟨o,e,_,n,d⟩,_⟩:=I.tuple h
 obtain⟨its',r',⟨o',e',_,n',d'⟩,_⟩:=I.tuple h'
 rw[e]at e';cases e'
 rw[d]at d'
 injection d' with d1 _
 have:its=its':=by simpa using congrArg Array.toList d1
 subst this
 exact r.inj r'
end
noncomputable abbrev Cx.wish(X:Cx)(E:Vq):Cx:={ X with xe:=E }
noncomputable abbrev Cx.Fm(X:Cx):Cx:=X.wish fun _ _=>False
theorem Cx.Ok.wish{X:Cx}(ok:X.Ok)(E:Vq):(X.wish E).Ok:=
 ⟨ok.mod,ok.kind,ok.glob,ok.blt,ok.above,ok.inj,ok.has,ok.FK,ok.hd,ok.frames,ok.stk,ok.GG,ok.bs,ok.ES,ok.Ej,ok.Ex,ok.Dh,ok.Fk⟩
def Cx.Ok.CK{X:Cx}{E:Vq}(ok:(X.wish E).Ok):X.Ok:=
 ⟨ok.mod,ok.kind,ok.glob,ok.blt,ok.above,ok.inj,ok.has,ok.FK,ok.hd,ok.frames,ok.stk,ok.GG,ok.bs,ok.ES,ok.Ej,ok.Ex,ok.Dh,ok.Fk⟩
section
variable {X:Cx} {pins:Va} {σ:St} {H:Hp} {s:Shared} {E:Vq}
theorem Inv.wish(I:Inv X pins σ H s)(E:Vq):Inv (X.wish E) pins σ H s:=⟨I.ok.wish E,I.os,I.bare,I.base,I.loc,I.cell,I.free,I.CH,I.pin,I.hok,I.len⟩
theorem Inv.CK(I:Inv (X.wish E) pins σ H s):Inv X pins σ H s:=⟨I.ok.CK,I.os,I.bare,I.base,I.loc,I.cell,I.free,I.CH,I.pin,I.hok,I.len⟩
theorem SP.CK{D:mM}{f:Flow}{s':Shared}(h:SP (X.wish E) pins D f s'):SP X pins D f s':=by
 cases f with
 |next=>obtain⟨σ',H',I,q⟩:=h;exact⟨σ',H',I.CK,q⟩
 |brk=>obtain⟨σ',H',I,q⟩:=h;exact⟨σ',H',I.CK,q⟩
 |cont=>obtain⟨σ',H',I,q⟩:=h;exact⟨σ',H',I.CK,q⟩
 |ret u=>obtain⟨v,σ',H',I,r,q⟩:=h;exact⟨v,σ',H',I.CK,r,q⟩
theorem DN.Fm{st:List Stmt}{t:TS}(h:DN X.Fm st t):DN X st t:=fun pins s σ H D I hw=>
 wpAny_mono (h pins s σ H D (I.wish _) hw) (fun _ _ q=>q.CK) fun _ _ z=>False.elim z
end
section
variable {X:Cx} {st:Stmt} {rest:List Stmt} {t u:TS} {e:Expr} {te:TE} {pos:Pos}
def xY:TS:=fun D σ H=>D.nx σ H
def zQ(t u:TS):TS:=fun D σ H=>t { D with nx:=u D } σ H
def sY:DN X [] xY:=fun _ _ σ H _ I h=>wpAny_execs_nil ⟨σ,H,I,h⟩
def qr(h1:PS X st t)(h2:DN X rest u):DN X (st::rest) (zQ t u):=by
 intro pins s σ H D I h
 refine wpAny_execs_cons (Bh (h1 pins s σ H { D with nx:=u D } I h) fun f s1 q=>?_)
 cases f with
 |next=>
  obtain⟨σ',H',I',q⟩:=q
  exact h2 pins s1 σ' H' D I' q
 |ret v=>exact q
 |brk=>exact q
 |cont=>exact q
def sZ(h1:PS X st t):DN X [st] t:=by
 intro pins s σ H D I h
 refine wpAny_execs_cons (Bh (h1 pins s σ H D I h) fun f s1 q=>?_)
 cases f with
 |next=>exact wpAny_execs_nil q
 |ret v=>exact q
 |brk=>exact q
 |cont=>exact q
def Inv.quiet{pins:Va}{σ:St}{H:Hp}{s:Shared}(I:Inv X pins σ H s):interactive X.env=false:=by simp[interactive,I.ok.kind]
def xZ(te:TE):TS:=fun D σ H=>te σ H fun _ H1=>D.nx σ H1
def s9(he:PE X e te)(hs:swapsWith e none pos.line X.env=pure false:=by rfl):PS X (.Expr e pos) (xZ te):=by
 intro pins s σ H D I h
 exact wpAny_Expr_any (Bh (he pins s σ H _ I h) fun v s1 ⟨x,H1,I1,r1,q1⟩=>⟨σ,H1,I1,q1⟩) I.quiet hs
def zR(te:TE):TS:=fun D σ H=>te σ H D.rt
def vT(he:PE X e te):PS X (.Return (some e) pos) (zR te):=by
 intro pins s σ H D I h
 exact wpAny_Return_some (Bh (he pins s σ H _ I h) fun v s1 ⟨x,H1,I1,r1,q1⟩=>⟨x,σ,H1,I1,r1,q1⟩)
def zS(c:TT)(t u:TS):TS:=fun D σ H=>c σ H fun b H1=>if b=true then t D σ H1 else u D σ H1
def x_{c:Expr}{a b:List Stmt}{tc:TT}(hc:PT X c tc)(ha:DN X a t)(hb:DN X b u):PS X (.If c a b pos) (zS tc t u):=by
 intro pins s σ H D I h
 refine wpAny_If (Bh (hc pins s σ H _ I h) fun d s1 ⟨H1,I1,q1⟩=>?_)
 cases d with
 |true=>exact ha pins s1 σ H1 D I1 q1
 |false=>exact hb pins s1 σ H1 D I1 q1
end
abbrev TG:=V->St->Hp->(St->Hp->Prop)->Prop
abbrev u7:=List V->St->Hp->(St->Hp->Prop)->Prop
def PG(X:Cx)(target:Expr)(t:TG):Prop:=
 ∀(pins:Va) (s:Shared) (σ:St) (H:Hp) (v:V) (u:Value) (Q:St->Hp->Prop),Inv X pins σ H s->RelV v u->t v σ H Q->
  wpAny (model X.prog X.w) X.A (assign target X.env u) (fun _ s'=>∃σ' H',Inv X pins σ' H' s'/\Q σ' H') X.xe s
def ya(X:Cx)(ts:List Expr)(t:u7):Prop:=
 ∀(pins:Va) (s:Shared) (σ:St) (H:Hp) (vs:List V) (us:Vv) (Q:St->Hp->Prop),Inv X pins σ H s->Vals vs us->t vs σ H Q->
  wpAny (model X.prog X.w) X.A (assignInOrder ((assignEach ts X.env).map (·.2)) us) (fun _ s'=>∃σ' H',Inv X pins σ' H' s'/\Q σ' H') X.xe s
abbrev vU:=V->V->V->Hp->(Hp->Prop)->Prop
def s_(X:Cx)(t:vU):Prop:=
 ∀(pins:Va) (s:Shared) (σ:St) (H:Hp) (o i v:V) (ov iv u:Value) (Q:Hp->Prop),Inv X pins σ H s->RelV o ov->RelV i iv->RelV v u->t o i v H Q->
  wpAny (model X.prog X.w) X.A (setItem ov iv u) (fun _ s'=>∃H',Inv X pins σ H' s'/\Q H') X.xe s
section
variable {X:Cx} {pos:Pos}
def lO(i:Nat):TG:=fun v σ H Q=>Q (σ.set i (some v)) H
def tj{i:Nat}{x:Str}(hN:X.N.Nodup)(hi:X.N[i]?=some x)(hx:u6 X.env.scope x)(hf:X.fn x=true\/X.env.scope.names.lookup x=some .local:=by first|exact .inl rfl|exact .inr rfl|assumption):PG X (.Name x pos) (lO i):=by
 intro pins s σ H v u Q I r h
 exact wpAny_assign_Name (cE I hN hi hx r (fun s' I'=>⟨_,H,I',h⟩) hf)
noncomputable def yb:u7:=fun vs σ H Q=>vs=[]/\Q σ H
noncomputable def u8(t:TG)(u:u7):u7:=fun vs σ H Q=>∃v r,vs=v::r/\t v σ H fun σ' H'=>u r σ' H' Q
def tm:ya X [] yb:=by
 intro pins s σ H vs us Q I r h
 obtain⟨e,h⟩:=h
 subst e
 cases r
 exact assignInOrder_nil ⟨σ,H,I,h⟩
def qu{e:Expr}{es:List Expr}{t:TG}{u:u7}(h1:PG X e t)(h2:ya X es u)
  (hs:(assignEach (e::es) X.env).map (·.2)=assign e X.env::(assignEach es X.env).map (·.2):=by rfl):ya X (e::es) (u8 t u):=by
 intro pins s σ H vs us Q I r h
 obtain⟨v,vr,e1,h⟩:=h
 subst e1
 cases r with
 |cons r rr=>
  rw[hs]
  refine assignInOrder_cons (Bh (h1 pins s σ H _ _ _ I r h) fun _ s1 ⟨σ1,H1,I1,q1⟩=>?_)
  exact h2 pins s1 σ1 H1 _ _ Q I1 rr q1
def yc(K:Vo)(n:Nat)(t:u7):TG:=fun v σ H Q=>∃a xs,v = .ref a/\Cj K H a xs/\xs.length=n/\t xs σ H Q
def vV{es:List Expr}{k:Nat}{t:u7}{n:Nat}(hc:X.calm=true)(h:ya X es t)
  (hn:(assignEach es X.env).length=n:=by rfl) (hst:(assignEach es X.env).findIdx? (·.1)=none:=by rfl):PG X (.Tuple es k pos) (yc X.K n t):=by
 intro pins s σ H v u Q I r hw
 obtain⟨a,xs,e1,hq,hl,hw⟩:=hw
 subst e1
 cases r
 obtain⟨its,rv,ht,hz⟩:=I.tuple hq
 refine assign_Tuple_tuple (I.ok.hd hc) ht (by simp[hn,<-hl,rv.length]) hst fun h' hx=>?_
 have I1:Inv X pins σ H { s with heap:=h' }:=I.kept (t':=s.toks) fun b o e=>hx b o (Nat.ne_of_lt (Heap.lt_size e)) e
 exact h pins _ σ H xs _ Q I1 (by simpa using rv) hw
def zT(to ti:TE)(t:vU):TG:=fun v σ H Q=>to σ H fun o H1=>ti σ H1 fun i H2=>t o i v H2 fun H3=>Q σ H3
def vW{o i:Expr}{to ti:TE}{t:vU}(ho:PE X o to)(hi:PE X i ti)(hs:s_ X t)
  (ha:∀v,assign (.Subscript o i pos) X.env v=(do
   let ov <-holding [v] (eval o X.env)
   let iv <-holding [v,ov] (eval i X.env)
   standAt pos
   holding [v,ov,iv] (setItem ov iv v)
   release [v,ov,iv] []):=by intro _;rfl):PG X (.Subscript o i pos) (zT to ti t):=by
 intro pins s σ H v u Q I r h
 rw[ha]
 refine wpAny_bind (wpAny_holding (Bh (ho pins s σ H _ I h) fun ov s1 ⟨x,H1,I1,r1,q1⟩=>?_))
 refine wpAny_bind (wpAny_holding (Bh (hi pins s1 σ H1 _ I1 q1) fun iv s2 ⟨y,H2,I2,r2,q2⟩=>?_))
 refine wpAny_bind (wpAny_standAt (wpAny_bind (wpAny_holding (Bh (hs pins s2 σ H2 x y v ov iv u _ I2 r1 r2 r q2) fun _ s3 ⟨H3,I3,q3⟩=>?_))))
 exact wpAny_release ⟨σ,H3,I3,q3⟩
def tq(te:TE)(g:TG):TS:=fun D σ H=>te σ H fun x H1=>g x σ H1 D.nx
def qv{tg e:Expr}{te:TE}{g:TG}(he:PE X e te)(hg:PG X tg g)(hs:swapsWithSole [tg] e pos.line X.env=pure false:=by rfl)(hw:swappedStores [tg] e X.env=pure none:=by rfl)
  (h1:(assignEach [tg] X.env).map (·.2)=[assign tg X.env]:=by rfl):PS X (.Assign [tg] e pos) (tq te g):=by
 intro pins s σ H D I h
 refine wpAny_Assign_stores (Bh (he pins s σ H _ I h) fun v s1 ⟨x,H1,I1,r1,q1⟩=>?_) hs hw
 rw[h1]
 exact Bh (hg pins s1 σ H1 x v _ I1 r1 q1) fun _ s2 q=>q
def vX{i:Nat}{x:Str}{e:Expr}{te:TE}{pos':Pos}(hN:X.N.Nodup)(hi:X.N[i]?=some x)(hx:u6 X.env.scope x)(he:PE X e te)(hs:swapsWith e (some (.Name x pos')) pos.line X.env=pure false:=by rfl)(hf:X.fn x=true\/X.env.scope.names.lookup x=some .local:=by first|exact .inl rfl|exact .inr rfl|assumption) :
  PS X (.Assign [.Name x pos'] e pos) (tq te (lO i)):=by
 intro pins s σ H D I h
 refine wpAny_Assign_Name (Bh (he pins s σ H _ I h) fun v s1 ⟨y,H1,I1,r1,q1⟩=>?_) hs
 exact cE I1 hN hi hx r1 (fun s2 I2=>⟨_,H1,I2,q1⟩) hf
def zU(i j:Nat)(ta:TA):TS:=fun D σ H=>ta σ H fun vs H1=>∃v w,vs=[v,w]/\D.nx ((σ.set i (some v)).set j (some w)) H1
def vY{i j:Nat}{x y:Str}{a b:Expr}{ta:TA}{px py pt:Pos}{kt k2 Fn}(hc:X.calm=true)(hN:X.N.Nodup)(hi:X.N[i]?=some x)(hj:X.N[j]?=some y)(hij:i≠j)
  (hx:X.env.scope.names.lookup x=some .local) (hy:X.env.scope.names.lookup y=some .local) (ha:PA X [a,b] ta)
  (hw:swappedStores [.Tuple [.Name x px,.Name y py] kt pt] (.Tuple [a,b] k2 Fn) X.env=pure (some [x,y]))
  (hs:swapsWithSole [.Tuple [.Name x px,.Name y py] kt pt] (.Tuple [a,b] k2 Fn) pos.line X.env=pure false:=by rfl) :
  PS X (.Assign [.Tuple [.Name x px,.Name y py] kt pt] (.Tuple [a,b] k2 Fn) pos) (zU i j ta):=by
 intro pins s σ H D I h
 rw[exec_Assign_arm]
 refine wpAny_bind (wpAny_standAt ?_)
 rw[hs]
 refine wpAny_bind (wpAny_pure ?_)
 rw[if_neg (by decide)]
 refine wpAny_bind (Tuple_ (Bh (ha _ pins s σ H _ I h) fun us s1 ⟨vs,H1,I1,r1,q1⟩=>?_))
 obtain⟨v,w,e1,q1⟩:=q1
 subst e1
 obtain⟨u1,u2,rfl,rv,rw'⟩:∃u1 u2,us=[u1,u2]/\RelV v u1/\RelV w u2:=by
  cases r1 with
  |cons p q=>
   cases q with
   |cons p' q'=>
    cases q'
    exact⟨_,_,rfl,p,p'⟩
 refine wpAny_newObj_type ?_ (by show 2<=sizeLine;decide)
 have I2:Inv X pins σ H1 { s1 with heap:=s1.heap.push { cls:=.type "tuple",data:=.seq [u1,u2].toArray } }:=I1.kept (t':=s1.toks) fun b o e=>Heap.get?_push_of_some _ e
 rw[hw]
 refine wpAny_bind (wpAny_pure ?_)
 show wpAny (model X.prog X.w) X.A (do rule "assign.swapped-stores"; let items <-unpackItems (.ref s1.heap.objs.size) 2 none;assignInOrder [fun v=>bindName X.env y v,fun v=>bindName X.env x v] items.reverse;pure Flow.next) _ _ _
 refine wpAny_bind (wpAny_rule (wpAny_bind (unpackItems_tuple (items:=#[u1,u2]) (I.ok.hd hc) (IsTup.new s1.heap _) fun h' hx'=>?_)))
 have I3:=I2.kept (h':=h') (t':=s1.toks) fun b o e=>hx' b o (Nat.ne_of_lt (Heap.lt_size e)) e
 show wpAny _ _ (assignInOrder [fun v=>bindName X.env y v,fun v=>bindName X.env x v] [u2,u1] >>= fun _=>pure Flow.next) _ _ _
 refine wpAny_bind (assignInOrder_cons (wpAny_bindName (cE I3 hN hj (.inl hy) rw' (fun s2 I4=>?_) (.inr hy))))
 refine assignInOrder_cons (wpAny_bindName (cE I4 hN hi (.inl hx) rv (fun s3 I5=>assignInOrder_nil (wpAny_pure ?_)) (.inr hx)))
 rw[List.set_comm _ _ (Ne.symm hij)]at I5
 exact⟨_,H1,I5,q1⟩
end
section
variable {X:Cx} {pos:Pos}
def vZ(c:TT)(tb:TS):TS:=fun D σ H=>∃W:Nat->St->Hp->Prop,(∃m,W m σ H)/\∀m σ H,W m σ H->
 c σ H fun b H1=>if b=true then ∃N:St->Hp->Prop,(∀σ' H',N σ' H'->∃m',m' < m/\W m' σ' H')/\tb { D with nx:=N,ct:=N,bk:=D.nx } σ H1 else D.nx σ H1
def qw{c:Expr}{body:List Stmt}{tc:TT}{tb:TS}(hp:PassesOwn (model X.prog X.w) X.A X.env X.xe)(hc:PT X c tc)(hb:DN X body tb):PS X (.While c body [] pos) (vZ tc tb):=by
 intro pins s σ H D I h
 obtain⟨W,⟨m0,w0⟩,turn⟩:=h
 refine wpAny_While (codeAny_whileLoop (fun n s'=>∃σ' H',Inv X pins σ' H' s'/\W n σ' H') ?_ m0 ⟨σ,H,I,w0⟩)
 rintro n s1 ⟨σ1,H1,I1,w1⟩
 refine wpAny_passesOwn hp (Bh (hc pins s1 σ1 H1 _ I1 (turn n σ1 H1 w1)) fun b s2 ⟨H2,I2,q2⟩=>?_)
 cases b with
 |true=>
  obtain⟨N,hN,q2⟩:=q2
  rw[if_pos rfl]
  refine wpAny_passesOwn hp (Bh (hb pins s2 σ1 H2 _ I2 q2) fun f s3 q3=>?_)
  cases f with
  |next=>
   obtain⟨σ3,H3,I3,n3⟩:=q3
   obtain⟨m',hm,w3⟩:=hN σ3 H3 n3
   exact⟨m',hm,σ3,H3,I3,w3⟩
  |cont=>
   obtain⟨σ3,H3,I3,n3⟩:=q3
   obtain⟨m',hm,w3⟩:=hN σ3 H3 n3
   exact⟨m',hm,σ3,H3,I3,w3⟩
  |brk=>exact q3
  |ret v=>exact q3
 |false=>
  rw[if_neg Bool.false_ne_true]
  exact wpAny_execs_nil ⟨σ1,H2,I2,q2⟩
end
structure It where
 go:Nat->Hp->Prop
 Gk:Nat->Hp->V->Hp->Prop
 stop:Nat->Hp->Prop
def dI(X:Cx)(pins:Va)(H:Hp)(b:Addr):Prop:=
 H b=none/\b≠X.env.locals/\b ∉ X.fs/\(b∈X.ex\/X.s₀.heap.objs.size<=b)/\(∀x c,X.env.cells.lookup x=some c->c≠b)/\∀p∈X.pn++pins,p.1≠b
def Inv.Di{X:Cx}{pins:Va}{σ:St}{H H':Hp}{s:Shared}{b:Addr}(I:Inv X pins σ H s)(hb:s.heap.objs.size<=b)(hn:H' b=none):dI X pins H' b:=by
 refine⟨hn,Nat.ne_of_gt (Nat.lt_of_lt_of_le I.lt hb),I.FP hb,.inr (Nat.le_trans I.sz hb),fun x c e z=>?_,fun p hp z=>?_⟩
 ·obtain⟨v,q⟩:=I.cell x c e
  exact absurd (Nat.lt_of_lt_of_le q.lt (by rw[z];exact hb)) (Nat.lt_irrefl _)
 ·exact absurd (Nat.lt_of_lt_of_le (Heap.lt_size (I.pin p hp).1) (by rw[z];exact hb)) (Nat.lt_irrefl _)
structure lP (P:Program) (w:World) (K:Vo) (tg:Expr) (J:It) (fp:List Addr) (it:Addr) (tn:Nat->Heap->Prop):Prop where
 mem:it∈fp
 obj:∀i h,tn i h->∀b∈fp,∃o,h.get? b=some o/\∀v,o.data ≠ .cell v
 keep:∀i h h',tn i h->(∀b∈fp,∀o,h.get? b=some o->h'.get? b=some o)->tn i h'
 item:∀(X:Cx),X.prog=P->X.w=w->X.K=K->X.calm=true->∀(i:Nat) (pins:Va) (s:Shared) (σ:St) (H:Hp) (E:Vq),Inv X pins σ H s->(∀b∈fp,dI X pins H b)->tn i s.heap->J.go i H->
  wpAny (model P w) X.A (pyNext (.ref it)) (fun r s1=>∃u,r=some u/\
   wpAny (model P w) X.A (letOwnedTupleGo tg (.ref it) u) (fun _ s2=>∃x H',Inv X pins σ H' s2/\RelV x u/\J.Gk i H x H'/\tn (i+1) s2.heap/\∀b∈fp,H' b=none) E s1) E s
 done:∀(X:Cx),X.prog=P->X.w=w->X.K=K->X.calm=true->∀(i:Nat) (pins:Va) (s:Shared) (σ:St) (H:Hp) (E:Vq),Inv X pins σ H s->(∀b∈fp,dI X pins H b)->tn i s.heap->J.stop i H->
  wpAny (model P w) X.A (pyNext (.ref it)) (fun r s1=>r=none/\Inv X pins σ H s1) E s
 self:∀(A:Around) (i:Nat) (s:Shared) (Q:Vq) (E:Vq),tn i s.heap->Q (.ref it) s->wpAny (model P w) A (pyIter (.ref it)) Q E s
abbrev TI:=St->Hp->(It->Hp->Prop)->Prop
def zV(X:Cx)(pins:Va)(σ:St)(tg:Expr)(R:It->Hp->Prop)(itv:Value)(s2:Shared):Prop:=
 ∃(it:Addr) (fp:List Addr) (tn:Nat->Heap->Prop) (J:It) (H':Hp),itv = .ref it/\Inv X pins σ H' s2/\lP X.prog X.w X.K tg J fp it tn/\tn 0 s2.heap/\(∀b∈fp,dI X pins H' b)/\R J H'
def PI(X:Cx)(tg iter:Expr)(wi:TI):Prop:=
 ∀(pins:Va) (s:Shared) (σ:St) (H:Hp) (R:It->Hp->Prop),Inv X pins σ H s->wi σ H R->
  wpAny (model X.prog X.w) X.A (eval iter X.env) (fun v s1=>wpAny (model X.prog X.w) X.A (pyIter v) (zV X pins σ tg R) X.xe s1) X.xe s
def iG {M : Model} {A : Around} {E : Value -> Shared -> Prop} {s : Shared} {tg : Expr} {it : Addr} {u : Value} {o : Obj} {n : String} {vs : Array Value} {Q : Unit -> Shared -> Prop} (ho : s.heap.get? it = some o) (hc : o.cls = .type n) (hd : o.data = .fields vs)
    (hn : ["enumerate", "zip", "dict_itemiterator", "dict_reverseitemiterator", "odict_iterator", "itertools.zip_longest", "itertools.pairwise"].contains n = false) (hQ : Q () s) : wpAny M A (letOwnedTupleGo tg (.ref it) u) Q E s := by
  unfold letOwnedTupleGo
  cases tg <;> first
    | exact wpAny_pure hQ
    | (cases u <;> first
        | exact wpAny_pure hQ
        | (refine wpAny_bind (wpAny_load ho ?_)
           rw [hc, hd]
           show wpAny M A (if (["enumerate", "zip", "dict_itemiterator", "dict_reverseitemiterator", "odict_iterator", "itertools.zip_longest", "itertools.pairwise"].contains n && vs[0]? == some (rawInt _)) = true then _ else _) Q E s
           rw [if_neg (by intro h; rw [hn, Bool.false_and] at h; cases h)]
           exact wpAny_pure hQ))
noncomputable def zz(K:Vo)(a:Addr):It:=
 ⟨fun i H=>∃xs x,SqL K H a xs/\xs[i]?=some x,fun i H x H'=>H'=H/\∀xs,SqL K H a xs->xs[i]?=some x,fun i H=>∃xs,SqL K H a xs/\xs.length<=i⟩
noncomputable def zW(K:Vo)(a:Addr):It:=
 ⟨fun i H=>∃xs x,Cj K H a xs/\xs[i]?=some x,fun i H x H'=>H'=H/\∀xs,Cj K H a xs->xs[i]?=some x,fun i H=>∃xs,Cj K H a xs/\xs.length<=i⟩
noncomputable def zA(lo:Int)(n:Nat):It:=⟨fun i _=>i < n,fun i H x H'=>H'=H/\x = .int (lo+i),fun i _=>n<=i⟩
def oU{P:Program}{w:World}{K:Vo}{tg:Expr}(a it:Addr):lP P w K tg (zz K a) [it] it (fun i h=>h.IsListIter it a i) where
 mem:=by simp
 obj:=fun i h st b hb=>by
  have e:b=it:=by simpa using hb
  subst e
  obtain⟨o,e,c,d⟩:=st
  exact⟨o,e,fun v z=>by rw[d]at z;cases z⟩
 keep:=fun i h h' st k=>st.at fun o e=>k it (by simp) o e
 item:=by
  intro X hP hw hK hc i pins s σ H E I hf st hg
  subst hP hw hK
  obtain⟨xs,x,hq,hx⟩:=hg
  obtain⟨its,rv,p,hz⟩:=I.list hq
  obtain⟨u,hu,ru⟩:=rv.get hx
  obtain⟨f0,f1,f2,f3,f4,f5⟩:=hf it (by simp)
  refine wpAny_pyNext_list_item st p.isList (x:=u) (by simpa using hu) fun h' st' sb=>?_
  have I1:Inv X pins σ H { s with heap:=h' }:=I.turned (t':=s.toks) (fun b o hb e=>(sb.2 b hb).trans e) f0 f1 f3 f4 f5
  obtain⟨o,e,c,d⟩:=id st'
  exact⟨u,rfl,iG (s:={ s with heap:=h' }) e c d (by decide) ⟨x,H,I1,ru,⟨rfl,fun ys hy=>by rw[I.DO hy hq];exact hx⟩,st',fun b hb=>(hf b hb).1⟩⟩
 done:=by
  intro X hP hw hK hc i pins s σ H E I hf st hg
  subst hP hw hK
  obtain⟨xs,hq,hx⟩:=hg
  obtain⟨its,rv,p,hz⟩:=I.list hq
  obtain⟨f0,f1,f2,f3,f4,f5⟩:=hf it (by simp)
  have hl:=rv.length
  exact wpAny_pyNext_list_end (I.ok.hd hc) st p.isList (by simp;omega) fun h' eb=>⟨rfl,I.turned (t':=s.toks) (fun b o hb e=>eb b o hb e) f0 f1 f3 f4 f5⟩
 self:=fun _ _ _ _ _ st h=>wpAny_pyIter_listiter st h
def mN{P:Program}{w:World}{K:Vo}{tg:Expr}(a it:Addr):lP P w K tg (zW K a) [it] it (fun i h=>h.IsTupleIter it a i) where
 mem:=by simp
 obj:=fun i h st b hb=>by
  have e:b=it:=by simpa using hb
  subst e
  obtain⟨o,e,c,d⟩:=st
  exact⟨o,e,fun v z=>by rw[d]at z;cases z⟩
 keep:=fun i h h' st k=>st.at fun o e=>k it (by simp) o e
 item:=by
  intro X hP hw hK hc i pins s σ H E I hf st hg
  subst hP hw hK
  obtain⟨xs,x,hq,hx⟩:=hg
  obtain⟨its,rv,p,hz⟩:=I.tuple hq
  obtain⟨u,hu,ru⟩:=rv.get hx
  obtain⟨f0,f1,f2,f3,f4,f5⟩:=hf it (by simp)
  refine wpAny_pyNext_tuple_item st (show s.heap.IsTuple a its.toArray from p) (x:=u) (by simpa using hu) fun h' st' sb=>?_
  have I1:Inv X pins σ H { s with heap:=h' }:=I.turned (t':=s.toks) (fun b o hb e=>(sb.2 b hb).trans e) f0 f1 f3 f4 f5
  obtain⟨o,e,c,d⟩:=id st'
  exact⟨u,rfl,iG (s:={ s with heap:=h' }) e c d (by decide) ⟨x,H,I1,ru,⟨rfl,fun ys hy=>by rw[I.Dz hy hq];exact hx⟩,st',fun b hb=>(hf b hb).1⟩⟩
 done:=by
  intro X hP hw hK hc i pins s σ H E I hf st hg
  subst hP hw hK
  obtain⟨xs,hq,hx⟩:=hg
  obtain⟨its,rv,p,hz⟩:=I.tuple hq
  obtain⟨f0,f1,f2,f3,f4,f5⟩:=hf it (by simp)
  have hl:=rv.length
  exact wpAny_pyNext_tuple_end (I.ok.hd hc) st (show s.heap.IsTuple a its.toArray from p) (by simp;omega) fun h' eb=>⟨rfl,I.turned (t':=s.toks) (fun b o hb e=>eb b o hb e) f0 f1 f3 f4 f5⟩
 self:=fun _ _ _ _ _ st h=>wpAny_pyIter_tupleiter st h
def mO{P:Program}{w:World}{K:Vo}{tg:Expr}(it:Addr)(lo:Int)(n:Nat):lP P w K tg (zA lo n) [it] it (fun i h=>IsRangeIter h it (lo+(i:Nat) * 1) ((n:Int) - (i:Nat)) 1) where
 mem:=by simp
 obj:=fun i h st b hb=>by
  have e:b=it:=by simpa using hb
  subst e
  exact⟨_,st,fun v z=>by
   have z':Data.fields _=Data.cell v:=z
   cases z'⟩
 keep:=fun i h h' st k=>k it (by simp) _ st
 item:=by
  intro X hP hw hK hc i pins s σ H E I hf st hg
  subst hP hw hK
  obtain⟨f0,f1,f2,f3,f4,f5⟩:=hf it (by simp)
  have W:=Walks.range (prog:=X.prog) (w:=X.w) (I.ok.hd hc) it lo 1 n
  refine W.item i s _ _ hg st fun v h' tk hv st' kk=>?_
  obtain⟨t,rfl⟩:=hv
  have I1:Inv X pins σ H { s with heap:=h',toks:=tk }:=I.turned (fun b o hb e=>kk b o (by simpa using hb) e) f0 f1 f3 f4 f5
  refine⟨_,rfl,iG (s:={ s with heap:=h',toks:=tk }) (n:="range_iterator") st' rfl rfl (by decide) ⟨.int (lo+i),H,I1,⟨t,?_⟩,⟨rfl,rfl⟩,st',fun b hb=>(hf b hb).1⟩⟩
  rw[Int.mul_one]
 done:=by
  intro X hP hw hK hc i pins s σ H E I hf st hg
  subst hP hw hK
  obtain⟨f0,f1,f2,f3,f4,f5⟩:=hf it (by simp)
  exact wpAny_pyNext_range_end (I.ok.hd hc) st (by have:n<=i:=hg;omega) fun h' eb=>⟨rfl,I.turned (t':=s.toks) (fun b o hb e=>eb b o hb e) f0 f1 f3 f4 f5⟩
 self:=fun _ _ _ _ _ st h=>wpAny_pyIter_rangeiter st h
section
variable {X:Cx} {tg:Expr}
def qx{pins:Va}{σ:St}{H:Hp}{s:Shared}{R:It->Hp->Prop}{E:Vq}{lo hi:Int}{t u v:Tok}{tk:Nat}(I:Inv X pins σ H s)(h1:-(2 ^ 62)<=lo)(h2:lo < 2 ^ 62)(h3:-(2 ^ 62)<=hi)(h4:hi < 2 ^ 62)
  (q:R (zA lo (hi - lo).toNat) H):wpAny (model X.prog X.w) X.A (pyIter (.ref s.heap.objs.size)) (zV X pins σ tg R) E { s with heap:=s.heap.push { cls:=.type "range",data:=.fields #[.int lo t,.int hi u,.int 1 v] },toks:=tk }:=by
 refine wpAny_pyIter_range (IsRange.new ..) (small_one h1 h2 h3 h4) ?_
 have I1:Inv X pins σ H { s with heap:=s.heap.push { cls:=.type "range",data:=.fields #[.int lo t,.int hi u,.int 1 v] },toks:=tk }:=I.kept fun b o e=>Heap.get?_push_of_some _ e
 refine⟨(s.heap.push { cls:=.type "range",data:=.fields #[.int lo t,.int hi u,.int 1 v] }).objs.size,[(s.heap.push { cls:=.type "range",data:=.fields #[.int lo t,.int hi u,.int 1 v] }).objs.size],_,_,H,rfl,
  I1.kept (t':=tk) fun b o e=>Heap.get?_push_of_some _ e,mO _ lo (hi - lo).toNat,?_,fun b hb=>?_,q⟩
 ·have e1:lo+((0:Nat):Int) * 1=lo:=by simp
  have e2:(((hi - lo).toNat:Nat):Int) - ((0:Nat):Int)=Builtin.Range.rangeSize lo hi 1:=by rw[rangeSize_one];split<;>omega
  show IsRangeIter _ _ (lo+((0:Nat):Int) * 1) ((((hi - lo).toNat:Nat):Int) - ((0:Nat):Int)) 1
  rw[e1,e2]
  exact Heap.get?_push_size _ rfl
 ·have e:b=(s.heap.push { cls:=.type "range",data:=.fields #[.int lo t,.int hi u,.int 1 v] }).objs.size:=by simpa using hb
  subst e
  exact I1.Di (Nat.le_refl _) (I1.hok.fresh (Nat.le_refl _))
def yd(ta:TA):TI:=fun σ H R=>ta σ H fun vs H1=>∃j:Int,vs=[.int j]/\-(2 ^ 62)<=j/\j < 2 ^ 62/\R (zA 0 j.toNat) H1
def oV{a:Expr}{ta:TA}{p pos:Pos}(hg:Gl X "range")(hm:X.mg "range" = none)(ha:PA X [a] ta)(hs:starEach [a] X.env=[(false,eval a X.env)]:=by rfl):PI X tg (.Call (.Name "range" p) [a] [] pos) (yd ta):=by
 intro pins s σ H R I h
 refine Call_ (cF I hg hm boot_range (PyProof.Rows.callWith_type1 (Bh (ha pos pins s σ H _ I h) fun us s1 ⟨vs,H1,I1,r1,q1⟩=>?_) hs rfl))
 obtain⟨j,e,q1,q2,q⟩:=q1
 subst e
 cases r1 with
 |cons r rr=>
  cases rr
  obtain⟨t,rfl⟩:=r
  exact call_range_1 (qx I1 (by omega) (by omega) q1 q2 (by simpa using q))
def zX(wi:TI)(g:TG)(tb:TS):TS:=fun D σ H=>wi σ H fun J H1=>∃W:Nat->Nat->St->Hp->Prop,(∃m,W 0 m σ H1)/\∀i m σ H,W i m σ H->
 (J.stop i H/\D.nx σ H)\/(J.go i H/\∃N:St->Hp->Prop,(∀σ' H',N σ' H'->∃m',m' < m/\W (i+1) m' σ' H')/\∀x H',J.Gk i H x H'->g x σ H' fun σ2 H2=>tb { D with nx:=N,ct:=N,bk:=D.nx } σ2 H2)
noncomputable def jh(fp:List Addr)(h:Heap):List (Addr×Obj):=fp.filterMap fun b=>(h.get? b).map fun o=>(b,o)
def fM{fp:List Addr}{h:Heap}{b:Addr}{o:Obj}(hb:b∈fp)(e:h.get? b=some o):(b,o)∈jh fp h:=List.mem_filterMap.mpr ⟨b,hb,by rw[e];rfl⟩
def oW{fp:List Addr}{h:Heap}{p:Addr×Obj}(hp:p∈jh fp h):p.1∈fp/\h.get? p.1=some p.2:=by
 obtain⟨b,hb,e⟩:=List.mem_filterMap.mp hp
 cases q:h.get? b with
 |none=>rw[q]at e;cases e
 |some o=>
  rw[q]at e
  have e':(b,o)=p:=Option.some.inj e
  subst e'
  exact⟨hb,q⟩
def Inv.pinned{pins:Va}{σ:St}{H:Hp}{s:Shared}{fp:List Addr}(I:Inv X pins σ H s)(hf:∀b∈fp,dI X pins H b)(ho:∀b∈fp,∃o,s.heap.get? b=some o/\∀v,o.data ≠ .cell v):Inv X (pins++jh fp s.heap) σ H s:=
 I.Dl fun p hp=>(List.mem_append.mp hp).elim (fun z=>I.pin p (List.mem_append_right _ z)) fun z=>by
  obtain⟨hb,e⟩:=oW z
  obtain⟨f0,f1,f2,_⟩:=hf p.1 hb
  obtain⟨o,e',d⟩:=ho p.1 hb
  rw[e]at e';cases e'
  exact⟨e,f0,f1,f2,d⟩
def Inv.C3{pins pl:Va}{σ:St}{H:Hp}{s:Shared}(I:Inv X (pins++pl) σ H s):Inv X pins σ H s:=I.Dl fun p hp=>I.pin p (List.mem_append_right _ (List.mem_append_left _ hp))
def v1{iter:Expr}{body:List Stmt}{wi:TI}{g:TG}{tb:TS}{pos:Pos}(hp:PassesOwn (model X.prog X.w) X.A X.env X.xe)(hc:X.calm=true)(hi:PI X tg iter wi)(hg:PG X tg g)(hb:DN X body tb)
  (hs:∀x,foldedSetIterable iter X.env x=pure x:=by intro _;rfl):PS X (.For tg iter body [] pos) (zX wi g tb):=by
 intro pins s σ H D I h
 refine wpAny_For (Bh (hi pins s σ H _ I h) fun v s1 h1=>Bh h1 fun itv s2 h2=>?_) hs
 obtain⟨it,fp,tn,J,H2,e,I2,T,st2,f2,W,⟨m0,w0⟩,turn⟩:=h2
 subst e
 -- what stays true of the iterator's objects through the loop
 have stat:∀{H':Hp},(∀b∈fp,H' b=none)->∀b∈fp,dI X pins H' b:=fun hn b hb=>⟨hn b hb,(f2 b hb).2⟩
 refine codeAny_forLoop_any (fun n s'=>∃i σ' H',Inv X pins σ' H' s'/\tn i s'.heap/\(∀b∈fp,H' b=none)/\W i n σ' H') ?_ m0 ⟨0,σ,H2,I2,st2,fun b hb=>(f2 b hb).1,w0⟩
 rintro n s3 ⟨i,σ3,H3,I3,st3,HI,w3⟩
 rcases turn i n σ3 H3 w3 with⟨stop,qn⟩|⟨go,N,hN,step⟩
 ·refine wpAny_passesOwn hp (Bh (T.done X rfl rfl rfl hc i pins s3 σ3 H3 X.xe I3 (stat HI) st3 stop) fun r s4 ⟨hr,I4⟩=>?_)
  subst hr
  exact wpAny_execs_nil ⟨σ3,H3,I4,qn⟩
 ·refine wpAny_passesOwn hp (Bh (T.item X rfl rfl rfl hc i pins s3 σ3 H3 X.xe I3 (stat HI) st3 go) fun r s4 ⟨u,hr,h4⟩=>?_)
  subst hr
  refine wpAny_passesOwn hp (Bh h4 fun _ s5 ⟨x,H5,I5,r5,y5,EU,GK⟩=>?_)
  have GL:=I5.pinned (stat GK) (T.obj _ _ EU)
  refine wpAny_passesOwn hp (Bh (hg _ s5 σ3 H5 x u _ GL r5 (step x H5 y5)) fun _ s6 ⟨σ6,H6,I6,q6⟩=>?_)
  refine wpAny_passesOwn hp (Bh (hb _ s6 σ6 H6 _ I6 q6) fun f s7 q7=>?_)
  have again:∀{σ7:St} {H7:Hp},Inv X (pins++jh fp s5.heap) σ7 H7 s7->N σ7 H7->∃m,m < n/\∃i σ' H',Inv X pins σ' H' s7/\tn i s7.heap/\(∀b∈fp,H' b=none)/\W i m σ' H':=fun{σ7 H7} I7 n7=>by
   obtain⟨m',hm,w7⟩:=hN σ7 H7 n7
   refine⟨m',hm,i+1,σ7,H7,I7.C3,T.keep _ _ _ EU fun b hb o e=>(I7.pin (b,o) (List.mem_append_right _ (List.mem_append_right _ (fM hb e)))).1,fun b hb=>?_,w7⟩
   obtain⟨o,e,d⟩:=T.obj _ _ EU b hb
   exact(I7.pin (b,o) (List.mem_append_right _ (List.mem_append_right _ (fM hb e)))).2.1
  cases f with
  |next=>obtain⟨σ7,H7,I7,n7⟩:=q7;exact again I7 n7
  |cont=>obtain⟨σ7,H7,I7,n7⟩:=q7;exact again I7 n7
  |brk=>obtain⟨σ7,H7,I7,q7⟩:=q7;exact⟨σ7,H7,I7.C3,q7⟩
  |ret v=>obtain⟨x7,σ7,H7,I7,r7,q7⟩:=q7;exact⟨x7,σ7,H7,I7.C3,r7,q7⟩
end
abbrev R2:=V->V->Hp->VK->Prop
def fE(X:Cx)(f:Value->Value->Sem Value)(r:R2):Prop:=
 ∀(pins:Va) (s:Shared) (σ:St) (H:Hp) (x y:V) (v u:Value) (Q:VK),Inv X pins σ H s->RelV x v->RelV y u->r x y H Q->
  wpAny (model X.prog X.w) X.A (f v u) (EP X pins σ Q) X.xe s
def zB(X:Cx)(f:Value->Sem Value)(r:V->Hp->VK->Prop):Prop:=
 ∀(pins:Va) (s:Shared) (σ:St) (H:Hp) (x:V) (v:Value) (Q:VK),Inv X pins σ H s->RelV x v->r x H Q->
  wpAny (model X.prog X.w) X.A (f v) (EP X pins σ Q) X.xe s
def eJ(X:Cx)(f:Value)(r:List V->Hp->VK->Prop):Prop:=
 ∀(pins:Va) (s:Shared) (σ:St) (H:Hp) (xs:List V) (us:Vv) (Q:VK),Inv X pins σ H s->Vals xs us->r xs H Q->
  wpAny (model X.prog X.w) X.A (call f us) (EP X pins σ Q) X.xe s
def ye(r:R2)(ta tb:TE):TE:=fun σ H Q=>ta σ H fun x H1=>tb σ H1 fun y H2=>r x y H2 Q
def AM(r:V->Hp->VK->Prop)(ta:TE):TE:=fun σ H Q=>ta σ H fun x H1=>r x H1 Q
def rI(C:Int->Int->Prop)(g:Int->Int->V):R2:=fun x y H Q=>∃i j,x = .int i/\y = .int j/\C i j/\Q (g i j) H
def sM(g:Int->Int->V):R2:=fun x y H Q=>∃i j,x = .int i/\y = .int j/\Q (g i j) H
noncomputable def rU(g:Int->V):V->Hp->VK->Prop:=fun x H Q=>∃i,x = .int i/\Q (g i) H
section
variable {X:Cx} {a b c:Expr} {ta tb tc:TE} {pos:Pos}
def v5(ha:PE X a ta)(hb:PE X b tb){pins:Va}{s:Shared}{σ:St}{H:Hp}{R:V->V->Hp->Prop}(I:Inv X pins σ H s)
  (h:ta σ H fun x H1=>tb σ H1 fun y H2=>R x y H2) {Q:Vq} {f:Value->Value->Sem Value}
  (hf:∀v u s2 x y H2,Inv X pins σ H2 s2->RelV x v->RelV y u->R x y H2->wpAny (model X.prog X.w) X.A (f v u) Q X.xe s2) :
  wpAny (model X.prog X.w) X.A (eval a X.env) (fun v s₁=>wpAny (model X.prog X.w) X.A (eval b X.env) (fun u s₂=>wpAny (model X.prog X.w) X.A (f v u) Q X.xe s₂) X.xe s₁) X.xe s:=by
 refine Bh (ha pins s σ H _ I h) fun v s1 ⟨x,H1,I1,r1,q1⟩=>?_
 refine Bh (hb pins s1 σ H1 _ I1 q1) fun u s2 ⟨y,H2,I2,r2,q2⟩=>?_
 exact hf v u s2 x y H2 I2 r1 r2 q2
def yf{op:Operator}{r:R2}(ho:fE X (binaryOp op) r)(ha:PE X a ta)(hb:PE X b tb):PE X (.BinOp a op b pos) (ye r ta tb):=by
 intro pins s σ H Q I h
 exact wpAny_BinOp (v5 ha hb I h fun v u s2 x y H2 I2 rx ry q=>ho pins s2 σ H2 x y v u Q I2 rx ry q)
def yg{op:UnaryOp}{r:V->Hp->VK->Prop}(ho:zB X (unaryOp op) r)(ha:PE X a ta):PE X (.UnaryOp op a pos) (AM r ta):=by
 intro pins s σ H Q I h
 exact UnaryOp_ (Bh (ha pins s σ H _ I h) fun v s1 ⟨x,H1,I1,r1,q1⟩=>ho pins s1 σ H1 x v Q I1 r1 q1)
def zC{f:Value->Value->Sem Value}{C:Int->Int->Prop}{g:Int->Int->Int}
  (rule:∀(i j:Int) (t u:Tok) (s:Shared) (Q:Vq) (E:Vq),C i j->Q (.int (g i j) s.toks) { s with toks:=s.toks+1 }->wpAny (model X.prog X.w) X.A (f (.int i t) (.int j u)) Q E s) :
  fE X f (rI C fun i j=>.int (g i j)):=by
 intro pins s σ H x y v u Q I rx ry h
 obtain⟨i,j,rfl,rfl,hc,q⟩:=h
 obtain⟨t,rfl⟩:=rx
 obtain⟨t',rfl⟩:=ry
 exact rule i j t t' s _ _ hc ⟨.int (g i j),H,I.tok _,⟨_,rfl⟩,q⟩
def yh{f:Value->Value->Sem Value}{g:Int->Int->Int}
  (rule:∀(i j:Int) (t u:Tok) (s:Shared) (Q:Vq) (E:Vq),Q (.int (g i j) s.toks) { s with toks:=s.toks+1 }->wpAny (model X.prog X.w) X.A (f (.int i t) (.int j u)) Q E s) :
  fE X f (sM fun i j=>.int (g i j)):=by
 intro pins s σ H x y v u Q I rx ry h
 obtain⟨i,j,rfl,rfl,q⟩:=h
 obtain⟨t,rfl⟩:=rx
 obtain⟨t',rfl⟩:=ry
 exact rule i j t t' s _ _ ⟨.int (g i j),H,I.tok _,⟨_,rfl⟩,q⟩
def tt{f:Value->Value->Sem Value}{g:Int->Int->Bool}
  (rule:∀(i j:Int) (t u:Tok) (s:Shared) (Q:Vq) (E:Vq),Q (.bool (g i j)) s->wpAny (model X.prog X.w) X.A (f (.int i t) (.int j u)) Q E s) :
  fE X f (sM fun i j=>.bl (g i j)):=by
 intro pins s σ H x y v u Q I rx ry h
 obtain⟨i,j,rfl,rfl,q⟩:=h
 obtain⟨t,rfl⟩:=rx
 obtain⟨t',rfl⟩:=ry
 exact rule i j t t' s _ _ ⟨.bl (g i j),H,I,rfl,q⟩
def v6(i j:Int):Prop:=0<=j/\j<=1000000/\i.natAbs < 2 ^ 64
def EV(i j:Int):Prop:=(-(2 ^ 64) < i/\i < 2 ^ 64)\/(-(2 ^ 64) < j/\j < 2 ^ 64)
def EV.ok{i j:Int}(h:EV i j):IntMulOk i j:=by
 rcases h with⟨h1,h2⟩|⟨h1,h2⟩
 ·exact .of_left (intBits_le_64 h1 h2)
 ·exact .of_right (intBits_le_64 h1 h2)
def v7:fE X (binaryOp .Add) (sM fun i j=>.int (i+j)):=yh fun _ _ _ _ _ _ _ q=>add_int q
def v8:fE X (binaryOp .Sub) (sM fun i j=>.int (i - j)):=yh fun _ _ _ _ _ _ _ q=>sub_int q
def tw:fE X (binaryOp .Mod) (rI (fun _ j=>j≠0) fun i j=>.int (i.fmod j)):=zC fun _ _ _ _ _ _ _ hc q=>mod_int' hc q
def v9:fE X (binaryOp .Pow) (rI v6 fun i j=>.int (i ^ j.toNat)):=zC fun _ _ _ _ _ _ _ hc q=>pow_int_small hc.1 hc.2.1 hc.2.2 q
def AN{f:Value->Sem Value}{g:Int->Int}
  (rule:∀(i:Int) (t:Tok) (s:Shared) (Q:Vq) (E:Vq),Q (.int (g i) s.toks) { s with toks:=s.toks+1 }->wpAny (model X.prog X.w) X.A (f (.int i t)) Q E s) :
  zB X f (rU fun i=>.int (g i)):=by
 intro pins s σ H x v Q I rx h
 obtain⟨i,rfl,q⟩:=h
 obtain⟨t,rfl⟩:=rx
 exact rule i t s _ _ ⟨.int (g i),H,I.tok _,⟨_,rfl⟩,q⟩
def v_:zB X (unaryOp .USub) (rU fun i=>.int (-i)):=AN fun _ _ _ _ _ q=>neg_int q
end
noncomputable def yi:V->V->Bool
 | .non,.non=>true | .non,.int _=>true | .int _,.non=>true | .non,.bl _=>true | .bl _,.non=>true | .non,.str _=>true | .str _,.non=>true
 | .int _,.int _=>true | .bl _,.bl _=>true | .str _,.str _=>true | .Ew _,.Ew _=>true
 | .int _,.str _=>true | .str _,.int _=>true | .bl _,.str _=>true | .str _,.bl _=>true
 |_,_=>false
def AO:R2:=fun x y H Q=>yi x y=true/\Q (.bl (decide (x=y))) H
def AQ:R2:=fun x y H Q=>yi x y=true/\Q (.bl (!decide (x=y))) H
def nX{i j:Int}:decide (V.int i=V.int j)=(i == j):=by
 rw[Bool.eq_iff_iff]
 simp
def qy{i j:Bool}:decide (V.bl i=V.bl j)=(i == j):=by
 rw[Bool.eq_iff_iff]
 simp
def nY{i j:Str}:decide (V.str i=V.str j)=(i == j):=by
 rw[Bool.eq_iff_iff]
 simp
def nZ{i j:Array UInt8}:decide (V.Ew i=V.Ew j)=(i.toList == j.toList):=by
 rw[Bool.eq_iff_iff]
 cases i
 cases j
 simp
section
variable {X:Cx} {a b c:Expr} {ta tb tc:TE} {pos:Pos}
def aJ{pins:Va}{σ:St}{H:Hp}{s:Shared}{Q:VK}{k k':Bool}(I:Inv X pins σ H s)(q:Q (.bl k) H)(e:k=k'):EP X pins σ Q (.bool k') s:=by
 subst e
 exact⟨.bl k,H,I,rfl,q⟩
def qz:fE X (compareOp .Eq) AO:=by
 intro pins s σ H x y v u Q I rx ry h
 obtain⟨hs,q⟩:=h
 cases x with
 |non=>
  cases rx
  cases y with
  |non=>cases ry;exact PySem.EqNone.eq_none_none (aJ I q (by simp))
  |bl j=>cases ry;exact PySem.EqNone.eq_none_bool (aJ I q (by simp))
  |int j=>obtain⟨t',rfl⟩:=ry;exact PySem.EqNone.eq_none_int (aJ I q (by simp))
  |str j=>obtain⟨t',rfl⟩:=ry;exact PySem.EqNone.eq_none_str (aJ I q (by simp))
  |_=>exact absurd (show false=true from hs) Bool.false_ne_true
 |bl i=>
  cases rx
  cases y with
  |non=>cases ry;exact PySem.EqNone.eq_bool_none (aJ I q (by simp))
  |bl j=>cases ry;exact eq_bool (aJ I q qy)
  |str j=>obtain⟨t',rfl⟩:=ry;exact PySem.EqMixed.eq_bool_str (aJ I q (by simp))
  |_=>exact absurd (show false=true from hs) Bool.false_ne_true
 |int i=>
  obtain⟨t,rfl⟩:=rx
  cases y with
  |non=>cases ry;exact PySem.EqNone.eq_int_none (aJ I q (by simp))
  |int j=>obtain⟨t',rfl⟩:=ry;exact eq_int (aJ I q nX)
  |str j=>obtain⟨t',rfl⟩:=ry;exact PySem.EqMixed.eq_int_str (aJ I q (by simp))
  |_=>exact absurd (show false=true from hs) Bool.false_ne_true
 |str i=>
  obtain⟨t,rfl⟩:=rx
  cases y with
  |non=>cases ry;exact PySem.EqNone.eq_str_none (aJ I q (by simp))
  |bl j=>cases ry;exact PySem.EqMixed.eq_str_bool (aJ I q (by simp))
  |int j=>obtain⟨t',rfl⟩:=ry;exact PySem.EqMixed.eq_str_int (aJ I q (by simp))
  |str j=>obtain⟨t',rfl⟩:=ry;exact eq_str (aJ I q nY)
  |_=>exact absurd (show false=true from hs) Bool.false_ne_true
 |Ew i=>
  obtain⟨t,rfl⟩:=rx
  cases y with
  |Ew j=>obtain⟨t',rfl⟩:=ry;exact PySem.W.eq_bytes (aJ I q nZ)
  |_=>exact absurd (show false=true from hs) Bool.false_ne_true
 |_=>cases y<;>exact absurd (show false=true from hs) Bool.false_ne_true
def qA:fE X (compareOp .NotEq) AQ:=by
 intro pins s σ H x y v u Q I rx ry h
 obtain⟨hs,q⟩:=h
 cases x with
 |non=>
  cases rx
  cases y with
  |non=>cases ry;exact PySem.EqNone.ne_none_none (aJ I q (by simp))
  |bl j=>cases ry;exact PySem.EqNone.ne_none_bool (aJ I q (by simp))
  |int j=>obtain⟨t',rfl⟩:=ry;exact PySem.EqNone.ne_none_int (aJ I q (by simp))
  |str j=>obtain⟨t',rfl⟩:=ry;exact PySem.EqNone.ne_none_str (aJ I q (by simp))
  |_=>exact absurd (show false=true from hs) Bool.false_ne_true
 |bl i=>
  cases rx
  cases y with
  |non=>cases ry;exact PySem.EqNone.ne_bool_none (aJ I q (by simp))
  |bl j=>cases ry;exact ne_bool (aJ I q (congrArg not qy))
  |str j=>obtain⟨t',rfl⟩:=ry;exact PySem.EqMixed.ne_bool_str (aJ I q (by simp))
  |_=>exact absurd (show false=true from hs) Bool.false_ne_true
 |int i=>
  obtain⟨t,rfl⟩:=rx
  cases y with
  |non=>cases ry;exact PySem.EqNone.ne_int_none (aJ I q (by simp))
  |int j=>obtain⟨t',rfl⟩:=ry;exact ne_int (aJ I q (congrArg not nX))
  |str j=>obtain⟨t',rfl⟩:=ry;exact PySem.EqMixed.ne_int_str (aJ I q (by simp))
  |_=>exact absurd (show false=true from hs) Bool.false_ne_true
 |str i=>
  obtain⟨t,rfl⟩:=rx
  cases y with
  |non=>cases ry;exact PySem.EqNone.ne_str_none (aJ I q (by simp))
  |bl j=>cases ry;exact PySem.EqMixed.ne_str_bool (aJ I q (by simp))
  |int j=>obtain⟨t',rfl⟩:=ry;exact PySem.EqMixed.ne_str_int (aJ I q (by simp))
  |str j=>obtain⟨t',rfl⟩:=ry;exact ne_str (aJ I q (congrArg not nY))
  |_=>exact absurd (show false=true from hs) Bool.false_ne_true
 |Ew i=>
  obtain⟨t,rfl⟩:=rx
  cases y with
  |Ew j=>obtain⟨t',rfl⟩:=ry;exact PySem.W.ne_bytes (aJ I q (congrArg not nZ))
  |_=>exact absurd (show false=true from hs) Bool.false_ne_true
 |_=>cases y<;>exact absurd (show false=true from hs) Bool.false_ne_true
def yj:fE X (compareOp .Lt) (sM fun i j=>.bl (decide (i < j))):=tt fun _ _ _ _ _ _ _ q=>lt_int q
def yk:fE X (compareOp .LtE) (sM fun i j=>.bl (decide (i<=j))):=tt fun _ _ _ _ _ _ _ q=>le_int q
def ym:fE X (compareOp .Gt) (sM fun i j=>.bl (decide (j < i))):=tt fun _ _ _ _ _ _ _ q=>gt_int q
def yn:fE X (compareOp .GtE) (sM fun i j=>.bl (decide (j<=i))):=tt fun _ _ _ _ _ _ _ q=>ge_int q
def oX:fE X (compareOp .In) (fun x y H Q=>∃i j,x = .str i/\y = .str j/\Q (.bl (!(Builtin.Str.occurrences j i 0 j.length 1).isEmpty)) H):=by
 intro pins s σ H x y v u Q I rx ry h
 obtain⟨i,j,rfl,rfl,q⟩:=h
 obtain⟨t,rfl⟩:=rx
 obtain⟨t',rfl⟩:=ry
 exact in_str (aJ I q rfl)
def tD:fE X (compareOp .IsNot) (fun x y H Q=>y = .non/\Q (.bl (!decide (x = .non))) H):=by
 intro pins s σ H x y v u Q I rx ry h
 obtain⟨rfl,q⟩:=h
 cases ry
 refine isnot_none_gen (aJ I q ?_)
 cases x<;>first
  |(cases rx;rfl)
  |(obtain⟨t,rfl⟩:=rx;rfl)
def aM(b:Expr){op:CmpOp}(h:op ≠ .In:=by decide)(h2:op ≠ .NotIn:=by decide):behindInMarks op b=false:=by
 have e1:(op == CmpOp.In)=false:=by cases op<;>first|rfl|exact absurd rfl h
 have e2:(op == CmpOp.NotIn)=false:=by cases op<;>first|rfl|exact absurd rfl h2
 cases b<;>simp[behindInMarks,e1,e2]
def tE{op:CmpOp}{r:R2}(ho:fE X (compareOp op) r)(ha:PE X a ta)(hb:PE X b tb)(hm:behindInMarks op b=false):PE X (.Compare a [op] [b] pos) (ye r ta tb):=by
 intro pins s σ H Q I h
 exact wpAny_Compare1 (v5 ha hb I h fun v u s2 x y H2 I2 rx ry q=>ho pins s2 σ H2 x y v u Q I2 rx ry q) hm
def u9(t:TE):TT:=fun σ H Q=>t σ H fun x H'=>∃k,x = .bl k/\Q k H'
def tF{op:CmpOp}{r:R2}(ho:fE X (compareOp op) r)(ha:PE X a ta)(hb:PE X b tb)(hm:behindInMarks op b=false):PT X (.Compare a [op] [b] pos) (u9 (ye r ta tb)):=by
 intro pins s σ H Q I h
 refine wpAny_isTrue_Compare1 (Bh (ha pins s σ H _ I h) fun v s1 ⟨x,H1,I1,r1,q1⟩=>Bh (hb pins s1 σ H1 _ I1 q1) fun u s2 ⟨y,H2,I2,r2,q2⟩=>
  Bh (ho pins s2 σ H2 x y v u _ I2 r1 r2 q2) fun c s3 ⟨z,H3,I3,r3,k,e,q3⟩=>?_) hm
 subst e
 cases r3
 exact wpAny_truthy_bool ⟨H3,I3,q3⟩
def qB(r r':R2)(ta tb tc:TE):TE:=fun σ H Q=>ta σ H fun x H1=>tb σ H1 fun y H2=>r x y H2 fun z H3=>∃k,z = .bl k/\
 (if k=true then tc σ H3 fun w' H4=>r' y w' H4 Q else Q (.bl false) H3)
def qC{op op':CmpOp}{r r':R2}(ho:fE X (compareOp op) r)(ho':fE X (compareOp op') r')(ha:PE X a ta)(hb:PE X b tb)(hc:PE X c tc)
  (hm:lastMarks [op,op'] [b,c]=false:=by with_unfolding_all rfl):PT X (.Compare a [op,op'] [b,c] pos) (u9 (qB r r' ta tb tc)):=by
 intro pins s σ H Q I h
 refine isTrue_chain (Bh (ha pins s σ H _ I h) fun v s1 ⟨x,H1,I1,r1,q1⟩=>test_link (Bh (hb pins s1 σ H1 _ I1 q1) fun u s2 ⟨y,H2,I2,r2,q2⟩=>
  Bh (ho pins s2 σ H2 x y v u _ I2 r1 r2 q2) fun d s3 ⟨z,H3,I3,r3,k,e,q3⟩=>?_)) hm
 subst e
 cases r3
 refine wpAny_truthy_bool ?_
 cases k with
 |false=>
  obtain⟨k',e',q'⟩:=q3
  cases e'
  exact ite_ff ⟨H3,I3,q'⟩
 |true=>
  refine ite_tt (test_last (Bh (hc pins s3 σ H3 _ I3 q3) fun w' s4 ⟨z',H4,I4,r4,q4⟩=>Bh (ho' pins s4 σ H4 y z' u w' _ I4 r2 r4 q4) fun d' s5 ⟨z2,H5,I5,r5,k2,e2,q5⟩=>?_))
  subst e2
  cases r5
  exact wpAny_truthy_bool ⟨H5,I5,q5⟩
def gZ:(sizeLine:Nat) < 2 ^ 63:=by rw[sizeLine_eq];decide
def mP:fE X (binaryOp .Add) (fun x y H Q=>∃i j,x = .str i/\y = .str j/\i.length+j.length<=sizeLine/\Q (.str (i++j)) H):=by
 intro pins s σ H x y v u Q I rx ry h
 obtain⟨i,j,rfl,rfl,hz,q⟩:=h
 obtain⟨t,rfl⟩:=rx
 obtain⟨t',rfl⟩:=ry
 exact add_str (fun t' tk=>⟨.str (i++j),H,I.tok _,⟨_,rfl⟩,q⟩) hz
def eh{x:V}{us:Vv}(r:Vals [x] us):∃u,us=[u]/\RelV x u:=by
 cases r with
 |cons r1 r2=>cases r2;exact⟨_,rfl,r1⟩
def u_{x y:V}{us:Vv}(r:Vals [x,y] us):∃u w',us=[u,w']/\RelV x u/\RelV y w':=by
 cases r with
 |cons r1 r2=>
  cases r2 with
  |cons r3 r4=>cases r4;exact⟨_,_,rfl,r1,r3⟩
def oY(hc:X.calm=true):eJ X (.builtin "max") (fun xs H Q=>∃i j,xs=[.int i,.int j]/\Q (.int (if j > i then j else i)) H):=by
 intro pins s σ H xs us Q I r h
 obtain⟨i,j,rfl,q⟩:=h
 obtain⟨u,w',rfl,⟨t,rfl⟩,⟨t',rfl⟩⟩:=u_ r
 refine max_two_ints (I.ok.hd hc) fun h' tk k=>⟨_,H,I.kept k,?_,q⟩
 by_cases hj:j > i
 ·rw[if_pos hj,if_pos hj];exact⟨_,rfl⟩
 ·rw[if_neg hj,if_neg hj];exact⟨_,rfl⟩
def kj:eJ X (.type "int") (fun xs H Q=>(∃i,xs=[.int i]/\Q (.int i) H)\/∃k,xs=[.bl k]/\Q (.int (if k then 1 else 0)) H):=by
 intro pins s σ H xs us Q I r h
 rcases h with⟨i,rfl,q⟩|⟨k,rfl,q⟩
 ·obtain⟨u,rfl,t,rfl⟩:=eh r
  exact call_int_int ⟨.int i,H,I,⟨_,rfl⟩,q⟩
 ·obtain⟨u,rfl,r1⟩:=eh r
  cases r1
  exact call_int_bool ⟨.int (if k then 1 else 0),H,I.tok _,⟨_,rfl⟩,q⟩
end
section
variable {prog:Program} {w:World} {A:Around} {E:Vq} {s:Shared} {K:Vo} {x dx C f:Addr} {mA:Vr} {name:Str} {v:Value}
end
def RelO.some_of{v:V}{o:Option Value}(r:RelO (some v) o):∃u,o=some u/\RelV v u:=by
 cases o with
 |none=>exact(show False from r).elim
 |some u=>exact⟨u,rfl,r⟩
section
variable {P:Program} {w:World} {H H':Hp} {h h':Heap} {a C dx:Addr} {fs fs':List (Str×V)}
end
section
variable {X:Cx} {pins:Va} {σ:St} {H:Hp} {s:Shared} {a C dx:Addr} {fs:List (Str×V)} {f:Str} {v:V} {A:Around} {E:Vq}
end
section
variable {X:Cx} {o e value:Expr} {f:Str} {pos pos' tpos:Pos} {ta tv:TE}
end
section
variable {X:Cx} {pins:Va} {σ:St} {H:Hp} {s:Shared} {A:Around} {E:Vq} {Q:Vq} {c:Value} {b:Bool}
end
structure Room (k:Nat) (A:Around):Prop where
 hd:A.handled=none
 dp:A.depth+3 * k+5 < recursionLimit
 un:A.units+16 * k+200 < cLine
 gd:A.guards=some []
def Room.mono{j k:Nat}{A:Around}(r:Room k A)(h:j<=k):Room j A:=⟨r.hd,by have:=r.dp;omega,by have:=r.un;omega,r.gd⟩
theorem Room.deeper{k:Nat}{A:Around}(r:Room (k+1) A)(env:Env):Room k (A.deeper env):=
 ⟨r.hd,by have:=r.dp;show A.depth+1+3 * k+5 < _;omega,by have:=r.un;show A.units+3+16 * k+200 < _;omega,r.gd⟩
theorem Room.depth{k:Nat}{A:Around}(r:Room k A):A.depth < recursionLimit:=by have:=r.dp;omega
def yo:TA:=fun _ H Q=>Q [] H
def va(ta:TE)(tr:TA):TA:=fun σ H Q=>ta σ H fun x H1=>tr σ H1 fun xs H2=>Q (x::xs) H2
section
variable {X:Cx} {e:Expr} {es:List Expr} {te:TE} {t:TA} {pos:Pos}
def wa:PA X [] yo:=fun _ _ _ _ H Q I h=>Calls.spliced_nil ⟨[],H,I,.nil,h⟩
def tG(ha:PE X e te)(hr:PA X es t)(hs:starEach (e::es) X.env=(false,eval e X.env)::starEach es X.env:=by rfl):PA X (e::es) (va te t):=by
 intro pos pins s σ H Q I h
 rw[hs]
 show wpAny _ _ (spliced ((false,eval e X.env)::backTo pos (starEach es X.env))) _ _ s
 refine Calls.spliced_cons (Bh (ha pins s σ H _ I h) fun u s1 ⟨x,H1,I1,r1,q1⟩=>?_)
 exact Bh (hr pos pins s1 σ H1 _ I1 q1) fun us s2 ⟨xs,H2,I2,r2,q2⟩=>⟨x::xs,H2,I2,.cons r1 r2,q2⟩
def zY(t:TA):TE:=fun σ H Q=>t σ H fun xs H1=>xs.length<=sizeLine/\∀p,H1 p=none->Q (.ref p) (upd H1 p (.tup xs))
def zZ(t:TA):TE:=fun σ H Q=>t σ H fun xs H1=>xs.length<=sizeLine/\∀p,H1 p=none->Q (.ref p) (upd H1 p (.lst xs))
def wb{x1}(h:PA X es t):PE X (.Tuple es x1 pos) (zY t):=by
 intro pins s σ H Q I hq
 refine wpAny_Tuple_spliced (Bh (h pos pins s σ H _ I hq) fun us s1 ⟨xs,H1,I1,r,z,q⟩=>⟨by rw[<-r.length];exact z,?_⟩)
 have hf:H1 s1.heap.objs.size=none:=I1.hok.fresh (Nat.le_refl _)
 refine⟨.ref s1.heap.objs.size,upd H1 s1.heap.objs.size (.tup xs),I1.laid (t':=s1.toks) (fun b u e=>Heap.get?_push_of_some _ e) (Nat.le_refl _) ?_,rfl,q _ hf⟩
 exact⟨z,us,r,⟨_,Heap.get?_push_size _ rfl,rfl,rfl,_,rfl⟩⟩
def we(h:PA X es t):PE X (.List es pos) (zZ t):=by
 intro pins s σ H Q I hq
 refine wpAny_List_spliced (Bh (h pos pins s σ H _ I hq) fun us s1 ⟨xs,H1,I1,r,z,q⟩=>⟨by rw[<-r.length];exact z,?_⟩)
 have hf:H1 s1.heap.objs.size=none:=I1.hok.fresh (Nat.le_refl _)
 refine⟨.ref s1.heap.objs.size,upd H1 s1.heap.objs.size (.lst xs),I1.laid (t':=s1.toks) (fun b u e=>Heap.get?_push_of_some _ e) (Nat.le_refl _) ?_,rfl,q _ hf⟩
 exact⟨z,us,0,r,Heap.get?_push_size _ rfl⟩
end
abbrev Sp:=List V->Hp->VK->XK->Prop
abbrev qD:=List Env->Hp->Shared->XK->Value->Shared->Prop
structure tH (P:Program) (w:World) (K:Vo) (mg:Vr) (base:Heap) (A:Around) (outer:List Env) (s:Shared) (H:Hp):Prop where
 frames:A.frames=some outer
 mod:Mod K mg base
 bs:∀b o,base.get? b=some o->s.heap.get? b=some o/\H b=none
 ES:base.objs.size<=s.heap.objs.size
 Dh:s.heap.FunFrames base outer
 Fk:∀b∈frs outer,H b=none
 hok:CT P w H s.heap
 bare:AllBare s.gens
def CE(outer:List Env)(P:Program)(w:World)(H:Hp)(s:Shared)(Q:VK)(u:Value)(s':Shared):Prop:=
 ∃v H',s'.os=s.os/\AllBare s'.gens/\Un (frs outer) [] H H' s.heap s'.heap/\CT P w H' s'.heap/\RelV v u/\Q v H'
def CR(CX:qD)(outer:List Env)(P:Program)(w:World)(H:Hp)(s:Shared)(Q:VK)(E:XK)(r:Result)(s':Shared):Prop:=
 match r with
 | .ok (.ret u)=>CE outer P w H s Q u s'
 | .ok _=>False
 | .error e=>CX outer H s E e s'
structure jZ (P:Program) (w:World) (K:Vo) (mg:Vr) (base:Heap) (CX:qD) (k:Nat) (f:Addr) (fd:FuncData) (ps:Vs) (sp:Sp):Prop where
 len:∀vs H Q E,sp vs H Q E->vs.length=ps.length
 run:∀(A:Around) (outer:List Env) (s:Shared) (H:Hp) (args:Args) (us:Vv) (vs:List V) (Q:VK) (E:XK),Room k A->tH P w K mg base A outer s H->BindsTo s fd args (ps.zip us)->Vals vs us->sp vs H Q E->
  codeAny (model P w) A (.call (.ref f) args) (CR CX outer P w H s Q E) s
section
variable {X:Cx} {pins:Va} {σ:St} {H:Hp} {s s':Shared}
def Inv.GM(I:Inv X pins σ H s):tH X.prog X.w X.K X.mg X.base X.A X.stack s H:=
 ⟨I.ok.frames,I.ok.mod,I.bs,Nat.le_trans I.ok.ES I.sz,I.stack,I.Ec,I.hok,I.bare⟩
def Inv.after{Q:VK}{u:Value}(I:Inv X pins σ H s)(h:CE X.stack X.prog X.w H s Q u s'):EP X pins σ Q u s':=by
 obtain⟨v,H',os,bare,un,hok,r,q⟩:=h
 obtain⟨hh,g,d,t,os'⟩:=s'
 obtain rfl:os'=s.os:=os
 exact⟨v,H',I.call (h':=hh) (g':=g) (d':=d) (t':=t) (ch:=[]) un hok bare (fun b z=>absurd z (by simp)),r,q⟩
end
def yp(sp:Sp)(dvs:List V)(E:XK)(t:TA):TE:=fun σ H Q=>t σ H fun vs H1=>sp (vs++dvs) H1 Q E
def Binds(K:Vo)(fd:FuncData)(ps:Vs)(ds:Vv):Prop:=
 ∀(s:Shared) (us:Vv),K.In s.heap->(us++ds).length=ps.length->BindsTo s fd ⟨us,[]⟩ (ps.zip (us++ds))
def Binds.all{K:Vo}{fd:FuncData}{ps:Vs}(h:∀us:List Value,us.length=ps.length->bindArgs fd ⟨us,[]⟩=pure (ps.zip us)):Binds K fd ps []:=fun s us _ hl=>by
 rw[List.append_nil]at hl ⊢
 exact .of_eq (h us hl)
def mQ(CX:qD)(X:Cx)(E:XK):Prop:=∀(pins:Va) (σ:St) (H:Hp) (s:Shared) (e:Value) (s':Shared),Inv X pins σ H s->CX X.stack H s E e s'->X.xe e s'
section
variable {X:Cx} {CX:qD} {k:Nat} {f C:Addr} {fd:FuncData} {ps:Vs} {sp:Sp} {dvs:List V} {ds:Vv} {E:XK} {x m:Str} {p pos apos:Pos} {e o:Expr} {es:List Expr} {ta:TE} {t:TA}
def wf{pins:Va}{σ:St}{H:Hp}{s:Shared}{Q:VK}{us:Vv}{vs:List V}(F:jZ X.prog X.w X.K X.mg X.base CX k f fd ps sp)(hr:Room k X.A)(hb:Binds X.K fd ps ds)(hd:Vals dvs ds)(hx:mQ CX X E)
  (I:Inv X pins σ H s) (r:Vals vs us) (h:sp (vs++dvs) H Q E):wpAny (model X.prog X.w) X.A (call (.ref f) us) (EP X pins σ Q) X.xe s:=by
 have r2:Vals (vs++dvs) (us++ds):=r.append hd
 have hl:(us++ds).length=ps.length:=by rw[<-r2.length];exact F.len _ _ _ _ h
 refine wpAny_call (codeAny_mono (F.run X.A X.stack s H ⟨us,[]⟩ (us++ds) (vs++dvs) Q E hr I.GM (hb s us I.Ey hl) r2 h) fun r s' hq=>?_)
 cases r with
 |error e=>exact hx pins σ H s e s' I hq
 |ok fl=>
  cases fl with
  |ret u=>exact I.after hq
  |next=>exact False.elim hq
  |brk=>exact False.elim hq
  |cont=>exact False.elim hq
def n5(F:jZ X.prog X.w X.K X.mg X.base CX k f fd ps sp)(hr:Room k X.A)(hg:Gl X x)(hm:X.mg x=some (.ref f))(hk:PySem.W.keepIn X.K (.ref f)=true)(hb:Binds X.K fd ps ds)(hd:Vals dvs ds)(hx:mQ CX X E)
  (ha:PA X (e::es) t) (hdb:(x == ("__debug__":Str))=false:=by decide) (he:starEach (e::es) X.env=(false,eval e X.env)::starEach es X.env:=by rfl) (hpl:(backTo pos (starEach es X.env)).any (·.1)=false:=by rfl) :
  PE X (.Call (.Name x p) (e::es) [] pos) (yp sp dvs E t):=by
 intro pins s σ H Q I h
 refine wpAny_Call_Name_kw (nW I hg hm ?_ hdb)
 refine PySem.W.callWith_K (h₀:=X.base) I.ok.mod.GF hk (Bh (ha pos pins s σ H _ I h) fun us s1 ⟨vs,H1,I1,r,q⟩=>⟨I1.Ey,?_⟩) he hpl
 exact wf F hr hb hd hx I1 r q
end
section
variable {X:Cx} {CX:qD} {k:Nat} {f C:Addr} {fd:FuncData} {ps ks:Vs} {sp:Sp} {E:XK} {x m:Str} {p pos apos kpos:Pos} {e o:Expr} {es:List Expr} {kws:List Keyword} {te ta:TE} {t tk:TA} {nm:Option Str}
variable {g:List Value->List Value->List Value} {gV:List V->List V->List V}
end
structure cz (N P:Vs) (sc:Scope):Prop where
 kind:sc.kind = .function
 co:sc.isCoroutine=false
 gen:sc.isGenerator=false
 nd:N.Nodup
 pre:N.take P.length=P
 par:∀x∈P,sc.names.lookup x=some .local\/sc.names.lookup x=some .cell
 Fo:∀y∈sc.names,y.2 ≠ .free
theorem kl{kindOf:Str->Option NameKind}{x:Str}:∀{binds:List (Str×Value)} {m:Vr},(∀v,(x,v) ∉ binds)->bindL kindOf binds m x=m x
 |[],_,_=>rfl
 |(n,v)::r,m,h=>by
  unfold bindL
  rw[kl fun w hw=>h w (List.mem_cons_of_mem _ hw)]
  split
  ·have:x≠n:=by rintro rfl;exact h v List.mem_cons_self
   simp[this]
  ·rfl
theorem km{kindOf:Str->Option NameKind}{x:Str}:∀{binds:List (Str×Value)} {m:Vr},(∀v,(x,v) ∉ binds)->bindC kindOf binds m x=m x
 |[],_,_=>rfl
 |(n,v)::r,m,h=>by
  unfold bindC
  rw[km fun w hw=>h w (List.mem_cons_of_mem _ hw)]
  split
  ·rfl
  ·have:x≠n:=by rintro rfl;exact h v List.mem_cons_self
   simp[this]
theorem kn{kindOf:Str->Option NameKind}{x:Str}{v:Value}:∀{P:Vs} {vs:Vv} {i:Nat} {m:Vr},P.Nodup->P[i]?=some x->vs[i]?=some v->kindOf x=some .local->
  bindL kindOf (P.zip vs) m x=some v
 |[],_,_,_,_,h,_,_=>by simp at h
 |_::_,[],_,_,_,_,h,_=>by simp at h
 |p::P,w::vs,0,m,nd,h1,h2,hk=>by
  simp at h1 h2;subst h1;subst h2
  show bindL kindOf ((p,w)::P.zip vs) m p=_
  unfold bindL
  rw[kl fun v hv=>(List.nodup_cons.mp nd).1 (List.of_mem_zip hv).1,if_pos hk]
  simp
 |p::P,w::vs,i+1,m,nd,h1,h2,hk=>by
  show bindL kindOf ((p,w)::P.zip vs) m x=_
  unfold bindL
  exact kn (i:=i) (List.nodup_cons.mp nd).2 (by simpa using h1) (by simpa using h2) hk
theorem ko{kindOf:Str->Option NameKind}{x:Str}{v:Value}:∀{P:Vs} {vs:Vv} {i:Nat} {m:Vr},P.Nodup->P[i]?=some x->vs[i]?=some v->kindOf x≠some .local->
  bindC kindOf (P.zip vs) m x=some v
 |[],_,_,_,_,h,_,_=>by simp at h
 |_::_,[],_,_,_,_,h,_=>by simp at h
 |p::P,w::vs,0,m,nd,h1,h2,hk=>by
  simp at h1 h2;subst h1;subst h2
  show bindC kindOf ((p,w)::P.zip vs) m p=_
  unfold bindC
  rw[km fun v hv=>(List.nodup_cons.mp nd).1 (List.of_mem_zip hv).1,if_neg hk]
  simp
 |p::P,w::vs,i+1,m,nd,h1,h2,hk=>by
  show bindC kindOf ((p,w)::P.zip vs) m x=_
  unfold bindC
  exact ko (i:=i) (List.nodup_cons.mp nd).2 (by simpa using h1) (by simpa using h2) hk
noncomputable def er(N:Vs)(vs:List V):St:=vs.map some++List.replicate (N.length - vs.length) none
noncomputable def lQ(CX:qD)(P:Program)(w:World)(K:Vo)(mg:Vr)(base:Heap)(N:Vs)(qual:Str)(scope:Scope)(f:Addr)(cd:Value)(A:Around)(outer:List Env)(s:Shared)(H:Hp)(E:XK):Cx where
 prog:=P
 w:=w
 K:=K
 mg:=mg
 base:=base
 A:=A.deeper (envOfC qual scope s.heap.objs.size f cd)
 N:=N
 s₀:=s
 H₀:=H
 env:=envOfC qual scope s.heap.objs.size f cd
 outer:=outer
 stack:=envOfC qual scope s.heap.objs.size f cd::outer
 ex:=[]
 calm:=true
 fn:=fun _=>true
 pn:=[]
 xe:=fun e s'=>wpAny (model P w) (A.deeper (envOfC qual scope s.heap.objs.size f cd)) (leaving (envOfC qual scope s.heap.objs.size f cd) e) (fun _ s''=>CX outer H s E e s'') (fun e' s''=>CX outer H s E e' s'') s'
def lR{sc:Scope}{n:Nat}{x:Str}(h:sc.names.lookup x=some .cell):∃c,(cellsFrom n sc.names []).lookup x=some c:=by
 have q:=PySem.W.cellsFrom_some sc.names n [] (.inl h)
 exact Option.isSome_iff_exists.mp q
def oZ{CX:qD}{P:Program}{w:World}{K:Vo}{mg:Vr}{base:Heap}{N ps:Vs}{qual:Str}{scope:Scope}{f:Addr}{cd:Value}{A:Around}{outer:List Env}{s s1:Shared}{H:Hp}{E:XK}{us:Vv}{vs:List V}
  (S:cz N ps scope) (hd:A.handled=none) (e0:tH P w K mg base A outer s H) (hl:vs.length=ps.length) (r:Vals vs us)
  (x:InCallC s s.heap.objs.size (bindL (envOfC qual scope s.heap.objs.size f cd).kindOf (ps.zip us) fun _=>none) (cellsFrom (s.heap.objs.size+1) scope.names []) (bindC (envOfC qual scope s.heap.objs.size f cd).kindOf (ps.zip us) fun _=>none) s1) :
  Inv (lQ CX P w K mg base N qual scope f cd A outer s H E) [] (er N vs) H s1:=by
 have hpl:ps.length<=N.length:=by have:=congrArg List.length S.pre;rw[List.length_take]at this;omega
 obtain⟨h1,tk,rfl,hk⟩:=x.done
 have FU:∀b:Addr,b ∉ (lQ CX P w K mg base N qual scope f cd A outer s H E).ex:=fun b z=>absurd (show b∈([]:List Addr)from z) (by simp)
 refine⟨⟨e0.mod,S.kind,rfl,rfl,Nat.le_refl _,fun y z c h1 h2=>?_,fun y hy=>?_,fun y c _ h=>?_,fun _=>hd,Around.frames_deeper e0.frames,.inr ⟨rfl,rfl⟩,fun b z=>absurd z (FU b),e0.bs,e0.ES,fun b _ _=>FU b,fun b z=>absurd z (FU b),e0.Dh,e0.Fk⟩,
  rfl,e0.bare,Un.kept hk,⟨_,x.toInCall.ns,fun i y v h1 h2 h3=>?_⟩,fun y c h=>⟨_,x.cell y c h⟩,e0.hok.fresh (Nat.le_refl _),fun y c h=>?_,fun p hp=>absurd (show p∈([]:Va)from hp) (by simp),e0.hok.kept hk,?_⟩
 ·exact name_of_addr x.apart (PySem.mem_of_lookup h1) (PySem.mem_of_lookup h2)
 ·have hy:scope.names.lookup y=some .cell\/scope.names.lookup y=some .free:=hy
  rcases hy with hy|hy
  ·exact lR hy
  ·exact absurd rfl (S.Fo _ (PySem.mem_of_lookup hy))
 ·exact Nat.le_of_lt (x.above y c (PySem.mem_of_lookup h))
 ·have hi:i < vs.length:=by
   unfold er at h2
   by_cases hi:i < vs.length
   ·exact hi
   ·rw[List.getElem?_append_right (by simpa using hi)]at h2
    rw[List.getElem?_replicate]at h2
    split at h2<;>cases h2
  have ha:vs[i]?=some v:=by
   unfold er at h2
   rw[List.getElem?_append_left (by simpa using hi),List.getElem?_map]at h2
   cases e:vs[i]? with
   |none=>rw[e]at h2;cases h2
   |some a=>rw[e]at h2;cases h2;rfl
  obtain⟨u,hu,rv⟩:=r.get ha
  have hp:ps[i]?=some y:=by
   rw[<-S.pre,List.getElem?_take_of_lt (by omega)];exact h1
  have HJ:ps.Nodup:=by rw[<-S.pre];exact S.nd.sublist (List.take_sublist _ _)
  refine⟨u,rv,?_⟩
  rcases S.par y (List.mem_of_getElem? hp)with k|k
  ·exact .inl ⟨k,kn HJ hp hu k⟩
  ·obtain⟨c,e⟩:=lR (n:=s.heap.objs.size+1) k
   refine .inr ⟨.inl k,c,e,?_⟩
   have q:=x.cell y c e
   rw[ko HJ hp hu (by show scope.names.lookup y≠_;rw[k];decide)]at q
   exact q
 ·exact e0.hok.fresh (Nat.le_of_lt (x.above y c (PySem.mem_of_lookup h)))
 ·unfold er
  show _=N.length
  rw[List.length_append,List.length_map,List.length_replicate]
  omega
def vb{CX:qD}{P:Program}{w:World}{K:Vo}{mg:Vr}{base:Heap}{k:Nat}{f:Addr}{name qual:Str}{params:Arguments}{body:List Stmt}{scope:Scope}{dV kV doc pm cdv ct oc:Value}{an od:Option Addr}
  {osl:Array (Option Value)} {N ps:Vs} {sp:Sp} (lk:K.lookup f=some ⟨oc,od,.func (PySem.W.fnOf name qual params body scope dV kV doc pm an cdv ct),osl⟩) (hcd:PySem.W.codeIn K cdv qual=true) (S:cz N ps scope)
  (len:∀vs H Q E,sp vs H Q E->vs.length=ps.length)
  (hbody:∀(A:Around) (outer:List Env) (s:Shared) (H:Hp) (vs:List V) (Q:VK) (E:XK),Room k (A.deeper (envOfC qual scope s.heap.objs.size f cdv))->sp vs H Q E->
   ∃t,DN (lQ CX P w K mg base N qual scope f cdv A outer s H E) body t/\t { nx:=fun _ H'=>Q .non H',rt:=Q } (er N vs) H) :
  jZ P w K mg base CX (k+1) f (PySem.W.fnOf name qual params body scope dV kV doc pm an cdv ct) ps sp:=by
 refine⟨len,fun A outer s H args us vs Q E hr e0 hb r EL=>?_⟩
 have hl:=len _ _ _ _ EL
 have KX:K.In s.heap:=e0.mod.GF.keeps fun b o e=>(e0.bs b o e).1
 have lim:s.heap.NoLimit:=e0.mod.nolimit.keeps fun b o e=>(e0.bs b o e).1
 have hkind:∀y∈ps.zip us,scope.names.lookup y.1=some .local\/(scope.names.lookup y.1=some .cell/\((cellsFrom (s.heap.objs.size+1) scope.names []).lookup y.1).isSome=true):=fun⟨n,v⟩ hy=>by
  rcases S.par n (List.of_mem_zip hy).1 with q|q
  ·exact .inl q
  ·exact .inr ⟨q,PySem.W.cellsFrom_some _ _ _ (.inl q)⟩
 refine codeAny_call_function hr.depth (KX _ _ lk) rfl S.co S.gen rfl (PySem.W.codeRec_of KX hcd) (hb _ _ _ _ ?_)
 refine wpAny_newFunctionEnv_cells S.kind hkind fun env he s1 x=>?_
 subst he
 refine⟨lim.keeps x.toInCall.keep,codeAny_func ?_⟩
 obtain⟨t,ht,hq⟩:=hbody A outer s H vs Q E (hr.deeper _) EL
 have I:Inv (lQ CX P w K mg base N qual scope f cdv A outer s H E) [] (er N vs) H s1:=oZ S hr.hd e0 hl r x
 refine wpAny_mono (ht [] s1 (er N vs) H _ I hq) (fun fl s' hs=>?_) fun e s' hs=>hs
 have fin:∀{σ':St} {H':Hp} {v:V} {u:Value},Inv (lQ CX P w K mg base N qual scope f cdv A outer s H E) [] σ' H' s'->RelV v u->Q v H'->CE outer P w H s Q u s':=
  fun{σ' H' v u} J rv q=>⟨v,H',J.os,J.bare,J.base,J.hok,rv,q⟩
 cases fl with
 |ret u=>
  obtain⟨v,σ',H',J,rv,q⟩:=hs
  exact fin J rv q
 |next=>
  obtain⟨σ',H',J,q⟩:=hs
  exact fin (v:=V.non) (u:=Value.none) J rfl q
 |brk=>
  obtain⟨_,_,_,q⟩:=hs
  exact False.elim q
 |cont=>
  obtain⟨_,_,_,q⟩:=hs
  exact False.elim q
section
variable {X:Cx} {x:Str} {p pos:Pos} {e:Expr} {es:List Expr} {t:TA} {id T:String} {r:List V->Hp->VK->Prop}
def AD(r:List V->Hp->VK->Prop)(t:TA):TE:=fun σ H Q=>t σ H fun vs H1=>r vs H1 Q
def qE(hc:eJ X (.builtin id) r)(hg:Gl X x)(hm:X.mg x=none)(hv:bootBuiltins x=some (.builtin id))(ha:PA X (e::es) t)(hn:x ≠ "__name__":=by decide)(hdb:(x == ("__debug__":Str))=false:=by decide)
  (he:starEach (e::es) X.env=(false,eval e X.env)::starEach es X.env:=by rfl) (hpl:(backTo pos (starEach es X.env)).any (·.1)=false:=by rfl):PE X (.Call (.Name x p) (e::es) [] pos) (AD r t):=by
 intro pins s σ H Q I h
 refine wpAny_Call_Name_kw (cF I hg hm hv ?_ hn hdb)
 exact PyProof.Rows.callWith_builtin1 (Bh (ha pos pins s σ H _ I h) fun us s1 ⟨vs,H1,I1,r1,q1⟩=>hc pins s1 σ H1 vs us Q I1 r1 q1) he hpl
def o0(hc:eJ X (.type T) r)(hg:Gl X x)(hm:X.mg x=none)(hv:bootBuiltins x=some (.type T))(ha:PA X (e::es) t)(hn:x ≠ "__name__":=by decide)(hdb:(x == ("__debug__":Str))=false:=by decide)
  (he:starEach (e::es) X.env=(false,eval e X.env)::starEach es X.env:=by rfl) (hpl:(backTo pos (starEach es X.env)).any (·.1)=false:=by rfl):PE X (.Call (.Name x p) (e::es) [] pos) (AD r t):=by
 intro pins s σ H Q I h
 refine wpAny_Call_Name_kw (cF I hg hm hv ?_ hn hdb)
 exact PyProof.Rows.callWith_type1 (Bh (ha pos pins s σ H _ I h) fun us s1 ⟨vs,H1,I1,r1,q1⟩=>hc pins s1 σ H1 vs us Q I1 r1 q1) he hpl
end
end L2
namespace HT
open PySem PyProof.Rows
section
open PySem.SeqAt
open PySem.AutoSeq1 (wpAny_loadPart')
open PySem.MeetsSeq PySem.MeetsSeq2 PySem.MeetsSeq3
end
section
variable {prog:Program} {w:World} {A:Around} {E:Vq} {s:Shared}
def tI{t b:Addr}{vs ws:Vv}{Q:Vq}(ht:IsTup s.heap t vs.toArray)(hb:IsTup s.heap b ws.toArray)(hv:vs≠[])
  (h1:ws=[]->Q (.ref t) s) (h2:ws≠[]->Q (.ref s.heap.objs.size) { s with heap:=s.heap.push { cls:=.type "tuple",data:=.seq (vs++ws).toArray } })
  (hsz:vs.length+ws.length<=sizeLine):wpAny (model prog w) A (binaryOp .Add (.ref t) (.ref b)) Q E s:=by
 obtain⟨⟨cls,dd,data,sl⟩,ho,hc,n,hd⟩:=id ht
 obtain⟨⟨GN,dd2,data2,sl2⟩,ho2,hc2,n2,hd2⟩:=id hb
 simp only at hc hd hc2 hd2
 subst hc hd hc2 hd2
 have e:vs.toArray++ws.toArray=(vs++ws).toArray:=by simp
 by_cases hw:ws=[]
 ·exact concat_meets ⟨_,ho,rfl⟩ ⟨_,ho2,rfl⟩ noFill_tuple_add seq_tuple_add PySem.F.slot_tuple_add PySem.F.entry_tuple_add (PySem.F.args_tuple_add_2 _ _)
   (tuple_addW1 t b vs.toArray ws.toArray n n2 dd dd2 sl sl2 (by simpa using hv) (by simp[hw])) ⟨ho,ho2,h1 hw⟩
 ·refine concat_meets ⟨_,ho,rfl⟩ ⟨_,ho2,rfl⟩ noFill_tuple_add seq_tuple_add PySem.F.slot_tuple_add PySem.F.entry_tuple_add (PySem.F.args_tuple_add_2 _ _)
   (tuple_addW2 t b vs.toArray ws.toArray n n2 dd dd2 sl sl2 (by simpa using hv) (by simpa using hw) (by rw[List.size_toArray,List.size_toArray];exact hsz)) ⟨ho,ho2,?_⟩
  rw[e]
  exact h2 hw
noncomputable def By(n d:Nat):Option Int->Nat
 |none=>d
 |some v=>if v < 0 then (v+(n:Int)).toNat else min v.toNat n
def ji(n d:Nat):By n d none=d:=rfl
def n6(n d k:Nat):By n d (some (k:Int))=min k n:=by
 show(if (k:Int) < 0 then ((k:Int)+(n:Int)).toNat else min (k:Int).toNat n)=min k n
 rw[if_neg (by omega),Int.toNat_natCast]
def wg(n d:Nat)(hd:d<=n)(o:Option Int):By n d o<=n:=by
 cases o with
 |none=>exact hd
 |some v=>
  show(if v < 0 then (v+(n:Int)).toNat else min v.toNat n)<=n
  by_cases hv:v < 0
  ·rw[if_pos hv];omega
  ·rw[if_neg hv];exact Nat.min_le_right _ _
def n_(v:Int)(n d:Nat):(if v < 0 then max (v+(n:Int)) 0 else min v (n:Int))=((By n d (some v):Nat):Int):=by
 show(if v < 0 then max (v+(n:Int)) 0 else min v (n:Int))=(((if v < 0 then (v+(n:Int)).toNat else min v.toNat n):Nat):Int)
 by_cases hv:v < 0
 ·simp only[if_pos hv];omega
 ·simp only[if_neg hv];omega
def mR(lo hi:Option Int)(n:Nat):Builtin.Slice.sliceAdjust lo hi 1 (n:Int)=(((By n 0 lo:Nat):Int),((By n n hi:Nat):Int)):=by
 have h1:¬((1:Int) < 0):=by omega
 unfold Builtin.Slice.sliceAdjust
 simp only[h1,if_false]
 refine Prod.ext ?_ ?_
 ·cases lo with
  |none=>rfl
  |some v=>exact n_ v n 0
 ·cases hi with
  |none=>rfl
  |some v=>exact n_ v n n
def mS(i j:Nat):Builtin.Slice.slicePlaces (i:Int) (j:Int) 1=j - i:=by
 unfold Builtin.Slice.slicePlaces
 have h1:(1:Int) > 0:=by omega
 simp only[h1,if_true,Int.ediv_one]
 split<;>omega
def jj{v:Value}{o:Option Int}{Q:Option Int->Shared->Prop}(p:IsPart v o)(h:Q o s):wpAny (model prog w) A (Builtin.Slice.slicePartIndex v) Q E s:=by
 cases p with
 |none=>exact slicePart_none h
 |int i t=>exact slicePart_int h
def dy{sl:Addr}{vl vu:Value}{lo hi:Option Int}{n:Nat}{Q:Int×Int×Nat->Shared->Prop}(hs:s.heap.IsSliceOf sl vl vu .none)(pl:IsPart vl lo)(pu:IsPart vu hi)
  (h:Q (((By n 0 lo:Nat):Int),1,By n n hi - By n 0 lo) s):wpAny (model prog w) A (Builtin.Slice.sliceApplied (.ref sl) (pure (n:Int))) Q E s:=by
 obtain⟨os,hos,hcs,hds⟩:=id hs
 unfold Builtin.Slice.sliceApplied Builtin.Slice.sliceFields
 refine wpAny_bind (wpAny_bind (wpAny_field hos hds (x:=vl) rfl (wpAny_bind (wpAny_field hos hds (x:=vu) rfl (wpAny_bind (wpAny_field hos hds (x:=.none) rfl (wpAny_pure ?_)))))))
 refine wpAny_bind (slicePart_none ?_)
 show wpAny _ _ (if ((1:Int) == 0)=true then _ else _) _ _ s
 rw[if_neg (by decide)]
 refine wpAny_bind (jj pl (wpAny_bind (jj pu (wpAny_bind (wpAny_pure ?_)))))
 show wpAny _ _ (match Builtin.Slice.sliceAdjust lo hi 1 (n:Int)with|(lo,hi)=>pure (lo,(1:Int),Builtin.Slice.slicePlaces lo hi 1)) _ _ s
 rw[mR lo hi n]
 show wpAny _ _ (pure (((By n 0 lo:Nat):Int),(1:Int),Builtin.Slice.slicePlaces ((By n 0 lo:Nat):Int) ((By n n hi:Nat):Int) 1)) _ _ s
 rw[mS]
 exact wpAny_pure h
def qF(xs:Vw)(i k:Nat):((List.range k).filterMap fun(m:Nat)=>xs[((i:Int)+(m:Int) * 1).toNat]?).toArray=((xs.toList.drop i).take k).toArray:=by
 have e:(fun(m:Nat)=>xs[((i:Int)+(m:Int) * 1).toNat]?)=fun m=>xs[i+m]?:=by
  funext m
  have:((i:Int)+(m:Int) * 1).toNat=i+m:=by omega
  rw[this]
 rw[e]
 have:=pick_run xs i k
 rw[List.filterMap_map]at this
 have e2:((fun x=>xs[x]?) ∘ fun x=>i+x)=fun m=>xs[i+m]?:=rfl
 rw[e2]at this
 rw[this]
def gh{t sl:Addr}{items:Vw}{vl vu:Value}{lo hi:Option Int}{Q:Vq}(ht:IsTup s.heap t items)(hs:s.heap.IsSliceOf sl vl vu .none)(pl:IsPart vl lo)(pu:IsPart vu hi)
  (hw:¬(By items.size 0 lo=0/\By items.size items.size hi=items.size))
  (h:Q (.ref s.heap.objs.size) { s with heap:=s.heap.push { cls:=.type "tuple",data:=.seq ((items.toList.drop (By items.size 0 lo)).take (By items.size items.size hi - By items.size 0 lo)).toArray } })
  (hsz:items.size<=sizeLine):wpAny (model prog w) A (getItem (.ref t) (.ref sl)) Q E s:=by
 have Ee:sizeOk (.seq ((items.toList.drop (By items.size 0 lo)).take (By items.size items.size hi - By items.size 0 lo)).toArray):=by
  show((items.toList.drop (By items.size 0 lo)).take (By items.size items.size hi - By items.size 0 lo)).toArray.size<=sizeLine
  rw[List.size_toArray,List.length_take,List.length_drop,Array.length_toList]
  omega
 have hj:By items.size items.size hi<=items.size:=wg _ _ (Nat.le_refl _) hi
 obtain⟨os,hos,hcs,hds⟩:=id hs
 have GO:s.TypeIs (.ref sl) "slice":=⟨os,hos,hcs⟩
 unfold getItem
 try with_reducible refine wpAny_holding ?_
 first|refine wpAny_bind (wpAny_pure ?_)|skip
 refine wpAny_bind (wpAny_sequenceKey ht.typeIs (by decide) ?_)
 refine wpAny_bind (wpAny_callSpecial?_slot (name:=Str.ofString "__getitem__") ht.typeIs PyProof.Rows.slot_tuple_getitem
  (wpAny_call_entry PyProof.Rows.slot_tuple_getitem ht.typeIs entry_tuple_getitem ?_ (args_tuple_getitem _ _)))
 show wpAny _ _ (Builtin.Tuple.tupleItemsOf (.ref t) >>= _) _ _ s
 refine wpAny_bind (tupleItemsOf_ ht ?_)
 refine wpAny_bind (wpAny_typeOf GO ?_)
 rw[if_pos (by decide)]
 refine wpAny_bind (dy hs pl pu ?_)
 have hno:¬((((By items.size 0 lo:Nat):Int) == 0&&(1:Int) == 1&&(By items.size items.size hi - By items.size 0 lo) == items.size)=true):=by
  intro q
  rw[Bool.and_eq_true,Bool.and_eq_true]at q
  have q1:((By items.size 0 lo:Nat):Int)=0:=eq_of_beq q.1.1
  have q2:By items.size items.size hi - By items.size 0 lo=items.size:=eq_of_beq q.2
  exact hw ⟨by omega,by omega⟩
 show wpAny _ _ (if (((By items.size 0 lo:Nat):Int) == 0&&(1:Int) == 1&&(By items.size items.size hi - By items.size 0 lo) == items.size)=true then _ else _) _ _ s
 rw[if_neg hno,qF]
 first
  |exact wpAny_bind (m:=Builtin.Tuple.tupleExact _) (wpAny_newObj_type (wpAny_pure ⟨_,rfl,wpAny_pure h⟩) Ee)
  |exact wpAny_bind (m:=Builtin.Tuple.tupleExact _) (wpAny_newObj_type (wpAny_bind (wpAny_pure (wpAny_pure ⟨_,rfl,wpAny_pure h⟩))) Ee)
  |exact wpAny_bind (wpAny_bind (m:=Builtin.Tuple.tupleExact _) (wpAny_newObj_type (wpAny_pure (wpAny_pure ⟨_,rfl,wpAny_pure h⟩)) Ee))
  |exact wpAny_bind (wpAny_bind (m:=Builtin.Tuple.tupleExact _) (wpAny_newObj_type (wpAny_pure ⟨_,rfl,wpAny_pure h⟩) Ee))
end
end HT
namespace L2
open PySem PySem.Spec PyProof.Rows
abbrev TO:=St->Hp->(Option Int->Hp->Prop)->Prop
def PO(X:Cx)(e:Option Expr)(t:TO):Prop:=
 ∀(pins:Va) (s:Shared) (σ:St) (H:Hp) (Q:Option Int->Hp->Prop),Inv X pins σ H s->t σ H Q->
  wpAny (model X.prog X.w) X.A (evalPart e X.env) (fun u s'=>∃o H',Inv X pins σ H' s'/\IsPart u o/\Q o H') X.xe s
noncomputable def tJ:TO:=fun _ H Q=>Q none H
noncomputable def yq(t:TE):TO:=fun σ H Q=>t σ H fun x H1=>∃i,x = .int i/\Q (some i) H1
section
variable {X:Cx} {e:Expr} {te:TE} {lo hi:Option Expr} {tl th:TO} {pos p2:Pos}
def tK:PO X none tJ:=by
 intro pins s σ H Q I h
 rw[evalPart_none]
 exact wpAny_pure ⟨none,H,I,.none,h⟩
def tL(h:PE X e te):PO X (some e) (yq te):=by
 intro pins s σ H Q I hw
 rw[evalPart_some]
 refine Bh (h pins s σ H _ I hw) fun u s1 ⟨x,H1,I1,r1,q1⟩=>?_
 obtain⟨i,rfl,q⟩:=q1
 obtain⟨t,rfl⟩:=r1
 exact⟨some i,H1,I1,.int i t,q⟩
def xI(X:Cx)(r:V->Option Int->Option Int->Hp->VK->Prop):Prop:=
 ∀(pins:Va) (s:Shared) (σ:St) (H:Hp) (x:V) (v vl vu:Value) (lo hi:Option Int) (sl:Addr) (Q:VK),Inv X pins σ H s->RelV x v->s.heap.IsSliceOf sl vl vu .none->IsPart vl lo->IsPart vu hi->r x lo hi H Q->
  ∃T id,typeLookup (.type T) "__getitem__" = pure (some (.builtin id))/\s.TypeIs v T/\wpAny (model X.prog X.w) X.A (getItem v (.ref sl)) (EP X pins σ Q) X.xe s
def AR(r:V->Option Int->Option Int->Hp->VK->Prop)(te:TE)(tl th:TO):TE:=fun σ H Q=>te σ H fun x H1=>tl σ H1 fun l H2=>th σ H2 fun u H3=>r x l u H3 Q
def qG{r:V->Option Int->Option Int->Hp->VK->Prop}(hr:xI X r)(he:PE X e te)(hl:PO X lo tl)(hu:PO X hi th):PE X (.Subscript e (.Slice lo hi none p2) pos) (AR r te tl th):=by
 intro pins s σ H Q I h
 refine Subscript_ (Bh (he pins s σ H _ I h) fun v s1 ⟨x,H1,I1,r1,q1⟩=>?_)
 refine wpAny_Slice (Bh (hl pins s1 σ H1 _ I1 q1) fun vl s2 ⟨l,H2,I2,pl,q2⟩=>Bh (hu pins s2 σ H2 _ I2 q2) fun vu s3 ⟨u,H3,I3,pu,q3⟩=>?_)
 rw[evalPart_none]
 refine wpAny_pure ?_
 have I4:Inv X pins σ H3 { s3 with heap:=s3.heap.push { cls:=.type "slice",data:=.fields #[vl,vu,.none] } }:=I3.kept (t':=s3.toks) fun b ob q=>Heap.get?_push_of_some _ q
 obtain⟨T,id,hT,ht,hg⟩:=hr pins { s3 with heap:=s3.heap.push { cls:=.type "slice",data:=.fields #[vl,vu,.none] } } σ H3 x v vl vu l u s3.heap.objs.size Q I4 r1 (Heap.IsSliceOf.new ..) pl pu q3
 show wpAny (model X.prog X.w) X.A (subscriptTail e (.Slice lo hi none p2) v (.ref s3.heap.objs.size)) (EP X pins σ Q) X.xe { s3 with heap:=s3.heap.push { cls:=.type "slice",data:=.fields #[vl,vu,.none] } }
 exact tail_any (ops:=[.ref s3.heap.objs.size,v]) ht hT hg (by with_unfolding_all rfl)
noncomputable def jk(xs:List V)(lo hi:Option Int):List V:=(xs.drop (HT.By xs.length 0 lo)).take (HT.By xs.length xs.length hi - HT.By xs.length 0 lo)
def iH(xs:List V)(lo hi:Option Int):(jk xs lo hi).length<=xs.length:=by
 unfold jk
 rw[List.length_take,List.length_drop]
 omega
noncomputable def z0(K:Vo):V->Option Int->Option Int->Hp->VK->Prop:=fun x lo hi H Q=>∃a xs,x = .ref a/\Cj K H a xs/\
 ¬(HT.By xs.length 0 lo=0/\HT.By xs.length xs.length hi=xs.length)/\∀p,H p=none->Q (.ref p) (upd H p (.tup (jk xs lo hi)))
def wj:xI X (z0 X.K):=by
 intro pins s σ H x v vl vu lo hi sl Q I rx hs pl pu h
 obtain⟨a,xs,rfl,hx,hw,q⟩:=h
 cases rx
 obtain⟨its,r,ht,hz⟩:=I.tuple hx
 have hlen:its.toArray.size=xs.length:=by rw[List.size_toArray];exact r.length.symm
 refine⟨"tuple",_,PyProof.Rows.slot_tuple_getitem.lookup,ht.typeIs,?_⟩
 refine HT.gh ht hs pl pu (by rw[hlen];exact hw) ?_ (by rw[hlen];exact hz)
 rw[hlen]
 refine⟨.ref s.heap.objs.size,_,I.laid (t':=s.toks) (o:=.tup (jk xs lo hi)) (fun b ob q=>Heap.get?_push_of_some _ q) (Nat.le_refl _) ?_,rfl,q _ (I.hok.fresh (Nat.le_refl _))⟩
 exact⟨Nat.le_trans (iH xs lo hi) hz,_,(r.drop (HT.By xs.length 0 lo)).take (HT.By xs.length xs.length hi - HT.By xs.length 0 lo),BR.new _ _⟩
def yr(K:Vo):R2:=fun x y H Q=>∃a b xs ys,x = .ref a/\y = .ref b/\Cj K H a xs/\Cj K H b ys/\xs≠[]/\xs.length+ys.length<=sizeLine/\
 (ys=[]->Q (.ref a) H)/\(ys≠[]->∀p,H p=none->Q (.ref p) (upd H p (.tup (xs++ys))))
def Vals.DB{xs:List V}{us:Vv}(r:Vals xs us):us=[]↔xs=[]:=by
 cases r with
 |nil=>simp
 |cons _ _=>simp
def tM:fE X (binaryOp .Add) (yr X.K):=by
 intro pins s σ H x y v u Q I rx ry h
 obtain⟨a,b,xs,ys,rfl,rfl,ha,hb,hx,hz,q1,q2⟩:=h
 cases rx
 cases ry
 obtain⟨its,r1,p1,_⟩:=I.tuple ha
 obtain⟨its2,r2,p2,_⟩:=I.tuple hb
 refine HT.tI p1 p2 (fun z=>hx (r1.DB.mp z)) (fun z=>⟨.ref a,H,I,rfl,q1 (r2.DB.mp z)⟩) (fun z=>?_) (by rw[<-r1.length,<-r2.length];exact hz)
 refine⟨.ref s.heap.objs.size,_,I.laid (t':=s.toks) (o:=.tup (xs++ys)) (fun b ob q=>Heap.get?_push_of_some _ q) (Nat.le_refl _) ?_,rfl,q2 (fun w=>z (r2.DB.mpr w)) _ (I.hok.fresh (Nat.le_refl _))⟩
 exact⟨by rw[List.length_append];exact hz,_,r1.append r2,BR.new _ _⟩
end
noncomputable def o3(n:Nat)(i:Int):Option Nat:=if 0<=i then (if i < n then some i.toNat else none) else if -(n:Int)<=i then some (i+n).toNat else none
noncomputable def Ck{α:Type}(xs:List α)(i:Int):Option α:=(o3 xs.length i).bind fun j=>xs[j]?
def og{n:Nat}{i:Int}{j:Nat}(h:o3 n i=some j):seqIndex? i n=some j/\j < n/\-(n:Int)<=i/\i < n:=by
 unfold o3 at h
 by_cases h0:0<=i
 ·rw[if_pos h0]at h
  by_cases h1:i < n
  ·rw[if_pos h1]at h
   have e:i.toNat=j:=Option.some.inj h
   exact⟨by rw[seqIndex_of h0 h1,e],by omega,by omega,h1⟩
  ·rw[if_neg h1]at h;cases h
 ·rw[if_neg h0]at h
  by_cases h1:-(n:Int)<=i
  ·rw[if_pos h1]at h
   have e:(i+n).toNat=j:=Option.some.inj h
   exact⟨by rw[seqIndex_neg (by omega) h1,e],by omega,h1,by omega⟩
  ·rw[if_neg h1]at h;cases h
def kR{α:Type}{xs:List α}{i:Int}{v:α}(h:Ck xs i=some v):∃j,seqIndex? i xs.length=some j/\xs[j]?=some v/\j < xs.length/\-(xs.length:Int)<=i/\i < xs.length:=by
 unfold Ck at h
 cases e:o3 xs.length i with
 |none=>rw[e]at h;cases h
 |some j=>
  rw[e]at h
  obtain⟨h1,h2,h3,h4⟩:=og e
  exact⟨j,h1,h,h2,h3,h4⟩
def b_{α:Type}{xs:List α}{j:Nat}{v:α}(h:xs[j]?=some v):Ck xs (j:Int)=some v:=by
 have hj:j < xs.length:=(List.getElem?_eq_some_iff.mp h).1
 have e:o3 xs.length (j:Int)=some j:=by
  unfold o3
  rw[if_pos (by omega),if_pos (by omega)];simp
 unfold Ck;rw[e];exact h
def i5(b:Expr):Prop:=∀o i,subscripted b false o i=operate [o,i] (getItem o i)
def xJ(X:Cx)(r:R2):Prop:=
 ∀(value slice:Expr) (pins:Va) (s:Shared) (σ:St) (H:Hp) (x y:V) (v u:Value) (Q:VK),Inv X pins σ H s->RelV x v->RelV y u->r x y H Q->
  subscripted slice false v u=operate [v,u] (getItem v u)->wpAny (model X.prog X.w) X.A (subscriptTail value slice v u) (EP X pins σ Q) X.xe s
def wk(X:Cx)(id:String)(r:V->List V->Hp->VK->Prop):Prop:=
 ∀(pins:Va) (s:Shared) (σ:St) (H:Hp) (x:V) (xs:List V) (v:Value) (us:Vv) (Q:VK),Inv X pins σ H s->RelV x v->Vals xs us->r x xs H Q->
  wpAny (model X.prog X.w) X.A (call (.builtin id) (v::us)) (EP X pins σ Q) X.xe s
section
variable {X:Cx} {a b:Expr} {ta tb:TE} {pos:Pos}
def yt{r:R2}(hr:xJ X r)(ha:PE X a ta)(hb:PE X b tb)(hs:i5 b):PE X (.Subscript a b pos) (ye r ta tb):=by
 intro pins s σ H Q I h
 exact Subscript_ (v5 ha hb I h fun v u s2 x y H2 I2 rx ry q=>hr a b pins s2 σ H2 x y v u Q I2 rx ry q (hs _ _))
def z4(K:Vo):R2:=fun x y H Q=>∃p xs i v,x = .ref p/\y = .int i/\SqL K H p xs/\Ck xs i=some v/\Q v H
def z5(K:Vo):R2:=fun x y H Q=>∃p xs i v,x = .ref p/\y = .int i/\Cj K H p xs/\Ck xs i=some v/\Q v H
def z6:R2:=fun x y H Q=>∃z i c,x = .str z/\y = .int i/\z.length<=sizeLine/\Ck z.cps.toList i=some c/\Q (.str ⟨#[c]⟩) H
def oh:xJ X (z4 X.K):=by
 intro value slice pins s σ H x y v u Q I rx ry h hs
 obtain⟨p,xs,i,z,rfl,rfl,hq,he,q⟩:=h
 cases rx
 obtain⟨t,rfl⟩:=ry
 obtain⟨its,r,pl,hz⟩:=I.list hq
 obtain⟨j,h1,h2,h3,h4,h5⟩:=kR he
 obtain⟨w,ew,rw'⟩:=r.get h2
 have hl:=r.length
 have hn:=gZ
 have fin:EP X pins σ Q w s:=⟨z,H,I,rw',q⟩
 by_cases h0:0<=i
 ·have hj:i.toNat=j:=by
   rw[seqIndex_of h0 h5]at h1
   exact Option.some.inj h1
  exact item_listR pl.isList h0 (by omega) (by rw[hj];simpa using ew) fin hs
 ·have hj:(i+(its.toArray.size:Int)).toNat=j:=by
   rw[seqIndex_neg (by omega) h4]at h1
   rw[List.size_toArray,<-hl]
   exact Option.some.inj h1
  exact subscriptTail_builtinR (x:=w) pl.isList.typeIs slot_list_getitem.lookup
   (wpAny_getItem_list_neg (Q:=fun r s'=>r=w/\EP X pins σ Q r s') pl.isList (by omega) (by rw[List.size_toArray]<;>omega) (by omega) (by rw[hj];simpa using ew) ⟨rfl,fin⟩) hs
def wm:xJ X (z5 X.K):=by
 intro value slice pins s σ H x y v u Q I rx ry h hs
 obtain⟨p,xs,i,z,rfl,rfl,hq,he,q⟩:=h
 cases rx
 obtain⟨t,rfl⟩:=ry
 obtain⟨its,r,pl,hz⟩:=I.tuple hq
 obtain⟨j,h1,h2,h3,h4,h5⟩:=kR he
 obtain⟨w,ew,rw'⟩:=r.get h2
 have hl:=r.length
 have hn:=gZ
 have fin:EP X pins σ Q w s:=⟨z,H,I,rw',q⟩
 exact subscriptTail_builtinR (x:=w) pl.typeIs slot_tuple_getitem.lookup
  (getItem_tuple (j:=j) (Q:=fun r s'=>r=w/\EP X pins σ Q r s') pl (by omega) (by omega) (by rw[List.size_toArray,<-hl];exact h1) (by simpa using ew) ⟨rfl,fin⟩) hs
def wn:xJ X z6:=by
 intro value slice pins s σ H x y v u Q I rx ry h hs
 obtain⟨z,i,c,rfl,rfl,hz,he,q⟩:=h
 obtain⟨t,rfl⟩:=rx
 obtain⟨t',rfl⟩:=ry
 obtain⟨j,h1,h2,h3,h4,h5⟩:=kR he
 have hl:z.cps.toList.length=z.length:=by simp[Str.length]
 rw[hl]at h1 h4 h5
 have hn:=gZ
 exact tail_any (typeIs_str s z t) slot_str_getitem.lookup (getItem_str (c:=c) (by
  have e1:decide (i < -(2 ^ 63:Int))=false:=decide_eq_false (by omega)
  have e2:decide (i>=2 ^ 63)=false:=decide_eq_false (by omega)
  rw[e1,e2,Bool.or_false]) (by rw[h1];simpa using h2) ⟨.str ⟨#[c]⟩,H,I.tok _,⟨_,rfl⟩,q⟩) hs
def mT(its:Vv)(n j:Nat)(u:Value):Obj.mapSeq (·.setIfInBounds j u) { cls:=.type "list",data:=.seq its.toArray n }={ cls:=.type "list",data:=.seq (its.set j u).toArray n }:=by
 simp[Obj.mapSeq]
theorem Inv.lst{pins:Va}{σ:St}{H:Hp}{s:Shared}{p:Addr}{xs:List V}(I:Inv X pins σ H s)(h:H p=some (.lst xs)) :
  ∃(its:Vv) (n:Nat),Vals xs its/\s.heap.get? p=some { cls:=.type "list",data:=.seq its.toArray n }/\xs.length<=sizeLine:=by
 obtain⟨z,its,n,r,e⟩:=I.hok p _ h
 exact⟨its,n,r,e,z⟩
def Inv.Fp{pins:Va}{σ:St}{H:Hp}{s:Shared}{p:Addr}{xs ys:List V}{its its':Vv}{n n':Nat}{f:Obj->Obj}(I:Inv X pins σ H s)(h:H p=some (.lst xs))
  (ho:s.heap.get? p=some { cls:=.type "list",data:=.seq its.toArray n }) (hf:f { cls:=.type "list",data:=.seq its.toArray n }={ cls:=.type "list",data:=.seq its'.toArray n' }) (r:Vals ys its') (hz:ys.length<=sizeLine) (t:Nat) :
  Inv X pins σ (upd H p (.lst ys)) { s with heap:=s.heap.update p f,toks:=t }:=by
 have e:(s.heap.update p f).get? p=some { cls:=.type "list",data:=.seq its'.toArray n' }:=by
  rw[Heap.get?_update_self f ho (by rw[hf]<;>rfl),hf]
 refine I.write (x:=p) (e:=p) (by rw[h];trivial) (.inl rfl) (fun b u hb q=>(Heap.get?_update_other _ _ (Ne.symm hb)).trans q) ⟨_,e⟩ ?_
 exact⟨hz,its',n',r,e⟩
noncomputable def yu:V->V->V->Hp->(Hp->Prop)->Prop:=fun o i v H Q=>∃p xs k j,o = .ref p/\i = .int k/\H p=some (.lst xs)/\o3 xs.length k=some j/\Q (upd H p (.lst (xs.set j v)))
def qH:s_ X yu:=by
 intro pins s σ H o i v ov iv u Q I ro ri rv h
 obtain⟨p,xs,k,j,rfl,rfl,hp,hj,q⟩:=h
 cases ro
 obtain⟨t,rfl⟩:=ri
 obtain⟨its,n,r,ho,hz⟩:=I.lst hp
 obtain⟨h1,h2,h3,h4⟩:=og hj
 have hl:=r.length
 have hn:=gZ
 have I':Inv X pins σ (upd H p (.lst (xs.set j v))) { s with heap:=s.heap.update p (Obj.mapSeq (·.setIfInBounds j u)) }:=
  I.Fp hp ho (mT its n j u) (r.set rv j) (by rw[List.length_set];exact hz) s.toks
 by_cases h0:0<=k
 ·have hk:k.toNat=j:=by
   rw[seqIndex_of h0 h4]at h1
   exact Option.some.inj h1
  exact PySem.W.ki_setAt ho h0 (by omega) (by rw[List.size_toArray,<-hl];exact h4) (by rw[hk];exact⟨_,I',q⟩)
 ·have hk:(k+(its.toArray.size:Int)).toNat=j:=by
   rw[seqIndex_neg (by omega) h3]at h1
   rw[List.size_toArray,<-hl]
   exact Option.some.inj h1
  exact PySem.W.ki_setBack ho (by omega) (by rw[List.size_toArray,<-hl];exact h3) (by omega) (by rw[hk];exact⟨_,I',q⟩)
def kS(lo hi:Option Int)(n:Nat):(sliceBounds lo hi none n).1=((HT.By n 0 lo:Nat):Int)/\(sliceBounds lo hi none n).2.1=((HT.By n n hi:Nat):Int)/\(sliceBounds lo hi none n).2.2=1:=by
 refine⟨?_,?_,rfl⟩
 ·cases lo with
  |none=>simp[sliceBounds,HT.By]
  |some i=>
   simp only[sliceBounds,HT.By,Option.getD_none,show(1:Int) > 0 by decide,if_true]
   by_cases h:i < 0
   ·simp only[h,if_true]<;>omega
   ·simp only[h,if_false]<;>omega
 ·cases hi with
  |none=>simp[sliceBounds,HT.By]
  |some i=>
   simp only[sliceBounds,HT.By,Option.getD_none,show(1:Int) > 0 by decide,if_true]
   by_cases h:i < 0
   ·simp only[h,if_true]<;>omega
   ·simp only[h,if_false]<;>omega
def j0(its:Vv)(lo hi:Option Int):slicePick its.toArray lo hi none=((its.drop (HT.By its.length 0 lo)).take (HT.By its.length its.length hi - HT.By its.length 0 lo)).toArray:=by
 obtain⟨h1,h2,h3⟩:=kS lo hi its.toArray.size
 unfold slicePick
 rw[h1,h2,h3]
 simp only[sliceRange_one,pick_run,List.size_toArray]<;>rfl
noncomputable def z7(K:Vo):V->Option Int->Option Int->Hp->VK->Prop:=fun x lo hi H Q=>∃a xs,x = .ref a/\SqL K H a xs/\∀p,H p=none->Q (.ref p) (upd H p (.lst (jk xs lo hi)))
def oi:xI X (z7 X.K):=by
 intro pins s σ H x v vl vu lo hi sl Q I rx hs pl pu h
 obtain⟨a,xs,rfl,hx,q⟩:=h
 cases rx
 obtain⟨its,r,ht,hz⟩:=I.list hx
 have hlen:=r.length
 refine⟨"list",_,slot_list_getitem.lookup,ht.isList.typeIs,?_⟩
 refine wpAny_getItem_list_slice ht.isList hs pl pu .none (by simp) ?_ (by rw[List.size_toArray]<;>omega)
 rw[j0,<-hlen]
 refine⟨.ref s.heap.objs.size,_,I.laid (t':=s.toks) (o:=.lst (jk xs lo hi)) (fun b ob q=>Heap.get?_push_of_some _ q) (Nat.le_refl _) ?_,rfl,q _ (I.hok.fresh (Nat.le_refl _))⟩
 exact⟨Nat.le_trans (iH xs lo hi) hz,_,0,(r.drop (HT.By xs.length 0 lo)).take (HT.By xs.length xs.length hi - HT.By xs.length 0 lo),Heap.get?_push_size _ rfl⟩
def kT:fE X (compareOp .NotIn) (fun x y H Q=>∃i j,x = .str i/\y = .str j/\Q (.bl (!(!(Builtin.Str.occurrences j i 0 j.length 1).isEmpty))) H):=by
 intro pins s σ H x y v u Q I rx ry h
 obtain⟨i,j,rfl,rfl,q⟩:=h
 obtain⟨t,rfl⟩:=rx
 obtain⟨t',rfl⟩:=ry
 exact notIn_str ⟨.bl _,H,I,rfl,q⟩
def dJ:eJ X (.builtin "len") (fun xs H Q=>∃p ys,xs=[.ref p]/\(SqL X.K H p ys\/Cj X.K H p ys)/\Q (.int ys.length) H):=by
 intro pins s σ H xs us Q I r h
 obtain⟨p,ys,rfl,hq,q⟩:=h
 obtain⟨u,rfl,rx⟩:=eh r
 cases rx
 have hn:=gZ
 rcases hq with hq|hq
 ·obtain⟨its,r',pl,hz⟩:=I.list hq
  have hlen:=r'.length
  exact Calls.call_len_list pl.isList (by simp only[List.size_toArray]<;>omega) ⟨.int ys.length,H,I.tok _,⟨s.toks+1,by rw[List.size_toArray,hlen]⟩,q⟩
 ·obtain⟨its,r',pl,hz⟩:=I.tuple hq
  have hlen:=r'.length
  exact len_tuple pl (by simp only[List.size_toArray]<;>omega) ⟨.int ys.length,H,I.tok _,⟨s.toks+1,by rw[List.size_toArray,hlen]⟩,q⟩
def kU:eJ X (.builtin "len") (fun xs H Q=>∃z,xs=[.str z]/\z.length<=sizeLine/\Q (.int z.length) H):=by
 intro pins s σ H xs us Q I r h
 obtain⟨z,rfl,hz,q⟩:=h
 obtain⟨u,rfl,t,rfl⟩:=eh r
 have hn:=gZ
 exact len_str (by omega) ⟨.int z.length,H,I.tok _,⟨_,rfl⟩,q⟩
def fF:eJ X (.type "tuple") (fun xs H Q=>∃p ys,xs=[.ref p]/\((SqL X.K H p ys/\∀l,H l=none->Q (.ref l) (upd H l (.tup ys)))\/(Cj X.K H p ys/\Q (.ref p) H))):=by
 intro pins s σ H xs us Q I r h
 obtain⟨p,ys,rfl,h⟩:=h
 obtain⟨u,rfl,rx⟩:=eh r
 cases rx
 rcases h with⟨hq,q⟩|⟨hq,q⟩
 ·obtain⟨its,r',pl,hz⟩:=I.list hq
  have hlen:=r'.length
  refine call_tuple_list pl.isList (fun h' kp=>?_) (by simp only[List.size_toArray]<;>omega)
  have I1:Inv X pins σ H { s with heap:=h' }:=I.kept (t':=s.toks) kp
  have I2:Inv X pins σ (upd H h'.objs.size (.tup ys)) { s with heap:=h'.push { cls:=.type "tuple",data:=.seq its.toArray } }:=
   I1.laid (t':=s.toks) (fun b o e=>Heap.get?_push_of_some _ e) (Nat.le_refl _) (show ObjOk X.prog X.w _ _ _ (.tup ys)from ⟨hz,its,r',BR.new _ _⟩)
  exact⟨.ref h'.objs.size,_,I2,rfl,q _ (I1.hok.fresh (Nat.le_refl _))⟩
 ·obtain⟨its,r',pl,hz⟩:=I.tuple hq
  exact call_tuple_same pl ⟨.ref p,H,I,rfl,q⟩
def zD(K:Vo)(T:String)(x:V)(H:Hp):Prop:=match x with
 | .str _=>T = "str"
 | .int _=>T = "int"
 | .ref p=>(T = "list"/\∃xs,SqL K H p xs)\/(T = "tuple"/\∃o,K.lookup p=some o/\o.cls = .type "tuple"/\o.dict=none) \/
   (T = "dict"/\((∃kvs,H p=some (.dK kvs))\/∃kvs,H p=some (.dT kvs)))\/(T = "set"/\∃S n,H p=some (.set S n))
 |_=>False
def qI{pins:Va}{σ:St}{H:Hp}{s:Shared}{T:String}{x:V}{v:Value}(I:Inv X pins σ H s)(r:RelV x v)(ty:zD X.K T x H) :
  s.TypeIs v T/\∀a,v = .ref a->∃ob,s.heap.get? a=some ob/\ob.dict=none:=by
 cases x with
 |str z=>
  obtain⟨t,rfl⟩:=r
  cases (show T = "str" from ty)
  exact⟨typeIs_str s z t,fun _ e=>nomatch e⟩
 |int i=>
  obtain⟨t,rfl⟩:=r
  cases (show T = "int" from ty)
  exact⟨typeIs_int s i t,fun _ e=>nomatch e⟩
 |ref p=>
  cases r
  rcases ty with⟨rfl,xs,hq⟩|⟨rfl,o,hk,hc,hd⟩|⟨rfl,hk⟩|⟨rfl,S,n,hk⟩
  ·obtain⟨its,_,pl,_⟩:=I.list hq
   refine⟨pl.isList.typeIs,fun a e=>?_⟩
   cases e
   obtain⟨o,n,e,c,hd,_⟩:=pl
   exact⟨o,e,hd⟩
  ·refine⟨⟨o,I.Ey p o hk,hc⟩,fun a e=>?_⟩
   cases e
   exact⟨o,I.Ey _ o hk,hd⟩
  ·have z:∃o,s.heap.get? p=some o/\o.ExactDict:=by
    rcases hk with⟨kvs,hk⟩|⟨kvs,hk⟩
    ·obtain⟨_,_,_,_,o,_,_,e,ex,_⟩:=I.hok p _ hk
     exact⟨o,e,ex⟩
    ·obtain⟨_,_,_,_,o,_,_,e,ex,_⟩:=I.hok p _ hk
     exact⟨o,e,ex⟩
   obtain⟨o,e,ex⟩:=z
   refine⟨⟨o,e,ex.1⟩,fun a e2=>?_⟩
   cases e2
   exact⟨o,e,ex.2.1⟩
  ·obtain⟨o,_,_,_,e,ex,_⟩:=I.hok p _ hk
   refine⟨⟨o,e,ex.1⟩,fun a e2=>?_⟩
   cases e2
   exact⟨o,e,ex.2.1⟩
 |_=>exact False.elim ty
def z8(K:Vo)(T:String)(r:V->List V->Hp->VK->Prop)(to:TE):TE:=fun σ H Q=>to σ H fun x H1=>zD K T x H1/\r x [] H1 Q
def AS(K:Vo)(T:String)(r:V->List V->Hp->VK->Prop)(to:TE)(t:TA):TE:=fun σ H Q=>to σ H fun x H1=>zD K T x H1/\t σ H1 fun xs H2=>r x xs H2 Q
variable {o e:Expr} {es:List Expr} {to:TE} {t:TA} {name:Str} {apos cpos:Pos} {T id:String} {r:V->List V->Hp->VK->Prop}
def wo(pa:PlainAttrs T)(slot:Slot T name id)(hty:typeOf (.builtin id)=pure (.type "method_descriptor"))(hm:wk X id r)(ho:PE X o to)
  (hbase:attributeBase o name X.env (eval o X.env)=eval o X.env:=by rfl) (hline:(apos.endLine == cpos.line)=true:=by rfl):PE X (.Call (.Attribute o name apos) [] [] cpos) (z8 X.K T r to):=by
 intro pins s σ H Q I h
 refine wpAny_Call_method0_late hbase hline (Bh (ho pins s σ H _ I h) fun v s1 ⟨x,H1,I1,r1,ty,q1⟩=>?_)
 obtain⟨h1,h2⟩:=qI I1 r1 ty
 exact⟨T,id,pa,slot,hty,h1,h2,Calls.callWith_builtin rfl (PySem.evalArgs_none (hm pins s1 σ H1 x [] v [] Q I1 r1 .nil q1))⟩
def yv(pa:PlainAttrs T)(slot:Slot T name id)(hty:typeOf (.builtin id)=pure (.type "method_descriptor"))(hm:wk X id r)(ho:PE X o to)(ha:PA X (e::es) t)
  (hbase:attributeBase o name X.env (eval o X.env)=eval o X.env:=by rfl)
  (hfew:((backTo cpos (starEach (e::es) X.env)).all (fun x=>!x.1)&&(backToKw cpos (keywordEach [] X.env)).all (fun x=>x.1.isSome)
   && decide ((e::es).length+([]:List Keyword).length+(if ([]:List Keyword).isEmpty then 0 else 1) < 30))=true:=by rfl)
  (hline:(apos.endLine == cpos.line)=true:=by rfl) (hs:starEach (e::es) X.env=(false,eval e X.env)::starEach es X.env:=by rfl) (hplain:(backTo cpos (starEach es X.env)).any (·.1)=false:=by rfl) :
  PE X (.Call (.Attribute o name apos) (e::es) [] cpos) (AS X.K T r to t):=by
 intro pins s σ H Q I h
 refine wpAny_Call_method_late hbase hfew hline rfl (Bh (ho pins s σ H _ I h) fun v s1 ⟨x,H1,I1,r1,ty,q1⟩=>?_)
 obtain⟨h1,h2⟩:=qI I1 r1 ty
 refine⟨T,id,pa,slot,hty,h1,h2,?_⟩
 have hA:=ha cpos pins s1 σ H1 _ I1 q1
 rw[hs]at hA ⊢
 refine Calls.callWith_builtin (by show(false || (backTo cpos (starEach es X.env)).any (·.1))=false;rw[hplain]<;>rfl) (Calls.evalArgs_plain ?_)
 exact Bh hA fun us s2 ⟨vs,H2,I2,r2,q2⟩=>hm pins s2 σ H2 x vs v us Q I2 r1 r2 q2
end
def xK(X:Cx)(id:String)(r:V->List V->Hp->VK->Prop):Prop:=
 ∀(pins:Va) (s:Shared) (σ:St) (H:Hp) (x:V) (xs:List V) (v:Value) (us:Vv) (Q:VK),Inv X pins σ H s->RelV x v->Vals xs us->r x xs H Q->
  wpAny (model X.prog X.w) X.A (call (.builtin id) (v::us)) (EP X pins σ Q) X.xe s
theorem Vals.one:∀{x:V} {us:Vv},Vals [x] us->∃u,us=[u]/\RelV x u
 |_,_,.cons r .nil=>⟨_,rfl,r⟩
theorem Vals.zero:∀{us:Vv},Vals [] us->us=[]
 |_,.nil=>rfl
theorem Vals.dropLast{xs:List V}{us:Vv}(h:Vals xs us):Vals xs.dropLast us.dropLast:=by
 induction h with
 |nil=>exact .nil
 |cons r t ih=>
  cases t with
  |nil=>exact .nil
  |cons q t'=>exact .cons r ih
theorem Vals.eraseIdx:∀{xs:List V} {us:Vv} (i:Nat),Vals xs us->Vals (xs.eraseIdx i) (us.eraseIdx i)
 |_,_,_,.nil=>.nil
 |_,_,0,.cons _ t=>t
 |_,_,i+1,.cons r t=>.cons r (Vals.eraseIdx i t)
theorem Vals.reverse{xs:List V}{us:Vv}(h:Vals xs us):Vals xs.reverse us.reverse:=by
 induction h with
 |nil=>exact .nil
 |cons r t ih=>rw[List.reverse_cons,List.reverse_cons];exact Vals.append ih (.cons r .nil)
theorem Vals.rep{xs:List V}{us:Vv}(h:Vals xs us):∀k:Nat,Vals (List.replicate k xs).flatten (List.replicate k us).flatten
 |0=>.nil
 |k+1=>by
  rw[List.replicate_succ,List.replicate_succ,List.flatten_cons,List.flatten_cons]
  exact Vals.append h (Vals.rep h k)
def mU{α:Type}(l:List α):l.eraseIdx (l.length - 1)=l.dropLast:=by
 induction l with
 |nil=>rfl
 |cons a r ih=>
  cases r with
  |nil=>rfl
  |cons b r=>
   have e:(a::b::r).length - 1=((b::r).length - 1)+1:=by
    have h1:(a::b::r).length=r.length+2:=rfl
    have h2:(b::r).length=r.length+1:=rfl
    omega
   rw[e,List.eraseIdx_cons_succ,ih]
   all_goals rfl
theorem kq{α:Type}:∀(l:List α) (i:Nat),(l.eraseIdx i).length<=l.length
 |[],_=>Nat.le_refl _
 |_::_,0=>Nat.le_succ _
 |_::r,i+1=>Nat.succ_le_succ (kq r i)
theorem kr(its:Vv):∀(k:Nat) (acc:Vv),
  List.foldl (fun x1 x2=>x1++x2) acc.toArray (List.replicate k its.toArray)=(acc++(List.replicate k its).flatten).toArray
 |0,acc=>by simp
 |k+1,acc=>by
  have e:acc.toArray++its.toArray=(acc++its).toArray:=by simp
  have e2:(acc++its)++(List.replicate k its).flatten=acc++(List.replicate (k+1) its).flatten:=by
   rw[List.replicate_succ,List.flatten_cons,List.append_assoc]
  rw[<-e2,<-kr its k (acc++its),<-e,List.replicate_succ,List.foldl_cons]
section
variable {X:Cx} {pins:Va} {σ:St} {H:Hp} {s:Shared} {l b:Addr} {xs ys zs:List V}
def Inv.Ek{its its':Vv}{n:Nat}{f:Array Value->Array Value}{t':Nat}(I:Inv X pins σ H s)(hH:H l=some (.lst xs))
  (e:s.heap.get? l=some { cls:=.type "list",data:=.seq its.toArray n }) (hf:f its.toArray=its'.toArray) (hv:Vals ys its') (hz:ys.length<=sizeLine) :
  Inv X pins σ (upd H l (.lst ys)) { s with heap:=s.heap.update l (Obj.mapSeq f),toks:=t' }:=by
 have q:=PySem.IsL.update e f
 rw[hf]at q
 refine I.write (x:=l) (e:=l) (by rw[hH];exact trivial) (.inl rfl) (fun b' u hb hu=>(Heap.get?_update_other s.heap (Obj.mapSeq f) (Ne.symm hb)).trans hu) ⟨_,q⟩ ?_
 exact⟨hz,its',_,hv,q⟩
def Inv.FV{its:Vv}{t':Nat}(I:Inv X pins σ H s)(hv:Vals ys its)(hz:ys.length<=sizeLine) :
  Inv X pins σ (upd H s.heap.objs.size (.lst ys)) { s with heap:=s.heap.push { cls:=.type "list",data:=.seq its.toArray },toks:=t' }:=
 I.laid (fun _ _ q=>Heap.get?_push_of_some _ q) (Nat.le_refl _) ⟨hz,its,0,hv,Heap.get?_push_size _ rfl⟩
theorem Inv.fresh(I:Inv X pins σ H s):H s.heap.objs.size=none:=I.hok.fresh (Nat.le_refl _)
def Inv.Dx(I:Inv X pins σ H s)(hH:H l=some (.lst xs)):xs.length<=sizeLine/\∃(its:Vv) (n:Nat),Vals xs its/\xs.length=its.length/\s.heap.get? l=some { cls:=.type "list",data:=.seq its.toArray n }:=by
 obtain⟨z,its,n,r,e⟩:=I.hok l _ hH
 exact⟨z,its,n,r,r.length,e⟩
def lS{n:Nat}(h:n<=sizeLine):Builtin.List.listTooLong n=false:=by
 unfold Builtin.List.listTooLong
 exact decide_eq_false (by omega)
end
section
variable {X:Cx}
noncomputable def tN:V->List V->Hp->VK->Prop:=fun x vs H Q=>∃l xs y,x = .ref l/\vs=[y]/\H l=some (.lst xs)/\xs.length < sizeLine/\Q .non (upd H l (.lst (xs++[y])))
def o4:xK X "list.append" tN:=by
 intro pins s σ H x vs v us Q I rx rv h
 obtain⟨l,xs,y,rfl,rfl,hH,hz,q⟩:=h
 cases rx
 obtain⟨u,rfl,ru⟩:=rv.one
 obtain⟨z,its,n,r,hl,e⟩:=I.Dx hH
 refine call_meets F.slot_list_append ⟨_,e,rfl⟩ F.entry_list_append (F.args_list_append_2 _ _) (PySem.list_append l its.toArray n u (by rw[List.size_toArray];omega)) ⟨e,?_⟩
 refine⟨.non,_,I.Ek (its':=its++[u]) hH e (by simp) (r.append (.cons ru .nil)) ?_,rfl,q⟩
 rw[List.length_append,List.length_singleton]
 omega
noncomputable def tO:V->List V->Hp->VK->Prop:=fun x vs H Q=>∃l b xs zs,x = .ref l/\vs=[.ref b]/\H l=some (.lst xs)/\H b=some (.lst zs)/\xs.length+zs.length<=sizeLine/\Q .non (upd H l (.lst (xs++zs)))
def o5:xK X "list.extend" tO:=by
 intro pins s σ H x vs v us Q I rx rv h
 obtain⟨l,b,xs,zs,rfl,rfl,hH,hB,hz,q⟩:=h
 cases rx
 obtain⟨u,rfl,ru⟩:=rv.one
 cases ru
 obtain⟨z,its,n,r,hl,e⟩:=I.Dx hH
 obtain⟨z2,its2,n2,r2,hl2,e2⟩:=I.Dx hB
 have hsz:its.toArray.size+its2.toArray.size<=sizeLine:=by rw[List.size_toArray,List.size_toArray];omega
 have Ez:¬(!its.toArray.isEmpty&&Builtin.List.listTooLong (its.toArray.size+its2.toArray.size))=true:=by
  rw[lS hsz,Bool.and_false]
  exact Bool.false_ne_true
 refine call_meets F.slot_list_extend ⟨_,e,rfl⟩ F.entry_list_extend (F.args_list_extend_2 _ _)
  (AutoSeq1.list_extend_list_list_0 l its.toArray n b its2.toArray n2 Ez (by rw[List.size_toArray];omega) (by omega)) ⟨e,e2,?_⟩
 refine⟨.non,_,I.Ek (its':=its++its2) hH e (by simp) (r.append r2) ?_,rfl,q⟩
 rw[List.length_append]
 omega
noncomputable def z9:V->List V->Hp->VK->Prop:=fun x vs H Q=>∃l xs y,x = .ref l/\vs=[]/\H l=some (.lst xs)/\xs[xs.length - 1]?=some y/\Q y (upd H l (.lst xs.dropLast))
def wq:xK X "list.pop" z9:=by
 intro pins s σ H x vs v us Q I rx rv h
 obtain⟨l,xs,y,rfl,rfl,hH,hy,q⟩:=h
 cases rx
 have GP:=rv.zero
 subst GP
 obtain⟨z,its,n,r,hl,e⟩:=I.Dx hH
 obtain⟨u,hu,ru⟩:=r.get hy
 have hy':its.toArray[its.toArray.size - 1]?=some u:=by
  show its.toArray[its.length - 1]?=some u
  rw[<-Array.getElem?_toList,<-hl]
  exact hu
 refine call_meets F.slot_list_pop ⟨_,e,rfl⟩ F.entry_list_pop (F.args_list_pop_1 _) (MeetsSeq.list_pop_last l its.toArray n u hy' (by rw[List.size_toArray];omega)) ⟨e,?_⟩
 refine⟨y,_,I.Ek (its':=its.dropLast) hH e ?_ r.dropLast ?_,ru,q⟩
 ·show its.toArray.eraseIdxIfInBounds (its.toArray.size - 1)=its.dropLast.toArray
  rw[List.size_toArray,List.eraseIdxIfInBounds_toArray,mU]
 ·rw[List.length_dropLast]
  omega
noncomputable def wt:V->List V->Hp->VK->Prop:=fun x vs H Q=>∃l xs i k y,x = .ref l/\vs=[.int i]/\H l=some (.lst xs)/\-(2 ^ 63)<=i/\i < 2 ^ 63/\seqIndex? i xs.length=some k/\xs[k]?=some y/\Q y (upd H l (.lst (xs.eraseIdx k)))
def qJ:xK X "list.pop" wt:=by
 intro pins s σ H x vs v us Q I rx rv h
 obtain⟨l,xs,i,k,y,rfl,rfl,hH,h1,h2,hk,hy,q⟩:=h
 cases rx
 obtain⟨u,rfl,ru⟩:=rv.one
 obtain⟨t,rfl⟩:=ru
 obtain⟨z,its,n,r,hl,e⟩:=I.Dx hH
 obtain⟨w,hw,rw'⟩:=r.get hy
 refine call_meets F.slot_list_pop ⟨_,e,rfl⟩ F.entry_list_pop (F.args_list_pop_2 _ _)
  (MeetsSeq.list_pop_at l its.toArray n i t k w (fitsIndex_both h1 h2) (by rw[List.size_toArray,<-hl];exact hk) (by rw[<-Array.getElem?_toList];exact hw) (by rw[List.size_toArray];omega)) ⟨e,?_⟩
 refine⟨y,_,I.Ek (its':=its.eraseIdx k) hH e ?_ (r.eraseIdx k) ?_,rw',q⟩
 ·show its.toArray.eraseIdxIfInBounds k=(its.eraseIdx k).toArray
  rw[List.eraseIdxIfInBounds_toArray]
 ·have:=kq xs k
  omega
noncomputable def wu:V->List V->Hp->VK->Prop:=fun x vs H Q=>∃l xs,x = .ref l/\vs=[]/\H l=some (.lst xs)/\Q .non (upd H l (.lst []))
def qK:xK X "list.clear" wu:=by
 intro pins s σ H x vs v us Q I rx rv h
 obtain⟨l,xs,rfl,rfl,hH,q⟩:=h
 cases rx
 have GP:=rv.zero
 subst GP
 obtain⟨z,its,n,r,hl,e⟩:=I.Dx hH
 refine call_meets F.slot_list_clear ⟨_,e,rfl⟩ F.entry_list_clear (F.args_list_clear_1 _) (AutoSeq1.list_clear_list_0 l its.toArray n (by rw[List.size_toArray];omega)) ⟨e,?_⟩
 exact⟨.non,_,I.Ek (its':=[]) (ys:=[]) hH e rfl .nil (Nat.zero_le _),rfl,q⟩
def z_:R2:=fun x y H Q=>∃l b xs zs,x = .ref l/\y = .ref b/\H l=some (.lst xs)/\H b=some (.lst zs)/\xs.length+zs.length<=sizeLine/\∀p,H p=none->Q (.ref p) (upd H p (.lst (xs++zs)))
def wv:fE X (binaryOp .Add) z_:=by
 intro pins s σ H x y v u Q I rx ry h
 obtain⟨l,b,xs,zs,rfl,rfl,hH,hB,hz,q⟩:=h
 cases rx
 cases ry
 obtain⟨z,its,n,r,hl,e⟩:=I.Dx hH
 obtain⟨z2,its2,n2,r2,hl2,e2⟩:=I.Dx hB
 refine PySem.P.add_list e e2 ?_ (by rw[List.size_toArray,List.size_toArray];omega)
 have ea:its.toArray++its2.toArray=(its++its2).toArray:=by simp
 rw[ea]
 exact⟨.ref _,_,I.FV (t':=s.toks) (r.append r2) (by rw[List.length_append];omega),rfl,q _ I.fresh⟩
def Aa:R2:=fun x y H Q=>∃l k xs,x = .ref l/\y = .int k/\H l=some (.lst xs)/\-(2 ^ 63)<=k/\k < 2 ^ 63/\xs.length * k.toNat<=sizeLine/\
 ∀p,H p=none->Q (.ref p) (upd H p (.lst (List.replicate k.toNat xs).flatten))
def tP{α:Type}(xs:List α)(k:Nat):(List.replicate k xs).flatten.length=k * xs.length:=by
 induction k with
 |zero=>simp
 |succ k ih=>rw[List.replicate_succ,List.flatten_cons,List.length_append,ih,Nat.succ_mul,Nat.add_comm]
def ww:fE X (binaryOp .Mult) Aa:=by
 intro pins s σ H x y v u Q I rx ry h
 obtain⟨l,k,xs,rfl,rfl,hH,h1,h2,hz,q⟩:=h
 cases rx
 obtain⟨t,rfl⟩:=ry
 obtain⟨z,its,n,r,hl,e⟩:=I.Dx hH
 have hlen:its.toArray.size * k.toNat<=sizeLine:=by rw[List.size_toArray,<-hl];exact hz
 have hcap:¬its.toArray.size * k.toNat > (2 ^ 63 - 1) / 8:=by
  have:(sizeLine:Nat)<=(2 ^ 63 - 1) / 8:=by decide
  omega
 have hfit:¬(!Builtin.List.listFitsIndex k)=true:=by
  rw[fitsIndex_both h1 h2]
  exact Bool.false_ne_true
 have Ez:¬Builtin.List.listTooLong (its.toArray.size * k.toNat)=true:=by
  rw[lS hlen]
  exact Bool.false_ne_true
 have hnew:List.foldl (fun x1 x2=>x1++x2) #[] (List.replicate (if its.toArray.isEmpty=true then 0 else k.toNat) its.toArray)=(List.replicate k.toNat its).flatten.toArray:=by
  have f0:∀m:Nat,List.foldl (fun x1 x2=>x1++x2) #[] (List.replicate m its.toArray)=(List.replicate m its).flatten.toArray:=fun m=>by
   have:=kr its m []
   rw[List.nil_append]at this
   exact this
  rw[f0]
  cases its with
  |nil=>simp
  |cons a r'=>rw[if_neg (by simp)]
 refine wpAny_binaryOp_repeat_ref (T:="list") (U:="int") (by decide) ⟨_,e,rfl⟩ (fun s'=>typeIs_int s' k t) noFill_list_mul F.fills_int_mul F.slot_int_rmul repeat_list F.slot_int_index.lookup
  (call_meets F.slot_int_rmul (typeIs_int s k t) F.entry_int_rmul (F.args_int_rmul_2 _ _) (int___rmul___int_list k t l its.toArray n)
   ⟨e,rfl,⟨_,e,rfl⟩,call_meets F.slot_list_mul ⟨_,e,rfl⟩ F.entry_list_mul (F.args_list_mul_2 _ _) (AutoListH.list___mul___list_int_3 l its.toArray n k t hfit hcap Ez) ⟨e,?_⟩⟩)
 rw[hnew]
 exact⟨.ref _,_,I.FV (t':=s.toks) (r.rep k.toNat) (by rw[tP,Nat.mul_comm];exact hz),rfl,q _ I.fresh⟩
end
section
variable {prog:Program} {w:World} {A:Around} {E:Vq} {s:Shared}
end
section
variable {X:Cx}
end
section
variable {κ:Type} [DecidableEq κ]
noncomputable def fz(kvs:List (κ×V))(k:κ):Option V:=(kvs.find? fun kv=>decide (kv.1=k)).map (·.2)
noncomputable def eL(kvs:List (κ×V))(k:κ)(v:V):List (κ×V):=
 if (kvs.any fun kv=>decide (kv.1=k))=true then kvs.map (fun kv=>if kv.1=k then (kv.1,v) else kv) else kvs++[(k,v)]
def Cy{p:κ×V}{r:List (κ×V)}{k:κ}(e:p.1=k):fz (p::r) k=some p.2:=by simp[fz,List.find?_cons,e]
def B8{p:κ×V}{r:List (κ×V)}{k:κ}(e:¬p.1=k):fz (p::r) k=fz r k:=by simp[fz,List.find?_cons,e]
theorem jm(k:κ):∀kvs:List (κ×V),(kvs.any fun kv=>decide (kv.1=k))=(fz kvs k).isSome
 |[]=>rfl
 |p::r=>by
  rw[List.any_cons]
  by_cases e:p.1=k
  ·simp only[Cy e,decide_eq_true e,Bool.true_or,Option.isSome_some]
  ·rw[B8 e,decide_eq_false e,Bool.false_or];exact jm k r
def eM(kvs:List (κ×V))(k:κ)(v:V):(eL kvs k v).length<=kvs.length+1:=by
 unfold eL
 split
 ·rw[List.length_map];omega
 ·rw[List.length_append,List.length_cons,List.length_nil];omega
def RelO.Cz{o:Option V}{u:Option Value}(r:RelO o u):o.isSome=u.isSome:=by
 cases o with
 |none=>cases u with
  |none=>rfl
  |some _=>exact(show False from r).elim
 |some _=>cases u with
  |none=>exact(show False from r).elim
  |some _=>rfl
theorem RelO.getD{o:Option V}{u:Option Value}{d:V}{d':Value}(r:RelO o u)(rd:RelV d d'):RelV (o.getD d) (u.getD d'):=by
 cases o with
 |none=>cases u with
  |none=>exact rd
  |some _=>exact(show False from r).elim
 |some _=>cases u with
  |none=>exact(show False from r).elim
  |some _=>exact r
def KV.val{kvs:List (κ×V)}{vs:List (κ×Value)}(r:KV kvs vs)(k:κ):RelO (fz kvs k) (valueAt vs k):=by
 unfold KV at r
 induction r with
 |nil=>exact True.intro
 |@cons p q ps qs h t ih=>
  obtain⟨h1,h2⟩:=h
  by_cases e:p.1=k
  ·have e':q.1=k:=h1.symm.trans e
   have b:valueAt (q::qs) k=some q.2:=by simp[valueAt,List.find?_cons,e']
   rw[Cy e,b];exact h2
  ·have e':¬q.1=k:=fun z=>e (h1.trans z)
   have b:valueAt (q::qs) k=valueAt qs k:=by simp[valueAt,List.find?_cons,e']
   rw[B8 e,b];exact ih
theorem KV.any{kvs:List (κ×V)}{vs:List (κ×Value)}(r:KV kvs vs)(k:κ):(kvs.any fun kv=>decide (kv.1=k))=vs.any fun kv=>decide (kv.1=k):=by
 unfold KV at r
 induction r with
 |nil=>rfl
 |cons h t ih=>rw[List.any_cons,List.any_cons,ih,h.1]
def KV.repl{kvs:List (κ×V)}{vs:List (κ×Value)}(r:KV kvs vs)(k:κ){y:V}{u:Value}(ry:RelV y u) :
  KV (kvs.map fun kv=>if kv.1=k then (kv.1,y) else kv) (vs.map fun kv=>if kv.1=k then (kv.1,u) else kv):=by
 unfold KV at r ⊢
 induction r with
 |nil=>exact .nil
 |@cons p q ps qs h t ih=>
  rw[List.map_cons,List.map_cons]
  refine .cons ?_ ih
  obtain⟨h1,h2⟩:=h
  by_cases e:p.1=k
  ·rw[if_pos e,if_pos (h1.symm.trans e)];exact⟨h1,ry⟩
  ·rw[if_neg e,if_neg (fun z=>e (h1.trans z))];exact⟨h1,h2⟩
def KV.put{kvs:List (κ×V)}{vs:List (κ×Value)}(r:KV kvs vs)(k:κ){y:V}{u:Value}(ry:RelV y u):KV (eL kvs k y) (stored vs k u):=by
 unfold eL stored
 rw[r.any k]
 by_cases e:(vs.any fun kv=>decide (kv.1=k))=true
 ·rw[if_pos e,if_pos e];exact r.repl k ry
 ·rw[if_neg e,if_neg e];exact Paired.snoc r ⟨rfl,ry⟩
theorem KV.length{kvs:List (κ×V)}{vs:List (κ×Value)}(r:KV kvs vs):kvs.length=vs.length:=Paired.length r
end
def iI{P:Program}{w:World}{k:bb}{u:Value}(r:RelV (kV k) u):(aP P w).is k u=true:=by
 cases k with
 |inl i=>obtain⟨t,e⟩:=(show ∃t,u=Value.int i t from r);subst e;exact lL P w i t
 |inr x=>obtain⟨t,e⟩:=(show ∃t,u=Value.str x t from r);subst e;exact lM P w x t
theorem kw{P:Program}{w:World}:∀{ks:List bb} {us:Vv},Vals (ks.map kV) us->ItemsAre (aP P w) ks us
 |[],_,r=>by rw[List.map_nil]at r;cases r;exact .nil
 |k::ks,_,r=>by
  rw[List.map_cons]at r
  cases r with
  |cons h t=>exact .cons (iI h) (kw t)
noncomputable abbrev KT(H:Hp):List (List bb×V)->List (List bb×Addr×Value)->Prop:=Paired fun p q=>p.1=q.1/\H q.2.1=some (.tup (p.1.map kV))/\RelV p.2 q.2.2
def KT.val{H:Hp}{kvs:List (List bb×V)}{xs:List (List bb×Addr×Value)}(r:KT H kvs xs)(k:List bb):RelO (fz kvs k) ((atKey xs k).map (·.2)):=by
 induction r with
 |nil=>exact True.intro
 |@cons p q ps qs h t ih=>
  obtain⟨h1,_,h2⟩:=h
  by_cases e:p.1=k
  ·have e':q.1=k:=h1.symm.trans e
   have b:atKey (q::qs) k=some q.2:=by simp[atKey,List.find?_cons,e']
   rw[Cy e,b];exact h2
  ·have e':¬q.1=k:=fun z=>e (h1.trans z)
   have b:atKey (q::qs) k=atKey qs k:=by simp[atKey,List.find?_cons,e']
   rw[B8 e,b];exact ih
def KT.repl{H:Hp}{kvs:List (List bb×V)}{xs:List (List bb×Addr×Value)}(r:KT H kvs xs)(k:List bb){y:V}{u:Value}(ry:RelV y u) :
  KT H (kvs.map fun kv=>if kv.1=k then (kv.1,y) else kv) (xs.map (putAt k u)):=by
 induction r with
 |nil=>exact .nil
 |@cons p q ps qs h t ih=>
  rw[List.map_cons,List.map_cons]
  refine .cons ?_ ih
  obtain⟨h1,h2,h3⟩:=h
  unfold putAt
  by_cases e:p.1=k
  ·rw[if_pos e,if_pos (h1.symm.trans e)];exact⟨h1,h2,ry⟩
  ·rw[if_neg e,if_neg (fun z=>e (h1.trans z))];exact⟨h1,h2,h3⟩
def KT.put{H:Hp}{kvs:List (List bb×V)}{xs:List (List bb×Addr×Value)}(r:KT H kvs xs)(k:List bb){b:Addr}{y:V}{u:Value}(hb:H b=some (.tup (k.map kV)))(ry:RelV y u) :
  KT H (eL kvs k y) (storedH xs k b u):=by
 have e:(kvs.any fun kv=>decide (kv.1=k))=(atKey xs k).isSome:=by
  rw[jm,(r.val k).Cz,Option.isSome_map]
 unfold eL storedH
 rw[e]
 by_cases q:(atKey xs k).isSome=true
 ·rw[if_pos q,if_pos q];exact r.repl k ry
 ·rw[if_neg q,if_neg q];exact Paired.snoc r ⟨rfl,hb,ry⟩
def KT.keeps{H H':Hp}{kvs:List (List bb×V)}{xs:List (List bb×Addr×Value)}(r:KT H kvs xs)(ht:∀b ys,H b=some (.tup ys)->H' b=some (.tup ys)):KT H' kvs xs:=
 Paired.Fi r fun _ _ z=>⟨z.1,ht _ _ z.2.1,z.2.2⟩
section
variable {P:Program} {w:World} {H:Hp} {h:Heap} {a:Addr}
def vc{u:HO}(ok:CT P w H h)(e:Rd H a u):ObjOk P w H h a u:=e.ok ok
def iJ{kvs:List (bb×V)}(ok:CT P w H h)(e:Rd H a (.dK kvs)):kvs.length<=sizeLine/\(a == sysModules)=false/\∃vs,KV kvs vs/\h.DictOf (aP P w) a vs:=
 show ObjOk P w H h a (.dK kvs)from vc ok e
def vd{kvs:List (bb×V)}(ok:CT P w H h)(e:H a=some (.dK kvs)):kvs.length<=sizeLine/\(a == sysModules)=false/\∃vs,KV kvs vs/\h.DictOf (aP P w) a vs:=iJ ok (.inl e)
def cn{ks:List bb}(ok:CT P w H h)(e:H a=some (.tup (ks.map kV))):(tupleKind (aP P w)).is h ks a:=by
 obtain⟨_,its,r,o,h1,_,h2,n,h3⟩:=(show ObjOk P w H h a (.tup (ks.map kV))from ok a _ e)
 exact⟨o,its.toArray,n,h1,h2,h3,by simpa using kw r⟩
def jo{kvs:List (List bb×V)}(ok:CT P w H h)(e:Rd H a (.dT kvs)):kvs.length<=sizeLine/\(a == sysModules)=false/\
  ∃xs,KT H kvs xs/\h.DictOfH (tupleKind (aP P w)) a xs:=by
 obtain⟨z,y,xs,r,o,es,ep,h1,h2,h3,h4,h5⟩:=(show ObjOk P w H h a (.dT kvs)from vc ok e)
 refine⟨z,y,xs,r,o,es,ep,h1,h2,h3,h4,fun x hx=>?_,h5⟩
 have all:∀{l:List (List bb×V)} {m:List (List bb×Addr×Value)},KT H l m->∀x∈m,(tupleKind (aP P w)).is h x.1 x.2.1:=by
  intro l m q
  induction q with
  |nil=>intro x hx;exact nomatch hx
  |@cons p q ps qs hq t ih=>
   intro x hx
   rcases List.mem_cons.mp hx with e|hx
   ·subst e
    exact cn ok (by rw[<-hq.1];exact hq.2.1)
   ·exact ih x hx
 exact all r x hx
def yw{kvs:List (List bb×V)}(ok:CT P w H h)(e:H a=some (.dT kvs)):kvs.length<=sizeLine/\(a == sysModules)=false/\
  ∃xs,KT H kvs xs/\h.DictOfH (tupleKind (aP P w)) a xs:=jo ok (.inl e)
end
def DGet(H:Hp)(a:Addr)(y:V)(r:Option V):Prop:=
 (∃kvs k,Rd H a (.dK kvs)/\y=kV k/\r=fz kvs k)\/∃kvs k b,Rd H a (.dT kvs)/\y = .ref b/\H b=some (.tup (k.map kV))/\r=fz kvs k
def EA(H:Hp)(a:Addr)(y v:V)(H':Hp):Prop:=
 (∃kvs k,H a=some (.dK kvs)/\y=kV k/\kvs.length < sizeLine/\H'=upd H a (.dK (eL kvs k v))) \/
 ∃kvs k b,H a=some (.dT kvs)/\y = .ref b/\H b=some (.tup (k.map kV))/\kvs.length < sizeLine/\H'=upd H a (.dT (eL kvs k v))
theorem DGet.k{H:Hp}{a:Addr}{kvs:List (bb×V)}{k:bb}(e:H a=some (.dK kvs)):DGet H a (kV k) (fz kvs k):=.inl ⟨kvs,k,.inl e,rfl,rfl⟩
theorem EA.k{H:Hp}{a:Addr}{kvs:List (bb×V)}{k:bb}{v:V}(e:H a=some (.dK kvs))(hl:kvs.length < sizeLine):EA H a (kV k) v (upd H a (.dK (eL kvs k v))):=.inl ⟨kvs,k,e,rfl,hl,rfl⟩
section
variable {X:Cx} {pins:Va} {σ:St} {H:Hp} {s:Shared} {a:Addr} {y v:V} {u r:Value} {o:Option V} {A:Around} {E:Vq}
def Inv.big(I:Inv X pins σ H s):sysModules < s.heap.objs.size:=by
 have h:mainGlobals < s.heap.objs.size:=(I.mod.glob.keeps I.bk).lt
 exact Nat.lt_trans (by decide) h
def o6{Q:Vq}(hu:A.units+1 < cLine)(I:Inv X pins σ H s)(g:DGet H a y (some v))(ry:RelV y u)(h:∀w' s',Inv X pins σ H s'->RelV v w'->Q w' s') :
  wpAny (model X.prog X.w) A (getItem (.ref a) u) Q E s:=by
 rcases g with⟨kvs,k,e,ey,l⟩|⟨kvs,k,b,e,ey,eb,l⟩
 ·subst ey
  obtain⟨z,hd,vs,rel,dd⟩:=iJ I.hok e
  obtain⟨w',hw,rw'⟩:=RelO.some_of (v:=v) (o:=valueAt vs k) (by rw[l];exact rel.val k)
  exact wpAny_getItem_of (iI ry) dd.mapOf hw (h w' _ (I.tok _) rw')
 ·subst ey
  cases (show u=Value.ref b from ry)
  obtain⟨z,hd,xs,rel,dd⟩:=jo I.hok e
  obtain⟨w',hw,rw'⟩:=RelO.some_of (v:=v) (o:=(atKey xs k).map (·.2)) (by rw[l];exact rel.val k)
  obtain⟨p,hp,hp2⟩:=Option.map_eq_some_iff.mp hw
  refine wpAny_getItem_heap (tupleKind_room_in1 hu) (cn I.hok eb) dd hp ?_
  rw[hp2]
  exact h w' _ (I.tok _) rw'
def yx{Q:Vq}(hu:A.units+1 < cLine)(I:Inv X pins σ H s)(g:DGet H a y o)(ry:RelV y u)(h:∀s',Inv X pins σ H s'->Q (.bool o.isSome) s') :
  wpAny (model X.prog X.w) A (compareOp .In u (.ref a)) Q E s:=by
 rcases g with⟨kvs,k,e,ey,l⟩|⟨kvs,k,b,e,ey,eb,l⟩
 ·subst ey
  obtain⟨z,hd,vs,rel,dd⟩:=iJ I.hok e
  refine wpAny_in_of (iI ry) hd dd.mapOf ?_
  rw[<-(rel.val k).Cz,<-l]
  exact h _ (I.tok _)
 ·subst ey
  cases (show u=Value.ref b from ry)
  obtain⟨z,hd,xs,rel,dd⟩:=jo I.hok e
  refine wpAny_in_heap (tupleKind_room_in1 hu) (cn I.hok eb) hd dd ?_
  have q:=(rel.val k).Cz
  rw[Option.isSome_map]at q
  rw[<-q,<-l]
  exact h _ (I.tok _)
def oj{Q:Vq}(hu:A.units+1 < cLine)(I:Inv X pins σ H s)(g:DGet H a y o)(ry:RelV y u)(h:∀s',Inv X pins σ H s'->Q (.bool (!o.isSome)) s') :
  wpAny (model X.prog X.w) A (compareOp .NotIn u (.ref a)) Q E s:=by
 rcases g with⟨kvs,k,e,ey,l⟩|⟨kvs,k,b,e,ey,eb,l⟩
 ·subst ey
  obtain⟨z,hd,vs,rel,dd⟩:=iJ I.hok e
  refine wpAny_notIn_of (iI ry) hd dd.mapOf ?_
  rw[<-(rel.val k).Cz,<-l]
  exact h _ (I.tok _)
 ·subst ey
  cases (show u=Value.ref b from ry)
  obtain⟨z,hd,xs,rel,dd⟩:=jo I.hok e
  refine wpAny_notIn_heap (tupleKind_room_in1 hu) (cn I.hok eb) hd dd ?_
  have q:=(rel.val k).Cz
  rw[Option.isSome_map]at q
  rw[<-q,<-l]
  exact h _ (I.tok _)
def kW{h':Heap}{t':Nat}{ob:HO}(I:Inv X pins σ H s)(mu:xT (H a))(hs:Heap.SameBut a s.heap h')(he:∃q,h'.get? a=some q)(new:ObjOk X.prog X.w (upd H a ob) h' a ob) :
  Inv X pins σ (upd H a ob) { s with heap:=h',toks:=t' }:=
 I.write (x:=a) (e:=a) mu (.inl rfl) (fun b q hb z=>(hs.2 b hb).trans z) he new
def qL{P:Program}{w:World}{H':Hp}{h':Heap}{kvs:List (bb×V)}{vs:List (bb×Value)}(z:kvs.length<=sizeLine)(hd:(a == sysModules)=false)(rel:KV kvs vs)(dd:h'.DictOf (aP P w) a vs) :
  ObjOk P w H' h' a (.dK kvs):=⟨z,hd,vs,rel,dd⟩
def o7{H':Hp}{Q:Unit->Shared->Prop}(hu:A.units+1 < cLine)(I:Inv X pins σ H s)(g:EA H a y v H')(ry:RelV y u)(rv:RelV v r)(h:∀s',Inv X pins σ H' s'->Q () s') :
  wpAny (model X.prog X.w) A (setItem (.ref a) u r) Q E s:=by
 rcases g with⟨kvs,k,e,ey,l,eH⟩|⟨kvs,k,b,e,ey,eb,l,eH⟩
 ·subst ey eH
  obtain⟨z,hd,vs,rel,dd⟩:=vd I.hok e
  have hz:vs.length<=sizeLine:=by rw[<-rel.length];exact z
  have hl:(eL kvs k v).length<=sizeLine:=by have:=eM kvs k v;omega
  refine wpAny_setItem_pairs (hsz:=hz) (iI ry) dd fun h' Fq hs=>h _ ?_
  have he:∃q,h'.get? a=some q:=let ⟨q,_,_,hq,_⟩:=Fq;⟨q,hq⟩
  exact kW I (by rw[e];exact True.intro) hs he (qL hl hd (rel.put k rv) Fq)
 ·subst ey eH
  cases (show u=Value.ref b from ry)
  obtain⟨z,hd,xs,rel,dd⟩:=yw I.hok e
  have hz:xs.length<=sizeLine:=by rw[<-Paired.length rel];exact z
  have hl:(eL kvs k v).length<=sizeLine:=by have:=eM kvs k v;omega
  refine wpAny_setItem_heap (hsz:=hz) (tupleKind_room_in1 hu) (cn I.hok eb) dd fun h' Fq hs=>h _ ?_
  obtain⟨q,es,ep,hq,h2,h3,h4,_,h5⟩:=Fq
  refine kW I (by rw[e];exact True.intro) hs ⟨q,hq⟩ ⟨hl,hd,_,(rel.put k eb rv).keeps fun c ys ec=>?_,q,es,ep,hq,h2,h3,h4,h5⟩
  rw[ay (xS ec e (fun z=>nomatch z))]
  exact ec
end
section
variable {X:Cx} {pins:Va} {σ:St} {H:Hp} {s:Shared} {a:Addr} {kvs:List (bb×V)} {k:bb} {u:Value} {A:Around} {E:Vq}
def yy{Q:Vq}(I:Inv X pins σ H s)(e:Rd H a (.dK kvs))(h:∀t s',Inv X pins σ H s'->Q (.int kvs.length t) s'):wpAny (model X.prog X.w) A (call (.builtin "len") [.ref a]) Q E s:=by
 obtain⟨z,hd,vs,rel,dd⟩:=iJ I.hok e
 refine call_len_dict hd dd (by rw[<-rel.length];rw[sizeLine_eq]at z;omega) ?_
 rw[<-rel.length]
 exact h _ _ (I.tok _)
end
def lU{X:Cx}{pins:Va}{σ:St}{H:Hp}{s:Shared}{a:Addr}{y:V}{o:Option V}(I:Inv X pins σ H s)(g:DGet H a y o):s.TypeIs (.ref a) "dict":=by
 rcases g with⟨kvs,k,e,_,_⟩|⟨kvs,k,b,e,_,_,_⟩
 ·obtain⟨_,_,vs,_,dd⟩:=iJ I.hok e
  exact dd.typeIs
 ·obtain⟨_,_,xs,_,dd⟩:=jo I.hok e
  exact dd.typeIs
section
variable {X:Cx} {o i e value:Expr} {pos pos' tpos:Pos} {td ty tv:TE}
end
def qM{P:Program}{w:World}{H:Hp}(h:Heap)(hb:sysModules < h.objs.size):ObjOk P w H (h.push { cls:=.type "dict",data:=.dict #[] }) h.objs.size (.dK []):=
 ⟨Nat.zero_le _,beq_eq_false_iff_ne.mpr (Ne.symm (Nat.ne_of_lt hb)),[],.nil,Heap.DictOf.new h⟩
section
variable {X:Cx} {pos:Pos}
end
noncomputable def kX:List (TE×TE)->St->Hp->(List (V×V)->Hp->Prop)->Prop
 |[],_,H,Q=>Q [] H
 |(tk,tv)::r,σ,H,Q=>tk σ H fun x H1=>tv σ H1 fun y H2=>kX r σ H2 fun ps H3=>Q ((x,y)::ps) H3
noncomputable abbrev VV:List (V×V)->List (Value×Value)->Prop:=Paired fun p q=>RelV p.1 q.1/\RelV p.2 q.2
def yz(X:Cx)(pos:Pos)(keys:List (Option Expr))(values:List Expr)(Dm:List (TE×TE)):Prop:=
 ∀(pins:Va) (s:Shared) (σ:St) (H:Hp) (Q:List (V×V)->Hp->Prop),Inv X pins σ H s->kX Dm σ H Q->
  wpAny (model X.prog X.w) X.A (evalPairs (pairTrees keys values X.env pos)) (fun vs s'=>∃ps H',Inv X pins σ H' s'/\VV ps vs/\Q ps H') X.xe s
def tQ{X:Cx}{pos:Pos}:yz X pos [] [] []:=fun pins s σ H Q I h=>pairTrees_nil_walk ⟨[],H,I,.nil,h⟩
def qN{X:Cx}{pos:Pos}{k v:Expr}{ks:List (Option Expr)}{vs:List Expr}{tk tv:TE}{Dm:List (TE×TE)}(hk:PE X k tk)(hv:PE X v tv)(hr:yz X pos ks vs Dm) :
  yz X pos (some k::ks) (v::vs) ((tk,tv)::Dm):=fun pins s σ H Q I h=>
 pairTrees_cons_walk (Bh (hk pins s σ H _ I h) fun u s1 ⟨x,H1,I1,rx,q1⟩=>Bh (hv pins s1 σ H1 _ I1 q1) fun w2 s2 ⟨y,H2,I2,ry,q2⟩=>
  Bh (hr pins s2 σ H2 _ I2 q2) fun ws s3 ⟨ps,H3,I3,rel,q3⟩=>⟨(x,y)::ps,H3,I3,.cons ⟨rx,ry⟩ rel,q3⟩)
noncomputable def g7(kvs more:List (bb×V)):List (bb×V):=more.foldl (fun acc kv=>eL acc kv.1 kv.2) kvs
def KV.merge:∀{more:List (bb×V)} {rs:List (bb×Value)} {kvs:List (bb×V)} {vs:List (bb×Value)},KV more rs->KV kvs vs->KV (g7 kvs more) (merged vs rs):=by
 intro more rs kvs vs r
 unfold KV at r
 induction r generalizing kvs vs with
 |nil=>intro q;exact q
 |@cons p q ps qs h t ih=>
  intro r0
  have e:KV (eL kvs p.1 p.2) (stored vs q.1 q.2):=by
   have:=r0.put p.1 h.2
   rw[<-h.1];exact this
  exact ih e
theorem fG:∀(more kvs:List (bb×V)),(g7 kvs more).length<=kvs.length+more.length
 |[],kvs=>by show kvs.length<=kvs.length+0;omega
 |p::r,kvs=>by
  have h1:=fG r (eL kvs p.1 p.2)
  have h2:=eM kvs p.1 p.2
  show(g7 (eL kvs p.1 p.2) r).length<=_
  rw[List.length_cons];omega
theorem jp{P:Program}{w:World}:∀{kvs:List (bb×V)} {ws:List (Value×Value)},VV (kvs.map fun kv=>(kV kv.1,kv.2)) ws->∃rs,Carries (aP P w) ws rs/\KV kvs rs
 |[],_,r=>by rw[List.map_nil]at r;cases r;exact⟨[],True.intro,.nil⟩
 |p::kvs,_,r=>by
  rw[List.map_cons]at r
  cases r with
  |@cons a b as bs h t=>
   obtain⟨rs,c,q⟩:=jp (P:=P) (w:=w) t
   obtain⟨b1,b2⟩:=b
   exact⟨(p.1,b2)::rs,⟨iI h.1,rfl,c⟩,.cons ⟨rfl,h.2⟩ q⟩
def yA(Dm:List (TE×TE)):TE:=fun σ H Q=>∀p,H p=none->kX Dm σ (upd H p (.dK [])) fun ps H2=>H2 p=some (.dK [])/\∃kvs:List (bb×V),ps=kvs.map (fun kv=>(kV kv.1,kv.2))/\kvs.length<=15/\Q (.ref p) (upd H2 p (.dK (g7 [] kvs)))
def tR{X:Cx}{pos:Pos}{keys:List (Option Expr)}{values:List Expr}{Dm:List (TE×TE)}(h:yz X pos keys values Dm)(hall:keys.all (·.isSome)=true)(hl:keys.length=values.length)(h0:keys≠[])
  (GQ:keys.length<=15):PE X (.Dict keys values pos) (yA Dm):=by
 intro pins s σ H Q I q
 have hn:=I.hok.fresh (Nat.le_refl s.heap.objs.size)
 have I1:=I.laid (a:=s.heap.objs.size) (o:=.dK []) (h':=s.heap.push { cls:=.type "dict",data:=.dict #[] }) (t':=s.toks) (fun _ _ q=>Heap.get?_push_of_some _ q) (Nat.le_refl _) (qM s.heap I.big)
 refine wpAny_Dict_walk (knd:=aP X.prog X.w) hall hl h0 GQ (Bh (h pins _ σ _ _ I1 (q _ hn)) fun ws s2 ⟨ps,H2,I2,rel,e,kvs,ep,lk,q2⟩=>?_)
 subst ep
 obtain⟨rs,c,rk⟩:=jp (P:=X.prog) (w:=X.w) rel
 obtain⟨z,hd,vs0,r0,dd⟩:=vd I2.hok e
 cases r0
 refine⟨rs,c,dd,fun h' Fq hs=>⟨.ref s.heap.objs.size,_,?_,rfl,q2⟩⟩
 have hz:(g7 [] kvs).length<=sizeLine:=by
  have h1:=fG kvs []
  rw[List.length_nil]at h1
  rw[sizeLine_eq];omega
 have he:∃q,h'.get? s.heap.objs.size=some q:=let ⟨q,_,_,hq,_⟩:=Fq;⟨q,hq⟩
 exact kW I2 (by rw[e];exact True.intro) hs he (qL hz hd (rk.merge .nil) Fq)
structure M2 (X:Cx) (o:Expr) (m:Str) (apos:Pos) (e f:Expr) (cpos:Pos):Prop where
 base:attributeBase o m X.env (eval o X.env)=eval o X.env
 few:((backTo cpos (starEach [e,f] X.env)).all (fun x=>!x.1)&&(backToKw cpos (keywordEach [] X.env)).all (fun x=>x.1.isSome)
  && decide (([e,f]:List Expr).length+([]:List Keyword).length+(if ([]:List Keyword).isEmpty then 0 else 1) < 30))=true
 line:(apos.endLine == cpos.line)=true
 trees:backTo cpos (starEach [e,f] X.env)=[(false,eval e X.env),(false,eval f X.env)]
def AE(H:Hp)(a:Addr):Prop:=(∃kvs,Rd H a (.dK kvs))\/∃kvs,Rd H a (.dT kvs)
def wx{X:Cx}{pins:Va}{σ:St}{H:Hp}{s:Shared}{a:Addr}(I:Inv X pins σ H s)(d:AE H a) :
  s.TypeIs (.ref a) "dict"/\(∀b,Value.ref a = .ref b->∃ob,s.heap.get? b=some ob/\ob.dict=none)/\(a == sysModules)=false:=by
 rcases d with⟨kvs,e⟩|⟨kvs,e⟩
 ·obtain⟨_,hd,vs,_,dd⟩:=iJ I.hok e
  refine⟨dd.typeIs,fun b q=>?_,hd⟩
  cases q
  obtain⟨ob,_,_,h1,h2,_⟩:=dd
  exact⟨ob,h1,h2.2.1⟩
 ·obtain⟨_,hd,xs,_,dd⟩:=jo I.hok e
  refine⟨dd.typeIs,fun b q=>?_,hd⟩
  cases q
  obtain⟨ob,_,_,h1,h2,_⟩:=dd
  exact⟨ob,h1,h2.2.1⟩
section
variable {X:Cx} {pins:Va} {σ:St} {H:Hp} {s:Shared} {a:Addr} {y d:V} {u r:Value} {o:Option V} {A:Around} {E:Vq}
def wy{Q:Vq}(hu:A.units+1 < cLine)(I:Inv X pins σ H s)(g:DGet H a y o)(ry:RelV y u)(rd:RelV d r)(h:∀w' s',Inv X pins σ H s'->RelV (o.getD d) w'->Q w' s') :
  wpAny (model X.prog X.w) A (call (.builtin "dict.get") [.ref a,u,r]) Q E s:=by
 rcases g with⟨kvs,k,e,ey,l⟩|⟨kvs,k,b,e,ey,eb,l⟩
 ·subst ey
  obtain⟨z,hd,vs,rel,dd⟩:=iJ I.hok e
  refine call_meetsIn PySem.F.slot_dict_get dd.typeIs PySem.F.entry_dict_get (PySem.F.args_dict_get_3 _ _ _) (meets_dict_get_default (aP X.prog X.w) a (iI ry) hd r) ⟨_,dd.mapOf,h _ _ (I.tok _) ?_⟩
  rw[l]
  exact(rel.val k).getD rd
 ·subst ey
  cases (show u=Value.ref b from ry)
  obtain⟨z,hd,xs,rel,dd⟩:=jo I.hok e
  refine call_meetsIn PySem.F.slot_dict_get dd.typeIs PySem.F.entry_dict_get (PySem.F.args_dict_get_3 _ _ _) (meetsH_dict_get_default (tupleKind (aP X.prog X.w)) a b hd r) ⟨tupleKind_room_in1 hu,k,xs,cn I.hok eb,dd,h _ _ (I.tok _) ?_⟩
  rw[l]
  exact(rel.val k).getD rd
end
def wA(td ty tx:TE):TE:=fun σ H Q=>td σ H fun x H1=>∃a,x = .ref a/\AE H1 a/\ty σ H1 fun y H2=>tx σ H2 fun z H3=>∃o,DGet H3 a y o/\Q (o.getD z) H3
section
variable {X:Cx} {o e f:Expr} {apos cpos:Pos} {td ty tx:TE}
def qO(hu:X.A.units+1 < cLine)(ho:PE X o td)(he:PE X e ty)(hf:PE X f tx)(m:M2 X o "get" apos e f cpos):PE X (.Call (.Attribute o "get" apos) [e,f] [] cpos) (wA td ty tx):=by
 intro pins s σ H Q I h
 refine wpAny_Call_method m.base m.few m.line PySem.F.plainAttrs_dict PySem.F.slot_dict_get PySem.F.type_dict_get (Bh (ho pins s σ H _ I h) fun u s1 ⟨x,H1,I1,rx,a,ex,d,q1⟩=>?_)
 subst ex
 obtain rfl:u=Value.ref a:=rx
 obtain⟨t1,t2,_⟩:=wx I1 d
 refine⟨t1,t2,?_⟩
 rw[m.trees]
 refine Calls.callWith_builtin rfl (Calls.evalArgs_plain (Calls.spliced_cons (Bh (he pins s1 σ H1 _ I1 q1) fun iv s2 ⟨y,H2,I2,ry,q2⟩=>
  Calls.spliced_cons (Bh (hf pins s2 σ H2 _ I2 q2) fun fv s3 ⟨z,H3,I3,rz,ov,g,q3⟩=>Calls.spliced_nil ?_))))
 exact wy hu I3 g ry rz fun w' s4 I4 rw'=>⟨_,H3,I4,rw',q3⟩
end
section
variable {X:Cx} {pins:Va} {σ:St} {H:Hp} {s:Shared} {a:Addr} {kvs:List (bb×V)} {A:Around} {E:Vq}
end
section
variable {X:Cx} {pins:Va} {σ:St} {H:Hp} {s:Shared} {a:Addr} {y:V} {u:Value} {A:Around} {E:Vq}
end
end L2
namespace Att
open PySem PySem.W PySem.Calls PyProof.Rows
def iX{P:Params}{h:Heap}:∀(ns:Vu) (vs:Vv),WellAll P h vs (ns.map WData.int)->IntsAre vs ns:=by
 intro ns
 induction ns with
 |nil=>
  intro vs w
  rw[List.map_nil]at w
  cases w
  exact .nil
 |cons n ns ih=>
  intro vs w
  rw[List.map_cons]at w
  cases w with
  |cons a b=>
   cases a
   exact .cons _ _ (ih _ b)
def o8{l:OpenLaw}{n:Nat}(hn:l.most=some n){P:Params}{h:Heap}{args:List WData}{vals:Vv}
  (hpre:l.row.toRowW.claim.pre args=true) (hwl:WellAll P h vals args) :
  ∃a vs ns,vals=[Value.ref a]/\args=[WData.list (ns.map WData.int)]/\h.get? a=some { cls:=.type "list",data:=.seq vs.toArray }/\IntsAre vs ns/\ns.length<=n:=by
 have hsh:WShape.hasAll [] args [.list .int]=true:=(pre_splitW hpre).1
 have hc:l.pre.holds [] { args:=args }=true:=(pre_splitW hpre).2
 obtain⟨d,r,rfl,h1,h2⟩:=hasAllW_cons hsh
 obtain rfl:=hasAllW_nil h2
 obtain⟨xs,rfl,h3⟩:=hasW_list h1
 obtain⟨ns,rfl⟩:=items_int h3
 have hlen:ns.length<=n:=by
  unfold OpenLaw.pre at hc
  have h4:(WTm.not (.lt (.lit (.int (n:Int))) (.len (.arg 0)))).holds [] { args:=[.list (ns.map .int)] }=true:=by
   have h4:=(holds_andW hc).1
   rw[hn]at h4
   exact h4
  have h5:=condW_of h4 (w_not (w_lt w_lit (w_len_list (w_arg rfl))))
  rw[List.length_map]at h5
  refine Nat.le_of_not_lt fun q=>?_
  have q':(n:Int) < ((ns.length:Nat):Int):=by omega
  first
   |(rw[decide_eq_true q']at h5;exact absurd h5 (by decide))
   |(simp at h5;omega)
 cases hwl with
 |cons w1 w2=>
  cases w2
  cases w1 with
  |list ho hall=>exact⟨_,_,ns,rfl,rfl,ho,iX ns _ hall,hlen⟩
def o9(l:OpenLaw)(args:List WData):l.row.toRowW.claim.post args (.bool true) args=true:=
 postW_of (r:=l.row.toRowW) (X:=(true == true))
  (show WShape.has [] (.bool true) .bool=true by first|rfl|decide|simp[WShape.has,WShape.arms,WShape.armsAll])
  (show(WTm.eq .res (.lit (.bool true))).value [] { args:=args,res:=some (.bool true),after:=args }=some (.bool (true == true))from w_eq_bool (w_res rfl) w_lit) rfl
def lV{l:OpenLaw}{n:Nat}{q:Program}{loose:Vs}{XP:(Vr)->Heap->Prop}{YP:World->Heap->Prop}{d:DefRec}
  (hn:l.most=some n) (hdf:d.params.defaults=[])
  (call:∀(w:World) (s₀ s₁:Shared) (mg mb:Vr) (fa:Addr) (o:Obj) (pm cd doc:Value) (a:Addr) (vs:Vv) (ns:Vu),
   Ground q loose [] XP w s₀ mg mb s₁.heap->YP w s₁.heap->
   s₁.heap.get? fa=some o->o.data = .func (docDef d.name d.params d.body d.scope pm cd doc)->s₁.heap.CodeRec cd d.name->mg d.name=some (.ref fa)->
   s₁.heap.get? a=some { cls:=.type "list",data:=.seq vs.toArray }->IntsAre vs ns->ns.length<=n->s₁.gens=#[]->
   codeAny (model l.prog w) callerA (.call (.ref fa) ⟨[.ref a],[]⟩) (fun r s'=>r = .ok (.ret (.bool true))/\OldK s₁.heap s'.heap/\s'.os=s₁.os/\AllBare s'.gens) s₁) :
  WalkO q loose XP YP l.row.toRowW d [] (fun f vs=>PySem.call f vs):=by
 intro w s₀ s₁ mg mb G Y fa o pm cd doc dV kV ho hd hcd hD hmg hg args vals as hpre hlay hrd hwl hlo
 obtain rfl:dV = .none:=Dflts.none hD hdf
 obtain rfl:kV = .none:=Dflts.noKw hD
 obtain⟨a,vs,ns,rfl,rfl,hobj,hints,hlen⟩:=o8 hn hpre hwl
 refine enter_call (codeAny_mono (call w s₀ s₁ mg mb fa o pm cd doc a vs ns G Y ho (fd_plain hd) hcd hmg hobj hints hlen hg) fun r s' hq=>?_)
 obtain⟨rfl,h2,h3,h4⟩:=hq
 exact⟨.inl ⟨.bool true,.bool true,[],rfl,fun _=>rfl,.bool true,o9 l _,fun _=>⟨List.Pairwise.nil,fun _ hm=>(nomatch hm)⟩⟩,h2,h3,h4⟩
section
variable {prog:Program} {w:World} {A:Around} {E:Vq} {s:Shared} {K:Frag}
end
end Att
namespace L2
open PySem PySem.Spec PyProof.Rows
theorem ky:∀{vs:Vv} {ns:Vu},IntsAre vs ns->Vals (ns.map V.int) vs
 |_,_,.nil=>.nil
 |_,_,.cons n t h=>.cons ⟨t,rfl⟩ (ky h)
def tS(H:Hp):Prop:=∀b,H b=none\/∃o xs,H b=some (.frz o (.lst xs))
def qP{P:Program}{w:World}{K:Vo}{mg mb:Vr}{CX:qD}{k:Nat}{fa a:Addr}{fd:FuncData}{x:Str}{sp:Sp}{s₁:Shared}{vs:Vv}{ns:Vu}
  (KX:K.In s₁.heap) (hns:s₁.heap.Ns mainGlobals mg) (hb:s₁.heap.Ns builtinsNs mb) (IE:∀x:Str,x ≠ "__name__"->mb x=bootBuiltins x) (hlim:s₁.heap.NoLimit) (hg:s₁.gens=#[])
  (ha:s₁.heap.get? a=some { cls:=.type "list",data:=.seq vs.toArray }) (hi:IntsAre vs ns) (hl:ns.length<=sizeLine) (hr:Room k callerA)
  (F:∀base:Heap,K.In base->base.Ns mainGlobals mg->jZ P w K mg base CX k fa fd [x] sp) (hbind:∀(s:Shared) (u:Value),BindsTo s fd ⟨[u],[]⟩ [(x,u)])
  (EL:∀H:Hp,tS H->SqL K H a (ns.map V.int)->sp [.ref a] H (fun v _=>v = .bl true) fun _ _ _=>False)
  (GR:∀H e s',CX [] H s₁ (fun _ _ _=>False) e s'->False) :
  codeAny (model P w) callerA (.call (.ref fa) ⟨[.ref a],[]⟩) (fun r s'=>r = .ok (.ret (.bool true))/\OldK s₁.heap s'.heap/\s'.os=s₁.os/\AllBare s'.gens) s₁:=by
 have rv:=ky hi
 have GS:=hi.length
 -- from an abstract heap in which nothing but the script may be tracked
 have core:∀H:Hp,tS H->SqL K H a (ns.map V.int)->CT P w H s₁.heap->(∀b,H b≠none->b=a)->(H a≠none->K.lookup a=none)->
   codeAny (model P w) callerA (.call (.ref fa) ⟨[.ref a],[]⟩) (fun r s'=>r = .ok (.ret (.bool true))/\OldK s₁.heap s'.heap/\s'.os=s₁.os/\AllBare s'.gens) s₁:=by
  intro H hO hS hok hA hK
  have Ef:∀{b:Addr} {o:Obj},s₁.heap.get? b=some o->H b=none->(kQ s₁.heap H).get? b=some o:=fun e n=>qp e n
  have FU:∀{b:Addr} {o:Obj} {es:Array DictEntry} {ep:Nat},s₁.heap.get? b=some o->o.data = .dict es ep->H b=none:=fun{b o es ep} e d=>by
   cases q:H b with
   |none=>rfl
   |some u=>
    have e':b=a:=hA b (by rw[q];simp)
    subst e'
    rw[ha]at e;cases e
    have d':Data.seq vs.toArray _=Data.dict es ep:=d
    cases d'
  have Gm:∀{b:Addr} {m:Vr},s₁.heap.Ns b m->(kQ s₁.heap H).Ns b m:=fun{b m} ⟨o,es,ep,e,d,r⟩=>⟨o,es,ep,Ef e (FU e d),d,r⟩
  have HK:K.In (kQ s₁.heap H):=fun b o e=>Ef (KX b o e) (by
   cases q:H b with
   |none=>rfl
   |some u=>
    have e':b=a:=hA b (by rw[q];simp)
    subst e'
    rw[hK (by rw[q];simp)]at e;cases e)
  have hM:Mod K mg (kQ s₁.heap H):=⟨HK,Gm hns,⟨mb,Gm hb,IE⟩,let ⟨mc,h1,h2⟩:=hlim;⟨mc,Gm h1,h2⟩⟩
  have e0:tH P w K mg (kQ s₁.heap H) callerA [] s₁ H:=⟨rfl,hM,fun b o e=>sV e,Nat.le_of_eq (oS _ _),trivial,fun b hb=>absurd (show b∈([]:List Addr)from hb) (by simp),hok,.of_eq hg⟩
  refine codeAny_mono ((F _ HK (Gm hns)).run callerA [] s₁ H ⟨[.ref a],[]⟩ [.ref a] [.ref a] _ _ hr e0 (hbind s₁ (.ref a)) (.cons rfl .nil) (EL H hO hS)) fun r s' h=>?_
  cases r with
  |error e=>exact(GR H e s' h).elim
  |ok fl=>
   cases fl with
   |next=>exact False.elim h
   |brk=>exact False.elim h
   |cont=>exact False.elim h
   |ret u=>
    obtain⟨v,H',os,bare,un,GT,r',q⟩:=h
    have q':v = .bl true:=q
    subst q'
    obtain rfl:u=Value.bool true:=r'
    refine⟨rfl,OldK.of_keep fun b o e=>?_,os,bare⟩
    cases q:H b with
    |none=>exact un.keep b o e q (by intro z;exact absurd (show b∈([]:List Addr)from z) (by simp)) (by simp)
    |some u=>
     rcases hO b with z|⟨ob,xs,z⟩
     ·rw[q]at z;cases z
     ·have z2:=un.DA b ob _ z
      obtain⟨e1,_⟩:=hok b _ z
      obtain⟨e2,_⟩:=GT b _ z2
      rw[e]at e1;cases e1
      exact e2
 cases hk:K.lookup a with
 |some o=>
  -- the script is one of the module's own objects
  have e:=KX a o hk
  rw[ha]at e
  cases e
  refine core (fun _=>none) (fun _=>.inl rfl) (.inr ⟨_,vs.toArray,_,hk,rfl,rfl,rfl,by rw[List.size_toArray,GS];exact hl,by simpa using rv⟩) (fun b u z=>by have z':(none:Option HO)=some u:=z;cases z') (fun b z=>absurd rfl z) fun z=>absurd rfl z
 |none=>
  refine core (fun b=>if b=a then some (.frz { cls:=.type "list",data:=.seq vs.toArray } (.lst (ns.map V.int))) else none) (fun b=>?_) (.inl (.inr ⟨{ cls:=.type "list",data:=.seq vs.toArray },if_pos rfl⟩)) (fun b u z=>?_) (fun b z=>?_) fun _=>hk
  ·by_cases hb:b=a
   ·exact .inr ⟨_,_,if_pos hb⟩
   ·exact .inl (if_neg hb)
  ·by_cases hb:b=a
   ·have z':=(if_pos hb).symm.trans z
    cases z'
    subst hb
    exact⟨ha,by rw[List.length_map];exact hl,vs,_,rv,ha⟩
   ·have z':=(if_neg hb).symm.trans z
    cases z'
  ·by_cases hb:b=a
   ·exact hb
   ·exact absurd (if_neg hb) z
def tT{l:PySem.W.OpenLaw}{n k:Nat}{q:Program}{loose:Vs}{XP:(Vr)->Heap->Prop}{YP:World->Heap->Prop}{d:DefRec}{K:Params->PySem.W.Frag}{CX:World->qD}{sp:World->Sp}{x:Str}
  (hn:l.most=some n) (hn2:n<=sizeLine) (hdf:d.params.defaults=[]) (hr:Room k callerA)
  (hY:∀(w:World) (h:Heap),YP w h->(K w.params).In h)
  (F:∀(w:World) (mg:Vr) (fa:Addr) (h:Heap),(K w.params).In h->h.Ns mainGlobals mg->mg d.name=some (.ref fa)->
   ∃fd:FuncData,(∀(s:Shared) (u:Value),BindsTo s fd ⟨[u],[]⟩ [(x,u)])/\
    ∀base:Heap,(K w.params).In base->base.Ns mainGlobals mg->jZ l.prog w (K w.params) mg base (CX w) k fa fd [x] (sp w))
  (EL:∀(w:World) (H:Hp) (a:Addr) (ns:Vu),ns.length<=n->tS H->SqL (K w.params) H a (ns.map V.int)->sp w [.ref a] H (fun v _=>v = .bl true) fun _ _ _=>False)
  (GR:∀(w:World) (H:Hp) (s:Shared) (e:Value) (s':Shared),CX w [] H s (fun _ _ _=>False) e s'->False) :
  PySem.W.WalkO q loose XP YP l.row.toRowW d [] (fun f vs=>PySem.call f vs):=by
 refine Att.lV hn hdf fun w s₀ s₁ mg mb fa o pm cd doc a vs ns G Y ho hd hcd hmg hobj hints hlen hg=>?_
 have KX:=hY w _ Y
 obtain⟨fd,hb,hF⟩:=F w mg fa _ KX G.T.g hmg
 exact qP KX G.T.g G.T.b G.T.builtins G.T.nolimit hg hobj hints (Nat.le_trans hlen hn2) hr hF hb (fun H hO hS=>EL w H a ns hlen hO hS) fun H e s'=>GR w H s₁ e s'
noncomputable def bC(s:Stmt):Arguments:=match s with
 | .FunctionDef _ a _ _ _ _ _ _ _ _=>a
 |_=>{ posonlyargs:=[],args:=[],vararg:=none,kwonlyargs:=[],kw_defaults:=[],kwarg:=none,defaults:=[] }
noncomputable def aX(s:Stmt):List Stmt:=match s with
 | .FunctionDef _ _ b _ _ _ _ _ _ _=>b
 |_=>[]
noncomputable def ax(s:Stmt):Scope:=match s with
 | .FunctionDef _ _ _ _ _ _ sc _ _ _=>sc
 |_=>{ kind:=.function,names:=[],isGenerator:=false,isCoroutine:=false }
noncomputable abbrev sN:qD:=fun _ _ _ _ _ _=>False
noncomputable abbrev E0:XK:=fun _ _ _=>False
def ve{X:Cx}:mQ sN X E0:=fun _ _ _ _ _ _ _ h=>h.elim
structure E8 (K:Vo) (x qual:Str) (st:Stmt) (f:Addr) (fd:FuncData):Prop where
 ex:∃(oc:Value) (od:Option Addr) (kV doc pm:Value) (an:Option Addr) (cdv ct:Value) (osl:Array (Option Value)),
  fd=PySem.W.fnOf x qual (bC st) (aX st) (ax st) .none kV doc pm an cdv ct/\K.lookup f=some ⟨oc,od,.func fd,osl⟩/\PySem.W.codeIn K cdv qual=true
 kp:PySem.W.keepIn K (.ref f)=true
section
variable {P:Program} {w:World} {K:Vo} {mg:Vr} {base:Heap}
def E8.ok{x qual:Str}{st:Stmt}{f:Addr}{fd:FuncData}{N ps:Vs}{k:Nat}{sp:Sp}(F:E8 K x qual st f fd)(S:cz N ps (ax st))(len:∀vs H Q E,sp vs H Q E->vs.length=ps.length)
  (hbody:∀(cdv:Value) (A:Around) (outer:List Env) (s:Shared) (H:Hp) (vs:List V) (Q:VK) (E:XK),Room k (A.deeper (envOfC qual (ax st) s.heap.objs.size f cdv))->sp vs H Q E->
   ∃t,DN (lQ sN P w K mg base N qual (ax st) f cdv A outer s H E).Fm (aX st) t/\t { nx:=fun _ H'=>Q .non H',rt:=Q } (er N vs) H):jZ P w K mg base sN (k+1) f fd ps sp:=by
 obtain⟨oc,od,kV,doc,pm,an,cdv,ct,osl,rfl,lk,hcd⟩:=F.ex
 refine vb lk hcd S len fun A outer s H vs Q E hr EL=>?_
 obtain⟨t,h,q⟩:=hbody cdv A outer s H vs Q E hr EL
 exact⟨t,h.Fm,q⟩
def E8.binds{x qual:Str}{st:Stmt}{f:Addr}{fd:FuncData}{ps:Vs}(F:E8 K x qual st f fd)
  (h:∀(kV doc pm:Value) (an:Option Addr) (cdv ct:Value) (us:Vv),us.length=ps.length->bindArgs (PySem.W.fnOf x qual (bC st) (aX st) (ax st) .none kV doc pm an cdv ct) ⟨us,[]⟩=pure (ps.zip us)):Binds K fd ps []:=by
 obtain⟨oc,od,kV,doc,pm,an,cdv,ct,osl,rfl,lk,hcd⟩:=F.ex
 exact .all (h kV doc pm an cdv ct)
def kY{x qual:Str}{st:Stmt}{f:Addr}{oc:Value}{od an:Option Addr}{osl:Array (Option Value)}{kV doc pm cdv ct:Value}(l:K.lookup f=some ⟨oc,od,.func (PySem.W.fnOf x qual (bC st) (aX st) (ax st) .none kV doc pm an cdv ct),osl⟩)
  (c:PySem.W.codeIn K cdv qual=true) (k:PySem.W.keepIn K (.ref f)=true):E8 K x qual st f (PySem.W.fnOf x qual (bC st) (aX st) (ax st) .none kV doc pm an cdv ct):=⟨⟨oc,od,kV,doc,pm,an,cdv,ct,osl,rfl,l,c⟩,k⟩
end
def dz{n:Nat}(h:n<=1000):n < sizeLine:=Nat.lt_of_le_of_lt h (by decide)
section
variable {X:Cx}
def o_:eJ X (.builtin "len") (fun xs H Q=>∃a kvs,xs=[V.ref a]/\H a=some (.dK kvs)/\Q (.int kvs.length) H):=by
 intro pins s σ H xs us Q I r h
 obtain⟨a,kvs,rfl,ha,q⟩:=h
 obtain⟨u,rfl,ru⟩:=eh r
 cases ru
 exact yy I (.inl ha) fun t s' I'=>⟨.int kvs.length,H,I',⟨t,rfl⟩,q⟩
end
section
variable {κ:Type} [DecidableEq κ]
end
end L2
set_option maxHeartbeats 4000000
namespace L2
open PySem PySem.Spec PyProof.Rows
def kZ{prog:Program}{w:World}{A:Around}{R:Result->Shared->Prop}{s:Shared}{elt target iter:Expr}{ifs:List Expr}{scope:Scope}{pos:Pos}{it acc:Value}{env:Env}(I:Nat->Shared->Prop)
  (turn:∀n s,I n s->wpAny (model prog w) A (pyNext it) (fun r s₁=>match r with
   |none=>R (.ok .next) s₁
   |some v=>wpAny (model prog w) A (letOwnedTupleGo target it v) (fun _ s₁'=>wpAny (model prog w) A (assign target env v) (fun _ s₂=>
     wpAny (model prog w) A (forIn ifs true fun c r=>if r=true then do let ok <-isTrue c env (eval c env);pure (ForInStep.yield ok) else pure (ForInStep.yield r)) (fun ok s₃=>
      if ok=true then wpAny (model prog w) A (eval elt env) (fun x s₄=>
       wpAny (model prog w) A (call (.builtin "list.append") [acc,x]) (fun _ s₅=>∃m,m < n/\I m s₅) (fun _ _=>False) s₄) (fun _ _=>False) s₃
      else ∃m,m < n/\I m s₃) (fun _ _=>False) s₂) (fun _ _=>False) s₁') (fun _ _=>False) s₁) (fun _ _=>False) s)
  (n:Nat) (h:I n s) :
  codeAny (model prog w) A (.compLoop (.ListComp elt [⟨target,iter,ifs,0⟩] scope pos) 0 it acc env) R s:=by
 refine codeAny_loop rfl I (fun n s hI=>?_) n h
 show wpAny _ A ((compTurn (.ListComp elt [⟨target,iter,ifs,0⟩] scope pos) 0 it acc env).onRaise (fun x=>do noteFrame x env;theTreesLotGoes x)) _ _ s
 refine wpAny_noted ?_
 rw[compTurn_list]
 refine wpAny_bind (wpAny_standAt (wpAny_bind (wpAny_mono (turn n s hI) (fun r s₁ h₁=>?_) fun _ _ h'=>h'.elim)))
 cases r with
 |none=>exact wpAny_pure h₁
 |some v=>
  refine wpAny_bind (wpAny_mono h₁ (fun _ s₁' h₁'=>?_) fun _ _ h'=>h'.elim)
  refine wpAny_bind (wpAny_mono h₁' (fun _ s₂ h₂=>wpAny_bind (wpAny_mono h₂ (fun ok s₃ h₃=>?_) fun _ _ h'=>h'.elim)) fun _ _ h'=>h'.elim)
  cases ok with
  |false=>exact wpAny_pure ⟨rfl,h₃⟩
  |true=>
   exact wpAny_bind (wpAny_bind (wpAny_mono h₃ (fun x s₄ h₄=>wpAny_bind (wpAny_mono h₄ (fun _ s₅ h₅=>wpAny_pure (wpAny_pure ⟨rfl,h₅⟩)) fun _ _ h'=>h'.elim)) fun _ _ h'=>h'.elim))
structure Bk where
 C:Addr
 s:Shared
 H:Hp
 fp:List Addr
 pn:Va
noncomputable def b4(env:Env)(fs:Vs):List (Str×Addr):=fs.map fun x=>(x,(env.cells.lookup x).getD 0)
noncomputable abbrev Cx.CO(X:Cx)(N:Vs)(scope:Scope)(fs:Vs)(B:Bk):Cx:=
 { X with N:=N,s₀:=B.s,H₀:=B.H,env:=compEnvC scope (b4 X.env fs) B.C X.env,outer:=X.stack,ex:=B.fp,fn:=fun _=>false,pn:=B.pn,xe:=fun _ _=>False }
noncomputable def bQ(env:Env):List Str->Prop
 |[]=>True
 |x::r=>(∃c,env.cells.lookup x=some c)/\bQ env r
theorem iK{env:Env}:∀{fs:Vs},bQ env fs->∀{x:Str} {c:Addr},(b4 env fs).lookup x=some c->env.cells.lookup x=some c
 |[],_,x,c,h=>by cases h
 |y::r,k,x,c,h=>by
  obtain⟨⟨d,hd⟩,k⟩:=k
  have h':List.lookup x ((y,(env.cells.lookup y).getD 0)::b4 env r)=some c:=h
  rw[List.lookup_cons]at h'
  cases e:x == y with
  |true=>
   rw[e]at h'
   have e':x=y:=by simpa using e
   subst e'
   rw[hd]at h'
   rw[hd]
   exact h'
  |false=>
   rw[e]at h'
   exact iK k h'
noncomputable def k4(names:List (Str×NameKind))(cl:List (Str×Addr)):Bool:=names.all fun y=>(y.2 != .cell&&y.2 != .free) || (cl.lookup y.1).isSome
def qQ{names:List (Str×NameKind)}{cl:List (Str×Addr)}{x:Str}{k:NameKind}(h:k4 names cl=true)(e:names.lookup x=some k)(hk:k = .cell\/k = .free):∃c,cl.lookup x=some c:=by
 have hm:(x,k)∈names:=PySem.mem_of_lookup e
 have q:=List.all_eq_true.mp h _ hm
 have z:(cl.lookup x).isSome=true:=by
  rcases hk with rfl|rfl
  ·simpa using q
  ·simpa using q
 exact Option.isSome_iff_exists.mp z
noncomputable def B1(env:Env)(scope:Scope)(cl:List (Str×Addr)):List Str->Prop
 |[]=>True
 |x::r=>((env.scope.names.lookup x=some .cell\/env.scope.names.lookup x=some .free)/\((relabel scope env).names.lookup x=some .cell\/(relabel scope env).names.lookup x=some .free)/\cl.lookup x=env.cells.lookup x)/\B1 env scope cl r
theorem B1.mem{env:Env}{scope:Scope}{cl:List (Str×Addr)}:∀{l:Vs},B1 env scope cl l->∀x∈l,
  (env.scope.names.lookup x=some .cell\/env.scope.names.lookup x=some .free)/\((relabel scope env).names.lookup x=some .cell\/(relabel scope env).names.lookup x=some .free)/\cl.lookup x=env.cells.lookup x
 |[],_,x,h=>nomatch h
 |y::r,k,x,h=>by
  rcases List.mem_cons.mp h with rfl|h
  ·exact k.1
  ·exact B1.mem k.2 x h
noncomputable def dA(own:Nat)(fr:List Nat)(σ:St):St:=List.replicate own none++fr.map fun j=>(σ[j]?).getD none
noncomputable abbrev g_(us:Vv):Obj:={ cls:=.type "list",data:=.seq us.toArray us.length }
def pe(us:Vv)(u:Value):({ cls:=.type "list",data:=.seq (us.toArray.push u) (us.length+1) }:Obj)=g_ (us++[u]):=by
 show({ cls:=.type "list",data:=.seq (us.toArray.push u) (us.length+1) }:Obj)={ cls:=.type "list",data:=.seq (us++[u]).toArray (us++[u]).length }
 rw[List.length_append,List.length_singleton,List.push_toArray]
section
variable {X:Cx} {pins:Va} {σ:St} {H:Hp} {s:Shared}
def Inv.FW{D:Addr}{us:Vv}{n:Nat}{ys:List V}(I:Inv X pins σ H s)(f:dI X pins H D)(e:s.heap.get? D=some { cls:=.type "list",data:=.seq us.toArray n })(r:Vals ys us)(hz:ys.length<=sizeLine) :
  Inv X pins σ (upd H D (.lst ys)) s:=by
 obtain⟨f0,f1,f2,f3,f4,f5⟩:=f
 have nD:∀b u,H b=some u->b≠D:=fun b u q=>aQ q f0
 have hok:CT X.prog X.w (upd H D (.lst ys)) s.heap:=fun b u q=>by
  by_cases hb:b=D
  ·subst hb
   rw[ar]at q
   cases q
   exact⟨hz,us,n,r,e⟩
  ·rw[ay hb]at q
   exact(I.hok b u q).stay (fun _ _ _ z=>z) (fun c z=>by rw[ay (nD c _ z)];exact z) fun c xs z=>by rw[ay (nD c _ z)];exact z
 exact I.step (H':=upd H D (.lst ys)) (h':=s.heap) (g':=s.gens) (t':=s.toks) (d':=s.drawn) (ch:=[D])
  (fun b hb=>by
   have z:b=D:=by simpa using hb
   subst z
   exact⟨f3,f1,f4,f5⟩)
  (fun _ _ _ _ _ q _=>q) (fun _ o _ _ _ q _=>⟨o.slots,q⟩)
  (fun b o hb _ n=>by rw[ay (fun z=>hb (by simp[z]))];exact n)
  (fun _ o _ q=>⟨o,q⟩) (fun b xs q=>by rw[ay (nD b _ q)];exact q) (fun b o u q=>by rw[ay (nD b _ q)];exact q)
  (fun b ps q=>⟨#[],by rw[ay (nD b _ q),q];simp⟩) (fun _ q=>q) hok I.bare
def wB{N:Vs}{scope:Scope}{fs:Vs}{C:Addr}{fp:List Addr}(I:Inv X pins σ H s)(hkind:scope.kind = .function)(hC:s.heap.objs.size<=C)(hcl:bQ X.env fs)
  (hhas:k4 (relabel scope X.env).names (b4 X.env fs)=true) (hf:∀b∈fp,dI X pins H b) (hlt:∀b∈fp,b < s.heap.objs.size):(X.CO N scope fs ⟨C,s,H,fp,X.pn++pins⟩).Ok where
 mod:=I.ok.mod
 kind:=hkind
 glob:=I.ok.glob
 blt:=I.ok.blt
 above:=hC
 inj:=fun x y c h1 h2=>I.ok.inj x y c (iK hcl h1) (iK hcl h2)
 has:=fun x hx=>by
  rcases hx with e|e
  ·exact qQ hhas e (.inl rfl)
  ·exact qQ hhas e (.inr rfl)
 FK:=fun x c h=>by cases h
 hd:=I.ok.hd
 frames:=I.ok.frames
 stk:=.inl rfl
 GG:=fun b hb=>⟨Nat.ne_of_lt (Nat.lt_of_lt_of_le (hlt b hb) hC),fun x c e=>(hf b hb).2.2.2.2.1 x c (iK hcl e)⟩
 bs:=I.bs
 ES:=Nat.le_trans I.ok.ES I.sz
 Ej:=fun b o e hb=>(hf b hb).2.2.2.1.elim (fun z=>I.ok.Ej b o e z) fun z=>absurd (Nat.lt_of_lt_of_le (Heap.lt_size e) (Nat.le_trans I.ok.ES z)) (Nat.lt_irrefl _)
 Ex:=fun b hb z=>(List.mem_cons.mp (I.C8 b z)).elim (hf b hb).2.1 (hf b hb).2.2.1
 Dh:=I.stack
 Fk:=I.Ec
def tU{N:Vs}{scope:Scope}{fs:Vs}{C D:Addr}{fp:List Addr}{own:Nat}{fr:List Nat}{h₁:Heap}{m0:Vr}{t':Nat}(I:Inv X pins σ H s)
  (ok:(X.CO N scope fs ⟨C,s,H,fp,X.pn++pins⟩).Ok) (hC:s.heap.objs.size<=C) (hD:s.heap.objs.size<=D) (hDC:D≠C) (hcl:bQ X.env fs)
  (old:∀b o,s.heap.get? b=some o->h₁.get? b=some o) (hns:h₁.Ns C m0) (hacc:h₁.get? D=some (g_ [])) (hlen:N.length=own+fr.length) (hN:(N.drop own).map some=fr.map fun j=>X.N[j]?)
  (hF:B1 X.env scope (b4 X.env fs) (N.drop own)) :
  Inv (X.CO N scope fs ⟨C,s,H,fp,X.pn++pins⟩) [(D,g_ [])] (dA own fr σ) H { s with heap:=h₁,toks:=t' }:=by
 refine⟨ok,rfl,I.bare,Un.kept old,⟨m0,hns,fun i x v e1 e2 e3=>?_⟩,fun x c e=>?_,I.hok.fresh hC,fun x c e=>I.CH x c (iK hcl e),fun p hp=>?_,I.hok.kept old,?_⟩
 ·have e1:N[i]?=some x:=e1
  by_cases hi:i < own
  ·unfold dA at e2
   rw[List.getElem?_append_left (by rw[List.length_replicate];exact hi),List.getElem?_replicate,if_pos hi]at e2
   cases e2
  ·obtain⟨k,rfl⟩:∃k,i=own+k:=⟨i - own,by omega⟩
   have e1':(N.drop own)[k]?=some x:=by rw[List.getElem?_drop];exact e1
   have q:=congrArg (fun l=>l[k]?) hN
   simp only[List.getElem?_map,e1',Option.map_some]at q
   unfold dA at e2
   rw[List.getElem?_append_right (by rw[List.length_replicate];omega),List.length_replicate,Nat.add_sub_cancel_left,List.getElem?_map]at e2
   cases hj:fr[k]? with
   |none=>rw[hj]at e2;cases e2
   |some j=>
    rw[hj]at e2 q
    simp only[Option.map_some,Option.some.injEq]at e2 q
    have hσ:σ[j]?=some (some v):=by
     cases z:σ[j]? with
     |none=>rw[z]at e2;cases e2
     |some w=>rw[z]at e2;simp only[Option.getD_some]at e2;rw[e2]
    obtain⟨k1,k2,k3⟩:=hF.mem x (List.mem_of_getElem? e1')
    obtain⟨m,hn,hl⟩:=I.loc
    have vis:zy X.env.scope x:=by
     rcases k1 with z|z
     ·exact .inr (.inl z)
     ·exact .inr (.inr z)
    obtain⟨u,ru,l⟩:=hl j x v q.symm hσ vis
    rcases l with⟨hk,_⟩|⟨_,c,hc,o,ho,hd⟩
    ·have hk':X.env.scope.names.lookup x=some .local:=hk
     rcases k1 with z|z
     ·rw[z]at hk';cases hk'
     ·rw[z]at hk';cases hk'
    ·exact⟨u,ru,.inr ⟨k2,c,k3.trans hc,o,old _ _ ho,hd⟩⟩
 ·obtain⟨v,o,ho,hd⟩:=I.cell x c (iK hcl e)
  exact⟨v,o,old _ _ ho,hd⟩
 ·rcases List.mem_append.mp hp with z|z
  ·obtain⟨e,n,ne,nf,d⟩:=I.pin p z
   exact⟨old _ _ e,n,Nat.ne_of_lt (Nat.lt_of_lt_of_le (Heap.lt_size e) hC),fun q=>(List.mem_cons.mp (I.C8 _ q)).elim ne nf,d⟩
  ·have z':p=(D,g_ []):=by simpa using z
   subst z'
   exact⟨hacc,I.hok.fresh hD,hDC,fun q=>(List.mem_cons.mp (I.C8 _ q)).elim (fun e=>absurd e (Nat.ne_of_gt (Nat.lt_of_lt_of_le I.lt hD))) (I.FP hD),fun v z=>by cases z⟩
 ·show(dA own fr σ).length=N.length
  unfold dA
  rw[List.length_append,List.length_replicate,List.length_map,hlen]
end
def PF(X:Cx)(ifs:List Expr)(t:TT):Prop:=
 ∀(pins:Va) (s:Shared) (σ:St) (H:Hp) (Q:Bool->Hp->Prop),Inv X pins σ H s->t σ H Q->
  wpAny (model X.prog X.w) X.A (forIn ifs true fun c r=>if r=true then do let ok <-isTrue c X.env (eval c X.env);pure (ForInStep.yield ok) else pure (ForInStep.yield r)) (TP X pins σ Q) X.xe s
def Ab:TT:=fun _ H Q=>Q true H
def wC{X:Cx}:PF X [] Ab:=fun _ _ _ H _ I h=>wpAny_tests_nil ⟨H,I,h⟩
def wD{X:Cx}{c:Expr}{t:TT}(h:PT X c t):PF X [c] t:=fun pins s σ H Q I q=>wpAny_tests_one (h pins s σ H Q I q)
def vf(J:It)(g:TG)(tc:TT)(te:TE)(own:Nat)(σ':St)(fin:List V->Hp->Prop)(H1:Hp):Prop:=
 ∃W:Nat->Nat->List V->Hp->Prop,(∃m,W 0 m [] H1)/\∀i m ys H,W i m ys H->
  (J.stop i H/\ys.length<=sizeLine/\fin ys H) \/
  (J.go i H/\ys.length<=sizeLine/\∃Nx:List V->Hp->Prop,(∀ys' H',Nx ys' H'->∃m',m' < m/\W (i+1) m' ys' H')/\∀x H',J.Gk i H x H'->g x σ' H' fun σ2 H2=>σ2.drop own=σ'.drop own/\tc σ2 H2 fun b H3=>
   if b=true then te σ2 H3 fun y H4=>Nx (ys++[y]) H4 else Nx ys H3)
section
variable {X:Cx} {pins:Va} {σ:St} {H:Hp} {s:Shared}
variable {elt iter tg:Expr} {ifs:List Expr} {scope:Scope} {pos:Pos} {N:Vs} {own:Nat} {fr:List Nat} {fs:Vs} {g:TG} {tc:TT} {te:TE}
def jq{J:It}{fp:List Addr}{it:Addr}{tn:Nat->Heap->Prop}{fin:List V->Hp->Prop}{E:Vq}{RR:Value->Addr->Result->Shared->Prop}
  (hc:X.calm=true) (hcell:∀y∈scope.names,y.2 ≠ .cell) (hkind:scope.kind = .function) (hcl:bQ X.env fs) (hhas:k4 (relabel scope X.env).names (b4 X.env fs)=true)
  (hlen:N.length=own+fr.length) (hN:(N.drop own).map some=fr.map fun j=>X.N[j]?) (hF:B1 X.env scope (b4 X.env fs) (N.drop own))
  (hg:∀B,PG (X.CO N scope fs B) tg g) (hf:∀B,PF (X.CO N scope fs B) ifs tc) (he:∀B,PE (X.CO N scope fs B) elt te)
  (I:Inv X pins σ H s) (T:lP X.prog X.w X.K tg J fp it tn) (st:tn 0 s.heap) (f:∀b∈fp,dI X pins H b) (W:vf J g tc te own (dA own fr σ) fin H)
  (hRR:∀D C s' ys H' m',Inv X pins σ (upd H' D (.lst ys)) s'->H' D=none->s'.heap.Ns C m'->dI X pins (upd H' D (.lst ys)) C->fin ys H'->RR (.ref D) C (.ok .next) s') :
  wpAny (model X.prog X.w) X.A (newList []) (fun acc s₃=>wpAny (model X.prog X.w) X.A (newFunctionEnv scope X.env.globals (b4 X.env fs) [] X.env.qual none .none (some X.env)) (fun cenv s₄=>
   codeAny (model X.prog X.w) X.A (.compStart (.ListComp elt [⟨tg,iter,ifs,0⟩] scope pos) 0 (.ref it) acc { cenv with scope:=relabel scope X.env }) (RR acc cenv.locals) s₄) E s₃) E s:=by
 refine wpAny_newObj_type (wpAny_newFunctionEnv hcell (by intro y hy;simp at hy) (fun h₁ Fr EW=>?_) hkind)
 dsimp only at Fr EW ⊢
 generalize GU:s.heap.push { cls:=.type "list",dict:=none,data:=.seq ([]:Vv).toArray }=H2 at Fr EW ⊢
 have hC:H2.objs.size=s.heap.objs.size+1:=by rw[<-GU,Heap.size_push]
 have Ft:s.heap.objs.size<=H2.objs.size:=by rw[hC];exact Nat.le_succ _
 have hDC:s.heap.objs.size≠H2.objs.size:=by rw[hC];exact Nat.ne_of_lt (Nat.lt_succ_self _)
 have below:∀b,b < s.heap.objs.size->b≠H2.objs.size/\b≠s.heap.objs.size:=fun b hb=>⟨by rw[hC];exact Nat.ne_of_lt (Nat.lt_succ_of_lt hb),Nat.ne_of_lt hb⟩
 have old:∀b o,s.heap.get? b=some o->h₁.get? b=some o:=fun b o e=>EW.extBut b o (below b (Heap.lt_size e)).1 (Heap.get?_push_of_some _ (GU▸Heap.get?_push_of_some _ e))
 have hacc:h₁.get? s.heap.objs.size=some (g_ []):=EW.extBut _ _ hDC (Heap.get?_push_of_some _ (GU▸Heap.get?_push_size _ rfl))
 have hlt:∀b∈fp,b < s.heap.objs.size:=fun b hb=>by
  obtain⟨o,e,_⟩:=T.obj 0 _ st b hb
  exact Heap.lt_size e
 obtain⟨Wv,⟨m0,w0⟩,turn⟩:=W
 have ok:=wB (N:=N) I hkind Ft hcl hhas f hlt
 have loop:∀s₃:Shared,s₃={ s with heap:=h₁,toks:=s.toks+([]:List (Str×Value)).length }->
   codeAny (model X.prog X.w) X.A (.compLoop (.ListComp elt [⟨tg,iter,ifs,0⟩] scope pos) 0 (.ref it) (.ref s.heap.objs.size) (compEnvC scope (b4 X.env fs) H2.objs.size X.env))
    (RR (.ref s.heap.objs.size) H2.objs.size) s₃:=by
  rintro s₃ rfl
  have I0:=tU (own:=own) (fr:=fr) (t':=s.toks+([]:List (Str×Value)).length) I ok Ft (Nat.le_refl _) hDC hcl old Fr hacc hlen hN hF
  have GV:tn 0 h₁:=T.keep 0 _ _ st fun b _ o e=>old b o e
  have stat:∀{us:Vv} {H':Hp},(∀b∈fp,H' b=none)->∀b∈fp,dI (X.CO N scope fs ⟨H2.objs.size,s,H,fp,X.pn++pins⟩) [(s.heap.objs.size,g_ us)] H' b:=fun{us H'} hn b hb=>by
   obtain⟨f0,f1,f2,f3,f4,f5⟩:=f b hb
   refine⟨hn b hb,(below b (hlt b hb)).1,fun z=>(List.mem_cons.mp (I.C8 b z)).elim f1 f2,.inl hb,fun x c e=>f4 x c (iK hcl e),fun p hp=>?_⟩
   rcases List.mem_append.mp hp with z|z
   ·exact f5 p z
   ·have z':p=(s.heap.objs.size,g_ us):=by simpa using z
    subst z'
    exact Ne.symm (below b (hlt b hb)).2
  have GW:∀p∈X.pn++pins,p.1 < s.heap.objs.size:=fun p hp=>Heap.lt_size (I.pin p hp).1
  refine kZ (fun k s'=>∃i ys us H',Inv (X.CO N scope fs ⟨H2.objs.size,s,H,fp,X.pn++pins⟩) [(s.heap.objs.size,g_ us)] (dA own fr σ) H' s'/\Vals ys us/\tn i s'.heap/\(∀b∈fp,H' b=none)/\Wv i k ys H') ?_ m0
   ⟨0,[],[],H,I0,.nil,GV,fun b hb=>(f b hb).1,w0⟩
  rintro n s' ⟨i,ys,us,H',I',rv,st',HL,w'⟩
  rcases turn i n ys H' w' with⟨stop,hz,GX⟩|⟨go,hz,Nx,HM,step⟩
  ·refine Bh (T.done (X.CO N scope fs ⟨H2.objs.size,s,H,fp,X.pn++pins⟩) rfl rfl rfl hc i _ s' _ H' (fun _ _=>False) I' (stat HL) st' stop) (fun r s1 ⟨hr,I1⟩=>?_)
   subst hr
   show RR _ _ (.ok .next) s1
   have IX:Inv X pins σ H' s1:=I.FT I1.os I1.base I1.hok I1.bare fun b hb=>by
    obtain⟨f0,f1,f2,f3,f4,f5⟩:=f b hb
    exact⟨f3,f1,f4,f5⟩
   obtain⟨eD,nD,_⟩:=I1.pin (s.heap.objs.size,g_ us) (by simp)
   have IT:=IX.FW (I.Di (H':=H') (Nat.le_refl _) nD) eD rv hz
   obtain⟨m',hn',_⟩:=I1.loc
   exact hRR _ _ s1 ys H' m' IT nD hn' (I.Di Ft (by rw[ay (Ne.symm hDC)];exact I1.free)) GX
  ·refine Bh (T.item (X.CO N scope fs ⟨H2.objs.size,s,H,fp,X.pn++pins⟩) rfl rfl rfl hc i _ s' _ H' (fun _ _=>False) I' (stat HL) st' go) (fun r s1 ⟨u,hr,h1⟩=>?_)
   subst hr
   show wpAny _ _ (letOwnedTupleGo tg (.ref it) u) _ _ s1
   refine Bh h1 (fun _ s5 ⟨x,H5,I5,r5,y5,EU,GK⟩=>?_)
   have GL:=I5.pinned (stat GK) (T.obj _ _ EU)
   refine Bh (hg _ _ s5 _ H5 x u _ GL r5 (step x H5 y5)) (fun _ s6 ⟨σ6,H6,I6,IF,q6⟩=>?_)
   refine Bh (hf _ _ s6 σ6 H6 _ I6 q6) (fun b s7 ⟨H7,I7,q7⟩=>?_)
   -- Fu the turn's own names
   have forget:∀{H8:Hp} {s8:Shared} {pl:Va},Inv (X.CO N scope fs ⟨H2.objs.size,s,H,fp,X.pn++pins⟩) pl σ6 H8 s8->Inv (X.CO N scope fs ⟨H2.objs.size,s,H,fp,X.pn++pins⟩) pl (dA own fr σ) H8 s8:=fun{H8 s8 pl} I8=>by
    refine I8.weak (I0.len.trans I8.len.symm) fun j v e=>?_
    by_cases hj:j < own
    ·unfold dA at e
     rw[List.getElem?_append_left (by rw[List.length_replicate];exact hj),List.getElem?_replicate,if_pos hj]at e
     cases e
    ·obtain⟨k,rfl⟩:∃k,j=own+k:=⟨j - own,by omega⟩
     rw[<-List.getElem?_drop]at e ⊢
     rw[IF]
     exact e
   have Gn:∀{H8:Hp} {s8:Shared},Inv (X.CO N scope fs ⟨H2.objs.size,s,H,fp,X.pn++pins⟩) ([(s.heap.objs.size,g_ us)]++jh fp s5.heap) σ6 H8 s8->∀b∈fp,∀o,s5.heap.get? b=some o->s8.heap.get? b=some o/\H8 b=none:=fun I8 b hb o e=>
    let z:=I8.pin (b,o) (List.mem_append_right _ (List.mem_append_right _ (fM hb e)))
    ⟨z.1,z.2.1⟩
   cases b with
   |false=>
    show ∃m,m < n/\_
    obtain⟨m',hm,w7⟩:=HM _ _ (show Nx ys H7 from q7)
    refine⟨m',hm,i+1,ys,us,H7,(forget I7).C3,rv,T.keep _ _ _ EU fun b hb o e=>(Gn I7 b hb o e).1,fun b hb=>?_,w7⟩
    obtain⟨o,e,_⟩:=T.obj _ _ EU b hb
    exact(Gn I7 b hb o e).2
   |true=>
    show wpAny _ _ (eval elt _) _ _ s7
    have IG:te σ6 H7 fun y H4=>Nx (ys++[y]) H4:=q7
    refine Bh (he _ _ s7 σ6 H7 _ I7 IG) (fun v s8 ⟨y,H8,I8,r8,n8⟩=>?_)
    obtain⟨m',hm,w8⟩:=HM _ _ n8
    obtain⟨eD,nD,HN,IH,_⟩:=I8.pin (s.heap.objs.size,g_ us) (List.mem_append_right _ (List.mem_append_left _ (by simp)))
    refine append_at (hsz:=by show us.toArray.size<=sizeLine;rw[List.size_toArray,<-rv.length];exact hz) eD fun h9 GY II=>?_
    have J0:Inv (X.CO N scope fs ⟨H2.objs.size,s,H,fp,X.pn++pins⟩) [] σ6 H8 s8:=I8.Dl fun p hp=>nomatch hp
    have J1:Inv (X.CO N scope fs ⟨H2.objs.size,s,H,fp,X.pn++pins⟩) [] σ6 H8 { s8 with heap:=h9 }:=J0.turned (t':=s8.toks) (it:=s.heap.objs.size) (fun b o hb e=>(GY.2 b hb).trans e) nD HN (.inr (Nat.le_refl _))
     (fun x c e z=>by
      obtain⟨v',q⟩:=I.cell x c (iK hcl e)
      exact absurd (Nat.lt_of_lt_of_le q.lt (by rw[z];exact Nat.le_refl _)) (Nat.lt_irrefl _))
     (fun p hp=>by
      rw[List.append_nil]at hp
      exact Nat.ne_of_lt (GW p hp))
    have J2:Inv (X.CO N scope fs ⟨H2.objs.size,s,H,fp,X.pn++pins⟩) [(s.heap.objs.size,g_ (us++[v]))] σ6 H8 { s8 with heap:=h9 }:=J1.Dl fun p hp=>by
     have z':p=(s.heap.objs.size,g_ (us++[v])):=by simpa using hp
     subst z'
     exact⟨II.trans (congrArg some (pe us v)),nD,HN,IH,fun v z=>by cases z⟩
    refine⟨m',hm,i+1,ys++[y],us++[v],H8,forget J2,Vals.append rv (.cons r8 .nil),T.keep _ _ _ EU fun b hb o e=>(GY.2 b (below b (hlt b hb)).2).trans (Gn I8 b hb o e).1,fun b hb=>?_,w8⟩
    obtain⟨o,e,_⟩:=T.obj _ _ EU b hb
    exact(Gn I8 b hb o e).2
 exact codeAny_compStart_list (loop _ rfl) (T.self _ 0 _ _ _ (T.keep 0 _ _ st fun b _ o e=>old b o e) (loop _ rfl))
def qR(wi:TI)(g:TG)(tc:TT)(te:TE)(own:Nat)(fr:List Nat):TE:=fun σ H Q=>wi σ H fun J H1=>
 vf J g tc te own (dA own fr σ) (fun ys H2=>∀D,H2 D=none->Q (.ref D) (upd H2 D (.lst ys))) H1
def tV(fs:Vs)(own:Nat)(fr:List Nat)(N:Vs){wi:TI}(hc:X.calm=true)(hclos:closureFor scope X.env=pure (b4 X.env fs))(hcell:∀y∈scope.names,y.2 ≠ .cell)(hkind:scope.kind = .function)
  (hnames:∀x∈scope.names,x.2 = .local->scope.names.lookup x.1=some .local) (hcl:bQ X.env fs) (hhas:k4 (relabel scope X.env).names (b4 X.env fs)=true)
  (hlen:N.length=own+fr.length) (hN:(N.drop own).map some=fr.map fun j=>X.N[j]?) (hF:B1 X.env scope (b4 X.env fs) (N.drop own))
  (hi:PI X tg iter wi) (hg:∀B,PG (X.CO N scope fs B) tg g) (hf:∀B,PF (X.CO N scope fs B) ifs tc) (he:∀B,PE (X.CO N scope fs B) elt te)
  (hs:∀x,foldedSetIterable iter X.env x=pure x:=by intro _;rfl):PE X (.ListComp elt [⟨tg,iter,ifs,0⟩] scope pos) (qR wi g tc te own fr):=by
 intro pins s σ H Q I h
 rw[eval_ListComp]
 refine wpAny_comprehension_free (use:=none) (g:=⟨tg,iter,ifs,0⟩) (gs:=[]) rfl hs hclos hkind hnames (Bh (hi pins s σ H _ I h) fun v s1 h1=>Bh h1 fun itv s2 h2=>?_)
 obtain⟨it,fp,tn,J,H2,e,I2,T,st2,f2,W⟩:=h2
 subst e
 refine jq (RR:=fun acc C=>compPost (model X.prog X.w) X.A X.xe none (EP X pins σ Q) acc C) hc hcell hkind hcl hhas hlen hN hF hg hf he I2 T st2 f2 W ?_
 intro D C s' ys H' m' I' nD hn fC fin
 exact⟨m',hn,fun h' hs'=>⟨.ref D,_,I'.turned (t':=s'.toks) (fun b o hb e=>(hs'.2 b hb).trans e) fC.1 fC.2.1 fC.2.2.2.1 fC.2.2.2.2.1 fC.2.2.2.2.2,rfl,fin D nD⟩⟩
def tW(fs:Vs)(own:Nat)(fr:List Nat)(N:Vs){wi:TI}{i:Nat}{y:Str}{py spos:Pos}(hX:X.N.Nodup)(hix:X.N[i]?=some y)(hy:X.env.scope.names.lookup y=some .local)
  (hsw:swapsWith (.ListComp elt [⟨tg,iter,ifs,0⟩] scope pos) (some (.Name y py)) spos.line X.env=pure true)
  (hc:X.calm=true) (hclos:closureFor scope X.env=pure (b4 X.env fs)) (hcell:∀y∈scope.names,y.2 ≠ .cell) (hkind:scope.kind = .function)
  (hnames:∀x∈scope.names,x.2 = .local->scope.names.lookup x.1=some .local) (hcl:bQ X.env fs) (hhas:k4 (relabel scope X.env).names (b4 X.env fs)=true)
  (hlen:N.length=own+fr.length) (hN:(N.drop own).map some=fr.map fun j=>X.N[j]?) (hF:B1 X.env scope (b4 X.env fs) (N.drop own))
  (hi:PI X tg iter wi) (hg:∀B,PG (X.CO N scope fs B) tg g) (hf:∀B,PF (X.CO N scope fs B) ifs tc) (he:∀B,PE (X.CO N scope fs B) elt te)
  (hs:∀x,foldedSetIterable iter X.env x=pure x:=by intro _;rfl):PS X (.Assign [.Name y py] (.ListComp elt [⟨tg,iter,ifs,0⟩] scope pos) spos) (tq (qR wi g tc te own fr) (lO i)):=by
 intro pins s σ H D I h
 rw[exec_Assign_Name_used _ _ _ _ hsw]
 refine wpAny_bind (wpAny_standAt (wpAny_bind ?_))
 show wpAny _ X.A (do let _ <-comprehension (.ListComp elt [⟨tg,iter,ifs,0⟩] scope pos) scope X.env _ (newList []) false (eval iter X.env) (some (assign (.Name y py) X.env))) _ _ s
 refine wpAny_bind (wpAny_mono (wpAny_comprehension_free (use:=some (assign (.Name y py) X.env)) (Q:=fun _ s'=>SP X pins D .next s') (g:=⟨tg,iter,ifs,0⟩) (gs:=[]) rfl hs hclos hkind hnames
  (Bh (hi pins s σ H _ I h) fun v s1 h1=>Bh h1 fun itv s2 h2=>?_)) (fun _ s' hq=>wpAny_pure (wpAny_pure hq)) fun _ _ e=>e)
 obtain⟨it,fp,tn,J,H2,e,I2,T,st2,f2,W⟩:=h2
 subst e
 refine jq (RR:=fun acc C=>compPost (model X.prog X.w) X.A X.xe (some (assign (.Name y py) X.env)) (fun _ s'=>SP X pins D .next s') acc C) hc hcell hkind hcl hhas hlen hN hF hg hf he I2 T st2 f2 W ?_
 intro Da C s' ys H' m' I' nD hn fC fin
 show wpAny _ X.A (assign (.Name y py) X.env (.ref Da)) _ _ s'
 refine wpAny_assign_Name (ki (v:=.ref Da) I' hX hix (.inl hy) rfl (fun s2 I3 ⟨a,sb,ha⟩=>?_) (.inr hy))
 have ca:C≠a:=by
  rcases ha with z|z
  ·rw[z];exact fC.2.1
  ·exact Ne.symm (fC.2.2.2.2.1 _ _ z)
 exact⟨m',hn.sameBut sb ca,fun h' hs'=>⟨_,_,I3.turned (t':=s2.toks) (fun b o hb e=>(hs'.2 b hb).trans e) fC.1 fC.2.1 fC.2.2.2.1 fC.2.2.2.2.1 fC.2.2.2.2.2,fin Da nD⟩⟩
end
end L2
namespace PySem
open Sem (wp)
namespace F
def pg:typeLookup (.type "list_reverseiterator") "__len__" = pure none:=by rw[typeLookup_type,builtinLookup_eq_fast];kernel_rfl
def qS:typeLookup (.type "list_reverseiterator") "__length_hint__" = pure (some (.builtin "list_reverseiterator.__length_hint__")):=by rw[typeLookup_type,builtinLookup_eq_fast];kernel_rfl
end F
section
variable {prog:Program} {w:World} {A:Around} {s:Shared} {R:Result->Shared->Prop}
variable {I:Addr} {fp wr:List Addr} {G:Array GenState->Array GenState->Prop} {n:Nat} {P:Nat->Value->Prop} {St:Nat->Shared->Prop}
def mV(W:WalksS prog w A.in1 I fp wr G n P St)(hT:∀i s,St i s->s.TypeIs (.ref I) "list_reverseiterator")(S:Addr)(res:Value)(c₀:Nat)(hst:St 0 s)(hSf:S ∉ fp)(hI:I∈fp)
  (hS:s.heap.get? S=some { cls:=.type "list",data:=.seq #[] c₀ })
  (hR:∀s' acc' c',Moved (S::wr) G s s'->s'.heap.get? S=some { cls:=.type "list",dict:=none,data:=.seq acc' c',slots:=#[] }->ItemsOf P acc' n->R (.ok (.ret res)) s') (hn:n<=sizeLine) :
  wpAny (model prog w) A.in1 (Builtin.List.listExtendWith (.ref S) (.ref I) res)
   (fun fin s'=>match fin with | .done f=>R (.ok f) s' | .again c'=>c'.quiet=true/\codeAny (model prog w) A c' R s') (fun e s'=>R (.error e) s') s:=by
 have hSI:S≠I:=fun e=>hSf (e▸hI)
 have h1:Builtin.List.listSameRef (.ref S) (.ref I)=false:=by simp[Builtin.List.listSameRef,hSI]
 unfold Builtin.List.listExtendWith
 refine wpAny_bind (wpAny_typeOf (hT 0 _ hst) ?_)
 rw[if_neg (by rw[h1];decide)]
 refine wpAny_bind (W.self 0 _ _ _ hst ?_)
 refine wpAny_bind (wpAny_holding ?_)
 unfold Builtin.List.listLengthHint
 refine wpAny_bind (wpAny_specialOf (hT 0 _ hst) F.pg ?_)
 show wpAny _ A.in1 (specialOf (Value.ref I) (Str.ofString "__length_hint__") >>= _) _ _ _
 refine wpAny_bind (wpAny_specialOf (hT 0 _ hst) F.qS ?_)
 (generalize hid:("list_reverseiterator.__length_hint__":String)=IJ;wp_delta;rw[show splitId IJ=some ("list_reverseiterator","__length_hint__")from by subst hid;decide +kernel];subst hid)
 refine wpAny_bind (wpAny_isInstance (b:=true) (hT 0 _ hst) (by rw[isSubtype_type];kernel_rfl) ?_)
 refine wpAny_pure ?_
 rw[if_neg (by decide)]
 exact wpAny_pure ⟨plainId_quiet F.plain_extend_loop _,codeAny_extend_loopS W hn _ hSf _ n 0 _ _ _ rfl (Nat.zero_le _) hst hS (ItemsOf.nil P) fun s' acc' c' hm hS' hacc=>hR s' acc' c' hm hS' hacc⟩
def j1(W:WalksS prog w A.in1 I fp wr G n P St)(hT:∀i s,St i s->s.TypeIs (.ref I) "list_reverseiterator")(S:Addr)(hst:St 0 s)(hSf:S ∉ fp)(hI:I∈fp)
  (hS:s.heap.get? S=some { cls:=.type "list",data:=.seq #[] })
  (hR:∀s' acc' c',Moved (S::wr) G s s'->s'.heap.get? S=some { cls:=.type "list",dict:=none,data:=.seq acc' c',slots:=#[] }->ItemsOf P acc' n->R (.ok (.ret .none)) s') (hn:n<=sizeLine) :
  wpAny (model prog w) A.in1 (Builtin.«list.__init__» ⟨[.ref S,.ref I],[]⟩)
   (fun fin s'=>match fin with | .done f=>R (.ok f) s' | .again c'=>c'.quiet=true/\codeAny (model prog w) A c' R s') (fun e s'=>R (.error e) s') s:=by
 show wpAny _ A.in1 (do let old <-Builtin.List.listItems (.ref S);Builtin.List.listUpdate (.ref S) (fun _=>#[]);letGo old.toList.reverse;Builtin.List.listExtendWith (.ref S) (.ref I) .none) _ _ s
 refine wpAny_bind ?_
 unfold Builtin.List.listItems
 refine wpAny_bind (wpAny_seqItems hS rfl (wpAny_pure ?_))
 show wpAny _ A.in1 (updateSeq S (fun _=>#[]) >>= fun _=>letGo (#[]:Vw).toList.reverse >>= fun _=>Builtin.List.listExtendWith (.ref S) (.ref I) .none) _ _ s
 refine wpAny_bind (wpAny_updateSeq hS rfl ?_)
 have Fv:=Heap.get?_update_self (Obj.mapSeq (fun _=>(#[]:Vw))) hS rfl
 have CP:∀b o,b≠S->s.heap.get? b=some o->(s.heap.update S (Obj.mapSeq (fun _=>(#[]:Vw)))).get? b=some o:=
  fun b o hb e=>(Heap.get?_update_other _ _ (Ne.symm hb)).trans e
 refine wpAny_bind (wpAny_letGo ?_)
 refine mV (hn:=hn) W hT S .none _ (W.frame 0 s _ s.toks hst (Nat.le_refl _) fun b hb o e=>CP b o (fun h=>hSf (h▸hb)) e) hSf hI Fv fun s' acc' c' hm hS' hacc=>?_
 exact hR s' acc' c' (Moved.trans W.gtrans ((Moved.refl W.grefl).then_heap (Nat.le_refl _) fun b o hb e=>CP b o (fun h=>hb (h▸List.mem_cons_self)) e) hm) hS' hacc
end
section
variable {prog:Program} {w:World} {A:Around} {E:Vq} {s:Shared}
def j2{I l:Addr}{items:Vw}{Q:Vq}(hh:A.handled=none)(hl:s.heap.IsList l items)(hit:s.heap.IsRevIter I l ((items.size:Int) - 1))(hne:l≠I)(hn:items.size<=sizeLine)
  (hQ:∀h' tk acc' c',(∀b o,b≠I->s.heap.get? b=some o->h'.get? b=some o)->h'.get? s.heap.objs.size=some { cls:=.type "list",dict:=none,data:=.seq acc' c',slots:=#[] }->
   acc'.toList=items.toList.reverse->Q (.ref s.heap.objs.size) { s with heap:=h',toks:=tk }) :
  wpAny (model prog w) A (call (.type "list") [.ref I]) Q E s:=by
 have W:=(Walks.listRev (prog:=prog) (w:=w) (A:=A.in1.in1) hh I l hne items).toS
 have GZ:I < s.heap.objs.size:=by obtain⟨o,ho,_⟩:=hit;exact Heap.lt_size ho
 have G0:l < s.heap.objs.size:=by obtain⟨o,ho,_⟩:=hl;exact Heap.lt_size ho
 have hfp:∀b∈[I,l],b < s.heap.objs.size:=fun b hb=>by
  rcases List.mem_cons.mp hb with rfl|hb
  ·exact GZ
  ·rw[List.mem_singleton.mp hb];exact G0
 have hSf:s.heap.objs.size ∉ [I,l]:=fun hm=>Nat.lt_irrefl _ (hfp _ hm)
 have hst:(fun i (s:Shared)=>i<=items.size/\s.heap.IsRevIter I l ((items.size:Int) - 1 - (i:Int))/\s.heap.IsList l items) 0 s:=⟨Nat.zero_le _,by simpa using hit,hl⟩
 refine callType_codes (Q₁:=fun obj s₁=>obj = .ref s.heap.objs.size/\s₁={ s with heap:=s.heap.push { cls:=.type "list",data:=.seq #[] } }) F.called_list (F.typeCall_list_1 _) F.entry_list_init
  (code_list_new _ ⟨rfl,rfl⟩) fun obj s₁ h₁=>?_
 obtain⟨rfl,rfl⟩:=h₁
 have hS:(s.heap.push { cls:=.type "list",data:=.seq #[] }).get? s.heap.objs.size=some { cls:=.type "list",data:=.seq #[] }:=Heap.get?_push_size _ rfl
 refine⟨⟨_,hS,rfl⟩,F.args_list_init_2 _ _,j1 (hn:=hn) W (fun i s st=>st.2.1.typeIs) _ (W.frame 0 s _ s.toks hst (Nat.le_refl _) fun b _ o e=>Heap.get?_push_of_some _ e) hSf (List.mem_cons_self ..) hS fun s' acc' c' hm hS' hacc=>?_⟩
 refine⟨rfl,?_⟩
 rw[hm.eq_with]
 refine hQ s'.heap s'.toks acc' c' (fun b o hb e=>hm.heap b o (fun z=>?_) (Heap.get?_push_of_some _ e)) hS' ?_
 ·rcases List.mem_cons.mp z with z|z
  ·exact absurd (Heap.lt_size e) (by rw[z];exact Nat.lt_irrefl _)
  ·exact hb (List.mem_singleton.mp z)
 ·obtain⟨hsz,hP⟩:=hacc
  apply List.ext_getElem?
  intro j
  by_cases hj:j < items.size
  ·have hj':j < acc'.size:=by rw[hsz];exact hj
   have q:=hP j acc'[j] (by simp[hj'])
   have e1:acc'.toList[j]?=some acc'[j]:=by simp[hj']
   rw[e1,List.getElem?_reverse (by simpa using hj)]
   simpa using q.symm
  ·rw[List.getElem?_eq_none (by simpa [hsz]using hj),List.getElem?_eq_none (by simpa using hj)]
end
end PySem
namespace L2
open PySem PySem.Spec PyProof.Rows
section
variable {X:Cx}
def qT(K:Vo)(te:TE):TE:=fun σ H Q=>te σ H fun x H1=>∃a xs,x = .ref a/\SqL K H1 a xs/\∀q,H1 q=none->Q (.ref q) (upd H1 q (.lst xs.reverse))
def mW{e:Expr}{te:TE}{p1 p2 q1 q2:Pos}(hc:X.calm=true)(he:PE X e te)(Fw:Gl X "list")(hm1:X.mg "list" = none)(El:Gl X "reversed")(hm2:X.mg "reversed" = none)
  (hs:starEach [e] X.env=[(false,eval e X.env)]:=by rfl) (hs2:starEach [.Call (.Name "reversed" p2) [e] [] q2] X.env=[(false,eval (.Call (.Name "reversed" p2) [e] [] q2) X.env)]:=by rfl) :
  PE X (.Call (.Name "list" p1) [.Call (.Name "reversed" p2) [e] [] q2] [] q1) (qT X.K te):=by
 intro pins s σ H Q I h
 refine wpAny_Call_Name_kw (cF I Fw hm1 (u:=.type "list") (by decide +kernel) ?_)
 refine PyProof.Rows.callWith_type1 ?_ hs2 rfl
 rw[hs2]
 show wpAny _ _ (spliced ((false,eval (.Call (.Name "reversed" p2) [e] [] q2) X.env)::backTo q1 [])) _ _ s
 refine Calls.spliced_cons ?_
 refine wpAny_Call_Name_kw (cF I El hm2 (u:=.type "reversed") boot_reversed ?_)
 refine PyProof.Rows.callWith_type1 ?_ hs rfl
 rw[hs]
 show wpAny _ _ (spliced ((false,eval e X.env)::backTo q2 [])) _ _ s
 refine Calls.spliced_cons (Bh (he pins s σ H _ I h) fun u s1 ⟨x,H1,I1,r1,a,xs,ex,hx,q⟩=>?_)
 subst ex
 cases r1
 obtain⟨its,rv,p,hz⟩:=I1.list hx
 have hl:=rv.length
 have hal:a < s1.heap.objs.size:=by obtain⟨o,ho,_⟩:=p.isList;exact Heap.lt_size ho
 refine Calls.spliced_nil (call_reversed_list p.isList ?_)
 refine Calls.spliced_nil ?_
 refine j2 (I.ok.hd hc) (p.isList.push _) ⟨_,Heap.get?_push_size _ rfl,rfl,rfl⟩ (Nat.ne_of_lt hal) (by rw[List.size_toArray,<-hl];exact hz) fun h' tk acc c hk hS ha=>?_
 have hsz:(s1.heap.push (revObj a ((its.toArray.size:Int) - 1))).objs.size=s1.heap.objs.size+1:=Heap.size_push _ _
 have hle:s1.heap.objs.size<=(s1.heap.push (revObj a ((its.toArray.size:Int) - 1))).objs.size:=by rw[hsz];exact Nat.le_succ _
 refine⟨.ref _,_,I1.laid (a:=(s1.heap.push (revObj a ((its.toArray.size:Int) - 1))).objs.size) (o:=.lst xs.reverse) (h':=h') (t':=tk) (fun b u e=>hk b u (Nat.ne_of_lt (Heap.lt_size e)) (Heap.get?_push_of_some _ e)) hle ?_,rfl,q _ (I1.hok.fresh hle)⟩
 refine⟨by rw[List.length_reverse];exact hz,its.reverse,c,Vals.reverse rv,?_⟩
 rw[hS]
 have e:acc=its.reverse.toArray:=by
  apply Array.toList_inj.mp
  rw[ha]
 rw[e]
end
section
variable {X:Cx}
end
section
variable {X:Cx}
noncomputable abbrev k5(c:Nat):Str:=⟨#[c]⟩
noncomputable def Ac(z:Str):It:=⟨fun i _=>i < z.cps.size,fun i H x H'=>H'=H/\∃c,z.cps[i]?=some c/\x = .str (k5 c),fun i _=>z.cps.size<=i⟩
def qU{P:Program}{w:World}{K:Vo}{tg:Expr}{ty:String}(hty:ty = "str_ascii_iterator" \/ ty = "str_iterator")(it:Addr)(z:Str)(t:Tok):lP P w K tg (Ac z) [it] it (fun i h=>i<=z.cps.size/\h.IsStrIter it ty z t i):=by
 have W:∀A':Around,A'.handled=none->Walks P w A' it [it] [it] z.cps.size (SignAt z) (fun i h=>h.IsStrIter it ty z t i):=fun A' hA=>by
  rcases hty with rfl|rfl
  ·exact Walks.strAscii hA it z t
  ·exact Walks.strWide hA it z t
 have nt:(["enumerate","zip","dict_itemiterator","dict_reverseitemiterator","odict_iterator","itertools.zip_longest","itertools.pairwise"].contains ty)=false:=by
  rcases hty with rfl|rfl<;>decide
 refine⟨by simp,fun i h st b hb=>?_,fun i h h' st k=>?_,?_,?_,?_⟩
 ·have e:b=it:=by simpa using hb
  subst e
  obtain⟨_,o,e,c,d⟩:=st
  exact⟨o,e,fun v q=>by rw[d]at q;cases q⟩
 ·obtain⟨hi,o,e,r⟩:=st
  exact⟨hi,o,k it (by simp) o e,r⟩
 ·intro X hP hw hK hc i pins s σ H E I hf st hg
  subst hP hw hK
  obtain⟨f0,f1,f2,f3,f4,f5⟩:=hf it (by simp)
  refine(W X.A (I.ok.hd hc)).item i s _ _ hg st.2 fun v h' tk hv st' kk=>?_
  obtain⟨c,u,hcp,rfl⟩:=hv
  have I1:Inv X pins σ H { s with heap:=h',toks:=tk }:=I.turned (fun b o hb e=>kk b o (by simpa using hb) e) f0 f1 f3 f4 f5
  obtain⟨o,e,co,d⟩:=id st'
  exact⟨_,rfl,iG (s:={ s with heap:=h',toks:=tk }) e co d nt ⟨.str (k5 c),H,I1,⟨u,rfl⟩,⟨rfl,c,hcp,rfl⟩,⟨hg,st'⟩,fun b hb=>(hf b hb).1⟩⟩
 ·intro X hP hw hK hc i pins s σ H E I hf st hg
  subst hP hw hK
  obtain⟨f0,f1,f2,f3,f4,f5⟩:=hf it (by simp)
  have e:i=z.cps.size:=Nat.le_antisymm st.1 hg
  subst e
  exact(W X.A (I.ok.hd hc)).done s _ _ st.2 fun h' tk kk=>⟨rfl,I.turned (fun b o hb e=>kk b o (by simpa using hb) e) f0 f1 f3 f4 f5⟩
 ·intro A i s Q E st h
  rcases hty with rfl|rfl
  ·exact wpAny_pyIter_striter_ascii st.2 h
  ·exact wpAny_pyIter_striter_wide st.2 h
def k6{ys:Vs}:∀{us:Vv},Vals (ys.map V.str) us->StrsAre us ys:=by
 induction ys with
 |nil=>intro us r;rw[List.map_nil]at r;cases r;exact .nil
 |cons n ns ih=>
  intro us r
  rw[List.map_cons]at r
  cases r with
  |cons r1 r2=>
   obtain⟨t,e⟩:=r1
   subst e
   exact .cons n t (ih r2)
noncomputable def yB(K:Vo):V->List V->Hp->VK->Prop:=fun x vs H Q=>∃sep p ys,x = .str sep/\vs=[.ref p]/\SqL K H p (ys.map V.str)/\(ys.map (·.length)).sum+ys.length * sep.length<=1000000/\Q (.str (Txt.join sep ys)) H
def tX:wk X "str.join" (yB X.K):=by
 intro pins s σ H x vs v us Q I rx rv h
 obtain⟨sep,p,ys,rfl,rfl,hp,hz,q⟩:=h
 obtain⟨t,rfl⟩:=rx
 obtain⟨u,rfl,ru⟩:=eh rv
 cases ru
 obtain⟨its,r,pl,_⟩:=I.list hp
 exact join_list pl.isList (by simpa using k6 r) (by omega) fun t' k=>⟨.str _,H,I.tok k,⟨t',rfl⟩,q⟩
def pp(hc:X.calm=true):eJ X (.builtin "all") (fun xs H Q=>∃(p:Addr) (bs:List Bool),xs=[.ref p]/\SqL X.K H p (bs.map V.bl)/\Q (.bl (bs.all id)) H):=by
 intro pins s σ H xs us Q I r h
 obtain⟨p,bs,rfl,hp,q⟩:=h
 obtain⟨u,rfl,rx⟩:=eh r
 cases rx
 obtain⟨its,rv,pl,hz⟩:=I.list hp
 have hl:=rv.length
 rw[List.length_map]at hl
 have hlt:p < s.heap.objs.size:=by obtain⟨o,ho,_⟩:=pl.isList;exact Heap.lt_size ho
 refine call_all_walk (wpAny_pyIter_list pl.isList ?_)
 have up:∀b o,s.heap.get? b=some o->(s.heap.push { cls:=.type "list_iterator",data:=.fields #[.ref p,.int 0 0] }).get? b=some o:=fun b o e=>Heap.get?_push_of_some _ e
 refine⟨s.heap.objs.size,_,_,_,_,_,fun i=>(bs[i]?).getD true,rfl,Walks.list (A:=X.A.in1) (I.ok.hd hc) s.heap.objs.size p (Nat.ne_of_lt hlt) its.toArray,⟨⟨_,Heap.get?_push_size _ rfl,rfl,rfl⟩,pl.isList.push _⟩,?_,fun h' tk hk=>?_⟩
 ·intro i v s' Q' E' hv hq
  have hi:i < its.length:=by
   by_cases z:i < its.length
   ·exact z
   ·rw[Array.getElem?_eq_none (by simpa using z)]at hv;cases hv
  obtain⟨u',e1,r1⟩:=rv.get (i:=i) (x:=.bl bs[i]) (by rw[List.getElem?_map,List.getElem?_eq_getElem (by omega)];rfl)
  have e2:v=u':=by
   have z:its[i]?=some v:=by simpa using hv
   rw[z]at e1;exact Option.some.inj e1
  subst e2
  cases (show v=Value.bool bs[i] from r1)
  refine wpAny_truthy_bool ?_
  have hq':Q' ((bs[i]?).getD true) s':=hq
  rw[List.getElem?_eq_getElem (show i < bs.length by omega)]at hq'
  exact hq'
 ·have e:(List.range its.toArray.size).all (fun i=>(bs[i]?).getD true)=bs.all id:=by
   rw[List.size_toArray,<-hl,Bool.eq_iff_iff,List.all_eq_true,List.all_eq_true]
   constructor
   ·intro h1 x hx
    obtain⟨j,hj,e⟩:=List.getElem_of_mem hx
    have q1:=h1 j (List.mem_range.mpr hj)
    rw[List.getElem?_eq_getElem hj]at q1
    rw[<-e];exact q1
   ·intro h1 j hj
    have hj':=List.mem_range.mp hj
    rw[List.getElem?_eq_getElem hj']
    exact h1 _ (List.getElem_mem hj')
  rw[e]
  exact⟨.bl _,H,(I.kept (t':=tk) (h':=h') fun b o eo=>hk b o (by
   intro hm
   have hb:b=s.heap.objs.size:=by simpa using hm
   exact absurd (Heap.lt_size eo) (by rw[hb];exact Nat.lt_irrefl _)) (up b o eo)),rfl,q⟩
end
section
variable {X:Cx}
noncomputable def Ad:V->Option Int->Option Int->Hp->VK->Prop:=fun x lo hi H Q=>∃z,x = .str z/\z.length<=sizeLine/\Q (.str (Txt.slice z lo hi)) H
def wE:xI X Ad:=by
 intro pins s σ H x v vl vu lo hi sl Q I rx hs pl pu h
 obtain⟨z,rfl,hz,q⟩:=h
 obtain⟨t,rfl⟩:=rx
 refine⟨"str",_,F.slot_str_getitem.lookup,typeIs_str _ _ _,?_⟩
 obtain⟨o,e,c,d⟩:=hs
 have fin:∀l u:Option (Int×Tok),(vl=partValue l/\lo=l.map (·.1))->(vu=partValue u/\hi=u.map (·.1))->wpAny (model X.prog X.w) X.A (getItem (.str z t) (.ref sl)) (EP X pins σ Q) X.xe s:=by
  rintro l u ⟨rfl,rfl⟩ ⟨rfl,rfl⟩
  exact wpAny_getItem_str_slice (l:=l) (u:=u) (st:=none) ⟨o,e,c,d⟩ rfl (post_val_or_str ⟨Nat.le_trans (Txt.slice_le z _ _) hz,fun t' k=>⟨.str _,H,I.tok k,⟨t',rfl⟩,q⟩⟩)
 cases pl with
 |none=>
  cases pu with
  |none=>exact fin none none ⟨rfl,rfl⟩ ⟨rfl,rfl⟩
  |int j uj=>exact fin none (some (j,uj)) ⟨rfl,rfl⟩ ⟨rfl,rfl⟩
 |int i ui=>
  cases pu with
  |none=>exact fin (some (i,ui)) none ⟨rfl,rfl⟩ ⟨rfl,rfl⟩
  |int j uj=>exact fin (some (i,ui)) (some (j,uj)) ⟨rfl,rfl⟩ ⟨rfl,rfl⟩
noncomputable def wF:V->List V->Hp->VK->Prop:=fun x vs H Q=>∃a b i rest,x = .str a/\vs=[.str b]/\Builtin.Str.occurrences a b 0 a.length 1=i::rest/\Q (.int i) H
def qV:wk X "str.index" wF:=by
 intro pins s σ H x vs v us Q I rx rv h
 obtain⟨a,b,i,rest,rfl,rfl,ho,q⟩:=h
 obtain⟨t,rfl⟩:=rx
 obtain⟨w,rfl,u,rfl⟩:=eh rv
 exact call_gives F.slot_str_index (typeIs_str _ _ _) F.entry_str_index (F.args_str_index_2 _ _) (gives_str_index a b t u i rest ho) ⟨.int i,H,I.tok _,⟨_,rfl⟩,q⟩
def wG(K:Vo)(i j k:Nat)(te:TE):TS:=fun D σ H=>te σ H fun x H1=>∃p v w u,x = .ref p/\Cj K H1 p [v,w,u]/\D.nx (((σ.set k (some u)).set j (some w)).set i (some v)) H1
def qW{i j k:Nat}{x y z:Str}{e:Expr}{te:TE}{px py pz pt:Pos}{kt:Nat}{pos:Pos}(hc:X.calm=true)(hN:X.N.Nodup)(hi:X.N[i]?=some x)(hj:X.N[j]?=some y)(hk:X.N[k]?=some z)
  (hx:X.env.scope.names.lookup x=some .local) (hy:X.env.scope.names.lookup y=some .local) (hz:X.env.scope.names.lookup z=some .local) (he:PE X e te)
  (hw:swappedStores [.Tuple [.Name x px,.Name y py,.Name z pz] kt pt] e X.env=pure (some [x,y,z]))
  (hs:swapsWithSole [.Tuple [.Name x px,.Name y py,.Name z pz] kt pt] e pos.line X.env=pure false) :
  PS X (.Assign [.Tuple [.Name x px,.Name y py,.Name z pz] kt pt] e pos) (wG X.K i j k te):=by
 intro pins s σ H D I h
 refine Assign_Tuple_swapped (names:=[x,y,z]) (Bh (he pins s σ H _ I h) fun r s1 ⟨xr,H1,I1,r1,p,v,w,u,ex,hp,q⟩=>?_) hs hw
 subst ex
 cases r1
 obtain⟨its,rv,tp,_⟩:=I1.tuple hp
 obtain⟨u1,u2,u3,ei,a1,a2,a3⟩:∃u1 u2 u3,its=[u1,u2,u3]/\RelV v u1/\RelV w u2/\RelV u u3:=by
  cases rv with
  |cons a1 rv=>
   cases rv with
   |cons a2 rv=>
    cases rv with
    |cons a3 rv=>
     cases rv
     exact⟨_,_,_,rfl,a1,a2,a3⟩
 subst ei
 refine unpackItems_tuple (items:=#[u1,u2,u3]) (I.ok.hd hc) tp fun h' kp=>?_
 have I2:=I1.kept (h':=h') (t':=s1.toks) fun b o eb=>kp b o (Nat.ne_of_lt (Heap.lt_size eb)) eb
 refine assignInOrder_cons (wpAny_bindName (cE I2 hN hk (.inl hz) a3 (fun s2 I3=>?_) (.inr hz)))
 refine assignInOrder_cons (wpAny_bindName (cE I3 hN hj (.inl hy) a2 (fun s3 I4=>?_) (.inr hy)))
 exact assignInOrder_cons (wpAny_bindName (cE I4 hN hi (.inl hx) a1 (fun s4 I5=>assignInOrder_nil ⟨_,H1,I5,q⟩) (.inr hx)))
end
end L2
namespace Zt
open PySem
open Sem (wp)
section
variable {prog:Program} {w:World} {A:Around} {E:Vq} {s:Shared}
def nx{j t:Addr}{i:Nat}{its:Vw}{x:Value}{Q:Vq}(hj:s.heap.IsTupleIter j t i)(ht:s.heap.IsTuple t its)(hx:its[i]?=some x)
  (k:∀g:Heap,g.IsTupleIter j t (i+1)->Heap.SameBut j s.heap g->Q x { s with heap:=g }):wpAny (model prog w) A (Builtin.SmallTypes.nextOf (.ref j)) Q E s:=by
 obtain⟨ob,eb,kb,db⟩:=id hj
 obtain⟨oc,ec,_,nc,dc⟩:=ht
 unfold Builtin.SmallTypes.nextOf
 refine wpAny_bind (wpAny_callSpecial?_slot (name:=Str.ofString "__next__") hj.typeIs F.slot_tuple_iterator_next (wpAny_call_entry F.slot_tuple_iterator_next hj.typeIs F.entry_tuple_iterator_next ?_ (F.args_tuple_iterator_next_1 _)))
 show wpAny _ _ (field (.ref j) 0 >>= _) _ _ s;refine wpAny_bind (wpAny_field eb db (x:=.ref t) rfl ?_)
 show wpAny _ _ (if (Value.ref t == Value.none)=true then _ else _) _ _ s;rw[if_neg (show ¬((Value.ref t == Value.none)=true)from Bool.false_ne_true)]
 show wpAny _ _ (field (.ref j) 1 >>= _) _ _ s;refine wpAny_bind (wpAny_field eb db (x:=.int i 0) rfl ?_)
 show wpAny _ _ (seqItems? (.ref t) >>= _) _ _ s;refine wpAny_bind (wpAny_seqItems ec dc ?_)
 simp only[Int.toNat_natCast,hx];refine wpAny_bind (wpAny_setField eb db (by simp) (wpAny_pure ⟨x,rfl,wpAny_pure (k _ ?_ (Heap.SameBut.update ..))⟩))
 exact⟨_,Heap.get?_update_self _ eb (Obj.isFreed_of_fields (Obj.data_mapFields db _)),(Obj.cls_mapFields ..).trans kb,by rw[Obj.data_mapFields db];simp[rawInt]⟩
def AT{j t:Addr}{i:Nat}{its:Vw}{Q:Vq}(hh:A.handled=none)(hj:s.heap.IsTupleIter j t i)(ht:s.heap.IsTuple t its)(hx:its[i]?=none)
  (k:∀(g:Heap) (e:Addr),Heap.ExtBut j s.heap g->(∃o,g.get? e=some o/\o.cls = .type "StopIteration")->E (.ref e) { s with heap:=g }):wpAny (model prog w) A (Builtin.SmallTypes.nextOf (.ref j)) Q E s:=by
 obtain⟨ob,eb,kb,db⟩:=id hj
 obtain⟨oc,ec,_,nc,dc⟩:=ht
 unfold Builtin.SmallTypes.nextOf
 refine wpAny_bind (wpAny_callSpecial?_slot (name:=Str.ofString "__next__") hj.typeIs F.slot_tuple_iterator_next (wpAny_call_entry F.slot_tuple_iterator_next hj.typeIs F.entry_tuple_iterator_next ?_ (F.args_tuple_iterator_next_1 _)))
 show wpAny _ _ (field (.ref j) 0 >>= _) _ _ s;refine wpAny_bind (wpAny_field eb db (x:=.ref t) rfl ?_)
 show wpAny _ _ (if (Value.ref t == Value.none)=true then _ else _) _ _ s;rw[if_neg (show ¬((Value.ref t == Value.none)=true)from Bool.false_ne_true)]
 show wpAny _ _ (field (.ref j) 1 >>= _) _ _ s;refine wpAny_bind (wpAny_field eb db (x:=.int i 0) rfl ?_)
 show wpAny _ _ (seqItems? (.ref t) >>= _) _ _ s;refine wpAny_bind (wpAny_seqItems ec dc ?_)
 simp only[Int.toNat_natCast,hx];refine wpAny_bind (wpAny_rule (wpAny_bind (wpAny_setField eb db (by simp) ?_)))
 show wpAny _ _ (newExc (.type "StopIteration") [] >>= _) _ _ _;refine wpAny_bind ?_
 simp only[newExc,newTuple];refine wpAny_bind (wpAny_newObj_type ?_ (by size_fits))
 refine wpAny_bind (m:=firstArgMember _ _) (wpAny_of_eq (a:=Value.none) (by first|rfl|(simp only[firstArgMember];rfl)) ?_);refine wpAny_newObj_type ?_ (by size_fits)
 simp only[raiseNew];refine wpAny_bind (wpAny_handled ?_)
 first|(rw[hh])|(rw[show A.in1.handled=none from hh])
 exact wpAny_bind (wpAny_pure (wpAny_throw (k _ _ (((Heap.SameBut.update ..).extBut.push _).push _) ⟨_,Heap.get?_push_size _ rfl,rfl⟩)))
variable {ka kb:Bool} {z TI TO i1 i2 l1 l2:Addr} {k1 k2:Nat} {xs ys:Vw} {x y a b:Value}
end
section
variable {ka kb:Bool} {prog:Program} {w:World} {A:Around} {E:Vq} {s:Shared}
end
end Zt
namespace L2
open PySem PySem.Spec PyProof.Rows
section
variable {X:Cx} {pins:Va} {σ:St} {H:Hp} {s:Shared} {h':Heap}
def Inv.Dn{t':Nat}{fp:List Addr}(I:Inv X pins σ H s)(k:∀b o,b ∉ fp->s.heap.get? b=some o->h'.get? b=some o)(hf:∀b∈fp,dI X pins H b):Inv X pins σ H { s with heap:=h',toks:=t' }:=by
 have FR:∀b u,H b=some u->b ∉ fp:=fun b u e z=>by rw[(hf b z).1]at e;cases e
 refine I.step (g':=s.gens) (d':=s.drawn) (ch:=fp) (fun b hb=>?_) (fun b o _ _ hc e _=>k b o hc e) (fun b o _ _ hc e _=>⟨o.slots,k b o hc e⟩) (fun _ _ _ _ n=>n)
  (fun b o hc e=>⟨o,k b o hc e⟩) (fun _ _ e=>e) (fun _ _ _ e=>e) (fun b ps e=>⟨#[],by rw[e];simp⟩) (fun m hm=>?_) (fun b u e=>?_) I.bare
 ·obtain⟨f0,f1,f2,f3,f4,f5⟩:=hf b hb
  exact⟨f3,f1,f4,f5⟩
 ·obtain⟨o,es,ep,ho,r⟩:=hm
  exact⟨o,es,ep,k _ o (fun z=>(hf _ z).2.1 rfl) ho,r⟩
 ·refine(I.hok b u e).stay (fun c v hc q=>k c v ?_ q) (fun _ q=>q) fun _ _ q=>q
  rcases hc with z|z
  ·rw[z];exact FR b u e
  ·exact FR c _ z
def Inv.DC{D:Addr}{us:Vv}{ys:List V}(I:Inv X pins σ H s)(f:dI X pins H D)(e:BR s.heap D us.toArray)(r:Vals ys us)(hz:ys.length<=sizeLine) :
  Inv X pins σ (upd H D (.tup ys)) s:=by
 obtain⟨f0,f1,f2,f3,f4,f5⟩:=f
 have nD:∀b u,H b=some u->b≠D:=fun b u q=>aQ q f0
 have hok:CT X.prog X.w (upd H D (.tup ys)) s.heap:=fun b u q=>by
  by_cases hb:b=D
  ·subst hb
   rw[ar]at q
   cases q
   exact⟨hz,us,r,e⟩
  ·rw[ay hb]at q
   exact(I.hok b u q).stay (fun _ _ _ z=>z) (fun c z=>by rw[ay (nD c _ z)];exact z) fun c xs z=>by rw[ay (nD c _ z)];exact z
 exact I.step (H':=upd H D (.tup ys)) (h':=s.heap) (g':=s.gens) (t':=s.toks) (d':=s.drawn) (ch:=[D])
  (fun b hb=>by
   have z:b=D:=by simpa using hb
   subst z
   exact⟨f3,f1,f4,f5⟩)
  (fun _ _ _ _ _ q _=>q) (fun _ o _ _ _ q _=>⟨o.slots,q⟩)
  (fun b o hb _ n=>by rw[ay (fun z=>hb (by simp[z]))];exact n)
  (fun _ o _ q=>⟨o,q⟩) (fun b xs q=>by rw[ay (nD b _ q)];exact q) (fun b o u q=>by rw[ay (nD b _ q)];exact q)
  (fun b ps q=>⟨#[],by rw[ay (nD b _ q),q];simp⟩) (fun _ q=>q) hok I.bare
end
section
variable {X:Cx}
def KD(P:Program)(w:World)(K:Vo)(a:Addr)(kvs:List (bb×V)):Prop:=(a == sysModules)=false/\∃o vs,K.lookup a=some o/\KV kvs vs/\Obj.IsDictOf (aP P w) o vs
def yC(a:Addr)(kvs:List (bb×V))(ty tx:TE):TE:=fun σ H Q=>ty σ H fun y H2=>tx σ H2 fun z H3=>∃k,y=kV k/\Q ((fz kvs k).getD z) H3
def tY{x:Str}{e f:Expr}{px apos cpos:Pos}{ty tx:TE}{a:Addr}{kvs:List (bb×V)}(hu:X.A.units+1 < cLine)(hg:Gl X x)(hm:X.mg x=some (.ref a))(hD:KD X.prog X.w X.K a kvs)(he:PE X e ty)(hf:PE X f tx)(m:M2 X (.Name x px) "get" apos e f cpos)
  (hd:(x == ("__debug__":Str))=false:=by decide):PE X (.Call (.Attribute (.Name x px) "get" apos) [e,f] [] cpos) (yC a kvs ty tx):=by
 intro pins s σ H Q I h
 obtain⟨hsys,o,vs,hk,rel,ii⟩:=hD
 have dd:∀{s1:Shared} {H1:Hp},Inv X pins σ H1 s1->s1.heap.DictOf (aP X.prog X.w) a vs:=fun I1=>Heap.dictOf_iff.mpr ⟨o,I1.Ey a o hk,ii⟩
 refine wpAny_Call_method m.base m.few m.line PySem.F.plainAttrs_dict PySem.F.slot_dict_get PySem.F.type_dict_get (nW I hg hm ?_ hd)
 refine⟨(dd I).typeIs,fun b q=>?_,?_⟩
 ·cases q
  obtain⟨ob,_,_,h1,h2,_⟩:=dd I
  exact⟨ob,h1,h2.2.1⟩
 rw[m.trees]
 refine Calls.callWith_builtin rfl (Calls.evalArgs_plain (Calls.spliced_cons (Bh (he pins s σ H _ I h) fun iv s2 ⟨y,H2,I2,ry,q2⟩=>
  Calls.spliced_cons (Bh (hf pins s2 σ H2 _ I2 q2) fun fv s3 ⟨z,H3,I3,rz,k,ey,q3⟩=>Calls.spliced_nil ?_))))
 subst ey
 refine call_meetsIn PySem.F.slot_dict_get (dd I3).typeIs PySem.F.entry_dict_get (PySem.F.args_dict_get_3 _ _ _) (meets_dict_get_default (aP X.prog X.w) a (iI ry) hsys fv) ⟨_,(dd I3).mapOf,⟨_,H3,I3.tok _,?_,q3⟩⟩
 exact(rel.val k).getD rz
end
section
variable {env:Env} {rest:List Expr} {pos:Pos}
def pq{g:Expr}{es:List Expr}{ks:List Keyword}:starEach (.Call g es ks pos::rest) env=(false,eval (.Call g es ks pos) env)::starEach rest env:=rfl
def pA{a:Expr}{gs:List Comprehension}{sc:Scope}:starEach (.ListComp a gs sc pos::rest) env=(false,eval (.ListComp a gs sc pos) env)::starEach rest env:=rfl
end
section
variable {X:Cx} {pos:Pos} {es:List Expr} {te:TE} {t:TA}
end
section
variable {X:Cx} {pos:Pos} {e:Expr} {es:List Expr} {te:TE} {t:TA}
end
section
variable {X:Cx} {pos:Pos} {a b e tg iter:Expr} {es:List Expr} {ta tb' te:TE} {t:TA} {st:Stmt} {sts:List Stmt} {u v tb:TS}
end
noncomputable def Ae(K:Vo)(a:Addr):It:=
  ⟨fun i H=>∃xs x,SqL K H a xs/\xs[i]?=some x,
   fun i H v H'=>∃p x,v = .ref p/\H p=none/\H'=upd H p (.tup [.int (i:Nat),x])/\∀xs,SqL K H a xs->xs[i]?=some x,
   fun i H=>∃xs,SqL K H a xs/\xs.length<=i⟩
def pB{P:Program}{w:World}{K:Vo}{elts:List Expr}{k0:Nat}{DX:Pos}{e it a:Addr}(hei:e≠it) :
  lP P w K (.Tuple elts k0 DX) (Ae K a) [e,it] e (fun i h=>(∃old,IsEnum h e it i old)/\h.IsListIter it a i) where
 mem:=by simp
 obj:=fun i h st c hc=>by
  obtain⟨⟨old,ge⟩,⟨o1,e1,_,d1⟩⟩:=st
  simp only[List.mem_cons,List.not_mem_nil,or_false]at hc
  rcases hc with rfl|rfl
  ·exact⟨_,ge,fun v q=>by cases q⟩
  ·exact⟨_,e1,fun v q=>by rw[d1]at q;cases q⟩
 keep:=fun i h h' st k=>by
  obtain⟨⟨old,ge⟩,g1⟩:=st
  exact⟨⟨old,k e (by simp) _ ge⟩,g1.at fun o q=>k it (by simp) o q⟩
 item:=by
  intro X hP hw hK hc i pins s σ H E I hf st hg
  subst hP hw hK
  obtain⟨⟨old,ge⟩,g1⟩:=st
  obtain⟨xs,x,EX,hx⟩:=hg
  obtain⟨ia,ra,pa,za⟩:=I.list EX
  obtain⟨u,hu,ru⟩:=ra.get hx
  refine wpAny_pyNext_enum_item ge g1 pa.isList (x:=u) (by simpa using hu) hei fun g a1 a2 a3 a4 a5=>?_
  refine⟨_,rfl,wpAny_letOwnedTupleGo_enum (s:={ s with heap:=g,toks:=s.toks+1 }) a1 fun g' z' q'=>?_⟩
  have kk:∀c o,c ∉ [e,it]->s.heap.get? c=some o->g'.get? c=some o:=fun c o hc q=>by
   simp only[List.mem_cons,List.not_mem_nil,or_false,not_or]at hc
   exact(q'.2 c hc.1).trans (a5 c o hc.1 hc.2 q)
  have I1:Inv X pins σ H { s with heap:=g',toks:=s.toks+1 }:=I.Dn kk hf
  have f0:dI X pins H s.heap.objs.size:=I.Di (Nat.le_refl _) (I.hok.fresh (Nat.le_refl _))
  have G1:s.heap.objs.size≠e:=Nat.ne_of_gt (Heap.lt_size ge)
  have eT:BR g' s.heap.objs.size [Value.int i s.toks,u].toArray:=⟨_,(q'.2 _ G1).trans a3,rfl,rfl,_,rfl⟩
  have I2:=I1.DC (ys:=[.int i,x]) f0 eT (.cons ⟨_,rfl⟩ (.cons ru .nil)) (by show 2<=sizeLine;decide)
  refine⟨.ref s.heap.objs.size,_,I2,rfl,⟨s.heap.objs.size,x,rfl,f0.1,rfl,fun xs' h1=>by rw[I.DO h1 EX];exact hx⟩,⟨⟨u,by simpa using z'⟩,a2.at fun o q=>(q'.2 it hei.symm).trans q⟩,fun c hc=>?_⟩
  have hlt:c < s.heap.objs.size:=by
   obtain⟨o1,e1,_⟩:=g1
   simp only[List.mem_cons,List.not_mem_nil,or_false]at hc
   rcases hc with rfl|rfl
   ·exact Heap.lt_size ge
   ·exact Heap.lt_size e1
  rw[ay (Nat.ne_of_lt hlt)]
  exact(hf c hc).1
 done:=by
  intro X hP hw hK hc i pins s σ H E I hf st hg
  subst hP hw hK
  obtain⟨⟨old,ge⟩,g1⟩:=st
  obtain⟨xs,EX,hl⟩:=hg
  obtain⟨ia,ra,pa,za⟩:=I.list EX
  have la:=ra.length
  refine wpAny_pyNext_enum_end (I.ok.hd hc) ge g1 pa.isList (by simp;omega) fun g kk=>⟨rfl,I.Dn (t':=s.toks) (fun c o hc q=>?_) hf⟩
  simp only[List.mem_cons,List.not_mem_nil,or_false,not_or]at hc
  exact kk c o hc.2 q
 self:=fun _ _ _ _ _ st h=>by
  obtain⟨⟨old,ge⟩,_⟩:=st
  exact wpAny_pyIter_enum ge h
section
variable {X:Cx}
end
end L2
namespace Et
open PySem
open Sem (wp)
open AutoSeq1 (wpAny_loadPart')
def vg{P:Program}{w:World}{A:Around}(hh:A.handled=none)(it t:Addr)(hne:t≠it)(its:Vw) :
  Draws P w A it [it,t] its.size (fun i v=>its[i]?=some v) (fun i h=>h.IsTupleIter it t i/\h.IsTuple t its) where
 live:=fun i h st=>let ⟨⟨o,e,_⟩,_⟩:=st;⟨o,e⟩
 frame:=fun i h h' st k=>⟨st.1.at fun o e=>k it (by simp) o e,let ⟨o,e,r⟩:=st.2;⟨o,k t (by simp) o e,r⟩⟩
 item:=fun i s Q E hi st hQ=>Zt.nx st.1 st.2 (Array.getElem?_eq_getElem hi) fun g a b=>hQ _ g s.toks (Array.getElem?_eq_getElem hi) ⟨a,st.2.extBut b.extBut hne⟩ b
 done:=fun s Q E st hE=>Zt.AT hh st.1 st.2 (Array.getElem?_eq_none (Nat.le_refl _)) hE
noncomputable abbrev E1(h:Heap)(l:Addr):Heap:=h.push { cls:=.type "tuple_iterator",data:=.fields #[.ref l,.int 0 0] }
noncomputable abbrev E2(h:Heap)(l:Addr):Heap:=(E1 h l).push { cls:=.type "enumerate",data:=.fields #[.none,.bool false,.ref h.objs.size,rawInt 0,.none,.none] }
def pC(l:Addr)(its:Vw)(n:Nat)(dct:Option Addr)(sl:Array (Option Value)) :
  Meets (Builtin.«enumerate.__new__» ⟨[.type "enumerate",.ref l],[]⟩) (fun _ R s=>s.heap.get? l=some { cls:=.type "tuple",dict:=dct,data:=.seq its n,slots:=sl }/\R (.ok (.ret (.ref (E1 s.heap l).objs.size))) { s with heap:=E2 s.heap l }):=
 .of_wp fun prog w A R s h=>by
  obtain⟨hp,g,d,tk,os⟩:=s;obtain⟨hl,h⟩:=h
  have hsub:=sub_enumerate
  have T:Heap.IsTuple (Shared.heap ⟨hp,g,d,tk,os⟩) l its:=⟨_,hl,rfl,n,rfl⟩
  wp_walk using wpAny_loadPart' hl
  refine wpAny_stack_any fun st=>wpAny_pure ?_
  split
  ·rename_i c _ _ _ _ _
   cases (c == Value.type "enumerate")
   ·wp_walk using wpAny_loadPart' hl,wpAny_pyIter_tuple T
    exact⟨_,rfl,h⟩
   ·wp_walk using wpAny_loadPart' hl,wpAny_pyIter_tuple T
    exact⟨_,rfl,h⟩
  ·wp_walk using wpAny_loadPart' hl,wpAny_pyIter_tuple T
   exact⟨_,rfl,h⟩
def qX{P:Program}{w:World}{A:Around}{E:Vq}{s:Shared}{l:Addr}{its:Vw}{Q:Vq}(hT:s.heap.IsTuple l its)
  (k:∀g,IsEnum g (s.heap.objs.size+1) s.heap.objs.size 0 .none->g.IsTupleIter s.heap.objs.size l 0->(∀b o,s.heap.get? b=some o->g.get? b=some o)->Q (.ref (s.heap.objs.size+1)) { s with heap:=g }) :
  wpAny (model P w) A (call (.type "enumerate") [.ref l]) Q E s:=by
 obtain⟨⟨c,dct,dt,sl⟩,hl,hc,n,hd⟩:=hT
 replace hc:c = .type "tuple":=hc
 replace hd:dt = .seq its n:=hd
 subst hc hd
 refine callType_new F.called_enumerate (by decide) (F.typeCall_enumerate_1 _) (F.newCall_enumerate_1 _) (fun obj=>F.args_object_init_2 obj _) F.entry_enumerate_new (pC l its n dct sl) ⟨hl,?_⟩
 have hz:(E1 s.heap l).objs.size=s.heap.objs.size+1:=Heap.size_push ..
 show _/\_
 rw[hz]
 have he:IsEnum (E2 s.heap l) (s.heap.objs.size+1) s.heap.objs.size 0 .none:=by
  have q:=Heap.get?_push_size (E1 s.heap l) (o:={ cls:=.type "enumerate",data:=.fields #[.none,.bool false,.ref s.heap.objs.size,rawInt 0,.none,.none] }) rfl
  rw[hz]at q
  exact q
 exact⟨⟨_,he,rfl⟩,k _ he ⟨_,Heap.get?_push_of_some _ (Heap.get?_push_size _ rfl),rfl,rfl⟩ fun b o x=>Heap.get?_push_of_some _ (Heap.get?_push_of_some _ x)⟩
end Et
namespace L2
open PySem PySem.Spec PyProof.Rows
noncomputable def Af(K:Vo)(a:Addr):It:=
  ⟨fun i H=>∃xs x,Cj K H a xs/\xs[i]?=some x,
   fun i H v H'=>∃p x,v = .ref p/\H p=none/\H'=upd H p (.tup [.int (i:Nat),x])/\∀xs,Cj K H a xs->xs[i]?=some x,
   fun i H=>∃xs,Cj K H a xs/\xs.length=i⟩
def mX{P:Program}{w:World}{K:Vo}{elts:List Expr}{k0:Nat}{DX:Pos}{e it a:Addr}(hei:e≠it)(IK:a≠e)(hai:a≠it) :
  lP P w K (.Tuple elts k0 DX) (Af K a) [e,it] e (fun i h=>(∃old,IsEnum h e it i old)/\h.IsTupleIter it a i) where
 mem:=by simp
 obj:=fun i h st c hc=>by
  obtain⟨⟨old,ge⟩,⟨o1,e1,_,d1⟩⟩:=st
  simp only[List.mem_cons,List.not_mem_nil,or_false]at hc
  rcases hc with rfl|rfl
  ·exact⟨_,ge,fun v q=>by cases q⟩
  ·exact⟨_,e1,fun v q=>by rw[d1]at q;cases q⟩
 keep:=fun i h h' st k=>by
  obtain⟨⟨old,ge⟩,g1⟩:=st
  exact⟨⟨old,k e (by simp) _ ge⟩,g1.at fun o q=>k it (by simp) o q⟩
 item:=by
  intro X hP hw hK hc i pins s σ H E I hf st hg
  subst hP hw hK
  obtain⟨⟨old,ge⟩,g1⟩:=st
  obtain⟨xs,x,EX,hx⟩:=hg
  obtain⟨ia,ra,pa,za⟩:=I.tuple EX
  obtain⟨u,hu,ru⟩:=ra.get hx
  have hil:i < ia.toArray.size:=by
   rcases Nat.lt_or_ge i ia.length with q|q
   ·simpa using q
   ·rw[List.getElem?_eq_none q]at hu;cases hu
  refine wpAny_pyNext_enum_itemD (Et.vg (P:=X.prog) (w:=X.w) (A:=X.A.in1) (I.ok.hd hc) it a hai ia.toArray) ge ⟨g1,(show s.heap.IsTuple a ia.toArray from pa)⟩ hil hei (by simp[hei,Ne.symm IK]) fun v g tk hv a1 a2 a3 a4 a5=>?_
  have ev:v=u:=by
   have q:ia[i]?=some v:=by simpa using hv
   rw[q]at hu
   exact Option.some.inj hu
  subst ev
  refine⟨_,rfl,wpAny_letOwnedTupleGo_enum (s:={ s with heap:=g,toks:=tk+1 }) a1 fun g' z' q'=>?_⟩
  have kk:∀c o,c ∉ [e,it]->s.heap.get? c=some o->g'.get? c=some o:=fun c o hc q=>by
   simp only[List.mem_cons,List.not_mem_nil,or_false,not_or]at hc
   exact(q'.2 c hc.1).trans (a5 c o hc.1 hc.2 q)
  have I1:Inv X pins σ H { s with heap:=g',toks:=tk+1 }:=I.Dn kk hf
  have f0:dI X pins H s.heap.objs.size:=I.Di (Nat.le_refl _) (I.hok.fresh (Nat.le_refl _))
  have G1:s.heap.objs.size≠e:=Nat.ne_of_gt (Heap.lt_size ge)
  have eT:BR g' s.heap.objs.size [Value.int i tk,v].toArray:=⟨_,(q'.2 _ G1).trans a3,rfl,rfl,_,rfl⟩
  have I2:=I1.DC (ys:=[.int i,x]) f0 eT (.cons ⟨_,rfl⟩ (.cons ru .nil)) (by show 2<=sizeLine;decide)
  refine⟨.ref s.heap.objs.size,_,I2,rfl,⟨s.heap.objs.size,x,rfl,f0.1,rfl,fun xs' h1=>by rw[I.Dz h1 EX];exact hx⟩,⟨⟨v,by simpa using z'⟩,a2.1.at fun o q=>(q'.2 it hei.symm).trans q⟩,fun c hc=>?_⟩
  have hlt:c < s.heap.objs.size:=by
   obtain⟨o1,e1,_⟩:=g1
   simp only[List.mem_cons,List.not_mem_nil,or_false]at hc
   rcases hc with rfl|rfl
   ·exact Heap.lt_size ge
   ·exact Heap.lt_size e1
  rw[ay (Nat.ne_of_lt hlt)]
  exact(hf c hc).1
 done:=by
  intro X hP hw hK hc i pins s σ H E I hf st hg
  subst hP hw hK
  obtain⟨⟨old,ge⟩,g1⟩:=st
  obtain⟨xs,EX,hl⟩:=hg
  obtain⟨ia,ra,pa,za⟩:=I.tuple EX
  have la:=ra.length
  have ei:i=ia.toArray.size:=by simp;omega
  subst ei
  refine wpAny_pyNext_enum_endD (Et.vg (P:=X.prog) (w:=X.w) (A:=X.A.in1) (I.ok.hd hc) it a hai ia.toArray) ge ⟨g1,(show s.heap.IsTuple a ia.toArray from pa)⟩ fun g kk=>⟨rfl,I.Dn (t':=s.toks) (fun c o hc q=>?_) hf⟩
  simp only[List.mem_cons,List.not_mem_nil,or_false,not_or]at hc
  exact kk c o hc.2 q
 self:=fun _ _ _ _ _ st h=>by
  obtain⟨⟨old,ge⟩,_⟩:=st
  exact wpAny_pyIter_enum ge h
section
variable {X:Cx}
def pD:fE X (compareOp .IsNot) (fun x y H Q=>x = .bl true/\y = .bl true/\Q (.bl false) H):=by
 intro pins s σ H x y v u Q I rx ry h
 obtain⟨rfl,rfl,q⟩:=h
 cases (show v=Value.bool true from rx)
 cases (show u=Value.bool true from ry)
 exact wpAny_isNot_self rfl ⟨.bl false,H,I,rfl,q⟩
end
def qY(w:World)(x:Str):PyData.keyHash w.params x=hashStr w x:=rfl
noncomputable abbrev zE(w:World)(x:Str×Int×Tok×Tok):DictEntry:=⟨PyData.keyHash w.params x.1,.str x.1 x.2.2.1,.int x.2.1 x.2.2.2⟩
def wH(P:Program)(w:World)(xs:List (Str×Int×Tok×Tok))(ep:Nat)(nd:(xs.map (·.1)).Nodup) :
  ∃vs,KV (xs.map fun x=>((Sum.inr x.1:bb),V.int x.2.1)) vs/\Obj.IsDictOf (aP P w) { cls:=.type "dict",data:=.dict (xs.map (zE w)).toArray ep } vs:=by
 refine⟨xs.map fun x=>((Sum.inr x.1:bb),Value.int x.2.1 x.2.2.2),?_,(xs.map (zE w)).toArray,ep,⟨rfl,rfl,rfl⟩,rfl,?_,?_,?_⟩
 ·induction xs with
  |nil=>exact .nil
  |cons x xs ih=>exact .cons ⟨rfl,_,rfl⟩ (ih (by simpa using(List.nodup_cons.mp (by simpa using nd)).2))
 ·intro e he
  have he':e∈xs.map (zE w):=by simpa using he
  obtain⟨x,_,rfl⟩:=List.mem_map.mp he'
  exact⟨Sum.inr x.1,gY x.1 x.2.2.1,qY w x.1⟩
 ·have key:∀ys:List (Str×Int×Tok×Tok),Pairs (aP P w) (ys.map (zE w)) (ys.map fun x=>((Sum.inr x.1:bb),Value.int x.2.1 x.2.2.2)):=by
   intro ys
   induction ys with
   |nil=>exact .nil
   |cons y ys ih=>exact .cons (gY y.1 y.2.2.1) rfl ih
  exact key xs
 ·rw[List.map_map]
  have e:((fun x:bb×Value=>x.1) ∘ fun x:Str×Int×Tok×Tok=>((Sum.inr x.1:bb),Value.int x.2.1 x.2.2.2))=fun x=>Sum.inr x.1:=rfl
  have key:∀ys:List (Str×Int×Tok×Tok),(ys.map (·.1)).Nodup->(ys.map fun x=>(Sum.inr x.1:bb)).Nodup:=by
   intro ys
   induction ys with
   |nil=>intro _;exact List.nodup_nil
   |cons y ys ih=>
    intro h
    rw[List.map_cons,List.nodup_cons]at h ⊢
    refine⟨fun hm=>h.1 ?_,ih h.2⟩
    obtain⟨z,hz,e⟩:=List.mem_map.mp hm
    have e':z.1=y.1:=Sum.inr.inj e
    exact List.mem_map.mpr ⟨z,hz,e'⟩
  exact key xs nd
end L2
namespace Wd
open PySem L2 PyProof.Rows
noncomputable def abc:Str:="abcdefghijklmnopqrstuvwxyz"
noncomputable def B9:List Str:=["jars","deed","rest","pay","put","then","either","take","often","use"]
def wI:∀i,i < 26->abc.cps.toList[i]?=some (97+i):=by decide +kernel
def i6:abc.length<=sizeLine/\abc.cps.toList.length=26:=by decide +kernel
def qZ:∀i,i < 26->Builtin.Str.occurrences abc (k5 (97+i)) 0 abc.length 1=[i]:=by decide +kernel
theorem om{α:Type} [BEq α] [LawfulBEq α]:∀{xs ys:List α},xs.Nodup->(∀x∈xs,x∈ys)->xs.length<=ys.length
 |[],ys,_,_=>Nat.zero_le _
 |x::xs,ys,nd,h=>by
  have hx:=h x (List.mem_cons_self ..)
  have q:=om (xs:=xs) (ys:=ys.erase x) (List.nodup_cons.mp nd).2 fun y hy=>by
   have ne:y≠x:=fun e=>(List.nodup_cons.mp nd).1 (e▸hy)
   exact(List.mem_erase_of_ne ne).mpr (h y (List.mem_cons_of_mem _ hy))
  rw[List.length_erase_of_mem hx]at q
  have:=List.length_pos_of_mem hx
  rw[List.length_cons]
  omega
noncomputable def cand(r:List Nat)(i:Nat):Str:=⟨((97+i % 26)::r).toArray⟩
def q8{r:List Nat}{i j:Nat}(h:cand r i=cand r j):i % 26=j % 26:=by
 have e:(((97+i % 26)::r).toArray).toList=(((97+j % 26)::r).toArray).toList:=congrArg (fun z:Str=>z.cps.toList) h
 simp only[List.cons.injEq]at e
 omega
def mY(r:List Nat)(c:Nat):((List.range 26).map fun i=>cand r (c+i)).Nodup:=by
 refine List.pairwise_map.mpr (List.Pairwise.imp_of_mem (R:=(·≠·)) ?_ List.nodup_range)
 intro a b ha hb ne e
 have h1:=List.mem_range.mp ha
 have h2:=List.mem_range.mp hb
 have h3:=q8 e
 omega
def pE(r:List Nat)(c:Nat)(bad:Vs)(h:bad.length < 26):∃j,j < 26/\cand r (c+j) ∉ bad:=by
 refine Classical.byContradiction fun no=>?_
 have q:=om (mY r c) (ys:=bad) fun x hx=>by
  obtain⟨j,hj,rfl⟩:=List.mem_map.mp hx
  exact Classical.byContradiction fun z=>no ⟨j,List.mem_range.mp hj,z⟩
 rw[List.length_map,List.length_range]at q
 omega
structure IsW (z:Str):Prop where
 ne:z.cps.toList≠[]
 le:z.cps.toList.length<=6
 sm:∀c∈z.cps.toList,97<=c/\c<=122
theorem IsW.cand{z:Str}(h:IsW z):∃i r,z=Wd.cand r i/\i < 26/\r.length<=5/\∀c∈r,97<=c/\c<=122:=by
 obtain⟨⟨⟨l⟩⟩,ne,le,sm⟩:∃z',_/\_/\_:=⟨z,h.ne,h.le,h.sm⟩
 obtain⟨⟨l⟩⟩:=z
 cases l with
 |nil=>exact absurd rfl h.ne
 |cons c r=>
  have q:=h.sm c (List.mem_cons_self ..)
  refine⟨c - 97,r,?_,by omega,by have:=h.le;simp at this;omega,fun d hd=>h.sm d (List.mem_cons_of_mem _ hd)⟩
  unfold Wd.cand
  rw[show 97+(c - 97) % 26=c by omega]
def q9{r:List Nat}(h:r.length<=5)(hs:∀c∈r,97<=c/\c<=122)(i:Nat):IsW (cand r i):=by
 refine⟨by simp[cand],by simp[cand];omega,fun c hc=>?_⟩
 have hc':c∈(97+i % 26)::r:=hc
 rcases List.mem_cons.mp hc' with e|e
 ·omega
 ·exact hs c e
def IsW.len{z:Str}(h:IsW z):z.length<=6:=by have q:=h.le;rw[Array.length_toList]at q;exact q
def IsW.line{z:Str}(h:IsW z):z.length<=sizeLine:=Nat.le_trans h.len (by decide)
def kz(r:List Nat)(i:Nat):Ck (cand r i).cps.toList 0=some (97+i % 26):=b_ (j:=0) rfl
def fq(r:List Nat)(i:Nat):Txt.slice (cand r i) (some 1) none=⟨r.toArray⟩:=by
 have e:Txt.slice (cand r i) (some 1) none=StrLaws.sliceText (cand r i) (some 1) none:=rfl
 rw[e,StrLaws.sliceText_from ⟨by decide,by simp[cand];omega⟩]
 simp[cand]
def kA(r:List Nat)(i:Nat):(k5 (97+(i+1) % 26):Str)++(⟨r.toArray⟩:Str)=cand r (i+1):=by
 refine Str.ext' ?_
 show #[97+(i+1) % 26]++r.toArray=_
 simp[cand]
def k7(i:Nat):Ck abc.cps.toList ((i % 26:Nat):Int)=some (97+i % 26):=b_ (wI _ (Nat.mod_lt _ (by decide)))
def jt(cs:List Nat):Txt.join "" (cs.map k5)=⟨cs.toArray⟩:=by
 have q:=join_nil_signs ⟨cs.toArray⟩
 have e:Txt.join "" (cs.map k5)=Str.join ⟨#[]⟩ (cs.map k5):=StrLaws.glued_eq_join _ _
 rw[e]
 exact q
def tZ(cs:List Nat):((cs.map k5).map (·.length)).sum=cs.length:=by
 induction cs with
 |nil=>rfl
 |cons c r ih=>rw[List.map_cons,List.map_cons,List.sum_cons,ih,List.length_cons];show 1+r.length=_;omega
def t4{cs:List Nat}{a i:Nat}(h:cs.length<=5)(hs:∀c∈cs,97<=c/\c<=122)(ha:a<=cs.length)(hi:i < 26) :
  IsW (Txt.slice ⟨cs.toArray⟩ none (some (a:Int))++(k5 (97+i):Str)++Txt.slice ⟨cs.toArray⟩ (some (a:Int)) none)/\(Txt.slice ⟨cs.toArray⟩ none (some (a:Int))).length<=5/\(Txt.slice ⟨cs.toArray⟩ (some (a:Int)) none).length<=5:=by
 have e1:Txt.slice ⟨cs.toArray⟩ none (some (a:Int))=⟨(cs.take a).toArray⟩:=by
  have e:Txt.slice ⟨cs.toArray⟩ none (some (a:Int))=StrLaws.sliceText ⟨cs.toArray⟩ none (some (a:Int)):=rfl
  rw[e,StrLaws.sliceText_to ⟨by omega,by simp;omega⟩]
  simp
 have e2:Txt.slice ⟨cs.toArray⟩ (some (a:Int)) none=⟨(cs.drop a).toArray⟩:=by
  have e:Txt.slice ⟨cs.toArray⟩ (some (a:Int)) none=StrLaws.sliceText ⟨cs.toArray⟩ (some (a:Int)) none:=rfl
  rw[e,StrLaws.sliceText_from ⟨by omega,by simp;omega⟩]
  refine Str.ext' ?_
  show((cs.drop (a:Int).toNat).take ((cs.length:Int) - a).toNat).toArray=(cs.drop a).toArray
  rw[Int.toNat_natCast,List.take_of_length_le (by rw[List.length_drop];omega)]
 rw[e1,e2]
 have e3:((⟨(cs.take a).toArray⟩:Str)++(k5 (97+i):Str)++(⟨(cs.drop a).toArray⟩:Str)).cps.toList=cs.take a++[97+i]++cs.drop a:=by
  show((cs.take a).toArray++#[97+i]++(cs.drop a).toArray).toList=_
  simp
 refine⟨⟨by rw[e3];simp,by rw[e3];simp;omega,fun c hc=>?_⟩,?_,?_⟩
 ·rw[e3]at hc
  rcases List.mem_append.mp hc with hc|hc
  ·rcases List.mem_append.mp hc with hc|hc
   ·exact hs c (List.mem_of_mem_take hc)
   ·rw[List.mem_singleton.mp hc];omega
  ·exact hs c (List.mem_of_mem_drop hc)
 ·show(cs.take a).toArray.size<=5
  rw[List.size_toArray,List.length_take];omega
 ·show(cs.drop a).toArray.size<=5
  rw[List.size_toArray,List.length_drop];omega
end Wd
namespace M3
noncomputable def k8(t b:Int):Int:=(if b < 0 then -t else t) / (Int.gcd t b:Int)
noncomputable def lW(t b:Int):Int:=(if b < 0 then -b else b) / (Int.gcd t b:Int)
def gi{t b:Int}(h:b≠0):0 < Int.gcd t b:=Nat.gcd_pos_of_pos_right _ (by omega)
def wJ{t b:Int}(h:b≠0):(Int.gcd t b:Int)<=b.natAbs:=by
 have q:Nat.gcd t.natAbs b.natAbs<=b.natAbs:=Nat.gcd_le_right _ (by omega)
 have e:Int.gcd t b=Nat.gcd t.natAbs b.natAbs:=rfl
 omega
def q_(t b:Int):Int.gcd (-t) (-b)=Int.gcd t b:=by rw[Int.gcd_neg,Int.neg_gcd]
def parts(t b:Int):∃x y:Int,t=(Int.gcd t b:Int) * x/\b=(Int.gcd t b:Int) * y:=by
 obtain⟨x,hx⟩:=Int.gcd_dvd_left t b
 obtain⟨y,hy⟩:=Int.gcd_dvd_right t b
 exact⟨x,y,hx,hy⟩
def wK{t b x y g:Int}(hg:g=(Int.gcd t b:Int))(h:b≠0)(ht:t=g * x)(hb:b=g * y):k8 t b=(if y < 0 then -x else x)/\lW t b=(if y < 0 then -y else y):=by
 have gp:0 < g:=by rw[hg];exact Int.natCast_pos.mpr (gi h)
 have hy:b < 0↔y < 0:=by
  rw[hb]
  constructor
  ·intro q
   by_cases z:y < 0
   ·exact z
   ·have:=Int.mul_nonneg (Int.le_of_lt gp) (Int.not_lt.mp z)
    omega
  ·intro q
   exact Int.mul_neg_of_pos_of_neg gp q
 unfold k8 lW
 rw[<-hg]
 by_cases z:y < 0
 ·rw[if_pos (hy.mpr z),if_pos (hy.mpr z),if_pos z,if_pos z]
  constructor
  ·rw[ht,<-Int.mul_neg,Int.mul_ediv_cancel_left _ (by omega)]
  ·rw[hb,<-Int.mul_neg,Int.mul_ediv_cancel_left _ (by omega)]
 ·rw[if_neg (fun q=>z (hy.mp q)),if_neg (fun q=>z (hy.mp q)),if_neg z,if_neg z]
  constructor
  ·rw[ht,Int.mul_ediv_cancel_left _ (by omega)]
  ·rw[hb,Int.mul_ediv_cancel_left _ (by omega)]
def t5{t b x y:Int}(h:b≠0)(ht:t=(Int.gcd t b:Int) * x)(hb:b=(Int.gcd t b:Int) * y):Int.gcd x y=1:=by
 have gp:=gi (t:=t) h
 have q:Int.gcd ((Int.gcd t b:Int) * x) ((Int.gcd t b:Int) * y)=(Int.gcd t b:Int).natAbs * Int.gcd x y:=Int.gcd_mul_left _ _ _
 rw[<-ht,<-hb,Int.natAbs_natCast]at q
 have q2:Int.gcd t b * 1=Int.gcd t b * Int.gcd x y:=by omega
 exact(Nat.eq_of_mul_eq_mul_left gp q2).symm
structure AF (a b:Int):Prop where
 pos:0 < b
 one:Int.gcd a b=1
def on{t b:Int}(h:b≠0):AF (k8 t b) (lW t b):=by
 obtain⟨x,y,ht,hb⟩:=parts t b
 have c:=t5 h ht hb
 obtain⟨e1,e2⟩:=wK rfl h ht hb
 have y0:y≠0:=fun z=>h (by rw[hb,z,Int.mul_zero])
 rw[e1,e2]
 by_cases z:y < 0
 ·rw[if_pos z,if_pos z]
  exact⟨by omega,by rw[q_];exact c⟩
 ·rw[if_neg z,if_neg z]
  exact⟨by omega,c⟩
def re{t b:Int}(h:b≠0):t.fdiv (if b < 0 then -(Int.gcd t b:Int) else (Int.gcd t b:Int))=k8 t b/\b.fdiv (if b < 0 then -(Int.gcd t b:Int) else (Int.gcd t b:Int))=lW t b:=by
 have gp:(0:Int) < (Int.gcd t b:Int):=Int.natCast_pos.mpr (gi h)
 have d1:=Int.gcd_dvd_left t b
 have d2:=Int.gcd_dvd_right t b
 unfold k8 lW
 by_cases z:b < 0
 ·rw[if_pos z,if_pos z,if_pos z,Int.fdiv_neg (by omega),if_pos d1,Int.fdiv_neg (by omega),if_pos d2,Int.fdiv_eq_ediv_of_dvd d1,Int.fdiv_eq_ediv_of_dvd d2,Int.neg_ediv_of_dvd d1,Int.neg_ediv_of_dvd d2]
  exact⟨rfl,rfl⟩
 ·rw[if_neg z,if_neg z,if_neg z,Int.fdiv_eq_ediv_of_dvd d1,Int.fdiv_eq_ediv_of_dvd d2]
  exact⟨rfl,rfl⟩
def rf(x y:Int):Int.gcd y (x.fmod y)=Int.gcd x y:=by
 have q:=Int.mul_fdiv_add_fmod x y
 have e:Int.gcd y (x.fmod y+x.fdiv y * y)=Int.gcd y (x.fmod y):=Int.gcd_add_mul_right_right _ _ _
 rw[<-e,Int.mul_comm (x.fdiv y) y,Int.add_comm,q,Int.gcd_comm]
def rg{t b T B:Int}(h:b≠0)(h1:-T<=t)(h2:t<=T)(h3:-B<=b)(h4:b<=B)(hT:0<=T)(hB:0<=B):-T<=k8 t b/\k8 t b<=T/\0 < lW t b/\lW t b<=B:=by
 have gp:(0:Int) < (Int.gcd t b:Int):=Int.natCast_pos.mpr (gi h)
 have L:=(on (t:=t) h).pos
 have key:∀z M:Int,0<=M->-M<=z->z<=M->-M<=z / (Int.gcd t b:Int)/\z / (Int.gcd t b:Int)<=M:=fun z M hM z1 z2=>by
  generalize (Int.gcd t b:Int)=g at gp
  have m2:M * 1<=M * g:=Int.mul_le_mul_of_nonneg_left (by omega) hM
  have m3:-M * g = -(M * g):=Int.neg_mul M g
  exact⟨Int.le_ediv_of_mul_le gp (by omega),Int.ediv_le_of_le_mul gp (by omega)⟩
 have k1:=key (if b < 0 then -t else t) T hT (by split<;>omega) (by split<;>omega)
 have k2:=key (if b < 0 then -b else b) B hB (by split<;>omega) (by split<;>omega)
 exact⟨k1.1,k1.2,L,k2.2⟩
end M3
namespace Xc
open PySem PySem.W PySem.Calls PyProof.Rows Builtin Builtin.ObjectAttr
section
variable {prog:Program} {w:World} {A:Around} {K:Frag} {C f:Addr} {R:Result->Shared->Prop} {h:Heap} {g:Array GenState} {d:Drawn} {t:Nat} {os:OsState}
end
structure Ag (h:Heap) (e:Addr) (oe:Obj) (vs:Vw):Prop where
 at_:h.get? e=some oe
 dat:oe.data = .fields vs
 tb:vs[1]?=some .none\/∃T oT ts,vs[1]?=some (.ref T)/\T≠e/\h.get? T=some oT/\oT.data = .fields ts/\ts[3]?=some .none
section
variable {M:Model} {A:Around} {E:Vq} {s:Shared}
end
section
variable {M:Model} {A:Around} {E:Vq} {env:Env} {K:Frag} {C:Addr}
end
section
variable {prog:Program} {w:World} {A:Around} {E:Vq} {s:Shared} {K:Frag} {x C:Addr} {ox:Obj} {od:Option Obj} {name:Str} {expr:Bool} {Q:Vq}
end
section
variable {prog:Program} {w:World} {A:Around} {E:Vq} {s:Shared} {K:Frag} {x C:Addr} {ox:Obj} {od:Option Obj} {name:Str} {v:Value} {R:Result->Shared->Prop}
end
end Xc
namespace L2
open PySem PySem.Spec PyProof.Rows Xc
def AU(X:Cx)(pins:Va)(H:Hp)(h:Heap)(a C dx:Addr):Prop:=
 ∃oe vs,Ag h a oe vs/\oe.cls = .ref C/\oe.dict=some dx/\dI X pins H a/\∀T,vs[1]?=some (.ref T)->dI X pins H T
section
variable {X:Cx} {pins:Va} {σ:St} {H H':Hp} {s s':Shared} {a C dx:Addr}
end
section
variable {X:Cx} {k:Nat} {f C:Addr} {fd:FuncData} {ps:Vs} {sp:Sp} {x m:Str} {p pos apos:Pos} {e o:Expr} {es:List Expr} {ta:TE} {t:TA}
end
def XD(dx:Addr)(fs:List (Str×V))(h:Heap):Prop:=∃mA,h.Ns1 dx mA/\(∀f,RelO (fs.lookup f) (mA f))/\PySem.Within mA (fs.map (·.1))
section
variable {X:Cx} {pins:Va} {σ:St} {H:Hp} {s:Shared}
end
section
variable {X:Cx} {o value:Expr} {f:Str} {pos pos':Pos} {ta tv:TE}
end
section
variable {P:Program} {w:World} {K:Vo} {mg:Vr} {base:Heap}
end
section
variable {X:Cx} {f C:Addr} {fd:FuncData} {ps ks:Vs} {x:Str} {p cpos pos:Pos} {e:Expr} {es:List Expr} {t:TA}
end
section
variable {X:Cx} {pins Ed:Va} {σ:St} {H H':Hp} {s s':Shared} {E:Vq}
end
section
variable {X:Cx} {pins Ed:Va} {σ:St} {H:Hp} {s':Shared} {E:Vq} {a C dx Dc:Addr} {i:Nat} {n x:Str} {np hpos:Pos} {b₀:Stmt} {suite:List Stmt} {th:Addr->TS} {D:mM}
end
end L2
namespace L3
open PySem L2
inductive PV where
 |non|bl (b:Bool)|int (i:Int)|str (x:Str)|tup (xs:List PV)|cl (xs:List PV)|ref (a:Addr)|ty (n:String)|exc (c:Str) (ks:Vs) (ps:List PV)|cls (c:Str)
def FL(K:Vo)(H:Hp)(a:Addr)(xs:List V):Prop:=
 (∃o,H a=some (.frz o (.lst xs))) \/
  ∃(o:Obj) (its:Vw) (n:Nat),K.lookup a=some o/\o.cls = .type "list"/\o.dict=none/\o.data = .seq its n/\its.size<=sizeLine/\Vals xs its.toList
def FL.sq{K:Vo}{H:Hp}{a:Addr}{xs:List V}(h:FL K H a xs):SqL K H a xs:=h.elim (fun z=>.inl (.inr z)) .inr
def Go(H:Hp)(a C:Addr)(ks:Vs)(vs:List V):Prop:=
 ∃oe dx od,H a=some (.frz oe (.ext fun _=>True))/\oe.cls = .ref C/\oe.dict=some dx/\(∀c,oe.data ≠ .cls c)/\H dx=some (.frz od (.ext (XD dx (ks.zip vs))))
def t6(K:Vo)(c:Str)(C:Addr):Prop:=PySem.W.nsIn K mainGlobals c=some (some (.ref C))
mutual
inductive Rep (K:Vo) (H:Hp):V->PV->Prop
 |non:Rep K H .non .non
 |bl (b:Bool):Rep K H (.bl b) (.bl b)
 |int (i:Int):Rep K H (.int i) (.int i)
 |str (x:Str):Rep K H (.str x) (.str x)
 |ty (n:String):Rep K H (.ty n) (.ty n)
 |ref (a:Addr):Rep K H (.ref a) (.ref a)
 |tup {a:Addr} {vs:List V} {ps:List PV}:Cj K H a vs->Reps K H vs ps->Rep K H (.ref a) (.tup ps)
 |cl {a:Addr} {vs:List V} {ps:List PV}:FL K H a vs->Reps K H vs ps->Rep K H (.ref a) (.cl ps)
 |exc {a C:Addr} {c:Str} {ks:Vs} {vs:List V} {ps:List PV}:t6 K c C->Go H a C ks vs->Reps K H vs ps->Rep K H (.ref a) (.exc c ks ps)
 |cls {C:Addr} {c:Str}:t6 K c C->Rep K H (.ref C) (.cls c)
inductive Reps (K:Vo) (H:Hp):List V->List PV->Prop
 |nil:Reps K H [] []
 |cons {v:V} {p:PV} {vs:List V} {ps:List PV}:Rep K H v p->Reps K H vs ps->Reps K H (v::vs) (p::ps)
end
structure Grow (K:Vo) (H H':Hp):Prop where
 t:∀a vs,Cj K H a vs->Cj K H' a vs
 c:∀a vs,FL K H a vs->FL K H' a vs
 x:∀a o u,H a=some (.frz o u)->H' a=some (.frz o u)
def Grow.refl{K:Vo}{H:Hp}:Grow K H H:=⟨fun _ _ h=>h,fun _ _ h=>h,fun _ _ _ h=>h⟩
def Grow.trans{K:Vo}{H H1 H2:Hp}(a:Grow K H H1)(b:Grow K H1 H2):Grow K H H2:=⟨fun x vs h=>b.t x vs (a.t x vs h),fun x vs h=>b.c x vs (a.c x vs h),fun x o u h=>b.x x o u (a.x x o u h)⟩
def Go.mono{K:Vo}{H H':Hp}(g:Grow K H H'){a C:Addr}{ks:Vs}{vs:List V}(h:Go H a C ks vs):Go H' a C ks vs:=let ⟨oe,dx,od,h1,h2,h3,h4,h5⟩:=h;⟨oe,dx,od,g.x _ _ _ h1,h2,h3,h4,g.x _ _ _ h5⟩
def Grow.of{K:Vo}{H H':Hp}(h:∀a xs,H a=some (.tup xs)->H' a=some (.tup xs))(h2:∀a o u,H a=some (.frz o u)->H' a=some (.frz o u)):Grow K H H':=by
 refine⟨fun a vs q=>?_,fun a vs q=>?_,h2⟩
 ·rcases q with(q|⟨o,q⟩)|q
  ·exact .inl (.inl (h a vs q))
  ·exact .inl (.inr ⟨o,h2 a o _ q⟩)
  ·exact .inr q
 ·rcases q with⟨o,q⟩|q
  ·exact .inl ⟨o,h2 a o _ q⟩
  ·exact .inr q
def Grow.same{K:Vo}{H H':Hp}(h:∀c o,H c=some o->H' c=some o):Grow K H H':=.of (fun a _ q=>h a _ q) (fun a _ _ q=>h a _ q)
def Grow.new{K:Vo}{H:Hp}{p:Addr}{o:HO}(h:H p=none):Grow K H (upd H p o):=.same fun c u q=>by rw[ay (aQ q h)];exact q
noncomputable def Mu:HO->Prop
 | .tup _=>False
 | .frz _ _=>False
 |_=>True
def Grow.mut{K:Vo}{H:Hp}{p:Addr}{o u:HO}(h:H p=some u)(m:Mu u):Grow K H (upd H p o):=
 .of (fun a xs q=>by rw[ay (fun e=>by subst e;rw[h]at q;cases q;exact m)];exact q) (fun a _ _ q=>by rw[ay (fun e=>by subst e;rw[h]at q;cases q;exact m)];exact q)
mutual
theorem Rep.mono{K:Vo}{H H':Hp}(g:Grow K H H'):∀{v:V} {p:PV},Rep K H v p->Rep K H' v p
 |_,_,.non=>.non
 |_,_,.bl b=>.bl b
 |_,_,.int i=>.int i
 |_,_,.str x=>.str x
 |_,_,.ty n=>.ty n
 |_,_,.ref a=>.ref a
 |_,_,.tup h r=>.tup (g.t _ _ h) (Reps.mono g r)
 |_,_,.cl h r=>.cl (g.c _ _ h) (Reps.mono g r)
 |_,_,.exc n h r=>.exc n (h.mono g) (Reps.mono g r)
 |_,_,.cls n=>.cls n
theorem Reps.mono{K:Vo}{H H':Hp}(g:Grow K H H'):∀{vs:List V} {ps:List PV},Reps K H vs ps->Reps K H' vs ps
 |_,_,.nil=>.nil
 |_,_,.cons a r=>.cons (Rep.mono g a) (Reps.mono g r)
end
theorem Reps.length{K:Vo}{H:Hp}:∀{vs:List V} {ps:List PV},Reps K H vs ps->vs.length=ps.length
 |_,_,.nil=>rfl
 |_,_,.cons _ r=>by rw[List.length_cons,List.length_cons,Reps.length r]
theorem Reps.append{K:Vo}{H:Hp}:∀{vs us:List V} {ps qs:List PV},Reps K H vs ps->Reps K H us qs->Reps K H (vs++us) (ps++qs)
 |_,_,_,_,.nil,s=>s
 |_,_,_,_,.cons a r,s=>.cons a (Reps.append r s)
theorem Reps.get{K:Vo}{H:Hp}:∀{vs:List V} {ps:List PV} {i:Nat} {p:PV},Reps K H vs ps->ps[i]?=some p->∃v,vs[i]?=some v/\Rep K H v p
 |_,_,_,_,.nil,e=>by simp at e
 |_,_,0,_,.cons a r,e=>by simp at e;subst e;exact⟨_,rfl,a⟩
 |_,_,i+1,p,.cons a r,e=>by
  obtain⟨v,h1,h2⟩:=Reps.get (i:=i) (p:=p) r (by simpa using e)
  exact⟨v,by simpa using h1,h2⟩
theorem Reps.take{K:Vo}{H:Hp}:∀{vs:List V} {ps:List PV} (n:Nat),Reps K H vs ps->Reps K H (vs.take n) (ps.take n)
 |_,_,0,_=>.nil
 |_,_,_+1,.nil=>.nil
 |_,_,n+1,.cons a r=>.cons a (Reps.take n r)
theorem Reps.drop{K:Vo}{H:Hp}:∀{vs:List V} {ps:List PV} (n:Nat),Reps K H vs ps->Reps K H (vs.drop n) (ps.drop n)
 |_,_,0,r=>r
 |_,_,_+1,.nil=>.nil
 |_,_,n+1,.cons _ r=>Reps.drop n r
theorem Reps.set{K:Vo}{H:Hp}{v:V}{p:PV}(q:Rep K H v p):∀{vs:List V} {ps:List PV} (n:Nat),Reps K H vs ps->Reps K H (vs.set n v) (ps.set n p)
 |_,_,_,.nil=>.nil
 |_,_,0,.cons _ r=>.cons q r
 |_,_,n+1,.cons a r=>.cons a (Reps.set q n r)
theorem Reps.eraseIdx{K:Vo}{H:Hp}:∀{vs:List V} {ps:List PV} (n:Nat),Reps K H vs ps->Reps K H (vs.eraseIdx n) (ps.eraseIdx n)
 |_,_,_,.nil=>.nil
 |_,_,0,.cons _ r=>r
 |_,_,n+1,.cons a r=>.cons a (Reps.eraseIdx n r)
theorem Reps.reverse{K:Vo}{H:Hp}:∀{vs:List V} {ps:List PV},Reps K H vs ps->Reps K H vs.reverse ps.reverse
 |_,_,.nil=>.nil
 |_,_,.cons a r=>by rw[List.reverse_cons,List.reverse_cons];exact(Reps.reverse r).append (.cons a .nil)
theorem Reps.dropLast{K:Vo}{H:Hp}{vs:List V}{ps:List PV}(r:Reps K H vs ps):Reps K H vs.dropLast ps.dropLast:=by
 rw[List.dropLast_eq_take,List.dropLast_eq_take,r.length]
 exact r.take _
inductive SO where
 |lst (xs:List PV)
 |dct (kvs:List (bb×PV))
 |ins (c:Str) (fs:List (Str×PV))
abbrev av:=Addr->Option SO
noncomputable def Bc(S:av)(a:Addr)(o:SO):av:=fun b=>if b=a then some o else S b
def aa{S:av}{a:Addr}{o:SO}:Bc S a o a=some o:=by unfold Bc;rw[if_pos rfl]
def aj{S:av}{a b:Addr}{o:SO}(h:b≠a):Bc S a o b=S b:=by unfold Bc;rw[if_neg h]
inductive Bt (K:Vo) (H:Hp) {κ:Type}:List (κ×V)->List (κ×PV)->Prop
 |nil:Bt K H [] []
 |cons {k:κ} {v:V} {p:PV} {vs:List (κ×V)} {ps:List (κ×PV)}:Rep K H v p->Bt K H vs ps->Bt K H ((k,v)::vs) ((k,p)::ps)
theorem Bt.mono{K:Vo}{H H':Hp}(g:Grow K H H'){κ:Type}:∀{vs:List (κ×V)} {ps:List (κ×PV)},Bt K H vs ps->Bt K H' vs ps
 |_,_,.nil=>.nil
 |_,_,.cons a r=>.cons (a.mono g) (Bt.mono g r)
theorem Bt.length{K:Vo}{H:Hp}{κ:Type}:∀{vs:List (κ×V)} {ps:List (κ×PV)},Bt K H vs ps->vs.length=ps.length
 |_,_,.nil=>rfl
 |_,_,.cons _ r=>by rw[List.length_cons,List.length_cons,Bt.length r]
noncomputable def DP(K:Vo)(H:Hp)(a:Addr):SO->Prop
 | .lst xs=>∃vs,H a=some (.lst vs)/\Reps K H vs xs
 | .dct kvs=>∃kv,H a=some (.dK kv)/\Bt K H kv kvs
 | .ins c fs=>∃C dx f',t6 K c C/\H a=some (.ins C dx f')/\Bt K H f' fs
theorem DP.stay{K:Vo}{H H':Hp}(g:Grow K H H'){a:Addr}(e:H' a=H a):∀{o:SO},DP K H a o->DP K H' a o
 | .lst _,⟨vs,h,r⟩=>⟨vs,e.trans h,r.mono g⟩
 | .dct _,⟨vs,h,r⟩=>⟨vs,e.trans h,r.mono g⟩
 | .ins _ _,⟨C,dx,vs,n,h,r⟩=>⟨C,dx,vs,n,e.trans h,r.mono g⟩
theorem DP.some{K:Vo}{H:Hp}{a:Addr}:∀{o:SO},DP K H a o->∃u,H a=Option.some u/\Mu u
 | .lst _,⟨_,h,_⟩=>⟨_,h,trivial⟩
 | .dct _,⟨_,h,_⟩=>⟨_,h,trivial⟩
 | .ins _ _,⟨_,_,_,_,h,_⟩=>⟨_,h,trivial⟩
def Bl(K:Vo)(H:Hp)(S:av):Prop:=∀a o,S a=some o->DP K H a o
def Bl.free{K:Vo}{H:Hp}{S:av}(r:Bl K H S){p:Addr}(h:H p=none):S p=none:=by
 cases e:S p with
 |none=>rfl
 |some o=>
  obtain⟨u,q,_⟩:=(r p o e).some
  rw[h]at q;cases q
def Bl.grow{K:Vo}{H H':Hp}{S:av}(r:Bl K H S)(h:∀c o,H c=some o->H' c=some o):Bl K H' S:=fun a o e=>by
 obtain⟨u,q,_⟩:=(r a o e).some
 exact(r a o e).stay (.same h) ((h a u q).trans q.symm)
def Bl.other{K:Vo}{H:Hp}{S:av}(r:Bl K H S){p:Addr}{o:HO}(h:H p=none):Bl K (upd H p o) S:=r.grow fun c u q=>by rw[ay (aQ q h)];exact q
theorem Bl.new{K:Vo}{H:Hp}{S:av}(r:Bl K H S){p:Addr}{u:HO}{o:SO}(h:H p=none)(q:DP K (upd H p u) p o):Bl K (upd H p u) (Bc S p o):=fun a x e=>by
 by_cases z:a=p
 ·subst z;rw[aa]at e;cases e;exact q
 ·rw[aj z]at e;exact(r a x e).stay (.new h) (ay z)
def Bl.put{K:Vo}{H:Hp}{S:av}(r:Bl K H S){p:Addr}{u0 u:HO}{o:SO}(h:H p=some u0)(m:Mu u0)(q:DP K (upd H p u) p o):Bl K (upd H p u) (Bc S p o):=fun a x e=>by
 by_cases z:a=p
 ·subst z;rw[aa]at e;cases e;exact q
 ·rw[aj z]at e;exact(r a x e).stay (.mut h m) (ay z)
abbrev b3:=List (Option PV)
noncomputable def lk:b3->Nat->Option PV
 |[],_=>none
 |x::_,0=>x
 |_::r,i+1=>lk r i
def rh{σ:b3}{i:Nat}{p:PV}(h:lk σ i=some p):σ[i]?=some (some p):=by
 induction σ generalizing i with
 |nil=>cases h
 |cons x r ih=>
  cases i with
  |zero=>exact congrArg some h
  |succ i=>exact ih h
structure Bm (K:Vo) (H:Hp) (σ:St) (σ3:b3):Prop where
 len:σ.length=σ3.length
 at':∀(i:Nat) (p:PV),σ3[i]?=some (some p)->∃v,σ[i]?=some (some v)/\Rep K H v p
theorem Bm.mono{K:Vo}{H H':Hp}{σ:St}{σ3:b3}(r:Bm K H σ σ3)(g:Grow K H H'):Bm K H' σ σ3:=⟨r.len,fun i p e=>let ⟨v,h,q⟩:=r.at' i p e;⟨v,h,q.mono g⟩⟩
theorem Bm.set{K:Vo}{H:Hp}{σ:St}{σ3:b3}(r:Bm K H σ σ3){v:V}{p:PV}(q:Rep K H v p)(i:Nat):Bm K H (σ.set i (some v)) (σ3.set i (some p)):=by
 refine⟨by rw[List.length_set,List.length_set,r.len],fun j x e=>?_⟩
 rw[List.getElem?_set]at e ⊢
 split at e
 ·rename_i hij
  rw[if_pos hij]
  subst hij
  split at e
  ·rename_i hl
   cases e
   rw[if_pos (by rw[r.len];exact hl)]
   exact⟨v,rfl,q⟩
  ·cases e
 ·rename_i hij
  rw[if_neg hij]
  exact r.at' j x e
abbrev ce:=PV->av->Prop
abbrev cW:=PV->b3->av->Prop
abbrev aN:=b3->av->ce->cW->Prop
abbrev gW:=b3->av->(Bool->av->Prop)->cW->Prop
abbrev AV:=b3->av->(List PV->av->Prop)->cW->Prop
structure ju where
 nx:b3->av->Prop
 rt:ce
 ex:cW
 bk:b3->av->Prop:=fun _ _=>False
 ct:b3->av->Prop:=fun _ _=>False
abbrev bG:=ju->b3->av->Prop
def Es(X:Cx)(H:Hp)(E:cW):Prop:=∀(c:Str) (ks:Vs) (ps:List PV) (σ3:b3) (S':av) (H':Hp) (pins:Va) (σ:St) (s':Shared) (a C dx:Addr) (od:Obj) (vs:List V),E (.exc c ks ps) σ3 S'->t6 X.K c C->vs.length=ks.length->
 H' dx=some (.frz od (.ext (XD dx (ks.zip vs))))->Reps X.K H' vs ps->Bl X.K H' S'->Bm X.K H' σ σ3->Grow X.K H H'->Inv X pins σ H' s'->AU X pins H' s'.heap a C dx->X.xe (.ref a) s'
def Es.mono{X:Cx}{H H':Hp}{E:cW}(x:Es X H E)(g:Grow X.K H H'):Es X H' E:=fun c ks ps σ3 S' H2 pins σ s' a C dx od vs h1 h2 h3 h4 h5 h6 h7 h8 h9 IL=>x c ks ps σ3 S' H2 pins σ s' a C dx od vs h1 h2 h3 h4 h5 h6 h7 (g.trans h8) h9 IL
def Eu(K:Vo)(H:Hp)(Q3:ce)(Q:VK):Prop:=∀p S' v H',Q3 p S'->Rep K H' v p->Bl K H' S'->Grow K H H'->Q v H'
def Eu.mono{K:Vo}{H H':Hp}{Q3:ce}{Q:VK}(r:Eu K H Q3 Q)(g:Grow K H H'):Eu K H' Q3 Q:=fun p S' v H2 h1 h2 h3 h4=>r p S' v H2 h1 h2 h3 (g.trans h4)
def FM(K:Vo)(H:Hp)(N3:b3->av->Prop)(N:St->Hp->Prop):Prop:=∀σ3 S' σ H',N3 σ3 S'->Bm K H' σ σ3->Bl K H' S'->Grow K H H'->N σ H'
def FM.mono{K:Vo}{H H':Hp}{Q3:b3->av->Prop}{Q:St->Hp->Prop}(r:FM K H Q3 Q)(g:Grow K H H'):FM K H' Q3 Q:=fun p S' v H2 h1 h2 h3 h4=>r p S' v H2 h1 h2 h3 (g.trans h4)
def LE(X:Cx)(t:aN):TE:=fun σ H Q=>∃σ3 S Q3 E3,Bm X.K H σ σ3/\Bl X.K H S/\t σ3 S Q3 E3/\Es X H E3/\Eu X.K H Q3 Q
def LT(X:Cx)(t:gW):TT:=fun σ H Q=>∃σ3 S Q3 E3,Bm X.K H σ σ3/\Bl X.K H S/\t σ3 S Q3 E3/\Es X H E3/\∀b S' H',Q3 b S'->Bl X.K H' S'->Grow X.K H H'->Q b H'
def LS(X:Cx)(t:bG):TS:=fun D σ H=>∃σ3 S D3,Bm X.K H σ σ3/\Bl X.K H S/\t D3 σ3 S/\Es X H D3.ex/\FM X.K H D3.nx D.nx/\Eu X.K H D3.rt D.rt/\FM X.K H D3.bk D.bk/\FM X.K H D3.ct D.ct
structure aY (X:Cx) (e:Expr) (t:aN):Prop where
 ok:PE X e (LE X t)
structure mG (X:Cx) (e:Expr) (t:gW):Prop where
 ok:PT X e (LT X t)
structure wL (X:Cx) (e:Expr) (t:gW):Prop where
 ok:PW X e (LT X t)
structure mZ (X:Cx) (st:Stmt) (t:bG):Prop where
 ok:PS X st (LS X t)
structure hG (X:Cx) (st:List Stmt) (t:bG):Prop where
 ok:DN X st (LS X t)
def aK{X:Cx}{e:Expr}{t t':TE}(h:PE X e t)(k:∀σ H Q,t' σ H Q->t σ H Q):PE X e t':=fun pins s σ H Q I q=>h pins s σ H Q I (k σ H Q q)
def k9{X:Cx}{e:Expr}{t t':TT}(h:PT X e t)(k:∀σ H Q,t' σ H Q->t σ H Q):PT X e t':=fun pins s σ H Q I q=>h pins s σ H Q I (k σ H Q q)
def rj{X:Cx}{e:Expr}{t t':TT}(h:PW X e t)(k:∀σ H Q,t' σ H Q->t σ H Q):PW X e t':=fun wh pins s σ H Q I q=>h wh pins s σ H Q I (k σ H Q q)
def cG{X:Cx}{e:Stmt}{t t':TS}(h:PS X e t)(k:∀D σ H,t' D σ H->t D σ H):PS X e t':=fun pins s σ H D I q=>h pins s σ H D I (k D σ H q)
def oo{X:Cx}{e:List Stmt}{t t':TS}(h:DN X e t)(k:∀D σ H,t' D σ H->t D σ H):DN X e t':=fun pins s σ H D I q=>h pins s σ H D I (k D σ H q)
section
variable {X:Cx} {a b c e o:Expr} {es:List Expr} {ta tb tc te:aN} {pos:Pos}
def v3(i:Nat):aN:=fun σ S Q _=>match lk σ i with|some p=>Q p S|none=>False
def ad(i:Nat){x:Str}(hN:X.N[i]?=some x:=by rfl)(hv:zy X.env.scope x:=by first|exact Or.inl rfl|exact Or.inr (Or.inl rfl)|exact Or.inr (Or.inr rfl))(hd:(x == ("__debug__":Str))=false:=by decide)
  (hcd:(x == ("__classdict__":Str))=false:=by decide):aY X (.Name x pos) (v3 i):=
 ⟨aK (vI hN hv hd hcd) fun σ H Q ⟨σ3,S,Q3,E3,rσ,rS,h,xo,k⟩=>by
  unfold v3 at h
  split at h
  ·rename_i p e
   obtain⟨v,ev,rv⟩:=rσ.at' i p (rh e)
   exact⟨v,ev,k p S v H h rv rS .refl⟩
  ·exact h.elim⟩
def c3(p:PV):aN:=fun _ S Q _=>Q p S
def ac{i:Int}{j:Nat}:aY X (.Constant (.int i) j pos) (c3 (.int i)):=⟨aK vJ fun σ H Q ⟨σ3,S,Q3,E3,rσ,rS,h,xo,k⟩=>k _ S _ H h (.int i) rS .refl⟩
def j3{i:Bool}{j:Nat}:aY X (.Constant (.bool i) j pos) (c3 (.bl i)):=⟨aK xU fun σ H Q ⟨σ3,S,Q3,E3,rσ,rS,h,xo,k⟩=>k _ S _ H h (.bl i) rS .refl⟩
def ap{i:Str}{j:Nat}:aY X (.Constant (.str i) j pos) (c3 (.str i)):=⟨aK vL fun σ H Q ⟨σ3,S,Q3,E3,rσ,rS,h,xo,k⟩=>k _ S _ H h (.str i) rS .refl⟩
def vh{j:Nat}:aY X (.Constant .none j pos) (c3 .non):=⟨aK vK fun σ H Q ⟨σ3,S,Q3,E3,rσ,rS,h,xo,k⟩=>k _ S _ H h .non rS .refl⟩
def Ah{x:Str}{n:String}(hg:Gl X x)(hm:X.mg x=none)(hv:bootBuiltins x=some (.type n))(hn:x ≠ "__name__":=by decide)(hd:(x == ("__debug__":Str))=false:=by decide):aY X (.Name x pos) (c3 (.ty n)):=
 ⟨aK (sW (v:=.ty n) hg hm hv rfl hn hd) fun σ H Q ⟨σ3,S,Q3,E3,rσ,rS,h,xo,k⟩=>k _ S _ H h (.ty n) rS .refl⟩
noncomputable def ao:List aN->AV
 |[],_,S,Q,_=>Q [] S
 |t::ts,σ,S,Q,E=>t σ S (fun x S1=>ao ts σ S1 (fun xs S2=>Q (x::xs) S2) E) E
noncomputable def zF:List TE->TA
 |[]=>yo
 |t::ts=>va t (zF ts)
structure i7 (X:Cx) (es:List Expr) (ts:List aN):Prop where
 ok:PA X es (zF (ts.map (LE X)))
def cH:i7 X [] []:=⟨wa⟩
def rm{ts:List aN}(hs:starEach (e::es) X.env=(false,eval e X.env)::starEach es X.env)(ha:aY X e te)(hr:i7 X es ts):i7 X (e::es) (te::ts):=⟨tG ha.ok hr.ok hs⟩
theorem bL:∀{ts:List aN} {σ:L2.St} {H:Hp} {Q:List V->Hp->Prop} {σ3:b3} {S:av} {Q3:List PV->av->Prop} {E3:cW},Bm X.K H σ σ3->Bl X.K H S->ao ts σ3 S Q3 E3->Es X H E3->
  (∀ps S' vs H',ps.length=ts.length->Q3 ps S'->Reps X.K H' vs ps->Bl X.K H' S'->Grow X.K H H'->Q vs H')->zF (ts.map (LE X)) σ H Q
 |[],σ,H,Q,σ3,S,Q3,E3,rσ,rS,h,xo,k=>k [] S [] H rfl h .nil rS .refl
 |t::ts,σ,H,Q,σ3,S,Q3,E3,rσ,rS,h,xo,k=>
  ⟨σ3,S,_,E3,rσ,rS,h,xo,fun p S1 v H1 h1 rv Bn g1=>bL (rσ.mono g1) Bn h1 (xo.mono g1) fun ps S2 vs H2 hl h2 G2 CU g2=>k (p::ps) S2 (v::vs) H2 (by rw[List.length_cons,List.length_cons,hl]) h2 (.cons (rv.mono g2) G2) CU (g1.trans g2)⟩
def aB(ts:List aN):aN:=fun σ S Q E=>ao ts σ S (fun xs S1=>Q (.tup xs) S1) E
def aD{ts:List aN}{x1:Nat}(h:i7 X es ts)(hn:ts.length<=1000:=by exact Nat.le_of_ble_eq_true rfl):aY X (.Tuple es x1 pos) (aB ts):=
 ⟨aK (wb h.ok) fun σ H Q ⟨σ3,S,Q3,E3,rσ,rS,hq,xo,k⟩=>bL rσ rS hq xo fun ps S' vs H' hl q rv CQ g=>
  ⟨Nat.le_of_lt (dz (by rw[rv.length,hl];exact hn)),fun p hp=>k _ S' _ _ q (.tup (Cj.of ar) (rv.mono (.new hp))) (CQ.other hp) (g.trans (.new hp))⟩⟩
def bn(ts:List aN):aN:=fun σ S Q E=>ao ts σ S (fun xs S1=>∀p,S1 p=none->Q (.ref p) (Bc S1 p (.lst xs))) E
def bm{ts:List aN}(h:i7 X es ts)(hn:ts.length<=1000:=by exact Nat.le_of_ble_eq_true rfl):aY X (.List es pos) (bn ts):=
 ⟨aK (we h.ok) fun σ H Q ⟨σ3,S,Q3,E3,rσ,rS,hq,xo,k⟩=>bL rσ rS hq xo fun ps S' vs H' hl q rv CQ g=>
  ⟨Nat.le_of_lt (dz (by rw[rv.length,hl];exact hn)),fun p hp=>k _ _ _ _ (q p (CQ.free hp)) (.ref p) (CQ.new hp ⟨vs,ar,rv.mono (.new hp)⟩) (g.trans (.new hp))⟩⟩
abbrev R3:=PV->PV->av->ce->Prop
def LR(X:Cx)(r:R3):R2:=fun x y H Q=>∃px py S Q3,Rep X.K H x px/\Rep X.K H y py/\Bl X.K H S/\r px py S Q3/\Eu X.K H Q3 Q
structure fN (X:Cx) (f:Value->Value->Sem Value) (r:R3):Prop where
 ok:fE X f (LR X r)
def ah(r:R3)(ta tb:aN):aN:=fun σ S Q E=>ta σ S (fun x S1=>tb σ S1 (fun y S2=>r x y S2 Q) E) E
def i8{r:R3}{σ:L2.St}{H:Hp}{Q:VK}:LE X (ah r ta tb) σ H Q->ye (LR X r) (LE X ta) (LE X tb) σ H Q:=fun⟨σ3,S,Q3,E3,rσ,rS,h,xo,k⟩=>
 ⟨σ3,S,_,E3,rσ,rS,h,xo,fun x S1 v H1 h1 rx Bn g1=>⟨σ3,S1,_,E3,rσ.mono g1,Bn,h1,xo.mono g1,fun y S2 u H2 h2 ry CU g2=>⟨x,y,S2,Q3,rx.mono g2,ry,CU,h2,k.mono (g1.trans g2)⟩⟩⟩
def aG{op:Operator}{r:R3}(ho:fN X (binaryOp op) r)(ha:aY X a ta)(hb:aY X b tb):aY X (.BinOp a op b pos) (ah r ta tb):=⟨aK (yf ho.ok ha.ok hb.ok) fun _ _ _=>i8⟩
def iL{op:CmpOp}{r:R3}(ho:fN X (compareOp op) r)(ha:aY X a ta)(hb:aY X b tb)(hm:behindInMarks op b=false):aY X (.Compare a [op] [b] pos) (ah r ta tb):=⟨aK (tE ho.ok ha.ok hb.ok hm) fun _ _ _=>i8⟩
def aI(t:aN):gW:=fun σ S Q E=>t σ S (fun v S'=>match v with | .bl k=>Q k S'|_=>False) E
def rn{σ:L2.St}{H:Hp}{Q:Bool->Hp->Prop}:LT X (aI te) σ H Q->LE X te σ H (fun x H'=>∃k,x = .bl k/\Q k H'):=fun⟨σ3,S,Q3,E3,rσ,rS,h,xo,k⟩=>
 ⟨σ3,S,_,E3,rσ,rS,h,xo,fun p S' v H' h1 rv CQ g=>by
  cases p with
  |bl z=>cases rv;exact⟨z,rfl,k z S' H' h1 CQ g⟩
  |_=>exact h1.elim⟩
def aU{op:CmpOp}{r:R3}(ho:fN X (compareOp op) r)(ha:aY X a ta)(hb:aY X b tb)(hm:behindInMarks op b=false):mG X (.Compare a [op] [b] pos) (aI (ah r ta tb)):=
 ⟨k9 (tF ho.ok ha.ok hb.ok hm) fun σ H Q ⟨σ3,S,Q3,E3,rσ,rS,h,xo,k⟩=>i8 ⟨σ3,S,_,E3,rσ,rS,h,xo,fun p S' v H' h1 rv CQ g=>by
  cases p with
  |bl z=>cases rv;exact⟨z,rfl,k z S' H' h1 CQ g⟩
  |_=>exact h1.elim⟩⟩
def eu(h:aY X e te)(he:∀whole,isTrue e X.env whole=(do let v <-whole;standAt e.pos;holding [v] (truthy v)):=by intro _;rfl):mG X e (aI te):=
 ⟨k9 (vM h.ok he) fun σ H Q q=>rn q⟩
end
section
variable {X:Cx} {a b c:Expr} {rest:List Expr} {ta tb te:aN} {tA tB:gW} {pos:Pos}
def gj(t u:gW):gW:=fun σ S Q E=>t σ S (fun c S1=>if c=true then u σ S1 Q E else Q false S1) E
def gc(t u:gW):gW:=fun σ S Q E=>t σ S (fun c S1=>if c=true then Q true S1 else u σ S1 Q E) E
def cA(t:gW):gW:=fun σ S Q E=>t σ S (fun c S1=>Q (!c) S1) E
def k_(ha:mG X a tA):wL X (.BoolOp .And [a] pos) tA:=⟨sX ha.ok⟩
def eN(ha:mG X a tA):wL X (.BoolOp .Or [a] pos) tA:=⟨vN ha.ok⟩
def lX(ha:mG X a tA)(hb:wL X (.BoolOp .And (b::rest) pos) tB):wL X (.BoolOp .And (a::b::rest) pos) (gj tA tB):=
 ⟨rj (vO ha.ok hb.ok) fun σ H Q ⟨σ3,S,Q3,E3,rσ,rS,h,xo,k⟩=>⟨σ3,S,_,E3,rσ,rS,h,xo,fun c S1 H1 h1 Bn g1=>by
  cases c with
  |true=>rw[if_pos rfl]at h1 ⊢;exact⟨σ3,S1,Q3,E3,rσ.mono g1,Bn,h1,xo.mono g1,fun b S2 H2 h2 CU g2=>k b S2 H2 h2 CU (g1.trans g2)⟩
  |false=>rw[if_neg (by decide)]at h1 ⊢;exact k false S1 H1 h1 Bn g1⟩⟩
def eE(ha:mG X a tA)(hb:wL X (.BoolOp .Or (b::rest) pos) tB):wL X (.BoolOp .Or (a::b::rest) pos) (gc tA tB):=
 ⟨rj (xV ha.ok hb.ok) fun σ H Q ⟨σ3,S,Q3,E3,rσ,rS,h,xo,k⟩=>⟨σ3,S,_,E3,rσ,rS,h,xo,fun c S1 H1 h1 Bn g1=>by
  cases c with
  |true=>rw[if_pos rfl]at h1 ⊢;exact k true S1 H1 h1 Bn g1
  |false=>rw[if_neg (by decide)]at h1 ⊢;exact⟨σ3,S1,Q3,E3,rσ.mono g1,Bn,h1,xo.mono g1,fun b S2 H2 h2 CU g2=>k b S2 H2 h2 CU (g1.trans g2)⟩⟩⟩
def m7(h:wL X a tA):mG X a tA:=⟨h.ok.pt⟩
def eA(ha:mG X a tA):mG X (.UnaryOp .Not a pos) (cA tA):=
 ⟨k9 (vP ha.ok) fun σ H Q ⟨σ3,S,Q3,E3,rσ,rS,h,xo,k⟩=>⟨σ3,S,_,E3,rσ,rS,h,xo,fun c S1 H1 h1 Bn g1=>k (!c) S1 H1 h1 Bn g1⟩⟩
def cI(t u:aN):aN:=fun σ S Q E=>t σ S (fun v S1=>match v with | .bl c=>if c=true then u σ S1 Q E else Q (.bl false) S1|_=>False) E
def iM(t:aN):aN:=fun σ S Q E=>t σ S (fun v S1=>match v with | .bl c=>Q (.bl (!c)) S1|_=>False) E
def oq{op:BoolOp}(h:aY X a ta):aY X (.BoolOp op [a] pos) ta:=⟨vQ h.ok⟩
def lY(ha:aY X a ta)(hb:aY X (.BoolOp .And (b::rest) pos) tb):aY X (.BoolOp .And (a::b::rest) pos) (cI ta tb):=
 ⟨aK (vR ha.ok hb.ok) fun σ H Q ⟨σ3,S,Q3,E3,rσ,rS,h,xo,k⟩=>⟨σ3,S,_,E3,rσ,rS,h,xo,fun p S1 v H1 h1 rv Bn g1=>by
  cases p with
  |bl z=>
   cases rv
   refine⟨z,rfl,?_⟩
   cases z with
   |true=>rw[if_pos rfl];exact⟨σ3,S1,Q3,E3,rσ.mono g1,Bn,h1,xo.mono g1,k.mono g1⟩
   |false=>rw[if_neg (by decide)];exact k _ S1 _ H1 h1 (.bl false) Bn g1
  |_=>exact h1.elim⟩⟩
def vi(ha:aY X a ta):aY X (.UnaryOp .Not a pos) (iM ta):=
 ⟨aK (vS ha.ok) fun σ H Q ⟨σ3,S,Q3,E3,rσ,rS,h,xo,k⟩=>⟨σ3,S,_,E3,rσ,rS,h,xo,fun p S1 v H1 h1 rv Bn g1=>by
  cases p with
  |bl z=>cases rv;exact⟨z,rfl,k _ S1 _ H1 h1 (.bl _) Bn g1⟩
  |_=>exact h1.elim⟩⟩
def pF(t:gW)(ta tb:aN):aN:=fun σ S Q E=>t σ S (fun c S1=>if c=true then ta σ S1 Q E else tb σ S1 Q E) E
def vj(hc:mG X c tA)(ha:aY X a ta)(hb:aY X b tb):aY X (.IfExp c a b pos) (pF tA ta tb):=
 ⟨aK (qq hc.ok ha.ok hb.ok) fun σ H Q ⟨σ3,S,Q3,E3,rσ,rS,h,xo,k⟩=>⟨σ3,S,_,E3,rσ,rS,h,xo,fun c S1 H1 h1 Bn g1=>by
  cases c with
  |true=>rw[if_pos rfl]at h1 ⊢;exact⟨σ3,S1,Q3,E3,rσ.mono g1,Bn,h1,xo.mono g1,k.mono g1⟩
  |false=>rw[if_neg (by decide)]at h1 ⊢;exact⟨σ3,S1,Q3,E3,rσ.mono g1,Bn,h1,xo.mono g1,k.mono g1⟩⟩⟩
abbrev yD:=PV->av->ce->Prop
noncomputable def AW(X:Cx)(r:yD):V->Hp->VK->Prop:=fun x H Q=>∃px S Q3,Rep X.K H x px/\Bl X.K H S/\r px S Q3/\Eu X.K H Q3 Q
structure AG (X:Cx) (f:Value->Sem Value) (r:yD):Prop where
 ok:zB X f (AW X r)
def iY(r:yD)(ta:aN):aN:=fun σ S Q E=>ta σ S (fun x S1=>r x S1 Q) E
def hU{op:UnaryOp}{r:yD}(ho:AG X (unaryOp op) r)(ha:aY X a ta):aY X (.UnaryOp op a pos) (iY r ta):=
 ⟨aK (yg ho.ok ha.ok) fun σ H Q ⟨σ3,S,Q3,E3,rσ,rS,h,xo,k⟩=>⟨σ3,S,_,E3,rσ,rS,h,xo,fun p S1 v H1 h1 rv Bn g1=>⟨p,S1,Q3,rv,Bn,h1,k.mono g1⟩⟩⟩
noncomputable def cp:yD:=fun x S Q=>match x with | .int i=>Q (.int (-i)) S|_=>False
def b5:AG X (unaryOp .USub) cp:=⟨fun pins s σ H x v Q I rx ⟨px,S,Q3,r1,rS,h,k⟩=>by
 cases px with
 |int i=>cases r1;exact v_ pins s σ H _ v Q I rx ⟨i,rfl,k _ S _ H h (.int _) rS .refl⟩
 |_=>exact h.elim⟩
end
section
variable {X:Cx}
def bP(g:Int->Int->PV):R3:=fun x y S Q=>match x,y with | .int i,.int j=>Q (g i j) S|_,_=>False
def fH(C:Int->Int->Prop)(g:Int->Int->PV):R3:=fun x y S Q=>match x,y with | .int i,.int j=>C i j/\Q (g i j) S|_,_=>False
def wM{f:Value->Value->Sem Value}{g:Int->Int->Int}(h:fE X f (sM fun i j=>.int (g i j))):fN X f (bP fun i j=>.int (g i j)):=⟨fun pins s σ H x y v u Q I rx ry ⟨px,py,S,Q3,r1,r2,rS,q,k⟩=>by
 cases px with
 |int i=>
  cases py with
  |int j=>cases r1;cases r2;exact h pins s σ H _ _ v u Q I rx ry ⟨i,j,rfl,rfl,k _ S _ H q (.int _) rS .refl⟩
  |_=>exact q.elim
 |_=>exact q.elim⟩
def i9{f:Value->Value->Sem Value}{g:Int->Int->Bool}(h:fE X f (sM fun i j=>.bl (g i j))):fN X f (bP fun i j=>.bl (g i j)):=⟨fun pins s σ H x y v u Q I rx ry ⟨px,py,S,Q3,r1,r2,rS,q,k⟩=>by
 cases px with
 |int i=>
  cases py with
  |int j=>cases r1;cases r2;exact h pins s σ H _ _ v u Q I rx ry ⟨i,j,rfl,rfl,k _ S _ H q (.bl _) rS .refl⟩
  |_=>exact q.elim
 |_=>exact q.elim⟩
def lg{f:Value->Value->Sem Value}{C:Int->Int->Prop}{g:Int->Int->Int}(h:fE X f (rI C fun i j=>.int (g i j))):fN X f (fH C fun i j=>.int (g i j)):=⟨fun pins s σ H x y v u Q I rx ry ⟨px,py,S,Q3,r1,r2,rS,q,k⟩=>by
 cases px with
 |int i=>
  cases py with
  |int j=>cases r1;cases r2;exact h pins s σ H _ _ v u Q I rx ry ⟨i,j,rfl,rfl,q.1,k _ S _ H q.2 (.int _) rS .refl⟩
  |_=>exact q.elim
 |_=>exact q.elim⟩
def lZ(i j:Int):Prop:=j≠0/\j.natAbs < 2 ^ 8000
def m8{n:Nat}(h:n < 2 ^ 8000):n.log2 < 9000:=by
 by_cases z:n=0
 ·rw[z];decide +kernel
 ·exact Nat.lt_trans ((Nat.log2_lt z).mpr h) (by decide)
def wN:fN X (binaryOp .Sub) (bP fun i j=>.int (i - j)):=wM v8
def wO:fN X (binaryOp .Mod) (fH (fun _ j=>j≠0) fun i j=>.int (i.fmod j)):=lg tw
def t7:fN X (binaryOp .FloorDiv) (fH lZ fun i j=>.int (i.fdiv j)):=lg (zC fun _ _ _ _ _ _ _ hc q=>PyProof.Rows.floordiv_int hc.1 q (.inl (PyProof.noPylong_of_log2 (m8 hc.2))))
def wP:fN X (binaryOp .Pow) (fH v6 fun i j=>.int (i ^ j.toNat)):=lg v9
def yE:fN X (compareOp .Lt) (bP fun i j=>.bl (decide (i < j))):=i9 yj
def yF:fN X (compareOp .LtE) (bP fun i j=>.bl (decide (i<=j))):=i9 yk
def yG:fN X (compareOp .Gt) (bP fun i j=>.bl (decide (j < i))):=i9 ym
def yH:fN X (compareOp .GtE) (bP fun i j=>.bl (decide (j<=i))):=i9 yn
end
end L3
namespace L2
open PySem PySem.Spec PyProof.Rows
section
variable {X:Cx}
def yI(K:Vo):R2:=fun x y H Q=>∃a b xs ys,x = .ref a/\y = .ref b/\Cj K H a xs/\Cj K H b ys/\xs.length+ys.length<=sizeLine/\∀r H',(∀c o,H c=some o->H' c=some o)->Cj K H' r (xs++ys)->Q (.ref r) H'
def t8:fE X (binaryOp .Add) (yI X.K):=by
 intro pins s σ H x y v u Q I rx ry h
 obtain⟨a,b,xs,ys,rfl,rfl,ha,hb,hz,q⟩:=h
 by_cases hx:xs=[]
 ·subst hx
  cases rx
  cases ry
  obtain⟨its,r1,p1,_⟩:=I.tuple ha
  obtain⟨its2,r2,p2,_⟩:=I.tuple hb
  cases r1
  obtain⟨⟨cls,dd,data,sl⟩,ho,hc,n,hd⟩:=id p1
  obtain⟨⟨GN,dd2,data2,sl2⟩,ho2,hc2,n2,hd2⟩:=id p2
  simp only at hc hd hc2 hd2
  subst hc hd hc2 hd2
  exact concat_meets ⟨_,ho,rfl⟩ ⟨_,ho2,rfl⟩ noFill_tuple_add seq_tuple_add PySem.F.slot_tuple_add PySem.F.entry_tuple_add (PySem.F.args_tuple_add_2 _ _)
   (tuple_addW0 a b _ its2.toArray n n2 dd dd2 sl sl2 rfl) ⟨ho,ho2,⟨.ref b,H,I,rfl,q b H (fun _ _ e=>e) hb⟩⟩
 ·exact tM pins s σ H _ _ v u Q I rx ry ⟨a,b,xs,ys,rfl,rfl,ha,hb,hx,hz,fun e=>q a H (fun _ _ e=>e) (by rw[e,List.append_nil];exact ha),
   fun _ p hp=>q p _ (fun c o e=>by rw[ay (aQ e hp)];exact e) (Cj.of ar)⟩
end
end L2
namespace L3
open PySem L2
section
variable {X:Cx}
def aV:R3:=fun x y S Q=>match x,y with
 | .int i,.int j=>Q (.int (i+j)) S
 | .str i,.str j=>i.length+j.length<=sizeLine/\Q (.str (i++j)) S
 | .tup i,.tup j=>i.length+j.length<=sizeLine/\Q (.tup (i++j)) S
 | .ref i,.ref j=>match S i,S j with
  |some (.lst xs),some (.lst ys)=>xs.length+ys.length<=sizeLine/\∀p,S p=none->Q (.ref p) (Bc S p (.lst (xs++ys)))
  |_,_=>False
 |_,_=>False
def aH:fN X (binaryOp .Add) aV:=⟨fun pins s σ H x y v u Q I rx ry ⟨px,py,S,Q3,r1,r2,rS,q,k⟩=>by
 unfold aV at q
 split at q
 ·cases r1;cases r2
  exact v7 pins s σ H _ _ v u Q I rx ry ⟨_,_,rfl,rfl,k _ S _ H q (.int _) rS .refl⟩
 ·cases r1;cases r2
  exact mP pins s σ H _ _ v u Q I rx ry ⟨_,_,rfl,rfl,q.1,k _ S _ H q.2 (.str _) rS .refl⟩
 ·cases r1 with
  |tup h1 s1=>
   cases r2 with
   |tup h2 s2=>
    refine t8 pins s σ H _ _ v u Q I rx ry ⟨_,_,_,_,rfl,rfl,h1,h2,by rw[s1.length,s2.length];exact q.1,fun r H' hs hr=>?_⟩
    exact k _ S _ H' q.2 (.tup hr ((s1.mono (.same hs)).append (s2.mono (.same hs)))) (rS.grow hs) (.same hs)
 ·cases r1;cases r2
  split at q
  ·rename_i i j xs ys e1 e2
   obtain⟨vs,h1,s1⟩:=rS _ _ e1
   obtain⟨us,h2,s2⟩:=rS _ _ e2
   exact wv pins s σ H _ _ v u Q I rx ry ⟨_,_,_,_,rfl,rfl,h1,h2,by rw[s1.length,s2.length];exact q.1,fun p hp=>k _ _ _ _ (q.2 p (rS.free hp)) (.ref p) (rS.new hp ⟨_,ar,(s1.append s2).mono (.new hp)⟩) (.new hp)⟩
  ·exact q.elim
 ·exact q.elim⟩
end
mutual
inductive Dat (S:av):PV->PyData->Prop
 |non:Dat S .non .none
 |bl (b:Bool):Dat S (.bl b) (.bool b)
 |int (i:Int):Dat S (.int i) (.int i)
 |str (x:Str):Dat S (.str x) (.str x)
 |tup {ps:List PV} {ds:List PyData}:CW S ps ds->Dat S (.tup ps) (.tuple ds)
 |cl {ps:List PV} {ds:List PyData}:CW S ps ds->Dat S (.cl ps) (.list ds)
 |ref {a:Addr} {ps:List PV} {ds:List PyData}:S a=some (.lst ps)->CW S ps ds->Dat S (.ref a) (.list ds)
inductive CW (S:av):List PV->List PyData->Prop
 |nil:CW S [] []
 |cons {p:PV} {d:PyData} {ps:List PV} {ds:List PyData}:Dat S p d->CW S ps ds->CW S (p::ps) (d::ds)
end
section
variable {X:Cx} {pins:Va} {σ:L2.St} {H:Hp} {s:Shared} {S:av}
def m9(I:Inv X pins σ H s)(rS:Bl X.K H S):(∀{p:PV} {d:PyData},Dat S p d->∀{v:V} {u:Value},Rep X.K H v p->RelV v u->∃as,Reads s.heap u d as)/\∀{ps:List PV} {ds:List PyData},CW S ps ds->∀{vs:List V} {us:Vv},Reps X.K H vs ps->Vals vs us->∃as,ReadsAll s.heap us ds as:=by
 have one:=@Dat.rec S (motive_1:=fun p d _=>∀{v:V} {u:Value},Rep X.K H v p->RelV v u->∃as,Reads s.heap u d as) (motive_2:=fun ps ds _=>∀{vs:List V} {us:Vv},Reps X.K H vs ps->Vals vs us->∃as,ReadsAll s.heap us ds as)
 have two:=@CW.rec S (motive_1:=fun p d _=>∀{v:V} {u:Value},Rep X.K H v p->RelV v u->∃as,Reads s.heap u d as) (motive_2:=fun ps ds _=>∀{vs:List V} {us:Vv},Reps X.K H vs ps->Vals vs us->∃as,ReadsAll s.heap us ds as)
 have c1:∀{v:V} {u:Value},Rep X.K H v .non->RelV v u->∃as,Reads s.heap u .none as:=fun h r=>by cases h;cases r;exact⟨_,.none⟩
 have c2:∀(b:Bool) {v:V} {u:Value},Rep X.K H v (.bl b)->RelV v u->∃as,Reads s.heap u (.bool b) as:=fun b _ _ h r=>by cases h;cases r;exact⟨_,.bool b⟩
 have c3:∀(i:Int) {v:V} {u:Value},Rep X.K H v (.int i)->RelV v u->∃as,Reads s.heap u (.int i) as:=fun i _ _ h r=>by cases h;obtain⟨t,rfl⟩:=r;exact⟨_,.int i t⟩
 have c4:∀(x:Str) {v:V} {u:Value},Rep X.K H v (.str x)->RelV v u->∃as,Reads s.heap u (.str x) as:=fun x _ _ h r=>by cases h;obtain⟨t,rfl⟩:=r;exact⟨_,.str x t⟩
 have c5:∀{ps:List PV} {ds:List PyData},CW S ps ds->(∀{vs:List V} {us:Vv},Reps X.K H vs ps->Vals vs us->∃as,ReadsAll s.heap us ds as)->∀{v:V} {u:Value},Rep X.K H v (.tup ps)->RelV v u->∃as,Reads s.heap u (.tuple ds) as:=fun _ ih _ _ h r=>by
  cases h with
  |tup h rs=>
   cases r
   obtain⟨its,rv,⟨o,ho,hc,n,hd⟩,hz⟩:=I.tuple h
   obtain⟨as,q⟩:=ih rs rv
   exact⟨as,.tuple ho hc hd (by simpa using q)⟩
 have c6:∀{ps:List PV} {ds:List PyData},CW S ps ds->(∀{vs:List V} {us:Vv},Reps X.K H vs ps->Vals vs us->∃as,ReadsAll s.heap us ds as)->∀{v:V} {u:Value},Rep X.K H v (.cl ps)->RelV v u->∃as,Reads s.heap u (.list ds) as:=fun _ ih _ _ h r=>by
  cases h with
  |cl h rs=>
   cases r
   obtain⟨its,rv,⟨o,n,ho,hc,_,hd⟩,hz⟩:=I.list h.sq
   obtain⟨as,q⟩:=ih rs rv
   exact⟨_,.list ho hc hd (by simpa using q)⟩
 have c7:∀{a:Addr} {ps:List PV} {ds:List PyData},S a=some (.lst ps)->CW S ps ds->(∀{vs:List V} {us:Vv},Reps X.K H vs ps->Vals vs us->∃as,ReadsAll s.heap us ds as)->∀{v:V} {u:Value},Rep X.K H v (.ref a)->RelV v u->∃as,Reads s.heap u (.list ds) as:=fun e _ ih _ _ h r=>by
  cases h
  cases r
  obtain⟨vs,hv,rs⟩:=rS _ _ e
  obtain⟨its,rv,⟨o,n,ho,hc,_,hd⟩,hz⟩:=I.list (SqL.of hv)
  obtain⟨as,q⟩:=ih rs rv
  exact⟨_,.list ho hc hd (by simpa using q)⟩
 have c8:∀{vs:List V} {us:Vv},Reps X.K H vs []->Vals vs us->∃as,ReadsAll s.heap us [] as:=fun h r=>by cases h;cases r;exact⟨_,.nil⟩
 have c9:∀{p:PV} {d:PyData} {ps:List PV} {ds:List PyData},Dat S p d->CW S ps ds->(∀{v:V} {u:Value},Rep X.K H v p->RelV v u->∃as,Reads s.heap u d as)->(∀{vs:List V} {us:Vv},Reps X.K H vs ps->Vals vs us->∃as,ReadsAll s.heap us ds as)->∀{vs:List V} {us:Vv},Reps X.K H vs (p::ps)->Vals vs us->∃as,ReadsAll s.heap us (d::ds) as:=fun _ _ i1 i2 _ _ h r=>by
  cases h with
  |cons a rs=>
   cases r with
   |cons r1 r2=>
    obtain⟨as,q⟩:=i1 a r1
    obtain⟨bs,q2⟩:=i2 rs r2
    exact⟨_,.cons q q2⟩
 exact⟨fun h=>one c1 c2 c3 c4 c5 c6 c7 c8 c9 h,fun h=>two c1 c2 c3 c4 c5 c6 c7 c8 c9 h⟩
def Dat.reads(I:Inv X pins σ H s)(rS:Bl X.K H S){p:PV}{d:PyData}{v:V}{u:Value}(h:Dat S p d)(r:Rep X.K H v p)(r2:RelV v u):∃as,Reads s.heap u d as:=(m9 I rS).1 h r r2
end
section
variable {X:Cx}
def bo(neg:Bool):R3:=fun x y S Q=>match x,y with
 | .int i,.int j=>Q (.bl (neg != decide (i=j))) S
 | .str i,.str j=>Q (.bl (neg != decide (i=j))) S
 | .bl i,.bl j=>Q (.bl (neg != decide (i=j))) S
 |x,y=>∃d d',Dat S x d/\Dat S y d'/\d.canLay0=true/\d'.canLay0=true/\min d.depth d'.depth<=150/\Q (.bl (neg != PyData.eqv d d')) S
def iN(hu:X.A.units+150 < cLine):fN X (compareOp .Eq) (bo false):=⟨fun pins s σ H x y v u Q I rx ry ⟨px,py,S,Q3,r1,r2,rS,q,k⟩=>by
 unfold bo at q
 split at q
 ·cases r1;cases r2
  exact qz pins s σ H _ _ v u Q I rx ry ⟨rfl,k _ S _ H (by simpa using q) (.bl _) rS .refl⟩
 ·cases r1;cases r2
  exact qz pins s σ H _ _ v u Q I rx ry ⟨rfl,k _ S _ H (by simpa using q) (.bl _) rS .refl⟩
 ·cases r1;cases r2
  exact qz pins s σ H _ _ v u Q I rx ry ⟨rfl,k _ S _ H (by simpa using q) (.bl _) rS .refl⟩
 ·obtain⟨d,d',h1,h2,c1,c2,hd,q⟩:=q
  obtain⟨as,a1⟩:=h1.reads I rS r1 rx
  obtain⟨bs,a2⟩:=h2.reads I rS r2 ry
  exact SeqAt.compareEq_reads a1 a2 c1 c2 (by omega) ⟨.bl _,H,I,rfl,k _ S _ H (by simpa using q) (.bl _) rS .refl⟩⟩
def yJ(hu:X.A.units+150 < cLine):fN X (compareOp .NotEq) (bo true):=⟨fun pins s σ H x y v u Q I rx ry ⟨px,py,S,Q3,r1,r2,rS,q,k⟩=>by
 unfold bo at q
 split at q
 ·cases r1;cases r2
  exact qA pins s σ H _ _ v u Q I rx ry ⟨rfl,k _ S _ H (by simpa using q) (.bl _) rS .refl⟩
 ·cases r1;cases r2
  exact qA pins s σ H _ _ v u Q I rx ry ⟨rfl,k _ S _ H (by simpa using q) (.bl _) rS .refl⟩
 ·cases r1;cases r2
  exact qA pins s σ H _ _ v u Q I rx ry ⟨rfl,k _ S _ H (by simpa using q) (.bl _) rS .refl⟩
 ·obtain⟨d,d',h1,h2,c1,c2,hd,q⟩:=q
  obtain⟨as,a1⟩:=h1.reads I rS r1 rx
  obtain⟨bs,a2⟩:=h2.reads I rS r2 ry
  exact SeqAt.compareNe_reads a1 a2 c1 c2 (by omega) ⟨.bl _,H,I,rfl,k _ S _ H (by simpa using q) (.bl _) rS .refl⟩⟩
def vk(neg:Bool):R3:=fun x y S Q=>match y with
 | .non=>Q (.bl (neg != match x with | .non=>true|_=>false)) S
 | .bl true=>match x with | .bl true=>Q (.bl (neg != true)) S|_=>False
 |_=>False
def rq:fN X (compareOp .IsNot) (vk true):=⟨fun pins s σ H x y v u Q I rx ry ⟨px,py,S,Q3,r1,r2,rS,q,k⟩=>by
 unfold vk at q
 split at q
 ·cases r2
  refine tD pins s σ H _ _ v u Q I rx ry ⟨rfl,?_⟩
  cases r1<;>exact k _ S _ H (by simpa using q) (.bl _) rS .refl
 ·cases r2
  split at q
  ·cases r1
   exact pD pins s σ H _ _ v u Q I rx ry ⟨rfl,rfl,k _ S _ H (by simpa using q) (.bl _) rS .refl⟩
  ·exact q.elim
 ·exact q.elim⟩
noncomputable def l0(S:av):PV->Option (List PV)
 | .tup xs=>some xs
 | .cl xs=>some xs
 | .ref a=>match S a with|some (.lst xs)=>some xs|_=>none
 |_=>none
def wQ{H:Hp}{S:av}{v:V}{p:PV}{xs:List PV}(rS:Bl X.K H S)(r:Rep X.K H v p)(h:l0 S p=some xs):∃a vs,v = .ref a/\(SqL X.K H a vs\/Cj X.K H a vs)/\Reps X.K H vs xs:=by
 unfold l0 at h
 split at h
 ·cases h;cases r with|tup h1 rs=>exact⟨_,_,rfl,.inr h1,rs⟩
 ·cases h;cases r with|cl h1 rs=>exact⟨_,_,rfl,.inl h1.sq,rs⟩
 ·cases r
  split at h
  ·rename_i e
   cases h
   obtain⟨vs,hv,rs⟩:=rS _ _ e
   exact⟨_,vs,rfl,.inl (SqL.of hv),rs⟩
  ·cases h
 ·cases h
noncomputable def iO(x:PyData)(xs:List PyData):Bool:=xs.any fun y=>PyData.eqv y x
def jv(neg:Bool):R3:=fun x y S Q=>match x,y with
 | .str i,.str j=>Q (.bl (neg != !(Builtin.Str.occurrences j i 0 j.length 1).isEmpty)) S
 |x,y=>match y with
  | .ref a=>match S a with
   |some (.lst xs)=>∃d ds,Dat S x d/\CW S xs ds/\d.canLay0=true/\PyData.canLayAll0 ds=true/\d.depth<=150/\Q (.bl (neg != iO d ds)) S
   |some (.dct kvs)=>match x with
    | .str z=>Q (.bl (neg != (kvs.any fun kv=>decide (kv.1=Sum.inr z)))) S
    | .int z=>Q (.bl (neg != (kvs.any fun kv=>decide (kv.1=Sum.inl z)))) S
    |_=>False
   |_=>False
  | .tup xs=>∃d ds,Dat S x d/\CW S xs ds/\d.canLay0=true/\PyData.canLayAll0 ds=true/\d.depth<=150/\Q (.bl (neg != iO d ds)) S
  |_=>False
theorem Bt.any{K:Vo}{H:Hp}{κ:Type} [DecidableEq κ](k:κ):∀{vs:List (κ×V)} {ps:List (κ×PV)},Bt K H vs ps->(fz vs k).isSome=ps.any fun kv=>decide (kv.1=k)
 |_,_,.nil=>rfl
 |_,_,.cons (k:=k') a r=>by
  rw[List.any_cons,<-Bt.any k r]
  by_cases e:k'=k
  ·rw[Cy e];simp[e]
  ·rw[B8 e];simp[e]
def iP(hu:X.A.units+160 < cLine):fN X (compareOp .In) (jv false):=⟨fun pins s σ H x y v u Q I rx ry ⟨px,py,S,Q3,r1,r2,rS,q,k⟩=>by
 unfold jv at q
 split at q
 ·cases r1;cases r2
  exact oX pins s σ H _ _ v u Q I rx ry ⟨_,_,rfl,rfl,k _ S _ H (by simpa using q) (.bl _) rS .refl⟩
 ·split at q
  ·cases r2
   cases ry
   split at q
   ·rename_i xs e
    obtain⟨d,ds,h1,h2,c1,c2,hd,q⟩:=q
    obtain⟨as,a1⟩:=h1.reads I rS r1 rx
    obtain⟨bs,a2⟩:=(Dat.ref e h2).reads I rS (.ref _) (rfl:RelV (.ref _) (.ref _))
    exact SeqAt.in_list_reads a2 a1 c2 c1 (by omega) ⟨.bl _,H,I,rfl,k _ S _ H (by simpa [iO]using q) (.bl _) rS .refl⟩
   ·rename_i kvs e
    obtain⟨kv,hv,rk⟩:=rS _ _ e
    split at q
    ·cases r1
     exact yx (by omega) I (DGet.k (k:=Sum.inr _) hv) rx fun s3 I3=>⟨.bl _,H,I3,rfl,k _ S _ H (by rw[rk.any];simpa using q) (.bl _) rS .refl⟩
    ·cases r1
     exact yx (by omega) I (DGet.k (k:=Sum.inl _) hv) rx fun s3 I3=>⟨.bl _,H,I3,rfl,k _ S _ H (by rw[rk.any];simpa using q) (.bl _) rS .refl⟩
    ·exact q.elim
   ·exact q.elim
  ·rename_i xs
   obtain⟨d,ds,h1,h2,c1,c2,hd,q⟩:=q
   obtain⟨as,a1⟩:=h1.reads I rS r1 rx
   obtain⟨bs,a2⟩:=(Dat.tup h2).reads I rS r2 ry
   exact SeqAt.in_tuple_reads a2 a1 c2 c1 (by omega) ⟨.bl _,H,I,rfl,k _ S _ H (by simpa [iO]using q) (.bl _) rS .refl⟩
  ·exact q.elim⟩
def gk(hu:X.A.units+160 < cLine):fN X (compareOp .NotIn) (jv true):=⟨fun pins s σ H x y v u Q I rx ry ⟨px,py,S,Q3,r1,r2,rS,q,k⟩=>by
 unfold jv at q
 split at q
 ·cases r1;cases r2
  exact kT pins s σ H _ _ v u Q I rx ry ⟨_,_,rfl,rfl,k _ S _ H (by simpa using q) (.bl _) rS .refl⟩
 ·split at q
  ·cases r2
   cases ry
   split at q
   ·rename_i xs e
    obtain⟨d,ds,h1,h2,c1,c2,hd,q⟩:=q
    obtain⟨as,a1⟩:=h1.reads I rS r1 rx
    obtain⟨bs,a2⟩:=(Dat.ref e h2).reads I rS (.ref _) (rfl:RelV (.ref _) (.ref _))
    exact SeqAt.notIn_list_reads a2 a1 c2 c1 (by omega) ⟨.bl _,H,I,rfl,k _ S _ H (by simpa [iO]using q) (.bl _) rS .refl⟩
   ·rename_i kvs e
    obtain⟨kv,hv,rk⟩:=rS _ _ e
    split at q
    ·cases r1
     exact oj (by omega) I (DGet.k (k:=Sum.inr _) hv) rx fun s3 I3=>⟨.bl _,H,I3,rfl,k _ S _ H (by rw[rk.any];simpa using q) (.bl _) rS .refl⟩
    ·cases r1
     exact oj (by omega) I (DGet.k (k:=Sum.inl _) hv) rx fun s3 I3=>⟨.bl _,H,I3,rfl,k _ S _ H (by rw[rk.any];simpa using q) (.bl _) rS .refl⟩
    ·exact q.elim
   ·exact q.elim
  ·rename_i xs
   obtain⟨d,ds,h1,h2,c1,c2,hd,q⟩:=q
   obtain⟨as,a1⟩:=h1.reads I rS r1 rx
   obtain⟨bs,a2⟩:=(Dat.tup h2).reads I rS r2 ry
   exact SeqAt.notIn_tuple_reads a2 a1 c2 c1 (by omega) ⟨.bl _,H,I,rfl,k _ S _ H (by simpa [iO]using q) (.bl _) rS .refl⟩
  ·exact q.elim⟩
end
end L3
namespace HT
open PySem PySem.Spec PyProof.Rows
section
variable {prog:Program} {w:World} {A:Around} {E:Vq} {s:Shared}
def gm{t sl:Addr}{items:Vw}{vl vu:Value}{lo hi:Option Int}{Q:Vq}(ht:IsTup s.heap t items)(hs:s.heap.IsSliceOf sl vl vu .none)(pl:IsPart vl lo)(pu:IsPart vu hi)
  (hw:By items.size 0 lo=0/\By items.size items.size hi=items.size)
  (h:Q (.ref t) s):wpAny (model prog w) A (getItem (.ref t) (.ref sl)) Q E s:=by
 obtain⟨os,hos,hcs,hds⟩:=id hs
 have GO:s.TypeIs (.ref sl) "slice":=⟨os,hos,hcs⟩
 unfold getItem
 try with_reducible refine wpAny_holding ?_
 first|refine wpAny_bind (wpAny_pure ?_)|skip
 refine wpAny_bind (wpAny_sequenceKey ht.typeIs (by decide) ?_)
 refine wpAny_bind (wpAny_callSpecial?_slot (name:=Str.ofString "__getitem__") ht.typeIs PyProof.Rows.slot_tuple_getitem
  (wpAny_call_entry PyProof.Rows.slot_tuple_getitem ht.typeIs entry_tuple_getitem ?_ (args_tuple_getitem _ _)))
 show wpAny _ _ (Builtin.Tuple.tupleItemsOf (.ref t) >>= _) _ _ s
 refine wpAny_bind (tupleItemsOf_ ht ?_)
 refine wpAny_bind (wpAny_typeOf GO ?_)
 rw[if_pos (by decide)]
 refine wpAny_bind (dy hs pl pu ?_)
 have hyes:(((By items.size 0 lo:Nat):Int) == 0&&(1:Int) == 1&&(By items.size items.size hi - By items.size 0 lo) == items.size)=true:=by
  rw[hw.1,hw.2];simp
 show wpAny _ _ (if (((By items.size 0 lo:Nat):Int) == 0&&(1:Int) == 1&&(By items.size items.size hi - By items.size 0 lo) == items.size)=true then _ else _) _ _ s
 rw[if_pos hyes]
 unfold Builtin.Tuple.tupleIsExact
 refine wpAny_bind (wpAny_bind (wpAny_typeOf ht.typeIs (wpAny_pure ?_)))
 rw[if_pos (by decide)]
 first
  |exact wpAny_bind (wpAny_rule (wpAny_pure ⟨_,rfl,wpAny_pure h⟩))
  |exact wpAny_bind (wpAny_rule (wpAny_bind (wpAny_pure (wpAny_pure ⟨_,rfl,wpAny_pure h⟩))))
  |exact wpAny_bind (wpAny_rule (wpAny_bind (wpAny_pure ⟨_,rfl,wpAny_pure h⟩)))
end
end HT
namespace L2
open PySem PySem.Spec PyProof.Rows
section
variable {X:Cx}
noncomputable def yK(K:Vo):V->Option Int->Option Int->Hp->VK->Prop:=fun x lo hi H Q=>∃a xs,x = .ref a/\Cj K H a xs/\∀r H',(∀c o,H c=some o->H' c=some o)->Cj K H' r (jk xs lo hi)->Q (.ref r) H'
def t9:xI X (yK X.K):=by
 intro pins s σ H x v vl vu lo hi sl Q I rx hs pl pu h
 obtain⟨a,xs,rfl,hx,q⟩:=h
 by_cases hw:HT.By xs.length 0 lo=0/\HT.By xs.length xs.length hi=xs.length
 ·cases rx
  obtain⟨its,r,ht,hz⟩:=I.tuple hx
  have hlen:its.toArray.size=xs.length:=by rw[List.size_toArray];exact r.length.symm
  refine⟨"tuple",_,PyProof.Rows.slot_tuple_getitem.lookup,ht.typeIs,HT.gm ht hs pl pu (by rw[hlen];exact hw) ⟨.ref a,H,I,rfl,q a H (fun _ _ e=>e) ?_⟩⟩
  have e:jk xs lo hi=xs:=by unfold jk;rw[hw.1,hw.2];simp
  rw[e];exact hx
 ·exact wj pins s σ H _ v vl vu lo hi sl Q I rx hs pl pu ⟨a,xs,rfl,hx,hw,fun p hp=>q p _ (fun c o e=>by rw[ay (aQ e hp)];exact e) (Cj.of ar)⟩
def t_(hu:X.A.units+1 < cLine):xJ X (fun x y H Q=>∃a v,x = .ref a/\DGet H a y (some v)/\Q v H):=by
 intro value slice pins s σ H x y v u Q I rx ry h hs
 obtain⟨a,z,rfl,g,q⟩:=h
 cases rx
 exact tail_any (lU I g) PySem.F.slot_dict_getitem.lookup (o6 hu I g ry fun w' s3 I3 rw'=>⟨z,H,I3,rw',q⟩) hs
def rA(hu:X.A.units+1 < cLine):s_ X (fun o i v H Q=>∃a H',o = .ref a/\EA H a i v H'/\Q H'):=by
 intro pins s σ H o i v ov iv u Q I ro ri rv h
 obtain⟨a,H',rfl,g,q⟩:=h
 cases ro
 exact o7 hu I g ri rv fun s' I'=>⟨H',I',q⟩
end
end L2
namespace L3
open PySem L2
theorem Reps.Ck{K:Vo}{H:Hp}{vs:List V}{ps:List PV}{i:Int}{p:PV}(r:Reps K H vs ps)(h:L2.Ck ps i=some p):∃v,L2.Ck vs i=some v/\Rep K H v p:=by
 unfold L2.Ck at h ⊢
 rw[r.length]
 cases e:o3 ps.length i with
 |none=>rw[e]at h;cases h
 |some j=>
  rw[e]at h
  obtain⟨v,h1,h2⟩:=r.get h
  exact⟨v,h1,h2⟩
noncomputable def hV:PV->Option bb
 | .int i=>some (.inl i)
 | .str x=>some (.inr x)
 |_=>none
def cn{K:Vo}{H:Hp}{v:V}{p:PV}{k:bb}(r:Rep K H v p)(h:hV p=some k):v=kV k:=by
 cases p with
 |int i=>cases h;cases r;rfl
 |str i=>cases h;cases r;rfl
 |_=>cases h
noncomputable def dB{κ:Type} [DecidableEq κ]:List (κ×PV)->κ->Option PV
 |[],_=>none
 |(k',v)::r,k=>if k'=k then some v else dB r k
theorem Bt.val{K:Vo}{H:Hp}{κ:Type} [DecidableEq κ]{k:κ}{p:PV}:∀{vs:List (κ×V)} {ps:List (κ×PV)},Bt K H vs ps->dB ps k=some p->∃v,fz vs k=some v/\Rep K H v p
 |_,_,.nil,h=>by cases h
 |_,_,.cons (k:=k') a r,h=>by
  unfold dB at h
  split at h
  ·rename_i e;cases h;exact⟨_,Cy e,a⟩
  ·rename_i e;rw[B8 e];exact Bt.val r h
theorem Bt.valN{K:Vo}{H:Hp}{κ:Type} [DecidableEq κ]{k:κ}:∀{vs:List (κ×V)} {ps:List (κ×PV)},Bt K H vs ps->dB ps k=none->fz vs k=none
 |_,_,.nil,_=>rfl
 |_,_,.cons (k:=k') a r,h=>by
  unfold dB at h
  split at h
  ·cases h
  ·rename_i e;rw[B8 e];exact Bt.valN r h
section
variable {X:Cx} {a b e lo hi:Expr} {ta tb te:aN} {pos p2:Pos}
structure AH (X:Cx) (r:R3):Prop where
 ok:xJ X (LR X r)
def yL{r:R3}(hr:AH X r)(ha:aY X a ta)(hb:aY X b tb)(hs:i5 b):aY X (.Subscript a b pos) (ah r ta tb):=⟨aK (yt hr.ok ha.ok hb.ok hs) fun _ _ _=>i8⟩
def ag:R3:=fun x y S Q=>match x with
 | .tup xs=>match y with | .int i=>(match Ck xs i with|some v=>Q v S|none=>False)|_=>False
 | .cl xs=>match y with | .int i=>(match Ck xs i with|some v=>Q v S|none=>False)|_=>False
 | .str z=>match y with | .int i=>z.length<=sizeLine/\(match Ck z.cps.toList i with|some c=>Q (.str ⟨#[c]⟩) S|none=>False)|_=>False
 | .ref a=>match S a with
  |some (.lst xs)=>(match y with | .int i=>(match Ck xs i with|some v=>Q v S|none=>False)|_=>False)
  |some (.dct kvs)=>(match hV y with|some k=>(match dB kvs k with|some v=>Q v S|none=>False)|none=>False)
  |_=>False
 |_=>False
def AI(hu:X.A.units+1 < cLine):AH X ag:=⟨fun value slice pins s σ H x y v u Q I rx ry ⟨px,py,S,Q3,r1,r2,rS,q,k⟩ hs=>by
 unfold ag at q
 split at q
 ·split at q
  ·split at q
   ·rename_i e
    cases r2
    cases r1 with
    |tup h1 rs=>
     obtain⟨w,hw,rw'⟩:=rs.Ck e
     exact wm value slice pins s σ H _ _ v u Q I rx ry ⟨_,_,_,w,rfl,rfl,h1,hw,k _ S _ H q rw' rS .refl⟩ hs
   ·exact q.elim
  ·exact q.elim
 ·split at q
  ·split at q
   ·rename_i e
    cases r2
    cases r1 with
    |cl h1 rs=>
     obtain⟨w,hw,rw'⟩:=rs.Ck e
     exact oh value slice pins s σ H _ _ v u Q I rx ry ⟨_,_,_,w,rfl,rfl,h1.sq,hw,k _ S _ H q rw' rS .refl⟩ hs
   ·exact q.elim
  ·exact q.elim
 ·split at q
  ·obtain⟨hz,q⟩:=q
   split at q
   ·rename_i e
    cases r1;cases r2
    exact wn value slice pins s σ H _ _ v u Q I rx ry ⟨_,_,_,rfl,rfl,hz,e,k _ S _ H q (.str _) rS .refl⟩ hs
   ·exact q.elim
  ·exact q.elim
 ·split at q
  ·rename_i e0
   split at q
   ·split at q
    ·rename_i e
     cases r1;cases r2
     obtain⟨vs,hv,rs⟩:=rS _ _ e0
     obtain⟨w,hw,rw'⟩:=rs.Ck e
     exact oh value slice pins s σ H _ _ v u Q I rx ry ⟨_,_,_,w,rfl,rfl,SqL.of hv,hw,k _ S _ H q rw' rS .refl⟩ hs
    ·exact q.elim
   ·exact q.elim
  ·rename_i e0
   split at q
   ·rename_i ek
    split at q
    ·rename_i ev
     cases r1
     have e1:=cn r2 ek
     subst e1
     obtain⟨kv,hv,rk⟩:=rS _ _ e0
     obtain⟨w,hw,rw'⟩:=rk.val ev
     refine t_ hu value slice pins s σ H _ _ v u Q I rx ry ⟨_,w,rfl,?_,k _ S _ H q rw' rS .refl⟩ hs
     rw[<-hw]
     exact DGet.k hv
    ·exact q.elim
   ·exact q.elim
  ·exact q.elim
 ·exact q.elim⟩
abbrev xL:=b3->av->(Option Int->av->Prop)->cW->Prop
noncomputable def LO(X:Cx)(t:xL):TO:=fun σ H Q=>∃σ3 S Q3 E3,Bm X.K H σ σ3/\Bl X.K H S/\t σ3 S Q3 E3/\Es X H E3/\∀o S' H',Q3 o S'->Bl X.K H' S'->Grow X.K H H'->Q o H'
structure zG (X:Cx) (e:Option Expr) (t:xL):Prop where
 ok:PO X e (LO X t)
noncomputable def j4:xL:=fun _ S Q _=>Q none S
noncomputable def jx(t:aN):xL:=fun σ S Q E=>t σ S (fun v S'=>match v with | .int i=>Q (some i) S'|_=>False) E
def rB{e:Option Expr}{t t':TO}(h:PO X e t)(k:∀σ H Q,t' σ H Q->t σ H Q):PO X e t':=fun pins s σ H Q I q=>h pins s σ H Q I (k σ H Q q)
def cq:zG X none j4:=⟨rB tK fun σ H Q ⟨σ3,S,Q3,E3,rσ,rS,h,xo,k⟩=>k none S H h rS .refl⟩
def bR(h:aY X e te):zG X (some e) (jx te):=⟨rB (tL h.ok) fun σ H Q ⟨σ3,S,Q3,E3,rσ,rS,h,xo,k⟩=>⟨σ3,S,_,E3,rσ,rS,h,xo,fun p S' v H' h1 rv CQ g=>by
 cases p with
 |int i=>cases rv;exact⟨i,rfl,k _ S' H' h1 CQ g⟩
 |_=>exact h1.elim⟩⟩
noncomputable def B7{α:Type}(xs:List α)(lo hi:Option Int):List α:=(xs.drop (HT.By xs.length 0 lo)).take (HT.By xs.length xs.length hi - HT.By xs.length 0 lo)
def Reps.cut{K:Vo}{H:Hp}{vs:List V}{ps:List PV}(r:Reps K H vs ps)(lo hi:Option Int):Reps K H (jk vs lo hi) (B7 ps lo hi):=by
 unfold jk B7
 rw[r.length]
 exact(r.drop _).take _
def j5(x:PV)(lo hi:Option Int)(S:av)(Q:ce):Prop:=match x with
 | .tup xs=>Q (.tup (B7 xs lo hi)) S
 | .cl xs=>∀p,S p=none->Q (.ref p) (Bc S p (.lst (B7 xs lo hi)))
 | .str z=>z.length<=sizeLine/\Q (.str (Txt.slice z lo hi)) S
 | .ref a=>match S a with|some (.lst xs)=>∀p,S p=none->Q (.ref p) (Bc S p (.lst (B7 xs lo hi)))|_=>False
 |_=>False
noncomputable def AX(X:Cx):V->Option Int->Option Int->Hp->VK->Prop:=fun x lo hi H Q=>∃px S Q3,Rep X.K H x px/\Bl X.K H S/\j5 px lo hi S Q3/\Eu X.K H Q3 Q
def AY:xI X (AX X):=by
 intro pins s σ H x v vl vu lo hi sl Q I rx hs pl pu ⟨px,S,Q3,r1,rS,q,k⟩
 unfold j5 at q
 split at q
 ·cases r1 with
  |tup h1 rs=>exact t9 pins s σ H _ v vl vu lo hi sl Q I rx hs pl pu ⟨_,_,rfl,h1,fun r H' hh hr=>k _ S _ H' q (.tup hr ((rs.cut lo hi).mono (.same hh))) (rS.grow hh) (.same hh)⟩
 ·cases r1 with
  |cl h1 rs=>exact oi pins s σ H _ v vl vu lo hi sl Q I rx hs pl pu ⟨_,_,rfl,h1.sq,fun p hp=>k _ _ _ _ (q p (rS.free hp)) (.ref p) (rS.new hp ⟨_,ar,(rs.cut lo hi).mono (.new hp)⟩) (.new hp)⟩
 ·cases r1
  exact wE pins s σ H _ v vl vu lo hi sl Q I rx hs pl pu ⟨_,rfl,q.1,k _ S _ H q.2 (.str _) rS .refl⟩
 ·split at q
  ·rename_i e
   cases r1
   obtain⟨vs,hv,rs⟩:=rS _ _ e
   exact oi pins s σ H _ v vl vu lo hi sl Q I rx hs pl pu ⟨_,_,rfl,SqL.of hv,fun p hp=>k _ _ _ _ (q p (rS.free hp)) (.ref p) (rS.new hp ⟨_,ar,(rs.cut lo hi).mono (.new hp)⟩) (.new hp)⟩
  ·exact q.elim
 ·exact q.elim
def bd(te:aN)(tl th:xL):aN:=fun σ S Q E=>te σ S (fun x S1=>tl σ S1 (fun l S2=>th σ S2 (fun u S3=>j5 x l u S3 Q) E) E) E
def bD{lo hi:Option Expr}{tl th:xL}(he:aY X e te)(hl:zG X lo tl)(hu:zG X hi th):aY X (.Subscript e (.Slice lo hi none p2) pos) (bd te tl th):=
 ⟨aK (qG AY he.ok hl.ok hu.ok) fun σ H Q ⟨σ3,S,Q3,E3,rσ,rS,h,xo,k⟩=>⟨σ3,S,_,E3,rσ,rS,h,xo,fun x S1 v H1 h1 rx Bn g1=>⟨σ3,S1,_,E3,rσ.mono g1,Bn,h1,xo.mono g1,fun l S2 H2 h2 CU g2=>
  ⟨σ3,S2,_,E3,rσ.mono (g1.trans g2),CU,h2,xo.mono (g1.trans g2),fun u S3 H3 h3 Em g3=>⟨x,S3,Q3,rx.mono (g2.trans g3),Em,h3,k.mono (g1.trans (g2.trans g3))⟩⟩⟩⟩⟩
def ua:fE X (binaryOp .Mult) (rI IntMulOk fun i j=>.int (i * j)):=zC fun _ _ _ _ _ _ _ hc q=>PyProof.Rows.mul_int q hc
def gq:R3:=fun x y S Q=>match x,y with
 | .int i,.int j=>IntMulOk i j/\Q (.int (i * j)) S
 | .ref a,.int j=>(match S a with|some (.lst xs)=>-(2 ^ 63)<=j/\j < 2 ^ 63/\xs.length * j.toNat<=sizeLine/\∀p,S p=none->Q (.ref p) (Bc S p (.lst (List.replicate j.toNat xs).flatten))|_=>False)
 |_,_=>False
theorem Reps.rep{K:Vo}{H:Hp}{vs:List V}{ps:List PV}(r:Reps K H vs ps):∀n:Nat,Reps K H (List.replicate n vs).flatten (List.replicate n ps).flatten
 |0=>.nil
 |n+1=>by
  rw[List.replicate_succ,List.replicate_succ,List.flatten_cons,List.flatten_cons]
  exact r.append (Reps.rep r n)
def eO:fN X (binaryOp .Mult) gq:=⟨fun pins s σ H x y v u Q I rx ry ⟨px,py,S,Q3,r1,r2,rS,q,k⟩=>by
 unfold gq at q
 split at q
 ·cases r1;cases r2
  exact ua pins s σ H _ _ v u Q I rx ry ⟨_,_,rfl,rfl,q.1,k _ S _ H q.2 (.int _) rS .refl⟩
 ·split at q
  ·rename_i e
   cases r1;cases r2
   obtain⟨vs,hv,rs⟩:=rS _ _ e
   exact ww pins s σ H _ _ v u Q I rx ry ⟨_,_,_,rfl,rfl,hv,q.1,q.2.1,by rw[rs.length];exact q.2.2.1,fun p hp=>k _ _ _ _ (q.2.2.2 p (rS.free hp)) (.ref p) (rS.new hp ⟨_,ar,(rs.rep _).mono (.new hp)⟩) (.new hp)⟩
  ·exact q.elim
 ·exact q.elim⟩
end
end L3
namespace L2
open PySem PySem.Spec PyProof.Rows
section
variable {X:Cx}
def m_{pins:Va}{σ:St}{H:Hp}{s:Shared}{x:Value}{t:Value}{p:Heap->Prop}{vs:List V}{tp:Addr}{b:Bool}{Q:Vq}{E:Vq}(I:Inv X pins σ H s)(Z:PySem.W.KitX X.K x t p)(hp:p s.heap)(hx:x ≠ .builtin "__main__.__loader__#opaque")
  (ht:Cj X.K H tp vs) (e:∀its,Vals vs its->PySem.W.kitAny X.K t its=some b) (h:∀tk,Q (.bool b) { s with toks:=tk }):wpAny (model X.prog X.w) X.A (call (.builtin "isinstance") [x,.ref tp]) Q E s:=by
 obtain⟨its,rv,⟨⟨cls,dd,data,sl⟩,ho,hc,n,hd⟩,hz⟩:=I.tuple ht
 simp only at hc hd
 subst hc hd
 exact PySem.W.kia_tup Z I.Ey hp ho (e its rv) hx h
end
end L2
namespace L3
open PySem L2
abbrev ng:=List PV->av->ce->Prop
section
variable {X:Cx} {e o:Expr} {es:List Expr} {te to:aN} {ts:List aN} {x:Str} {p pos apos cpos:Pos}
noncomputable def LC(X:Cx)(r:ng):List V->Hp->VK->Prop:=fun xs H Q=>∃ps S Q3,Reps X.K H xs ps/\Bl X.K H S/\r ps S Q3/\Eu X.K H Q3 Q
structure eP (X:Cx) (f:Value) (r:ng):Prop where
 ok:eJ X f (LC X r)
def am(r:ng)(ts:List aN):aN:=fun σ S Q E=>ao ts σ S (fun ps S1=>r ps S1 Q) E
def ou{r:ng}{σ:L2.St}{H:Hp}{Q:VK}:LE X (am r ts) σ H Q->zF (ts.map (LE X)) σ H fun vs H1=>LC X r vs H1 Q:=fun⟨σ3,S,Q3,E3,rσ,rS,h,xo,k⟩=>
 bL rσ rS h xo fun ps S' vs H' hl q rv CQ g=>⟨ps,S',Q3,rv,CQ,q,k.mono g⟩
def ub{id:String}{r:ng}(hc:eP X (.builtin id) r)(hg:Gl X x)(hm:X.mg x=none)(hv:bootBuiltins x=some (.builtin id))(he:starEach (e::es) X.env=(false,eval e X.env)::starEach es X.env)(ha:i7 X (e::es) ts)
  (hn:x ≠ "__name__":=by decide) (hdb:(x == ("__debug__":Str))=false:=by decide) (hpl:(backTo pos (starEach es X.env)).any (·.1)=false:=by rfl):aY X (.Call (.Name x p) (e::es) [] pos) (am r ts):=
 ⟨aK (qE hc.ok hg hm hv ha.ok hn hdb he hpl) fun _ _ _=>ou⟩
def uc{id:String}{r:ng}(hc:eP X (.type id) r)(hg:Gl X x)(hm:X.mg x=none)(hv:bootBuiltins x=some (.type id))(he:starEach (e::es) X.env=(false,eval e X.env)::starEach es X.env)(ha:i7 X (e::es) ts)
  (hn:x ≠ "__name__":=by decide) (hdb:(x == ("__debug__":Str))=false:=by decide) (hpl:(backTo pos (starEach es X.env)).any (·.1)=false:=by rfl):aY X (.Call (.Name x p) (e::es) [] pos) (am r ts):=
 ⟨aK (o0 hc.ok hg hm hv ha.ok hn hdb he hpl) fun _ _ _=>ou⟩
def bw:ng:=fun ps S Q=>match ps with
 |[.tup xs]=>Q (.int xs.length) S
 |[.cl xs]=>Q (.int xs.length) S
 |[.str z]=>z.length<=sizeLine/\Q (.int z.length) S
 |[.ref a]=>(match S a with|some (.lst xs)=>Q (.int xs.length) S|some (.dct kvs)=>Q (.int kvs.length) S|_=>False)
 |_=>False
def bM:eP X (.builtin "len") bw:=⟨fun pins s σ H xs us Q I r ⟨ps,S,Q3,rp,rS,q,k⟩=>by
 unfold bw at q
 split at q
 ·cases rp with|cons a rr=>cases rr;cases a with|tup h rs=>exact dJ pins s σ H _ us Q I r ⟨_,_,rfl,.inr h,by rw[rs.length];exact k _ S _ H q (.int _) rS .refl⟩
 ·cases rp with|cons a rr=>cases rr;cases a with|cl h rs=>exact dJ pins s σ H _ us Q I r ⟨_,_,rfl,.inl h.sq,by rw[rs.length];exact k _ S _ H q (.int _) rS .refl⟩
 ·cases rp with|cons a rr=>cases rr;cases a;exact kU pins s σ H _ us Q I r ⟨_,rfl,q.1,k _ S _ H q.2 (.int _) rS .refl⟩
 ·cases rp with
  |cons a rr=>
   cases rr;cases a
   split at q
   ·rename_i e
    obtain⟨vs,hv,rs⟩:=rS _ _ e
    exact dJ pins s σ H _ us Q I r ⟨_,_,rfl,.inl (SqL.of hv),by rw[rs.length];exact k _ S _ H q (.int _) rS .refl⟩
   ·rename_i e
    obtain⟨vs,hv,rs⟩:=rS _ _ e
    exact o_ pins s σ H _ us Q I r ⟨_,_,rfl,hv,by rw[rs.length];exact k _ S _ H q (.int _) rS .refl⟩
   ·exact q.elim
 ·exact q.elim⟩
def jy:ng:=fun ps S Q=>match ps with|[.int i,.int j]=>Q (.int (if j > i then j else i)) S|_=>False
def rC(hc:X.calm=true):eP X (.builtin "max") jy:=⟨fun pins s σ H xs us Q I r ⟨ps,S,Q3,rp,rS,q,k⟩=>by
 unfold jy at q
 split at q
 ·cases rp with|cons a rr=>cases rr with|cons b r3=>cases r3;cases a;cases b;exact oY hc pins s σ H _ us Q I r ⟨_,_,rfl,k _ S _ H q (.int _) rS .refl⟩
 ·exact q.elim⟩
def jz:ng:=fun ps S Q=>match ps with|[.int i]=>Q (.int i) S|[.bl b]=>Q (.int (if b then 1 else 0)) S|_=>False
def yM:eP X (.type "int") jz:=⟨fun pins s σ H xs us Q I r ⟨ps,S,Q3,rp,rS,q,k⟩=>by
 unfold jz at q
 split at q
 ·cases rp with|cons a rr=>cases rr;cases a;exact kj pins s σ H _ us Q I r (.inl ⟨_,rfl,k _ S _ H q (.int _) rS .refl⟩)
 ·cases rp with|cons a rr=>cases rr;cases a;exact kj pins s σ H _ us Q I r (.inr ⟨_,rfl,k _ S _ H q (.int _) rS .refl⟩)
 ·exact q.elim⟩
def br:ng:=fun ps S Q=>match ps with
 |[v]=>(match l0 S v with|some xs=>Q (.tup xs) S|none=>False)
 |_=>False
def dL:eP X (.type "tuple") br:=⟨fun pins s σ H xs us Q I r ⟨ps,S,Q3,rp,rS,q,k⟩=>by
 unfold br at q
 split at q
 ·cases rp with
  |cons a rr=>
   cases rr
   split at q
   ·rename_i e
    obtain⟨b,vs,rfl,hs,rs⟩:=wQ rS a e
    rcases hs with hs|hs
    ·exact fF pins s σ H _ us Q I r ⟨_,_,rfl,.inl ⟨hs,fun p hp=>k _ S _ _ q (.tup (Cj.of ar) (rs.mono (.new hp))) (rS.other hp) (.new hp)⟩⟩
    ·exact fF pins s σ H _ us Q I r ⟨_,_,rfl,.inr ⟨hs,k _ S _ _ q (.tup hs rs) rS .refl⟩⟩
   ·exact q.elim
 ·exact q.elim⟩
noncomputable def jA:List PV->Option (List Bool)
 |[]=>some []
 | .bl b::r=>(jA r).map (b::·)
 |_::_=>none
theorem jB{K:Vo}{H:Hp}:∀{vs:List V} {ps:List PV} {bs:List Bool},Reps K H vs ps->jA ps=some bs->vs=bs.map V.bl
 |_,_,_,.nil,h=>by cases h;rfl
 |_,_,bs,.cons (p:=p) a r,h=>by
  cases p with
  |bl b=>
   cases a
   unfold jA at h
   cases e:jA _ with
   |none=>rw[e]at h;cases h
   |some l=>rw[e]at h;cases h;rw[jB r e];rfl
  |_=>cases h
def ud:ng:=fun ps S Q=>match ps with
 |[.ref a]=>(match S a with|some (.lst xs)=>(match jA xs with|some bs=>Q (.bl (bs.all id)) S|none=>False)|_=>False)
 |_=>False
def yN(hc:X.calm=true):eP X (.builtin "all") ud:=⟨fun pins s σ H xs us Q I r ⟨ps,S,Q3,rp,rS,q,k⟩=>by
 unfold ud at q
 split at q
 ·cases rp with
  |cons a rr=>
   cases rr;cases a
   split at q
   ·rename_i e
    split at q
    ·rename_i eb
     obtain⟨vs,hv,rs⟩:=rS _ _ e
     have e2:=jB rs eb
     subst e2
     exact pp hc pins s σ H _ us Q I r ⟨_,_,rfl,SqL.of hv,k _ S _ H q (.bl _) rS .refl⟩
    ·exact q.elim
   ·exact q.elim
 ·exact q.elim⟩
end
noncomputable def j6(t c:String):Bool:=t == c || (t == "bool" && c == "int")
noncomputable def qk(S:av):PV->Option String
 | .non=>some "NoneType"
 | .bl _=>some "bool"
 | .int _=>some "int"
 | .str _=>some "str"
 | .tup _=>some "tuple"
 | .cl _=>some "list"
 | .ref a=>(match S a with|some (.lst _)=>some "list" | some (.dct _)=>some "dict" | _=>none)
 | .ty _=>none
 | .exc _ _ _=>none
 | .cls _=>none
noncomputable def cN(c:String):Bool:=["int","str","bool","tuple","list","dict"].contains c
def rD(K:Vo)(t c:String):PySem.W.kitCls K (.type t) (.type c)=(if PySem.W.kitMeta c=true then (PySem.fastBuiltinMro t).map (·.contains (Value.type c)) else none):=rfl
def ow{K:Vo}{t c:String}(ht:t∈["NoneType","bool","int","str","tuple","list","dict"])(hc:cN c=true):PySem.W.kitOne K (.type t) (.type c)=some (j6 t c):=by
 have hc':c∈["int","str","bool","tuple","list","dict"]:=by
  have:=hc
  unfold cN at this
  simpa using this
 simp only[List.mem_cons,List.not_mem_nil,or_false]at ht hc'
 rcases ht with rfl|rfl|rfl|rfl|rfl|rfl|rfl<;>rcases hc' with rfl|rfl|rfl|rfl|rfl|rfl <;>
  first
   |(unfold PySem.W.kitOne;rw[if_pos (by decide)];rfl)
   |(unfold PySem.W.kitOne;rw[if_neg (by decide),rD];decide +kernel)
def rE{S:av}{p:PV}{t:String}(h:qk S p=some t):t∈["NoneType","bool","int","str","tuple","list","dict"]:=by
 unfold qk at h
 split at h<;>first|(cases h;decide)|(split at h<;>first|(cases h;decide)|cases h)|cases h
section
variable {X:Cx}
noncomputable def yO:List PV->Option (List String)
 |[]=>some []
 | .ty c::r=>if cN c then (yO r).map (c::·) else none
 |_::_=>none
def fO:ng:=fun ps S Q=>match ps with
 |[x,.ty c]=>(match qk S x with|some t=>cN c=true/\Q (.bl (j6 t c)) S|none=>False)
 |[x,.tup cs]=>(match qk S x,yO cs with|some t,some l=>Q (.bl (l.any (j6 t))) S|_,_=>False)
 |_=>False
def ue{K:Vo}{H:Hp}{t:String}(ht:t∈["NoneType","bool","int","str","tuple","list","dict"]):∀(cs:List PV) {l:List String} {vs:List V} {its:Vv},yO cs=some l->Reps K H vs cs->Vals vs its->PySem.W.kitAny K (.type t) its=some (l.any (j6 t)):=by
 intro cs
 induction cs with
 |nil=>intro l vs its h rs r;cases h;cases rs;cases r;rfl
 |cons p cs ih=>
  intro l vs its h rs r
  cases p with
  |ty c=>
   unfold yO at h
   split at h
   ·rename_i hc
    cases e:yO cs with
    |none=>rw[e]at h;cases h
    |some l'=>
     rw[e]at h
     cases h
     cases rs with
     |cons a rs=>
      cases a
      cases r with
      |@cons _ u _ us r1 r2=>
       cases (show u=Value.type c from r1)
       show(match PySem.W.kitOne K (.type t) (.type c)with|some true=>some true|some false=>PySem.W.kitAny K (.type t) us|none=>none)=_
       rw[ow ht hc,List.any_cons]
       cases j6 t c with
       |true=>rfl
       |false=>exact ih e rs r2
   ·cases h
  |_=>cases h
def kB:eP X (.builtin "isinstance") fO:=⟨fun pins s σ H xs us Q I r ⟨ps,S,Q3,rp,rS,q,k⟩=>by
 have main:∀{v:PV} {x:V} {u:Value} {t:String},Rep X.K H x v->RelV x u->qk S v=some t->∃(h:Heap->Prop),PySem.W.KitX X.K u (.type t) h/\h s.heap/\u ≠ .builtin "__main__.__loader__#opaque":=by
  intro v x u t rv rx ht
  cases rv with
  |non=>cases ht;cases rx;exact⟨_,PySem.W.kitx_none,True.intro,fun z=>nomatch z⟩
  |bl b=>cases ht;cases rx;exact⟨_,PySem.W.kitx_bool,True.intro,fun z=>nomatch z⟩
  |int b=>cases ht;obtain⟨t,rfl⟩:=rx;exact⟨_,PySem.W.kitx_int,True.intro,fun z=>nomatch z⟩
  |str b=>cases ht;obtain⟨t,rfl⟩:=rx;exact⟨_,PySem.W.kitx_str,True.intro,fun z=>nomatch z⟩
  |ty b=>cases ht
  |exc _ _ _=>cases ht
  |cls _=>cases ht
  |tup h rs=>
   cases ht;cases rx
   obtain⟨its,_,⟨o,ho,hc,_⟩,_⟩:=I.tuple h
   exact⟨_,PySem.W.kitx_tuple,⟨o,ho,hc⟩,fun z=>nomatch z⟩
  |cl h rs=>
   cases ht;cases rx
   obtain⟨its,_,⟨o,n,ho,hc,_⟩,_⟩:=I.list h.sq
   exact⟨_,PySem.W.kitx_list,⟨o,ho,hc⟩,fun z=>nomatch z⟩
  |ref a=>
   cases rx
   unfold qk at ht
   simp only at ht
   split at ht
   ·rename_i e
    cases ht
    obtain⟨vs,hv,_⟩:=rS _ _ e
    obtain⟨its,_,⟨o,n,ho,hc,_⟩,_⟩:=I.list (SqL.of hv)
    exact⟨_,PySem.W.kitx_list,⟨o,ho,hc⟩,fun z=>nomatch z⟩
   ·rename_i e
    cases ht
    obtain⟨vs,hv,_⟩:=rS _ _ e
    obtain⟨_,_,vs',_,p⟩:=(show ObjOk X.prog X.w H s.heap _ (.dK vs)from I.hok _ _ hv)
    obtain⟨o,es,ep,h1,h2,_⟩:=p
    exact⟨_,PySem.W.kitx_dict,⟨o,h1,h2.1⟩,fun z=>nomatch z⟩
   ·cases ht
 unfold fO at q
 split at q
 ·split at q
  ·rename_i ht
   cases rp with
   |cons a rr=>
    cases rr with
    |cons b r3=>
     cases r3;cases b
     cases r with
     |cons r1 r2=>
      cases r2 with
      |cons r4 r5=>
       cases r5
       cases (show _=Value.type _ from r4)
       obtain⟨h,Z,hp,hx⟩:=main a r1 ht
       exact PySem.W.kia_one Z I.Ey hp (ow (rE ht) q.1) hx fun tk=>⟨.bl _,H,I.tok _,rfl,k _ S _ H q.2 (.bl _) rS .refl⟩
  ·exact q.elim
 ·split at q
  ·rename_i ht hl
   cases rp with
   |cons a rr=>
    cases rr with
    |cons b r3=>
     cases r3
     cases b with
     |tup h1 rs=>
      cases r with
      |cons r1 r2=>
       cases r2 with
       |cons r4 r5=>
        cases r5
        cases r4
        obtain⟨h,Z,hp,hx⟩:=main a r1 ht
        exact m_ I Z hp hx h1 (fun its rv=>ue (rE ht) _ hl rs rv) fun tk=>⟨.bl _,H,I.tok _,rfl,k _ S _ H q (.bl _) rS .refl⟩
  ·exact q.elim
 ·exact q.elim⟩
end
abbrev mH:=PV->List PV->av->ce->Prop
section
variable {X:Cx} {e o:Expr} {es:List Expr} {te to:aN} {ts:List aN} {name:Str} {p pos apos cpos:Pos} {T id:String}
noncomputable def LM(X:Cx)(r:mH):V->List V->Hp->VK->Prop:=fun x xs H Q=>∃px ps S Q3,Rep X.K H x px/\Reps X.K H xs ps/\Bl X.K H S/\r px ps S Q3/\Eu X.K H Q3 Q
structure pG (X:Cx) (id:String) (r:mH):Prop where
 ok:wk X id (LM X r)
def mI(T:String)(x:PV)(S:av):Prop:=match x with
 | .str _=>T = "str"
 | .ref a=>(match S a with|some (.lst _)=>T = "list" | some (.dct _)=>T = "dict" | _=>False)
 | .cl _=>T = "list"
 |_=>False
def rF{H:Hp}{S:av}{v:V}{p:PV}(rS:Bl X.K H S)(r:Rep X.K H v p)(h:mI T p S):zD X.K T v H:=by
 cases r with
 |str x=>exact h
 |ref a=>
  unfold mI at h
  simp only at h
  split at h
  ·rename_i e
   obtain⟨vs,hv,_⟩:=rS _ _ e
   exact .inl ⟨h,_,SqL.of hv⟩
  ·rename_i e
   obtain⟨vs,hv,_⟩:=rS _ _ e
   exact .inr (.inr (.inl ⟨h,.inl ⟨_,hv⟩⟩))
  ·exact h.elim
 |cl h1 _=>exact .inl ⟨h,_,h1.sq⟩
 |_=>exact h.elim
def eF(T:String)(r:mH)(to:aN)(ts:List aN):aN:=fun σ S Q E=>to σ S (fun x S1=>mI T x S1/\ao ts σ S1 (fun ps S2=>r x ps S2 Q) E) E
def Ai{r:mH}(pa:PlainAttrs T)(slot:Slot T name id)(hty:typeOf (.builtin id)=pure (.type "method_descriptor"))(hm:pG X id r)(hs:starEach (e::es) X.env=(false,eval e X.env)::starEach es X.env)(ho:aY X o to)(ha:i7 X (e::es) ts)
  (hbase:attributeBase o name X.env (eval o X.env)=eval o X.env:=by rfl)
  (hfew:((backTo cpos (starEach (e::es) X.env)).all (fun x=>!x.1)&&(backToKw cpos (keywordEach [] X.env)).all (fun x=>x.1.isSome)
   && decide ((e::es).length+([]:List Keyword).length+(if ([]:List Keyword).isEmpty then 0 else 1) < 30))=true:=by rfl)
  (hline:(apos.endLine == cpos.line)=true:=by rfl) (hplain:(backTo cpos (starEach es X.env)).any (·.1)=false:=by rfl):aY X (.Call (.Attribute o name apos) (e::es) [] cpos) (eF T r to ts):=
 ⟨aK (yv pa slot hty hm.ok ho.ok ha.ok hbase hfew hline hs hplain) fun σ H Q ⟨σ3,S,Q3,E3,rσ,rS,h,xo,k⟩=>⟨σ3,S,_,E3,rσ,rS,h,xo,fun x S1 v H1 h1 rx Bn g1=>
  ⟨rF Bn rx h1.1,bL (rσ.mono g1) Bn h1.2 (xo.mono g1) fun ps S2 vs H2 hl q rv CU g2=>⟨x,ps,S2,Q3,rx.mono g2,rv,CU,q,k.mono (g1.trans g2)⟩⟩⟩⟩
def yP{r:mH}(pa:PlainAttrs T)(slot:Slot T name id)(hty:typeOf (.builtin id)=pure (.type "method_descriptor"))(hm:pG X id r)(ho:aY X o to)
  (hbase:attributeBase o name X.env (eval o X.env)=eval o X.env:=by rfl) (hline:(apos.endLine == cpos.line)=true:=by rfl):aY X (.Call (.Attribute o name apos) [] [] cpos) (eF T r to []):=
 ⟨aK (wo pa slot hty hm.ok ho.ok hbase hline) fun σ H Q ⟨σ3,S,Q3,E3,rσ,rS,h,xo,k⟩=>⟨σ3,S,_,E3,rσ,rS,h,xo,fun x S1 v H1 h1 rx Bn g1=>
  ⟨rF Bn rx h1.1,⟨x,[],S1,Q3,rx,.nil,Bn,h1.2,k.mono g1⟩⟩⟩⟩
def bh:mH:=fun x ps S Q=>match x,ps with
 | .ref a,[y]=>(match S a with|some (.lst xs)=>xs.length < sizeLine/\Q .non (Bc S a (.lst (xs++[y])))|_=>False)
 |_,_=>False
def cJ:pG X "list.append" bh:=⟨fun pins s σ H x xs v us Q I rx rs ⟨px,ps,S,Q3,r1,rp,rS,q,k⟩=>by
 unfold bh at q
 split at q
 ·split at q
  ·rename_i e
   cases r1
   cases rp with
   |cons b rr=>
    cases rr
    obtain⟨vs,hv,rl⟩:=rS _ _ e
    exact o4 pins s σ H _ _ v us Q I rx rs ⟨_,_,_,rfl,rfl,hv,by rw[rl.length];exact q.1,k _ _ _ _ q.2 .non (rS.put hv trivial ⟨_,ar,(rl.append (.cons b .nil)).mono (.mut hv trivial)⟩) (.mut hv trivial)⟩
  ·exact q.elim
 ·exact q.elim⟩
def bt:mH:=fun x ps S Q=>match x,ps with
 | .ref a,[.ref b]=>(match S a,S b with|some (.lst xs),some (.lst ys)=>xs.length+ys.length<=sizeLine/\Q .non (Bc S a (.lst (xs++ys)))|_,_=>False)
 |_,_=>False
def gr:pG X "list.extend" bt:=⟨fun pins s σ H x xs v us Q I rx rs ⟨px,ps,S,Q3,r1,rp,rS,q,k⟩=>by
 unfold bt at q
 split at q
 ·split at q
  ·rename_i e e2
   cases r1
   cases rp with
   |cons b rr=>
    cases rr
    cases b
    obtain⟨vs,hv,rl⟩:=rS _ _ e
    obtain⟨us',hu,ru⟩:=rS _ _ e2
    exact o5 pins s σ H _ _ v us Q I rx rs ⟨_,_,_,_,rfl,rfl,hv,hu,by rw[rl.length,ru.length];exact q.1,k _ _ _ _ q.2 .non (rS.put hv trivial ⟨_,ar,(rl.append ru).mono (.mut hv trivial)⟩) (.mut hv trivial)⟩
  ·exact q.elim
 ·exact q.elim⟩
def l4:mH:=fun x ps S Q=>match x,ps with
 | .ref a,[]=>(match S a with|some (.lst xs)=>(match xs[xs.length - 1]? with|some y=>Q y (Bc S a (.lst xs.dropLast))|none=>False)|_=>False)
 | .ref a,[.int i]=>(match S a with|some (.lst xs)=>-(2 ^ 63)<=i/\i < 2 ^ 63/\(match seqIndex? i xs.length with|some j=>(match xs[j]? with|some y=>Q y (Bc S a (.lst (xs.eraseIdx j)))|none=>False)|none=>False)|_=>False)
 |_,_=>False
def vm:pG X "list.pop" l4:=⟨fun pins s σ H x xs v us Q I rx rs ⟨px,ps,S,Q3,r1,rp,rS,q,k⟩=>by
 unfold l4 at q
 split at q
 ·split at q
  ·rename_i e
   split at q
   ·rename_i ey
    cases r1
    cases rp
    obtain⟨vs,hv,rl⟩:=rS _ _ e
    rw[<-rl.length]at ey
    obtain⟨y',G3,ry⟩:=rl.get ey
    exact wq pins s σ H _ _ v us Q I rx rs ⟨_,_,_,rfl,rfl,hv,G3,k _ _ _ _ q (ry.mono (.mut hv trivial)) (rS.put hv trivial ⟨_,ar,rl.dropLast.mono (.mut hv trivial)⟩) (.mut hv trivial)⟩
   ·exact q.elim
  ·exact q.elim
 ·split at q
  ·rename_i e
   obtain⟨h1,h2,q⟩:=q
   split at q
   ·rename_i ej
    split at q
    ·rename_i ey
     cases r1
     cases rp with
     |cons b rr=>
      cases rr;cases b
      obtain⟨vs,hv,rl⟩:=rS _ _ e
      obtain⟨y',G3,ry⟩:=rl.get ey
      rw[<-rl.length]at ej
      exact qJ pins s σ H _ _ v us Q I rx rs ⟨_,_,_,_,_,rfl,rfl,hv,h1,h2,ej,G3,k _ _ _ _ q (ry.mono (.mut hv trivial)) (rS.put hv trivial ⟨_,ar,(rl.eraseIdx _).mono (.mut hv trivial)⟩) (.mut hv trivial)⟩
    ·exact q.elim
   ·exact q.elim
  ·exact q.elim
 ·exact q.elim⟩
def lh:mH:=fun x ps S Q=>match x,ps with
 | .ref a,[]=>(match S a with|some (.lst xs)=>Q .non (Bc S a (.lst []))|_=>False)
 |_,_=>False
def uf:pG X "list.clear" lh:=⟨fun pins s σ H x xs v us Q I rx rs ⟨px,ps,S,Q3,r1,rp,rS,q,k⟩=>by
 unfold lh at q
 split at q
 ·split at q
  ·rename_i e
   cases r1;cases rp
   obtain⟨vs,hv,rl⟩:=rS _ _ e
   exact qK pins s σ H _ _ v us Q I rx rs ⟨_,_,rfl,rfl,hv,k _ _ _ _ q .non (rS.put hv trivial ⟨_,ar,.nil⟩) (.mut hv trivial)⟩
  ·exact q.elim
 ·exact q.elim⟩
noncomputable def texts:List PV->Option (List Str)
 |[]=>some []
 | .str b::r=>(texts r).map (b::·)
 |_::_=>none
theorem dM{K:Vo}{H:Hp}:∀{vs:List V} {ps:List PV} {bs:Vs},Reps K H vs ps->texts ps=some bs->vs=bs.map V.str
 |_,_,_,.nil,h=>by cases h;rfl
 |_,_,bs,.cons (p:=p) a r,h=>by
  cases p with
  |str b=>
   cases a
   unfold texts at h
   cases e:texts _ with
   |none=>rw[e]at h;cases h
   |some l=>rw[e]at h;cases h;rw[dM r e];rfl
  |_=>cases h
def kC:mH:=fun x ps S Q=>match x,ps with
 | .str z,[.ref a]=>(match S a with|some (.lst xs)=>(match texts xs with|some ys=>(ys.map (·.length)).sum+ys.length * z.length<=1000000/\Q (.str (Txt.join z ys)) S|none=>False)|_=>False)
 |_,_=>False
def rG:pG X "str.join" kC:=⟨fun pins s σ H x xs v us Q I rx rs ⟨px,ps,S,Q3,r1,rp,rS,q,k⟩=>by
 unfold kC at q
 split at q
 ·split at q
  ·rename_i e
   split at q
   ·rename_i et
    cases r1
    cases rp with
    |cons b rr=>
     cases rr;cases b
     obtain⟨vs,hv,rl⟩:=rS _ _ e
     have e2:=dM rl et
     subst e2
     exact tX pins s σ H _ _ v us Q I rx rs ⟨_,_,_,rfl,rfl,SqL.of hv,q.1,k _ S _ H q.2 (.str _) rS .refl⟩
   ·exact q.elim
  ·exact q.elim
 ·exact q.elim⟩
def hW:mH:=fun x ps S Q=>match x,ps with
 | .str a,[.str b]=>(match Builtin.Str.occurrences a b 0 a.length 1 with|i::_=>Q (.int i) S|[]=>False)
 |_,_=>False
def ug:pG X "str.index" hW:=⟨fun pins s σ H x xs v us Q I rx rs ⟨px,ps,S,Q3,r1,rp,rS,q,k⟩=>by
 unfold hW at q
 split at q
 ·split at q
  ·rename_i e
   cases r1
   cases rp with
   |cons b rr=>
    cases rr;cases b
    exact qV pins s σ H _ _ v us Q I rx rs ⟨_,_,_,_,rfl,rfl,e,k _ S _ H q (.int _) rS .refl⟩
  ·exact q.elim
 ·exact q.elim⟩
end
section
variable {X:Cx} {e c:Expr} {te:aN} {st:Stmt} {rest a b:List Stmt} {t u:bG} {tc:gW} {pos:Pos}
def aO:bG:=fun D σ S=>D.nx σ S
def af(t u:bG):bG:=fun D σ S=>t { D with nx:=u D } σ S
def aE:hG X [] aO:=⟨oo sY fun D σ H ⟨σ3,S,D3,rσ,rS,h,xo,n,r,bk,ct⟩=>n σ3 S σ H h rσ rS .refl⟩
def ab(h1:mZ X st t)(h2:hG X rest u):hG X (st::rest) (af t u):=
 ⟨oo (qr h1.ok h2.ok) fun D σ H ⟨σ3,S,D3,rσ,rS,h,xo,n,r,bk,ct⟩=>⟨σ3,S,{ D3 with nx:=u D3 },rσ,rS,h,xo,fun σ4 S' σ' H' h' EM CQ g=>⟨σ4,S',D3,EM,CQ,h',xo.mono g,n.mono g,r.mono g,bk.mono g,ct.mono g⟩,r,bk,ct⟩⟩
def ak(h1:mZ X st t):hG X [st] t:=⟨sZ h1.ok⟩
def aW(te:aN):bG:=fun D σ S=>te σ S (fun _ S1=>D.nx σ S1) D.ex
def bx(he:aY X e te)(hs:swapsWith e none pos.line X.env=pure false:=by rfl):mZ X (.Expr e pos) (aW te):=
 ⟨cG (s9 he.ok hs) fun D σ H ⟨σ3,S,D3,rσ,rS,h,xo,n,r,bk,ct⟩=>⟨σ3,S,_,D3.ex,rσ,rS,h,xo,fun p S1 v H1 h1 rv Bn g1=>n σ3 S1 σ H1 h1 (rσ.mono g1) Bn g1⟩⟩
def az(te:aN):bG:=fun D σ S=>te σ S D.rt D.ex
def aq(he:aY X e te):mZ X (.Return (some e) pos) (az te):=
 ⟨cG (vT he.ok) fun D σ H ⟨σ3,S,D3,rσ,rS,h,xo,n,r,bk,ct⟩=>⟨σ3,S,D3.rt,D3.ex,rσ,rS,h,xo,r⟩⟩
def bq(c:gW)(t u:bG):bG:=fun D σ S=>c σ S (fun b S1=>if b=true then t D σ S1 else u D σ S1) D.ex
def aZ(hc:mG X c tc)(ha:hG X a t)(hb:hG X b u):mZ X (.If c a b pos) (bq tc t u):=
 ⟨cG (x_ hc.ok ha.ok hb.ok) fun D σ H ⟨σ3,S,D3,rσ,rS,h,xo,n,r,bk,ct⟩=>⟨σ3,S,_,D3.ex,rσ,rS,h,xo,fun z S1 H1 h1 Bn g1=>by
  cases z with
  |true=>rw[if_pos rfl]at h1 ⊢;exact⟨σ3,S1,D3,rσ.mono g1,Bn,h1,xo.mono g1,n.mono g1,r.mono g1,bk.mono g1,ct.mono g1⟩
  |false=>rw[if_neg (by decide)]at h1 ⊢;exact⟨σ3,S1,D3,rσ.mono g1,Bn,h1,xo.mono g1,n.mono g1,r.mono g1,bk.mono g1,ct.mono g1⟩⟩⟩
def au(i:Nat)(te:aN):bG:=fun D σ S=>te σ S (fun v S1=>D.nx (σ.set i (some v)) S1) D.ex
def rH{i:Nat}{D:mM}{σ:L2.St}{H:Hp}:LS X (au i te) D σ H->tq (LE X te) (lO i) D σ H:=fun⟨σ3,S,D3,rσ,rS,h,xo,n,r,bk,ct⟩=>
 ⟨σ3,S,_,D3.ex,rσ,rS,h,xo,fun p S1 v H1 h1 rv Bn g1=>n _ S1 _ H1 h1 ((rσ.mono g1).set rv i) Bn g1⟩
def yQ{i:Nat}{x:Str}{pos':Pos}(hN:X.N.Nodup)(hi:X.N[i]?=some x)(hx:u6 X.env.scope x)(he:aY X e te)(hs:swapsWith e (some (.Name x pos')) pos.line X.env=pure false:=by rfl)
  (hf:X.fn x=true\/X.env.scope.names.lookup x=some .local:=by first|exact .inl rfl|exact .inr rfl|assumption):mZ X (.Assign [.Name x pos'] e pos) (au i te):=⟨cG (vX hN hi hx he.ok hs hf) fun _ _ _=>rH⟩
def pH(i j:Nat)(ta tb:aN):bG:=fun D σ S=>ta σ S (fun v S1=>tb σ S1 (fun w S2=>D.nx ((σ.set i (some v)).set j (some w)) S2) D.ex) D.ex
def vn{i j:Nat}{x y:Str}{a b:Expr}{ta tb:aN}{px py pt:Pos}{kt k2 Fn}(hc:X.calm=true)(hN:X.N.Nodup)(hi:X.N[i]?=some x)(hj:X.N[j]?=some y)(hij:i≠j)
  (hx:X.env.scope.names.lookup x=some .local) (hy:X.env.scope.names.lookup y=some .local) (ha:i7 X [a,b] [ta,tb])
  (hw:swappedStores [.Tuple [.Name x px,.Name y py] kt pt] (.Tuple [a,b] k2 Fn) X.env=pure (some [x,y]):=by rfl)
  (hs:swapsWithSole [.Tuple [.Name x px,.Name y py] kt pt] (.Tuple [a,b] k2 Fn) pos.line X.env=pure false:=by rfl) :
  mZ X (.Assign [.Tuple [.Name x px,.Name y py] kt pt] (.Tuple [a,b] k2 Fn) pos) (pH i j ta tb):=
 ⟨cG (vY hc hN hi hj hij hx hy ha.ok hw hs) fun D σ H ⟨σ3,S,D3,rσ,rS,h,xo,n,r,bk,ct⟩=>
  ⟨σ3,S,_,D3.ex,rσ,rS,h,xo,fun v S1 v' H1 h1 rv Bn g1=>⟨σ3,S1,_,D3.ex,rσ.mono g1,Bn,h1,xo.mono g1,fun w S2 w' H2 h2 rw' CU g2=>
   ⟨v',w',rfl,n _ S2 _ H2 h2 (((rσ.mono (g1.trans g2)).set (rv.mono g2) i).set rw' j) CU (g1.trans g2)⟩⟩⟩⟩
def jC(i j k:Nat)(te:aN):bG:=fun D σ S=>te σ S (fun p S1=>match p with | .tup [v,w,u]=>D.nx (((σ.set k (some u)).set j (some w)).set i (some v)) S1|_=>False) D.ex
def uh{i j k:Nat}{x y z:Str}{px py pz pt:Pos}{kt:Nat}(hc:X.calm=true)(hN:X.N.Nodup)(hi:X.N[i]?=some x)(hj:X.N[j]?=some y)(hk:X.N[k]?=some z)
  (hx:X.env.scope.names.lookup x=some .local) (hy:X.env.scope.names.lookup y=some .local) (hz:X.env.scope.names.lookup z=some .local) (he:aY X e te)
  (hw:swappedStores [.Tuple [.Name x px,.Name y py,.Name z pz] kt pt] e X.env=pure (some [x,y,z]):=by rfl)
  (hs:swapsWithSole [.Tuple [.Name x px,.Name y py,.Name z pz] kt pt] e pos.line X.env=pure false:=by rfl):mZ X (.Assign [.Tuple [.Name x px,.Name y py,.Name z pz] kt pt] e pos) (jC i j k te):=
 ⟨cG (qW hc hN hi hj hk hx hy hz he.ok hw hs) fun D σ H ⟨σ3,S,D3,rσ,rS,h,xo,n,r,bk,ct⟩=>⟨σ3,S,_,D3.ex,rσ,rS,h,xo,fun p S1 v H1 h1 rv Bn g1=>by
  dsimp only at h1
  split at h1
  ·cases rv with
   |tup hq rs=>
    cases rs with
    |cons r1 rs=>
     cases rs with
     |cons r2 rs=>
      cases rs with
      |cons r3 rs=>
       cases rs
       exact⟨_,_,_,_,rfl,hq,n _ S1 _ H1 h1 ((((rσ.mono g1).set r3 k).set r2 j).set r1 i) Bn g1⟩
  ·exact h1.elim⟩⟩
inductive Tg where
 |n (i:Nat)|tp (l:Tg)|nil|cons (a r:Tg)
mutual
noncomputable def Tg.put:Tg->PV->b3->Option b3
 | .n i,p,σ=>some (σ.set i (some p))
 | .tp l,.tup xs,σ=>l.Bg xs σ
 |_,_,_=>none
noncomputable def Tg.Bg:Tg->List PV->b3->Option b3
 | .nil,[],σ=>some σ
 | .cons a r,x::xs,σ=>(match a.put x σ with|some σ'=>r.Bg xs σ'|none=>none)
 |_,_,_=>none
end
noncomputable def Tg.len:Tg->Nat
 | .cons _ r=>r.len+1
 |_=>0
mutual
noncomputable def Tg.g2(K:Vo):Tg->TG
 | .n i=>lO i
 | .tp l=>yc K l.len (l.E9 K)
 |_=>fun _ _ _ _=>False
noncomputable def Tg.E9(K:Vo):Tg->u7
 | .nil=>yb
 | .cons a r=>u8 (a.g2 K) (r.E9 K)
 |_=>fun _ _ _ _=>False
end
noncomputable def Tg.under(own:Nat):Tg->Bool
 | .n i=>decide (i < own)
 | .tp l=>l.under own
 | .nil=>true
 | .cons a r=>a.under own&&r.under own
theorem Tg.Bq:∀(g:Tg) {ps:List PV} {σ3 σ4:b3},g.Bg ps σ3=some σ4->ps.length=g.len
 | .nil,ps,σ3,σ4,h=>by
  cases ps with
  |nil=>rfl
  |cons _ _=>unfold Tg.Bg at h;cases h
 | .cons a r,ps,σ3,σ4,h=>by
  cases ps with
  |nil=>unfold Tg.Bg at h;cases h
  |cons x xs=>
   unfold Tg.Bg at h
   split at h
   ·rw[List.length_cons,Tg.Bq r h];rfl
   ·cases h
 | .n _,ps,σ3,σ4,h=>by unfold Tg.Bg at h;cases h
 | .tp _,ps,σ3,σ4,h=>by unfold Tg.Bg at h;cases h
mutual
theorem Tg.DD{K:Vo}{H:Hp}{own:Nat}:∀(g:Tg) {v:V} {p:PV} {σ:L2.St} {σ3 σ4:b3} {Q:L2.St->Hp->Prop},Rep K H v p->Bm K H σ σ3->g.put p σ3=some σ4->(∀σ',Bm K H σ' σ4->(g.under own=true->σ'.drop own=σ.drop own)->Q σ' H)->g.g2 K v σ H Q
 | .n i,v,p,σ,σ3,σ4,Q,r,rσ,h,k=>by
  unfold Tg.put at h
  cases h
  unfold Tg.g2
  refine k _ (rσ.set r i) fun hb=>?_
  have hi:i < own:=of_decide_eq_true hb
  rw[List.drop_set]
  rw[if_pos hi]
 | .tp l,v,p,σ,σ3,σ4,Q,r,rσ,h,k=>by
  cases p with
  |tup xs=>
   unfold Tg.put at h
   cases r with
   |tup hq rs=>
    have hg:=Tg.Eg (own:=own) l rs rσ h k
    unfold Tg.g2
    exact⟨_,_,rfl,hq,rs.length.trans (Tg.Bq l h),hg⟩
  |_=>unfold Tg.put at h;cases h
 | .nil,v,p,σ,σ3,σ4,Q,r,rσ,h,k=>by unfold Tg.put at h;cases h
 | .cons _ _,v,p,σ,σ3,σ4,Q,r,rσ,h,k=>by unfold Tg.put at h;cases h
theorem Tg.Eg{K:Vo}{H:Hp}{own:Nat}:∀(g:Tg) {vs:List V} {ps:List PV} {σ:L2.St} {σ3 σ4:b3} {Q:L2.St->Hp->Prop},Reps K H vs ps->Bm K H σ σ3->g.Bg ps σ3=some σ4->(∀σ',Bm K H σ' σ4->(g.under own=true->σ'.drop own=σ.drop own)->Q σ' H)->g.E9 K vs σ H Q
 | .nil,vs,ps,σ,σ3,σ4,Q,r,rσ,h,k=>by
  cases ps with
  |nil=>
   unfold Tg.Bg at h
   cases h
   cases r
   unfold Tg.E9
   exact⟨rfl,k _ rσ fun _=>rfl⟩
  |cons _ _=>unfold Tg.Bg at h;cases h
 | .cons a r',vs,ps,σ,σ3,σ4,Q,r,rσ,h,k=>by
  cases ps with
  |nil=>unfold Tg.Bg at h;cases h
  |cons x xs=>
   unfold Tg.Bg at h
   split at h
   ·rename_i σ5 e5
    cases r with
    |cons r1 r2=>
     unfold Tg.E9
     refine⟨_,_,rfl,Tg.DD (own:=own) a r1 rσ e5 fun σ' EM d1=>Tg.Eg (own:=own) r' r2 EM h fun IM G4 d2=>k IM G4 fun hb=>?_⟩
     have hb':a.under own=true/\r'.under own=true:=by simpa [Tg.under]using hb
     rw[d2 hb'.2,d1 hb'.1]
   ·cases h
 | .n _,vs,ps,σ,σ3,σ4,Q,r,rσ,h,k=>by unfold Tg.Bg at h;cases h
 | .tp _,vs,ps,σ,σ3,σ4,Q,r,rσ,h,k=>by unfold Tg.Bg at h;cases h
end
structure sO (X:Cx) (e:Expr) (g:Tg):Prop where
 ok:PG X e (g.g2 X.K)
structure uk (X:Cx) (es:List Expr) (g:Tg):Prop where
 ok:ya X es (g.E9 X.K)
 len:(assignEach es X.env).length=g.len
def AZ(i:Nat){x:Str}(hN:X.N.Nodup)(hi:X.N[i]?=some x)(hx:u6 X.env.scope x)(hf:X.fn x=true\/X.env.scope.names.lookup x=some .local:=by first|exact .inl rfl|exact .inr rfl|assumption):sO X (.Name x pos) (.n i):=⟨by
 have h:=tj (pos:=pos) hN hi hx hf
 unfold Tg.g2
 exact h⟩
def dC:uk X [] .nil:=⟨by unfold Tg.E9;exact tm,rfl⟩
def aS{es:List Expr}{a r:Tg}(h1:sO X e a)(h2:uk X es r)(hs:(assignEach (e::es) X.env).map (·.2)=assign e X.env::(assignEach es X.env).map (·.2):=by rfl)(hl:(assignEach (e::es) X.env).length=(assignEach es X.env).length+1:=by rfl):uk X (e::es) (.cons a r):=
 ⟨by unfold Tg.E9;exact qu h1.ok h2.ok hs,by rw[hl,h2.len];rfl⟩
def pI{es:List Expr}{k:Nat}{l:Tg}(hc:X.calm=true)(h:uk X es l)(hst:(assignEach es X.env).findIdx? (·.1)=none:=by rfl):sO X (.Tuple es k pos) (.tp l):=⟨by
 have h:=vV (pos:=pos) (k:=k) hc h.ok h.len hst
 unfold Tg.g2
 exact h⟩
def nh(te:aN)(g:Tg):bG:=fun D σ S=>te σ S (fun v S1=>match g.put v σ with|some σ'=>D.nx σ' S1|none=>False) D.ex
def vo{tg:Expr}{g:Tg}(he:aY X e te)(hg:sO X tg g)(hs:swapsWithSole [tg] e pos.line X.env=pure false:=by rfl)(hw:swappedStores [tg] e X.env=pure none:=by rfl)
  (h1:(assignEach [tg] X.env).map (·.2)=[assign tg X.env]:=by rfl):mZ X (.Assign [tg] e pos) (nh te g):=
 ⟨cG (qv he.ok hg.ok hs hw h1) fun D σ H ⟨σ3,S,D3,rσ,rS,h,xo,n,r,bk,ct⟩=>⟨σ3,S,_,D3.ex,rσ,rS,h,xo,fun p S1 v H1 h1 rv Bn g1=>by
  dsimp only at h1
  split at h1
  ·rename_i σ' e'
   exact Tg.DD (own:=0) g rv (rσ.mono g1) e' fun σ2 IN _=>n _ S1 _ H1 h1 IN Bn g1
  ·exact h1.elim⟩⟩
end
noncomputable def hZ{κ:Type} [DecidableEq κ](kvs:List (κ×PV))(k:κ)(v:PV):List (κ×PV):=
 if (kvs.any fun kv=>decide (kv.1=k))=true then kvs.map (fun kv=>if kv.1=k then (kv.1,v) else kv) else kvs++[(k,v)]
theorem Bt.append{K:Vo}{H:Hp}{κ:Type}:∀{vs us:List (κ×V)} {ps qs:List (κ×PV)},Bt K H vs ps->Bt K H us qs->Bt K H (vs++us) (ps++qs)
 |_,_,_,_,.nil,s=>s
 |_,_,_,_,.cons a r,s=>.cons a (Bt.append r s)
def Bt.put{K:Vo}{H:Hp}{κ:Type} [DecidableEq κ]{k:κ}{v:V}{p:PV}(q:Rep K H v p){vs:List (κ×V)}{ps:List (κ×PV)}(r:Bt K H vs ps):Bt K H (eL vs k v) (hZ ps k p):=by
 have e:(vs.any fun kv=>decide (kv.1=k))=(ps.any fun kv=>decide (kv.1=k)):=by rw[jm,r.any]
 unfold eL hZ
 rw[e]
 split
 ·clear e
  rename_i h
  clear h
  induction r with
  |nil=>exact .nil
  |@cons k' v' p' vs' ps' a r ih=>
   rw[List.map_cons,List.map_cons]
   by_cases z:k'=k
   ·rw[if_pos z,if_pos z];exact .cons q ih
   ·rw[if_neg z,if_neg z];exact .cons a ih
 ·exact r.append (.cons q .nil)
def h_(o i v:PV)(S:av)(Q:av->Prop):Prop:=match o with
 | .ref a=>(match S a with
  |some (.lst xs)=>(match i with | .int k=>(match o3 xs.length k with|some j=>Q (Bc S a (.lst (xs.set j v)))|none=>False)|_=>False)
  |some (.dct kvs)=>(match hV i with|some k=>kvs.length < sizeLine/\Q (Bc S a (.dct (hZ kvs k v)))|none=>False)
  |_=>False)
 |_=>False
section
variable {X:Cx} {e o i:Expr} {te to ti:aN} {pos pos':Pos}
noncomputable def Aj(X:Cx):V->V->V->Hp->(Hp->Prop)->Prop:=fun o i v H Q=>∃po pi pv S Q3,Rep X.K H o po/\Rep X.K H i pi/\Rep X.K H v pv/\Bl X.K H S/\h_ po pi pv S Q3/\∀S' H',Q3 S'->Bl X.K H' S'->Grow X.K H H'->Q H'
def wR(hu:X.A.units+1 < cLine):s_ X (Aj X):=by
 intro pins s σ H o i v ov iv u Q I ro ri rv ⟨po,pi,pv,S,Q3,r1,r2,r3,rS,q,k⟩
 unfold h_ at q
 split at q
 ·split at q
  ·rename_i e
   split at q
   ·split at q
    ·rename_i ej
     cases r1;cases r2
     obtain⟨vs,hv,rl⟩:=rS _ _ e
     rw[<-rl.length]at ej
     exact qH pins s σ H _ _ _ ov iv u Q I ro ri rv ⟨_,_,_,_,rfl,rfl,hv,ej,k _ _ q (rS.put hv trivial ⟨_,ar,((rl.set r3 _).mono (.mut hv trivial))⟩) (.mut hv trivial)⟩
    ·exact q.elim
   ·exact q.elim
  ·rename_i e
   split at q
   ·rename_i ek
    cases r1
    have e1:=cn r2 ek
    subst e1
    obtain⟨kv,hv,rk⟩:=rS _ _ e
    exact rA hu pins s σ H _ _ _ ov iv u Q I ro ri rv ⟨_,_,rfl,EA.k hv (by rw[rk.length];exact q.1),k _ _ q.2 (rS.put hv trivial ⟨_,ar,(rk.put r3).mono (.mut hv trivial)⟩) (.mut hv trivial)⟩
   ·exact q.elim
  ·exact q.elim
 ·exact q.elim
def li(te to ti:aN):bG:=fun D σ S=>te σ S (fun v S1=>to σ S1 (fun o S2=>ti σ S2 (fun i S3=>h_ o i v S3 (fun S4=>D.nx σ S4)) D.ex) D.ex) D.ex
def l5(hu:X.A.units+1 < cLine)(he:aY X e te)(ho:aY X o to)(hi:aY X i ti)
  (ha:∀v,assign (.Subscript o i pos') X.env v=(do
   let ov <-holding [v] (eval o X.env)
   let iv <-holding [v,ov] (eval i X.env)
   standAt pos'
   holding [v,ov,iv] (setItem ov iv v)
   release [v,ov,iv] []):=by intro _;rfl)
  (hs:swapsWithSole [.Subscript o i pos'] e pos.line X.env=pure false:=by rfl) (hw:swappedStores [.Subscript o i pos'] e X.env=pure none:=by rfl)
  (h1:(assignEach [.Subscript o i pos'] X.env).map (·.2)=[assign (.Subscript o i pos') X.env]:=by rfl):mZ X (.Assign [.Subscript o i pos'] e pos) (li te to ti):=
 ⟨cG (qv he.ok (vW ho.ok hi.ok (wR hu) ha) hs hw h1) fun D σ H ⟨σ3,S,D3,rσ,rS,h,xo,n,r,bk,ct⟩=>⟨σ3,S,_,D3.ex,rσ,rS,h,xo,fun v S1 v' H1 h1 rv Bn g1=>
  ⟨σ3,S1,_,D3.ex,rσ.mono g1,Bn,h1,xo.mono g1,fun o S2 o' H2 h2 ro CU g2=>⟨σ3,S2,_,D3.ex,rσ.mono (g1.trans g2),CU,h2,xo.mono (g1.trans g2),fun i S3 i' H3 h3 ri Em g3=>
   ⟨o,i,v,S3,_,ro.mono g3,ri,rv.mono (g2.trans g3),Em,h3,fun S4 H4 h4 G5 g4=>n _ S4 _ H4 h4 (rσ.mono (g1.trans (g2.trans (g3.trans g4)))) G5 (g1.trans (g2.trans (g3.trans g4)))⟩⟩⟩⟩⟩
end
end L3
namespace L2
open PySem PySem.Spec PyProof.Rows
section
variable {X:Cx} {tg:Expr}
def Ak(K:Vo)(tl:TE):TI:=fun σ H R=>tl σ H fun x H1=>(∃a,x = .ref a/\(∃xs,SqL K H1 a xs)/\R (zz K a) H1)\/(∃a,x = .ref a/\(∃xs,Cj K H1 a xs)/\R (zW K a) H1)\/∃z,x = .str z/\R (Ac z) H1
def wS{l:Expr}{tl:TE}(hl:PE X l tl):PI X tg l (Ak X.K tl):=by
 intro pins s σ H R I h
 refine Bh (hl pins s σ H _ I h) fun v s1 ⟨x,H1,I1,r1,q1⟩=>?_
 rcases q1 with⟨a,e,⟨xs,hq⟩,q⟩|⟨a,e,⟨xs,hq⟩,q⟩|⟨z,e,q⟩
 ·subst e
  cases r1
  obtain⟨its,rv,p,hz⟩:=I1.list hq
  refine wpAny_pyIter_list p.isList ?_
  refine⟨s1.heap.objs.size,[s1.heap.objs.size],_,_,H1,rfl,I1.kept (t':=s1.toks) fun b o e=>Heap.get?_push_of_some _ e,oU a _,⟨_,Heap.get?_push_size _ rfl,rfl,rfl⟩,fun b hb=>?_,q⟩
  have e:b=s1.heap.objs.size:=by simpa using hb
  subst e
  exact I1.Di (Nat.le_refl _) (I1.hok.fresh (Nat.le_refl _))
 ·subst e
  cases r1
  obtain⟨its,rv,p,hz⟩:=I1.tuple hq
  refine wpAny_pyIter_tuple (show s1.heap.IsTuple a its.toArray from p) ?_
  refine⟨s1.heap.objs.size,[s1.heap.objs.size],_,_,H1,rfl,I1.kept (t':=s1.toks) fun b o e=>Heap.get?_push_of_some _ e,mN a _,⟨_,Heap.get?_push_size _ rfl,rfl,rfl⟩,fun b hb=>?_,q⟩
  have e:b=s1.heap.objs.size:=by simpa using hb
  subst e
  exact I1.Di (Nat.le_refl _) (I1.hok.fresh (Nat.le_refl _))
 ·subst e
  obtain⟨t,rfl⟩:=r1
  have fin:∀ty,(ty = "str_ascii_iterator" \/ ty = "str_iterator")->zV X pins σ tg R (.ref s1.heap.objs.size) { s1 with heap:=s1.heap.push { cls:=.type ty,data:=.fields #[.str z t,.int 0 0] } }:=fun ty hty=>by
   refine⟨s1.heap.objs.size,[s1.heap.objs.size],_,_,H1,rfl,I1.kept (t':=s1.toks) fun b o e=>Heap.get?_push_of_some _ e,qU hty _ z t,⟨Nat.zero_le _,_,Heap.get?_push_size _ rfl,rfl,rfl⟩,fun b hb=>?_,q⟩
   have e:b=s1.heap.objs.size:=by simpa using hb
   subst e
   exact I1.Di (Nat.le_refl _) (I1.hok.fresh (Nat.le_refl _))
  cases ha:z.cps.all (· < 128)
  ·exact wpAny_pyIter_wide ha (fin _ (.inr rfl))
  ·exact wpAny_pyIter_ascii ha (fin _ (.inl rfl))
def wT(K:Vo)(ta:TA):TI:=fun σ H R=>ta σ H fun vs H1=>∃a,vs=[.ref a]/\(((∃xs,SqL K H1 a xs)/\R (Ae K a) H1)\/((∃xs,Cj K H1 a xs)/\R (Af K a) H1))
def rJ{elts:List Expr}{k0:Nat}{DX:Pos}{a:Expr}{ta:TA}{p pos:Pos}(hg:Gl X "enumerate")(hm:X.mg "enumerate" = none)(hv:bootBuiltins "enumerate" = some (.type "enumerate"))(ha:PA X [a] ta)
  (hs:starEach [a] X.env=[(false,eval a X.env)]:=by rfl):PI X (.Tuple elts k0 DX) (.Call (.Name "enumerate" p) [a] [] pos) (wT X.K ta):=by
 intro pins s σ H R I h
 refine Call_ (cF I hg hm hv (PyProof.Rows.callWith_type1 (Bh (ha pos pins s σ H _ I h) fun us s1 ⟨vs,H1,I1,r1,q1⟩=>?_) hs rfl))
 obtain⟨a,e,q⟩:=q1
 subst e
 obtain⟨u,rfl,ru⟩:=eh r1
 cases ru
 rcases q with⟨⟨xs,qa⟩,q⟩|⟨⟨xs,qa⟩,q⟩
 ·obtain⟨ia,ra,pa,za⟩:=I1.list qa
  refine call_enumerate_list pa.isList fun g ge g1 gz kk=>?_
  refine wpAny_pyIter_enum (s:={ s1 with heap:=g }) ge ?_
  refine⟨_,[s1.heap.objs.size+1,s1.heap.objs.size],_,_,H1,rfl,I1.kept (t':=s1.toks) kk,pB (Nat.succ_ne_self _),⟨⟨_,ge⟩,g1⟩,fun c hc=>?_,q⟩
  have hle:s1.heap.objs.size<=c:=by
   simp only[List.mem_cons,List.not_mem_nil,or_false]at hc
   rcases hc with rfl|rfl
   ·exact Nat.le_add_right _ _
   ·exact Nat.le_refl _
  exact I1.Di hle (I1.hok.fresh hle)
 ·obtain⟨ia,ra,pa,za⟩:=I1.tuple qa
  have la:a < s1.heap.objs.size:=by obtain⟨o,e,_⟩:=pa;exact Heap.lt_size e
  refine Et.qX (show s1.heap.IsTuple a ia.toArray from pa) fun g ge g1 kk=>?_
  refine wpAny_pyIter_enum (s:={ s1 with heap:=g }) ge ?_
  refine⟨_,[s1.heap.objs.size+1,s1.heap.objs.size],_,_,H1,rfl,I1.kept (t':=s1.toks) kk,mX (Nat.succ_ne_self _) (Nat.ne_of_lt (Nat.lt_succ_of_lt la)) (Nat.ne_of_lt la),⟨⟨_,ge⟩,g1⟩,fun c hc=>?_,q⟩
  have hle:s1.heap.objs.size<=c:=by
   simp only[List.mem_cons,List.not_mem_nil,or_false]at hc
   rcases hc with rfl|rfl
   ·exact Nat.le_add_right _ _
   ·exact Nat.le_refl _
  exact I1.Di hle (I1.hok.fresh hle)
end
end L2
namespace L3
open PySem L2
structure Al where
 items:List PV
 keep:av->Prop
def iQ(K:Vo)(H0:Hp)(J:It)(src:Al):Prop:=∀(i:Nat) (S:av) (H:Hp),Grow K H0 H->Bl K H S->src.keep S->
 (∀p,src.items[i]?=some p->J.go i H/\∀x H',J.Gk i H x H'->Rep K H' x p/\Bl K H' S/\Grow K H H')/\(i=src.items.length->J.stop i H)
abbrev sP:=b3->av->(Al->av->Prop)->cW->Prop
def LI(X:Cx)(t:sP):TI:=fun σ H R=>∃σ3 S R3 E3,Bm X.K H σ σ3/\Bl X.K H S/\t σ3 S R3 E3/\Es X H E3/\∀src S' J H',R3 src S'->iQ X.K H' J src->Bl X.K H' S'->Grow X.K H H'->R J H'
structure vp (X:Cx) (tg iter:Expr) (t:sP):Prop where
 ok:PI X tg iter (LI X t)
def ni{X:Cx}{tg iter:Expr}{t t':TI}(h:PI X tg iter t)(k:∀σ H R,t' σ H R->t σ H R):PI X tg iter t':=fun pins s σ H R I q=>h pins s σ H R I (k σ H R q)
section
variable {X:Cx} {e tg:Expr} {es:List Expr} {te:aN} {ts:List aN} {p pos:Pos}
noncomputable def cj(S:av):PV->Option Al
 | .tup xs=>some ⟨xs,fun _=>True⟩
 | .cl xs=>some ⟨xs,fun _=>True⟩
 | .str z=>some ⟨z.cps.toList.map fun c=>.str (k5 c),fun _=>True⟩
 | .ref a=>(match S a with|some (.lst xs)=>some ⟨xs,fun S'=>S' a=some (.lst xs)⟩|_=>none)
 |_=>none
def ba(te:aN):sP:=fun σ S R E=>te σ S (fun v S1=>match cj S1 v with|some src=>R src S1|none=>False) E
end
section
variable {X:Cx} {e tg a b:Expr} {es:List Expr} {te ta tb:aN} {ts:List aN} {p pos:Pos}
def rK{K:Vo}{H0:Hp}{a:Addr}{xs:List PV}:iQ K H0 (zz K a) ⟨xs,fun S'=>S' a=some (.lst xs)⟩:=by
 intro i S H g rS hk
 obtain⟨vs,hv,rs⟩:=rS a _ hk
 refine⟨fun p hp=>?_,fun hi=>⟨vs,SqL.of hv,by rw[rs.length,hi];exact Nat.le_refl _⟩⟩
 obtain⟨v,hx,rv⟩:=rs.get hp
 refine⟨⟨vs,v,SqL.of hv,hx⟩,fun x H' ⟨e,h⟩=>?_⟩
 subst e
 have:=h vs (SqL.of hv)
 rw[hx]at this
 cases this
 exact⟨rv,rS,.refl⟩
def ul{K:Vo}{H0:Hp}{a:Addr}{vs:List V}{xs:List PV}(h:Cj K H0 a vs)(rs:Reps K H0 vs xs):iQ K H0 (zW K a) ⟨xs,fun _=>True⟩:=by
 intro i S H g rS _
 have hv:=g.t _ _ h
 refine⟨fun p hp=>?_,fun hi=>⟨vs,hv,by rw[rs.length,hi];exact Nat.le_refl _⟩⟩
 obtain⟨v,hx,rv⟩:=rs.get hp
 refine⟨⟨vs,v,hv,hx⟩,fun x H' ⟨e,h⟩=>?_⟩
 subst e
 have:=h vs hv
 rw[hx]at this
 cases this
 exact⟨rv.mono g,rS,.refl⟩
def wU{K:Vo}{H0:Hp}{a:Addr}{vs:List V}{xs:List PV}(h:FL K H0 a vs)(rs:Reps K H0 vs xs):iQ K H0 (zz K a) ⟨xs,fun _=>True⟩:=by
 intro i S H g rS _
 have hv:=(g.c _ _ h).sq
 refine⟨fun p hp=>?_,fun hi=>⟨vs,hv,by rw[rs.length,hi];exact Nat.le_refl _⟩⟩
 obtain⟨v,hx,rv⟩:=rs.get hp
 refine⟨⟨vs,v,hv,hx⟩,fun x H' ⟨e,h⟩=>?_⟩
 subst e
 have:=h vs hv
 rw[hx]at this
 cases this
 exact⟨rv.mono g,rS,.refl⟩
def um{K:Vo}{H0:Hp}{z:Str}:iQ K H0 (Ac z) ⟨z.cps.toList.map fun c=>.str (k5 c),fun _=>True⟩:=by
 intro i S H g rS _
 refine⟨fun p hp=>?_,fun hi=>by show z.cps.size<=i;rw[hi,List.length_map,Array.length_toList];exact Nat.le_refl _⟩
 rw[List.getElem?_map]at hp
 cases hc:z.cps.toList[i]? with
 |none=>rw[hc]at hp;cases hp
 |some c=>
  rw[hc]at hp
  cases hp
  have hc':z.cps[i]?=some c:=by simpa using hc
  refine⟨?_,fun x H' ⟨e,c',h1,h2⟩=>?_⟩
  ·show i < z.cps.size
   by_cases hi:i < z.cps.size
   ·exact hi
   ·rw[Array.getElem?_eq_none (by omega)]at hc';cases hc'
  ·subst e
   rw[hc']at h1
   cases h1
   subst h2
   exact⟨.str _,rS,.refl⟩
def cK(he:aY X e te):vp X tg e (ba te):=⟨ni (wS he.ok) fun σ H R ⟨σ3,S,R3,E3,rσ,rS,h,xo,k⟩=>⟨σ3,S,_,E3,rσ,rS,h,xo,fun v S1 v' H1 h1 rv Bn g1=>by
 dsimp only at h1
 split at h1
 ·rename_i src hs
  unfold cj at hs
  split at hs
  ·cases hs
   cases rv with
   |tup hq rs=>exact .inr (.inl ⟨_,rfl,⟨_,hq⟩,k _ S1 _ H1 h1 (ul hq rs) Bn g1⟩)
  ·cases hs
   cases rv with
   |cl hq rs=>exact .inl ⟨_,rfl,⟨_,hq.sq⟩,k _ S1 _ H1 h1 (wU hq rs) Bn g1⟩
  ·cases hs
   cases rv
   exact .inr (.inr ⟨_,rfl,k _ S1 _ H1 h1 um Bn g1⟩)
  ·cases rv
   split at hs
   ·rename_i ea
    cases hs
    obtain⟨vs,hv,rs⟩:=Bn _ _ ea
    exact .inl ⟨_,rfl,⟨_,SqL.of hv⟩,k _ S1 _ H1 h1 rK Bn g1⟩
   ·cases hs
  ·cases hs
 ·exact h1.elim⟩⟩
noncomputable def bz(lo:Int)(n:Nat):List PV:=(List.range n).map fun(i:Nat)=>PV.int (lo+i)
def pJ{K:Vo}{H0:Hp}{lo:Int}{n:Nat}:iQ K H0 (zA lo n) ⟨bz lo n,fun _=>True⟩:=by
 intro i S H g rS _
 refine⟨fun p hp=>?_,fun hi=>by show n<=i;rw[hi];simp[bz]⟩
 unfold bz at hp
 rw[List.getElem?_map]at hp
 by_cases hi:i < n
 ·rw[List.getElem?_range hi]at hp
  cases hp
  refine⟨hi,fun x H' ⟨e,h⟩=>?_⟩
  subst e h
  exact⟨.int _,rS,.refl⟩
 ·rw[List.getElem?_eq_none (by simpa using hi)]at hp
  cases hp
def j7(ta:aN):sP:=fun σ S R E=>ta σ S (fun v S1=>match v with | .int j=>-(2 ^ 62)<=j/\j < 2 ^ 62/\R ⟨bz 0 j.toNat,fun _=>True⟩ S1|_=>False) E
def eQ(hs:starEach [a] X.env=[(false,eval a X.env)])(hg:Gl X "range")(hm:X.mg "range" = none)(ha:i7 X [a] [ta]):vp X tg (.Call (.Name "range" p) [a] [] pos) (j7 ta):=
 ⟨ni (oV hg hm ha.ok hs) fun σ H R ⟨σ3,S,R3,E3,rσ,rS,h,xo,k⟩=>⟨σ3,S,_,E3,rσ,rS,h,xo,fun v S1 v' H1 h1 rv Bn g1=>by
  dsimp only at h1
  split at h1
  ·cases rv
   exact⟨_,rfl,h1.1,h1.2.1,k _ S1 _ H1 h1.2.2 pJ Bn g1⟩
  ·exact h1.elim⟩⟩
noncomputable def aR(xs:List PV):List PV:=xs.mapIdx fun i x=>.tup [.int i,x]
def pK{K:Vo}{H0:Hp}{a:Addr}{xs:List PV}:iQ K H0 (Ae K a) ⟨aR xs,fun S'=>S' a=some (.lst xs)⟩:=by
 intro i S H g rS hk
 obtain⟨vs,hv,rs⟩:=rS a _ hk
 refine⟨fun p hp=>?_,fun hi=>⟨vs,SqL.of hv,by rw[rs.length,hi];simp[aR]⟩⟩
 unfold aR at hp
 rw[List.getElem?_mapIdx]at hp
 cases hx:xs[i]? with
 |none=>rw[hx]at hp;cases hp
 |some y=>
  rw[hx]at hp
  cases hp
  obtain⟨v,hx',rv⟩:=rs.get hx
  refine⟨⟨vs,v,SqL.of hv,hx'⟩,fun x H' ⟨q,x2,e1,hq,e2,h⟩=>?_⟩
  subst e1 e2
  have:=h vs (SqL.of hv)
  rw[hx']at this
  cases this
  exact⟨.tup (Cj.of ar) (.cons (.int _) (.cons (rv.mono (.new hq)) .nil)),rS.other hq,.new hq⟩
def pL{K:Vo}{H0:Hp}{a:Addr}{vs:List V}{xs:List PV}(h0:Cj K H0 a vs)(rs:Reps K H0 vs xs):iQ K H0 (Af K a) ⟨aR xs,fun _=>True⟩:=by
 intro i S H g rS _
 have hv:=g.t _ _ h0
 refine⟨fun p hp=>?_,fun hi=>⟨vs,hv,by rw[rs.length,hi];simp[aR]⟩⟩
 unfold aR at hp
 rw[List.getElem?_mapIdx]at hp
 cases hx:xs[i]? with
 |none=>rw[hx]at hp;cases hp
 |some y=>
  rw[hx]at hp
  cases hp
  obtain⟨v,hx',rv⟩:=rs.get hx
  refine⟨⟨vs,v,hv,hx'⟩,fun x H' ⟨q,x2,e1,hq,e2,h⟩=>?_⟩
  subst e1 e2
  have:=h vs hv
  rw[hx']at this
  cases this
  exact⟨.tup (Cj.of ar) (.cons (.int _) (.cons ((rv.mono g).mono (.new hq)) .nil)),rS.other hq,.new hq⟩
def dD(ta:aN):sP:=fun σ S R E=>ta σ S (fun v S1=>match v with
 | .tup xs=>R ⟨aR xs,fun _=>True⟩ S1
 | .ref a=>(match S1 a with|some (.lst xs)=>R ⟨aR xs,fun S'=>S' a=some (.lst xs)⟩ S1|_=>False)
 |_=>False) E
def jD{elts:List Expr}{k0:Nat}{DX:Pos}(hs:starEach [a] X.env=[(false,eval a X.env)])(hg:Gl X "enumerate")(hm:X.mg "enumerate" = none)(hv:bootBuiltins "enumerate" = some (.type "enumerate"))(ha:i7 X [a] [ta]):vp X (.Tuple elts k0 DX) (.Call (.Name "enumerate" p) [a] [] pos) (dD ta):=
 ⟨ni (rJ hg hm hv ha.ok hs) fun σ H R ⟨σ3,S,R3,E3,rσ,rS,h,xo,k⟩=>⟨σ3,S,_,E3,rσ,rS,h,xo,fun v S1 v' H1 h1 rv Bn g1=>by
  dsimp only at h1
  split at h1
  ·cases rv with
   |tup hq rs=>exact⟨_,rfl,.inr ⟨⟨_,hq⟩,k _ S1 _ H1 h1 (pL hq rs) Bn g1⟩⟩
  ·cases rv
   split at h1
   ·rename_i ea
    obtain⟨vs,hv,rs⟩:=Bn _ _ ea
    exact⟨_,rfl,.inl ⟨⟨_,SqL.of hv⟩,k _ S1 _ H1 h1 pK Bn g1⟩⟩
   ·exact h1.elim
  ·exact h1.elim⟩⟩
noncomputable def jE(xs ys:List PV):List PV:=(xs.zip ys).map fun z=>.tup [z.1,z.2]
end
section
variable {X:Cx} {iter tg c:Expr} {body:List Stmt} {ti:sP} {g:Tg} {tb:bG} {tc:gW} {pos:Pos}
noncomputable def l6(g:Tg)(tb:bG)(D:ju)(keep:av->Prop):List PV->b3->av->Prop
 |[],σ,S=>keep S/\D.nx σ S
 |x::r,σ,S=>keep S/\match g.put x σ with|some σ'=>tb { D with nx:=l6 g tb D keep r,ct:=l6 g tb D keep r,bk:=D.nx } σ' S|none=>False
def cX(ti:sP)(g:Tg)(tb:bG):bG:=fun D σ S=>ti σ S (fun src S1=>l6 g tb D src.keep src.items σ S1) D.ex
def fI(hp:PassesOwn (model X.prog X.w) X.A X.env X.xe)(hc:X.calm=true)(hi:vp X tg iter ti)(hg:sO X tg g)(hb:hG X body tb)(hs:∀x,foldedSetIterable iter X.env x=pure x:=by intro _;rfl):mZ X (.For tg iter body [] pos) (cX ti g tb):=
 ⟨cG (v1 hp hc hi.ok hg.ok hb.ok hs) fun D σ H ⟨σ3,S,D3,rσ,rS,h,xo,n,r,bk,ct⟩=>⟨σ3,S,_,D3.ex,rσ,rS,h,xo,fun src S1 J H1 h1 sim Bn g1=>by
  refine⟨fun i m σ' H'=>i+m=src.items.length/\∃σ4 S',Bm X.K H' σ' σ4/\Bl X.K H' S'/\Grow X.K H1 H'/\l6 g tb D3 src.keep (src.items.drop i) σ4 S',⟨src.items.length,Nat.zero_add _,σ3,S1,rσ.mono g1,Bn,.refl,by simpa using h1⟩,?_⟩
  rintro i m σ' H' ⟨hm,σ4,S',EM,CQ,g',hw⟩
  cases hd:src.items.drop i with
  |nil=>
   rw[hd]at hw
   have hi:i=src.items.length:=by
    have:=congrArg List.length hd
    rw[List.length_drop,List.length_nil]at this
    omega
   exact .inl ⟨(sim i S' H' g' CQ hw.1).2 hi,n _ S' _ H' hw.2 EM CQ (g1.trans g')⟩
  |cons x rest=>
   rw[hd]at hw
   have hx:src.items[i]?=some x:=by
    have:=congrArg (fun l=>l[0]?) hd
    simpa using this
   have hrest:src.items.drop (i+1)=rest:=by
    have:=congrArg List.tail hd
    simpa [List.tail_drop]using this
   have hlt:i < src.items.length:=by
    by_cases z:i < src.items.length
    ·exact z
    ·rw[List.getElem?_eq_none (by omega)]at hx;cases hx
   obtain⟨go,yl⟩:=(sim i S' H' g' CQ hw.1).1 x hx
   refine .inr ⟨go,fun σ5 H5=>∃σ6 S6,Bm X.K H5 σ5 σ6/\Bl X.K H5 S6/\Grow X.K H1 H5/\l6 g tb D3 src.keep rest σ6 S6,?_,fun v H5 hv=>?_⟩
   ·rintro σ5 H5 ⟨σ6,S6,q1,q2,q3,q4⟩
    exact⟨m - 1,by omega,by omega,σ6,S6,q1,q2,q3,by rw[hrest];exact q4⟩
   ·obtain⟨rv,G6,g5⟩:=yl v H5 hv
    obtain⟨_,hw⟩:=hw
    split at hw
    ·rename_i σ6 e6
     refine Tg.DD (own:=0) g rv (EM.mono g5) e6 fun σ7 Gp _=>?_
     exact⟨σ6,S',_,Gp,G6,hw,xo.mono (g1.trans (g'.trans g5)),fun σ8 S8 σ9 H9 q1 q2 q3 q4=>⟨σ8,S8,q2,q3,g'.trans (g5.trans q4),q1⟩,r.mono (g1.trans (g'.trans g5)),n.mono (g1.trans (g'.trans g5)),
      fun σ8 S8 σ9 H9 q1 q2 q3 q4=>⟨σ8,S8,q2,q3,g'.trans (g5.trans q4),q1⟩⟩
    ·exact hw.elim⟩⟩
def ic(tc:gW)(tb:bG):bG:=fun D σ S=>∃W:Nat->b3->av->Prop,(∃m,W m σ S)/\∀m σ S,W m σ S->
 tc σ S (fun b S1=>if b=true then ∃N:b3->av->Prop,(∀σ' S',N σ' S'->∃m',m' < m/\W m' σ' S')/\tb { D with nx:=N,ct:=N,bk:=D.nx } σ S1 else D.nx σ S1) D.ex
def i_(hp:PassesOwn (model X.prog X.w) X.A X.env X.xe)(hc:mG X c tc)(hb:hG X body tb):mZ X (.While c body [] pos) (ic tc tb):=
 ⟨cG (qw hp hc.ok hb.ok) fun D σ H ⟨σ3,S,D3,rσ,rS,⟨W,⟨m0,w0⟩,turn⟩,xo,n,r,bk,ct⟩=>by
  refine⟨fun m σ' H'=>∃σ4 S',Bm X.K H' σ' σ4/\Bl X.K H' S'/\Grow X.K H H'/\W m σ4 S',⟨m0,σ3,S,rσ,rS,.refl,w0⟩,?_⟩
  rintro m σ' H' ⟨σ4,S',EM,CQ,g',w'⟩
  refine⟨σ4,S',_,D3.ex,EM,CQ,turn m σ4 S' w',xo.mono g',fun b S1 H1 h1 Bn g1=>?_⟩
  cases b with
  |true=>
   rw[if_pos rfl]at h1 ⊢
   obtain⟨N,hN,h1⟩:=h1
   refine⟨fun σ5 H5=>∃σ6 S6,Bm X.K H5 σ5 σ6/\Bl X.K H5 S6/\Grow X.K H H5/\N σ6 S6,?_,?_⟩
   ·rintro σ5 H5 ⟨σ6,S6,q1,q2,q3,q4⟩
    obtain⟨m',hm,w6⟩:=hN σ6 S6 q4
    exact⟨m',hm,σ6,S6,q1,q2,q3,w6⟩
   ·exact⟨σ4,S1,_,EM.mono g1,Bn,h1,xo.mono (g'.trans g1),fun σ8 S8 σ9 H9 q1 q2 q3 q4=>⟨σ8,S8,q2,q3,g'.trans (g1.trans q4),q1⟩,r.mono (g'.trans g1),n.mono (g'.trans g1),
     fun σ8 S8 σ9 H9 q1 q2 q3 q4=>⟨σ8,S8,q2,q3,g'.trans (g1.trans q4),q1⟩⟩
  |false=>
   rw[if_neg (by decide)]at h1 ⊢
   exact n _ S1 _ H1 h1 (EM.mono g1) Bn (g'.trans g1)⟩
end
noncomputable def eI:cW:=fun _ _ _=>False
def Es.no{X:Cx}{H:Hp}:Es X H eI:=fun _ _ _ _ _ _ _ _ _ _ _ _ _ _ h=>h.elim
section
variable {X:Cx} {elt iter tg c:Expr} {ifs:List Expr} {scope:Scope} {pos:Pos} {ti:sP} {g:Tg} {tc:gW} {te:aN} {fs N:Vs} {own:Nat} {fr:List Nat}
noncomputable def cY(g:Tg)(tc:gW)(te:aN)(σ':b3)(keep:av->Prop)(fin:List PV->av->Prop):List PV->List PV->av->Prop
 |[],ys,S=>keep S/\ys.length<=sizeLine/\fin ys S
 |x::r,ys,S=>keep S/\ys.length<=sizeLine/\match g.put x σ' with
  |some σ2=>tc σ2 S (fun b S3=>if b=true then te σ2 S3 (fun y S4=>cY g tc te σ' keep fin r (ys++[y]) S4) eI else cY g tc te σ' keep fin r ys S3) eI
  |none=>False
def cL:gW:=fun _ S Q _=>Q true S
structure xM (X:Cx) (ifs:List Expr) (t:gW):Prop where
 ok:PF X ifs (LT X t)
def nj{t t':TT}(h:PF X ifs t)(k:∀σ H Q,t' σ H Q->t σ H Q):PF X ifs t':=fun pins s σ H Q I q=>h pins s σ H Q I (k σ H Q q)
def eR:xM X [] cL:=⟨nj wC fun σ H Q ⟨σ3,S,Q3,E3,rσ,rS,h,xo,k⟩=>k true S H h rS .refl⟩
def oy(h:mG X c tc):xM X [c] tc:=⟨wD h.ok⟩
noncomputable def fA(own:Nat)(fr:List Nat)(σ:b3):b3:=List.replicate own none++fr.map fun j=>lk σ j
def uo{K:Vo}{H:Hp}{σ:L2.St}{σ3:b3}(r:Bm K H σ σ3)(own:Nat)(fr:List Nat):Bm K H (dA own fr σ) (fA own fr σ3):=by
 refine⟨by unfold dA fA;simp,fun i p e=>?_⟩
 unfold fA at e
 unfold dA
 by_cases hi:i < own
 ·rw[List.getElem?_append_left (by simpa using hi),List.getElem?_replicate,if_pos hi]at e
  cases e
 ·rw[List.getElem?_append_right (by simpa using hi),List.length_replicate,List.getElem?_map]at e ⊢
  cases hj:fr[i - own]? with
  |none=>rw[hj]at e;cases e
  |some j=>
   rw[hj]at e
   simp only[Option.map_some,Option.some.injEq]at e ⊢
   obtain⟨v,hv,rv⟩:=r.at' j p (rh e)
   exact⟨v,by rw[hv];rfl,rv⟩
def a_(ti:sP)(g:Tg)(tc:gW)(te:aN)(own:Nat)(fr:List Nat):aN:=fun σ S Q E=>ti σ S (fun src S1=>cY g tc te (fA own fr σ) src.keep (fun ys S2=>∀p,S2 p=none->Q (.ref p) (Bc S2 p (.lst ys))) src.items [] S1) E
def kD{σ:L2.St}{H:Hp}{Q:VK}(EN:g.under own=true)(B0:Bk):LE X (a_ ti g tc te own fr) σ H Q->qR (LI X ti) (g.g2 X.K) (fun σ H Q=>∃σ3 S Q3,Bm X.K H σ σ3/\Bl X.K H S/\tc σ3 S Q3 eI/\∀b S' H',Q3 b S'->Bl X.K H' S'->Grow X.K H H'->Q b H')
  (fun σ H Q=>∃σ3 S Q3,Bm X.K H σ σ3/\Bl X.K H S/\te σ3 S Q3 eI/\Eu X.K H Q3 Q) own fr σ H Q:=fun⟨σ3,S,Q3,E3,rσ,rS,h,xo,k⟩=>by
 refine⟨σ3,S,_,E3,rσ,rS,h,xo,fun src S1 J H1 h1 sim Bn g1=>?_⟩
 refine⟨fun i m ys H'=>i+m=src.items.length/\∃zs S',Reps X.K H' ys zs/\Bl X.K H' S'/\Grow X.K H1 H'/\cY g tc te (fA own fr σ3) src.keep (fun ys S2=>∀p,S2 p=none->Q3 (.ref p) (Bc S2 p (.lst ys))) (src.items.drop i) zs S',⟨src.items.length,Nat.zero_add _,[],S1,.nil,Bn,.refl,by simpa using h1⟩,?_⟩
 rintro i m ys H' ⟨hm,zs,S',rz,CQ,g',hw⟩
 cases hd:src.items.drop i with
 |nil=>
  rw[hd]at hw
  have hi:i=src.items.length:=by
   have:=congrArg List.length hd
   rw[List.length_drop,List.length_nil]at this
   omega
  refine .inl ⟨(sim i S' H' g' CQ hw.1).2 hi,by rw[rz.length];exact hw.2.1,fun D hD=>?_⟩
  exact k _ _ _ _ (hw.2.2 D (CQ.free hD)) (.ref D) (CQ.new hD ⟨_,ar,rz.mono (.new hD)⟩) (g1.trans (g'.trans (.new hD)))
 |cons x rest=>
  rw[hd]at hw
  have hx:src.items[i]?=some x:=by
   have:=congrArg (fun l=>l[0]?) hd
   simpa using this
  have hrest:src.items.drop (i+1)=rest:=by
   have:=congrArg List.tail hd
   simpa [List.tail_drop]using this
  have hlt:i < src.items.length:=by
   by_cases z:i < src.items.length
   ·exact z
   ·rw[List.getElem?_eq_none (by omega)]at hx;cases hx
  obtain⟨go,yl⟩:=(sim i S' H' g' CQ hw.1).1 x hx
  refine .inr ⟨go,by rw[rz.length];exact hw.2.1,fun ys' H5=>∃zs' S6,Reps X.K H5 ys' zs'/\Bl X.K H5 S6/\Grow X.K H1 H5/\cY g tc te (fA own fr σ3) src.keep (fun ys S2=>∀p,S2 p=none->Q3 (.ref p) (Bc S2 p (.lst ys))) rest zs' S6,?_,fun v H5 hv=>?_⟩
  ·rintro ys' H5 ⟨zs',S6,q1,q2,q3,q4⟩
   exact⟨m - 1,by omega,by omega,zs',S6,q1,q2,q3,by rw[hrest];exact q4⟩
  ·obtain⟨rv,G6,g5⟩:=yl v H5 hv
   obtain⟨_,_,hw⟩:=hw
   split at hw
   ·rename_i σ6 e6
    refine Tg.DD (own:=own) g rv ((uo rσ own fr).mono (g1.trans (g'.trans g5))) e6 fun σ7 Gp d7=>⟨d7 EN,?_⟩
    refine⟨σ6,S',_,Gp,G6,hw,fun b S8 H8 h8 HQ g8=>?_⟩
    cases b with
    |true=>
     rw[if_pos rfl]at h8 ⊢
     exact⟨σ6,S8,_,Gp.mono g8,HQ,h8,fun y S9 y' H9 h9 ry IP g9=>⟨zs++[y],S9,(rz.mono (g5.trans (g8.trans g9))).append (.cons ry .nil),IP,g'.trans (g5.trans (g8.trans g9)),h9⟩⟩
    |false=>
     rw[if_neg (by decide)]at h8 ⊢
     exact⟨zs,S8,rz.mono (g5.trans g8),HQ,g'.trans (g5.trans g8),h8⟩
   ·exact hw.elim
def wV(fs:Vs)(own:Nat)(fr:List Nat)(N:Vs)(EN:g.under own=true)(hc:X.calm=true)(hclos:closureFor scope X.env=pure (b4 X.env fs))(hcell:∀y∈scope.names,y.2 ≠ .cell)(hkind:scope.kind = .function)
  (hnames:∀x∈scope.names,x.2 = .local->scope.names.lookup x.1=some .local) (hcl:bQ X.env fs) (hhas:k4 (relabel scope X.env).names (b4 X.env fs)=true)
  (hlen:N.length=own+fr.length) (hN:(N.drop own).map some=fr.map fun j=>X.N[j]?) (hF:B1 X.env scope (b4 X.env fs) (N.drop own))
  (hi:vp X tg iter ti) (hg:∀B,sO (X.CO N scope fs B) tg g) (hf:∀B,xM (X.CO N scope fs B) ifs tc) (he:∀B,aY (X.CO N scope fs B) elt te)
  (hs:∀x,foldedSetIterable iter X.env x=pure x:=by intro _;rfl):aY X (.ListComp elt [⟨tg,iter,ifs,0⟩] scope pos) (a_ ti g tc te own fr):=
 ⟨aK (tV fs own fr N hc hclos hcell hkind hnames hcl hhas hlen hN hF hi.ok (fun B=>(hg B).ok)
  (fun B=>nj (hf B).ok fun σ H Q ⟨σ3,S,Q3,rσ,rS,h,k⟩=>⟨σ3,S,Q3,eI,rσ,rS,h,.no,k⟩) (fun B=>aK (he B).ok fun σ H Q ⟨σ3,S,Q3,rσ,rS,h,k⟩=>⟨σ3,S,Q3,eI,rσ,rS,h,.no,k⟩) hs) fun _ _ _=>kD EN ⟨0,X.s₀,X.H₀,[],[]⟩⟩
def wW(fs:Vs)(own:Nat)(fr:List Nat)(N:Vs){i:Nat}{y:Str}{py spos:Pos}(hX:X.N.Nodup)(hix:X.N[i]?=some y)(hy:X.env.scope.names.lookup y=some .local)
  (hsw:swapsWith (.ListComp elt [⟨tg,iter,ifs,0⟩] scope pos) (some (.Name y py)) spos.line X.env=pure true)
  (EN:g.under own=true) (hc:X.calm=true) (hclos:closureFor scope X.env=pure (b4 X.env fs)) (hcell:∀y∈scope.names,y.2 ≠ .cell) (hkind:scope.kind = .function)
  (hnames:∀x∈scope.names,x.2 = .local->scope.names.lookup x.1=some .local) (hcl:bQ X.env fs) (hhas:k4 (relabel scope X.env).names (b4 X.env fs)=true)
  (hlen:N.length=own+fr.length) (hN:(N.drop own).map some=fr.map fun j=>X.N[j]?) (hF:B1 X.env scope (b4 X.env fs) (N.drop own))
  (hi:vp X tg iter ti) (hg:∀B,sO (X.CO N scope fs B) tg g) (hf:∀B,xM (X.CO N scope fs B) ifs tc) (he:∀B,aY (X.CO N scope fs B) elt te)
  (hs:∀x,foldedSetIterable iter X.env x=pure x:=by intro _;rfl):mZ X (.Assign [.Name y py] (.ListComp elt [⟨tg,iter,ifs,0⟩] scope pos) spos) (au i (a_ ti g tc te own fr)):=
 ⟨cG (tW fs own fr N hX hix hy hsw hc hclos hcell hkind hnames hcl hhas hlen hN hF hi.ok (fun B=>(hg B).ok)
  (fun B=>nj (hf B).ok fun σ H Q ⟨σ3,S,Q3,rσ,rS,h,k⟩=>⟨σ3,S,Q3,eI,rσ,rS,h,.no,k⟩) (fun B=>aK (he B).ok fun σ H Q ⟨σ3,S,Q3,rσ,rS,h,k⟩=>⟨σ3,S,Q3,eI,rσ,rS,h,.no,k⟩) hs)
  fun D σ H ⟨σ3,S,D3,rσ,rS,h,xo,n,r,bk,ct⟩=>kD EN ⟨0,X.s₀,X.H₀,[],[]⟩ ⟨σ3,S,_,D3.ex,rσ,rS,h,xo,fun p S1 v H1 h1 rv Bn g1=>n _ S1 _ H1 h1 ((rσ.mono g1).set rv i) Bn g1⟩⟩
end
abbrev aF:=List PV->av->ce->cW->Prop
noncomputable def yR(K:Vo)(n:Nat)(sp:aF):Sp:=fun vs H Q _=>vs.length=n/\∃ps S Q3 E3,Reps K H vs ps/\Bl K H S/\sp ps S Q3 E3/\Eu K H Q3 Q
structure EO (P:Program) (w:World) (K:Vo) (mg:Vr) (base:Heap) (k:Nat) (f:Addr) (fd:FuncData) (ps:Vs) (sp:aF):Prop where
 ok:jZ P w K mg base sN k f fd ps (yR K ps.length sp)
section
variable {X:Cx} {e o:Expr} {es:List Expr} {te to:aN} {ts:List aN} {x:Str} {p pos apos cpos:Pos} {k:Nat} {f:Addr} {fd:FuncData} {ps:Vs} {sp:aF}
def ae(sp:aF)(ts:List aN):aN:=fun σ S Q E=>ao ts σ S (fun ps S1=>sp ps S1 Q E) E
def rL(F:EO X.prog X.w X.K X.mg X.base k f fd ps sp)(hr:Room k X.A)(hg:Gl X x)(hm:X.mg x=some (.ref f))(hk:PySem.W.keepIn X.K (.ref f)=true)(hb:Binds X.K fd ps [])(he:starEach (e::es) X.env=(false,eval e X.env)::starEach es X.env)(ha:i7 X (e::es) ts)
  (hl:ts.length=ps.length:=by rfl) (hdb:(x == ("__debug__":Str))=false:=by decide) (hpl:(backTo pos (starEach es X.env)).any (·.1)=false:=by rfl):aY X (.Call (.Name x p) (e::es) [] pos) (ae sp ts):=
 ⟨aK (n5 F.ok hr hg hm hk hb .nil ve ha.ok hdb he hpl) fun σ H Q ⟨σ3,S,Q3,E3,rσ,rS,h,xo,k⟩=>bL rσ rS h xo fun ps' S' vs H' hl' q rv CQ g=>by
  rw[List.append_nil]
  exact⟨by rw[rv.length,hl',hl],ps',S',Q3,E3,rv,CQ,q,k.mono g⟩⟩
end
noncomputable def aC(n:Nat)(args:List PV):b3:=args.map some++List.replicate (n - args.length) none
def Bs(n:Nat)(t:bG):aF:=fun args S Q _=>t { nx:=fun _ S'=>Q .non S',rt:=Q,ex:=eI } (aC n args) S
def kE{K:Vo}{H:Hp}{N:Vs}{vs:List V}{ps:List PV}(r:Reps K H vs ps):Bm K H (L2.er N vs) (aC N.length ps):=by
 refine⟨by unfold L2.er aC;simp[r.length],fun i p e=>?_⟩
 unfold aC at e
 unfold L2.er
 by_cases hi:i < ps.length
 ·rw[List.getElem?_append_left (by simpa using hi),List.getElem?_map]at e
  cases hp:ps[i]? with
  |none=>rw[hp]at e;cases e
  |some q=>
   rw[hp]at e
   cases e
   obtain⟨v,hv,rv⟩:=r.get hp
   rw[List.getElem?_append_left (by rw[List.length_map,r.length];exact hi),List.getElem?_map,hv]
   exact⟨v,rfl,rv⟩
 ·rw[List.getElem?_append_right (by simpa using hi),List.getElem?_replicate]at e
  split at e
  ·cases e
  ·cases e
section
variable {P:Program} {w:World} {K:Vo} {mg:Vr} {base:Heap}
noncomputable abbrev yS(P:Program)(w:World)(K:Vo)(mg:Vr)(base:Heap)(N:Vs)(qual:Str)(st:Stmt)(f:Addr)(cdv:Value)(A:Around)(outer:List Env)(s:Shared)(H:Hp)(E:XK):Cx:=(lQ sN P w K mg base N qual (ax st) f cdv A outer s H E).Fm
def AJ{x qual:Str}{st:Stmt}{f:Addr}{fd:FuncData}{N ps:Vs}{k:Nat}{t:bG}(F:E8 K x qual st f fd)(S:cz N ps (ax st))
  (hbody:∀(cdv:Value) (A:Around) (outer:List Env) (s:Shared) (H:Hp) (E:XK),Room k (A.deeper (PyProof.Rows.envOfC qual (ax st) s.heap.objs.size f cdv))->hG (yS P w K mg base N qual st f cdv A outer s H E) (aX st) t) :
  EO P w K mg base (k+1) f fd ps (Bs N.length t):=
 ⟨F.ok S (fun vs H Q E h=>h.1) fun cdv A outer s H vs Q E hr ⟨hl,ps',S',Q3,E3,rv,rS,q,kk⟩=>⟨_,(hbody cdv A outer s H E hr).ok,aC N.length ps',S',_,kE rv,rS,q,.no,fun σ3 S2 σ2 H2 h2 _ CU g2=>kk _ S2 _ H2 h2 .non CU g2,kk,fun _ _ _ _ h2=>h2.elim,fun _ _ _ _ h2=>h2.elim⟩⟩
end
section
variable {X:Cx} {o e f:Expr} {to te tf:aN} {pos apos cpos:Pos}
noncomputable def fP:List (aN×aN)->b3->av->(List (PV×PV)->av->Prop)->cW->Prop
 |[],_,S,Q,_=>Q [] S
 |(tk,tv)::r,σ,S,Q,E=>tk σ S (fun x S1=>tv σ S1 (fun y S2=>fP r σ S2 (fun ps S3=>Q ((x,y)::ps) S3) E) E) E
noncomputable def kF:List (PV×PV)->Option (List (bb×PV))
 |[]=>some []
 |(x,y)::r=>match hV x,kF r with|some k,some l=>some ((k,y)::l)|_,_=>none
noncomputable def cM(kvs more:List (bb×PV)):List (bb×PV):=more.foldl (fun acc kv=>hZ acc kv.1 kv.2) kvs
structure zH (X:Cx) (pos:Pos) (keys:List (Option Expr)) (values:List Expr) (Dm:List (aN×aN)):Prop where
 ok:yz X pos keys values (Dm.map fun t=>(LE X t.1,LE X t.2))
def rM:zH X pos [] [] []:=⟨tQ⟩
def gx{k v:Expr}{ks:List (Option Expr)}{vs:List Expr}{tk tv:aN}{Dm:List (aN×aN)}(hk:aY X k tk)(hv:aY X v tv)(hr:zH X pos ks vs Dm):zH X pos (some k::ks) (v::vs) ((tk,tv)::Dm):=⟨qN hk.ok hv.ok hr.ok⟩
inductive kG (K:Vo) (H:Hp):List (V×V)->List (PV×PV)->Prop
 |nil:kG K H [] []
 |cons {a b:V} {p q:PV} {vs:List (V×V)} {ps:List (PV×PV)}:Rep K H a p->Rep K H b q->kG K H vs ps->kG K H ((a,b)::vs) ((p,q)::ps)
theorem jF:∀{Dm:List (aN×aN)} {σ:L2.St} {H:Hp} {Q:List (V×V)->Hp->Prop} {σ3:b3} {S:av} {Q3:List (PV×PV)->av->Prop} {E3:cW},Bm X.K H σ σ3->Bl X.K H S->fP Dm σ3 S Q3 E3->Es X H E3->
  (∀ps S' vs H',ps.length=Dm.length->Q3 ps S'->kG X.K H' vs ps->Bl X.K H' S'->Grow X.K H H'->Q vs H')->kX (Dm.map fun t=>(LE X t.1,LE X t.2)) σ H Q
 |[],σ,H,Q,σ3,S,Q3,E3,rσ,rS,h,xo,k=>k [] S [] H rfl h .nil rS .refl
 |(tk,tv)::ts,σ,H,Q,σ3,S,Q3,E3,rσ,rS,h,xo,k=>
  ⟨σ3,S,_,E3,rσ,rS,h,xo,fun p S1 v H1 h1 rv Bn g1=>⟨σ3,S1,_,E3,rσ.mono g1,Bn,h1,xo.mono g1,fun p2 S2 v2 H2 h2 IQ CU g2=>jF (rσ.mono (g1.trans g2)) CU h2 (xo.mono (g1.trans g2)) fun ps S3 vs H3 hl h3 G2 Em g3=>
   k ((p,p2)::ps) S3 ((v,v2)::vs) H3 (by rw[List.length_cons,List.length_cons,hl]) h3 (.cons (rv.mono (g2.trans g3)) (IQ.mono g3) G2) Em (g1.trans (g2.trans g3))⟩⟩
theorem kH{K:Vo}{H:Hp}:∀{vs:List (V×V)} {ps:List (PV×PV)} {l:List (bb×PV)},kG K H vs ps->kF ps=some l->∃kvs:List (bb×V),vs=kvs.map (fun kv=>(kV kv.1,kv.2))/\Bt K H kvs l
 |_,_,_,.nil,h=>by cases h;exact⟨[],rfl,.nil⟩
 |_,_,l,.cons a b r,h=>by
  unfold kF at h
  split at h
  ·rename_i k l' ek el
   cases h
   obtain⟨kvs,e,q⟩:=kH r el
   refine⟨(k,_)::kvs,?_,.cons b q⟩
   rw[List.map_cons,<-e,cn a ek]
  ·cases h
def Bt.merge{K:Vo}{H:Hp}{more:List (bb×V)}{m3:List (bb×PV)}(r:Bt K H more m3):∀{kvs:List (bb×V)} {k3:List (bb×PV)},Bt K H kvs k3->Bt K H (g7 kvs more) (cM k3 m3):=by
 induction r with
 |nil=>intro kvs k3 q;exact q
 |cons a r ih=>intro kvs k3 q;exact ih (q.put a)
def jG(Dm:List (aN×aN)):aN:=fun σ S Q E=>∀p,S p=none->fP Dm σ (Bc S p (.dct [])) (fun ps S2=>S2 p=some (.dct [])/\match kF ps with|some kvs=>Q (.ref p) (Bc S2 p (.dct (cM [] kvs)))|none=>False) E
def rN{keys:List (Option Expr)}{values:List Expr}{Dm:List (aN×aN)}(h:zH X pos keys values Dm)(hall:keys.all (·.isSome)=true:=by rfl)(hl:keys.length=values.length:=by rfl)(h0:keys≠[]:=by exact List.cons_ne_nil _ _)(GQ:keys.length<=15:=by decide)
  (ht:Dm.length<=15:=by exact Nat.le_of_ble_eq_true rfl):aY X (.Dict keys values pos) (jG Dm):=
 ⟨aK (tR h.ok hall hl h0 GQ) fun σ H Q ⟨σ3,S,Q3,E3,rσ,rS,hq,xo,k⟩=>fun p hp=>by
  have g0:Grow X.K H (upd H p (.dK [])):=.new hp
  refine jF (rσ.mono g0) (rS.new hp (o:=.dct []) ⟨[],ar,.nil⟩) (hq p (rS.free hp)) (xo.mono g0) fun ps S' vs H' hl' q rv CQ g=>?_
  obtain⟨e,q⟩:=q
  obtain⟨kv,hv,rk⟩:=CQ _ _ e
  cases rk
  refine⟨hv,?_⟩
  split at q
  ·rename_i kvs ek
   obtain⟨l,el,rl⟩:=kH rv ek
   refine⟨l,el,?_,k _ _ _ _ q (.ref p) (CQ.put hv trivial ⟨_,ar,(Bt.merge rl .nil).mono (.mut hv trivial)⟩) (g0.trans (g.trans (.mut hv trivial)))⟩
   have z1:∀{vs:List (V×V)} {ps:List (PV×PV)},kG X.K H' vs ps->vs.length=ps.length:=by
    intro vs ps r
    induction r with
    |nil=>rfl
    |cons _ _ _ ih=>rw[List.length_cons,List.length_cons,ih]
   have z2:=congrArg List.length el
   rw[List.length_map,z1 rv,hl']at z2
   omega
  ·exact q.elim⟩
def l7(to te tf:aN):aN:=fun σ S Q E=>to σ S (fun x S1=>match x with
 | .ref a=>(match S1 a with
  |some (.dct _)=>te σ S1 (fun y S2=>tf σ S2 (fun z S3=>match S3 a,hV y with|some (.dct kvs),some k=>Q ((dB kvs k).getD z) S3|_,_=>False) E) E
  |_=>False)
 |_=>False) E
def rO(hu:X.A.units+1 < cLine)(ho:aY X o to)(he:aY X e te)(hf:aY X f tf)(m:M2 X o "get" apos e f cpos):aY X (.Call (.Attribute o "get" apos) [e,f] [] cpos) (l7 to te tf):=
 ⟨aK (qO hu ho.ok he.ok hf.ok m) fun σ H Q ⟨σ3,S,Q3,E3,rσ,rS,h,xo,k⟩=>⟨σ3,S,_,E3,rσ,rS,h,xo,fun x S1 v H1 h1 rx Bn g1=>by
  dsimp only at h1
  split at h1
  ·cases rx
   split at h1
   ·rename_i ea
    obtain⟨kv,hv,rk⟩:=Bn _ _ ea
    refine⟨_,rfl,.inl ⟨_,.inl hv⟩,σ3,S1,_,E3,rσ.mono g1,Bn,h1,xo.mono g1,fun y S2 y' H2 h2 ry CU g2=>⟨σ3,S2,_,E3,rσ.mono (g1.trans g2),CU,h2,xo.mono (g1.trans g2),fun z S3 z' H3 h3 rz Em g3=>?_⟩⟩
    dsimp only at h3
    split at h3
    ·rename_i kvs k' eb ek
     obtain⟨kv3,IR,HR⟩:=Em _ _ eb
     have e1:=cn (ry.mono g3) ek
     subst e1
     refine⟨_,DGet.k IR,k _ S3 _ H3 h3 ?_ Em (g1.trans (g2.trans g3))⟩
     cases ev:dB kvs k' with
     |none=>rw[HR.valN ev];exact rz
     |some w=>
      obtain⟨w',hw,rw'⟩:=HR.val ev
      rw[hw];exact rw'
    ·exact h3.elim
   ·exact h1.elim
  ·exact h1.elim⟩⟩
def oz(kvs:List (bb×Int))(te tf:aN):aN:=fun σ S Q E=>te σ S (fun y S2=>tf σ S2 (fun z S3=>match hV y with|some k=>Q (((kvs.find? fun kv=>decide (kv.1=k)).map fun kv=>PV.int kv.2).getD z) S3|none=>False) E) E
def wX{x:Str}{px:Pos}{a:Addr}{kvs:List (bb×Int)}(hu:X.A.units+1 < cLine)(hg:Gl X x)(hm:X.mg x=some (.ref a))(hD:KD X.prog X.w X.K a (kvs.map fun kv=>(kv.1,V.int kv.2)))(he:aY X e te)(hf:aY X f tf)(m:M2 X (.Name x px) "get" apos e f cpos)
  (hd:(x == ("__debug__":Str))=false:=by decide):aY X (.Call (.Attribute (.Name x px) "get" apos) [e,f] [] cpos) (oz kvs te tf):=
 ⟨aK (tY hu hg hm hD he.ok hf.ok m hd) fun σ H Q ⟨σ3,S,Q3,E3,rσ,rS,h,xo,k⟩=>⟨σ3,S,_,E3,rσ,rS,h,xo,fun y S2 y' H2 h2 ry CU g2=>⟨σ3,S2,_,E3,rσ.mono g2,CU,h2,xo.mono g2,fun z S3 z' H3 h3 rz Em g3=>by
  dsimp only at h3
  split at h3
  ·rename_i k' ek
   have e1:=cn (ry.mono g3) ek
   subst e1
   refine⟨_,rfl,k _ S3 _ H3 h3 ?_ Em (g2.trans g3)⟩
   have:∀l:List (bb×Int),Rep X.K H3 ((fz (l.map fun kv=>(kv.1,V.int kv.2)) k').getD z') (((l.find? fun kv=>decide (kv.1=k')).map fun kv=>PV.int kv.2).getD z):=by
    intro l
    induction l with
    |nil=>exact rz
    |cons q r ih=>
     rw[List.map_cons,List.find?_cons]
     by_cases e:q.1=k'
     ·rw[Cy e,decide_eq_true e];exact .int _
     ·rw[B8 e,decide_eq_false e];exact ih
   exact this kvs
  ·exact h3.elim⟩⟩⟩
def l8(te:aN):aN:=fun σ S Q E=>te σ S (fun x S1=>match x with
 | .ref a=>(match S1 a with|some (.lst xs)=>∀p,S1 p=none->Q (.ref p) (Bc S1 p (.lst xs.reverse))|_=>False)
 |_=>False) E
def wY{p1 p2 q1 q2:Pos}(hs:starEach [e] X.env=[(false,eval e X.env)])(hc:X.calm=true)(he:aY X e te)(Fw:Gl X "list")(hm1:X.mg "list" = none)(El:Gl X "reversed")(hm2:X.mg "reversed" = none):aY X (.Call (.Name "list" p1) [.Call (.Name "reversed" p2) [e] [] q2] [] q1) (l8 te):=
 ⟨aK (mW hc he.ok Fw hm1 El hm2 hs rfl) fun σ H Q ⟨σ3,S,Q3,E3,rσ,rS,h,xo,k⟩=>⟨σ3,S,_,E3,rσ,rS,h,xo,fun x S1 v H1 h1 rx Bn g1=>by
  dsimp only at h1
  split at h1
  ·cases rx
   split at h1
   ·rename_i ea
    obtain⟨vs,hv,rs⟩:=Bn _ _ ea
    exact⟨_,_,rfl,SqL.of hv,fun q hq=>k _ _ _ _ (h1 q (Bn.free hq)) (.ref q) (Bn.new hq ⟨_,ar,rs.reverse.mono (.new hq)⟩) (g1.trans (.new hq))⟩
   ·exact h1.elim
  ·exact h1.elim⟩⟩
end
def bA:R3:=bP fun i j=>.int (i - j)
def fB:R3:=fH (fun _ j=>j≠0) fun i j=>.int (i.fmod j)
def iR:R3:=fH lZ fun i j=>.int (i.fdiv j)
def rP:R3:=fH v6 fun i j=>.int (i ^ j.toNat)
def jW:R3:=bP fun i j=>.bl (decide (i < j))
def wZ:R3:=bP fun i j=>.bl (decide (i<=j))
def jX:R3:=bP fun i j=>.bl (decide (j < i))
def yT:R3:=bP fun i j=>.bl (decide (j<=i))
section
variable {X:Cx}
def cZ:fN X (binaryOp .Sub) bA:=wN
def eU:fN X (binaryOp .Mod) fB:=wO
def ll:fN X (binaryOp .FloorDiv) iR:=t7
def yU:fN X (binaryOp .Pow) rP:=wP
def iZ:fN X (compareOp .Lt) jW:=yE
def yV:fN X (compareOp .LtE) wZ:=yF
def j8:fN X (compareOp .Gt) jX:=yG
def Am:fN X (compareOp .GtE) yT:=yH
end
def sQ{A:Around}{k:Nat}(hr:Room k A):A.units+1 < cLine:=by have:=hr.un;omega
def gy{A:Around}{k:Nat}(hr:Room k A):A.units+150 < cLine:=by have:=hr.un;omega
def eB{A:Around}{k:Nat}(hr:Room k A):A.units+160 < cLine:=by have:=hr.un;omega
structure zI (K:Vo) (mg:Vr) (x:Str) (st:Stmt) (ps:Vs) (f:Addr) (fd:FuncData):Prop where
 F:E8 K x x st f fd
 b:Binds K fd ps []
 k:PySem.W.keepIn K (.ref f)=true
 m:mg x=some (.ref f)
def EO.zero{P:Program}{w:World}{K:Vo}{mg:Vr}{base:Heap}{k:Nat}{f:Addr}{fd:FuncData}{ps:Vs}{sp:aF}(h:sp=fun _ _ _ _=>False):EO P w K mg base k f fd ps sp:=by
 subst h
 exact⟨⟨fun vs H Q E q=>q.1,fun A outer s H args us vs Q E _ _ _ _ ⟨_,_,_,_,_,_,_,q,_⟩=>q.elim⟩⟩
def An{K:Vo}{H:Hp}{a:Addr}{ns:Vu}{sp:aF}(hO:tS H)(hS:SqL K H a (ns.map V.int))(h:sp [.cl (ns.map PV.int)] (fun _=>none) (fun v _=>v = .bl true) eI):yR K 1 sp [.ref a] H (fun v _=>v = .bl true) fun _ _ _=>False:=by
 have hr:∀l:List Int,Reps K H (l.map V.int) (l.map PV.int):=by
  intro l
  induction l with
  |nil=>exact .nil
  |cons x r ih=>exact .cons (.int x) ih
 refine⟨rfl,[.cl (ns.map PV.int)],fun _=>none,_,eI,.cons (.cl (vs:=ns.map V.int) ?_ (hr ns)) .nil,(fun b o e=>by simp at e),h,fun p S' v H' q rv rS g=>?_⟩
 ·rcases hS with(q|q)|q
  ·rcases hO a with z|⟨o,xs,z⟩
   ·rw[z]at q;cases q
   ·rw[z]at q;cases q
  ·exact .inl q
  ·exact .inr q
 ·subst q
  cases rv
  rfl
end L3
namespace L2
open PySem PySem.Spec PyProof.Rows
section
variable {X:Cx}
end
end L2
namespace HT
open PySem PySem.Spec PyProof.Rows
section
variable {prog:Program} {w:World} {A:Around} {E:Vq} {s:Shared}
end
end HT
namespace L2
open PySem PySem.Spec PyProof.Rows
section
variable {X:Cx} {e st:Expr} {te ts:TE} {p2 pos:Pos}
end
end L2
namespace L3
open PySem L2
section
variable {X:Cx} {e st:Expr} {te ts:aN} {p2 pos:Pos}
end
end L3
namespace L2
open PySem PySem.Spec PyProof.Rows
section
variable {X:Cx}
noncomputable def uq:V->List V->Hp->VK->Prop:=fun x vs H Q=>∃(l:Addr) (xs:List V) (j:Nat) (y:V),x = .ref l/\vs=[.int j,y]/\H l=some (.lst xs)/\j<=xs.length/\xs.length < sizeLine/\Q .non (upd H l (.lst (xs.take j++y::xs.drop j)))
def pM:xK X "list.insert" uq:=by
 intro pins s σ H x vs v us Q I rx rv h
 obtain⟨l,xs,j,y,rfl,rfl,hH,hj,hz,q⟩:=h
 cases rx
 cases rv with
 |@cons _ u0 _ IS r1 rr=>
  obtain⟨u,rfl,ru⟩:∃u,IS=[u]/\RelV y u:=by
   cases rr with
   |@cons _ u _ us r2 r3=>cases r3;exact⟨u,rfl,r2⟩
  obtain⟨tk,rfl⟩:∃tk,u0 = .int (j:Int) tk:=r1
  obtain⟨z,its,n,r,hl,e⟩:=I.Dx hH
  have hfit:¬(!Builtin.List.listFitsIndex (j:Int))=true:=by
   have:j < 2 ^ 62:=Nat.lt_of_le_of_lt hj (Nat.lt_of_lt_of_le hz (by decide))
   simp[Builtin.List.listFitsIndex]
   omega
  have hs1:its.toArray.size<=sizeLine:=by rw[List.size_toArray];omega
  generalize hx:(j:Int)=x at hfit
  refine call_meets F.slot_list_insert ⟨_,e,rfl⟩ F.entry_list_insert (F.args_list_insert_3 _ _ _) (PySem.AutoSeq1.list_insert_list_int_val_1 l its.toArray n x tk u hfit hs1) ⟨e,?_⟩
  refine⟨.non,_,I.Ek (its':=its.take j++u::its.drop j) hH e ?_ ((r.take j).append (.cons ru (r.drop j))) ?_,rfl,q⟩
  ·show((its.toArray.extract 0 (if x < 0 then (x+(its.toArray.size:Int)).toNat else min x.toNat its.toArray.size)).push u++its.toArray.extract (if x < 0 then (x+(its.toArray.size:Int)).toNat else min x.toNat its.toArray.size))=_
   have hl2:its.length=xs.length:=r.length.symm
   have ek:(if x < 0 then (x+(its.toArray.size:Int)).toNat else min x.toNat its.toArray.size)=j:=by
    rw[if_neg (by omega),<-hx,Int.toNat_natCast,List.size_toArray]
    omega
   rw[ek]
   apply Array.toList_inj.mp
   simp[List.extract_eq_take_drop]
   exact List.take_of_length_le (by rw[List.length_drop];exact Nat.le_refl _)
  ·rw[List.length_append,List.length_cons,List.length_take,List.length_drop]
   omega
end
end L2
namespace L3
open PySem L2
section
variable {X:Cx} {a b c:Expr} {ta tb tc:aN} {pos:Pos}
def jH(r r':R3)(ta tb tc:aN):aN:=fun σ S Q E=>ta σ S (fun x S1=>tb σ S1 (fun y S2=>r x y S2 fun z S3=>match z with | .bl k=>if k=true then tc σ S3 (fun w S4=>r' y w S4 Q) E else Q (.bl false) S3|_=>False) E) E
def nq{r r':R3}{σ:L2.St}{H:Hp}{Q:VK}:LE X (jH r r' ta tb tc) σ H Q->qB (LR X r) (LR X r') (LE X ta) (LE X tb) (LE X tc) σ H Q:=fun⟨σ3,S,Q3,E3,rσ,rS,h,xo,k⟩=>
 ⟨σ3,S,_,E3,rσ,rS,h,xo,fun x S1 v H1 h1 rx Bn g1=>⟨σ3,S1,_,E3,rσ.mono g1,Bn,h1,xo.mono g1,fun y S2 u H2 h2 ry CU g2=>⟨x,y,S2,_,rx.mono g2,ry,CU,h2,fun z S3 w H3 h3 rz Em g3=>by
  split at h3
  ·rename_i k'
   cases rz
   refine⟨k',rfl,?_⟩
   cases k' with
   |false=>rw[if_neg (by decide)]at h3 ⊢;exact k _ S3 _ H3 h3 (.bl false) Em (g1.trans (g2.trans g3))
   |true=>
    rw[if_pos rfl]at h3 ⊢
    exact⟨σ3,S3,_,E3,rσ.mono (g1.trans (g2.trans g3)),Em,h3,xo.mono (g1.trans (g2.trans g3)),fun w' S4 v4 H4 h4 r4 G5 g4=>⟨y,w',S4,Q3,ry.mono (g3.trans g4),r4,G5,h4,k.mono (g1.trans (g2.trans (g3.trans g4)))⟩⟩
  ·exact h3.elim⟩⟩⟩
def oA{op op':CmpOp}{r r':R3}(ho:fN X (compareOp op) r)(ho':fN X (compareOp op') r')(ha:aY X a ta)(hb:aY X b tb)(hc:aY X c tc)(hm:lastMarks [op,op'] [b,c]=false:=by with_unfolding_all rfl):mG X (.Compare a [op,op'] [b,c] pos) (aI (jH r r' ta tb tc)):=
 ⟨k9 (qC ho.ok ho'.ok ha.ok hb.ok hc.ok hm) fun σ H Q ⟨σ3,S,Q3,E3,rσ,rS,h,xo,k⟩=>nq ⟨σ3,S,_,E3,rσ,rS,h,xo,fun p S' v H' h1 rv CQ g=>by
  cases p with
  |bl z=>cases rv;exact⟨z,rfl,k z S' H' h1 CQ g⟩
  |_=>exact h1.elim⟩⟩
def jc:mH:=fun x ps S Q=>match x,ps with
 | .ref a,[.int i,y]=>(match S a with|some (.lst xs)=>0<=i/\i<=xs.length/\xs.length < sizeLine/\Q .non (Bc S a (.lst (xs.take i.toNat++y::xs.drop i.toNat)))|_=>False)
 |_,_=>False
def rQ:pG X "list.insert" jc:=⟨fun pins s σ H x xs v us Q I rx rs ⟨px,ps,S,Q3,r1,rp,rS,q,k⟩=>by
 unfold jc at q
 split at q
 ·rename_i i y
  split at q
  ·rename_i e
   cases r1
   cases rp with
   |cons b rr=>
    cases b
    cases rr with
    |cons b2 rr=>
     cases rr
     obtain⟨vs,hv,rl⟩:=rS _ _ e
     obtain⟨j,rfl⟩:=Int.eq_ofNat_of_zero_le q.1
     exact pM pins s σ H _ _ v us Q I rx rs ⟨_,_,j,_,rfl,rfl,hv,by rw[rl.length];have:=q.2.1;omega,by rw[rl.length];exact q.2.2.1,k _ _ _ _ q.2.2.2 .non (rS.put hv trivial ⟨_,ar,((rl.take j).append (.cons b2 (rl.drop j))).mono (.mut hv trivial)⟩) (.mut hv trivial)⟩
  ·exact q.elim
 ·exact q.elim⟩
end
end L3
namespace L2
open PySem PySem.Spec PyProof.Rows PySem.AutoSeq1
section
variable {X:Cx}
end
end L2
namespace L3
open PySem L2
section
variable {X:Cx}
end
end L3
namespace C
open PySem L2 L3
noncomputable def k_SIDES_FROM:List (bb×Int):=[(Sum.inr "then",1),(Sum.inr "either",1),(Sum.inr "take",3),(Sum.inr "often",1)]
def eV:bG:=(af (au 3 (a_ (ba (bd (v3 0) (jx (v3 1)) (jx (c3 (.int 63))))) (.n 0) cL (am jy [(v3 0),(ah bA (c3 (.int 0)) (v3 0))]) 1 []))
  (af (au 4 (ah aV (c3 (.int 7919)) (v3 1)))
  (af (cX (ba (v3 3)) (.n 2) (au 4 (ah fB (ah aV (ah gq (v3 4) (c3 (.int 48271))) (ah fB (v3 2) (c3 (.int 2147483629)))) (c3 (.int 2147483647)))))
  (az (jG [((c3 (.str "seed")),(v3 4)),((c3 (.str "number")),(c3 (.int 0))),((c3 (.str "left")),(l8 (a_ (ba (v3 3)) (.n 0) (aI (ah yT (v3 0) (ah rP (c3 (.int 10)) (c3 (.int 18))))) (v3 0) 1 [])))])))))
def eW:bG:=(af (ic (gj (aI (ah (bo false) (ah ag (v3 0) (c3 (.str "number"))) (c3 (.int 0)))) (aI (ah jX (am bw [(ah ag (v3 0) (c3 (.str "left")))]) (c3 (.int 0))))) (li (eF "list" l4 (ah ag (v3 0) (c3 (.str "left"))) []) (v3 0) (c3 (.str "number"))))
  (af (au 2 (ah ag (v3 0) (c3 (.str "number"))))
  (af (bq (aI (ah jX (v3 2) (c3 (.int 0)))) (af (li (ah iR (v3 2) (v3 1)) (v3 0) (c3 (.str "number")))
  (az (ah fB (v3 2) (v3 1)))) aO)
  (af (au 3 (ah fB (ah aV (ah gq (ah ag (v3 0) (c3 (.str "seed"))) (c3 (.int 48271))) (c3 (.int 7919))) (c3 (.int 2147483647))))
  (af (li (ah fB (ah aV (ah gq (v3 3) (c3 (.int 40692))) (c3 (.int 104729))) (c3 (.int 2147483399))) (v3 0) (c3 (.str "seed")))
  (af (au 4 (ah fB (ah gq (ah ag (v3 0) (c3 (.str "seed"))) (ah ag (v3 0) (c3 (.str "seed")))) (c3 (.int 2147483563))))
  (az (ah fB (ah aV (ah gq (ah fB (ah gq (v3 3) (v3 3)) (c3 (.int 2147483629))) (c3 (.int 2147483563))) (v3 4)) (v3 1)))))))))
def fQ:bG:=(af (pH 2 3 (am jy [(v3 0),(ah bA (c3 (.int 0)) (v3 0))]) (v3 1))
  (af (ic (aI (ah jX (v3 3) (c3 (.int 0)))) (pH 2 3 (v3 3) (ah fB (v3 2) (v3 3))))
  (az (aB [(ah iR (v3 0) (v3 2)),(ah iR (v3 1) (v3 2))]))))
def dN(Bb:aF):bG:=(af (au 2 (c3 (.str "abcdefghijklmnopqrstuvwxyz")))
  (af (au 3 (bn [(c3 (.str "jars")),(c3 (.str "deed")),(c3 (.str "rest")),(c3 (.str "pay")),(c3 (.str "put")),(c3 (.str "then")),(c3 (.str "either")),(c3 (.str "take")),(c3 (.str "often")),(c3 (.str "use"))]))
  (af (au 5 (eF "str" kC (c3 (.str "")) [(a_ (j7 (ae Bb [(v3 0),(c3 (.int 6))])) (.n 0) cL (ah ag (v3 2) (ae Bb [(v3 1),(c3 (.int 26))])) 1 [0,2])]))
  (af (jC 6 7 8 (aB [(ae Bb [(v3 0),(ah aV (am bw [(v3 5)]) (c3 (.int 1)))]),(ae Bb [(v3 0),(c3 (.int 26))]),(ah (bo false) (ae Bb [(v3 0),(c3 (.int 2))]) (c3 (.int 0)))]))
  (af (au 9 (bn []))
  (af (cX (j7 (v3 1)) (.n 4) (af (au 10 (ah aV (ah aV (bd (v3 5) j4 (jx (v3 6))) (ah ag (v3 2) (ah fB (ah aV (v3 7) (v3 4)) (c3 (.int 26))))) (bd (v3 5) (jx (v3 6)) j4)))
  (af (bq (cA (aI (v3 8))) (au 10 (eF "str" kC (c3 (.str "")) [(a_ (j7 (ah aV (c3 (.int 1)) (ae Bb [(v3 0),(c3 (.int 6))]))) (.n 0) cL (ah ag (v3 2) (ae Bb [(v3 1),(c3 (.int 26))])) 1 [0,2])])) aO)
  (af (ic (gc (aI (ah (jv false) (v3 10) (v3 3))) (aI (ah (jv false) (v3 10) (v3 9)))) (au 10 (ah aV (ah ag (v3 2) (ah fB (ah aV (eF "str" hW (v3 2) [(ah ag (v3 10) (c3 (.int 0)))]) (c3 (.int 1))) (c3 (.int 26)))) (bd (v3 10) (jx (c3 (.int 1))) j4))))
  (aW (eF "list" bh (v3 9) [(v3 10)]))))))
  (az (v3 9))))))))
def eX(Bb DY:aF):bG:=(af (au 1 (ae Bb [(v3 0),(c3 (.int 4))]))
  (af (bq (aI (ah (bo false) (v3 1) (c3 (.int 0)))) (az (aB [(c3 (.int 0)),(c3 (.int 1))])) aO)
  (af (bq (aI (ah jW (v3 1) (c3 (.int 3)))) (az (aB [(ah aV (c3 (.int 1)) (ae Bb [(v3 0),(c3 (.int 5))])),(c3 (.int 1))])) aO)
  (az (ae DY [(ae Bb [(v3 0),(c3 (.int 1000))]),(ah aV (c3 (.int 1)) (ae Bb [(v3 0),(c3 (.int 9))]))])))))
def ck(Bb DQ:aF):bG:=(af (au 2 (ae Bb [(v3 0),(c3 (.int 7))]))
  (af (bq (aI (ah (bo false) (v3 2) (c3 (.int 0)))) (az (aB [(c3 (.str "rest"))])) aO)
  (af (bq (gc (aI (ah jW (v3 2) (c3 (.int 4)))) (aI (ah (bo false) (am bw [(v3 1)]) (c3 (.int 0))))) (az (aB [(c3 (.str "pay")),(ae DQ [(v3 0)])])) aO)
  (af (au 3 (ah ag (bn [(c3 (.int 1)),(c3 (.int 2)),(ah aV (c3 (.int 1)) (ae Bb [(v3 0),(c3 (.int 9))]))]) (ae Bb [(v3 0),(c3 (.int 3))])))
  (az (aB [(c3 (.str "put")),(ah ag (v3 1) (ae Bb [(v3 0),(am bw [(v3 1)])])),(v3 3)]))))))
def eY(Bb Bp s0:aF):bG:=(af (au 4 (ae Bb [(v3 0),(c3 (.int 12))]))
  (af (bq (gc (aI (ah (bo false) (v3 3) (c3 (.int 0)))) (gc (aI (ah jW (ah ag (v3 2) (c3 (.int 0))) (c3 (.int 2)))) (aI (ah jW (v3 4) (c3 (.int 3)))))) (az (ae Bp [(v3 0),(v3 1)])) aO)
  (af (bq (aI (ah jW (v3 4) (c3 (.int 5)))) (af (li (ah bA (ah ag (v3 2) (c3 (.int 0))) (c3 (.int 1))) (v3 2) (c3 (.int 0)))
  (az (aB [(c3 (.str "often")),(ae s0 [(v3 0),(v3 1),(v3 2),(ah bA (v3 3) (c3 (.int 1)))])]))) aO)
  (af (li (ah bA (ah ag (v3 2) (c3 (.int 0))) (c3 (.int 2))) (v3 2) (c3 (.int 0)))
  (af (au 5 (ae s0 [(v3 0),(v3 1),(v3 2),(ah bA (v3 3) (c3 (.int 1)))]))
  (af (au 6 (ae s0 [(v3 0),(v3 1),(v3 2),(ah bA (v3 3) (c3 (.int 1)))]))
  (af (bq (aI (ah jW (v3 4) (c3 (.int 8)))) (az (aB [(c3 (.str "then")),(v3 5),(v3 6)])) aO)
  (af (bq (gc (aI (ah (bo false) (v3 4) (c3 (.int 8)))) (aI (ah (bo false) (am bw [(v3 1)]) (c3 (.int 0))))) (az (aB [(c3 (.str "either")),(v3 5),(v3 6)])) aO)
  (af (au 7 (ah ag (bn [(c3 (.int 1)),(c3 (.int 1)),(c3 (.int 2)),(ah aV (c3 (.int 1)) (ae Bb [(v3 0),(c3 (.int 9))]))]) (ae Bb [(v3 0),(c3 (.int 4))])))
  (az (aB [(c3 (.str "take")),(ah ag (v3 1) (ae Bb [(v3 0),(am bw [(v3 1)])])),(v3 7),(v3 5),(v3 6)])))))))))))
def bS(s0:aF):bG:=(af (bq (aI (ah (bo false) (ah ag (v3 0) (c3 (.int 0))) (c3 (.str "then")))) (az (ah gq (ae s0 [(ah ag (v3 0) (c3 (.int 1)))]) (ae s0 [(ah ag (v3 0) (c3 (.int 2)))]))) aO)
  (af (bq (gc (aI (ah (bo false) (ah ag (v3 0) (c3 (.int 0))) (c3 (.str "either")))) (aI (ah (bo false) (ah ag (v3 0) (c3 (.int 0))) (c3 (.str "take"))))) (az (ah aV (ae s0 [(ah ag (v3 0) (iY cp (c3 (.int 2))))]) (ae s0 [(ah ag (v3 0) (iY cp (c3 (.int 1))))]))) aO)
  (az (c3 (.int 1)))))
def bK(BJ s0:aF):bG:=(af (bq (aI (ah (bo false) (ah ag (v3 0) (c3 (.int 0))) (c3 (.str "often")))) (az (ah aV (ae BJ [(ah ag (v3 0) (c3 (.int 1)))]) (ae s0 [(ah ag (v3 0) (c3 (.int 1)))]))) aO)
  (af (bq (aI (ah (jv false) (ah ag (v3 0) (c3 (.int 0))) (aB [(c3 (.str "then")),(c3 (.str "either")),(c3 (.str "take"))]))) (az (ah aV (ae s0 [(ah ag (v3 0) (iY cp (c3 (.int 2))))]) (ae s0 [(ah ag (v3 0) (iY cp (c3 (.int 1))))]))) aO)
  (az (c3 (.int 0)))))
def b6(CL BJ CZ Bp:aF):bG:=(af (au 4 (ae CL [(v3 0),(v3 1),(bn [(ah bA (v3 2) (c3 (.int 1)))]),(c3 (.int 5))]))
  (af (bq (aI (ah jX (ah aV (ae BJ [(v3 4)]) (ae CZ [(v3 4)])) (v3 3))) (au 4 (aB [(c3 (.str "then")),(aB [(c3 (.str "often")),(ae Bp [(v3 0),(v3 1)])]),(ae Bp [(v3 0),(v3 1)])])) aO)
  (az (v3 4))))
def dO(BK Bb C9:aF):bG:=(af (au 4 (ae BK [(v3 0),(c3 (.int 8))]))
  (af (au 5 (am br [(bd (v3 4) j4 (jx (ae Bb [(v3 0),(ah aV (v3 1) (c3 (.int 1)))])))]))
  (af (au 6 (ah ag (bn [(c3 (.int 0)),(c3 (.int 4))]) (ae Bb [(v3 0),(c3 (.int 2))])))
  (af (au 7 (ah aV (c3 (.int 1)) (ae Bb [(v3 0),(v3 2)])))
  (af (au 8 (a_ (j7 (v3 7)) (.n 0) cL (aB [(ah ag (v3 6) (ah aV (v3 2) (v3 0))),(ae C9 [(v3 1),(v3 3),(v3 5),(ah iR (c3 (.int 24)) (v3 4))])]) 1 [0,6,5,7,3,4]))
  (az (aB [(v3 5),(am br [(v3 8)])])))))))
def fR:bG:=(az (bd (v3 0) (jx (oz C.k_SIDES_FROM (ah ag (v3 0) (c3 (.int 0))) (am bw [(v3 0)]))) j4))
def fS(C0 s0:aF):bG:=(af (au 1 (bn [(v3 0)]))
  (af (cX (ba (ae C0 [(v3 0)])) (.n 2) (aW (eF "list" bt (v3 1) [(ae s0 [(v3 2)])])))
  (az (v3 1))))
def lm(DZ:aF):bG:=(az (am bw [(ae DZ [(v3 0)])]))
def di(s0:aF):bG:=(af (bq (aI (ah (bo false) (ah ag (v3 0) (c3 (.int 0))) (c3 (.str "then")))) (az (aB [(ae s0 [(ah ag (v3 0) (c3 (.int 1)))]),(ae s0 [(ah ag (v3 0) (c3 (.int 2)))])])) aO)
  (af (bq (aI (ah (bo false) (ah ag (v3 0) (c3 (.int 0))) (c3 (.str "either")))) (az (aB [(c3 (.int 0)),(ae s0 [(ah ag (v3 0) (c3 (.int 1)))])])) aO)
  (af (bq (aI (ah (bo false) (ah ag (v3 0) (c3 (.int 0))) (c3 (.str "take")))) (az (aB [(c3 (.int 1)),(ae s0 [(ah ag (v3 0) (c3 (.int 4)))])])) aO)
  (az (aB [])))))
def dj(EY CV s0:aF):bG:=(af (bq (aI (ah (bo false) (v3 1) (c3 (.int 0)))) (az (v3 2)) aO)
  (af (bq (aI (ah (bo false) (ah ag (v3 0) (c3 (.int 0))) (c3 (.str "often")))) (az (aB [(aB [(c3 (.int 1)),(ae s0 [(ah ag (v3 0) (c3 (.int 1))),(ah bA (v3 1) (c3 (.int 1))),(v3 2)])])])) aO)
  (af (au 3 (ah ag (v3 0) (iY cp (c3 (.int 2)))))
  (af (au 4 (ah ag (v3 0) (iY cp (c3 (.int 1)))))
  (af (au 5 (ah aV (c3 (.int 1)) (ae EY [(v3 3)])))
  (af (au 6 (pF (aI (ah jW (v3 1) (v3 5))) (c3 (.int 0)) (c3 (.int 1))))
  (af (au 7 (pF (aI (ah (bo false) (v3 6) (c3 (.int 0)))) (ae s0 [(v3 3),(ah bA (v3 1) (c3 (.int 1))),(v3 2)]) (ae s0 [(v3 4),(ah bA (v3 1) (v3 5)),(v3 2)])))
  (af (bq (aI (ah (bo true) (ah ag (v3 0) (c3 (.int 0))) (c3 (.str "then")))) (az (aB [(v3 6),(v3 7)])) aO)
  (af (bq (aI (ah (bo false) (v3 6) (c3 (.int 0)))) (az (aB [(v3 7),(ae CV [(v3 4)])])) aO)
  (az (aB [(ae CV [(v3 3)]),(v3 7)])))))))))))
def eZ(s0:aF):bG:=(af (bq (aI (ah (bo false) (ah ag (v3 0) (c3 (.int 0))) (c3 (.str "put")))) (aW (eF "list" bh (v3 2) [(ah ag (v3 0) (c3 (.int 1)))])) aO)
  (af (bq (aI (ah (bo false) (ah ag (v3 0) (c3 (.int 0))) (c3 (.str "often")))) (aW (ae s0 [(ah ag (v3 0) (c3 (.int 1))),(v3 1),(v3 2)])) aO)
  (bq (aI (ah (jv false) (ah ag (v3 0) (c3 (.int 0))) (aB [(c3 (.str "then")),(c3 (.str "either")),(c3 (.str "take"))]))) (af (bq (gc (aI (ah (bo true) (ah ag (v3 0) (c3 (.int 0))) (c3 (.str "take")))) (aI (ah (jv false) (ah ag (v3 0) (c3 (.int 1))) (v3 1)))) (aW (ae s0 [(ah ag (v3 0) (iY cp (c3 (.int 2)))),(v3 1),(v3 2)])) aO)
  (aW (ae s0 [(ah ag (v3 0) (iY cp (c3 (.int 1)))),(v3 1),(v3 2)]))) aO)))
def cr(DR:aF):bG:=(af (au 1 (bn []))
  (af (cX (ba (ah ag (v3 0) (c3 (.int 0)))) (.n 2) (af (au 3 (bn []))
  (af (cX (ba (ah ag (v3 0) (c3 (.int 1)))) (.tp (.cons (.n 4) (.cons (.n 5) .nil))) (aW (ae DR [(v3 5),(v3 1),(v3 3)])))
  (au 1 (v3 3)))))
  (az (v3 1))))
def cO(s0:aF):bG:=(af (bq (aI (ah (bo false) (ah ag (v3 0) (c3 (.int 0))) (c3 (.str "put")))) (az (aB [(c3 (.str "put")),(l7 (v3 1) (ah ag (v3 0) (c3 (.int 1))) (ah ag (v3 0) (c3 (.int 1)))),(ah ag (v3 0) (c3 (.int 2)))])) aO)
  (af (bq (aI (ah (bo false) (ah ag (v3 0) (c3 (.int 0))) (c3 (.str "often")))) (az (aB [(c3 (.str "often")),(ae s0 [(ah ag (v3 0) (c3 (.int 1))),(v3 1)])])) aO)
  (af (bq (aI (ah (jv false) (ah ag (v3 0) (c3 (.int 0))) (aB [(c3 (.str "then")),(c3 (.str "either")),(c3 (.str "take"))]))) (af (au 2 (aB [(ae s0 [(ah ag (v3 0) (iY cp (c3 (.int 2)))),(v3 1)]),(ae s0 [(ah ag (v3 0) (iY cp (c3 (.int 1)))),(v3 1)])]))
  (af (bq (aI (ah (bo false) (ah ag (v3 0) (c3 (.int 0))) (c3 (.str "take")))) (az (ah aV (aB [(c3 (.str "take")),(l7 (v3 1) (ah ag (v3 0) (c3 (.int 1))) (ah ag (v3 0) (c3 (.int 1)))),(ah ag (v3 0) (c3 (.int 2)))]) (v3 2))) aO)
  (az (ah aV (bd (v3 0) j4 (jx (c3 (.int 1)))) (v3 2))))) aO)
  (az (v3 0)))))
end C
namespace Zu
open PySem Zt
open Sem (wp)
def nn{a b:Nat}(h:a≠b):@Ne Addr a b:=h
section
variable {kd:Bool} {prog:Program} {w:World} {A:Around} {E:Vq} {s:Shared}
variable {n l1 l2 l3:Nat} {i:Nat} {xs ys zs:Vw} {x y z a b c:Value}
end
section
variable {kd:Bool} {prog:Program} {w:World} {A:Around} {E:Vq} {s:Shared}
end
end Zu
namespace L2
open PySem PySem.Spec PyProof.Rows
section
variable {X:Cx}
end
end L2
namespace L3
open PySem L2
section
variable {X:Cx} {a b c:Expr} {ta tb tc:aN} {p pos:Pos}
end
end L3
namespace L2
open PySem PySem.Spec PyProof.Rows
section
variable {X:Cx}
end
end L2
namespace L3
open PySem L2
section
variable {X:Cx}
end
end L3
namespace C
open PySem L2 L3
end C
namespace Zv
open PySem
open Sem (wp)
abbrev sR(h:Heap)(n:Nat)(f0 f1:Value):Prop:=h.get? (n+4:Nat)=some { cls:=.type "zip",dict:=none,data:=.fields #[f0,f1,.bool false,.ref (n+2:Nat),.ref (n+3:Nat)],slots:=#[] }
section
variable {prog:Program} {w:World} {A:Around} {E:Vq} {s:Shared} {n l1 l2:Nat} {i:Nat} {xs ys:Vw} {x y:Value} {T:Nat} {oT:Obj} {f1:Value}
def A0{M:Model}{a:Nat}{Q:Option Obj->Shared->Prop}(h:Q (s.heap.get? a) s):wpAny M A (loadIfAlive a) Q E s:=fun Γ p _=>h
def oB{Q:Bool->Shared->Prop}(gz:sR s.heap n (rawInt T) f1)(aT:s.heap.get? T=some oT)(hf:f1 = .bool false\/f1 = .bool true)
  (k:∀g,sR g n (rawInt T) (.bool true)->(∀c o,c≠n+4->s.heap.get? c=some o->g.get? c=some o)->g.objs.size=s.heap.objs.size->Q false { s with heap:=g }) :
  wpAny (model prog w) A (Builtin.SmallTypes.ownedTupleIsFree (.ref (n+4:Nat))) Q E s:=by
 unfold Builtin.SmallTypes.ownedTupleIsFree
 refine wpAny_bind (wpAny_field gz rfl (x:=rawInt T) rfl ?_)
 show wpAny _ _ (loadIfAlive ((T:Int).toNat) >>= _) _ _ _
 refine wpAny_bind (A0 ?_)
 rw[Int.toNat_natCast,aT]
 show wpAny _ _ (field (.ref (n+4:Nat)) 1 >>= _) _ _ _
 refine wpAny_bind (wpAny_field gz rfl (x:=f1) rfl ?_)
 rcases hf with rfl|rfl
 ·show wpAny _ _ (setField (.ref (n+4:Nat)) 1 (.bool true) >>= _) _ _ _
  exact wpAny_bind (wpAny_setField_rec gz (by simp) fun g z1 q1=>wpAny_pure (k g z1 (fun c o c1 e=>q1.extBut _ _ c1 e) q1.1))
 ·show wpAny _ _ (pure false) _ _ _
  exact wpAny_pure (k s.heap gz (fun _ _ _ e=>e) rfl)
def A1{Q:Vq}(d1:l1 < n)(d2:l2 < n)(gz:sR s.heap n (rawInt T) f1)(gI:IsPair s.heap (n+2:Nat) (.ref n) (.ref (n+1:Nat)))(aT:s.heap.get? T=some oT)(hf:f1 = .bool false\/f1 = .bool true)
  (g1:s.heap.IsListIter n l1 i) (g2:s.heap.IsListIter (n+1:Nat) l2 i) (t1:s.heap.IsList l1 xs) (t2:s.heap.IsList l2 ys) (hx:xs[i]?=some x) (hy:ys[i]?=some y)
  (k:∀g,sR g n (rawInt T) (.bool true)->g.IsListIter n l1 (i+1)->g.IsListIter (n+1:Nat) l2 (i+1)->IsPair g s.heap.objs.size x y->g.objs.size=s.heap.objs.size+1->
   (∀c o,c≠n+4->c≠n->c≠n+1->s.heap.get? c=some o->g.get? c=some o)->Q (.ref s.heap.objs.size) { s with heap:=g }) :
  wpAny (model prog w) A (Builtin.«zip.__next__» ⟨[.ref (n+4:Nat)],[]⟩) (fun fin s'=>∃v,fin = .done (.ret v)/\Q v s') E s:=by
 show wpAny _ _ (field (.ref (n+4:Nat)) 2 >>= _) _ _ _;refine wpAny_bind (wpAny_field gz rfl (x:=.bool false) rfl ?_)
 show wpAny _ _ (field (.ref (n+4:Nat)) 3 >>= _) _ _ _;refine wpAny_bind (wpAny_field gz rfl (x:=.ref (n+2:Nat)) rfl (wpAny_bind (wpAny_seqItems gI rfl ?_)))
 show wpAny _ _ (Builtin.SmallTypes.ownedTupleIsFree (.ref (n+4:Nat)) >>= _) _ _ _
 refine wpAny_bind (oB gz aT hf fun h₁ z1 q1 E_=>?_)
 simp only[Bool.false_eq_true,if_false]
 simp only[<-Array.forIn_toList,List.forIn_cons,List.forIn_nil]
 have G7:h₁.IsListIter n l1 i:=g1.at fun o e=>q1 _ o (by omega) e
 have IU:h₁.IsListIter (n+1:Nat) l2 i:=g2.at fun o e=>q1 _ o (by omega) e
 have t1':h₁.IsList l1 xs:=t1.at fun o e=>q1 _ o (by omega) e
 have IV:h₁.IsList l2 ys:=t2.at fun o e=>q1 _ o (by omega) e
 refine wpAny_bind (wpAny_bind (wpAny_bind (wpAny_holding ?_)))
 show wpAny _ _ (Builtin.SmallTypes.nextOf (.ref n) >>= _) _ _ _
 refine wpAny_bind (wpAny_nextOf_list_item G7 t1' hx fun h₂ n1 q2=>wpAny_pure ?_)
 have G8:h₂.IsListIter (n+1:Nat) l2 i:=IU.extBut q2.extBut (Zu.nn (by omega))
 have G9:h₂.IsList l2 ys:=IV.extBut q2.extBut (Zu.nn (by omega))
 refine wpAny_pure ?_
 refine wpAny_bind (wpAny_bind (wpAny_holding ?_))
 show wpAny _ _ (Builtin.SmallTypes.nextOf (.ref (n+1:Nat)) >>= _) _ _ _
 refine wpAny_bind (wpAny_nextOf_list_item G8 G9 hy fun h₃ n2 q3=>wpAny_pure ?_)
 refine wpAny_pure (wpAny_pure ?_)
 show wpAny _ _ (newTuple [x,y] >>= _) _ _ _
 refine wpAny_bind (wpAny_newTuple (wpAny_pure ⟨_,rfl,?_⟩))
 have sz:h₃.objs.size=s.heap.objs.size:=by rw[q3.1,q2.1,E_]
 have kk:∀c o,c≠n+4->c≠n->c≠n+1->s.heap.get? c=some o->h₃.get? c=some o:=fun c o c1 c2 c3 e=>q3.extBut _ _ c3 (q2.extBut _ _ c2 (q1 c o c1 e))
 have z3:sR h₃ n (rawInt T) (.bool true):=q3.extBut _ _ (Zu.nn (by omega)) (q2.extBut _ _ (Zu.nn (by omega)) z1)
 have m1:h₃.IsListIter n l1 (i+1):=n1.extBut q3.extBut (Zu.nn (by omega))
 have T8:IsPair (h₃.push { cls:=.type "tuple",data:=.seq #[x,y] }) h₃.objs.size x y:=Heap.get?_push_size _ rfl
 rw[sz]at T8
 show Q (.ref h₃.objs.size) _
 rw[sz]
 exact k _ (Heap.get?_push_of_some _ z3) (m1.at fun o e=>Heap.get?_push_of_some _ e) (n2.at fun o e=>Heap.get?_push_of_some _ e) T8 (by rw[Heap.size_push,sz]) fun c o c1 c2 c3 e=>Heap.get?_push_of_some _ (kk c o c1 c2 c3 e)
def Ao{Q:Fin->Shared->Prop}(hh:A.handled=none)(d1:l1 < n)(gz:sR s.heap n (rawInt T) f1)(gI:IsPair s.heap (n+2:Nat) (.ref n) (.ref (n+1:Nat)))(aT:s.heap.get? T=some oT)(hf:f1 = .bool false\/f1 = .bool true)
  (g1:s.heap.IsListIter n l1 i) (t1:s.heap.IsList l1 xs) (hx:xs[i]?=none)
  (k:∀(g:Heap) (e:Addr),(∀c o,c≠n+4->c≠n->s.heap.get? c=some o->g.get? c=some o)->(∃o,g.get? e=some o/\o.cls = .type "StopIteration")->E (.ref e) { s with heap:=g }) :
  wpAny (model prog w) A (Builtin.«zip.__next__» ⟨[.ref (n+4:Nat)],[]⟩) Q E s:=by
 show wpAny _ _ (field (.ref (n+4:Nat)) 2 >>= _) _ _ _;refine wpAny_bind (wpAny_field gz rfl (x:=.bool false) rfl ?_)
 show wpAny _ _ (field (.ref (n+4:Nat)) 3 >>= _) _ _ _;refine wpAny_bind (wpAny_field gz rfl (x:=.ref (n+2:Nat)) rfl (wpAny_bind (wpAny_seqItems gI rfl ?_)))
 show wpAny _ _ (Builtin.SmallTypes.ownedTupleIsFree (.ref (n+4:Nat)) >>= _) _ _ _
 refine wpAny_bind (oB gz aT hf fun h₁ z1 q1 E_=>?_)
 simp only[Bool.false_eq_true,if_false]
 simp only[<-Array.forIn_toList,List.forIn_cons,List.forIn_nil]
 have G7:h₁.IsListIter n l1 i:=g1.at fun o e=>q1 _ o (by omega) e
 have t1':h₁.IsList l1 xs:=t1.at fun o e=>q1 _ o (by omega) e
 refine wpAny_bind (wpAny_bind (wpAny_bind (wpAny_holding ?_)))
 show wpAny _ _ (Builtin.SmallTypes.nextOf (.ref n) >>= _) _ _ _
 exact wpAny_bind (wpAny_nextOf_list_end hh G7 t1' hx fun h₂ e q2 he=>k h₂ e (fun c o c1 c2 u=>q2 _ _ c2 (q1 c o c1 u)) he)
def yW{Q:Option Value->Shared->Prop}(d1:l1 < n)(d2:l2 < n)(gz:sR s.heap n (rawInt T) f1)(gI:IsPair s.heap (n+2:Nat) (.ref n) (.ref (n+1:Nat)))(aT:s.heap.get? T=some oT)(hf:f1 = .bool false\/f1 = .bool true)
  (g1:s.heap.IsListIter n l1 i) (g2:s.heap.IsListIter (n+1:Nat) l2 i) (t1:s.heap.IsList l1 xs) (t2:s.heap.IsList l2 ys) (hx:xs[i]?=some x) (hy:ys[i]?=some y)
  (k:∀g,sR g n (rawInt T) (.bool true)->g.IsListIter n l1 (i+1)->g.IsListIter (n+1:Nat) l2 (i+1)->IsPair g s.heap.objs.size x y->g.objs.size=s.heap.objs.size+1->
   (∀c o,c≠n+4->c≠n->c≠n+1->s.heap.get? c=some o->g.get? c=some o)->Q (some (.ref s.heap.objs.size)) { s with heap:=g }) :
  wpAny (model prog w) A (pyNext (.ref (n+4:Nat))) Q E s:=by
 have ty:s.TypeIs (.ref (n+4:Nat)) "zip":=⟨_,gz,rfl⟩
 unfold pyNext
 exact wpAny_bind (wpAny_attempt (wpAny_callSpecial?_slot (name:=Str.ofString "__next__") ty F.slot_zip_next (wpAny_call_entry F.slot_zip_next ty F.entry_zip_next
  (A1 d1 d2 gz gI aT hf g1 g2 t1 t2 hx hy fun g a1 a2 a3 a4 a5 a6=>wpAny_pure (k g a1 a2 a3 a4 a5 a6)) (F.args_zip_next_1 _))))
def pN{Q:Option Value->Shared->Prop}(hh:A.handled=none)(d1:l1 < n)(gz:sR s.heap n (rawInt T) f1)(gI:IsPair s.heap (n+2:Nat) (.ref n) (.ref (n+1:Nat)))(aT:s.heap.get? T=some oT)(hf:f1 = .bool false\/f1 = .bool true)
  (g1:s.heap.IsListIter n l1 i) (t1:s.heap.IsList l1 xs) (hx:xs[i]?=none)
  (k:∀g:Heap,(∀c o,c≠n+4->c≠n->s.heap.get? c=some o->g.get? c=some o)->Q none { s with heap:=g }):wpAny (model prog w) A (pyNext (.ref (n+4:Nat))) Q E s:=by
 have ty:s.TypeIs (.ref (n+4:Nat)) "zip":=⟨_,gz,rfl⟩
 unfold pyNext
 refine wpAny_bind (wpAny_attempt (wpAny_callSpecial?_slot (name:=Str.ofString "__next__") ty F.slot_zip_next (wpAny_call_entry F.slot_zip_next ty F.entry_zip_next (Ao hh d1 gz gI aT hf g1 t1 hx fun g e kk ⟨o,ho,hc⟩=>?_) (F.args_zip_next_1 _))))
 exact wpAny_bind (wpAny_isInstance (T:="StopIteration") (b:=true) ⟨o,ho,hc⟩ isSubtype_stop (wpAny_pure (k _ kk)))
end
noncomputable def dP(n i:Nat):List Value:=(List.range i).map fun j=>Value.ref (n+6+j:Nat)
structure St (h:Heap) (n l1 l2:Nat) (xs ys:Vw) (i:Nat):Prop where
 sz:h.objs.size=n+6+i
 I:IsPair h (n+2:Nat) (.ref n) (.ref (n+1:Nat))
 z:∃f1,(f1 = .bool false\/f1 = .bool true)/\sR h n (rawInt (n+6:Nat)) f1
 g1:h.IsListIter n l1 i
 g2:h.IsListIter (n+1:Nat) l2 i
 t1:h.IsList l1 xs
 t2:h.IsList l2 ys
 S:∃c,h.get? (n+5:Nat)=some { cls:=.type "list",dict:=none,data:=.seq (dP n i).toArray c,slots:=#[] }
 its:∀j x y,j < i->xs[j]?=some x->ys[j]?=some y->IsPair h (n+6+j:Nat) x y
def pO(n i:Nat):(dP n i).toArray.push (.ref (n+6+i:Nat))=(dP n (i+1)).toArray:=by
 unfold dP
 rw[List.range_succ,List.map_append]
 simp
structure zJ (h:Heap) (n:Nat) (xs ys:Vw):Prop where
 sz:n+6+xs.size<=h.objs.size
 S:∃c,h.get? (n+5:Nat)=some { cls:=.type "list",dict:=none,data:=.seq (dP n xs.size).toArray c,slots:=#[] }
 its:∀j x y,xs[j]?=some x->ys[j]?=some y->IsPair h (n+6+j:Nat) x y
section
variable {prog:Program} {w:World} {A:Around} {R:Result->Shared->Prop} {n l1 l2:Nat} {xs ys:Vw}
def loop(hh:A.in1.handled=none)(d1:l1 < n)(d2:l2 < n)(hxy:xs.size=ys.size)(hz:xs.size<=sizeLine)(res:Value) :
  ∀(k i:Nat) (s:Shared),xs.size - i=k->1<=i->i<=xs.size->St s.heap n l1 l2 xs ys i->
  (∀g,zJ g n xs ys->(∀b o,b < n->s.heap.get? b=some o->g.get? b=some o)->R (.ok (.ret res)) { s with heap:=g })->
  codeAny (model prog w) A (.builtin "list.extend.loop" ⟨[.ref (n+5:Nat),.ref (n+4:Nat),res],[]⟩) R s:=by
 intro k
 induction k with
 |zero=>
  intro i s hk hi hle st hR
  have hin:i=xs.size:=by omega
  subst hin
  refine codeAny_builtin F.entry_extend_loop ?_
  rw[Around.under_plainId F.plain_extend_loop _]
  show wpAny _ A.in1 (pyNext (.ref (n+4:Nat)) >>= _) _ _ s
  obtain⟨f1,hf,gz⟩:=st.z
  obtain⟨c,hS⟩:=st.S
  have h0:0 < xs.size:=by omega
  have aT:=st.its 0 (xs[0]'h0) (ys[0]'(by omega)) h0 (Array.getElem?_eq_getElem h0) (Array.getElem?_eq_getElem (by omega))
  have h1:xs.size - 1 < xs.size:=by omega
  have aL:=st.its (xs.size - 1) (xs[xs.size - 1]'h1) (ys[xs.size - 1]'(by omega)) h1 (Array.getElem?_eq_getElem h1) (Array.getElem?_eq_getElem (by omega))
  refine wpAny_bind (pN hh d1 gz st.I aT hf st.g1 st.t1 (Array.getElem?_eq_none (Nat.le_refl _)) fun g kk=>?_)
  refine wpAny_pure (hR g ⟨?_,⟨c,kk _ _ (by omega) (by omega) hS⟩,fun j x y hx hy=>kk _ _ (by omega) (by omega) (st.its j x y (Array.getElem?_eq_some_iff.mp hx).1 hx hy)⟩ fun b o hb e=>kk _ _ (by omega) (by omega) e)
  have h2:n+6+(xs.size - 1) < g.objs.size:=Heap.lt_size (kk _ _ (by omega) (by omega) aL)
  omega
 |succ k ih=>
  intro i s hk hi hle st hR
  have hlt:i < xs.size:=by omega
  refine codeAny_builtin F.entry_extend_loop ?_
  rw[Around.under_plainId F.plain_extend_loop _]
  show wpAny _ A.in1 (pyNext (.ref (n+4:Nat)) >>= _) _ _ s
  obtain⟨f1,hf,gz⟩:=st.z
  obtain⟨c,hS⟩:=st.S
  have h0:0 < xs.size:=by omega
  have aT:=st.its 0 (xs[0]'h0) (ys[0]'(by omega)) (by omega) (Array.getElem?_eq_getElem h0) (Array.getElem?_eq_getElem (by omega))
  refine wpAny_bind (yW d1 d2 gz st.I aT hf st.g1 st.g2 st.t1 st.t2 (x:=xs[i]) (y:=ys[i]'(by omega)) (Array.getElem?_eq_getElem hlt) (Array.getElem?_eq_getElem (by omega)) fun g z1 m1 m2 p1 E_ kk=>?_)
  have S1:=kk _ _ (by omega) (by omega) (by omega) hS
  have FX:s.heap.objs.size=n+6+i:=st.sz
  rw[FX]at p1 E_
  show wpAny _ A.in1 (updateSeq (n+5:Nat) (·.push (.ref s.heap.objs.size)) >>= _) _ _ _
  refine wpAny_bind ?_
  rw[FX]
  have len:(dP n i).toArray.size=i:=by unfold dP;simp
  have CP:∀b o,b≠n+5->g.get? b=some o->(g.update (n+5:Nat) (Obj.mapSeq (·.push (.ref (n+6+i:Nat))))).get? b=some o:=fun b o hb e=>(Heap.get?_update_other _ _ (Ne.symm hb)).trans e
  have S2:=Heap.get?_update_self (Obj.mapSeq (·.push (Value.ref (n+6+i:Nat)))) S1 rfl
  refine wpAny_updateSeq S1 rfl (wpAny_pure ⟨plainId_quiet F.plain_extend_loop _,ih (i+1) _ (by omega) (by omega) (by omega) ⟨?_,CP _ _ (by omega) (kk _ _ (by omega) (by omega) (by omega) st.I),⟨.bool true,.inr rfl,CP _ _ (by omega) z1⟩,m1.at fun o e=>CP _ _ (by omega) e,m2.at fun o e=>CP _ _ (by omega) e,(st.t1.at fun o e=>kk _ _ (by omega) (by omega) (by omega) e).at fun o e=>CP _ _ (by omega) e,(st.t2.at fun o e=>kk _ _ (by omega) (by omega) (by omega) e).at fun o e=>CP _ _ (by omega) e,?_,?_⟩ fun g' st' FY=>?_⟩) (by rw[len];omega) (by show((dP n i).toArray.push _).size<=sizeLine+1;rw[Array.size_push,len];omega)
  ·show(g.update _ _).objs.size=_
   rw[Heap.size_update,E_]
   omega
  ·rw[<-pO]
   exact⟨_,S2⟩
  ·intro j x y hj hx hy
   by_cases e:j=i
   ·subst e
    rw[Array.getElem?_eq_getElem hlt]at hx
    rw[Array.getElem?_eq_getElem (by omega)]at hy
    cases hx;cases hy
    exact CP _ _ (by omega) p1
   ·exact CP _ _ (by omega) (kk _ _ (by omega) (by omega) (by omega) (st.its j x y (by omega) hx hy))
  ·exact hR g' st' fun b o hb e=>FY b o hb (CP _ _ (by omega) (kk _ _ (by omega) (by omega) (by omega) e))
def first(hh:A.in1.handled=none)(d1:l1 < n)(d2:l2 < n)(hxy:xs.size=ys.size)(h1:1<=xs.size)(hz:xs.size<=sizeLine)(res:Value)(s:Shared)(c:Nat)(sz:s.heap.objs.size=n+6)
  (gz:IsZip s.heap (n+4:Nat) (n+2:Nat) (n+3:Nat) .none) (gI:IsPair s.heap (n+2:Nat) (.ref n) (.ref (n+1:Nat))) (gO:IsPair s.heap (n+3:Nat) .none .none) (g1:s.heap.IsListIter n l1 0) (g2:s.heap.IsListIter (n+1:Nat) l2 0) (t1:s.heap.IsList l1 xs) (t2:s.heap.IsList l2 ys)
  (hS:s.heap.get? (n+5:Nat)=some { cls:=.type "list",dict:=none,data:=.seq #[] c,slots:=#[] })
  (hR:∀g,zJ g n xs ys->(∀b o,b < n->s.heap.get? b=some o->g.get? b=some o)->R (.ok (.ret res)) { s with heap:=g }) :
  codeAny (model prog w) A (.builtin "list.extend.loop" ⟨[.ref (n+5:Nat),.ref (n+4:Nat),res],[]⟩) R s:=by
 refine codeAny_builtin F.entry_extend_loop ?_
 rw[Around.under_plainId F.plain_extend_loop _]
 show wpAny _ A.in1 (pyNext (.ref (n+4:Nat)) >>= _) _ _ s
 have h0:0 < xs.size:=by omega
 refine wpAny_bind (wpAny_pyNext_zip_item (PyProof.Rows.zipApart_new d1 d2) gz gI gO g1 g2 t1 t2 (x:=xs[0]'h0) (y:=ys[0]'(by omega)) (Array.getElem?_eq_getElem h0) (Array.getElem?_eq_getElem (by omega)) fun g z1 o1 m1 m2 p1 E_ kk=>?_)
 have S1:=kk _ _ (Zu.nn (by omega)) (Zu.nn (by omega)) (Zu.nn (by omega)) (Zu.nn (by omega)) hS
 rw[sz]at p1 E_ z1
 show wpAny _ A.in1 (updateSeq (n+5:Nat) (·.push (.ref s.heap.objs.size)) >>= _) _ _ _
 refine wpAny_bind ?_
 rw[sz]
 have CP:∀b o,b≠n+5->g.get? b=some o->(g.update (n+5:Nat) (Obj.mapSeq (·.push (.ref (n+6:Nat))))).get? b=some o:=fun b o hb e=>(Heap.get?_update_other _ _ (Ne.symm hb)).trans e
 have S2:=Heap.get?_update_self (Obj.mapSeq (·.push (Value.ref (n+6:Nat)))) S1 rfl
 have kb:∀b o,b < n->s.heap.get? b=some o->(g.update (n+5:Nat) (Obj.mapSeq (·.push (.ref (n+6:Nat))))).get? b=some o:=fun b o hb e=>CP _ _ (by omega) (kk b o (Zu.nn (by omega)) (Zu.nn (by omega)) (Zu.nn (by omega)) (Zu.nn (by omega)) e)
 refine wpAny_updateSeq S1 rfl (wpAny_pure ⟨plainId_quiet F.plain_extend_loop _,loop hh d1 d2 hxy hz res (xs.size - 1) 1 _ rfl (Nat.le_refl _) h1 ⟨?_,CP _ _ (by omega) (kk _ _ (Zu.nn (by omega)) (Zu.nn (by omega)) (Zu.nn (by omega)) (Zu.nn (by omega)) gI),⟨.bool false,.inl rfl,CP _ _ (by omega) z1⟩,m1.at fun o e=>CP _ _ (by omega) e,m2.at fun o e=>CP _ _ (by omega) e,t1.at fun o e=>kb _ _ d1 e,t2.at fun o e=>kb _ _ d2 e,⟨_,S2⟩,?_⟩ fun g' st' FY=>?_⟩) (by show 0<=sizeLine;omega) (by show 1<=sizeLine+1;omega)
 ·show(g.update _ _).objs.size=_
  rw[Heap.size_update,E_]
 ·intro j x y hj hx hy
  have e:j=0:=by omega
  subst e
  rw[Array.getElem?_eq_getElem h0]at hx
  rw[Array.getElem?_eq_getElem (by omega)]at hy
  cases hx;cases hy
  exact CP _ _ (by omega) p1
 ·exact hR g' st' fun b o hb e=>FY b o hb (kb b o hb e)
end
def nu:typeLookup (.type "zip") "__len__" = pure none:=by rw[typeLookup_type,builtinLookup_eq_fast];kernel_rfl
def l9:typeLookup (.type "zip") "__length_hint__" = pure none:=by rw[typeLookup_type,builtinLookup_eq_fast];kernel_rfl
section
variable {prog:Program} {w:World} {A:Around} {E:Vq} {s:Shared} {n l1 l2:Nat} {xs ys:Vw}
def l_{Q:List Value->Shared->Prop}(hh:A.handled=none)(d1:l1 < n)(d2:l2 < n)(hxy:xs.size=ys.size)(h1:1<=xs.size)(hz:xs.size<=sizeLine)(sz:s.heap.objs.size=n+5)
  (gz:IsZip s.heap (n+4:Nat) (n+2:Nat) (n+3:Nat) .none) (gI:IsPair s.heap (n+2:Nat) (.ref n) (.ref (n+1:Nat))) (gO:IsPair s.heap (n+3:Nat) .none .none) (g1:s.heap.IsListIter n l1 0) (g2:s.heap.IsListIter (n+1:Nat) l2 0) (t1:s.heap.IsList l1 xs) (t2:s.heap.IsList l2 ys)
  (hQ:∀g,zJ g n xs ys->(∀b o,b < n->s.heap.get? b=some o->g.get? b=some o)->Q (dP n xs.size) { s with heap:=g }):wpAny (model prog w) A (collect (.ref (n+4:Nat))) Q E s:=by
 unfold collect
 refine wpAny_bind (wpAny_runValue (codeAny_builtin F.entry_proto_collect ?_))
 rw[Around.under_plainId F.plain_proto_collect _]
 show wpAny _ A.in1 (newList [] >>= fun l=>again (.builtin "list.__iadd__" ⟨[l,.ref (n+4:Nat)],[]⟩)) _ _ s
 refine wpAny_bind (wpAny_newObj_type ?_)
 refine wpAny_pure ⟨plainId_quiet F.plain_list_iadd _,codeAny_builtin F.entry_list_iadd ?_⟩
 rw[Around.under_plainId F.plain_list_iadd _]
 show wpAny _ A.in1 (Builtin.List.listExtendWith (.ref s.heap.objs.size) (.ref (n+4:Nat)) (.ref s.heap.objs.size)) _ _ _
 unfold Builtin.List.listExtendWith
 have p:∀{b:Nat} {o:Obj},s.heap.get? b=some o->(s.heap.push { cls:=.type "list",data:=.seq ([]:Vv).toArray }).get? b=some o:=fun e=>Heap.get?_push_of_some _ e
 have hT:Shared.TypeIs { s with heap:=s.heap.push { cls:=.type "list",data:=.seq ([]:Vv).toArray } } (.ref (n+4:Nat)) "zip":=⟨_,p gz,rfl⟩
 refine wpAny_bind (wpAny_typeOf hT ?_)
 have e1:Builtin.List.listSameRef (.ref s.heap.objs.size) (.ref (n+4:Nat))=false:=by rw[sz];simp[Builtin.List.listSameRef]
 have e2:(Value.type "zip" == Value.type "list")=false:=by decide
 have e3:(Value.type "zip" == Value.type "tuple")=false:=by decide
 simp only[e1,e2,e3,Bool.or_false,Bool.false_eq_true,if_false]
 refine wpAny_bind (wpAny_pyIter_zip (s:={ s with heap:=s.heap.push { cls:=.type "list",data:=.seq ([]:Vv).toArray } }) (p gz) ?_)
 refine wpAny_bind (wpAny_holding ?_)
 unfold Builtin.List.listLengthHint
 refine wpAny_bind (wpAny_specialOf hT nu ?_)
 show wpAny _ A.in1 (specialOf (Value.ref (n+4:Nat)) (Str.ofString "__length_hint__") >>= _) _ _ _
 refine wpAny_bind (wpAny_specialOf hT l9 ?_)
 refine wpAny_pure ?_
 show wpAny _ A.in1 (rule "list.extend.makes-room" >>= fun _=>Builtin.List.listTouch (.ref s.heap.objs.size) >>= fun _=>
  again (.builtin "list.extend.loop" ⟨[.ref s.heap.objs.size,.ref (n+4:Nat),.ref s.heap.objs.size],[]⟩)) _ _ _
 refine wpAny_bind (wpAny_rule ?_)
 have HS:(s.heap.push { cls:=.type "list",data:=.seq ([]:Vv).toArray }).get? s.heap.objs.size=some { cls:=.type "list",data:=.seq ([]:Vv).toArray }:=Heap.get?_push_size _ rfl
 refine wpAny_bind ?_
 show wpAny _ A.in1 (updateSeq s.heap.objs.size (·.push .none) >>= fun _=>updateSeq s.heap.objs.size (·.pop)) _ _ _
 refine wpAny_bind (wpAny_updateSeq HS rfl ?_)
 have Fv:=Heap.get?_update_self (Obj.mapSeq (·.push Value.none)) HS rfl
 refine wpAny_updateSeq Fv rfl ?_
 have FZ:=Heap.get?_update_self (Obj.mapSeq (·.pop)) Fv rfl
 have CP:∀b o,b≠s.heap.objs.size->(s.heap.push { cls:=.type "list",data:=.seq ([]:Vv).toArray }).get? b=some o->
   (((s.heap.push { cls:=.type "list",data:=.seq ([]:Vv).toArray }).update s.heap.objs.size (Obj.mapSeq (·.push Value.none))).update s.heap.objs.size (Obj.mapSeq (·.pop))).get? b=some o:=
  fun b o hb e=>(Heap.get?_update_other _ _ (Ne.symm hb)).trans ((Heap.get?_update_other _ _ (Ne.symm hb)).trans e)
 have q:∀{b:Nat} {o:Obj},s.heap.get? b=some o->(((s.heap.push { cls:=.type "list",data:=.seq ([]:Vv).toArray }).update s.heap.objs.size (Obj.mapSeq (·.push Value.none))).update s.heap.objs.size (Obj.mapSeq (·.pop))).get? b=some o:=
  fun{b o} e=>CP b o (Nat.ne_of_lt (Heap.lt_size e)) (p e)
 have HU:(((s.heap.push { cls:=.type "list",data:=.seq ([]:Vv).toArray }).update s.heap.objs.size (Obj.mapSeq (·.push Value.none))).update s.heap.objs.size (Obj.mapSeq (·.pop))).objs.size=n+6:=by
  rw[Heap.size_update,Heap.size_update,Heap.size_push,sz]
 show wpAny _ A.in1 (again (.builtin "list.extend.loop" ⟨[.ref s.heap.objs.size,.ref (n+4:Nat),.ref s.heap.objs.size],[]⟩)) _ _ { s with heap:=(((s.heap.push { cls:=.type "list",data:=.seq ([]:Vv).toArray }).update s.heap.objs.size (Obj.mapSeq (·.push Value.none))).update s.heap.objs.size (Obj.mapSeq (·.pop))) }
 generalize (((s.heap.push { cls:=.type "list",data:=.seq ([]:Vv).toArray }).update s.heap.objs.size (Obj.mapSeq (·.push Value.none))).update s.heap.objs.size (Obj.mapSeq (·.pop)))=h2 at FZ q HU
 rw[sz]at FZ ⊢
 refine wpAny_pure ⟨plainId_quiet F.plain_extend_loop _,first (A:=A) hh d1 d2 hxy h1 hz _ _ _ HU (q gz) (q gI) (q gO) (g1.at fun o e=>q e) (g2.at fun o e=>q e) (t1.at fun o e=>q e) (t2.at fun o e=>q e) FZ fun g st kk=>?_⟩
 obtain⟨c,hS⟩:=st.S
 show wpAny _ A (load (n+5:Nat) >>= _) _ _ _
 refine wpAny_bind (wpAny_load hS ?_)
 exact wpAny_pure (by simpa using hQ g st fun b o hb e=>kk b o hb (q e))
def nv{Q:Vq}(hh:A.handled=none)(d1:l1 < n)(d2:l2 < n)(hxy:xs.size=ys.size)(h1:1<=xs.size)(hz:xs.size<=sizeLine)(sz:s.heap.objs.size=n+5)
  (gz:IsZip s.heap (n+4:Nat) (n+2:Nat) (n+3:Nat) .none) (gI:IsPair s.heap (n+2:Nat) (.ref n) (.ref (n+1:Nat))) (gO:IsPair s.heap (n+3:Nat) .none .none) (g1:s.heap.IsListIter n l1 0) (g2:s.heap.IsListIter (n+1:Nat) l2 0) (t1:s.heap.IsList l1 xs) (t2:s.heap.IsList l2 ys)
  (hQ:∀g,zJ g n xs ys->(∀b o,b < n->s.heap.get? b=some o->g.get? b=some o)->Q (.ref g.objs.size) { s with heap:=g.push { cls:=.type "tuple",data:=.seq (dP n xs.size).toArray } }):wpAny (model prog w) A (call (.type "tuple") [.ref (n+4:Nat)]) Q E s:=by
 have hT:s.TypeIs (.ref (n+4:Nat)) "zip":=⟨_,gz,rfl⟩
 refine callType_codes (Q₁:=fun obj s₁=>s₁.TypeIs obj "tuple"/\Q obj s₁) F.called_tuple (F.typeCall_tuple_1 _) F.entry_object_init ?_ fun obj s₁ h₁=>
  ⟨h₁.1,F.args_object_init_2 obj _,object_init_meets F.called_tuple.init.lookup F.called_tuple.made (by decide) prog w A.in1 _ s₁ ⟨h₁.1,rfl,h₁.2⟩⟩
 refine codeAny_of_tree ?_
 show wpAny _ A.in1.in1 (do checkBuiltinCall "tuple.__new__" ⟨[.type "tuple",.ref (n+4:Nat)],[]⟩;again (.builtin "tuple.__new__" ⟨[.type "tuple",.ref (n+4:Nat)],[]⟩)) _ _ s
 refine wpAny_bind (wpAny_of_eq (F.newCall_tuple_1 _) (wpAny_pure ⟨plainId_quiet F.plain_tuple_new _,codeAny_builtin F.entry_tuple_new ?_⟩))
 rw[Around.under_plainId F.plain_tuple_new _]
 have hsub:=sub_tuple_self
 have HV:=init_tuple_lookup
 have hmh:=madeHere_tuple
 wp_walk using wpAny_typeOf hT,l_ (A:=A.in1.in1) hh d1 d2 hxy h1 hz sz gz gI gO g1 g2 t1 t2
 intro g st kk
 show wpAny _ _ (Builtin.Tuple.tupleExact (dP n xs.size).toArray >>= fun v=>ret v) _ _ _
 unfold Builtin.Tuple.tupleExact
 refine wpAny_bind (wpAny_newObj_type ?_ (by show(dP n xs.size).toArray.size<=sizeLine;unfold dP;simpa using hz))
 exact wpAny_pure ⟨⟨_,Heap.get?_push_size _ rfl,rfl⟩,hQ g st kk⟩
end
end Zv
namespace L2
open PySem PySem.Spec PyProof.Rows
structure EZ (K:Vo) (x:Str) (st:Stmt) (T:Addr) (f:Addr) (fd:FuncData):Prop where
 ex:∃(oc:Value) (od:Option Addr) (kV doc pm:Value) (an:Option Addr) (cdv ct:Value) (osl:Array (Option Value)),
  fd=PySem.W.fnOf x x (bC st) (aX st) (ax st) (.ref T) kV doc pm an cdv ct/\K.lookup f=some ⟨oc,od,.func fd,osl⟩/\PySem.W.codeIn K cdv x=true
 kp:PySem.W.keepIn K (.ref f)=true
section
variable {P:Program} {w:World} {K:Vo} {mg:Vr} {base:Heap}
def EZ.ok{x:Str}{st:Stmt}{T f:Addr}{fd:FuncData}{N ps:Vs}{k:Nat}{sp:Sp}(F:EZ K x st T f fd)(S:cz N ps (ax st))(len:∀vs H Q E,sp vs H Q E->vs.length=ps.length)
  (hbody:∀(cdv:Value) (A:Around) (outer:List Env) (s:Shared) (H:Hp) (vs:List V) (Q:VK) (E:XK),Room k (A.deeper (envOfC x (ax st) s.heap.objs.size f cdv))->sp vs H Q E->
   ∃t,DN (lQ sN P w K mg base N x (ax st) f cdv A outer s H E).Fm (aX st) t/\t { nx:=fun _ H'=>Q .non H',rt:=Q } (er N vs) H):jZ P w K mg base sN (k+1) f fd ps sp:=by
 obtain⟨oc,od,kV,doc,pm,an,cdv,ct,osl,rfl,lk,hcd⟩:=F.ex
 refine vb lk hcd S len fun A outer s H vs Q E hr EL=>?_
 obtain⟨t,h,q⟩:=hbody cdv A outer s H vs Q E hr EL
 exact⟨t,h.Fm,q⟩
end
section
variable {X:Cx}
def ur(K:Vo)(H:Hp)(r:Addr)(xs ys:List V):Prop:=∃ps:List Addr,Cj K H r (ps.map V.ref)/\ps.length=xs.length/\∀(j:Nat) p x y,ps[j]?=some p->xs[j]?=some x->ys[j]?=some y->H p=some (.tup [x,y])
def yX(K:Vo)(ta:TA):TE:=fun σ H Q=>ta σ H fun vs H1=>∃a b xs ys,vs=[.ref a,.ref b]/\H1 a=some (.lst xs)/\H1 b=some (.lst ys)/\xs.length=ys.length/\1<=xs.length/\∀r H',(∀c o,H1 c=some o->H' c=some o)->ur K H' r xs ys->Q (.ref r) H'
theorem iS{pins:Va}{σ:St}{H:Hp}{s0 s:Shared}{n:Nat}{xs ys:List V}{ix iy:Vv}(I0:Inv X pins σ H s0)(hn:s0.heap.objs.size=n)(I:Inv X pins σ H s)(rx:Vals xs ix)(ry:Vals ys iy)(hl:xs.length=ys.length)
  (hp:∀(j:Nat) u v,ix[j]?=some u->iy[j]?=some v->IsPair s.heap (n+6+j:Nat) u v):∀k,k<=xs.length->∃H',Inv X pins σ H' s/\(∀c o,H c=some o->H' c=some o)/\(∀(j:Nat) x y,j < k->xs[j]?=some x->ys[j]?=some y->H' (n+6+j:Nat)=some (.tup [x,y]))/\∀c:Nat,n+6+k<=c->H' c=none
 |0,_=>⟨H,I,fun _ _ h=>h,fun j x y h=>absurd h (Nat.not_lt_zero _),fun c hc=>I0.hok.fresh (show s0.heap.objs.size<=c by omega)⟩
 |k+1,hk=>by
  obtain⟨H',I',e',p',f'⟩:=iS I0 hn I rx ry hl hp k (by omega)
  have hkx:k < xs.length:=by omega
  have HW:k < ys.length:=by omega
  obtain⟨u,hu,ru⟩:=rx.get (List.getElem?_eq_getElem hkx)
  obtain⟨v,hv,rv⟩:=ry.get (List.getElem?_eq_getElem HW)
  have hD:H' (n+6+k:Nat)=none:=f' _ (Nat.le_refl _)
  have fp:dI X pins H' (n+6+k:Nat):=I0.Di (show s0.heap.objs.size<=(n+6+k:Nat) by omega) hD
  have eT:BR s.heap (n+6+k:Nat) [u,v].toArray:=⟨_,hp k u v hu hv,rfl,rfl,_,rfl⟩
  refine⟨_,I'.DC fp eT (.cons ru (.cons rv .nil)) (by show 2<=sizeLine;decide),fun c o h=>?_,fun j x y hj hx hy=>?_,fun c hc=>?_⟩
  ·rw[ay (aQ (e' c o h) hD)];exact e' c o h
  ·by_cases e:j=k
   ·subst e
    rw[List.getElem?_eq_getElem hkx]at hx
    rw[List.getElem?_eq_getElem HW]at hy
    cases hx;cases hy
    exact ar
   ·rw[ay (Zu.nn (by omega))];exact p' j x y (by omega) hx hy
  ·rw[ay (Zu.nn (by omega))];exact f' c (by omega)
def ut{a b:Expr}{ta:TA}{p1 p2 q1 q2:Pos}(hc:X.calm=true)(ha:PA X [a,b] ta)(Fw:Gl X "tuple")(hm1:X.mg "tuple" = none)(El:Gl X "zip")(hm2:X.mg "zip" = none)
  (hs:starEach [a,b] X.env=[(false,eval a X.env),(false,eval b X.env)]) (Gq:starEach [b] X.env=[(false,eval b X.env)]) (hs2:starEach [.Call (.Name "zip" p2) [a,b] [] q2] X.env=[(false,eval (.Call (.Name "zip" p2) [a,b] [] q2) X.env)]:=by rfl) :
  PE X (.Call (.Name "tuple" p1) [.Call (.Name "zip" p2) [a,b] [] q2] [] q1) (yX X.K ta):=by
 intro pins s σ H Q I h
 refine wpAny_Call_Name_kw (cF I Fw hm1 (u:=.type "tuple") (by decide +kernel) ?_)
 refine PyProof.Rows.callWith_type1 ?_ hs2 rfl
 rw[hs2]
 show wpAny _ _ (spliced ((false,eval (.Call (.Name "zip" p2) [a,b] [] q2) X.env)::backTo q1 [])) _ _ s
 refine Calls.spliced_cons ?_
 refine wpAny_Call_Name_kw (cF I El hm2 (u:=.type "zip") (by decide +kernel) ?_)
 refine PyProof.Rows.callWith_type1 (Bh (ha q2 pins s σ H _ I h) fun us s1 ⟨vs,H1,I1,r1,q1⟩=>?_) (by rw[hs,Gq]) (by rw[Gq];rfl)
 obtain⟨a,b,xs,ys,e,qa,qb,hl,h1,q⟩:=q1
 subst e
 obtain⟨u,v,rfl,ru,rv⟩:=u_ r1
 cases ru
 cases rv
 obtain⟨ia,ra,pa,za⟩:=I1.list (SqL.of qa)
 obtain⟨ib,rb,pb,zb⟩:=I1.list (SqL.of qb)
 have IW:=ra.length
 have lrb:=rb.length
 have la:a < s1.heap.objs.size:=by obtain⟨o,e,_⟩:=pa.isList;exact Heap.lt_size e
 have lb:b < s1.heap.objs.size:=by obtain⟨o,e,_⟩:=pb.isList;exact Heap.lt_size e
 refine call_zip_2 pa.isList pb.isList fun g gz gI gO g1 g2 IY kk=>?_
 refine Calls.spliced_nil ?_
 refine Zv.nv (s:={ s1 with heap:=g }) (n:=s1.heap.objs.size) (I.ok.hd hc) la lb (by rw[List.size_toArray,List.size_toArray];omega) (by rw[List.size_toArray];omega) (by rw[List.size_toArray,<-IW];exact za) IY gz gI gO g1 g2 (pa.isList.at fun o e=>kk _ _ e) (pb.isList.at fun o e=>kk _ _ e) fun g' st FY=>?_
 have key:∀c o,s1.heap.get? c=some o->(g'.push { cls:=.type "tuple",data:=.seq (Zv.dP s1.heap.objs.size ia.toArray.size).toArray }).get? c=some o:=fun c o e=>Heap.get?_push_of_some _ (FY c o (Heap.lt_size e) (kk c o e))
 have I2:Inv X pins σ H1 { s1 with heap:=g'.push { cls:=.type "tuple",data:=.seq (Zv.dP s1.heap.objs.size ia.toArray.size).toArray } }:=I1.kept (t':=s1.toks) key
 obtain⟨H',I3,e3,p3,f3⟩:=iS I1 rfl I2 ra rb hl (fun j u v hu hv=>Heap.get?_push_of_some _ (st.its j u v (by simpa using hu) (by simpa using hv))) xs.length (Nat.le_refl _)
 have sz:=st.sz
 have FX:ia.toArray.size=xs.length:=by rw[List.size_toArray];omega
 rw[FX]at sz
 have hD:H' g'.objs.size=none:=f3 _ sz
 have fp:dI X pins H' g'.objs.size:=I1.Di (Nat.le_trans (by omega) sz) hD
 have ps:∀m:Nat,Vals (((List.range m).map fun j=>(s1.heap.objs.size+6+j:Nat)).map V.ref) (Zv.dP s1.heap.objs.size m):=fun m=>by
  unfold Zv.dP
  rw[List.map_map]
  induction (List.range m)with
  |nil=>exact .nil
  |cons x r ih=>exact .cons rfl ih
 have eT:BR (g'.push { cls:=.type "tuple",data:=.seq (Zv.dP s1.heap.objs.size ia.toArray.size).toArray }) g'.objs.size (Zv.dP s1.heap.objs.size xs.length).toArray:=⟨_,Heap.get?_push_size _ rfl,rfl,rfl,_,by rw[FX]⟩
 have I4:=I3.DC fp eT (ps xs.length) (by rw[List.length_map,List.length_map,List.length_range];exact za)
 refine⟨.ref g'.objs.size,_,I4,rfl,q _ _ (fun c o z=>by rw[ay (aQ (e3 c o z) hD)];exact e3 c o z) ⟨_,Cj.of ar,by rw[List.length_map,List.length_range],fun j p x y hp hx hy=>?_⟩⟩
 have hj:j < xs.length:=(List.getElem?_eq_some_iff.mp hx).1
 rw[List.getElem?_map,List.getElem?_range hj]at hp
 cases hp
 have z:=p3 j x y hj hx hy
 show upd H' g'.objs.size _ (s1.heap.objs.size+6+j:Nat)=_
 rw[ay (aQ z hD)]
 exact z
end
end L2
namespace L3
open PySem L2
section
variable {P:Program} {w:World} {K:Vo} {mg:Vr} {base:Heap}
def Ap{x:Str}{st:Stmt}{T f:Addr}{fd:FuncData}{N ps:Vs}{k:Nat}{t:bG}(F:EZ K x st T f fd)(S:cz N ps (ax st))
  (hbody:∀(cdv:Value) (A:Around) (outer:List Env) (s:Shared) (H:Hp) (E:XK),Room k (A.deeper (PyProof.Rows.envOfC x (ax st) s.heap.objs.size f cdv))->hG (yS P w K mg base N x st f cdv A outer s H E) (aX st) t) :
  EO P w K mg base (k+1) f fd ps (Bs N.length t):=
 ⟨F.ok S (fun vs H Q E h=>h.1) fun cdv A outer s H vs Q E hr ⟨hl,ps',S',Q3,E3,rv,rS,q,kk⟩=>⟨_,(hbody cdv A outer s H E hr).ok,aC N.length ps',S',_,kE rv,rS,q,.no,fun σ3 S2 σ2 H2 h2 _ CU g2=>kk _ S2 _ H2 h2 .non CU g2,kk,fun _ _ _ _ h2=>h2.elim,fun _ _ _ _ h2=>h2.elim⟩⟩
structure Aq (K:Vo) (mg:Vr) (x:Str) (st:Stmt) (ps:Vs) (T:Addr) (f:Addr) (fd:FuncData):Prop where
 F:EZ K x st T f fd
 b:Binds K fd ps []
 d:Binds K fd ps [.bool true]
 k:PySem.W.keepIn K (.ref f)=true
 m:mg x=some (.ref f)
end
section
variable {X:Cx} {e o:Expr} {es:List Expr} {te to:aN} {ts:List aN} {x:Str} {p pos apos cpos:Pos} {k:Nat} {f:Addr} {fd:FuncData} {ps:Vs} {sp:aF}
def lp(sp:aF)(ts:List aN):aN:=fun σ S Q E=>ao ts σ S (fun ps S1=>sp (ps++[.bl true]) S1 Q E) E
def uu(F:EO X.prog X.w X.K X.mg X.base k f fd ps sp)(hr:Room k X.A)(hg:Gl X x)(hm:X.mg x=some (.ref f))(hk:PySem.W.keepIn X.K (.ref f)=true)(hb:Binds X.K fd ps [.bool true])(he:starEach (e::es) X.env=(false,eval e X.env)::starEach es X.env)(ha:i7 X (e::es) ts)
  (hl:ts.length+1=ps.length:=by rfl) (hdb:(x == ("__debug__":Str))=false:=by decide) (hpl:(backTo pos (starEach es X.env)).any (·.1)=false:=by rfl):aY X (.Call (.Name x p) (e::es) [] pos) (lp sp ts):=
 ⟨aK (n5 (dvs:=[.bl true]) F.ok hr hg hm hk hb (.cons rfl .nil) ve ha.ok hdb he hpl) fun σ H Q ⟨σ3,S,Q3,E3,rσ,rS,h,xo,k⟩=>bL rσ rS h xo fun ps' S' vs H' hl' q rv CQ g=>by
  refine⟨by rw[List.length_append,rv.length,hl'];exact hl,ps'++[.bl true],S',Q3,E3,rv.append (.cons (.bl true) .nil),CQ,q,k.mono g⟩⟩
end
section
variable {X:Cx} {a b:Expr} {ta tb:aN}
def rR(ta tb:aN):aN:=fun σ S Q E=>ta σ S (fun v S1=>tb σ S1 (fun w S2=>match v,w with
 | .ref a,.ref b=>(match S2 a,S2 b with|some (.lst xs),some (.lst ys)=>xs.length=ys.length/\1<=xs.length/\Q (.tup (jE xs ys)) S2|_,_=>False)
 |_,_=>False) E) E
theorem oC{K:Vo}{H:Hp}:∀{vs:List V} {ps:List PV},vs.length=ps.length->(∀(j:Nat) v p,vs[j]?=some v->ps[j]?=some p->Rep K H v p)->Reps K H vs ps
 |[],[],_,_=>.nil
 |[],_::_,h,_=>by cases h
 |_::_,[],h,_=>by cases h
 |v::vs,p::ps,h,f=>.cons (f 0 v p rfl rfl) (oC (by simpa using h) fun j v' p' h1 h2=>f (j+1) v' p' (by simpa using h1) (by simpa using h2))
def w4{p1 p2 q1 q2:Pos}(hs:starEach [a,b] X.env=[(false,eval a X.env),(false,eval b X.env)])(Gq:starEach [b] X.env=[(false,eval b X.env)])(hc:X.calm=true)(Fw:Gl X "tuple")(hm1:X.mg "tuple" = none)(El:Gl X "zip")(hm2:X.mg "zip" = none)(ha:i7 X [a,b] [ta,tb]) :
  aY X (.Call (.Name "tuple" p1) [.Call (.Name "zip" p2) [a,b] [] q2] [] q1) (rR ta tb):=
 ⟨aK (ut hc ha.ok Fw hm1 El hm2 hs Gq) fun σ H Q ⟨σ3,S,Q3,E3,rσ,rS,h,xo,k⟩=>⟨σ3,S,_,E3,rσ,rS,h,xo,fun v S1 v' H1 h1 rv Bn g1=>⟨σ3,S1,_,E3,rσ.mono g1,Bn,h1,xo.mono g1,fun w S2 w' H2 h2 rw' CU g2=>by
  dsimp only at h2
  split at h2
  ·cases rv
   cases rw'
   split at h2
   ·rename_i ea eb
    obtain⟨vs,hv,rs⟩:=CU _ _ ea
    obtain⟨us,hu,rt⟩:=CU _ _ eb
    have l1:=rs.length
    have l2:=rt.length
    refine⟨_,_,vs,us,rfl,hv,hu,by omega,by omega,fun r H' hh ⟨ps,hr,hpl,hp⟩=>k _ S2 _ H' h2.2.2 (.tup hr (oC ?_ fun j v p hv' hp'=>?_)) (CU.grow hh) ((g1.trans g2).trans (.same hh))⟩
    ·rw[List.length_map];unfold jE;rw[List.length_map,List.length_zip];omega
    ·unfold jE at hp'
     rw[List.getElem?_map]at hp' hv'
     cases hz:(_:List (PV×PV))[j]? with
     |none=>rw[hz]at hp';cases hp'
     |some z=>
      rw[hz]at hp'
      cases hp'
      obtain⟨e1,e2⟩:=List.getElem?_zip_eq_some.mp hz
      obtain⟨x,hx,rx⟩:=rs.get e1
      obtain⟨y,hy,ry⟩:=rt.get e2
      cases hq:ps[j]? with
      |none=>rw[hq]at hv';cases hv'
      |some q=>
       rw[hq]at hv'
       cases hv'
       exact .tup (Cj.of (hp j q x y hq hx hy)) (.cons (rx.mono (.same hh)) (.cons (ry.mono (.same hh)) .nil))
   ·exact h2.elim
  ·exact h2.elim⟩⟩⟩
end
end L3
namespace L2
open PySem PySem.Spec PyProof.Rows
noncomputable def gA(its:Vw)(z:Str)(u:Tok)(i:Nat)(_:Option Fin×Unit):Sem (ForInStep (Option Fin×Unit)):=
 match its[i]? with
 |some y=>do
  let __do_lift <-eqBool y (Value.str z u)
  if __do_lift=true then do
   let __do_lift <-retInt (i:Int)
   pure (ForInStep.done (some __do_lift,()))
  else pure (ForInStep.yield (none,()))
 |_=>pure (ForInStep.yield (none,()))
theorem ma{prog:Program}{w:World}{A:Around}{E:Vq}{z:Str}{u:Tok}{its:Vw}{k:Nat}{Q:Option Fin×Unit->Shared->Prop}(hk:∃t,its[k]?=some (.str z t)) :
  ∀(m i:Nat) (s:Shared),i+m=its.size->i<=k->(∀j v,i<=j->j < k->its[j]?=some v->∃a t,v = .str a t/\a≠z)->(∀tk,Q (some (.done (.ret (.int k tk))),()) { s with toks:=s.toks+1 })->
  wpAny (model prog w) A (forIn (List.range' i m 1) ((none,()):Option Fin×Unit) (gA its z u)) Q E s
 |0,i,s,hm,hi,h,q=>by
  obtain⟨t,hk⟩:=hk
  have:=(Array.getElem?_eq_some_iff.mp hk).1
  omega
 |m+1,i,s,hm,hi,h,q=>by
  rw[List.range'_succ,List.forIn_cons]
  have hlt:i < its.size:=by omega
  by_cases e:i=k
  ·subst e
   obtain⟨t,hk⟩:=hk
   refine wpAny_bind ?_
   unfold gA
   rw[hk]
   refine wpAny_bind (wpAny_eqBool_str ?_)
   rw[decide_eq_true rfl,if_pos rfl]
   exact wpAny_bind (wpAny_bind (wpAny_mkInt (wpAny_pure (wpAny_pure (wpAny_pure (q _))))))
  ·have hv:=Array.getElem?_eq_getElem hlt
   obtain⟨a,t,ea,ne⟩:=h i _ (Nat.le_refl _) (by omega) hv
   refine wpAny_bind ?_
   have eb:gA its z u i (none,())=(do let __do_lift <-eqBool (Value.str a t) (Value.str z u);if __do_lift=true then do { let __do_lift <-retInt (i:Int);pure (ForInStep.done (some __do_lift,())) } else pure (ForInStep.yield (none,()))):=by
    unfold gA
    rw[hv,ea]
   rw[eb]
   refine wpAny_bind (wpAny_eqBool_str ?_)
   rw[decide_eq_false ne,if_neg (by decide)]
   exact wpAny_pure (ma hk m (i+1) s (by omega) (by omega) (fun j v h1 h2=>h j v (by omega) h2) q)
def w5(l:Addr)(its:Vw)(n:Nat)(dd:Option Addr)(sl:Array (Option Value))(z:Str)(u:Tok)(k:Nat)(hk:∃t,its[k]?=some (.str z t))(h:∀j v,j < k->its[j]?=some v->∃a t,v = .str a t/\a≠z) :
  Meets (Builtin.«tuple.index» ⟨[.ref l,.str z u],[]⟩) (fun _ R s=>s.heap.get? l=some { cls:=.type "tuple",dict:=dd,data:=.seq its n,slots:=sl }/\∀tk,R (.ok (.ret (.int k tk))) { s with toks:=s.toks+1 }):=
 .of_wp fun prog w A R s hh=>by
  obtain⟨hp,g,d,tk,os⟩:=s;obtain⟨hl,q⟩:=hh
  wp_walk using wpAny_loadPart' hl
  show wpAny _ _ (forIn (⟨0,min its.size its.size,1,Nat.one_pos⟩:Std.Legacy.Range) ((none,()):Option Fin×Unit) (gA its z u)) _ _ _
  rw[Std.Legacy.Range.forIn_eq_forIn_range']
  have e:Std.Legacy.Range.size ⟨0,min its.size its.size,1,Nat.one_pos⟩=its.size:=by unfold Std.Legacy.Range.size;simp
  rw[e]
  exact ma hk its.size 0 _ (by omega) (Nat.zero_le _) (fun j v _ hj hv=>h j v hj hv) fun tk'=>wpAny_pure ⟨_,rfl,q tk'⟩
section
variable {X:Cx}
noncomputable def uv(K:Vo):V->List V->Hp->VK->Prop:=fun x vs H Q=>∃(l:Addr) (zs:Vs) (z:Str) (k:Nat),x = .ref l/\vs=[.str z]/\Cj K H l (zs.map V.str)/\zs[k]?=some z/\(∀j:Nat,j < k->zs[j]?≠some z)/\Q (.int k) H
def pP:wk X "tuple.index" (uv X.K):=by
 intro pins s σ H x vs v us Q I rx rv h
 obtain⟨l,zs,z,k,rfl,rfl,hT,hk,hf,q⟩:=h
 cases rx
 obtain⟨w,rfl,u,rfl⟩:=eh rv
 obtain⟨its,r1,p1,_⟩:=I.tuple hT
 obtain⟨⟨cls,dd,data,sl⟩,ho,hc,n,hd⟩:=id p1
 simp only at hc hd
 subst hc hd
 refine call_meets PySem.F.slot_tuple_index ⟨_,ho,rfl⟩ PySem.F.entry_tuple_index (PySem.F.args_tuple_index_2 _ _) (w5 l its.toArray n dd sl z u k ?_ ?_) ⟨ho,fun tk=>⟨.int k,H,I.tok _,⟨_,rfl⟩,q⟩⟩
 ·obtain⟨v,hv,t,rfl⟩:=r1.get (i:=k) (x:=.str z) (by rw[List.getElem?_map,hk];rfl)
  exact⟨t,by simpa using hv⟩
 ·intro j v hj hv
  have hjl:j < its.length:=by simpa using(Array.getElem?_eq_some_iff.mp hv).1
  have hl:=r1.length
  rw[List.length_map]at hl
  obtain⟨v',hv',t,rfl⟩:=r1.get (i:=j) (x:=.str (zs[j]'(by omega))) (by rw[List.getElem?_map,List.getElem?_eq_getElem (by omega)];rfl)
  have e:v = .str (zs[j]'(by omega)) t:=by
   have h1:its[j]?=some v:=by simpa using hv
   rw[hv']at h1;cases h1;rfl
  exact⟨_,t,e,fun h=>hf j hj (by rw[List.getElem?_eq_getElem (by omega),h])⟩
def ux{pins:Va}{σ:St}{H:Hp}{s:Shared}{a:Addr}{xs:List V}(I:Inv X pins σ H s)(h:Cj X.K H a xs):s.TypeIs (.ref a) "tuple"/\∀b,Value.ref a = .ref b->∃ob,s.heap.get? b=some ob/\ob.dict=none:=by
 rcases h with h|⟨o,its,n,hk,hc,hd,_⟩
 ·obtain⟨z,its,r,o,e,hd,hc,_⟩:=h.ok I.hok
  exact⟨⟨o,e,hc⟩,fun b q=>by cases q;exact⟨o,e,hd⟩⟩
 ·exact⟨⟨o,I.Ey a o hk,hc⟩,fun b q=>by cases q;exact⟨o,I.Ey _ o hk,hd⟩⟩
variable {o e:Expr} {es:List Expr} {to:TE} {t:TA} {name:Str} {apos cpos:Pos} {id:String} {r:V->List V->Hp->VK->Prop}
def Ar(K:Vo)(r:V->List V->Hp->VK->Prop)(to:TE)(t:TA):TE:=fun σ H Q=>to σ H fun x H1=>(∃a xs,x = .ref a/\Cj K H1 a xs)/\t σ H1 fun xs H2=>r x xs H2 Q
def w9(pa:PlainAttrs "tuple")(slot:Slot "tuple" name id)(hty:typeOf (.builtin id)=pure (.type "method_descriptor"))(hm:wk X id r)(ho:PE X o to)(ha:PA X (e::es) t)
  (hbase:attributeBase o name X.env (eval o X.env)=eval o X.env:=by rfl)
  (hfew:((backTo cpos (starEach (e::es) X.env)).all (fun x=>!x.1)&&(backToKw cpos (keywordEach [] X.env)).all (fun x=>x.1.isSome)
   && decide ((e::es).length+([]:List Keyword).length+(if ([]:List Keyword).isEmpty then 0 else 1) < 30))=true:=by rfl)
  (hline:(apos.endLine == cpos.line)=true:=by rfl) (hs:starEach (e::es) X.env=(false,eval e X.env)::starEach es X.env:=by rfl) (hplain:(backTo cpos (starEach es X.env)).any (·.1)=false:=by rfl) :
  PE X (.Call (.Attribute o name apos) (e::es) [] cpos) (Ar X.K r to t):=by
 intro pins s σ H Q I h
 refine wpAny_Call_method_late hbase hfew hline rfl (Bh (ho pins s σ H _ I h) fun v s1 ⟨x,H1,I1,r1,⟨a,xs,ex,hT⟩,q1⟩=>?_)
 subst ex
 have r1':=r1
 cases r1
 obtain⟨h1,h2⟩:=ux I1 hT
 refine⟨"tuple",id,pa,slot,hty,h1,h2,?_⟩
 have hA:=ha cpos pins s1 σ H1 _ I1 q1
 rw[hs]at hA ⊢
 refine Calls.callWith_builtin (by show(false || (backTo cpos (starEach es X.env)).any (·.1))=false;rw[hplain]<;>rfl) (Calls.evalArgs_plain ?_)
 exact Bh hA fun us s2 ⟨vs,H2,I2,r2,q2⟩=>hm pins s2 σ H2 _ vs _ us Q I2 r1' r2 q2
end
end L2
namespace L3
open PySem L2
section
variable {X:Cx}
noncomputable def fT:List PV->Option (List Str)
 |[]=>some []
 | .str z::r=>(fT r).map (z::·)
 |_::_=>none
theorem jI:∀zs:List Str,fT (zs.map PV.str)=some zs
 |[]=>rfl
 |z::r=>by show(fT (r.map PV.str)).map (z::·)=_;rw[jI r];rfl
theorem kI:∀{ps:List PV} {zs:Vs},fT ps=some zs->ps=zs.map PV.str
 |[],zs,h=>by cases h;rfl
 | .str z::r,zs,h=>by
  unfold fT at h
  cases e:fT r with
  |none=>rw[e]at h;cases h
  |some ws=>rw[e]at h;cases h;rw[kI e];rfl
def jd:mH:=fun x ps S Q=>match x,ps with
 | .tup xs,[.str z]=>(match fT xs with|some zs=>∃k:Nat,zs[k]?=some z/\(∀j:Nat,j < k->zs[j]?≠some z)/\Q (.int k) S|none=>False)
 |_,_=>False
theorem kJ{K:Vo}{H:Hp}:∀{vs:List V} {zs:Vs},Reps K H vs (zs.map PV.str)->vs=zs.map V.str
 |[],[],_=>rfl
 |v::vs,z::zs,.cons a r=>by cases a;rw[kJ r];rfl
def rT:pG X "tuple.index" jd:=⟨fun pins s σ H x xs v us Q I rx rs ⟨px,ps,S,Q3,r1,rp,rS,q,k⟩=>by
 unfold jd at q
 split at q
 ·split at q
  ·rename_i e
   obtain⟨j,hk,hf,q⟩:=q
   cases r1 with
   |tup hq rs'=>
    rw[kI e]at rs'
    have ev:=kJ rs'
    subst ev
    cases rp with
    |cons b rr=>
     cases rr;cases b
     exact pP pins s σ H _ _ v us Q I rx rs ⟨_,_,_,j,rfl,rfl,hq,hk,hf,k _ S _ H q (.int _) rS .refl⟩
  ·exact q.elim
 ·exact q.elim⟩
variable {o e:Expr} {es:List Expr} {to:aN} {ts:List aN} {name:Str} {apos cpos:Pos} {id:String}
def w_(r:mH)(to:aN)(ts:List aN):aN:=fun σ S Q E=>to σ S (fun x S1=>match x with | .tup _=>ao ts σ S1 (fun ps S2=>r x ps S2 Q) E|_=>False) E
def yY{r:mH}(pa:PlainAttrs "tuple")(slot:Slot "tuple" name id)(hty:typeOf (.builtin id)=pure (.type "method_descriptor"))(hm:pG X id r)(hs:starEach (e::es) X.env=(false,eval e X.env)::starEach es X.env)(ho:aY X o to)(ha:i7 X (e::es) ts)
  (hbase:attributeBase o name X.env (eval o X.env)=eval o X.env:=by rfl)
  (hfew:((backTo cpos (starEach (e::es) X.env)).all (fun x=>!x.1)&&(backToKw cpos (keywordEach [] X.env)).all (fun x=>x.1.isSome)
   && decide ((e::es).length+([]:List Keyword).length+(if ([]:List Keyword).isEmpty then 0 else 1) < 30))=true:=by rfl)
  (hline:(apos.endLine == cpos.line)=true:=by rfl) (hplain:(backTo cpos (starEach es X.env)).any (·.1)=false:=by rfl):aY X (.Call (.Attribute o name apos) (e::es) [] cpos) (w_ r to ts):=
 ⟨aK (w9 pa slot hty hm.ok ho.ok ha.ok hbase hfew hline hs hplain) fun σ H Q ⟨σ3,S,Q3,E3,rσ,rS,h,xo,k⟩=>⟨σ3,S,_,E3,rσ,rS,h,xo,fun x S1 v H1 h1 rx Bn g1=>by
  dsimp only at h1
  split at h1
  ·have IZ:=rx
   cases rx with
   |tup hq rs=>exact⟨⟨_,_,rfl,hq⟩,bL (rσ.mono g1) Bn h1 (xo.mono g1) fun ps S2 vs H2 hl q rv CU g2=>⟨_,ps,S2,Q3,IZ.mono g2,rv,CU,q,k.mono (g1.trans g2)⟩⟩
  ·exact h1.elim⟩⟩
end
section
variable {X:Cx} {a b:Expr} {ta tb:aN} {p pos:Pos}
end
end L3
namespace C
open PySem L2 L3
def cu(C0 s0:aF):bG:=(af (au 3 (bn [(aB [(v3 0),(v3 2)])]))
  (af (cX (dD (ae C0 [(v3 0)])) (.tp (.cons (.n 4) (.cons (.n 5) .nil))) (af (au 6 (cI (ah (bo false) (ah ag (v3 0) (c3 (.int 0))) (c3 (.str "take"))) (cI (ah (bo false) (v3 4) (c3 (.int 0))) (ah (jv true) (ah ag (v3 0) (c3 (.int 1))) (v3 1)))))
  (aW (eF "list" bt (v3 3) [(ae s0 [(v3 5),(v3 1),(cI (v3 2) (iM (v3 6)))])]))))
  (az (v3 3))))
def e8(Dj Dy:aF):bG:=(af (cX (dD (ah ag (v3 0) (c3 (.int 1)))) (.tp (.cons (.n 2) (.cons (.n 3) .nil))) (cX (dD (lp Dj [(ah ag (v3 3) (c3 (.int 1))),(v3 1)])) (.tp (.cons (.n 4) (.cons (.n 5) .nil))) (af (au 6 (ah ag (v3 5) (c3 (.int 0))))
  (bq (gj (aI (ah ag (v3 5) (c3 (.int 1)))) (gj (aI (ah (bo false) (ah ag (v3 6) (c3 (.int 0))) (c3 (.str "put")))) (aI (ah (jv true) (ah ag (v3 6) (c3 (.int 1))) (v3 1))))) (az (aB [(w_ jd (ah ag (v3 0) (c3 (.int 0))) [(ah ag (v3 6) (c3 (.int 1)))]),(v3 2),(ae Dy [(ah ag (v3 3) (c3 (.int 1))),(v3 4),(aB [])])])) aO))))
  (az (c3 .non)))
def ie(Df:aF):bG:=(af (au 1 (bn []))
  (af (au 2 (bn []))
  (af (au 3 (ae Df [(v3 0),(v3 2)]))
  (af (ic (aI (ah (vk true) (v3 3) (c3 .non))) (af (aW (eF "list" bh (v3 1) [(v3 3)]))
  (af (aW (eF "list" bh (v3 2) [(ah ag (ah ag (v3 0) (c3 (.int 0))) (ah ag (v3 3) (c3 (.int 0))))]))
  (au 3 (ae Df [(v3 0),(v3 2)])))))
  (az (v3 1))))))
def dQ(BK Bb Bp:aF):bG:=(af (au 1 (ae BK [(v3 0),(c3 (.int 8))]))
  (af (au 2 (bd (v3 1) j4 (jx (ah aV (c3 (.int 1)) (ae Bb [(v3 0),(c3 (.int 4))])))))
  (af (au 3 (am br [(v3 2)]))
  (af (au 5 (a_ (ba (v3 3)) (.n 0) cL (eF "list" l4 (v3 2) [(ae Bb [(v3 1),(am bw [(v3 2)])])]) 1 [0,2]))
  (af (au 6 (bn []))
  (af (cX (dD (v3 5)) (.tp (.cons (.n 7) (.cons (.n 4) .nil))) (af (au 8 (aB [(c3 (.str "put")),(v3 4),(ah aV (c3 (.int 1)) (ae Bb [(v3 0),(c3 (.int 9))]))]))
  (af (bq (gc (aI (ah jX (v3 7) (c3 (.int 0)))) (aI (ah (bo false) (ae Bb [(v3 0),(c3 (.int 4))]) (c3 (.int 0))))) (au 8 (aB [(c3 (.str "take")),(ah ag (v3 5) (ah bA (v3 7) (c3 (.int 1)))),(ah aV (c3 (.int 1)) (ae Bb [(v3 0),(c3 (.int 9))])),(v3 8),(ae Bp [(v3 0),(bn [])])])) aO)
  (af (au 9 (bn [(aB [(c3 (.str "then")),(ae Bp [(v3 0),(bn [])]),(v3 8)]),(aB [(c3 (.str "often")),(v3 8)]),(aB [(c3 (.str "either")),(ae Bp [(v3 0),(bn [])]),(v3 8)])]))
  (aW (eF "list" jc (v3 6) [(ae Bb [(v3 0),(ah aV (am bw [(v3 6)]) (c3 (.int 1)))]),(ah ag (bn [(v3 8),(ah ag (v3 9) (c3 (.int 0))),(ah ag (v3 9) (c3 (.int 1))),(ah ag (v3 9) (c3 (.int 2)))]) (ae Bb [(v3 0),(c3 (.int 4))]))]))))))
  (az (aB [(v3 3),(am br [(a_ (dD (v3 6)) (.tp (.cons (.n 0) (.cons (.n 1) .nil))) cL (aB [(ah ag (v3 2) (ah aV (c3 (.int 4)) (v3 0))),(v3 1)]) 2 [1])])]))))))))
def fU(Dp:aF):bG:=(af (nh (v3 0) (.tp (.cons (.n 1) (.cons (.n 2) .nil))))
  (af (au 3 (bn [(v3 0)]))
  (af (bq (aI (ah jX (am bw [(v3 2)]) (c3 (.int 1)))) (af (au 4 (a_ (ba (v3 2)) (.tp (.cons (.n 0) (.cons (.n 1) .nil))) cL (v3 0) 2 []))
  (af (au 5 (a_ (ba (v3 2)) (.tp (.cons (.n 0) (.cons (.n 1) .nil))) cL (v3 1) 2 []))
  (aW (eF "list" bt (v3 3) [(bn [(aB [(v3 1),(bd (v3 2) j4 (jx (iY cp (c3 (.int 1)))))]),(aB [(v3 1),(rR (v3 4) (ah aV (bd (v3 5) (jx (c3 (.int 1))) j4) (bd (v3 5) j4 (jx (c3 (.int 1))))))])])])))) aO)
  (af (bq (aI (ah jX (am bw [(v3 1)]) (c3 (.int 1)))) (af (au 4 (jG [((ah ag (v3 1) (c3 (.int 0))),(ah ag (v3 1) (iY cp (c3 (.int 1))))),((ah ag (v3 1) (iY cp (c3 (.int 1)))),(ah ag (v3 1) (c3 (.int 0))))]))
  (aW (eF "list" bh (v3 3) [(aB [(v3 1),(am br [(a_ (ba (v3 2)) (.tp (.cons (.n 0) (.cons (.n 1) .nil))) cL (aB [(v3 0),(ae Dp [(v3 1),(v3 2)])]) 2 [4])])])]))) aO)
  (az (v3 3))))))
end C
namespace L3
open PySem L2 Xc
section
variable {X:Cx} {e o:Expr} {es:List Expr} {te to:aN} {ts:List aN} {x:Str} {p pos apos cpos:Pos} {k:Nat} {f:Addr} {fd:FuncData} {ps:Vs} {sp:aF}
end
section
variable {P:Program} {w:World} {K:Vo} {mg:Vr} {base:Heap}
end
section
variable {X:Cx} {e:Expr} {es:List Expr} {ts:List aN} {x qual:Str} {st:Stmt} {p pos cpos:Pos} {f C:Addr} {fd:FuncData} {ps ks:Vs}
end
section
variable {X:Cx} {body suite:List Stmt} {b₀:Stmt} {n x:Str} {i:Nat} {np hpos pos:Pos} {tb th:bG} {Dc:Addr} {cs:Vs}
end
section
variable {X:Cx} {e:Expr} {te:aN} {f:Str} {pos:Pos} {l:List (Str×Str)}
end
section
variable {P:Program} {w:World} {K:Vo} {mg:Vr} {base:Heap} {N:Vs} {qual:Str} {st:Stmt} {f:Addr} {cdv:Value} {A:Around} {outer:List Env} {s:Shared} {H:Hp} {E:XK}
end
end L3
namespace L3
open PySem L2
end L3
namespace L2
open PySem PySem.Spec PyProof.Rows Xc
section
variable {X:Cx} {k:Nat} {f C:Addr} {fd:FuncData} {ps:Vs} {sp:Sp} {m:Str} {pos apos:Pos} {e o:Expr} {es:List Expr} {ta:TE} {t:TA}
end
end L2
namespace L3
open PySem L2 Xc
section
variable {P:Program} {w:World} {K:Vo} {mg:Vr} {base:Heap}
structure bH (K:Vo) (mg:Vr) (x:Str) (st:Stmt) (ps:Vs):Prop where
 ex:∃f fd,zI K mg x st ps f fd
structure Cw (P:Program) (w:World) (K:Vo) (mg:Vr) (base:Heap) (k:Nat) (x:Str) (n:Nat) (sp:aF):Prop where
 ex:∃f fd ps,ps.length=n/\EO P w K mg base k f fd ps sp/\mg x=some (.ref f)/\PySem.W.keepIn K (.ref f)=true/\Binds K fd ps []
def gX{x:Str}{st:Stmt}{ps:Vs}{k n:Nat}{t:bG}{sp:aF}(N:Vs)(O:bH K mg x st ps)
  (hbody:∀(f:Addr) (cdv:Value) (A:Around) (outer:List Env) (s:Shared) (H:Hp) (E:XK),Room k (A.deeper (PyProof.Rows.envOfC x (ax st) s.heap.objs.size f cdv))->N.Nodup->hG (yS P w K mg base N x st f cdv A outer s H E) (aX st) t) (e:sp=Bs N.length t)
  (hn:ps.length=n:=by rfl) (S:cz N ps (ax st):=by exact⟨rfl,rfl,rfl,by decide +kernel,rfl,by decide +kernel,by decide +kernel⟩):Cw P w K mg base (k+1) x n sp:=by
 subst e
 obtain⟨f,fd,o⟩:=O.ex
 exact⟨f,fd,ps,hn,AJ o.F S fun cdv A outer s H E hr=>hbody f cdv A outer s H E hr S.nd,o.m,o.k,o.b⟩
def A2{x:Str}{st:Stmt}{ps:Vs}{k:Nat}{t:bG}{sp:aF}{f:Addr}{fd:FuncData}(N:Vs)(o:zI K mg x st ps f fd)
  (hbody:∀(f:Addr) (cdv:Value) (A:Around) (outer:List Env) (s:Shared) (H:Hp) (E:XK),Room k (A.deeper (PyProof.Rows.envOfC x (ax st) s.heap.objs.size f cdv))->N.Nodup->hG (yS P w K mg base N x st f cdv A outer s H E) (aX st) t) (e:sp=Bs N.length t)
  (S:cz N ps (ax st):=by exact⟨rfl,rfl,rfl,by decide +kernel,rfl,by decide +kernel,by decide +kernel⟩):EO P w K mg base (k+1) f fd ps sp:=by
 subst e
 exact AJ o.F S fun cdv A outer s H E hr=>hbody f cdv A outer s H E hr S.nd
def ny:aF:=fun _ _ _ _=>False
theorem Cw.zero{x:Str}{st:Stmt}{ps:Vs}{k n:Nat}(O:bH K mg x st ps)(hn:ps.length=n:=by rfl):Cw P w K mg base k x n ny:=by
 obtain⟨f,fd,o⟩:=O.ex
 exact⟨f,fd,ps,hn,.zero rfl,o.m,o.k,o.b⟩
theorem lq{b n:Nat}{x:Str}{st:Stmt}{ps:Vs}{r:Nat->aF}(O:bH K mg x st ps)(h:∀j,Cw P w K mg base (b+j) x n (r j)->Cw P w K mg base (b+j+1) x n (r (j+1)))(h0:r 0=ny)(hn:ps.length=n:=by rfl):∀j,Cw P w K mg base (b+j) x n (r j)
 |0=>by rw[h0];exact .zero O hn
 |j+1=>h j (lq O h h0 hn j)
end
section
variable {X:Cx} {a b e o:Expr} {es:List Expr} {ta tb te to:aN} {ts:List aN} {x c m f:Str} {p pos apos cpos:Pos} {j k n:Nat} {sp:aF}
def c4(O:Cw X.prog X.w X.K X.mg X.base k x n sp)(hr:Room j X.A)(ha:i7 X (e::es) ts)(hj:k<=j:=by omega)(hl:ts.length=n:=by rfl)(hg:Gl X x:=by rfl)(he:starEach (e::es) X.env=(false,eval e X.env)::starEach es X.env:=by rfl)(hdb:(x == ("__debug__":Str))=false:=by decide)(hpl:(backTo pos (starEach es X.env)).any (·.1)=false:=by rfl) :
  aY X (.Call (.Name x p) (e::es) [] pos) (ae sp ts):=by
 obtain⟨f,fd,ps,hn,F,h1,h2,h3⟩:=O.ex
 exact rL F (hr.mono hj) hg h1 h2 h3 he ha (hl.trans hn.symm) hdb hpl
def cB{id:String}{r:ng}(hc:eP X (.builtin id) r)(hm:X.mg x=none)(ha:i7 X (e::es) ts)(hg:Gl X x:=by rfl)(hv:bootBuiltins x=some (.builtin id):=by decide +kernel)(he:starEach (e::es) X.env=(false,eval e X.env)::starEach es X.env:=by rfl)
  (hnn:x ≠ "__name__":=by decide) (hdb:(x == ("__debug__":Str))=false:=by decide) (hpl:(backTo pos (starEach es X.env)).any (·.1)=false:=by rfl):aY X (.Call (.Name x p) (e::es) [] pos) (am r ts):=ub hc hg hm hv he ha hnn hdb hpl
def cT{id:String}{r:ng}(hc:eP X (.type id) r)(hm:X.mg x=none)(ha:i7 X (e::es) ts)(hg:Gl X x:=by rfl)(hv:bootBuiltins x=some (.type id):=by decide +kernel)(he:starEach (e::es) X.env=(false,eval e X.env)::starEach es X.env:=by rfl)
  (hnn:x ≠ "__name__":=by decide) (hdb:(x == ("__debug__":Str))=false:=by decide) (hpl:(backTo pos (starEach es X.env)).any (·.1)=false:=by rfl):aY X (.Call (.Name x p) (e::es) [] pos) (am r ts):=uc hc hg hm hv he ha hnn hdb hpl
def lc{r:List Expr}(ha:aY X a ta)(hr:i7 X r ts)(hs:starEach (a::r) X.env=(false,eval a X.env)::starEach r X.env:=by rfl):i7 X (a::r) (ta::ts):=rm hs ha hr
def l1(ha:aY X a ta)(hs:starEach [a] X.env=(false,eval a X.env)::starEach [] X.env:=by rfl):i7 X [a] [ta]:=rm hs ha cH
def bc{i:Int}{q:Nat}{p2:Pos}(hr:Room j X.A)(ha:aY X a ta)(hs:i5 (.Constant (.int i) q p2):=by exact fun _ _=>rfl):aY X (.Subscript a (.Constant (.int i) q p2) pos) (ah ag ta (c3 (.int i))):=yL (AI (sQ hr)) ha ac hs
def dH(hr:Room j X.A)(ha:aY X a ta)(hb:aY X b tb)(hs:i5 b:=by exact fun _ _=>rfl):aY X (.Subscript a b pos) (ah ag ta tb):=yL (AI (sQ hr)) ha hb hs
def fV(hr:Room j X.A)(ha:aY X a ta)(hb:aY X b tb):mG X (.Compare a [.Eq] [b] pos) (aI (ah (bo false) ta tb)):=aU (iN (gy hr)) ha hb (aM _)
def yZ(hr:Room j X.A)(ha:aY X a ta)(hb:aY X b tb):mG X (.Compare a [.NotEq] [b] pos) (aI (ah (bo true) ta tb)):=aU (yJ (gy hr)) ha hb (aM _)
def s4(i:Nat){pos':Pos}(nd:X.N.Nodup)(he:aY X e te)(hi:X.N[i]?=some x:=by rfl)(hx:u6 X.env.scope x:=by first|exact Or.inl rfl|exact Or.inr rfl)(hs:swapsWith e (some (.Name x pos')) pos.line X.env=pure false:=by rfl)
  (hf:X.fn x=true\/X.env.scope.names.lookup x=some .local:=by first|exact .inl rfl|exact .inr rfl|assumption):mZ X (.Assign [.Name x pos'] e pos) (au i te):=yQ nd hi hx he hs hf
def gn(i:Nat)(nd:X.N.Nodup)(hi:X.N[i]?=some x:=by rfl)(hx:u6 X.env.scope x:=by first|exact Or.inl rfl|exact Or.inr rfl)(hf:X.fn x=true\/X.env.scope.names.lookup x=some .local:=by first|exact .inl rfl|exact .inr rfl|assumption):sO X (.Name x pos) (.n i):=AZ i nd hi hx hf
def A3{px:Pos}{kvs:List (bb×Int)}{g:Expr}{tg:aN}(hr:Room j X.A)(hD:∃a,X.mg x=some (.ref a)/\KD X.prog X.w X.K a (kvs.map fun kv=>(kv.1,V.int kv.2)))(he:aY X e te)(hf:aY X g tg)(hg:Gl X x:=by rfl)(m:M2 X (.Name x px) "get" apos e g cpos:=by exact⟨rfl,rfl,rfl,rfl⟩)
  (hd:(x == ("__debug__":Str))=false:=by decide):aY X (.Call (.Attribute (.Name x px) "get" apos) [e,g] [] cpos) (oz kvs te tg):=let ⟨_,h1,h2⟩:=hD;wX (sQ hr) hg h1 h2 he hf m hd
end
structure uy (T:String) (name:Str) (id:String):Prop where
 pa:PlainAttrs T
 slot:Slot T name id
 ty:typeOf (.builtin id)=pure (.type "method_descriptor")
section
variable {X:Cx} {e o:Expr} {es:List Expr} {to:aN} {ts:List aN} {name:Str} {T id:String} {p pos apos cpos:Pos} {r:mH}
def b7:uy "list" "append" "list.append":=⟨PySem.F.plainAttrs_list,PySem.F.slot_list_append,PySem.F.type_list_append⟩
def ft:uy "list" "extend" "list.extend":=⟨PySem.F.plainAttrs_list,PySem.F.slot_list_extend,PySem.F.type_list_extend⟩
def pQ:uy "list" "insert" "list.insert":=⟨PySem.F.plainAttrs_list,PySem.F.slot_list_insert,PySem.F.type_list_insert⟩
def rV:uy "list" "pop" "list.pop":=⟨PySem.F.plainAttrs_list,PySem.F.slot_list_pop,PySem.F.type_list_pop⟩
def rW:uy "list" "clear" "list.clear":=⟨PySem.F.plainAttrs_list,PySem.F.slot_list_clear,PySem.F.type_list_clear⟩
def oD:uy "str" "join" "str.join":=⟨PySem.F.plainAttrs_str,PySem.F.slot_str_join,PySem.F.type_str_join⟩
def rX:uy "str" "index" "str.index":=⟨PySem.F.plainAttrs_str,PySem.F.slot_str_index,PySem.F.type_str_index⟩
def mJ(k:uy T name id)(hm:pG X id r)(ho:aY X o to)(ha:i7 X (e::es) ts)(hs:starEach (e::es) X.env=(false,eval e X.env)::starEach es X.env:=by rfl)
  (hbase:attributeBase o name X.env (eval o X.env)=eval o X.env:=by rfl)
  (hfew:((backTo cpos (starEach (e::es) X.env)).all (fun x=>!x.1)&&(backToKw cpos (keywordEach [] X.env)).all (fun x=>x.1.isSome)
   && decide ((e::es).length+([]:List Keyword).length+(if ([]:List Keyword).isEmpty then 0 else 1) < 30))=true:=by rfl)
  (hline:(apos.endLine == cpos.line)=true:=by rfl) (hplain:(backTo cpos (starEach es X.env)).any (·.1)=false:=by rfl):aY X (.Call (.Attribute o name apos) (e::es) [] cpos) (eF T r to ts):=Ai k.pa k.slot k.ty hm hs ho ha hbase hfew hline hplain
def y2(k:uy T name id)(hm:pG X id r)(ho:aY X o to)
  (hbase:attributeBase o name X.env (eval o X.env)=eval o X.env:=by rfl) (hline:(apos.endLine == cpos.line)=true:=by rfl):aY X (.Call (.Attribute o name apos) [] [] cpos) (eF T r to []):=yP k.pa k.slot k.ty hm ho hbase hline
end
section
variable {X:Cx} {tg iter elt:Expr} {ifs:List Expr} {scope:Scope} {pos:Pos} {ti:sP} {g:Tg} {tc:gW} {te:aN}
def sU(fs:Vs)(own:Nat)(fr:List Nat)(N:Vs)(hi:vp X tg iter ti)(hg:∀B,sO (X.CO N scope fs B) tg g)(hf:∀B,xM (X.CO N scope fs B) ifs tc)(he:∀B,aY (X.CO N scope fs B) elt te)
  (EN:g.under own=true:=by rfl) (hc:X.calm=true:=by rfl) (hclos:closureFor scope X.env=pure (b4 X.env fs):=by rfl) (hcell:∀y∈scope.names,y.2 ≠ .cell:=by decide +kernel) (hkind:scope.kind = .function:=by rfl)
  (hnames:∀x∈scope.names,x.2 = .local->scope.names.lookup x.1=some .local:=by decide +kernel) (hcl:bQ X.env fs:=by repeat' first|exact trivial|exact⟨_,rfl⟩|constructor) (hhas:k4 (relabel scope X.env).names (b4 X.env fs)=true:=by rfl)
  (hlen:N.length=own+fr.length:=by rfl) (hN:(N.drop own).map some=fr.map (fun j=>X.N[j]?):=by rfl) (hF:B1 X.env scope (b4 X.env fs) (N.drop own):=by repeat' first|exact trivial|exact .inl rfl|exact .inr rfl|exact rfl|apply And.intro)
  (hs:∀x,foldedSetIterable iter X.env x=pure x:=by intro _;rfl):aY X (.ListComp elt [⟨tg,iter,ifs,0⟩] scope pos) (a_ ti g tc te own fr):=wV fs own fr N EN hc hclos hcell hkind hnames hcl hhas hlen hN hF hi hg hf he hs
def y3(fs:Vs)(own:Nat)(fr:List Nat)(N:Vs)(i:Nat){y:Str}{py spos:Pos}(hX:X.N.Nodup)(hi:vp X tg iter ti)(hg:∀B,sO (X.CO N scope fs B) tg g)(hf:∀B,xM (X.CO N scope fs B) ifs tc)(he:∀B,aY (X.CO N scope fs B) elt te)
  (hix:X.N[i]?=some y:=by rfl) (hy:X.env.scope.names.lookup y=some .local:=by rfl) (hsw:swapsWith (.ListComp elt [⟨tg,iter,ifs,0⟩] scope pos) (some (.Name y py)) spos.line X.env=pure true:=by rfl)
  (EN:g.under own=true:=by rfl) (hc:X.calm=true:=by rfl) (hclos:closureFor scope X.env=pure (b4 X.env fs):=by rfl) (hcell:∀y∈scope.names,y.2 ≠ .cell:=by decide +kernel) (hkind:scope.kind = .function:=by rfl)
  (hnames:∀x∈scope.names,x.2 = .local->scope.names.lookup x.1=some .local:=by decide +kernel) (hcl:bQ X.env fs:=by repeat' first|exact trivial|exact⟨_,rfl⟩|constructor) (hhas:k4 (relabel scope X.env).names (b4 X.env fs)=true:=by rfl)
  (hlen:N.length=own+fr.length:=by rfl) (hN:(N.drop own).map some=fr.map (fun j=>X.N[j]?):=by rfl) (hF:B1 X.env scope (b4 X.env fs) (N.drop own):=by repeat' first|exact trivial|exact .inl rfl|exact .inr rfl|exact rfl|apply And.intro)
  (hs:∀x,foldedSetIterable iter X.env x=pure x:=by intro _;rfl):mZ X (.Assign [.Name y py] (.ListComp elt [⟨tg,iter,ifs,0⟩] scope pos) spos) (au i (a_ ti g tc te own fr)):=wW fs own fr N hX hix hy hsw EN hc hclos hcell hkind hnames hcl hhas hlen hN hF hi hg hf he hs
end
section
variable {X:Cx} {e o value:Expr} {es:List Expr} {te to:aN} {ts:List aN} {x c m f:Str} {fl:Vs} {p pos pos' apos:Pos} {j k n:Nat} {sp:aF}
end
section
variable {P:Program} {w:World} {K:Vo} {mg:Vr} {base:Heap}
end
section
variable {X:Cx} {e:Expr} {es:List Expr} {ts:List aN} {x:Str} {p pos cpos:Pos} {ks:Vs} {j:Nat}
def xN{n:String}(hm:X.mg x=none)(hg:Gl X x:=by rfl)(hv:bootBuiltins x=some (.type n):=by decide +kernel)(hn:x ≠ "__name__":=by decide)(hd:(x == ("__debug__":Str))=false:=by decide):aY X (.Name x pos) (c3 (.ty n)):=Ah hg hm hv hn hd
end
section
variable {X:Cx} {body suite:List Stmt} {b₀:Stmt} {n x:Str} {np hpos pos:Pos} {tb th:bG} {cs:Vs}
end
section
variable {P:Program} {w:World} {K:Vo} {mg:Vr} {base:Heap}
structure md (K:Vo) (mg:Vr) (x:Str) (st:Stmt) (ps:Vs):Prop where
 ex:∃T f fd,Aq K mg x st ps T f fd
structure E4 (P:Program) (w:World) (K:Vo) (mg:Vr) (base:Heap) (k:Nat) (x:Str) (n:Nat) (sp:aF):Prop where
 ex:∃f fd ps,ps.length=n/\EO P w K mg base k f fd ps sp/\mg x=some (.ref f)/\PySem.W.keepIn K (.ref f)=true/\Binds K fd ps []/\Binds K fd ps [.bool true]
def A4{x:Str}{st:Stmt}{ps:Vs}{k n:Nat}{t:bG}{sp:aF}(N:Vs)(O:md K mg x st ps)
  (hbody:∀(f:Addr) (cdv:Value) (A:Around) (outer:List Env) (s:Shared) (H:Hp) (E:XK),Room k (A.deeper (PyProof.Rows.envOfC x (ax st) s.heap.objs.size f cdv))->N.Nodup->hG (yS P w K mg base N x st f cdv A outer s H E) (aX st) t) (e:sp=Bs N.length t)
  (hn:ps.length=n:=by rfl) (S:cz N ps (ax st):=by exact⟨rfl,rfl,rfl,by decide +kernel,rfl,by decide +kernel,by decide +kernel⟩):E4 P w K mg base (k+1) x n sp:=by
 subst e
 obtain⟨T,f,fd,o⟩:=O.ex
 exact⟨f,fd,ps,hn,Ap o.F S fun cdv A outer s H E hr=>hbody f cdv A outer s H E hr S.nd,o.m,o.k,o.b,o.d⟩
theorem E4.zero{x:Str}{st:Stmt}{ps:Vs}{k n:Nat}(O:md K mg x st ps)(hn:ps.length=n:=by rfl):E4 P w K mg base k x n ny:=by
 obtain⟨T,f,fd,o⟩:=O.ex
 exact⟨f,fd,ps,hn,.zero rfl,o.m,o.k,o.b,o.d⟩
theorem y7{b n:Nat}{x:Str}{st:Stmt}{ps:Vs}{r:Nat->aF}(O:md K mg x st ps)(h:∀j,E4 P w K mg base (b+j) x n (r j)->E4 P w K mg base (b+j+1) x n (r (j+1)))(h0:r 0=ny)(hn:ps.length=n:=by rfl):∀j,E4 P w K mg base (b+j) x n (r j)
 |0=>by rw[h0];exact .zero O hn
 |j+1=>h j (y7 O h h0 hn j)
end
section
variable {X:Cx} {e:Expr} {es:List Expr} {ts:List aN} {x:Str} {p pos:Pos} {j k n:Nat} {sp:aF}
def cD(O:E4 X.prog X.w X.K X.mg X.base k x n sp)(hr:Room j X.A)(ha:i7 X (e::es) ts)(hj:k<=j:=by omega)(hl:ts.length+1=n:=by rfl)(hg:Gl X x:=by rfl)(he:starEach (e::es) X.env=(false,eval e X.env)::starEach es X.env:=by rfl)(hdb:(x == ("__debug__":Str))=false:=by decide)(hpl:(backTo pos (starEach es X.env)).any (·.1)=false:=by rfl) :
  aY X (.Call (.Name x p) (e::es) [] pos) (lp sp ts):=by
 obtain⟨f,fd,ps,hn,F,h1,h2,h3,h4⟩:=O.ex
 exact uu F (hr.mono hj) hg h1 h2 h4 he ha (hl.trans hn.symm) hdb hpl
def A5(O:E4 X.prog X.w X.K X.mg X.base k x n sp)(hr:Room j X.A)(ha:i7 X (e::es) ts)(hj:k<=j:=by omega)(hl:ts.length=n:=by rfl)(hg:Gl X x:=by rfl)(he:starEach (e::es) X.env=(false,eval e X.env)::starEach es X.env:=by rfl)(hdb:(x == ("__debug__":Str))=false:=by decide)(hpl:(backTo pos (starEach es X.env)).any (·.1)=false:=by rfl) :
  aY X (.Call (.Name x p) (e::es) [] pos) (ae sp ts):=by
 obtain⟨f,fd,ps,hn,F,h1,h2,h3,h4⟩:=O.ex
 exact rL F (hr.mono hj) hg h1 h2 h3 he ha (hl.trans hn.symm) hdb hpl
end
end L3
namespace L2
open PySem PySem.Spec PyProof.Rows
section
variable {X:Cx}
end
end L2
namespace L3
open PySem L2
section
variable {X:Cx}
end
end L3
namespace CY
open PySem L2 L3
end CY
namespace L2
open PySem PySem.Spec PyProof.Rows
section
variable {X:Cx}
end
end L2
namespace L3
open PySem L2
section
variable {X:Cx}
end
end L3
namespace Sa
open PySem PyProof.Rows
def oE(t:SetTable)(j:Nat):(t.put j).1.led=t.led:=by unfold SetTable.put;dsimp only
def uz(t:SetTable)(es:Array (Int×Value))(h:Int)(x:Value):(layNew t es h x).2.1.led=t.led:=by
 unfold layNew
 split
 ·dsimp only
  unfold SetTable.orStandIn
  split
  ·exact oE t _
  ·rename_i j wd he hn
   exact oE t j
 ·rfl
def pR(t:SetTable)(es:Array (Int×Value))(n:Nat):(relayAll t es n).2.1.led=t.led:=by
 unfold relayAll
 split
 ·rename_i t' order e
  dsimp only
  split
  ·unfold SetTable.relaid SetTable.laid at e
   cases hl:SetTable.layClean (SetTable.sizeAbove n - 1) (es.map (·.1))with
   |none=>rw[hl]at e;cases e
   |some o=>rw[hl]at e;cases e;rfl
  ·rfl
 ·rfl
def me(t:SetTable)(es:Array (Int×Value))(n:Nat)(h:t.plain=false):(relayAll t es n).2.1.plain=false:=by
 unfold relayAll
 split
 ·rename_i t' order e
  dsimp only
  split
  ·unfold SetTable.relaid SetTable.laid at e
   cases hl:SetTable.layClean (SetTable.sizeAbove n - 1) (es.map (·.1))with
   |none=>rw[hl]at e;cases e
   |some o=>rw[hl]at e;cases e;exact h
  ·rfl
 ·rfl
section
variable {prog:Program} {w:World} {A:Around} {E:Vq} {s:Shared}
def C_(prog:Program)(w:World)(h:Heap)(a:Addr)(ld:Bool)(ss:Vs):Prop:=
 ∃o es ep t,h.get? a=some o/\o.ExactSet/\o.data = .set es ep t/\ElemsOf (strKind prog w) es.toList/\(∀k,k∈ss↔∃e∈es.toList,(strKind prog w).is k e.2=true)/\es.size=ss.length/\ss.Nodup/\t.fits es.size=true/\t.led=ld/\(ss≠[]->t.plain=false)
def vq{a:Addr}{o:Obj}{es es':Array (Int×Value)}{ep:Nat}{t t':SetTable}{ld:Bool}{ss:Vs}{h:Heap}(ho:h.get? a=some o)(hx:o.ExactSet)(hd:o.data = .set es ep t)(e1:ElemsOf (strKind prog w) es'.toList)(e2:∀k,k∈ss↔∃e∈es'.toList,(strKind prog w).is k e.2=true)(e3:es'.size=ss.length)(e4:ss.Nodup)(e5:t'.fits es'.size=true)(e6:t'.led=ld)(e7:ss≠[]->t'.plain=false) :
  ∃o',(h.update a (Obj.putSet es' t')).get? a=some o'/\o'.ExactSet/\o'.data = .set es' (ep+1) t'/\C_ prog w (h.update a (Obj.putSet es' t')) a ld ss:=by
 have g:=Heap.get?_update_self (Obj.putSet es' t') ho (by rw[putSet_of es' t' hd];rfl)
 rw[putSet_of es' t' hd]at g
 exact⟨_,g,hx,rfl,_,es',ep+1,t',g,hx,rfl,e1,e2,e3,e4,e5,e6,e7⟩
def y8{a:Addr}{ld:Bool}{ss:Vs}{k:Str}{tk:Tok}{Q:Bool->Shared->Prop}(hS:C_ prog w s.heap a ld ss)(hl:ss.length < 60)
  (q:∀g b,Heap.SameBut a s.heap g->C_ prog w g a ld (if k∈ss then ss else ss++[k])->Q b { s with heap:=g }):wpAny (model prog w) A (setAddHashed a (.str k tk) (hashStr w k)) Q E s:=by
 obtain⟨o,es,ep,t,ho,hx,hd,hel,hm,hn,hnd,hf,DE,hpl⟩:=hS
 have hkey:(strKind prog w).is k (.str k tk)=true:=strKind_is prog w k tk
 have F0:es.size < scanBound:=by rw[hn];unfold scanBound;omega
 have hid:s={ s with heap:=s.heap }:=by cases s;rfl
 unfold setAddHashed setAddHashedIn
 refine wpAny_holding (wpAny_bind (wpAny_setState_of ho hd hf ?_))
 dsimp only
 rw[byScan_of (knd:=strKind prog w) (x:=.str k tk) rfl F0 hel]
 simp only[↓reduceIte]
 unfold setAddByScan
 refine wpAny_bind (wpAny_bind (wpAny_rule (wpAny_bind ?_)))
 refine wpAny_setScan_of (knd:=strKind prog w) hkey ho hd hf hel ?_
 cases hr:List.findIdx? (fun e=>(strKind prog w).is k e.2) es.toList with
 |some j=>
  dsimp only
  obtain⟨hj,hp,_⟩:=List.findIdx?_eq_some_iff_getElem.mp hr
  have hin:k∈ss:=(hm k).mpr ⟨_,List.getElem_mem hj,hp⟩
  rw[if_pos hin]at q
  refine wpAny_pure (wpAny_pure ?_)
  rw[hid]
  exact q s.heap _ (Heap.SameBut.refl a s.heap) ⟨o,es,ep,t,ho,hx,hd,hel,hm,hn,hnd,hf,DE,hpl⟩
 |none=>
  dsimp only
  have hout:k ∉ ss:=fun hin=>by
   obtain⟨e,he,hp⟩:=(hm k).mp hin
   have:=List.findIdx?_eq_none_iff.mp hr e he
   rw[hp]at this;cases this
  rw[if_neg hout]at q
  have p1:=layNew_perm t es (hashStr w k) (.str k tk)
  have p2:=layNew_fits t es (hashStr w k) (.str k tk)
  have p3:=uz t es (hashStr w k) (.str k tk)
  generalize layNew t es (hashStr w k) (.str k tk)=L at p1 p2 p3 ⊢
  obtain⟨es1,t1,wd,gv⟩:=L
  dsimp only at p1 p2 p3 ⊢
  rw[Array.toList_push]at p1
  have hel1:ElemsOf (strKind prog w) es1.toList:=(ElemsOf.push hel hkey rfl).perm p1
  have hm1:∀k',k'∈ss++[k]↔∃e∈es1.toList,(strKind prog w).is k' e.2=true:=fun k'=>by
   rw[List.mem_append,List.mem_singleton,hm k']
   constructor
   ·rintro(⟨e,he,hp⟩|rfl)
    ·exact⟨e,p1.mem_iff.mpr (List.mem_append_left _ he),hp⟩
    ·exact⟨_,p1.mem_iff.mpr (List.mem_append_right _ (List.mem_singleton.mpr rfl)),hkey⟩
   ·rintro⟨e,he,hp⟩
    rcases List.mem_append.mp (p1.mem_iff.mp he)with he|he
    ·exact .inl ⟨e,he,hp⟩
    ·rw[List.mem_singleton.mp he]at hp
     exact .inr ((strKind prog w).inj _ _ _ hp hkey)
  have hn1:es1.size=(ss++[k]).length:=by rw[<-Array.length_toList,p1.length_eq,List.length_append,List.length_append,Array.length_toList,hn];rfl
  have F1:(ss++[k]).Nodup:=List.nodup_append.mpr ⟨hnd,by simp,fun a ha b hb e=>hout (by rw[<-List.mem_singleton.mp hb,<-e];exact ha)⟩
  have fin:∀(t2:SetTable),t2.fits es1.size=true->t2.led=ld->t2.plain=false->∀(g:Bool->Sem Unit),(∀(b:Bool) (s1:Shared) (Q':Unit->Shared->Prop),Q' () s1->wpAny (model prog w) A (g b) Q' E s1)->∀R:Option Bool->Shared->Prop,(∀g' ,Heap.SameBut a s.heap g'->C_ prog w g' a ld (ss++[k])->R (some true) { s with heap:=g' })->
    wpAny (model prog w) A (do
     storeSet a es1 t2
     if (!wd&&t2.tooFull)=true then do
       g (relayAll t2 es1 (SetTable.grown es1.size)).2.2
       storeSet a (relayAll t2 es1 (SetTable.grown es1.size)).1 (relayAll t2 es1 (SetTable.grown es1.size)).2.1
       pure (some true)
      else pure (some true)) R E s:=by
   intro t2 f2 l2 b2 g hg R hR
   have z1:es1.size<=sizeLine:=fits_of_scanBound (by rw[hn1,List.length_append];unfold scanBound;simp;omega)
   refine wpAny_bind (wpAny_storeSet_of ho hd ?_ z1)
   obtain⟨o1,g1,x1,d1,P1⟩:=vq (prog:=prog) (w:=w) (ss:=ss++[k]) ho hx hd hel1 hm1 hn1 F1 f2 l2 (fun _=>b2)
   have HX:=Heap.SameBut.update s.heap a (Obj.putSet es1 t2)
   split
   ·have r1:=relayAll_perm t2 es1 (SetTable.grown es1.size)
    have r2:=relayAll_fits t2 es1 (SetTable.grown es1.size)
    have r3:=pR t2 es1 (SetTable.grown es1.size)
    have r4:=me t2 es1 (SetTable.grown es1.size) b2
    generalize relayAll t2 es1 (SetTable.grown es1.size)=W at r1 r2 r3 r4 ⊢
    obtain⟨I9,t3,g3⟩:=W
    dsimp only at r1 r2 r3 r4 ⊢
    have hs2:I9.size=es1.size:=by rw[<-Array.length_toList,r1.length_eq,Array.length_toList]
    refine wpAny_bind (hg _ _ _ ?_)
    refine wpAny_bind (wpAny_storeSet_of g1 d1 ?_ (by rw[hs2];exact z1))
    obtain⟨_,_,_,_,P2⟩:=vq (prog:=prog) (w:=w) (ss:=ss++[k]) g1 x1 d1 (hel1.perm r1) (fun k'=>(hm1 k').trans ⟨fun⟨e,he,hp⟩=>⟨e,r1.mem_iff.mpr he,hp⟩,fun⟨e,he,hp⟩=>⟨e,r1.mem_iff.mp he,hp⟩⟩) (by rw[hs2];exact hn1) F1 r2 (r3.trans l2) (fun _=>r4)
    exact wpAny_pure (hR _ (HX.trans (Heap.SameBut.update _ a _)) P2)
   ·exact wpAny_pure (hR _ HX P1)
  have gw:∀(b:Bool) (s1:Shared) (Q':Unit->Shared->Prop),Q' () s1->wpAny (model prog w) A (match b with|true=>rule "set.scan.the-table-gave-way" | false=>pure ()) Q' E s1:=fun b s1 Q' h=>by cases b<;>first|exact wpAny_pure h|exact wpAny_rule h
  refine wpAny_bind (gw _ _ _ ?_)
  split
  ·refine wpAny_bind ?_
   rw[hashByValue_scannable 8 (x:=.str k tk) rfl]
   refine wpAny_pure ?_
   have e0:plainKind (.str k tk)=false:=rfl
   rw[e0]
   simp only[Bool.false_eq_true,if_false]
   exact fin _ (SetTable.fits_plain_off p2) (p3.trans DE) rfl _ gw _ fun g' F0 P=>wpAny_pure (q g' _ F0 P)
  ·rename_i Fa
   refine wpAny_bind (wpAny_pure ?_)
   simp only[↓reduceIte]
   exact fin _ p2 (p3.trans DE) (by simpa using Fa) _ gw _ fun g' F0 P=>wpAny_pure (q g' _ F0 P)
end
noncomputable def dd(l:Vs):List Str:=l.foldl (fun ss k=>if k∈ss then ss else ss++[k]) []
def uA(l:Vs)(k:Str):dd (l++[k])=if k∈dd l then dd l else dd l++[k]:=by unfold dd;rw[List.foldl_append];rfl
def uB(l m:Vs):(dd l).length<=(dd (l++m)).length:=by
 have:∀(m ss:Vs),ss.length<=(m.foldl (fun ss k=>if k∈ss then ss else ss++[k]) ss).length:=fun m=>by
  induction m with
  |nil=>intro ss;simp
  |cons k m ih=>
   intro ss
   rw[List.foldl_cons]
   have h:=ih (if k∈ss then ss else ss++[k])
   have e:ss.length<=(if k∈ss then ss else ss++[k]).length:=by split<;>simp
   omega
 unfold dd
 rw[List.foldl_append]
 exact this m _
def xa(l:Vs)(k:Str):k∈dd l↔k∈l:=by
 have:∀(l ss:Vs),k∈l.foldl (fun ss k=>if k∈ss then ss else ss++[k]) ss↔k∈ss\/k∈l:=fun l=>by
  induction l with
  |nil=>intro ss;simp
  |cons x l ih=>
   intro ss
   rw[List.foldl_cons,ih,List.mem_cons]
   by_cases h:x∈ss
   ·rw[if_pos h]
    constructor
    ·rintro(a|a)
     ·exact .inl a
     ·exact .inr (.inr a)
    ·rintro(a|rfl|a)
     ·exact .inl a
     ·exact .inl h
     ·exact .inr a
   ·rw[if_neg h,List.mem_append,List.mem_singleton,or_assoc]
 unfold dd
 simpa using this l []
def C_.at_{prog:Program}{w:World}{h h':Heap}{a:Addr}{ld:Bool}{ss:Vs}(x:C_ prog w h a ld ss)(e:∀o,h.get? a=some o->h'.get? a=some o):C_ prog w h' a ld ss:=by
 obtain⟨o,es,ep,t,ho,r⟩:=x
 exact⟨o,es,ep,t,e o ho,r⟩
section
variable {prog:Program} {w:World} {A:Around} {R:Result->Shared->Prop} {I:Addr} {fp wr:List Addr} {G:Array GenState->Array GenState->Prop} {n:Nat} {P:Nat->Value->Prop} {St:Nat->Shared->Prop}
def xc(W:WalksS prog w A.in1 I fp wr G n P St)(a:Addr)(ha:a ∉ fp)(ns:Vs)(hns:ns.length=n)(hP:∀i v,P i v->∃k t,ns[i]?=some k/\v = .str k t)(hn:(dd ns).length < 60)(ld:Bool) :
  ∀(r i:Nat) (s:Shared),n - i=r->i<=n->St i s->C_ prog w s.heap a ld (dd (ns.take i))->(∀s',Moved (a::wr) G s s'->C_ prog w s'.heap a ld (dd ns)->R (.ok (.ret .none)) s')->
   codeAny (model prog w) A (.builtin "set.update.loop" ⟨[.ref a,.ref I],[]⟩) R s:=by
 have aw:a ∉ wr:=fun h=>ha (W.sub _ h)
 have up:∀b∈wr,b∈a::wr:=fun b hb=>List.mem_cons_of_mem _ hb
 intro r
 induction r with
 |zero=>
  intro i s hr hi st hS q
  obtain rfl:i=n:=by omega
  refine codeAny_builtin F.entry_set_update_loop ?_
  rw[Around.under_plainId F.plain_set_update_loop _]
  show wpAny _ A.in1 (pyNext (.ref I) >>= _) _ _ s
  refine wpAny_bind (W.done s _ _ st fun s' mv=>?_)
  rw[List.take_of_length_le (by omega)]at hS
  exact wpAny_pure (q s' (mv.mono up) (hS.at_ fun o e=>mv.heap a o aw e))
 |succ r ih=>
  intro i s hr hi st hS q
  refine codeAny_builtin F.entry_set_update_loop ?_
  rw[Around.under_plainId F.plain_set_update_loop _]
  show wpAny _ A.in1 (pyNext (.ref I) >>= _) _ _ s
  refine wpAny_bind (W.item i s _ _ (by omega) st fun v s' hv st' mv=>?_)
  obtain⟨k,t,hk,rfl⟩:=hP i v hv
  have hS':=hS.at_ fun o e=>mv.heap a o aw e
  show wpAny _ A.in1 (holding [Value.str k t] (setAdd a (.str k t)) >>= _) _ _ s'
  refine wpAny_bind (wpAny_holding ?_)
  unfold setAdd
  refine wpAny_holding (wpAny_bind ((strKind prog w).pyHash (k:=k) (strKind_is prog w k t) ?_))
  have hl:=uB (ns.take i) (ns.drop i)
  rw[List.take_append_drop]at hl
  refine y8 (s:={ s' with toks:=s'.toks+1 }) (ss:=dd (ns.take i)) hS' (by omega) fun g b sb hS2=>?_
  have et:ns.take (i+1)=ns.take i++[k]:=by rw[List.take_add_one,hk];rfl
  rw[<-uA,<-et]at hS2
  refine wpAny_pure ⟨plainId_quiet F.plain_set_update_loop _,ih (i+1) _ (by omega) (by omega) (W.frame _ s' _ _ st' (Nat.le_succ _) fun c hc o e=>?_) hS2 fun s2 I_ Gr=>?_⟩
  ·rw[sb.2 c (fun h=>ha (h▸hc))];exact e
  ·refine q s2 (Moved.trans W.gtrans ((mv.mono up).then_heap (Nat.le_succ _) fun c o hc e=>?_) I_) Gr
   rw[sb.2 c (fun h=>hc (h▸List.mem_cons_self))];exact e
end
theorem oF:∀{vs:Vv} {ns:Vs},StrsAre vs ns->∀(i:Nat) (v:Value),vs[i]?=some v->∃k t,ns[i]?=some k/\v=Value.str k t
 |_,_,.nil,i,v,h=>by simp at h
 |_,_,.cons y t r,0,v,h=>by simp at h;exact⟨y,t,rfl,h.symm⟩
 |_,_,.cons y t r,i+1,v,h=>by simpa using oF r i v (by simpa using h)
noncomputable abbrev nw(ld:Bool):Obj:={ cls:=.type "set",dict:=none,data:=.set #[] 0 (.fresh 0 0 ld) }
section
variable {prog:Program} {w:World} {A:Around} {E:Vq} {s:Shared}
noncomputable abbrev eG(w:World):Bool:=!(w.params.followText "set-order")
def y9(x:Value){Q:Vq}(q:Q (.ref s.heap.objs.size) { s with heap:=s.heap.push (nw (eG w)) }) :
  codeAny (model prog w) A (.call (.builtin "set.__new__") ⟨[.type "set",x],[]⟩) (wants Q E) s:=by
 refine codeAny_of_tree ?_
 show wpAny _ A.in1 (checkBuiltinCall "set.__new__" ⟨[.type "set",x],[]⟩ >>= fun _=>again (.builtin "set.__new__" ⟨[.type "set",x],[]⟩)) _ _ s
 refine wpAny_bind (wpAny_of_eq (F.newCall_set_1 x) (wpAny_pure ⟨plainId_quiet F.plain_set_new _,codeAny_builtin F.entry_set_new ?_⟩))
 rw[Around.under_plainId F.plain_set_new _]
 unfold Builtin.«set.__new__» Builtin.Frozenset.newClass
 have hs:=sub_set_self
 obtain⟨hp,g,d,tk,os⟩:=s
 dsimp only
 wp_walk
 refine wpAny_askSetting (wpAny_pure ?_)
 dsimp only
 simp only[newObj]
 refine wpAny_bind (wpAny_alloc (wpAny_pure ?_))
 exact wpAny_pure q
def uC(h:Heap)(ld:Bool):C_ prog w (h.push (nw ld)) h.objs.size ld []:=
 ⟨nw ld,#[],0,_,Heap.get?_push_size _ rfl,⟨rfl,rfl,rfl⟩,rfl,fun e he=>by simp at he,fun k=>by simp,rfl,List.nodup_nil,by rfl,rfl,fun h=>absurd rfl h⟩
def rY{l:Addr}{its:Vw}{ns:Vs}{Q:Vq}(hh:A.handled=none)(hl:s.heap.IsList l its)(hi:StrsAre its.toList ns)(hn:(dd ns).length < 60)
  (q:∀(g:Heap) (tk:Nat),C_ prog w g s.heap.objs.size (eG w) (dd ns)->(∀b o,b < s.heap.objs.size->s.heap.get? b=some o->g.get? b=some o)->Q (.ref s.heap.objs.size) { s with heap:=g,toks:=tk }) :
  wpAny (model prog w) A (call (.type "set") [.ref l]) Q E s:=by
 obtain⟨c,tl,Ja⟩:=F.called_set.mro
 have hmade:=F.called_set.made
 have hsub:=F.called_set.sub
 refine wpAny_call (codeAny_of_tree ?_)
 show wpAny _ _ (callAny (.type "set") _) _ _ _
 refine wpAny_pure ⟨Code.quiet_builtin _ (by decide +kernel),codeAny_builtin F.entry_type_call ?_⟩
 rw[Around.under_plain (weight_type_call_type "set" [.ref l] []) rfl]
 have h1:=F.called_set.notType
 have h2:=F.called_set.canCreate
 have hct:=F.typeCall_set_1 (.ref l)
 repeat (any_goals (first|assumption|wp_step))
 refine codeAny_mono (y9 (.ref l) (E:=E) (Q:=fun v s1=>v = .ref s.heap.objs.size/\s1={ s with heap:=s.heap.push (nw (eG w)) }) ⟨rfl,rfl⟩) fun r s1 hr=>?_
 match r,hr with
 | .error e,hr=>exact hr
 | .ok (.ret v),hr=>
  obtain⟨rfl,rfl⟩:=hr
  have hS:(s.heap.push (nw (eG w))).get? s.heap.objs.size=some (nw (eG w)):=Heap.get?_push_size _ rfl
  have hT:Shared.TypeIs { s with heap:=s.heap.push (nw (eG w)) } (.ref s.heap.objs.size) "set":=⟨_,hS,rfl⟩
  have hli:=F.called_set.init.lookup
  have hbi:=F.called_set.init.bind (.ref s.heap.objs.size)
  repeat (any_goals (first|assumption|wp_step))
  refine codeAny_mono (codeAny_call_builtin (R:=wants (fun v s2=>v = .none/\∃g tk,s2={ s with heap:=g,toks:=tk }/\C_ prog w g s.heap.objs.size (eG w) (dd ns)/\∀b o,b < s.heap.objs.size->s.heap.get? b=some o->g.get? b=some o) E) F.called_set.init.plain F.entry_set_init (check_set_init_1 hT ?_)) fun r2 s2 hr2=>?_
  ·obtain⟨ol,hol,hcl,nl,hdl⟩:=hl
   obtain⟨oc,od,oa,os'⟩:=ol
   simp only at hcl hdl
   subst hcl;subst hdl
   have G_:(s.heap.push (nw (eG w))).get? l=some { cls:=.type "list",dict:=od,data:=.seq its nl,slots:=os' }:=Heap.get?_push_of_some _ hol
   have Jb:=F.sub_list_set
   have Jc:=F.sub_list_frozenset
   have hne:(Value.type "list" == Value.type "dict")=false:=by decide
   have hl1:(s.heap.push (nw (eG w))).IsList l its:=⟨_,G_,rfl,nl,rfl⟩
   unfold Builtin.«set.__init__» noKeywords Builtin.Frozenset.updateFrom
   generalize Jd:pyIter=PI
   wp_walk
   subst Jd
   refine wpAny_pyIter_list hl1 ?_
   refine wpAny_bind (wpAny_runValue ?_)
   have lt:l < s.heap.objs.size:=Heap.lt_size hol
   have Je:A.in1.in1.in1.handled=none:=by simp[hh]
   have sz:(s.heap.push (nw (eG w))).objs.size=s.heap.objs.size+1:=Heap.size_push _ _
   have Ha:l≠(s.heap.push (nw (eG w))).objs.size:=by rw[sz];exact Nat.ne_of_lt (Nat.lt_succ_of_lt lt)
   have hSf:s.heap.objs.size ∉ [(s.heap.push (nw (eG w))).objs.size,l]:=by
    rw[sz]
    intro h
    simp only[List.mem_cons,List.not_mem_nil,or_false]at h
    rcases h with h|h
    ·exact absurd h (Nat.ne_of_lt (Nat.lt_succ_self _))
    ·exact absurd h (Nat.ne_of_gt lt)
   have ln:ns.length=its.size:=by rw[<-hi.strs,List.length_map,Array.length_toList]
   have val:∀(i:Nat) (v:Value),its[i]?=some v->∃k t,ns[i]?=some k/\v = .str k t:=fun i v hv=>by
    exact oF hi i v (by rw[Array.getElem?_toList];exact hv)
   refine xc ((Walks.list Je _ l Ha its).toS) s.heap.objs.size hSf ns ln val hn (eG w) (its.size - 0) 0 _ (by omega) (Nat.zero_le _) ⟨⟨_,Heap.get?_push_size _ rfl,rfl,rfl⟩,hl1.push _⟩ ?_ ?_
   ·exact(uC s.heap (eG w)).at_ fun o e=>Heap.get?_push_of_some _ e
   ·intro s' mv hS'
    obtain⟨g,g',d',tk',os2⟩:=s'
    have eg:g'=s.gens:=mv.gens
    have ed:d'=s.drawn:=mv.drawn
    have eo:os2=s.os:=mv.os
    subst eg;subst ed;subst eo
    show wpAny _ _ _ _ _ _
    refine wpAny_pure ?_
    show wpAny _ _ (ret Value.none) _ _ _
    refine wpAny_pure ⟨rfl,g,tk',rfl,hS',fun b o hb e=>?_⟩
    refine mv.heap b o (fun h=>?_) (Heap.get?_push_of_some _ (Heap.get?_push_of_some _ e))
    simp only[List.mem_cons,List.not_mem_nil,or_false]at h
    rcases h with h|h
    ·exact absurd h (Nat.ne_of_lt hb)
    ·rw[sz]at h;exact absurd h (Nat.ne_of_lt (Nat.lt_succ_of_lt hb))
  ·match r2,hr2 with
   | .error e,hr2=>exact hr2
   | .ok (.ret v),hr2=>
    obtain⟨rfl,g,tk,rfl,hS',hk⟩:=hr2
    repeat (any_goals (first|assumption|wp_step))
    exact q _ _ hS' hk
end
def mf:Manifest.owners.lookup (String.ofList ['r','o','t','a','r','e','t','i','_','t','e','s'].reverse)=some Manifest.sig_set_iterator:=by kernel_rfl
def Bj:Slot "set_iterator" "__next__" "set_iterator.__next__" :=
 .of (owner:="set_iterator") (n:="__next__") (by rw[typeLookup_type,builtinLookup_eq_fast];kernel_rfl) (by decide +kernel) (by decide +kernel) (by decide +kernel)
  (by first|exact .inl (by decide +kernel)|exact .inr (by decide +kernel)) (by rw[isSubtype_type];kernel_rfl)
def gB:Slot "set_iterator" "__iter__" "set_iterator.__iter__" :=
 .of (owner:="set_iterator") (n:="__iter__") (by rw[typeLookup_type,builtinLookup_eq_fast];kernel_rfl) (by decide +kernel) (by decide +kernel) (by decide +kernel)
  (by first|exact .inl (by decide +kernel)|exact .inr (by decide +kernel)) (by rw[isSubtype_type];kernel_rfl)
def dm:entryFor table "set_iterator.__next__" = some Builtin.«set_iterator.__next__»:=entryFor_of_tree (by kernel_rfl)
def j9:entryFor table "set_iterator.__iter__" = some Builtin.«dict_keyiterator.__iter__»:=
 entryFor_alias (id':="dict_keyiterator.__iter__") (by kernel_rfl) rfl (by decide +kernel) (by kernel_rfl)
def jJ:entryFor table "set.__iter__" = some Builtin.«frozenset.__iter__»:=
 entryFor_alias (id':="frozenset.__iter__") (by kernel_rfl) rfl (by decide +kernel) (by kernel_rfl)
def dR(a:Value):argsOk "set_iterator.__next__" ⟨[a],[]⟩:=by
 unfold argsOk;rw[signature?_of (id:="set_iterator.__next__") (n:=['_','_','t','x','e','n','_','_']) (o:=['r','o','t','a','r','e','t','i','_','t','e','s']) (by kernel_rfl) mf];kernel_rfl
def lr(a:Value):argsOk "set_iterator.__iter__" ⟨[a],[]⟩:=by
 unfold argsOk;rw[signature?_of (id:="set_iterator.__iter__") (n:=['_','_','r','e','t','i','_','_']) (o:=['r','o','t','a','r','e','t','i','_','t','e','s']) (by kernel_rfl) mf];kernel_rfl
theorem fW{α:Type}:∀(xs:List α) (i:Nat) (h:i < xs.length),(xs[i]::xs.eraseIdx i).Perm xs
 |x::xs,0,h=>List.Perm.refl _
 |x::xs,i+1,h=>by
  have:=fW xs i (by simpa using h)
  exact(List.Perm.swap _ _ _).trans (List.Perm.cons x this)
section
variable {prog:Program} {w:World} {A:Around} {E:Vq} {s:Shared}
def nz{src:Source}{n:Nat}{Q:Nat->Shared->Prop}(hn:n≠0)(q:∀i,i < n->Q i { s with drawn:=s.drawn.bump src }):wpAny (model prog w) A (choose src n) Q E s:=fun Γ p hΓ=>by
 unfold choose
 rw[Sem.wp_choose]
 exact⟨hn,q _ (Nat.mod_lt _ (Nat.pos_of_ne_zero hn))⟩
theorem mh{α:Type}:∀(n:Nat) (xs:List α) (s:Shared) {Q:List α->Shared->Prop},xs.length=n->(∀ys d,ys.Perm xs->Q ys { s with drawn:=d })->wpAny (model prog w) A (drawOrder n xs) Q E s
 |0,xs,s,Q,h,q=>by
  have:xs=[]:=List.length_eq_zero_iff.mp h
  subst this
  unfold drawOrder
  exact wpAny_pure (q [] s.drawn (List.Perm.refl _))
 |n+1,x::xs,s,Q,h,q=>by
  unfold drawOrder
  refine wpAny_bind (nz (by simp) fun i hi=>?_)
  have hg:(x::xs)[i]?=some (x::xs)[i]:=List.getElem?_eq_getElem hi
  rw[hg]
  refine wpAny_bind (mh n _ _ (by rw[List.length_eraseIdx,if_pos hi];simpa using h) fun ys d hp=>?_)
  exact wpAny_pure (q _ d ((List.Perm.cons _ hp).trans (fW _ i hi)))
theorem oG{α:Type}(next:Nat->Nat):∀(f k:Nat) (l:List α) (out:Array α),l.length=f->∃m:List α,m.Perm l/\pickOrder.go next f k l out=out++m.toArray
 |0,k,l,out,h=>by
  have:l=[]:=List.length_eq_zero_iff.mp h
  subst this
  exact⟨[],List.Perm.refl _,by simp[pickOrder.go]⟩
 |f+1,k,l,out,h=>by
  have hi:next k % l.length < l.length:=Nat.mod_lt _ (by omega)
  unfold pickOrder.go
  rw[List.getElem?_eq_getElem hi]
  dsimp only
  obtain⟨m,hm,e⟩:=oG next f (k+1) (l.eraseIdx (next k % l.length)) (out.push l[next k % l.length]) (by rw[List.length_eraseIdx,if_pos hi];omega)
  exact⟨l[next k % l.length]::m,(List.Perm.cons _ hm).trans (fW _ _ hi),by rw[e];simp⟩
def ig{α:Type}(next:Nat->Nat)(xs:Array α):(pickOrder next xs).toList.Perm xs.toList:=by
 obtain⟨m,hm,e⟩:=oG next xs.size 0 xs.toList #[] (by simp)
 unfold pickOrder
 rw[e]
 simpa using hm
def B_(h:Heap)(a:Addr)(es:Array (Int×Value))(ep:Nat)(t:SetTable):Prop:=∃o,h.get? a=some o/\o.ExactSet/\o.data = .set es ep t
def B6(h:Heap)(I a:Addr)(first:Value)(i n ep:Nat):Prop:=
 ∃o,h.get? I=some o/\o.cls = .type "set_iterator"/\o.data = .fields #[first,.int i 0,.ref a,.int n 0,.int ep 0]
def B_.at_{h h':Heap}{a es ep t}(x:B_ h a es ep t)(e:∀o,h.get? a=some o->h'.get? a=some o):B_ h' a es ep t:=let ⟨o,ho,r⟩:=x;⟨o,e _ ho,r⟩
def B6.at_{h h':Heap}{I a f i n ep}(x:B6 h I a f i n ep)(e:∀o,h.get? I=some o->h'.get? I=some o):B6 h' I a f i n ep:=let ⟨o,ho,r⟩:=x;⟨o,e _ ho,r⟩
def B6.typeIs{I a f i n ep}(x:B6 s.heap I a f i n ep):s.TypeIs (.ref I) "set_iterator":=let ⟨o,ho,hc,_⟩:=x;⟨o,ho,hc⟩
def nA{I a:Addr}{f:Value}{i n ep:Nat}{Q:Vq}(hit:B6 s.heap I a f i n ep)(h:Q (.ref I) s):wpAny (model prog w) A (pyIter (.ref I)) Q E s:=by
 refine wpAny_pyIter_slot hit.typeIs gB (wpAny_call_entry gB hit.typeIs j9 ?_ (lr _))
 show wpAny _ _ (ret (.ref I)) _ _ s
 exact wpAny_pure ⟨_,rfl,"set_iterator",_,hit.typeIs,Bj.lookup,h⟩
def xf{I a tp:Addr}{i n ep p:Nat}{es:Array (Int×Value)}{t:SetTable}{ps:Vw}{pn:Nat}{ot:Obj}{e:Int×Value}{Q:Option Value->Shared->Prop}(hit:B6 s.heap I a (.ref tp) i n ep)(ha:B_ s.heap a es ep t)(hf:t.fits es.size=true)(hn:es.size=n)
  (ht:s.heap.get? tp=some ot) (htd:ot.data = .seq ps pn) (hp:ps[i]?=some (rawInt p)) (he:es[p]?=some e)
  (q:∀h',B6 h' I a (.ref tp) (i+1) n ep->Heap.SameBut I s.heap h'->Q (some e.2) { s with heap:=h' }):wpAny (model prog w) A (pyNext (.ref I)) Q E s:=by
 obtain⟨o,ho,hc,hd⟩:=id hit
 obtain⟨oa,hoa,hx,hda⟩:=id ha
 unfold pyNext
 refine wpAny_bind (wpAny_attempt (wpAny_callSpecial?_slot (name:=Str.ofString "__next__") hit.typeIs Bj (wpAny_call_entry Bj hit.typeIs dm ?_ (dR _))))
 unfold Builtin.«set_iterator.__next__»
 refine wpAny_bind (wpAny_pure ?_)
 refine wpAny_bind (wpAny_fieldsOf ho hd ?_)
 dsimp only
 refine wpAny_bind (m:=setEntries a) (wpAny_bind (wpAny_setState_of hoa hda hf (wpAny_pure ?_)))
 rw[if_neg (by rw[hn];simp)]
 refine wpAny_bind (wpAny_seqItems ht htd ?_)
 dsimp only
 rw[show(Int.toNat (i:Int))=i from rfl,hp]
 simp only[rawInt]
 refine wpAny_bind (m:=setNextDrawn a _ _) ?_
 unfold setNextDrawn
 refine wpAny_bind (wpAny_setState_of hoa hda hf ?_)
 dsimp only
 rw[if_neg (by simp)]
 simp only[Int.toNat_natCast,he]
 refine wpAny_pure ?_
 refine wpAny_bind (wpAny_setField ho hd (by simp) ?_)
 have hit':B6 (s.heap.update I (Obj.mapFields (·.setIfInBounds 1 (rawInt ((i:Int)+1))))) I a (.ref tp) (i+1) n ep:=
  ⟨_,Heap.get?_update_self _ ho (Obj.isFreed_of_fields (Obj.data_mapFields hd _)),(Obj.cls_mapFields ..).trans hc,by rw[Obj.data_mapFields hd];simp[rawInt]⟩
 exact wpAny_pure ⟨_,rfl,wpAny_pure (q _ hit' (Heap.SameBut.update ..))⟩
end
section
variable {prog:Program} {w:World} {A:Around} {E:Vq} {s:Shared} {a:Addr} {es:Array (Int×Value)} {ep:Nat} {t:SetTable}
def je{Q:Bool->Shared->Prop}(q:Q (w.params.followText "set-order") s):wpAny (model prog w) A setsByText Q E s:=by
 unfold setsByText
 exact wpAny_bind (wpAny_askSetting (wpAny_pure q))
def y_{given slot:Nat}{Q:Option (Value×Nat)->Shared->Prop}(ha:B_ s.heap a es ep t)(hf:t.fits es.size=true)(hb:w.params.followText "set-order" = true)
  (q:Q (((pickOrder (w.params.setOrder a ep) es)[given]?).map fun e=>(e.2,slot)) s):wpAny (model prog w) A (setNext a slot given ep) Q E s:=by
 obtain⟨oa,hoa,hx,hda⟩:=id ha
 unfold setNext
 refine wpAny_bind (wpAny_setState_of hoa hda hf ?_)
 dsimp only
 refine wpAny_bind (je ?_)
 rw[if_pos hb,if_neg (by simp)]
 refine wpAny_bind (m:=setWalk a) ?_
 unfold setWalk
 refine wpAny_bind (wpAny_setState_of hoa hda hf ?_)
 dsimp only
 refine wpAny_bind (je ?_)
 rw[if_pos hb]
 exact wpAny_bind (wpAny_askSetting (wpAny_pure (wpAny_pure q)))
def zc{given slot:Nat}{Q:Option (Value×Nat)->Shared->Prop}(ha:B_ s.heap a es ep t)(hf:t.fits es.size=true)(hb:w.params.followText "set-order" = false)(h1:es.size<=1)(hl:t.led=true)
  (q:Q (match es[SetTable.below t.place slot]?,t.place[SetTable.below t.place slot]? with
   |some (_,x),some j=>some (x,j+1)
   |_,_=>none) s):wpAny (model prog w) A (setNext a slot given ep) Q E s:=by
 obtain⟨oa,hoa,hx,hda⟩:=id ha
 unfold setNext
 refine wpAny_bind (wpAny_setState_of hoa hda hf ?_)
 dsimp only
 refine wpAny_bind (je ?_)
 rw[if_neg (by rw[hb];simp)]
 show wpAny _ _ (if (!t.plain&&decide (es.size > 1))=true then _ else _) _ _ _
 rw[if_neg (by simp;omega)]
 refine wpAny_bind (wpAny_of_eq (a:=()) (show(if (!t.led&&!es.isEmpty)=true then unsupported "set:maker-not-led" else pure ())=pure () by rw[hl];rfl) ?_)
 exact wpAny_pure q
def ls{I:Addr}{i n slot:Nat}{r:Option (Value×Nat)}{Q:Option Value->Shared->Prop}(hh:A.handled=none)(hit:B6 s.heap I a (.int slot 0) i n ep)(ha:B_ s.heap a es ep t)(hf:t.fits es.size=true)(hn:es.size=n)
  (hs:∀{B:Around} {E':Vq} {R:Option (Value×Nat)->Shared->Prop},R r s->wpAny (model prog w) B (setNext a slot i ep) R E' s)
  (q1:∀x j h',r=some (x,j)->B6 h' I a (.int j 0) (i+1) n ep->Heap.ExtBut I s.heap h'->Q (some x) { s with heap:=h' })
  (q2:∀h',r=none->Heap.ExtBut I s.heap h'->Q none { s with heap:=h' }):wpAny (model prog w) A (pyNext (.ref I)) Q E s:=by
 obtain⟨o,ho,hc,hd⟩:=id hit
 obtain⟨oa,hoa,hx,hda⟩:=id ha
 unfold pyNext
 refine wpAny_bind (wpAny_attempt (wpAny_callSpecial?_slot (name:=Str.ofString "__next__") hit.typeIs Bj (wpAny_call_entry Bj hit.typeIs dm ?_ (dR _))))
 unfold Builtin.«set_iterator.__next__»
 refine wpAny_bind (wpAny_pure ?_)
 refine wpAny_bind (wpAny_fieldsOf ho hd ?_)
 dsimp only
 refine wpAny_bind (m:=setEntries a) (wpAny_bind (wpAny_setState_of hoa hda hf (wpAny_pure ?_)))
 rw[if_neg (by rw[hn];simp)]
 simp only[Int.toNat_natCast]
 refine wpAny_bind (hs ?_)
 match r,q1,q2 with
 |some (x,j),q1,_=>
  dsimp only
  refine wpAny_bind (wpAny_setField ho hd (by simp) ?_)
  have g1:=Heap.get?_update_self (Obj.mapFields (·.setIfInBounds 0 (rawInt j))) ho (Obj.isFreed_of_fields (Obj.data_mapFields hd _))
  have d1:=Obj.data_mapFields hd (·.setIfInBounds 0 (rawInt j))
  refine wpAny_bind (wpAny_setField g1 d1 (by simp) ?_)
  have hit':B6 ((s.heap.update I (Obj.mapFields (·.setIfInBounds 0 (rawInt j)))).update I (Obj.mapFields (·.setIfInBounds 1 (rawInt ((i:Int)+1))))) I a (.int j 0) (i+1) n ep:=
   ⟨_,Heap.get?_update_self _ g1 (Obj.isFreed_of_fields (Obj.data_mapFields d1 _)),(Obj.cls_mapFields ..).trans ((Obj.cls_mapFields ..).trans hc),by rw[Obj.data_mapFields d1];simp[rawInt]⟩
  exact wpAny_pure ⟨_,rfl,wpAny_pure (q1 x j _ rfl hit' fun b o hb e=>(Heap.SameBut.update ..).extBut b o hb ((Heap.SameBut.update ..).extBut b o hb e))⟩
 |none,_,q2=>
  dsimp only
  refine wpAny_bind (wpAny_setField ho hd (by simp) ?_)
  show wpAny _ _ (newExc (.type "StopIteration") [] >>= _) _ _ _
  refine wpAny_bind ?_
  simp only[newExc,newTuple]
  refine wpAny_bind (wpAny_newObj_type ?_ (by size_fits))
  refine wpAny_bind (m:=firstArgMember _ _) (wpAny_of_eq (a:=Value.none) (by first|rfl|(simp only[firstArgMember];rfl)) ?_)
  refine wpAny_newObj_type ?_ (by size_fits)
  simp only[raiseNew]
  refine wpAny_bind (wpAny_handled ?_)
  rw[show A.in1.handled=none from hh]
  refine wpAny_bind (wpAny_pure (wpAny_throw ?_))
  refine wpAny_bind (wpAny_isInstance (T:="StopIteration") (b:=true) ⟨_,Heap.get?_push_size _ rfl,rfl⟩ isSubtype_stop ?_)
  exact wpAny_pure (q2 _ rfl (((Heap.SameBut.update ..).extBut.push _).push _))
def zd{I tp:Addr}{i n:Nat}{ps:Vw}{pn:Nat}{ot:Obj}{Q:Option Value->Shared->Prop}(hh:A.handled=none)(hit:B6 s.heap I a (.ref tp) i n ep)(ha:B_ s.heap a es ep t)(hf:t.fits es.size=true)(hn:es.size=n)
  (ht:s.heap.get? tp=some ot) (htd:ot.data = .seq ps pn) (hp:ps[i]?=none)
  (q:∀h',Heap.ExtBut I s.heap h'->Q none { s with heap:=h' }):wpAny (model prog w) A (pyNext (.ref I)) Q E s:=by
 obtain⟨o,ho,hc,hd⟩:=id hit
 obtain⟨oa,hoa,hx,hda⟩:=id ha
 unfold pyNext
 refine wpAny_bind (wpAny_attempt (wpAny_callSpecial?_slot (name:=Str.ofString "__next__") hit.typeIs Bj (wpAny_call_entry Bj hit.typeIs dm ?_ (dR _))))
 unfold Builtin.«set_iterator.__next__»
 refine wpAny_bind (wpAny_pure ?_)
 refine wpAny_bind (wpAny_fieldsOf ho hd ?_)
 dsimp only
 refine wpAny_bind (m:=setEntries a) (wpAny_bind (wpAny_setState_of hoa hda hf (wpAny_pure ?_)))
 rw[if_neg (by rw[hn];simp)]
 refine wpAny_bind (wpAny_seqItems ht htd ?_)
 dsimp only
 rw[show(Int.toNat (i:Int))=i from rfl,hp]
 dsimp only
 refine wpAny_bind (wpAny_setField ho hd (by simp) ?_)
 have g1:=Heap.get?_update_self (Obj.mapFields (·.setIfInBounds 0 (rawInt 0))) ho (Obj.isFreed_of_fields (Obj.data_mapFields hd _))
 have d1:=Obj.data_mapFields hd (·.setIfInBounds 0 (rawInt 0))
 refine wpAny_bind (wpAny_setField g1 d1 (by simp) ?_)
 show wpAny _ _ (newExc (.type "StopIteration") [] >>= _) _ _ _
 refine wpAny_bind ?_
 simp only[newExc,newTuple]
 refine wpAny_bind (wpAny_newObj_type ?_ (by size_fits))
 refine wpAny_bind (m:=firstArgMember _ _) (wpAny_of_eq (a:=Value.none) (by first|rfl|(simp only[firstArgMember];rfl)) ?_)
 refine wpAny_newObj_type ?_ (by size_fits)
 simp only[raiseNew]
 refine wpAny_bind (wpAny_handled ?_)
 rw[show A.in1.handled=none from hh]
 refine wpAny_bind (wpAny_pure (wpAny_throw ?_))
 refine wpAny_bind (wpAny_isInstance (T:="StopIteration") (b:=true) ⟨_,Heap.get?_push_size _ rfl,rfl⟩ isSubtype_stop ?_)
 refine wpAny_pure (q _ (Heap.ExtBut.push (Heap.ExtBut.push (fun b o hb e=>(Heap.SameBut.update ..).extBut b o hb ((Heap.SameBut.update ..).extBut b o hb e)) _) _))
end
section
variable {prog:Program} {w:World} {A:Around} {E:Vq} {s:Shared} {a:Addr} {es:Array (Int×Value)} {ep:Nat} {t:SetTable}
def ij{I:Addr}{h h':Heap}(hs:Heap.ExtBut I h h'):∀b o,b ∉ [I]->h.get? b=some o->h'.get? b=some o:=fun b o hb e=>hs b o (fun x=>hb (by simp[x])) e
def uD(hh:A.handled=none)(I:Addr)(hne:a≠I)(hf:t.fits es.size=true)(hb:w.params.followText "set-order" = true) :
  Walks prog w A I [I,a] [I] es.size (fun i v=>((pickOrder (w.params.setOrder a ep) es).toList.map (·.2))[i]?=some v) (fun i h=>B6 h I a (.int 0 0) i es.size ep/\B_ h a es ep t) where
 sub:=fun b hb=>by simp at hb;simp[hb]
 frame:=fun _ _ _ st hk=>⟨st.1.at_ fun o e=>hk I (by simp) o e,st.2.at_ fun o e=>hk a (by simp) o e⟩
 item:=fun i s Q E hi st hQ=>by
  refine ls hh st.1 st.2 hf rfl (fun q=>y_ st.2 hf hb q) (fun x j h' e hit hs=>?_) fun h' e hs=>?_
  ·obtain⟨p,hp,e⟩:=Option.map_eq_some_iff.mp e
   cases e
   exact hQ _ h' s.toks (by rw[List.getElem?_map,Array.getElem?_toList,hp];rfl) ⟨hit,st.2.at_ fun o e=>hs a o hne e⟩ (ij hs)
  ·have hl:=(ig (w.params.setOrder a ep) es).length_eq
   simp only[Array.length_toList]at hl
   rw[Option.map_eq_none_iff,Array.getElem?_eq_none_iff]at e
   omega
 done:=fun s Q E st hQ=>by
  refine ls hh st.1 st.2 hf rfl (fun q=>y_ st.2 hf hb q) (fun x j h' e hit hs=>?_) fun h' e hs=>hQ h' s.toks (ij hs)
  have hl:=(ig (w.params.setOrder a ep) es).length_eq
  simp only[Array.length_toList]at hl
  rw[Array.getElem?_eq_none (by omega)]at e
  cases e
 self:=fun _ _ _ _ st hQ=>nA st.1 hQ
def rZ(p:Nat):SetTable.below #[p] 0=0:=by simp[SetTable.below,SetTable.below.go]
def xg(p:Nat):SetTable.below #[p] (p+1)=1:=by simp[SetTable.below,SetTable.below.go]
def xh{α:Type}{x:Array α}(h:x.size=1):∃e,x=#[e]:=by
 obtain⟨l⟩:=x
 match l,h with
 |[e],_=>exact⟨e,rfl⟩
def uE(hh:A.handled=none)(I:Addr)(hne:a≠I)(hf:t.fits es.size=true)(hb:w.params.followText "set-order" = false)(h1:es.size<=1)(hl:t.led=true) :
  Walks prog w A I [I,a] [I] es.size (fun i v=>(es.toList.map (·.2))[i]?=some v) (fun i h=>B6 h I a (.int (if i=0 then 0 else t.place.getD 0 0+1:Nat) 0) i es.size ep/\B_ h a es ep t) where
 sub:=fun b hb=>by simp at hb;simp[hb]
 frame:=fun _ _ _ st hk=>⟨st.1.at_ fun o e=>hk I (by simp) o e,st.2.at_ fun o e=>hk a (by simp) o e⟩
 item:=fun i s Q E hi st hQ=>by
  have hs1:es.size=1:=by omega
  have hi0:i=0:=by omega
  subst hi0
  have hp:t.place.size=1:=by simp only[SetTable.fits,Bool.and_eq_true,beq_iff_eq]at hf;omega
  obtain⟨p,hp⟩:∃p,t.place=#[p]:=xh hp
  obtain⟨e,he⟩:∃e,es=#[e]:=xh hs1
  refine ls hh st.1 st.2 hf rfl (fun q=>zc st.2 hf hb h1 hl q) (fun x j h' e' hit hs=>?_) fun h' e' hs=>?_
  ·simp only[if_true,hp,rZ]at e'
   rw[he]at e'
   simp at e'
   obtain⟨rfl,rfl⟩:=e'
   exact hQ _ h' s.toks (by rw[he];rfl) ⟨by simpa [hp]using hit,st.2.at_ fun o e=>hs a o hne e⟩ (ij hs)
  ·simp only[if_true,hp,rZ]at e'
   rw[he]at e'
   simp at e'
 done:=fun s Q E st hQ=>by
  refine ls hh st.1 st.2 hf rfl (fun q=>zc st.2 hf hb h1 hl q) (fun x j h' e' hit hs=>?_) fun h' e hs=>hQ h' s.toks (ij hs)
  have hps:t.place.size=es.size:=by simp only[SetTable.fits,Bool.and_eq_true,beq_iff_eq]at hf;exact hf.1
  by_cases h0:es.size=0
  ·have he:es=#[]:=Array.eq_empty_of_size_eq_zero h0
   rw[he]at e'
   simp at e'
  ·have hs1:es.size=1:=by omega
   obtain⟨p,hp⟩:∃p,t.place=#[p]:=xh (by omega)
   rw[hs1]at e'
   simp only[Nat.one_ne_zero,if_false,hp,show(#[p]:Array Nat).getD 0 0=p from rfl,xg]at e'
   rw[show es[1]?=none from Array.getElem?_eq_none (by omega)]at e'
   cases e'
 self:=fun _ _ _ _ st hQ=>nA st.1 hQ
def uF(hh:A.handled=none)(I tp:Addr)(hne:a≠I)(hnt:tp≠I)(hf:t.fits es.size=true)(ps:List Nat)(hps:ps.Perm (List.range es.size)) :
  Walks prog w A I [I,a,tp] [I] es.size (fun i v=>(ps.map fun p=>((es[p]?.map (·.2)).getD .none))[i]?=some v) (fun i h=>B6 h I a (.ref tp) i es.size ep/\B_ h a es ep t/\∃ot pn,h.get? tp=some ot/\ot.data = .seq (ps.map fun(p:Nat)=>rawInt p).toArray pn) where
 sub:=fun b hb=>by simp at hb;simp[hb]
 frame:=fun _ _ _ st hk=>⟨st.1.at_ fun o e=>hk I (by simp) o e,st.2.1.at_ fun o e=>hk a (by simp) o e,let ⟨ot,pn,h1,h2⟩:=st.2.2;⟨ot,pn,hk tp (by simp) ot h1,h2⟩⟩
 item:=fun i s Q E hi st hQ=>by
  obtain⟨st1,st2,ot,pn,h1,h2⟩:=st
  have hl:ps.length=es.size:=by rw[hps.length_eq];simp
  have hi':i < ps.length:=by omega
  have hm:ps[i] < es.size:=List.mem_range.mp (hps.mem_iff.mp (List.getElem_mem hi'))
  refine xf (p:=ps[i]) (e:=es[ps[i]]) st1 st2 hf rfl h1 h2 (by simp[hi']) (by simp[hm]) fun h' hit hs=>?_
  exact hQ _ h' s.toks (by simp[hi',hm]) ⟨hit,st2.at_ fun o e=>hs.extBut a o hne e,ot,pn,hs.extBut tp ot hnt h1,h2⟩ (ij hs.extBut)
 done:=fun s Q E st hQ=>by
  obtain⟨st1,st2,ot,pn,h1,h2⟩:=st
  have hl:ps.length=es.size:=by rw[hps.length_eq];simp
  exact zd hh st1 st2 hf rfl h1 h2 (by simp[hl]) fun h' hs=>hQ h' s.toks (ij hs)
 self:=fun _ _ _ _ st hQ=>nA st.1 hQ
end
section
variable {prog:Program} {w:World} {A:Around} {E:Vq} {s:Shared} {a:Addr} {es:Array (Int×Value)} {ep:Nat} {t:SetTable}
def pS{Q:Bool->Shared->Prop}(ha:B_ s.heap a es ep t)(hf:t.fits es.size=true)(q:Q (!(w.params.followText "set-order")&&(!t.plain&&decide (es.size > 1))) s):wpAny (model prog w) A (setDrawn a) Q E s:=by
 obtain⟨oa,hoa,hx,hda⟩:=id ha
 unfold setDrawn
 refine wpAny_bind (wpAny_setState_of hoa hda hf ?_)
 dsimp only
 refine wpAny_bind (je ?_)
 exact wpAny_pure q
def Wk(prog:Program)(w:World)(I:Addr)(fp:List Addr)(es:Array (Int×Value))(ord:Vv)(St:Nat->Heap->Prop):Prop:=
 ord.Perm (es.toList.map (·.2))/\I∈fp/\∀(B:Around),B.handled=none->Walks prog w B I fp [I] es.size (fun i v=>ord[i]?=some v) St
def pU(es:Array (Int×Value)):((List.range es.size).map fun p=>((es[p]?.map (·.2)).getD .none))=es.toList.map (·.2):=by
 refine List.ext_getElem (by simp) fun i h1 h2=>?_
 have hi:i < es.size:=by simpa using h1
 simp[hi]
def xi{Q:Vq}(ha:B_ s.heap a es ep t)(hf:t.fits es.size=true)(DE:t.led=eG w)(hpl:1 < es.size->t.plain=false)(Gs:es.size<=60)
  (q:∀I fp ord St g d,s.heap.objs.size<=I->Wk prog w I fp es ord St->St 0 g->(∀b∈fp,b < g.objs.size/\(b=a\/s.heap.objs.size<=b))->(∀b o,s.heap.get? b=some o->g.get? b=some o)->Q (.ref I) { s with heap:=g,drawn:=d }) :
  wpAny (model prog w) A (pyIter (.ref a)) Q E s:=by
 obtain⟨oa,hoa,hx,hda⟩:=id ha
 have hT:s.TypeIs (.ref a) "set":=⟨oa,hoa,hx.1⟩
 have E5:=Heap.lt_size hoa
 refine wpAny_pyIter_slot hT F.slot_set_iter (wpAny_call_entry F.slot_set_iter hT jJ ?_ (F.args_set_iter_1 _))
 unfold Builtin.«frozenset.__iter__»
 refine wpAny_bind (m:=Builtin.Frozenset.slot0 _ _) (wpAny_pure ?_)
 refine wpAny_bind (m:=Builtin.Frozenset.sizeOf a) ?_
 unfold Builtin.Frozenset.sizeOf setEntries
 refine wpAny_bind (wpAny_bind (wpAny_setState_of hoa hda hf (wpAny_pure (wpAny_pure ?_))))
 dsimp only
 refine wpAny_bind (pS ha hf ?_)
 by_cases hb:w.params.followText "set-order" = true
 ·rw[if_neg (by simp[hb])]
  refine wpAny_bind (wpAny_pure ?_)
  refine wpAny_bind (wpAny_setEpoch_of hoa hda hf ?_)
  refine wpAny_bind (m:=newFields _ _) (wpAny_newObj_type (wpAny_pure ⟨_,rfl,"set_iterator",_,⟨_,Heap.get?_push_size _ rfl,rfl⟩,Bj.lookup,?_⟩))
  have hne:a≠s.heap.objs.size:=Nat.ne_of_lt E5
  refine q s.heap.objs.size [s.heap.objs.size,a] _ _ _ s.drawn (Nat.le_refl _) ⟨(ig (w.params.setOrder a ep) es).map (·.2),by simp,fun B hB=>uD (t:=t) hB _ hne hf hb⟩ ⟨⟨_,Heap.get?_push_size _ rfl,rfl,by simp[rawInt]⟩,ha.at_ fun o e=>Heap.get?_push_of_some _ e⟩ (fun b hb=>?_) fun b o e=>Heap.get?_push_of_some _ e
  rw[Heap.size_push]
  simp at hb
  rcases hb with rfl|rfl
  ·exact⟨Nat.lt_succ_self _,.inr (Nat.le_refl _)⟩
  ·exact⟨Nat.lt_succ_of_lt E5,.inl rfl⟩
 ·have hb':w.params.followText "set-order" = false:=by simpa using hb
  by_cases h1:1 < es.size
  ·rw[if_pos (by simp[hb',hpl h1,h1])]
   refine wpAny_bind (mh es.size (List.range es.size) _ (by simp) fun ps d hp=>?_)
   have Jf:ps.length<=60:=by rw[hp.length_eq];simpa using Gs
   refine wpAny_bind (wpAny_newTuple ?_ (by rw[List.length_map];exact Nat.le_trans Jf (by rw[sizeLine_eq];omega)))
   have e1:(s.heap.push { cls:=.type "tuple",data:=.seq (ps.map fun(p:Nat)=>rawInt p).toArray }).get? a=some oa:=Heap.get?_push_of_some _ hoa
   refine wpAny_bind (wpAny_setEpoch_of e1 hda hf ?_)
   refine wpAny_bind (m:=newFields _ _) (wpAny_newObj_type (wpAny_pure ⟨_,rfl,"set_iterator",_,⟨_,Heap.get?_push_size _ rfl,rfl⟩,Bj.lookup,?_⟩))
   dsimp only
   generalize hH:s.heap.push { cls:=.type "tuple",data:=.seq (ps.map fun(p:Nat)=>rawInt p).toArray }=H at e1 ⊢
   have hsz:H.objs.size=s.heap.objs.size+1:=by rw[<-hH,Heap.size_push]
   have hne:a≠H.objs.size:=by rw[hsz];exact Nat.ne_of_lt (Nat.lt_succ_of_lt E5)
   have hnt:s.heap.objs.size≠H.objs.size:=by rw[hsz];exact Nat.ne_of_lt (Nat.lt_succ_self _)
   have gt:H.get? s.heap.objs.size=some { cls:=.type "tuple",data:=.seq (ps.map fun(p:Nat)=>rawInt p).toArray }:=by rw[<-hH];exact Heap.get?_push_size _ rfl
   refine q H.objs.size [H.objs.size,a,s.heap.objs.size] _ _ _ d (by rw[hsz];exact Nat.le_succ _) ⟨?_,by simp,fun B hB=>uF (t:=t) hB _ s.heap.objs.size hne hnt hf ps hp⟩ ⟨⟨_,Heap.get?_push_size _ rfl,rfl,by simp[rawInt]⟩,⟨oa,Heap.get?_push_of_some _ e1,hx,hda⟩,_,_,Heap.get?_push_of_some _ gt,rfl⟩ (fun b hb=>?_) fun b o e=>Heap.get?_push_of_some _ (hH▸Heap.get?_push_of_some _ e)
   ·rw[<-pU];exact hp.map _
   ·rw[Heap.size_push,hsz]
    simp at hb
    rcases hb with rfl|rfl|rfl
    ·rw[hsz];exact⟨Nat.lt_succ_self _,.inr (Nat.le_succ _)⟩
    ·exact⟨Nat.lt_succ_of_lt (Nat.lt_succ_of_lt E5),.inl rfl⟩
    ·exact⟨Nat.lt_succ_of_lt (Nat.lt_succ_self _),.inr (Nat.le_refl _)⟩
  ·rw[if_neg (by simp[h1])]
   refine wpAny_bind (wpAny_pure ?_)
   refine wpAny_bind (wpAny_setEpoch_of hoa hda hf ?_)
   refine wpAny_bind (m:=newFields _ _) (wpAny_newObj_type (wpAny_pure ⟨_,rfl,"set_iterator",_,⟨_,Heap.get?_push_size _ rfl,rfl⟩,Bj.lookup,?_⟩))
   have hne:a≠s.heap.objs.size:=Nat.ne_of_lt E5
   refine q s.heap.objs.size [s.heap.objs.size,a] _ _ _ s.drawn (Nat.le_refl _) ⟨List.Perm.refl _,by simp,fun B hB=>uE (t:=t) (ep:=ep) hB _ hne hf hb' (by omega) (by rw[DE];simp[eG,hb'])⟩ ⟨⟨_,Heap.get?_push_size _ rfl,rfl,by simp[rawInt]⟩,ha.at_ fun o e=>Heap.get?_push_of_some _ e⟩ (fun b hb=>?_) fun b o e=>Heap.get?_push_of_some _ e
   rw[Heap.size_push]
   simp at hb
   rcases hb with rfl|rfl
   ·exact⟨Nat.lt_succ_self _,.inr (Nat.le_refl _)⟩
   ·exact⟨Nat.lt_succ_of_lt E5,.inl rfl⟩
end
section
variable {prog:Program} {w:World} {A:Around} {E:Vq} {s:Shared} {a:Addr} {es:Array (Int×Value)} {ep:Nat} {t:SetTable}
def jK:typeLookup (.type "set") "__len__" = pure (some (.builtin "set.__len__")):=F.slot_set_len.lookup
def r_{Q:Bool->Shared->Prop}(hT:s.TypeIs (.ref a) "set")(q:Q false s):wpAny (model prog w) A (Builtin.List.listLengthHint (.ref a)) Q E s:=by
 unfold Builtin.List.listLengthHint
 refine wpAny_bind (wpAny_specialOf hT jK ?_)
 dsimp only
 rw[show splitId "set.__len__" = some ("set","__len__") by decide +kernel]
 dsimp only
 refine wpAny_bind (wpAny_isInstance hT sub_set_self ?_)
 rw[if_neg (by simp)]
 rw[if_pos (by decide +kernel)]
 refine wpAny_bind (wpAny_typeOf hT ?_)
 exact wpAny_pure q
def sa{ord:Vv}{acc:Vw}{n:Nat}(hl:ord.length=n)(h:ItemsOf (fun i v=>ord[i]?=some v) acc n):acc.toList=ord:=by
 refine List.ext_getElem (by rw[Array.length_toList,h.1,hl]) fun i h1 h2=>?_
 have hi:i < acc.size:=by simpa using h1
 have:=h.2 i acc[i] (by simp[hi])
 dsimp only at this
 rw[List.getElem?_eq_getElem h2]at this
 simpa using(Option.some.inj this).symm
def pV{Q:List Value->Shared->Prop}(hh:A.handled=none)(ha:B_ s.heap a es ep t)(hf:t.fits es.size=true)(DE:t.led=eG w)(hpl:1 < es.size->t.plain=false)(Gs:es.size<=60)
  (q:∀ord g d tk,ord.Perm (es.toList.map (·.2))->s.heap.objs.size<=g.objs.size->(∀b o,s.heap.get? b=some o->g.get? b=some o)->Q ord { s with heap:=g,drawn:=d,toks:=tk }):wpAny (model prog w) A (collect (.ref a)) Q E s:=by
 obtain⟨oa,hoa,hx,hda⟩:=id ha
 have E5:=Heap.lt_size hoa
 unfold collect
 refine wpAny_bind (wpAny_runValue (codeAny_builtin F.entry_proto_collect ?_))
 rw[Around.under_plainId F.plain_proto_collect _]
 show wpAny _ A.in1 (newList [] >>= fun l=>again (.builtin "list.__iadd__" ⟨[l,.ref a],[]⟩)) _ _ s
 refine wpAny_bind (wpAny_newObj_type ?_)
 refine wpAny_pure ⟨plainId_quiet F.plain_list_iadd _,codeAny_builtin F.entry_list_iadd ?_⟩
 rw[Around.under_plainId F.plain_list_iadd _]
 show wpAny _ A.in1 (Builtin.List.listExtendWith (.ref s.heap.objs.size) (.ref a) (.ref s.heap.objs.size)) _ _ _
 generalize hH:s.heap.push { cls:=.type "list",data:=.seq ([]:Vv).toArray }=H
 have hS1:H.get? s.heap.objs.size=some { cls:=.type "list",data:=.seq ([]:Vv).toArray }:=by rw[<-hH];exact Heap.get?_push_size _ rfl
 have ha1:B_ H a es ep t:=ha.at_ fun o e=>by rw[<-hH];exact Heap.get?_push_of_some _ e
 have old:∀b o,s.heap.get? b=some o->H.get? b=some o:=fun b o e=>by rw[<-hH];exact Heap.get?_push_of_some _ e
 have hT:Shared.TypeIs { s with heap:=H } (.ref a) "set":=⟨oa,old _ _ hoa,hx.1⟩
 unfold Builtin.List.listExtendWith
 refine wpAny_bind (wpAny_typeOf hT ?_)
 have h1:Builtin.List.listSameRef (.ref s.heap.objs.size) (.ref a)=false:=by simp[Builtin.List.listSameRef];exact(Nat.ne_of_gt E5)
 have h2:(Value.type "set" == Value.type "list")=false:=by decide
 have h3:(Value.type "set" == Value.type "tuple")=false:=by decide
 simp only[h1,h2,h3,Bool.or_false,Bool.false_eq_true,if_false]
 refine wpAny_bind (xi (s:={ s with heap:=H }) ha1 hf DE hpl Gs fun I fp ord St g d hI W GV hfp ext=>?_)
 dsimp only at ext
 have HY:=ext _ _ hS1
 have Jg:Shared.TypeIs { s with heap:=g,drawn:=d } (.ref a) "set":=⟨oa,ext _ _ (old _ _ hoa),hx.1⟩
 refine wpAny_bind (wpAny_holding (r_ Jg ?_))
 rw[if_pos (by decide +kernel)]
 refine wpAny_bind (wpAny_rule ?_)
 have F2:H.objs.size=s.heap.objs.size+1:=by rw[<-hH,Heap.size_push]
 have hSf:s.heap.objs.size ∉ fp:=fun hm=>by
  rcases(hfp _ hm).2 with h|h
  ·exact absurd h (Nat.ne_of_gt E5)
  ·dsimp only at h;rw[F2]at h;omega
 refine wpAny_bind ?_
 show wpAny _ A.in1 (updateSeq s.heap.objs.size (·.push .none) >>= fun _=>updateSeq s.heap.objs.size (·.pop)) _ _ _
 refine wpAny_bind (wpAny_updateSeq HY rfl ?_)
 have Fv:=Heap.get?_update_self (Obj.mapSeq (·.push Value.none)) HY rfl
 refine wpAny_updateSeq Fv rfl ?_
 have FZ:=Heap.get?_update_self (Obj.mapSeq (·.pop)) Fv rfl
 have CP:∀b o,b≠s.heap.objs.size->g.get? b=some o->((g.update s.heap.objs.size (Obj.mapSeq (·.push Value.none))).update s.heap.objs.size (Obj.mapSeq (·.pop))).get? b=some o:=
  fun b o hb e=>(Heap.get?_update_other _ _ (Ne.symm hb)).trans ((Heap.get?_update_other _ _ (Ne.symm hb)).trans e)
 have hlen:ord.length=es.size:=by rw[W.1.length_eq];simp
 have WS:=(W.2.2 A.in1 (by simp[hh])).toS
 refine wpAny_pure ⟨plainId_quiet F.plain_extend_loop _,codeAny_extend_loopS WS (Nat.le_trans Gs (by rw[sizeLine_eq];omega)) _ hSf _ es.size 0 _ _ _ rfl (Nat.zero_le _)
  ((W.2.2 A.in1 (by simp[hh])).frame 0 g _ GV (fun b hb o e=>CP b o (fun h=>hSf (h▸hb)) e)) FZ (ItemsOf.nil _) fun s' acc' c' hm hS' hacc=>?_⟩
 show wpAny _ A (load s.heap.objs.size >>= _) _ _ s'
 refine wpAny_bind (wpAny_load hS' ?_)
 refine wpAny_pure ?_
 obtain⟨g',gn,d',tk',os2⟩:=s'
 have eg:gn=s.gens:=hm.gens
 have ed:d'=d:=hm.drawn
 have eo:os2=s.os:=hm.os
 subst eg;subst ed;subst eo
 show Q acc'.toList _
 rw[sa hlen hacc]
 refine q ord g' d' tk' W.1 (Nat.le_of_lt (Heap.lt_size hS')) fun b o e=>?_
 have lb:=Heap.lt_size e
 dsimp only at hI
 rw[F2]at hI
 refine hm.heap b o (fun h=>?_) (CP b o (Nat.ne_of_lt lb) (ext _ _ (old _ _ e)))
 simp only[List.mem_cons,List.not_mem_nil,or_false]at h
 rcases h with h|h
 ·exact absurd h (Nat.ne_of_lt lb)
 ·rw[h]at lb;exact absurd (Nat.lt_trans lb hI) (Nat.lt_irrefl _)
end
theorem iT{α:Type} [DecidableEq α]:∀(l m:List α),l.Nodup->l.length=m.length->(∀x∈l,x∈m)->l.Perm m
 |[],m,_,h,_=>by rw[List.length_eq_zero_iff.mp h.symm]
 |x::l,m,hn,h,hs=>by
  have hx:x∈m:=hs x (by simp)
  have hp:m.Perm (x::m.erase x):=List.perm_cons_erase hx
  have hn':=List.nodup_cons.mp hn
  refine(List.Perm.cons x (iT l (m.erase x) hn'.2 ?_ fun y hy=>?_)).trans hp.symm
  ·rw[List.length_erase_of_mem hx,<-h];simp
  ·have:y∈x::m.erase x:=hp.mem_iff.mp (hs y (by simp[hy]))
   rcases List.mem_cons.mp this with e|e
   ·exact absurd (e▸hy) hn'.1
   ·exact e
section
variable {prog:Program} {w:World} {A:Around} {E:Vq} {s:Shared} {a:Addr}
def k6{es:Array (Int×Value)}{ss:Vs}(hel:ElemsOf (PySem.strKind prog w) es.toList)(hm:∀k,k∈ss↔∃e∈es.toList,(PySem.strKind prog w).is k e.2=true)(hn:es.size=ss.length)(hnd:ss.Nodup){ord:Vv}(hp:ord.Perm (es.toList.map (·.2))) :
  StrsAre ord (ord.map strOf)/\(ord.map strOf).Perm ss:=by
 have hall:∀v,v∈ord->∃x t,v = .str x t:=fun v hv=>by
  obtain⟨e,he,rfl⟩:=List.mem_map.mp (hp.mem_iff.mp hv)
  obtain⟨⟨k,hk,_⟩,_⟩:=hel e he
  obtain⟨t,ht⟩:=Value.isStrOf_shape hk
  exact⟨k,t,ht⟩
 refine⟨strsAre_map ord hall,(iT ss _ hnd ?_ fun k hk=>?_).symm⟩
 ·rw[List.length_map,hp.length_eq,<-hn];simp
 ·obtain⟨e,he,hk⟩:=(hm k).mp hk
  obtain⟨t,ht⟩:=Value.isStrOf_shape hk
  exact List.mem_map.mpr ⟨e.2,hp.mem_iff.mpr (List.mem_map.mpr ⟨e,he,rfl⟩),by rw[ht];rfl⟩
def nB{ss:Vs}{Q:Vq}(hh:A.handled=none)(hS:C_ prog w s.heap a (eG w) ss)(hn:ss.length < 60)
  (q:∀l out ss' e g d tk,g.get? l=some (seqObj "list" out e)->StrsAre out.toList ss'->ss'.Perm ss->sortedS ss'=true->s.heap.objs.size<=l->(∀b o,s.heap.get? b=some o->g.get? b=some o)->Q (.ref l) { s with heap:=g,drawn:=d,toks:=tk }) :
  wpAny (model prog w) A (call (.builtin "sorted") [.ref a]) Q E s:=by
 obtain⟨o,es,ep,t,ho,hx,hd,hel,hm,hsz,hnd,hf,DE,hpl⟩:=hS
 refine Calls.call_function_entry kind_sorted plain_sorted entry_sorted (args_sorted1 _) ?_
 unfold Builtin.«sorted»
 refine wpAny_bind (m:=checkCount "sorted" 1 1 _) (wpAny_pure ?_)
 refine wpAny_bind (pV (by simp[hh]) ⟨o,ho,hx,hd⟩ hf DE (fun h=>hpl fun e=>by rw[e,List.length_nil]at hsz;omega) (by omega) fun ord g d tk hp hle ext=>?_)
 obtain⟨hS,Ev⟩:=k6 hel hm hsz hnd hp
 have hlen:ord.length < 60:=by rw[<-List.length_map (as:=ord) strOf,Ev.length_eq];exact hn
 refine wpAny_bind (wpAny_newList ?_)
 have FS:(g.push (seqObj "list" ord.toArray 0)).get? g.objs.size=some (seqObj "list" ord.toArray 0):=Heap.get?_push_size _ rfl
 refine wpAny_bind (wpAny_holding (wpAny_call_entry slot_list_sort ⟨_,FS,rfl⟩ entry_list_sort (list_sort_treeK strKind_oneLt FS hS.keysOf (fun v₁ v₂ rest e=>keyKind_strs (by rw[<-e];exact hS)) (by omega) fun st' a1 a2=>⟨_,rfl,?_⟩) (args_list_sort _)))
 obtain⟨ss',h1,h2,h3⟩:=sorted_out_str hS a1 a2
 obtain⟨e,he⟩:=sortedHeap_at (out:=(arrOf st').map (·.2)) FS
 refine wpAny_pure ⟨_,rfl,q _ _ ss' e _ d tk he h1 (h2.trans Ev) h3 hle fun b o' eb=>?_⟩
 have lb:=Heap.lt_size (ext _ _ eb)
 rw[sortedHeap_old (Nat.ne_of_lt lb) (by rw[Heap.size_push];exact Nat.lt_succ_of_lt lb)]
 exact Heap.get?_push_of_some _ (ext _ _ eb)
end
end Sa
namespace L2
open PySem PySem.Spec PyProof.Rows
section
variable {X:Cx} {pins:Va} {σ:List (Option V)} {H:Hp} {s:Shared}
def Inv.dr(I:Inv X pins σ H s)(d:Drawn):Inv X pins σ H { s with drawn:=d }:=⟨I.ok,I.os,I.bare,I.base,I.loc,I.cell,I.free,I.CH,I.pin,I.hok,I.len⟩
theorem fX:∀{ns:Vs} {us:Vv},Vals (ns.map V.str) us->StrsAre us ns
 |[],_,h=>by cases h;exact .nil
 |n::ns,_,h=>by
  cases h with
  |cons r rs=>obtain⟨t,rfl⟩:=r;exact .cons n t (fX rs)
theorem ik:∀{us:Vv} {ns:Vs},StrsAre us ns->Vals (ns.map V.str) us
 |_,_,.nil=>.nil
 |_,_,.cons y t r=>.cons ⟨t,rfl⟩ (ik r)
def A6(K:Vo)(t:TE):TE:=fun σ H Q=>t σ H fun x H1=>∃(p:Addr) (ns:Vs),x = .ref p/\SqL K H1 p (ns.map V.str)/\(Sa.dd ns).length < 60/\∀l ss,H1 l=none->ss.Perm (Sa.dd ns)->sortedS ss=true->Q (.ref l) (upd H1 l (.lst (ss.map V.str)))
variable {e:Expr} {te:TE} {p p2 pos pos2:Pos}
def uG(hc:X.calm=true)(hg:Gl X "sorted")(hm:X.mg "sorted" = none)(El:Gl X "set")(hm2:X.mg "set" = none)(ha:PE X e te)
  (hs1:starEach [.Call (.Name "set" p2) [e] [] pos2] X.env=[(false,eval (.Call (.Name "set" p2) [e] [] pos2) X.env)]:=by rfl) (hs2:starEach [e] X.env=[(false,eval e X.env)]:=by rfl) :
  PE X (.Call (.Name "sorted" p) [.Call (.Name "set" p2) [e] [] pos2] [] pos) (A6 X.K te):=by
 intro pins s σ H Q I h
 have hh:=I.ok.hd hc
 refine wpAny_Call_Name_kw (cF I hg hm (by rfl) ?_ (by decide) (by decide))
 refine PyProof.Rows.callWith_builtin1 (id:="sorted") ?_ hs1 (by rfl)
 rw[hs1]
 refine Calls.spliced_cons ?_
 refine wpAny_Call_Name_kw (cF I El hm2 (by rfl) ?_ (by decide) (by decide))
 refine PyProof.Rows.callWith_type1 (T:="set") ?_ hs2 (by rfl)
 rw[hs2]
 refine Calls.spliced_cons (Bh (ha pins s σ H _ I h) fun u s1 ⟨x,H1,I1,r1,q1⟩=>Calls.spliced_nil ?_)
 obtain⟨a,ns,rfl,hl,hn,q⟩:=q1
 cases r1
 obtain⟨its,rv,pl,hz⟩:=I1.list hl
 have hS:StrsAre its ns:=fX rv
 refine Sa.rY hh pl.isList (by simpa using hS) hn fun g tk F3 keep=>Calls.spliced_nil ?_
 refine Sa.nB hh F3 hn fun l out ss e g2 d Jh hl2 ho hp hso hnew ext=>?_
 have lt:s1.heap.objs.size < g.objs.size:=by obtain⟨o,_,_,_,ho,_⟩:=F3;exact Heap.lt_size ho
 have hle:s1.heap.objs.size<=l:=Nat.le_trans (Nat.le_of_lt lt) hnew
 have k:∀b u,s1.heap.get? b=some u->g2.get? b=some u:=fun b u e=>ext b u (keep b u (Heap.lt_size e) e)
 refine⟨.ref l,upd H1 l (.lst (ss.map V.str)),((I1.laid (t':=Jh) (o:=.lst (ss.map V.str)) k hle ?_).dr d),rfl,q l ss (I1.hok.fresh hle) hp hso⟩
 have hlen2:ss.length<=60:=by rw[hp.length_eq];exact Nat.le_of_lt hn
 exact⟨by rw[List.length_map];exact Nat.le_trans hlen2 (by rw[sizeLine_eq];omega),out.toList,e,ik ho,by rw[hl2]⟩
end
end L2
namespace L3
open PySem L2
section
variable {X:Cx} {e:Expr} {te:aN} {p p2 pos pos2:Pos}
def sd(te:aN):aN:=fun σ S Q E=>te σ S (fun v S1=>match v with
 | .ref a=>(match S1 a with|some (.lst xs)=>(match texts xs with|some ns=>(Sa.dd ns).length < 60/\∀l ss,S1 l=none->ss.Perm (Sa.dd ns)->PyProof.Rows.sortedS ss=true->Q (.ref l) (Bc S1 l (.lst (ss.map PV.str)))|none=>False)|_=>False)
 |_=>False) E
theorem il{K:Vo}{H:Hp}:∀cs:List Str,Reps K H (cs.map V.str) (cs.map PV.str)
 |[]=>.nil
 |c::r=>.cons (.str _) (il r)
def xj(hc:X.calm=true)(hg:Gl X "sorted")(hm:X.mg "sorted" = none)(El:Gl X "set")(hm2:X.mg "set" = none)(ha:aY X e te)
  (hs1:starEach [.Call (.Name "set" p2) [e] [] pos2] X.env=[(false,eval (.Call (.Name "set" p2) [e] [] pos2) X.env)]:=by rfl) (hs2:starEach [e] X.env=[(false,eval e X.env)]:=by rfl) :
  aY X (.Call (.Name "sorted" p) [.Call (.Name "set" p2) [e] [] pos2] [] pos) (sd te):=
 ⟨aK (uG hc hg hm El hm2 ha.ok hs1 hs2) fun σ H Q ⟨σ3,S,Q3,E3,rσ,rS,h,xo,k⟩=>⟨σ3,S,_,E3,rσ,rS,h,xo,fun v S1 v' H1 h1 rv Bn g1=>by
  dsimp only at h1
  split at h1
  ·cases rv
   split at h1
   ·rename_i ea
    split at h1
    ·rename_i eb
     obtain⟨vs,hv,rs⟩:=Bn _ _ ea
     have e2:=dM rs eb
     subst e2
     refine⟨_,_,rfl,SqL.of hv,h1.1,fun l ss hl hp hso=>k _ _ _ _ (h1.2 l ss (Bn.free hl) hp hso) (.ref l) (Bn.new hl ⟨_,ar,il ss⟩) (g1.trans (.new hl))⟩
    ·exact h1.elim
   ·exact h1.elim
  ·exact h1.elim⟩⟩
end
end L3
namespace L2
open PySem PySem.Spec PyProof.Rows
section
variable {X:Cx}
def nC:eJ X (.builtin "sorted") (fun xs H Q=>∃(p:Addr) (ns:Vs),xs=[.ref p]/\SqL X.K H p (ns.map V.str)/\ns.length < 64/\∀l ss,H l=none->ss.Perm ns->sortedS ss=true->Q (.ref l) (upd H l (.lst (ss.map V.str)))):=by
 intro pins s σ H xs us Q I r h
 obtain⟨p,ns,rfl,hp,hn,q⟩:=h
 obtain⟨u,rfl,rx⟩:=eh r
 cases rx
 obtain⟨its,rv,pl,hz⟩:=I.list hp
 have hS:StrsAre its ns:=fX rv
 have hlen:its.length < 64:=by rw[<-List.length_map (as:=its) strOf,hS.strs];exact hn
 refine sorted_strs pl.isList hS hlen fun out ss ho Ev hso=>?_
 obtain⟨e,he⟩:=sortedAll_at s.heap its out
 have hle:s.heap.objs.size<=s.heap.objs.size+1:=Nat.le_succ _
 have k:∀b u,s.heap.get? b=some u->(sortedAll s.heap its out).get? b=some u:=fun b u e=>sortedAll_old e
 refine⟨.ref _,upd H _ (.lst (ss.map V.str)),(I.laid (t':=s.toks) (o:=.lst (ss.map V.str)) k hle ?_),rfl,q _ ss (I.hok.fresh hle) Ev hso⟩
 have hl2:ss.length<=64:=by rw[Ev.length_eq];exact Nat.le_of_lt hn
 exact⟨by rw[List.length_map];exact Nat.le_trans hl2 (by rw[sizeLine_eq];omega),out.toList,e,ik ho,by rw[he]⟩
end
end L2
namespace L3
open PySem L2
section
variable {X:Cx}
def lu:ng:=fun ps S Q=>match ps with
 |[.ref a]=>(match S a with|some (.lst xs)=>(match texts xs with|some ns=>ns.length < 64/\∀l ss,S l=none->ss.Perm ns->PyProof.Rows.sortedS ss=true->Q (.ref l) (Bc S l (.lst (ss.map PV.str)))|none=>False)|_=>False)
 |_=>False
def uH:eP X (.builtin "sorted") lu:=⟨fun pins s σ H xs us Q I r ⟨ps,S,Q3,rp,rS,q,k⟩=>by
 unfold lu at q
 split at q
 ·cases rp with
  |cons a rr=>
   cases rr;cases a
   split at q
   ·rename_i e
    split at q
    ·rename_i eb
     obtain⟨vs,hv,rs⟩:=rS _ _ e
     have e2:=dM rs eb
     subst e2
     exact nC pins s σ H _ us Q I r ⟨_,_,rfl,SqL.of hv,q.1,fun l ss hl hp hso=>k _ _ _ _ (q.2 l ss (rS.free hl) hp hso) (.ref l) (rS.new hl ⟨_,ar,il ss⟩) (.new hl)⟩
    ·exact q.elim
   ·exact q.elim
 ·exact q.elim⟩
end
end L3
namespace Sa
open PySem PyProof.Rows
def qm(a b:Str):Prop:=¬(b.cps.toList < a.cps.toList)
def pW{a b c:Str}(h1:qm a b)(h2:qm b c):qm a c:=by
 unfold qm at *
 rw[List.not_lt]at *
 exact List.le_trans h1 h2
def se{a b:Str}(h1:qm a b)(h2:qm b a):a=b:=by
 unfold qm at *
 rw[List.not_lt]at *
 have h:=List.le_antisymm h1 h2
 obtain⟨⟨x⟩⟩:=a
 obtain⟨⟨y⟩⟩:=b
 simp at h
 subst h
 rfl
theorem jL:∀(l:Vs) (p:Str),risingS p l=true->(p::l).Pairwise qm
 |[],p,_=>by simp
 |x::r,p,h=>by
  unfold risingS at h
  rw[Bool.and_eq_true]at h
  have hx:qm p x:=by
   have:=h.1
   rw[ltCps_eq]at this
   unfold qm
   simpa using this
  have ih:=jL r x h.2
  refine List.pairwise_cons.mpr ⟨fun y hy=>?_,ih⟩
  rcases List.mem_cons.mp hy with rfl|hy
  ·exact hx
  ·exact pW hx ((List.pairwise_cons.mp ih).1 y hy)
theorem kK:∀{l:Vs},sortedS l=true->l.Pairwise qm
 |[],_=>List.Pairwise.nil
 |x::r,h=>jL r x h
def nE{l m:Vs}(hl:sortedS l=true)(hm:sortedS m=true)(h:l.Perm m):l=m:=
 h.eq_of_pairwise (le:=qm) (fun a b _ _ h1 h2=>se h1 h2) (kK hl) (kK hm)
end Sa
namespace L3
open PySem L2
theorem mi:∀{a b:List Char},a.map Char.toNat=b.map Char.toNat->a=b
 |[],[],_=>rfl
 |[],_::_,h=>by simp at h
 |_::_,[],h=>by simp at h
 |x::a,y::b,h=>by
  simp only[List.map_cons,List.cons.injEq]at h
  rw[mi h.2,Char.toNat_inj.mp h.1]
def aA{a b:String}:(Str.ofString a=Str.ofString b)↔a=b:=by
 refine⟨fun h=>?_,fun h=>by rw[h]⟩
 rw[Str.ofString_eq_toList,Str.ofString_eq_toList]at h
 have h':a.toList.map Char.toNat=b.toList.map Char.toNat:=by
  have:=congrArg (fun s:Str=>s.cps.toList) h
  simpa using this
 exact String.toList_inj.mp (mi h')
def sS{a b:String}:((Sum.inr (Str.ofString a):bb)=Sum.inr (Str.ofString b))↔a=b:=by
 rw[Sum.inr.injEq,aA]
def xk{i j:Int}(h1:-(2 ^ 64) < i)(h2:i < 2 ^ 64):IntMulOk i j:=(show EV i j from .inl ⟨h1,h2⟩).ok
def uI{i j:Int}(h1:-(2 ^ 64) < j)(h2:j < 2 ^ 64):IntMulOk i j:=(show EV i j from .inr ⟨h1,h2⟩).ok
def gC{i j:Int}(h:0<=j):i.fmod j=i % j:=Int.fmod_eq_emod_of_nonneg i h
def ze{i j:Int}(h:0<=j):i.fdiv j=i / j:=Int.fdiv_eq_ediv_of_nonneg i h
def zf{i j:Int}(h:0 < j)(h2:j < 2 ^ 64):lZ i j:=⟨by omega,Nat.lt_trans (show j.natAbs < 2 ^ 64 by omega) (Nat.pow_lt_pow_right (by decide) (by decide))⟩
def Ca(d l:Addr)(S S':av):Prop:=∀a o,S a=some o->a≠d->a≠l->S' a=some o
def Ca.refl{d l:Addr}{S:av}:Ca d l S S:=fun _ _ h _ _=>h
def Ca.trans{d l:Addr}{S S1 S2:av}(a:Ca d l S S1)(b:Ca d l S1 S2):Ca d l S S2:=fun x o h h1 h2=>b x o (a x o h h1 h2) h1 h2
def Ca.upd{d l:Addr}{S:av}{o:SO}:Ca d l S (Bc S d o):=fun x u h h1 h2=>by rw[aj h1];exact h
def Ca.Ji{d l:Addr}{S:av}{o:SO}:Ca d l S (Bc S l o):=fun x u h h1 h2=>by rw[aj h2];exact h
def Ca.new{d l p:Addr}{S:av}{o:SO}(h:S p=none):Ca d l S (Bc S p o):=fun x u hx h1 h2=>by rw[aj (fun e=>by rw[e,h]at hx;cases hx)];exact hx
end L3
local macro_rules | `(tactic| walk_at "x")=>`(tactic| ((try dsimp only [L3.af,L3.au,L3.az,L3.aW,L3.bq,L3.aO,L3.ah,L3.v3,L3.c3,L3.lk,L3.ao,L3.am,L3.ae,L3.eF,L3.aI,L3.gj,L3.gc,L3.cA,L3.cI,L3.iM,L3.pF,L3.li,L3.pH,L3.jC,L3.aB,L3.bn,L3.iY,L3.cp,L3.ag,L3.hV,L3.bd,L3.j4,L3.jx,L3.j5,L3.bP,L3.fH,L3.bA,L3.fB,L3.iR,L3.rP,L3.jW,L3.wZ,L3.jX,L3.yT,L3.bo,L3.vk,L3.aV,L3.gq,L3.bw,L3.jy,L3.jz,L3.br,L3.l0,List.set_cons_zero,List.set_cons_succ,List.set_nil,L3.mI,L3.h_,L3.l4,L3.a_,L3.ba,L3.cj,L3.cX,L3.fA,L3.Tg.put,L3.Tg.Bg,L3.nh,L3.jG,L3.fP,L3.l8,L3.j7,L3.dD,L3.bh,L3.bt,List.reduceReplicate,List.map_cons,List.map_nil,List.cons_append,List.nil_append]); (try simp only [L3.af,L3.au,L3.az,L3.aW,L3.bq,L3.aO,L3.ah,L3.v3,L3.c3,L3.lk,L3.ao,L3.am,L3.ae,L3.eF,L3.aI,L3.gj,L3.gc,L3.cA,L3.cI,L3.iM,L3.pF,L3.li,L3.pH,L3.jC,L3.aB,L3.bn,L3.iY,L3.cp,L3.ag,L3.hV,L3.bd,L3.j4,L3.jx,L3.j5,L3.bP,L3.fH,L3.bA,L3.fB,L3.iR,L3.rP,L3.jW,L3.wZ,L3.jX,L3.yT,L3.bo,L3.vk,L3.aV,L3.gq,L3.bw,L3.jy,L3.jz,L3.br,L3.l0,List.set_cons_zero,List.set_cons_succ,List.set_nil,L3.mI,L3.h_,L3.l4,L3.a_,L3.ba,L3.cj,L3.cX,L3.fA,L3.Tg.put,L3.Tg.Bg,L3.nh,L3.jG,L3.fP,L3.l8,L3.j7,L3.dD,L3.bh,L3.bt,List.reduceReplicate,List.map_cons,List.map_nil,List.cons_append,List.nil_append])))
namespace C
open PySem L2 L3
noncomputable def bF(seed number:Int)(l:Addr):List (bb×PV):=[(Sum.inr "seed",.int seed),(Sum.inr "number",.int number),(Sum.inr "left",.ref l)]
structure Dd (S:av) (d l:Addr) (seed number:Int) (left:Vu):Prop where
 d:S d=some (.dct (bF seed number l))
 l:S l=some (.lst (left.map PV.int))
 s0:0<=seed
 s1:seed < 2147483647
 nm:0<=number
 lf:∀x∈left,0<=x
 ln:left.length<=100
def Bo(S:av)(d l:Addr):Prop:=∃seed number left,Dd S d l seed number left
def Dd.ne{S:av}{d l:Addr}{seed number:Int}{left:Vu}(D:Dd S d l seed number left):d≠l:=fun e=>by
 have h:=D.d
 rw[e,D.l]at h
 cases h
def Bo.new{S:av}{d l p:Addr}{o:SO}(D:Bo S d l)(h:S p=none):Bo (Bc S p o) d l:=by
 obtain⟨s,n,f,D⟩:=D
 refine⟨s,n,f,?_,?_,D.s0,D.s1,D.nm,D.lf,D.ln⟩
 ·rw[aj (fun e=>by have:=D.d;rw[e,h]at this;cases this)];exact D.d
 ·rw[aj (fun e=>by have:=D.l;rw[e,h]at this;cases this)];exact D.l
def Bo.upd{S:av}{d l p:Addr}{o:SO}(D:Bo S d l)(h1:p≠d)(h2:p≠l):Bo (Bc S p o) d l:=by
 obtain⟨s,n,f,D⟩:=D
 exact⟨s,n,f,by rw[aj h1.symm];exact D.d,by rw[aj h2.symm];exact D.l,D.s0,D.s1,D.nm,D.lf,D.ln⟩
def Bo.free{S:av}{d l p:Addr}(D:Bo S d l)(h:S p=none):p≠d/\p≠l:=by
 obtain⟨s,n,f,D⟩:=D
 exact⟨(fun e=>by have:=D.d;rw[<-e,h]at this;cases this),(fun e=>by have:=D.l;rw[<-e,h]at this;cases this)⟩
def jM(s n m:Int)(l:Addr):hZ (bF s n l) (Sum.inr "number") (.int m)=bF s m l:=by
 simp[hZ,bF,sS,aA]
def sf(s n m:Int)(l:Addr):hZ (bF s n l) (Sum.inr "seed") (.int m)=bF m n l:=by
 simp[hZ,bF,sS,aA]
def xm(s n:Int)(l:Addr):dB (bF s n l) (Sum.inr "seed")=some (.int s):=by simp[dB,bF,sS,aA]
def sg(s n:Int)(l:Addr):dB (bF s n l) (Sum.inr "number")=some (.int n):=by simp[dB,bF,sS,aA]
def xq(s n:Int)(l:Addr):dB (bF s n l) (Sum.inr "left")=some (.ref l):=by simp[dB,bF,sS,aA]
abbrev bB(w:aF):Prop:=∀{S:av} {d l:Addr} {m:Int} {Q:ce} {E:cW},Bo S d l->0 < m->m < 2 ^ 62->(∀r S',0<=r->r < m->Bo S' d l->Ca d l S S'->Q (.int r) S')->w [.ref d,.int m] S Q E
def Be:bB (Bs 5 eW):=by
  intro S d l m Q E D h0 h1 k
  obtain⟨seed,number,left,D⟩:=D
  have hne:=D.ne
  have hsz:∀a b,(bF a b l).length < sizeLine:=fun _ _=>dz (by show 3<=1000;decide)
  have fin:∀num Eh S1,Dd S1 d l seed num Eh->Ca d l S S1->¬(num=0/\0 < Eh.length)->
      (if 0 < num then lZ num m/\(bF seed num l).length < sizeLine/\m≠0/\Q (PV.int (num.fmod m)) (Bc S1 d (SO.dct (bF seed (num.fdiv m) l)))
       else IntMulOk seed 48271/\(2147483647:Int)≠0/\IntMulOk ((seed * 48271+7919).fmod 2147483647) 40692/\(2147483399:Int)≠0/\(bF seed num l).length < sizeLine/\
        IntMulOk (((seed * 48271+7919).fmod 2147483647 * 40692+104729).fmod 2147483399) (((seed * 48271+7919).fmod 2147483647 * 40692+104729).fmod 2147483399)/\(2147483563:Int)≠0/\
        IntMulOk ((seed * 48271+7919).fmod 2147483647) ((seed * 48271+7919).fmod 2147483647)/\(2147483629:Int)≠0/\
        IntMulOk (((seed * 48271+7919).fmod 2147483647 * (seed * 48271+7919).fmod 2147483647).fmod 2147483629) 2147483563/\m≠0/\
        Q (PV.int ((((seed * 48271+7919).fmod 2147483647 * (seed * 48271+7919).fmod 2147483647).fmod 2147483629 * 2147483563+((((seed * 48271+7919).fmod 2147483647 * 40692+104729).fmod 2147483399) * (((seed * 48271+7919).fmod 2147483647 * 40692+104729).fmod 2147483399)).fmod 2147483563).fmod m))
          (Bc S1 d (SO.dct (bF (((seed * 48271+7919).fmod 2147483647 * 40692+104729).fmod 2147483399) num l)))):=by
    intro num Eh S1 D1 O1 hz
    split
    . rename_i hp
      rw[gC (Int.le_of_lt h0),ze (Int.le_of_lt h0)]
      refine⟨zf h0 (by omega),hsz _ _,by omega,k _ _ (Int.emod_nonneg _ (by omega)) (Int.emod_lt_of_pos _ h0) ⟨seed,num / m,Eh,aa,by rw[aj hne.symm];exact D1.l,D1.s0,D1.s1,Int.ediv_nonneg D1.nm (Int.le_of_lt h0),D1.lf,D1.ln⟩ (O1.trans .upd)⟩
    . have e1:∀x:Int,x.fmod 2147483647=x % 2147483647:=fun x=>gC (by decide)
      have e2:∀x:Int,x.fmod 2147483399=x % 2147483399:=fun x=>gC (by decide)
      simp only[e1,e2,gC (Int.le_of_lt h0)]
      have p1:=D1.s0
      have p2:=D1.s1
      refine⟨uI (by decide) (by decide),by decide,uI (by decide) (by decide),by decide,hsz _ _,xk (by omega) (by omega),by decide,xk (by omega) (by omega),by decide,uI (by decide) (by decide),by omega,
        k _ _ (Int.emod_nonneg _ (by omega)) (Int.emod_lt_of_pos _ h0) ⟨_,num,Eh,aa,by rw[aj hne.symm];exact D1.l,by omega,by omega,D1.nm,D1.lf,D1.ln⟩ (O1.trans .upd)⟩
  unfold Bs eW
  rw[show aC 5 [PV.ref d,PV.int m]=[some (.ref d),some (.int m),none,none,none] from rfl]
  simp only[af]
  refine⟨fun n σ S'=>σ=[some (.ref d),some (.int m),none,none,none]/\∃number left,Dd S' d l seed number left/\left.length=n/\Ca d l S S',⟨_,rfl,number,left,D,rfl,.refl⟩,?_⟩
  rintro n σ S1 ⟨rfl,num,Eh,D1,hn,O1⟩
  walk_at "x"
  simp only[D1.d,D1.l,sg,xq,xm,sf,jM,aa,Bool.false_bne,decide_eq_true_eq]
  have hlen:(List.map PV.int Eh).length=Eh.length:=List.length_map ..
  rw[hlen]
  split
  . rename_i hz
    subst hz
    split
    . rename_i hl
      refine⟨fun σ S'=>σ=[some (.ref d),some (.int m),none,none,none]/\∃number left,Dd S' d l seed number left/\left.length < n/\Ca d l S S',?_,?_⟩
      . rintro σ' S' ⟨rfl,a,b,h2,h3,h4⟩
        exact⟨_,h3,rfl,a,b,h2,rfl,h4⟩
      . have hl':0 < Eh.length:=by omega
        obtain⟨pre,x,rfl⟩:∃pre x,Eh=pre++[x]:=by
          refine⟨Eh.dropLast,Eh.getLast (by intro e;rw[e]at hl';simp at hl'),(List.dropLast_concat_getLast _).symm⟩
        refine⟨trivial,?_⟩
        rw[show(List.map PV.int (pre++[x]))[(pre++[x]).length - 1]?=some (.int x) by simp,show(List.map PV.int (pre++[x])).dropLast=pre.map PV.int by simp]
        simp only[aj hne,D1.d,jM]
        refine⟨hsz _ _,trivial,x,pre,⟨aa,by rw[aj hne.symm,aa],D1.s0,D1.s1,D1.lf x (by simp),fun y hy=>D1.lf y (by simp[hy]),by have:=D1.ln;simp at this;omega⟩,?_,O1.trans (Ca.Ji.trans .upd)⟩
        rw[<-hn];simp
    . rename_i hl
      exact fin 0 Eh S1 D1 O1 (fun z=>hl (by omega))
  . rename_i hz
    rw[if_neg (by decide)]
    exact fin num Eh S1 D1 O1 (fun z=>hz z.1)
end C
namespace L3
open PySem L2
def Ext(S S':av):Prop:=∀a o,S a=some o->S' a=some o
def Ext.refl{S:av}:Ext S S:=fun _ _ h=>h
def Ext.trans{S S1 S2:av}(a:Ext S S1)(b:Ext S1 S2):Ext S S2:=fun x o h=>b x o (a x o h)
def Ext.new{S:av}{p:Addr}{o:SO}(h:S p=none):Ext S (Bc S p o):=fun x u hx=>by rw[aj (fun e=>by rw[e,h]at hx;cases hx)];exact hx
def Ext.free{S S':av}(e:Ext S S'){p:Addr}(h:S' p=none):S p=none:=by
 cases q:S p with
 |none=>rfl
 |some o=>rw[e p o q]at h;cases h
theorem dS{g:Tg}{tc:gW}{te:aN}{σ':b3}{keep:av->Prop}{fin:List PV->av->Prop}{S:av}(f:PV->PV)(c:PV->Bool)(hk:keep S):∀(items ys:List PV),
  (∀x∈items,∃σ2,g.put x σ'=some σ2/\(∀Q:Bool->av->Prop,Q (c x) S->tc σ2 S Q eI)/\(c x=true->∀Q:ce,Q (f x) S->te σ2 S Q eI))->ys.length+items.length<=sizeLine->fin (ys++(items.filter c).map f) S->cY g tc te σ' keep fin items ys S
 |[],ys,_,hl,hf=>⟨hk,by simpa using hl,by simpa using hf⟩
 |x::r,ys,h,hl,hf=>by
  obtain⟨σ2,e,h1,h2⟩:=h x (by simp)
  refine⟨hk,by simp at hl;omega,?_⟩
  rw[e]
  refine h1 _ ?_
  cases hc:c x with
  |true=>
   rw[if_pos rfl]
   refine h2 hc _ (dS f c hk r (ys++[f x]) (fun y hy=>h y (by simp[hy])) (by simp at hl ⊢;omega) ?_)
   rw[List.filter_cons,hc,if_pos rfl]at hf
   simpa using hf
  |false=>
   rw[if_neg (by decide)]
   refine dS f c hk r ys (fun y hy=>h y (by simp[hy])) (by simp at hl ⊢;omega) ?_
   rw[List.filter_cons,hc,if_neg (by decide)]at hf
   exact hf
def pX{g:Tg}{te:aN}{σ':b3}{keep:av->Prop}{fin:List PV->av->Prop}{S:av}(f:PV->PV){items:List PV}(hk:keep S)
  (h:∀x∈items,∃σ2,g.put x σ'=some σ2/\∀Q:ce,Q (f x) S->te σ2 S Q eI) (hl:items.length<=sizeLine) (hf:fin (items.map f) S):cY g cL te σ' keep fin items [] S:=by
 refine dS f (fun _=>true) hk items [] (fun x hx=>?_) (by simpa using hl) (by rw[List.filter_eq_self.mpr (fun _ _=>rfl)];exact hf)
 obtain⟨σ2,e,k⟩:=h x hx
 exact⟨σ2,e,fun Q q=>q,fun _=>k⟩
theorem kL{g:Tg}{tc:gW}{te:aN}{σ':b3}{keep:av->Prop}{fin:List PV->av->Prop}{items:List PV}(Iv:List PV->List PV->av->Prop)(hk:∀done ys S,Iv done ys S->keep S/\ys.length<=sizeLine)
  (step:∀done x rest ys S (K:List PV->av->Prop),items=done++x::rest->Iv done ys S->(∀ys' S',Iv (done++[x]) ys' S'->K ys' S')->match g.put x σ' with
   |some σ2=>tc σ2 S (fun b S3=>if b=true then te σ2 S3 (fun y S4=>K (ys++[y]) S4) eI else K ys S3) eI
   |none=>False)
  (hf:∀ys S,Iv items ys S->fin ys S):∀(rest done ys:List PV) (S:av),items=done++rest->Iv done ys S->cY g tc te σ' keep fin rest ys S
 |[],done,ys,S,e,h=>by
  rw[List.append_nil]at e
  exact⟨(hk _ _ _ h).1,(hk _ _ _ h).2,hf ys S (e▸h)⟩
 |x::rest,done,ys,S,e,h=>by
  refine⟨(hk _ _ _ h).1,(hk _ _ _ h).2,?_⟩
  exact step done x rest ys S (fun ys' S'=>cY g tc te σ' keep fin rest ys' S') e h fun ys' S' h'=>kL Iv hk step hf rest (done++[x]) ys' S' (by rw[e];simp) h'
theorem mj{g:Tg}{tb:bG}{D:ju}{keep:av->Prop}{items:List PV}(Iv:List PV->b3->av->Prop)(hk:∀done σ S,Iv done σ S->keep S)
  (step:∀done x rest σ S (K:b3->av->Prop),items=done++x::rest->Iv done σ S->(∀σ' S',Iv (done++[x]) σ' S'->K σ' S')->match g.put x σ with
   |some σ'=>tb { D with nx:=K,ct:=K,bk:=D.nx } σ' S
   |none=>False)
  (hd:∀σ S,Iv items σ S->D.nx σ S):∀(rest done:List PV) (σ:b3) (S:av),items=done++rest->Iv done σ S->l6 g tb D keep rest σ S
 |[],done,σ,S,e,h=>by
  rw[List.append_nil]at e
  exact⟨hk _ _ _ h,hd σ S (e▸h)⟩
 |x::rest,done,σ,S,e,h=>
  ⟨hk _ _ _ h,step done x rest σ S (l6 g tb D keep rest) e h fun σ' S' h'=>mj Iv hk step hd rest (done++[x]) σ' S' (by rw[e];simp) h'⟩
def cf{g:Tg}{tb:bG}{D:ju}{keep:av->Prop}{items:List PV}{σ:b3}{S:av}(Iv:List PV->b3->av->Prop)(h0:Iv [] σ S)(hk:∀done σ S,Iv done σ S->keep S)
  (step:∀done x rest σ S (K:b3->av->Prop),items=done++x::rest->Iv done σ S->(∀σ' S',Iv (done++[x]) σ' S'->K σ' S')->match g.put x σ with
   |some σ'=>tb { D with nx:=K,ct:=K,bk:=D.nx } σ' S
   |none=>False)
  (hd:∀σ S,Iv items σ S->D.nx σ S):l6 g tb D keep items σ S:=mj Iv hk step hd items [] σ S rfl h0
def cm{g:Tg}{tc:gW}{te:aN}{σ':b3}{keep:av->Prop}{fin:List PV->av->Prop}{items:List PV}{S:av}(Iv:List PV->List PV->av->Prop)(h0:Iv [] [] S)(hk:∀done ys S,Iv done ys S->keep S/\ys.length<=sizeLine)
  (step:∀done x rest ys S (K:List PV->av->Prop),items=done++x::rest->Iv done ys S->(∀ys' S',Iv (done++[x]) ys' S'->K ys' S')->match g.put x σ' with
   |some σ2=>tc σ2 S (fun b S3=>if b=true then te σ2 S3 (fun y S4=>K (ys++[y]) S4) eI else K ys S3) eI
   |none=>False)
  (hf:∀ys S,Iv items ys S->fin ys S):cY g tc te σ' keep fin items [] S:=kL Iv hk step hf items [] [] S rfl h0
def al{t u:bG}{D:ju}{σ:b3}{S:av}(h:∀N:b3->av->Prop,(∀σ S,u D σ S->N σ S)->t { D with nx:=N } σ S):af t u D σ S:=h (u D) fun _ _ q=>q
def im{n:Nat}{b:bG}{args:List PV}{S:av}{Q:ce}{E:cW}(h:b { nx:=fun _ S'=>Q .non S',rt:=Q,ex:=eI } (aC n args) S):Bs n b args S Q E:=h
def sh{α β:Type}(f:α->β)(xs:List α)(lo hi:Option Int):B7 (xs.map f) lo hi=(B7 xs lo hi).map f:=by
 unfold B7
 rw[List.length_map,List.map_take,List.map_drop]
def si{α:Type}(xs:List α)(lo hi:Option Int):(B7 xs lo hi).length<=xs.length:=by
 unfold B7
 rw[List.length_take,List.length_drop]
 omega
def cC{n:Nat}(h:n<=1000):n<=sizeLine:=Nat.le_of_lt (dz h)
section
variable {α:Type} {a b c d e:α} {l:List α}
def dU:Ck (a::l) 0=some a:=by simp[Ck,o3]
def jf:Ck (a::b::l) 1=some b:=b_ (j:=1) rfl
def xO:Ck (a::b::c::l) 2=some c:=b_ (j:=2) rfl
def A7:Ck (a::b::c::d::e::l) 4=some e:=b_ (j:=4) rfl
end
def cP(lo:Int)(n:Nat):(bz lo n).length=n:=by simp[bz]
end L3
namespace C
open PySem L2 L3
abbrev ml(w:aF):Prop:=∀{S:av} {ns:Vu} {b:Int} {Q:ce} {E:cW},ns.length<=63->0<=b->b < 1000->(∀d l S',S d=none->S l=none->Bo S' d l->Ext S S'->Q (.ref d) S')->w [.cl (ns.map PV.int),.int b] S Q E
def Do:ml (Bs 5 eV):=by
 intro S ns b Q E hn h0 h1 k
 unfold Bs eV
 rw[show aC 5 [PV.cl (ns.map PV.int),PV.int b]=[some (.cl (ns.map PV.int)),some (.int b),none,none,none] from rfl]
 walk_at "x"
 intro p hp
 rw[aa]
 dsimp only
 rw[sh]
 have hx:(B7 ns (some b) (some 63)).length<=63:=Nat.le_trans (si _ _ _) hn
 generalize B7 ns (some b) (some 63)=xs at hx
 refine pX (fun v=>match v with | .int i=>.int (if 0 - i > i then 0 - i else i)|v=>v) aa (fun x hx=>?_) (cC (by rw[List.length_map];omega)) ?_
 ·obtain⟨i,hi,rfl⟩:=List.mem_map.mp hx
  refine⟨[some (.int i)],rfl,fun Q q=>?_⟩
  walk_at "x"
  exact q
 intro p2 hp2
 rw[aa]
 dsimp only
 rw[List.map_map]
 have e0:(xs.map ((fun v=>match v with | .int i=>.int (if 0 - i > i then 0 - i else i)|v=>v) ∘ PV.int))=(xs.map fun i=>if 0 - i > i then 0 - i else i).map PV.int:=by
  rw[List.map_map];rfl
 rw[e0]
 have hy:((xs.map fun i=>if 0 - i > i then 0 - i else i)).length<=63:=by rw[List.length_map];exact hx
 have Gu:∀y∈xs.map (fun i:Int=>if 0 - i > i then 0 - i else i),0<=y:=by
  intro y hy
  obtain⟨i,_,rfl⟩:=List.mem_map.mp hy
  split<;>omega
 generalize (xs.map fun i=>if 0 - i > i then 0 - i else i)=ys at hy Gu
 have h2:p2≠p:=fun e=>by rw[e,aa]at hp2;cases hp2
 have hp2':S p2=none:=by rw[<-hp2,aj h2]
 refine cf (fun done σ S'=>S'=Bc (Bc S p (.lst (xs.map PV.int))) p2 (.lst (ys.map PV.int))/\∃v2 n,0<=n/\n < 2147483647/\σ=[some (.cl (ns.map PV.int)),some (.int b),v2,some (.ref p2),some (.int n)]) ⟨rfl,none,7919+b,by omega,by omega,rfl⟩ (fun done σ S' h=>by rw[h.1];exact aa) ?_ ?_
 ·rintro done x rest σ S' K e ⟨rfl,v2,n,n0,n1,rfl⟩ hK
  obtain⟨i,hi,rfl⟩:∃i,i∈ys/\x = .int i:=by
   have:x∈ys.map PV.int:=by rw[e];simp
   obtain⟨i,hi,rfl⟩:=List.mem_map.mp this
   exact⟨i,hi,rfl⟩
  walk_at "x"
  refine⟨uI (by decide) (by decide),by decide,by decide,hK _ _ ⟨rfl,_,_,?_,?_,rfl⟩⟩
  ·rw[gC (by decide)];omega
  ·rw[gC (i:=(n * 48271+_)) (by decide)];omega
 ·rintro σ S' ⟨rfl,v2,n,n0,n1,rfl⟩
  walk_at "x"
  intro d hd
  have hd2:d≠p2:=fun e=>by rw[e,aa]at hd;cases hd
  rw[aj hd2]at hd
  have hd1:d≠p:=fun e=>by rw[e,aa]at hd;cases hd
  rw[aj hd1]at hd
  rw[aj hd2.symm,aa]
  dsimp only
  refine dS (fun v=>v) (fun v=>match v with | .int i=>decide (10 ^ 18<=i)|_=>false) (by rw[aj hd2.symm,aa]) _ [] (fun x hx=>?_) (by rw[List.length_map];exact cC (by simp;omega)) ?_
  ·obtain⟨i,hi,rfl⟩:=List.mem_map.mp hx
   refine⟨[some (.int i)],rfl,fun Q q=>?_,fun _ Q q=>?_⟩
   ·walk_at "x"
    exact⟨⟨by decide,by decide,by decide⟩,q⟩
   ·walk_at "x"
    exact q
  intro p3 hp3
  rw[aa]
  intro l hl
  have e3:([]++List.map (fun v:PV=>v) (List.filter (fun v=>match v with | .int i=>decide (10 ^ 18<=i)|_=>false) (List.map PV.int ys)))=(ys.filter fun i=>decide (10 ^ 18<=i)).map PV.int:=by
   rw[List.nil_append,List.map_id',List.filter_map]
   rfl
  rw[e3]at hl ⊢
  rw[<-List.map_reverse]
  generalize Gr:Bc (Bc (Bc (Bc S p (SO.lst (List.map PV.int xs))) p2 (SO.lst (List.map PV.int ys))) d (SO.dct [])) p3 (SO.lst (List.map PV.int (List.filter (fun i=>decide (10 ^ 18<=i)) ys)))=S3 at hl ⊢
  have HZ:S3 d=some (.dct []):=by rw[<-Gr,aj (fun e=>by rw[<-e,aa]at hp3;cases hp3),aa]
  have H_:l≠d:=fun e=>by rw[e,HZ]at hl;cases hl
  have Hb:Ext S S3:=by
   rw[<-Gr]
   refine(Ext.new hp).trans ((Ext.new hp2).trans ((Ext.new ?_).trans (.new hp3)))
   rw[aj hd2,aj hd1];exact hd
  refine⟨by rw[aj H_.symm];exact HZ,?_⟩
  have e4:kF [(PV.str "seed",PV.int n),(PV.str "number",PV.int 0),(PV.str "left",PV.ref l)]=some (bF n 0 l):=rfl
  rw[e4]
  have e5:cM [] (bF n 0 l)=bF n 0 l:=by simp[cM,bF,hZ,sS,aA]
  dsimp only
  rw[e5]
  refine k d l _ hd (Hb.free hl) ⟨n,0,_,aa,by rw[aj H_,aa],n0,n1,Int.le_refl _,fun y hy=>?_,?_⟩ ?_
  ·exact Gu y (List.mem_filter.mp (List.mem_reverse.mp hy)).1
  ·rw[List.length_reverse]
   exact Nat.le_trans (List.length_filter_le _ _) (by omega)
  ·intro a o ha
   have had:a≠d:=fun e=>by rw[e,hd]at ha;cases ha
   rw[aj had,aj (fun e=>by rw[e,Hb.free hl]at ha;cases ha)]
   exact Hb a o ha
end C
namespace L3
open PySem L2
theorem e9(S:av):∀zs:List Str,CW S (zs.map PV.str) (zs.map PyData.str)
 |[]=>.nil
 |z::r=>.cons (.str z) (e9 S r)
theorem c_:∀{zs:Vs},(∀z∈zs,PyData.strOk z=true)->PyData.canLayAll0 (zs.map PyData.str)=true
 |[],_=>rfl
 |z::r,h=>by
  show(PyData.canLay0 (.str z)&&PyData.canLayAll0 (r.map PyData.str))=true
  rw[c_ fun y hy=>h y (by simp[hy])]
  have:PyData.canLay0 (.str z)=true:=h z (by simp)
  rw[this];rfl
def jN(z:Str)(zs:Vs):iO (.str z) (zs.map PyData.str)=decide (z∈zs):=by
 unfold iO
 rw[List.any_map,Bool.eq_iff_iff,List.any_eq_true,decide_eq_true_iff]
 constructor
 ·rintro⟨y,hy,e⟩
  have e':(y == z)=true:=e
  exact(eq_of_beq e')▸hy
 ·intro h
  exact⟨z,h,beq_self_eq_true z⟩
def de{neg:Bool}{z:Str}{zs:Vs}{a:Addr}{S:av}{Q:ce}(hS:S a=some (.lst (zs.map PV.str)))(hz:PyData.strOk z=true)(hzs:∀y∈zs,PyData.strOk y=true)(q:Q (.bl (neg != decide (z∈zs))) S):jv neg (.str z) (.ref a) S Q:=by
 unfold jv
 simp only[hS]
 exact⟨_,_,.str z,e9 S zs,hz,c_ hzs,by show 0<=150;decide,by rw[jN];exact q⟩
def bT{neg:Bool}{z:Str}{zs:Vs}{S:av}{Q:ce}(hz:PyData.strOk z=true)(hzs:∀y∈zs,PyData.strOk y=true)(q:Q (.bl (neg != decide (z∈zs))) S):jv neg (.str z) (.tup (zs.map PV.str)) S Q:=by
 unfold jv
 exact⟨_,_,.str z,e9 S zs,hz,c_ hzs,by show 0<=150;decide,by rw[jN];exact q⟩
end L3
namespace C
open PySem L2 L3 Wd
abbrev lv(w:aF):Prop:=∀{S:av} {t b:Int} {Q:ce} {E:cW},0 < b->b.natAbs < 2 ^ 8000->Q (.tup [.int (M3.k8 t b),.int (M3.lW t b)]) S->w [.int t,.int b] S Q E
def D8:lv (Bs 4 fQ):=by
 intro S t b Q E hb hs k
 unfold Bs fQ
 rw[show aC 4 [PV.int t,PV.int b]=[some (.int t),some (.int b),none,none] from rfl]
 simp only[af]
 walk_at "x"
 refine⟨fun n σ S'=>S'=S/\∃x y:Int,σ=[some (.int t),some (.int b),some (.int x),some (.int y)]/\0<=x/\0<=y/\Int.gcd x y=Int.gcd t b/\y.toNat=n,⟨_,rfl,_,b,rfl,by split<;>omega,by omega,?_,rfl⟩,?_⟩
 ·split
  ·rw[show(0 - t) = -t by omega,Int.neg_gcd]
  ·rfl
 rintro n σ S' ⟨rfl,x,y,rfl,hx,hy,hg,rfl⟩
 walk_at "x"
 simp only[decide_eq_true_eq]
 split
 ·rename_i hp
  refine⟨fun σ' En=>En=S'/\∃x' y':Int,σ'=[some (.int t),some (.int b),some (.int x'),some (.int y')]/\0<=x'/\0<=y'/\Int.gcd x' y'=Int.gcd t b/\y'.toNat < y.toNat,?_,?_⟩
  ·rintro σ' En ⟨rfl,x',y',rfl,h1,h2,h3,h4⟩
   exact⟨_,h4,rfl,x',y',rfl,h1,h2,h3,rfl⟩
  ·walk_at "x"
   have e:x.fmod y=x % y:=gC hy
   have l1:=Int.emod_nonneg x (b:=y) (by omega)
   have l2:=Int.emod_lt_of_pos x hp
   refine⟨by omega,trivial,y,x.fmod y,rfl,hy,by omega,?_,by omega⟩
   rw[M3.rf];exact hg
 ·rename_i hp
  have Gu:y=0:=by omega
  subst Gu
  have Jj:x=(Int.gcd t b:Int):=by
   rw[<-hg]
   rw[Int.gcd_zero_right]
   omega
  subst Jj
  have gp:(0:Int) < (Int.gcd t b:Int):=Int.natCast_pos.mpr (M3.gi (by omega))
  have gl:=M3.wJ (t:=t) (b:=b) (by omega)
  have cd:∀z,lZ z (Int.gcd t b:Int):=fun z=>⟨by omega,Nat.lt_of_le_of_lt (by omega) hs⟩
  refine⟨cd _,cd _,?_⟩
  have d1:=(M3.re (t:=t) (b:=b) (by omega))
  rw[if_neg (by omega)]at d1
  rw[d1.1,d1.2]
  exact k
structure zg (x y:Int):Prop where
 low:M3.AF x y
 x0:0<=x
 x1:x<=999
 y1:y<=9
def pY{n:Nat}(h:n < 2 ^ 64):n < 2 ^ 8000:=Nat.lt_trans h (Nat.pow_lt_pow_right (by decide) (by decide))
abbrev gD(w:aF):Prop:=∀{S:av} {d l:Addr} {Q:ce} {E:cW},Bo S d l->(∀x y S',zg x y->Bo S' d l->Ca d l S S'->Q (.tup [.int x,.int y]) S')->w [.ref d] S Q E
def C4{wd wl:aF}(Be:bB wd)(D8:lv wl):gD (Bs 2 (eX wd wl)):=by
 intro S d l Q E D k
 unfold Bs eX
 rw[show aC 2 [PV.ref d]=[some (.ref d),none] from rfl]
 walk_at "x"
 refine Be D (by decide) (by decide) fun r S1 r0 r1 D1 O1=>?_
 simp only[Bool.false_bne,decide_eq_true_eq]
 split
 ·exact k 0 1 S1 ⟨⟨by decide,by decide⟩,by decide,by decide,by decide⟩ D1 O1
 ·split
  ·refine Be D1 (by decide) (by decide) fun r2 S2 a0 a1 D2 O2=>?_
   exact k _ 1 S2 ⟨⟨by decide,Int.gcd_one_right _⟩,by omega,by omega,by decide⟩ D2 (O1.trans O2)
  ·refine Be D1 (by decide) (by decide) fun r2 S2 a0 a1 D2 O2=>Be D2 (by decide) (by decide) fun r3 S3 b0 b1 D3 O3=>?_
   refine D8 (by omega) (pY (by omega)) ?_
   have z:=M3.rg (t:=r2) (b:=1+r3) (T:=999) (B:=9) (by omega) (by omega) (by omega) (by omega) (by omega) (by decide) (by decide)
   refine k _ _ S3 ⟨M3.on (by omega),?_,z.2.1,z.2.2.2⟩ D3 (O1.trans (O2.trans O3))
   unfold M3.k8
   rw[if_neg (by omega)]
   exact Int.ediv_nonneg a0 (by omega)
def pZ{r:Int}(h0:0<=r)(h1:r < 26):∃c,Ck abc.cps.toList r=some c/\97<=c/\c<=122:=by
 obtain⟨n,rfl⟩:=Int.eq_ofNat_of_zero_le h0
 have q:=k7 n
 rw[Nat.mod_eq_of_lt (by omega)]at q
 exact⟨_,q,by omega,by omega⟩
def io{z:Str}(h:IsW z):PyData.strOk z=true:=by
 unfold PyData.strOk
 rw[Array.all_eq_true']
 intro c hc
 have:=h.sm c (by simpa using hc)
 simp;omega
def uJ:∀z∈B9,PyData.strOk z=true:=by decide +kernel
theorem dE:∀zs:List Str,texts (zs.map PV.str)=some zs
 |[]=>rfl
 |z::r=>by show(texts (r.map PV.str)).map (z::·)=_;rw[dE r];rfl
def p5:("":Str).length=0:=by decide +kernel
def kM{cs:List Nat}(h:cs.length<=1000):((cs.map k5).map (·.length)).sum+(cs.map k5).length * ("":Str).length<=1000000:=by
 rw[tZ,p5]
 omega
def jO{w__law_draw:aF}(Be:bB w__law_draw){S:av}{d l:Addr}{σ:b3}{n:Int}{fin:List PV->av->Prop}(D:Bo S d l)(hn:n.toNat<=100)(h1:lk σ 1=some (.ref d))(h2:lk σ 2=some (.str abc))(hσ:∃x,σ=[x,some (.ref d),some (.str abc)])
  (k:∀(cs:List Nat) S',cs.length=n.toNat->(∀c∈cs,97<=c/\c<=122)->Bo S' d l->Ca d l S S'->fin ((cs.map k5).map PV.str) S') :
  cY (Tg.n 0) cL (ah ag (v3 2) (ae w__law_draw [v3 1,c3 (.int 26)])) σ (fun _=>True) fin (bz 0 n.toNat) [] S:=by
 obtain⟨x0,rfl⟩:=hσ
 refine cm (fun done ys S'=>∃cs:List Nat,ys=(cs.map k5).map PV.str/\cs.length=done.length/\done.length<=n.toNat/\(∀c∈cs,97<=c/\c<=122)/\Bo S' d l/\Ca d l S S') ⟨[],rfl,rfl,Nat.zero_le _,by simp,D,.refl⟩ ?_ ?_ ?_
 ·rintro done ys S' ⟨cs,rfl,e,hd,_⟩
  exact⟨trivial,cC (by rw[List.length_map,List.length_map,e];omega)⟩
 ·rintro done x rest ys S' K e ⟨cs,rfl,e2,hd,hc,D',O'⟩ hK
  have hlen:done.length+1<=n.toNat:=by
   have:=congrArg List.length e
   rw[cP,List.length_append,List.length_cons]at this
   omega
  walk_at "x"
  simp only[cL,if_true]
  refine Be D' (by decide) (by decide) fun r S2 r0 r1 D2 O2=>⟨i6.1,?_⟩
  obtain⟨c,ec,c0,c1⟩:=pZ r0 r1
  rw[ec]
  refine hK _ _ ⟨cs++[c],by simp,by simp[e2],by simpa using hlen,fun y hy=>?_,D2,O'.trans O2⟩
  rcases List.mem_append.mp hy with hy|hy
  ·exact hc y hy
  ·rw[List.mem_singleton.mp hy];exact⟨c0,c1⟩
 ·rintro ys S' ⟨cs,rfl,e,hd,hc,D',O'⟩
  exact k cs S' (by rw[e,cP]) hc D' O'
theorem mn{f:Str->List Nat}(r:List Nat):∀xs:List Str,(xs.map f).Nodup->(xs.filter fun z=>f z == r).length<=1
 |[],_=>Nat.zero_le _
 |x::xs,h=>by
  rw[List.map_cons,List.nodup_cons]at h
  rw[List.filter_cons]
  by_cases e:(f x == r)=true
  ·rw[if_pos e]
   have no:(xs.filter fun z=>f z == r)=[]:=by
    refine List.filter_eq_nil_iff.mpr fun z hz q=>h.1 ?_
    rw[eq_of_beq e,<-eq_of_beq q]
    exact List.mem_map.mpr ⟨z,hz,rfl⟩
   rw[no]
   exact Nat.le_refl _
  ·rw[if_neg e]
   exact mn r xs h.2
def sj(r:List Nat):(B9.filter fun z=>z.cps.toList.tail == r).length<=1:=mn (f:=fun z=>z.cps.toList.tail) r B9 (by decide +kernel)
def nF(r:List Nat)(c:Nat)(ns:Vs)(h:ns.length < 17):∃j,j < 26/\cand r (c+j) ∉ B9++ns:=by
 obtain⟨j,hj,free⟩:=pE r c ((B9.filter fun z=>z.cps.toList.tail == r)++ns) (by rw[List.length_append];have:=sj r;omega)
 refine⟨j,hj,fun hm=>free ?_⟩
 rcases List.mem_append.mp hm with q|q
 ·exact List.mem_append_left _ (List.mem_filter.mpr ⟨q,by simp[cand]⟩)
 ·exact List.mem_append_right _ q
abbrev dF(w:aF):Prop:=∀{S:av} {d l:Addr} {m:Int} {Q:ce} {E:cW},Bo S d l->0<=m->m<=17->(∀p (ns:Vs) S',ns.length=m.toNat->ns.Nodup->(∀z∈ns,IsW z/\z ∉ B9)->S p=none->p≠d->p≠l->S' p=some (.lst (ns.map PV.str))->Bo S' d l->Ca d l S S'->Q (.ref p) S')->w [.ref d,.int m] S Q E
def Cb{wd:aF}(Be:bB wd):dF (Bs 11 (dN wd)):=by
 intro S d l m Q E D h0 h1 k
 unfold dN
 refine im ?_
 rw[show aC 11 [PV.ref d,PV.int m]=[some (.ref d),some (.int m),none,none,none,none,none,none,none,none,none] from rfl]
 refine al fun N hN=>?_
 walk_at "x"
 refine hN _ _ (al fun N hN=>?_)
 walk_at "x"
 intro pT hT
 have dT:=D.free hT
 have D0:Bo (Bc S pT (.lst (B9.map PV.str))) d l:=D.new hT
 have Ia:(Bc S pT (.lst (B9.map PV.str))) pT=some (.lst (B9.map PV.str)):=aa
 have O0:Ca d l S (Bc S pT (.lst (B9.map PV.str))):=.new hT
 have eK:[PV.str "jars",PV.str "deed",PV.str "rest",PV.str "pay",PV.str "put",PV.str "then",PV.str "either",PV.str "take",PV.str "often",PV.str "use"]=B9.map PV.str:=rfl
 rw[eK]
 generalize Bc S pT (.lst (B9.map PV.str))=S0 at D0 Ia O0 ⊢
 refine hN _ _ (al fun N hN=>?_)
 walk_at "x"
 refine⟨trivial,Be D0 (by decide) (by decide) fun n S1 n0 n1 D1 O1=>⟨by omega,by omega,?_⟩⟩
 refine jO Be D1 (by omega) rfl rfl ⟨_,rfl⟩ fun cs S2 hl hc D2 O2 pj hj=>?_
 simp only[kC,aa,dE]
 refine⟨kM (by omega),?_⟩
 rw[show Txt.join (Str.ofString "") (cs.map k5)=⟨cs.toArray⟩from jt cs]
 refine hN _ _ (al fun N hN=>?_)
 walk_at "x"
 have hcl:cs.length<=5:=by omega
 have lc:(⟨cs.toArray⟩:Str).length=cs.length:=List.size_toArray
 refine⟨by rw[lc];exact cC (by omega),Be (D2.new hj) (by rw[lc];omega) (by rw[lc];omega) fun at' S3 a0 a1 D3 O3=>Be D3 (by decide) (by decide) fun tu S4 t0 t1 D4 O4=>Be D4 (by decide) (by decide) fun nr S5 r0 r1 D5 O5=>?_⟩
 rw[lc]at a1
 obtain⟨an,rfl⟩:=Int.eq_ofNat_of_zero_le a0
 obtain⟨tn,rfl⟩:=Int.eq_ofNat_of_zero_le t0
 refine hN _ _ (al fun N hN=>?_)
 walk_at "x"
 intro q hq
 have dq:=D5.free hq
 have OA:Ca d l S0 S5:=O1.trans (O2.trans ((Ca.new hj).trans (O3.trans (O4.trans O5))))
 have Hc:=OA _ _ Ia dT.1 dT.2
 have Ib:pT≠q:=fun e=>by rw[e,hq]at Hc;cases Hc
 have Ic:S q=none:=by
  cases e:S q with
  |none=>rfl
  |some o=>rw[OA _ _ (O0 _ _ e dq.1 dq.2) dq.1 dq.2]at hq;cases hq
 refine hN _ _ (al fun N hN=>?_)
 simp only[cX,j7,v3,lk]
 refine⟨by omega,by omega,?_⟩
 refine cf (fun done σ S'=>∃(ns:Vs) (v4 v10:Option PV) (near:Bool),σ=[some (.ref d),some (.int m),some (.str abc),some (.ref pT),v4,some (.str ⟨cs.toArray⟩),some (.int an),some (.int tn),some (.bl near),some (.ref q),v10]/\ns.length=done.length/\ns.Nodup/\(∀z∈ns,IsW z/\z ∉ B9)/\S' q=some (.lst (ns.map PV.str))/\S' pT=some (.lst (B9.map PV.str))/\Bo S' d l/\Ca d l S S')
  ⟨[],_,_,_,rfl,rfl,List.nodup_nil,(fun z hz=>nomatch hz),aa,by rw[aj Ib];exact Hc,D5.new hq,O0.trans (OA.trans (.new hq))⟩ (fun _ _ _ _=>trivial) ?_ ?_
 ·rintro done x rest σ S6 K e ⟨ns,v4,v10,near,rfl,Hd,He,w6,Gv,Hf,D6,O6⟩ hK
  have hlen:done.length < m.toNat:=by
   have:=congrArg List.length e
   rw[cP,List.length_append,List.length_cons]at this
   omega
  have hx:x = .int (0+(done.length:Nat)):=by
   have h2:=congrArg (fun l=>l[done.length]?) e
   simp only[List.getElem?_append_right (Nat.le_refl _),Nat.sub_self,List.getElem?_cons_zero]at h2
   unfold bz at h2
   rw[List.getElem?_map,List.getElem?_range hlen]at h2
   simpa using h2.symm
  subst hx
  -- the tail: a word is changed Jk it is new,then laid down
  have ql:∀(z:Str) (v4:Option PV) (S7:av),IsW z->S7 q=some (.lst (ns.map PV.str))->S7 pT=some (.lst (B9.map PV.str))->Bo S7 d l->Ca d l S S7->
    af (ic (gc (aI (ah (jv false) (v3 10) (v3 3))) (aI (ah (jv false) (v3 10) (v3 9)))) (au 10 (ah aV (ah ag (v3 2) (ah fB (ah aV (eF "str" hW (v3 2) [(ah ag (v3 10) (c3 (.int 0)))]) (c3 (.int 1))) (c3 (.int 26)))) (bd (v3 10) (jx (c3 (.int 1))) j4))))
     (aW (eF "list" bh (v3 9) [(v3 10)])) { nx:=K,rt:=Q,ex:=eI,bk:=N,ct:=K } [some (.ref d),some (.int m),some (.str abc),some (.ref pT),v4,some (.str ⟨cs.toArray⟩),some (.int an),some (.int tn),some (.bl near),some (.ref q),some (.str z)] S7:=by
   intro z v4 S7 hz Ie Ig D7 O7
   obtain⟨i,r,rfl,hi,Jl,hrs⟩:=hz.cand
   obtain⟨j,hj,free⟩:=nF r i ns (by omega)
   refine⟨fun mm σ S'=>∃t,σ=[some (.ref d),some (.int m),some (.str abc),some (.ref pT),v4,some (.str ⟨cs.toArray⟩),some (.int an),some (.int tn),some (.bl near),some (.ref q),some (.str (cand r (i+t)))]/\S'=S7/\t<=j/\mm=j - t,⟨j,0,rfl,rfl,Nat.zero_le _,rfl⟩,?_⟩
   rintro mm σ S' ⟨t,rfl,rfl,ht,rfl⟩
   have hw:=q9 Jl hrs (i+t)
   have Hg:∀y∈ns,PyData.strOk y=true:=fun y hy=>io (w6 y hy).1
   have go:t < j->∃N:b3->av->Prop,(∀σ' En,N σ' En->∃m',m' < j - t/\∃t',σ'=[some (.ref d),some (.int m),some (.str abc),some (.ref pT),v4,some (.str ⟨cs.toArray⟩),some (.int an),some (.int tn),some (.bl near),some (.ref q),some (.str (cand r (i+t')))]/\En=S'/\t'<=j/\m'=j - t')/\
     N ([some (.ref d),some (.int m),some (.str abc),some (.ref pT),v4,some (.str ⟨cs.toArray⟩),some (.int an),some (.int tn),some (.bl near),some (.ref q),some (.str (cand r (i+(t+1))))]) S':=fun lt=>
    ⟨fun σ' En=>σ'=[some (.ref d),some (.int m),some (.str abc),some (.ref pT),v4,some (.str ⟨cs.toArray⟩),some (.int an),some (.int tn),some (.bl near),some (.ref q),some (.str (cand r (i+(t+1))))]/\En=S',fun σ' En ⟨e1,e2⟩=>⟨j - (t+1),by omega,t+1,e1,e2,by omega,rfl⟩,rfl,rfl⟩
   have Gw:((((i+t) % 26:Nat):Int)+1).fmod 26=(((i+t+1) % 26:Nat):Int):=by rw[gC (by decide)];omega
   walk_at "x"
   refine de Ig (io hw) uJ ?_
   simp only[Bool.false_bne,decide_eq_true_eq]
   split
   ·rename_i g
    have lt:t < j:=Nat.lt_of_le_of_ne ht fun e=>by subst e;exact free (List.mem_append_left _ g)
    obtain⟨N,hN,hn⟩:=go lt
    rw[if_pos trivial]
    refine⟨N,hN,trivial,hw.line,?_⟩
    rw[kz]
    simp only[hW,qZ _ (Nat.mod_lt _ (by decide))]
    refine⟨by decide,i6.1,?_⟩
    rw[Gw,k7 (i+t+1)]
    refine⟨hw.line,?_,?_⟩
    ·rw[fq]
     exact cC (show 1+r.toArray.size<=1000 by rw[List.size_toArray];omega)
    ·rw[fq,kA]
     exact hn
   ·rename_i g
    refine de Ie (io hw) Hg ?_
    simp only[Bool.false_bne,decide_eq_true_eq]
    split
    ·rename_i g2
     have lt:t < j:=Nat.lt_of_le_of_ne ht fun e=>by subst e;exact free (List.mem_append_right _ g2)
     obtain⟨N,hN,hn⟩:=go lt
     refine⟨N,hN,trivial,hw.line,?_⟩
     rw[kz]
     simp only[hW,qZ _ (Nat.mod_lt _ (by decide))]
     refine⟨by decide,i6.1,?_⟩
     rw[Gw,k7 (i+t+1)]
     refine⟨hw.line,?_,?_⟩
     ·rw[fq]
      exact cC (show 1+r.toArray.size<=1000 by rw[List.size_toArray];omega)
     ·rw[fq,kA]
      exact hn
    ·rename_i g2
     simp only[Ie]
     refine⟨trivial,by rw[List.length_map];exact dz (by omega),hK _ _ ⟨ns++[cand r (i+t)],_,_,_,rfl,by simp[Hd],List.nodup_append.mpr ⟨He,by simp,fun a ha b hb e=>?_⟩,fun z hz=>?_,by rw[List.map_append];exact aa,by rw[aj Ib];exact Ig,D7.upd dq.1 dq.2,fun a o ha h1 h2=>?_⟩⟩
     ·rw[List.mem_singleton.mp hb]at e
      exact g2 (e▸ha)
     ·rcases List.mem_append.mp hz with hz|hz
      ·exact w6 z hz
      ·rw[List.mem_singleton.mp hz]
       exact⟨hw,g⟩
     ·rw[aj (fun e=>by rw[e,Ic]at ha;cases ha)]
      exact O7 a o ha h1 h2
  obtain⟨pw,Jm,pl2⟩:=t4 hcl hc (a:=an) (i:=(tn+done.length) % 26) (by omega) (Nat.mod_lt _ (by decide))
  have Gw:((tn:Int)+(0+(done.length:Int))).fmod 26=(((tn+done.length) % 26:Nat):Int):=by rw[gC (by decide)];omega
  have Ih:(⟨cs.toArray⟩:Str).length<=sizeLine:=by rw[lc];exact cC (by omega)
  simp only[Tg.put]
  refine al fun N2 Cc=>?_
  walk_at "x"
  refine⟨Ih,by decide,i6.1,?_⟩
  rw[Gw,k7 (tn+done.length)]
  refine⟨Nat.le_trans (Nat.add_le_add Jm (Nat.le_refl 1)) (by decide),Ih,Nat.le_trans (Nat.le_of_eq (Array.size_append).symm) (Nat.le_trans pw.len (by decide)),?_⟩
  refine Cc _ _ (al fun N3 EB=>?_)
  walk_at "x"
  split
  ·refine⟨trivial,Be D6 (by decide) (by decide) fun n2 Sa m0 m1 Da Oa=>⟨by omega,by omega,?_⟩⟩
   refine jO Be Da (by omega) rfl rfl ⟨_,rfl⟩ fun Fx Sb hl2 hc2 Db Ob Jn hj2=>?_
   simp only[kC,aa,dE]
   refine⟨kM (by omega),?_⟩
   rw[show Txt.join (Str.ofString "") (Fx.map k5)=⟨Fx.toArray⟩from jt Fx]
   refine EB _ _ ?_
   have wz:IsW (⟨Fx.toArray⟩:Str):=⟨fun e=>by have e':Fx=[]:=e;rw[e']at hl2;simp at hl2;omega,by show Fx.length<=6;omega,hc2⟩
   have OB:Ca d l S6 (Bc Sb Jn (.lst ((Fx.map k5).map PV.str))):=Oa.trans (Ob.trans (.new hj2))
   exact ql _ _ _ wz (OB _ _ Gv dq.1 dq.2) (OB _ _ Hf dT.1 dT.2) (Db.new hj2) (O6.trans OB)
  ·exact EB _ _ (ql _ _ S6 pw Gv Hf D6 O6)
 ·rintro σ S6 ⟨ns,v4,v10,near,rfl,Hd,He,w6,Gv,Hf,D6,O6⟩
  refine hN _ _ ?_
  walk_at "x"
  exact k q ns S6 (by rw[Hd,cP]) He w6 Ic dq.1 dq.2 Gv D6 O6
inductive Bd where
 |rest|pay (x y:Int)|put (z:Str) (m:Int)|use (z:Str)|BC (a:Bd)|Bh (a b:Bd)|BG (a b:Bd)|BB (z:Str) (m:Int) (a b:Bd)
noncomputable def Bd.pv:Bd->PV
 | .rest=>.tup [.str "rest"]
 | .pay x y=>.tup [.str "pay",.tup [.int x,.int y]]
 | .put z m=>.tup [.str "put",.str z,.int m]
 | .use z=>.tup [.str "use",.str z]
 | .BC a=>.tup [.str "often",a.pv]
 | .Bh a b=>.tup [.str "then",a.pv,b.pv]
 | .BG a b=>.tup [.str "either",a.pv,b.pv]
 | .BB z m a b=>.tup [.str "take",.str z,.int m,a.pv,b.pv]
noncomputable def Bd.dep:Bd->Nat
 | .BC a=>a.dep+1
 | .Bh a b=>max a.dep b.dep+1
 | .BG a b=>max a.dep b.dep+1
 | .BB _ _ a b=>max a.dep b.dep+1
 |_=>1
noncomputable def Bd.size:Bd->Nat
 | .BC a=>a.size+1
 | .Bh a b=>a.size+b.size+1
 | .BG a b=>a.size+b.size+1
 | .BB _ _ a b=>a.size+b.size+1
 |_=>1
noncomputable def Bd.good(js us:Vs):Bd->Prop
 | .rest=>True
 | .pay x y=>zg x y
 | .put z m=>z∈js/\1<=m/\m<=9
 | .use z=>z∈us
 | .BC a=>a.good js us
 | .Bh a b=>a.good js us/\b.good js us
 | .BG a b=>a.good js us/\b.good js us
 | .BB z m a b=>z∈js/\1<=m/\m<=9/\a.good js us/\b.good js us
def Bd.BW(t:Bd):1<=t.dep:=by cases t<;>simp[Bd.dep]
def dW{α:Type}{xs:List α}{r:Int}(h0:0<=r)(h1:r < xs.length):∃v,Ck xs r=some v/\v∈xs:=by
 obtain⟨n,rfl⟩:=Int.eq_ofNat_of_zero_le h0
 have hn:n < xs.length:=by omega
 exact⟨xs[n],b_ (by simp[hn]),List.getElem_mem hn⟩
noncomputable def Bd.leaf:Bd->Prop
 | .rest=>True
 | .pay _ _=>True
 | .put _ _=>True
 |_=>False
def Bd.BD{t:Bd}(h:t.leaf):t.dep=1/\t.size=1:=by cases t<;>first|exact⟨rfl,rfl⟩|exact h.elim
abbrev gE(w:aF):Prop:=∀{S:av} {d l:Addr} {js:Vs} {Q:ce} {E:cW},Bo S d l->js.length < 2 ^ 61->(∀(t:Bd) S',t.leaf->t.good js []->Bo S' d l->Ca d l S S'->Q t.pv S')->w [.ref d,.tup (js.map PV.str)] S Q E
def BX{wd wc:aF}(Be:bB wd)(C4:gD wc):gE (Bs 4 (ck wd wc)):=by
 intro S d l js Q E D hj k
 unfold ck
 refine im ?_
 rw[show aC 4 [PV.ref d,PV.tup (js.map PV.str)]=[some (.ref d),some (.tup (js.map PV.str)),none,none] from rfl]
 refine al fun N hN=>?_
 walk_at "x"
 refine Be D (by decide) (by decide) fun r S1 r0 r1 D1 O1=>?_
 refine hN _ _ (al fun N hN=>?_)
 walk_at "x"
 simp only[Bool.false_bne,decide_eq_true_eq]
 split
 ·exact k .rest S1 trivial trivial D1 O1
 refine hN _ _ (al fun N hN=>?_)
 walk_at "x"
 simp only[Bool.false_bne,decide_eq_true_eq,List.length_map]
 have pay:wc [.ref d] S1 (fun x S=>Q (.tup [.str "pay",x]) S) eI:=C4 D1 fun x y S2 c D2 O2=>k (.pay x y) S2 trivial c D2 (O1.trans O2)
 split
 ·rw[if_pos trivial];exact pay
 split
 ·exact pay
 rename_i hr hz
 refine hN _ _ (al fun N hN=>?_)
 walk_at "x"
 refine Be D1 (by decide) (by decide) fun r2 S2 a0 a1 D2 O2 p hp=>Be (D2.new hp) (by decide) (by decide) fun r3 S3 b0 b1 D3 O3=>?_
 have dp:=D2.free hp
 have hp3:=O3 _ _ (aa (S:=S2) (o:=.lst [.int 1,.int 2,.int (1+r2)])) dp.1 dp.2
 simp only[hp3]
 obtain⟨v,hv,hm⟩:=dW (xs:=[PV.int 1,.int 2,.int (1+r2)]) b0 (by simpa using b1)
 rw[hv]
 obtain⟨m,rfl,m0,m1⟩:∃m,v = .int m/\1<=m/\m<=9:=by
  simp only[List.mem_cons,List.not_mem_nil,or_false]at hm
  rcases hm with rfl|rfl|rfl
  ·exact⟨1,rfl,by omega,by omega⟩
  ·exact⟨2,rfl,by omega,by omega⟩
  ·exact⟨1+r2,rfl,by omega,by omega⟩
 refine hN _ _ ?_
 walk_at "x"
 simp only[List.length_map]
 refine Be D3 (by omega) (by omega) fun r4 S4 c0 c1 D4 O4=>?_
 obtain⟨w,hw,Hh⟩:=dW (xs:=js.map PV.str) c0 (by rw[List.length_map];exact c1)
 dsimp only
 rw[hw]
 obtain⟨z,hz,rfl⟩:=List.mem_map.mp Hh
 exact k (.put z m) S4 trivial ⟨hz,m0,m1⟩ D4 (O1.trans (O2.trans ((Ca.new hp).trans (O3.trans O4))))
def Dq(d l x:Addr)(S S':av):Prop:=∀a o,S a=some o->a≠d->a≠l->a≠x->S' a=some o
theorem _root_.L3.Ca.x{d l x:Addr}{S S':av}(h:Ca d l S S'):Dq d l x S S':=fun a o e h1 h2 _=>h a o e h1 h2
def Dq.trans{d l x:Addr}{S S1 S2:av}(a:Dq d l x S S1)(b:Dq d l x S1 S2):Dq d l x S S2:=fun y o h h1 h2 h3=>b y o (a y o h h1 h2 h3) h1 h2 h3
def Dq.upd{d l x:Addr}{S:av}{o:SO}:Dq d l x S (Bc S x o):=fun y u h h1 h2 h3=>by rw[aj h3];exact h
abbrev e_(n:Nat)(w:aF):Prop:=∀{S:av} {d l x:Addr} {js:Vs} {left down:Int} {Q:ce} {E:cW},Bo S d l->S x=some (.lst [.int left])->x≠d->x≠l->js.length < 2 ^ 61->0<=left->left < 2 ^ 61->0<=down->down < n->
  (∀(t:Bd) S' left',t.good js []->(t.dep:Int)<=down+1->0<=left'->(t.size:Int)+left'<=left+1->Bo S' d l->S' x=some (.lst [.int left'])->Dq d l x S S'->Q t.pv S')->w [.ref d,.tup (js.map PV.str),.ref x,.int down] S Q E
def C5{wd wl rb:aF}(Be:bB wd)(BX:gE wl)(n:Nat)(ih:e_ n rb):e_ (n+1) (Bs 8 (eY wd wl rb)):=by
 intro S d l x js left down Q E D hx hxd EQ hj h0 h1 h2 h3 k
 unfold eY
 refine im ?_
 rw[show aC 8 [PV.ref d,PV.tup (js.map PV.str),PV.ref x,PV.int down]=[some (.ref d),some (.tup (js.map PV.str)),some (.ref x),some (.int down),none,none,none,none] from rfl]
 refine al fun N hN=>?_
 walk_at "x"
 refine Be D (by decide) (by decide) fun r S1 r0 r1 D1 O1=>?_
 have F4:=O1 _ _ hx hxd EQ
 refine hN _ _ (al fun N hN=>?_)
 walk_at "x"
 have a0:Ck [PV.int left] 0=some (.int left):=rfl
 simp only[Bool.false_bne,decide_eq_true_eq,F4,a0]
 have lf:wl [.ref d,.tup (js.map PV.str)] S1 Q eI:=BX D1 hj fun t S2 hl hg D2 O2=>k t S2 left hg (by rw[(Bd.BD hl).1];omega) h0 (by rw[(Bd.BD hl).2];omega) D2 (O2 _ _ F4 hxd EQ) (O1.x.trans O2.x)
 split
 ·rw[if_pos trivial];exact lf
 split
 ·rw[if_pos trivial];exact lf
 split
 ·exact lf
 rename_i hd hl hf
 refine hN _ _ (al fun N hN=>?_)
 simp only[bq,aI,ah,v3,c3,lk,jW,bP,decide_eq_true_eq]
 have Ii:o3 [PV.int left].length 0=some 0:=rfl
 split
 ·refine al fun N2 Cc=>?_
  walk_at "x"
  simp only[F4,a0,Ii]
  refine Cc _ _ ?_
  walk_at "x"
  refine ih (left:=left - 1) (D1.upd hxd EQ) aa hxd EQ hj (by omega) (by omega) (by omega) (by omega) fun t S2 l2 hg hdp q0 q1 D2 Hi O2=>?_
  exact k (.BC t) S2 l2 hg (by simp only[Bd.dep];omega) q0 (by simp only[Bd.size];omega) D2 Hi (O1.x.trans (Dq.upd.trans O2))
 ·refine hN _ _ (al fun N hN=>?_)
  walk_at "x"
  simp only[F4,a0,Ii]
  refine hN _ _ (al fun N hN=>?_)
  walk_at "x"
  refine ih (left:=left - 2) (D1.upd hxd EQ) aa hxd EQ hj (by omega) (by omega) (by omega) (by omega) fun ta S2 l2 ga da q0 q1 D2 Hi O2=>?_
  refine hN _ _ (al fun N hN=>?_)
  walk_at "x"
  refine ih (left:=l2) D2 Hi hxd EQ hj q0 (by omega) (by omega) (by omega) fun tb S3 l3 gb db p0 p1 D3 Hj O3=>?_
  have OA:Dq d l x S S3:=O1.x.trans (Dq.upd.trans (O2.trans O3))
  refine hN _ _ (al fun N hN=>?_)
  walk_at "x"
  simp only[decide_eq_true_eq]
  split
  ·exact k (.Bh ta tb) S3 l3 ⟨ga,gb⟩ (by simp only[Bd.dep];omega) p0 (by simp only[Bd.size];omega) D3 Hj OA
  refine hN _ _ (al fun N hN=>?_)
  walk_at "x"
  simp only[Bool.false_bne,decide_eq_true_eq,List.length_map]
  have ei:Q (Bd.BG ta tb).pv S3:=k (.BG ta tb) S3 l3 ⟨ga,gb⟩ (by simp only[Bd.dep];omega) p0 (by simp only[Bd.size];omega) D3 Hj OA
  split
  ·rw[if_pos trivial];exact ei
  split
  ·exact ei
  rename_i hz8 hz
  refine hN _ _ (al fun N hN=>?_)
  walk_at "x"
  refine Be D3 (by decide) (by decide) fun r2 S4 e0 e1 D4 O4 p hp=>Be (D4.new hp) (by decide) (by decide) fun r3 S5 b0 b1 D5 O5=>?_
  have dp:=D4.free hp
  have hp3:=O5 _ _ (aa (S:=S4) (o:=.lst [.int 1,.int 1,.int 2,.int (1+r2)])) dp.1 dp.2
  simp only[hp3]
  obtain⟨v,hv,hm⟩:=dW (xs:=[PV.int 1,.int 1,.int 2,.int (1+r2)]) b0 (by simpa using b1)
  rw[hv]
  obtain⟨m,rfl,m0,m1⟩:∃m,v = .int m/\1<=m/\m<=9:=by
   simp only[List.mem_cons,List.not_mem_nil,or_false]at hm
   rcases hm with rfl|rfl|rfl|rfl
   ·exact⟨1,rfl,by omega,by omega⟩
   ·exact⟨1,rfl,by omega,by omega⟩
   ·exact⟨2,rfl,by omega,by omega⟩
   ·exact⟨1+r2,rfl,by omega,by omega⟩
  refine hN _ _ ?_
  walk_at "x"
  simp only[List.length_map]
  refine Be D5 (by omega) (by omega) fun r4 S6 c0 c1 D6 O6=>?_
  obtain⟨w,hw,Hh⟩:=dW (xs:=js.map PV.str) c0 (by rw[List.length_map];exact c1)
  dsimp only
  rw[hw]
  obtain⟨z,hz,rfl⟩:=List.mem_map.mp Hh
  have Hk:=O4 _ _ Hj hxd EQ
  have Jo:x≠p:=fun e=>by rw[e,hp]at Hk;cases Hk
  have Jp:=O6 _ _ (O5 _ _ (show Bc S4 p _ x=some (.lst [.int l3]) by rw[aj Jo];exact Hk) hxd EQ) hxd EQ
  exact k (.BB z m ta tb) S6 l3 ⟨hz,m0,m1,ga,gb⟩ (by simp only[Bd.dep];omega) p0 (by simp only[Bd.size];omega) D6 Jp (OA.trans (O4.x.trans ((Ca.new hp).x.trans (O5.x.trans O6.x))))
end C
local macro_rules | `(tactic| walk_at "w")=>`(tactic| simp only [L3.af,L3.au,L3.az,L3.aW,L3.bq,L3.aO,L3.ah,L3.v3,L3.c3,L3.lk,L3.ao,L3.am,L3.ae,L3.eF,L3.aI,L3.gj,L3.gc,L3.cA,L3.cI,L3.iM,L3.pF,L3.li,L3.pH,L3.jC,L3.aB,L3.bn,L3.iY,L3.cp,L3.ag,L3.hV,L3.bd,L3.j4,L3.jx,L3.j5,L3.bP,L3.fH,L3.bA,L3.fB,L3.iR,L3.rP,L3.jW,L3.wZ,L3.jX,L3.yT,L3.bo,L3.vk,L3.aV,L3.gq,L3.bw,L3.jy,L3.jz,L3.br,L3.l0,List.set_cons_zero,List.set_cons_succ,List.set_nil,L3.mI,L3.h_,L3.l4,L3.a_,L3.ba,L3.cj,L3.cX,L3.fA,L3.Tg.put,L3.Tg.Bg,L3.nh,L3.jG,L3.fP,L3.l8,L3.j7,L3.dD,L3.bh,L3.bt,List.reduceReplicate,List.map_cons,List.map_nil,List.cons_append,List.nil_append,L3.dU,L3.jf,L3.xO,L3.A7,L3.aA,String.reduceEq,decide_true,decide_false,Bool.false_bne,Bool.true_bne,Bool.not_true,Bool.not_false,if_true,if_false,Bool.false_eq_true,reduceIte,ite_true,ite_false])
local macro_rules | `(tactic| walk_at "y")=>`(tactic| ((try walk_at "x"); (try walk_at "w")))
namespace C
open PySem L2 L3 Wd
noncomputable def Bd.Bf:Bd->Nat
 | .Bh a b=>a.Bf * b.Bf
 | .BG a b=>a.Bf+b.Bf
 | .BB _ _ a b=>a.Bf+b.Bf
 |_=>1
noncomputable def Bd.Bi:Bd->Nat
 | .BC a=>a.Bf+a.Bi
 | .Bh a b=>a.Bi+b.Bi
 | .BG a b=>a.Bi+b.Bi
 | .BB _ _ a b=>a.Bi+b.Bi
 |_=>0
theorem Bd.BS:∀t:Bd,t.Bf<=2 ^ t.size
 | .rest=>by simp[Bd.Bf,Bd.size]
 | .pay _ _=>by simp[Bd.Bf,Bd.size]
 | .put _ _=>by simp[Bd.Bf,Bd.size]
 | .use _=>by simp[Bd.Bf,Bd.size]
 | .BC a=>by simp only[Bd.Bf,Bd.size];exact Nat.one_le_two_pow
 | .Bh a b=>by
  simp only[Bd.Bf,Bd.size]
  refine Nat.le_trans (Nat.mul_le_mul a.BS b.BS) ?_
  rw[<-Nat.pow_add]
  exact Nat.pow_le_pow_right (by decide) (by omega)
 | .BG a b=>by
  simp only[Bd.Bf,Bd.size]
  have h1:2 ^ a.size<=2 ^ (a.size+b.size):=Nat.pow_le_pow_right (by decide) (by omega)
  have h2:2 ^ b.size<=2 ^ (a.size+b.size):=Nat.pow_le_pow_right (by decide) (by omega)
  have:=a.BS
  have:=b.BS
  rw[Nat.pow_succ]
  omega
 | .BB _ _ a b=>by
  simp only[Bd.Bf,Bd.size]
  have h1:2 ^ a.size<=2 ^ (a.size+b.size):=Nat.pow_le_pow_right (by decide) (by omega)
  have h2:2 ^ b.size<=2 ^ (a.size+b.size):=Nat.pow_le_pow_right (by decide) (by omega)
  have:=a.BS
  have:=b.BS
  rw[Nat.pow_succ]
  omega
def Bd.Eo{t:Bd}(h:t.size<=60):(t.Bf:Int) < 2 ^ 64:=by
 have h1:=t.BS
 have h2:2 ^ t.size<=2 ^ 60:=Nat.pow_le_pow_right (by decide) h
 omega
abbrev b8(n:Nat)(w:aF):Prop:=∀{S:av} {t:Bd} {Q:ce} {E:cW},t.dep<=n->t.size<=60->Q (.int t.Bf) S->w [t.pv] S Q E
def p7{s0:aF}(n:Nat)(ih:b8 n s0):b8 (n+1) (Bs 1 (bS s0)):=by
 intro S t Q E hd hs k
 unfold bS
 refine im ?_
 rw[show aC 1 [t.pv]=[some t.pv] from rfl]
 cases t with
 |Bh a b=>
  simp only[Bd.dep,Bd.size]at hd hs
  simp only[Bd.pv]
  walk_at "w"
  refine ih (by omega) (by omega) (ih (by omega) (by omega) ⟨xk (by omega) (Bd.Eo (by omega)),?_⟩)
  simpa [Bd.Bf]using k
 |BG a b=>
  simp only[Bd.dep,Bd.size]at hd hs
  simp only[Bd.pv]
  walk_at "w"
  refine ih (by omega) (by omega) (ih (by omega) (by omega) ?_)
  simpa [Bd.Bf]using k
 |BB z m a b=>
  simp only[Bd.dep,Bd.size]at hd hs
  simp only[Bd.pv]
  walk_at "w"
  refine ih (by omega) (by omega) (ih (by omega) (by omega) ?_)
  simpa [Bd.Bf]using k
 |_=>
  simp only[Bd.pv]
  walk_at "w"
  exact k
abbrev dX(n:Nat)(w:aF):Prop:=∀{S:av} {t:Bd} {Q:ce} {E:cW},t.dep<=n->t.size<=60->Q (.int t.Bi) S->w [t.pv] S Q E
def fc:∀y∈(["then","either","take"]:Vs),PyData.strOk y=true:=by decide +kernel
def gF:∀y∈(["rest","pay","put","use","often","then","either","take"]:Vs),PyData.strOk y=true:=by decide +kernel
def p8{x0 s0:aF}(n m:Nat)(hp:b8 m x0)(ih:dX n s0)(hnm:n<=m):dX (n+1) (Bs 1 (bK x0 s0)):=by
 intro S t Q E hd hs k
 unfold bK
 refine im ?_
 rw[show aC 1 [t.pv]=[some t.pv] from rfl]
 have e3:[PV.str "then",PV.str "either",PV.str "take"]=(["then","either","take"]:Vs).map PV.str:=rfl
 cases t with
 |BC a=>
  simp only[Bd.dep,Bd.size]at hd hs
  simp only[Bd.pv]
  walk_at "y"
  refine hp (by omega) (by omega) (ih (by omega) (by omega) ?_)
  simpa [Bd.Bi]using k
 |Bh a b=>
  simp only[Bd.dep,Bd.size]at hd hs
  simp only[Bd.pv]
  walk_at "y"
  rw[e3]
  refine bT (gF _ (by simp)) fc ?_
  simp[aA]
  refine ih (by omega) (by omega) (ih (by omega) (by omega) ?_)
  simpa [Bd.Bi]using k
 |BG a b=>
  simp only[Bd.dep,Bd.size]at hd hs
  simp only[Bd.pv]
  walk_at "y"
  rw[e3]
  refine bT (gF _ (by simp)) fc ?_
  simp[aA]
  refine ih (by omega) (by omega) (ih (by omega) (by omega) ?_)
  simpa [Bd.Bi]using k
 |BB z m a b=>
  simp only[Bd.dep,Bd.size]at hd hs
  simp only[Bd.pv]
  walk_at "y"
  rw[e3]
  refine bT (gF _ (by simp)) fc ?_
  simp[aA]
  refine ih (by omega) (by omega) (ih (by omega) (by omega) ?_)
  simpa [Bd.Bi]using k
 |_=>
  simp only[Bd.pv]
  walk_at "y"
  rw[e3]
  refine bT (gF _ (by simp)) fc ?_
  simp[aA]
  simpa [Bd.Bi]using k
abbrev dY(w:aF):Prop:=∀{S:av} {d l:Addr} {js:Vs} {size bound:Int} {Q:ce} {E:cW},Bo S d l->js.length < 2 ^ 61->1<=size->size<=60->
  (∀(t:Bd) S',t.good js []->t.dep<=6->t.size<=60->(t.size:Int)<=max size 4->((t.Bf:Int)+t.Bi<=bound\/(t.Bf:Int)+t.Bi<=2)->Bo S' d l->Ca d l S S'->Q t.pv S')->w [.ref d,.tup (js.map PV.str),.int size,.int bound] S Q E
def lw{x0 x1 x2 x3:aF}(n:Nat)(hn:6<=n)(C5:e_ n x0)(F5:b8 n x1)(F6:dX n x2)(BX:gE x3):dY (Bs 5 (b6 x0 x1 x2 x3)):=by
 intro S d l js size bound Q E D hj h1 h2 k
 unfold b6
 refine im ?_
 rw[show aC 5 [PV.ref d,PV.tup (js.map PV.str),PV.int size,PV.int bound]=[some (.ref d),some (.tup (js.map PV.str)),some (.int size),some (.int bound),none] from rfl]
 refine al fun N hN=>?_
 walk_at "x"
 intro p hp
 have dp:=D.free hp
 refine C5 (D.new hp) aa dp.1 dp.2 hj (by omega) (by omega) (by decide) (by omega) fun t S1 l1 hg hd q0 q1 D1 F4 O1=>?_
 have Ij:Ca d l S S1:=fun a o ha h1 h2=>O1 a o (by rw[aj (fun e=>by rw[e,hp]at ha;cases ha)];exact ha) h1 h2 (fun e=>by rw[e,hp]at ha;cases ha)
 refine hN _ _ (al fun N hN=>?_)
 simp only[bq,aI,ah,ae,ao,v3,lk,List.set_cons_zero,List.set_cons_succ,jX,aV,bP]
 refine F5 (by omega) (by omega) (F6 (by omega) (by omega) ?_)
 simp only[decide_eq_true_eq]
 split
 ·walk_at "x"
  refine BX D1 hj fun t2 S2 hl2 El D2 O2=>BX D2 hj fun t3 S3 hl3 Jq D3 O3=>?_
  refine hN _ _ ?_
  walk_at "x"
  have e2:=Bd.BD hl2
  have e3:=Bd.BD hl3
  refine k (.Bh (.BC t2) t3) S3 ⟨El,Jq⟩ (by simp only[Bd.dep];omega) (by simp only[Bd.size];omega) (by simp only[Bd.size];omega) (.inr ?_) D3 (Ij.trans (O2.trans O3))
  have c2:t2.Bf=1/\t2.Bi=0:=by cases t2<;>first|exact⟨rfl,rfl⟩|exact hl2.elim
  have c3:t3.Bf=1/\t3.Bi=0:=by cases t3<;>first|exact⟨rfl,rfl⟩|exact hl3.elim
  simp only[Bd.Bf,Bd.Bi,c2,c3]
  decide
 ·rename_i hb
  walk_at "x"
  refine hN _ _ ?_
  walk_at "x"
  exact k t S1 hg (by omega) (by omega) (by omega) (.inl (by omega)) D1 Ij
noncomputable def fJ(p:Str×Bd):PV:=.tup [.str p.1,p.2.pv]
noncomputable def BZ(js:Vs)(ds:List (Str×Bd)):PV:=.tup [.tup (js.map PV.str),.tup (ds.map fJ)]
structure zh (js:Vs) (us:Vs) (ds:List (Str×Bd)):Prop where
 jl:js.length<=16
 dl:ds.length<=16
 jw:∀z∈js,IsW z
 uw:∀z∈us,IsW z
 dw:∀p∈ds,IsW p.1
 gd:∀p∈ds,p.2.good js us
 dp:∀p∈ds,p.2.dep<=60
 sz:∀p∈ds,p.2.size<=60
def _root_.L3.Ext.put{p:Addr}{S S':av}{o:SO}(O:Ext S S')(h:S p=none):Ext S (Bc S' p o):=fun x u hx=>by rw[aj (fun e=>by rw[e,h]at hx;cases hx)];exact O x u hx
def jP{α:Type}{xs:List α}{n:Nat}(h:n<=xs.length):B7 xs none (some (n:Int))=xs.take n:=by
 unfold B7
 rw[HT.ji,HT.n6,List.drop_zero,Nat.min_eq_left h]
 rfl
def xu{α:Type}{xs:List α}{n:Nat}(h:n<=xs.length):B7 xs (some (n:Int)) none=xs.drop n:=by
 unfold B7
 rw[HT.ji,HT.n6,Nat.min_eq_left h,List.take_of_length_le]
 rw[List.length_drop]
 exact Nat.le_refl _
def oH{x:PV}{n:Nat}{a b:List PV}(e:bz 0 n=a++x::b):x = .int a.length/\a.length < n:=by
 have h1:(bz 0 n)[a.length]?=some x:=by rw[e];simp
 unfold bz at h1
 rw[List.getElem?_map]at h1
 have hl:a.length < n:=by
  have:=congrArg List.length e
  rw[cP,List.length_append,List.length_cons]at this
  omega
 rw[List.getElem?_range hl]at h1
 simp at h1
 exact⟨h1.symm,hl⟩
def jQ{α:Type}{xs:List α}{n:Nat}{v:α}(h:xs[n]?=some v):Ck xs (n:Int)=some v:=b_ h
noncomputable def Bd.sides:Bd->List Bd
 | .BC a=>[a]
 | .Bh a b=>[a,b]
 | .BG a b=>[a,b]
 | .BB _ _ a b=>[a,b]
 |_=>[]
noncomputable def Bd.parts:Bd->List Bd
 | .BC a=>.BC a::a.parts
 | .Bh a b=>.Bh a b::(a.parts++b.parts)
 | .BG a b=>.BG a b::(a.parts++b.parts)
 | .BB z m a b=>.BB z m a b::(a.parts++b.parts)
 |t=>[t]
def Bd.DS(t:Bd):t.parts=t::t.sides.flatMap Bd.parts:=by cases t<;>simp[Bd.parts,Bd.sides]
theorem Bd.Bv:∀t:Bd,t.parts.length=t.size
 | .rest=>rfl
 | .pay _ _=>rfl
 | .put _ _=>rfl
 | .use _=>rfl
 | .BC a=>by simp only[Bd.parts,Bd.size,List.length_cons,a.Bv]
 | .Bh a b=>by simp only[Bd.parts,Bd.size,List.length_cons,List.length_append,a.Bv,b.Bv]
 | .BG a b=>by simp only[Bd.parts,Bd.size,List.length_cons,List.length_append,a.Bv,b.Bv]
 | .BB _ _ a b=>by simp only[Bd.parts,Bd.size,List.length_cons,List.length_append,a.Bv,b.Bv]
def Bd.DT{t u:Bd}(h:u∈t.sides):u.dep < t.dep/\u.size < t.size:=by
 cases t<;>simp[Bd.sides]at h
 ·subst h;simp[Bd.dep,Bd.size]
 all_goals (rcases h with rfl|rfl<;>simp only[Bd.dep,Bd.size]<;>omega)
abbrev fu(w:aF):Prop:=∀{S:av} {t:Bd} {Q:ce} {E:cW},Q (.tup (t.sides.map Bd.pv)) S->w [t.pv] S Q E
def CM:fu (Bs 1 fR):=by
 intro S t Q E k
 unfold fR
 refine im ?_
 rw[show aC 1 [t.pv]=[some t.pv] from rfl]
 cases t<;>(unfold Bd.pv;walk_at "y"; simp only[oz,ah,v3,lk,c3,ag,dU,hV,am,ao,bw,k_SIDES_FROM,List.find?,sS,String.reduceEq,decide_true,decide_false,Option.map,Option.getD];exact k)
abbrev df(n:Nat)(w:aF):Prop:=∀{S:av} {t:Bd} {Q:ce} {E:cW},t.dep<=n->t.size<=900->(∀p S',S p=none->Ext S S'->S' p=some (.lst (t.parts.map Bd.pv))->Q (.ref p) S')->w [t.pv] S Q E
def Dr{xs s0:aF}(CM:fu xs)(n:Nat)(ih:df n s0):df (n+1) (Bs 3 (fS xs s0)):=by
 intro S t Q E hd hs k
 unfold fS
 refine im ?_
 rw[show aC 3 [t.pv]=[some t.pv,none,none] from rfl]
 refine al fun N hN=>?_
 walk_at "x"
 intro p hp
 have X0:Ext S (Bc S p (.lst [t.pv])):=.new hp
 have hp0:(Bc S p (.lst [t.pv])) p=some (.lst [t.pv]):=aa
 generalize Bc S p (.lst [t.pv])=S0 at X0 hp0
 refine hN _ _ (al fun N hN=>?_)
 simp only[cX,ba,ae,ao,v3,lk]
 refine CM ?_
 simp only[cj]
 refine cf (fun done σ S'=>∃(ts:List Bd) (x:Option PV) (rs:List Bd),done=ts.map Bd.pv/\t.sides=ts++rs/\σ=[some t.pv,some (.ref p),x]/\Ext S S'/\S' p=some (.lst ((t::ts.flatMap Bd.parts).map Bd.pv))) ⟨[],_,t.sides,rfl,rfl,rfl,X0,hp0⟩ (fun _ _ _ _=>trivial) ?_ ?_
 ·rintro done x rest σ S1 K e ⟨ts,y,rs,rfl,es,rfl,X1,h1⟩ hK
  rw[es,List.map_append]at e
  have e2:=List.append_cancel_left e
  rcases rs with _|⟨r,rs⟩
  ·cases e2
  rw[List.map_cons,List.cons.injEq]at e2
  obtain⟨rfl,e3⟩:=e2
  have hr:r∈t.sides:=by rw[es];simp
  have hrd:=Bd.DT hr
  walk_at "x"
  refine⟨by rw[h1];trivial,ih (t:=r) (by omega) (by omega) fun q S2 hq X2 h2=>?_⟩
  simp only[X2 _ _ h1,h2]
  have hlen:(t::ts.flatMap Bd.parts).length+r.parts.length<=t.size:=by
   rw[<-Bd.Bv t,Bd.DS t,es,List.flatMap_append,List.flatMap_cons]
   simp only[List.length_cons,List.length_append]
   omega
  refine⟨cC (by simp only[List.length_map]at *;omega),?_⟩
  refine hK _ _ ⟨ts++[r],_,rs,by simp,by rw[es];simp,rfl,(X1.trans X2).put hp,?_⟩
  rw[aa,List.flatMap_append]
  simp
 ·rintro σ S1 ⟨ts,y,rs,e,es,rfl,X1,h1⟩
  refine hN _ _ ?_
  walk_at "x"
  have ez:rs=[]:=by
   have:=congrArg List.length e
   rw[es]at this
   simp at this
   exact this
  subst ez
  rw[List.append_nil]at es
  rw[<-es,<-Bd.DS]at h1
  exact k p S1 hp X1 h1
noncomputable def heads:List Str:=["rest","pay","put","use","often","then","either","take"]
def p_:∀z∈heads,PyData.strOk z=true:=by decide +kernel
structure CT (n:Nat) (js us:Vs) (ds:List (Str×Bd)):Prop extends zh js us ds where
 jn:js.Nodup
 dn:(ds.map Prod.fst).Nodup
 dq:∀p∈ds,p.2.dep<=n
def fe{xs:List PV}{x:PV}{a b:List PV}(e:L3.aR xs=a++x::b):∃y,x = .tup [.int a.length,y]/\xs[a.length]?=some y:=by
 have h1:(L3.aR xs)[a.length]?=some x:=by rw[e];simp
 unfold L3.aR at h1
 rw[List.getElem?_mapIdx]at h1
 cases h:xs[a.length]? with
 |none=>rw[h]at h1;cases h1
 |some y=>
  rw[h]at h1
  simp only[Option.map_some,Option.some.injEq]at h1
  exact⟨y,h1.symm,rfl⟩
noncomputable def bj:Bd->PV->Bool
 | .BC a,.tup gs=>gs.all fun g=>match g with | .tup [.int m,tr]=>decide (1<=m)&&bj a tr|_=>false
 | .Bh a b,.tup [x,y]=>bj a x&&bj b y
 | .BG a b,.tup [.int i,y]=>if i=0 then bj a y else if i=1 then bj b y else false
 | .BB _ _ a b,.tup [.int i,y]=>if i=0 then bj a y else if i=1 then bj b y else false
 | .rest,.tup []=>true
 | .pay _ _,.tup []=>true
 | .put _ _,.tup []=>true
 | .use _,.tup []=>true
 |_,_=>false
noncomputable def nG(a:Bd):PV->Bool
 | .tup [.int m,tr]=>decide (1<=m)&&bj a tr
 |_=>false
def gG(a b:Bd)(x y:PV):bj (.Bh a b) (.tup [x,y])=(bj a x&&bj b y):=rfl
def gH(a b:Bd)(i:Int)(y:PV):bj (.BG a b) (.tup [.int i,y])=if i=0 then bj a y else if i=1 then bj b y else false:=rfl
def gJ(z:Str)(m:Int)(a b:Bd)(i:Int)(y:PV):bj (.BB z m a b) (.tup [.int i,y])=if i=0 then bj a y else if i=1 then bj b y else false:=rfl
def jR(a:Bd)(gs:List PV):bj (.BC a) (.tup gs)=gs.all (nG a):=rfl
section
variable {S:av} {Q:ce} {i:Int} {xs:List PV} {b:Bool}
def xv:fO [.int i,.ty "int"] S Q=Q (.bl true) S:=by simp[fO,qk,j6,cN]
def xx:fO [.int i,.ty "bool"] S Q=Q (.bl false) S:=by simp[fO,qk,j6,cN]
def nH:fO [.tup xs,.ty "tuple"] S Q=Q (.bl true) S:=by simp[fO,qk,j6,cN]
end
def nI{xs:List PV}(h:xs.length=2):∃x y,xs=[x,y]:=by
 match xs,h with
 |[x,y],_=>exact⟨x,y,rfl⟩
def lx{a b:Bd}{xs:List PV}(h:xs.length≠2):bj (.Bh a b) (.tup xs)=false:=by
 match xs,h with
 |[],_=>rfl
 |[_],_=>rfl
 |[_,_],h=>exact absurd rfl h
 |_::_::_::_,_=>rfl
def ly{a b:Bd}{xs:List PV}(h:xs.length≠2):bj (.BG a b) (.tup xs)=false:=by
 match xs,h with
 |[],_=>rfl
 |[x],_=>cases x<;>rfl
 |[_,_],h=>exact absurd rfl h
 |x::_::_::_,_=>cases x<;>rfl
def lz{z:Str}{m:Int}{a b:Bd}{xs:List PV}(h:xs.length≠2):bj (.BB z m a b) (.tup xs)=false:=by
 match xs,h with
 |[],_=>rfl
 |[x],_=>cases x<;>rfl
 |[_,_],h=>exact absurd rfl h
 |x::_::_::_,_=>cases x<;>rfl
def gK(t:Bd)(z:Str):bj t (.str z)=false:=by cases t<;>rfl
def gL(t:Bd)(i:Int):bj t (.int i)=false:=by cases t<;>rfl
noncomputable def Bd.plain:Bd->Bool
 | .rest=>true
 | .pay _ _=>true
 | .put _ _=>true
 | .use _=>true
 |_=>false
def nJ{t:Bd}(h:t.plain=true)(xs:List PV):bj t (.tup xs)=decide (xs=[]):=by
 cases t<;>simp[Bd.plain]at h<;>(cases xs with
  |nil=>show true=_;simp
  |cons=>show false=_;simp)
noncomputable def Bd.hd:Bd->Str
 | .rest=>"rest" | .pay _ _=>"pay" | .put _ _=>"put" | .use _=>"use" | .BC _=>"often" | .Bh _ _=>"then" | .BG _ _=>"either" | .BB _ _ _ _=>"take"
noncomputable def Bd.tl:Bd->List PV
 | .rest=>[] | .pay x y=>[.tup [.int x,.int y]] | .put z m=>[.str z,.int m] | .use z=>[.str z] | .BC a=>[a.pv] | .Bh a b=>[a.pv,b.pv] | .BG a b=>[a.pv,b.pv] | .BB z m a b=>[.str z,.int m,a.pv,b.pv]
def Bd.Ds(t:Bd):t.pv = .tup (.str t.hd::t.tl):=by cases t<;>rfl
def Bd.DU(t:Bd):PyData.strOk t.hd=true:=by cases t<;>exact p_ _ (by simp[heads,Bd.hd])
def Bd.Fy(t:Bd):t.hd=("then":Str)↔∃a b,t = .Bh a b:=by cases t<;>simp[Bd.hd,aA]
def Bd.EC(t:Bd):t.hd=("often":Str)↔∃a,t = .BC a:=by cases t<;>simp[Bd.hd,aA]
def lA:([PV.str "then",PV.str "either",PV.str "take"]:List PV)=(["then","either","take"]:Vs).map PV.str:=rfl
def gM{a b:PV}{hd:List PV}{i:Int}(hi:i=0\/i=1):Ck (hd++[a,b]) (i - 2)=some (if i=0 then a else b):=by
 unfold Ck o3
 rcases hi with rfl|rfl
 ·rw[if_neg (by omega),if_pos (by simp;omega)]
  have:(0 - 2+((hd++[a,b]).length:Int)).toNat=hd.length:=by simp;omega
  rw[this,if_pos rfl]
  show(hd++[a,b])[hd.length]?=some a
  simp
 ·rw[if_neg (by omega),if_pos (by simp;omega)]
  have:(1 - 2+((hd++[a,b]).length:Int)).toNat=hd.length+1:=by simp;omega
  rw[this,if_neg (by decide)]
  show(hd++[a,b])[hd.length+1]?=some b
  simp
abbrev fY(w:aF):Prop:=∀{S:av} {d l:Addr} {most many size:Nat} {Q:ce} {E:cW},Bo S d l->most<=8->1<=many->many<=4->1<=size->size<=60->
  (∀js ds S',CT 6 js [] ds->1<=ds.length->ds.length<=many->js.length<=8->Bo S' d l->Ca d l S S'->Q (BZ js ds) S')->w [.ref d,.int most,.int many,.int size] S Q E
def qc{xw xd xb:aF}(Cb:dF xw)(Be:bB xd)(F7:dY xb):fY (Bs 9 (dO xw xd xb)):=by
 intro S0 d l most many size Q E D0 hmo hm1 hm4 hs1 hs2 k
 unfold dO
 refine im ?_
 rw[show aC 9 [PV.ref d,PV.int most,PV.int many,PV.int size]=[some (.ref d),some (.int most),some (.int many),some (.int size),none,none,none,none,none] from rfl]
 refine al fun N hN=>?_
 walk_at "x"
 refine Cb D0 (by decide) (by decide) fun p ns S hl hnd hw0 _ DF hpl hp D O0=>?_
 have hl8':ns.length=8:=hl
 have Jr:8<=ns.length:=by omega
 have Ik:ns.length<=100:=by omega
 have hw:∀z∈ns,IsW z:=fun z hz=>(hw0 z hz).1
 refine hN _ _ ?_
 refine al fun N hN=>?_
 walk_at "x"
 refine Be (m:=most+1) D (by omega) (by omega) fun r S1 r0 r1 D1 O1=>?_
 obtain⟨j,rfl⟩:∃j:Nat,r=(j:Int):=⟨r.toNat,by omega⟩
 have hp1:=O1 _ _ hp DF hpl
 rw[hp1]
 dsimp only
 rw[jP (by rw[List.length_map];omega),<-List.map_take]
 intro p2 hp2
 rw[aa]
 dsimp only
 have D2:Bo (Bc S1 p2 (.lst ((ns.take j).map PV.str))) d l:=D1.new hp2
 have O2:Ca d l S (Bc S1 p2 (.lst ((ns.take j).map PV.str))):=O1.trans (.new hp2)
 have hp2':=Ca.new (o:=.lst ((ns.take j).map PV.str)) hp2 _ _ hp1 DF hpl
 generalize Bc S1 p2 (.lst ((ns.take j).map PV.str))=S2 at D2 O2 hp2'
 refine hN _ _ (al fun N hN=>?_)
 walk_at "x"
 intro p3 hp3
 have F8:=D2.free hp3
 refine Be (D2.new hp3) (by decide) (by decide) fun f S3 f0 f1 D3 O3=>?_
 have e3:=O3 _ _ (aa (S:=S2) (o:=.lst [.int 0,.int 4])) F8.1 F8.2
 have Fz:=O3 _ _ (Ca.new hp3 _ _ hp2' DF hpl) DF hpl
 have Js:Ca d l S S3:=O2.trans ((Ca.new hp3).trans O3)
 simp only[e3]
 obtain⟨v,hv,F9⟩:=dW (xs:=[PV.int 0,.int 4]) f0 (by simpa using f1)
 rw[hv]
 obtain⟨g,rfl,hg⟩:∃g:Nat,v = .int g/\g<=4:=by
  simp only[List.mem_cons,List.not_mem_nil,or_false]at F9
  rcases F9 with rfl|rfl
  ·exact⟨0,rfl,by omega⟩
  ·exact⟨4,rfl,by omega⟩
 refine hN _ _ (al fun N hN=>?_)
 walk_at "x"
 refine Be (m:=many) D3 (by omega) (by omega) fun r4 S4 a0 a1 D4 O4=>?_
 obtain⟨mm,em⟩:∃mm:Nat,1+r4=(mm:Int):=⟨(1+r4).toNat,by omega⟩
 dsimp only
 rw[em]
 have FN:=O4 _ _ Fz DF hpl
 refine hN _ _ (al fun N hN=>?_)
 walk_at "x"
 refine⟨by omega,by omega,?_⟩
 rw[Int.toNat_natCast]
 have hjl:(ns.take j).length<=8:=by rw[List.length_take];omega
 refine cm (fun done ys S'=>∃ds:List (Str×Bd),ys=ds.map fJ/\ds.length=done.length/\ds.map Prod.fst=(ns.drop g).take done.length/\done.length<=mm/\(∀q∈ds,q.2.good (ns.take j) []/\q.2.dep<=6/\q.2.size<=60)/\Bo S' d l/\Ca d l S4 S') ⟨[],rfl,rfl,rfl,Nat.zero_le _,by simp,D4,.refl⟩ ?_ ?_ ?_
 ·rintro done ys S' ⟨ds,rfl,e,_,hd,_⟩
  exact⟨trivial,cC (by rw[List.length_map,e];omega)⟩
 ·rintro done x rest ys S' K e ⟨ds,rfl,e2,e3,hd,hc,D',O'⟩ hK
  obtain⟨rfl,hi⟩:=oH e
  walk_at "x"
  try simp only[cL,if_true]
  have hp':=O' _ _ FN DF hpl
  simp only[hp']
  have hlt:g+done.length < ns.length:=by omega
  have hat:Ck (ns.map PV.str) ((g:Int)+(done.length:Int))=some (.str ns[g+done.length]):=by
   have:((g:Int)+(done.length:Int))=((g+done.length:Nat):Int):=by omega
   rw[this]
   exact jQ (by rw[List.getElem?_map,List.getElem?_eq_getElem hlt];rfl)
  rw[hat]
  dsimp only
  refine⟨zf (by omega) (by omega),F7 D' (by omega) (by omega) (by omega) fun t S5 tg td tz tz2 _ D5 Hl=>?_⟩
  refine hK _ _ ⟨ds++[(ns[g+done.length],t)],by simp[fJ],by simp[e2],?_,by rw[List.length_append];exact hi,fun y hy=>?_,D5,O'.trans Hl⟩
  ·rw[List.map_append,e3,List.length_append,List.length_singleton,List.take_succ,List.getElem?_drop,List.getElem?_eq_getElem hlt]
   rfl
  ·rcases List.mem_append.mp hy with hy|hy
   ·exact hc y hy
   ·rw[List.mem_singleton.mp hy];exact⟨tg,td,tz⟩
 rintro ys S5 ⟨ds,rfl,e,ef,_,hds,D5,O5⟩
 rw[cP]at e ef
 intro p6 Hm
 refine hN _ _ ?_
 walk_at "x"
 rw[aa]
 dsimp only
 have sub:∀q∈ds,q.1∈ns:=fun q hq=>by
  have:q.1∈ds.map Prod.fst:=List.mem_map.mpr ⟨q,hq,rfl⟩
  rw[ef]at this
  exact List.mem_of_mem_drop (List.mem_of_mem_take this)
 refine k (ns.take j) ds _ ⟨⟨by omega,by omega,fun z hz=>hw z (List.mem_of_mem_take hz),by simp,fun q hq=>hw _ (sub q hq),fun q hq=>(hds q hq).1,fun q hq=>by have:=(hds q hq).2.1;omega,fun q hq=>(hds q hq).2.2⟩,hnd.sublist (List.take_sublist _ _),by rw[ef];exact hnd.sublist ((List.take_sublist _ _).trans (List.drop_sublist _ _)),fun q hq=>(hds q hq).2.1⟩ (by omega) (by omega) hjl (D5.new Hm) (O0.trans (Js.trans (O4.trans (O5.trans (.new Hm)))))
noncomputable def Bd.ptrace:Bd->PV
 | .Bh a b=>.tup [a.ptrace,b.ptrace]
 | .BG a _=>.tup [.int 0,a.ptrace]
 | .BB _ _ _ b=>.tup [.int 1,b.ptrace]
 |_=>.tup []
abbrev fw(n:Nat)(w:aF):Prop:=∀{S:av} {t:Bd} {Q:ce} {E:cW},t.dep<=n->Q t.ptrace S->w [t.pv] S Q E
def sk{s0:aF}(n:Nat)(ih:fw n s0):fw (n+1) (Bs 1 (di s0)):=by
 intro S t Q E hd k
 unfold di
 refine im ?_
 rw[show aC 1 [t.pv]=[some t.pv] from rfl]
 cases t with
 |Bh a b=>
  simp only[Bd.dep]at hd
  rw[show(Bd.Bh a b).pv = .tup [.str "then",a.pv,b.pv] from rfl]
  walk_at "y"
  refine ih (by omega) ?_
  exact ih (by omega) k
 |BG a b=>
  simp only[Bd.dep]at hd
  rw[show(Bd.BG a b).pv = .tup [.str "either",a.pv,b.pv] from rfl]
  walk_at "y"
  exact ih (by omega) k
 |BB z m a b=>
  simp only[Bd.dep]at hd
  rw[show(Bd.BB z m a b).pv = .tup [.str "take",.str z,.int m,a.pv,b.pv] from rfl]
  walk_at "y"
  exact ih (by omega) k
 |BC a=>
  rw[show(Bd.BC a).pv = .tup [.str "often",a.pv] from rfl]
  walk_at "y"
  exact k
 |rest=>
  rw[show(Bd.rest).pv = .tup [.str "rest"] from rfl]
  walk_at "y"
  exact k
 |pay x y=>
  rw[show(Bd.pay x y).pv = .tup [.str "pay",.tup [.int x,.int y]] from rfl]
  walk_at "y"
  exact k
 |put z m=>
  rw[show(Bd.put z m).pv = .tup [.str "put",.str z,.int m] from rfl]
  walk_at "y"
  exact k
 |use z=>
  rw[show(Bd.use z).pv = .tup [.str "use",.str z] from rfl]
  walk_at "y"
  exact k
abbrev ip(n:Nat)(w:aF):Prop:=∀{S:av} {t:Bd} {Q:ce} {E:cW},t.dep<=n->t.size<=900->(∀S',Ext S S'->Q (.int t.size) S')->w [t.pv] S Q E
def qd{xp:aF}(n:Nat)(Dr:df n xp):ip n (Bs 1 (lm xp)):=by
 intro S t Q E hd hs k
 unfold lm
 refine im ?_
 rw[show aC 1 [t.pv]=[some t.pv] from rfl]
 walk_at "x"
 refine Dr hd hs fun p S1 hp X1 h1=>?_
 simp only[h1,List.length_map,t.Bv]
 exact k S1 X1
noncomputable def Bd.led:Bd->Nat->PV->PV
 |_,0,v=>v
 | .BC a,p+1,v=>.tup [.tup [.int 1,a.led p v]]
 | .Bh a b,p+1,v=>if p < a.size then .tup [a.led p v,b.ptrace] else .tup [a.ptrace,b.led (p - a.size) v]
 | .BG a b,p+1,v=>if p < a.size then .tup [.int 0,a.led p v] else .tup [.int 1,b.led (p - a.size) v]
 | .BB _ _ a b,p+1,v=>if p < a.size then .tup [.int 0,a.led p v] else .tup [.int 1,b.led (p - a.size) v]
 |_,_+1,v=>v
abbrev gN(n:Nat)(w:aF):Prop:=∀{S:av} {t:Bd} {p:Nat} {v:PV} {Q:ce} {E:cW},t.dep<=n->t.size<=900->p < t.size->(∀S',Ext S S'->Q (t.led p v) S')->w [t.pv,.int p,v] S Q E
def uK{xp xt s0:aF}(n m:Nat)(hm:n<=m)(FA:ip m xp)(Fb:fw m xt)(ih:gN n s0):gN (n+1) (Bs 8 (dj xp xt s0)):=by
 intro S t p v Q E hd hs hp k
 unfold dj
 refine im ?_
 rw[show aC 8 [t.pv,PV.int p,v]=[some t.pv,some (.int p),some v,none,none,none,none,none] from rfl]
 refine al fun N hN=>?_
 walk_at "x"
 simp only[Bool.false_bne,decide_eq_true_eq]
 cases p with
 |zero=>
  rw[if_pos (show((0:Nat):Int)=0 from rfl)]
  have:=k S .refl
  cases t<;>exact this
 |succ p=>
  rw[if_neg (by omega)]
  refine hN _ _ (al fun N hN=>?_)
  have ep:(((p+1:Nat):Int) - 1)=(p:Int):=by omega
  cases t with
  |BC a=>
   simp only[Bd.size]at hs hp
   simp only[Bd.dep]at hd
   rw[show(Bd.BC a).pv = .tup [.str "often",a.pv] from rfl]
   walk_at "y"
   rw[ep]
   exact ih (by omega) (by omega) (by omega) k
  |rest=>simp only[Bd.size]at hp;omega
  |pay=>simp only[Bd.size]at hp;omega
  |put=>simp only[Bd.size]at hp;omega
  |use=>simp only[Bd.size]at hp;omega
  |Bh a b=>
   simp only[Bd.size]at hs hp
   simp only[Bd.dep]at hd
   rw[show(Bd.Bh a b).pv = .tup [.str "then",a.pv,b.pv] from rfl]
   walk_at "y"
   refine hN _ _ (al fun N hN=>?_)
   walk_at "y"
   refine hN _ _ (al fun N hN=>?_)
   walk_at "y"
   refine hN _ _ (al fun N hN=>?_)
   walk_at "y"
   refine FA (by omega) (by omega) fun S1 X1=>?_
   refine hN _ _ (al fun N hN=>?_)
   walk_at "x"
   by_cases hl:p < a.size
   ·have e1:decide (((p+1:Nat):Int) < 1+(a.size:Int))=true:=decide_eq_true (by omega)
    rw[e1]
    simp only[if_true]
    refine hN _ _ (al fun N hN=>?_)
    walk_at "y"
    rw[ep]
    refine ih (by omega) (by omega) hl fun S2 X2=>?_
    refine hN _ _ (al fun N hN=>?_)
    walk_at "y"
    refine hN _ _ (al fun N hN=>?_)
    walk_at "y"
    refine Fb (by omega) ?_
    have:=k S2 (X1.trans X2)
    simp only[Bd.led,if_pos hl]at this
    exact this
   ·have e1:decide (((p+1:Nat):Int) < 1+(a.size:Int))=false:=decide_eq_false (by omega)
    rw[e1]
    simp only[Bool.false_eq_true,if_false]
    refine hN _ _ (al fun N hN=>?_)
    have e2:(((p+1:Nat):Int) - (1+(a.size:Int)))=((p - a.size:Nat):Int):=by omega
    have e4:decide ((1:Int)=0)=false:=by decide
    walk_at "y"
    simp only[e4,Bool.false_eq_true,if_false]
    rw[e2]
    refine ih (by omega) (by omega) (by omega) fun S2 X2=>?_
    refine hN _ _ (al fun N hN=>?_)
    walk_at "y"
    refine hN _ _ (al fun N hN=>?_)
    walk_at "y"
    simp only[e4,Bool.false_eq_true,if_false]
    refine hN _ _ ?_
    walk_at "y"
    refine Fb (by omega) ?_
    have:=k S2 (X1.trans X2)
    simp only[Bd.led,if_neg hl]at this
    exact this
  |BG a b=>
   simp only[Bd.size]at hs hp
   simp only[Bd.dep]at hd
   rw[show(Bd.BG a b).pv = .tup [.str "either",a.pv,b.pv] from rfl]
   walk_at "y"
   refine hN _ _ (al fun N hN=>?_)
   walk_at "y"
   refine hN _ _ (al fun N hN=>?_)
   walk_at "y"
   refine hN _ _ (al fun N hN=>?_)
   walk_at "y"
   refine FA (by omega) (by omega) fun S1 X1=>?_
   refine hN _ _ (al fun N hN=>?_)
   walk_at "x"
   by_cases hl:p < a.size
   ·have e1:decide (((p+1:Nat):Int) < 1+(a.size:Int))=true:=decide_eq_true (by omega)
    rw[e1]
    simp only[if_true]
    refine hN _ _ (al fun N hN=>?_)
    walk_at "y"
    rw[ep]
    refine ih (by omega) (by omega) hl fun S2 X2=>?_
    refine hN _ _ (al fun N hN=>?_)
    walk_at "y"
    have:=k S2 (X1.trans X2)
    simp only[Bd.led,if_pos hl]at this
    exact this
   ·have e1:decide (((p+1:Nat):Int) < 1+(a.size:Int))=false:=decide_eq_false (by omega)
    rw[e1]
    simp only[Bool.false_eq_true,if_false]
    refine hN _ _ (al fun N hN=>?_)
    have e2:(((p+1:Nat):Int) - (1+(a.size:Int)))=((p - a.size:Nat):Int):=by omega
    have e4:decide ((1:Int)=0)=false:=by decide
    walk_at "y"
    simp only[e4,Bool.false_eq_true,if_false]
    rw[e2]
    refine ih (by omega) (by omega) (by omega) fun S2 X2=>?_
    refine hN _ _ (al fun N hN=>?_)
    walk_at "y"
    have:=k S2 (X1.trans X2)
    simp only[Bd.led,if_neg hl]at this
    exact this
  |BB z q a b=>
   simp only[Bd.size]at hs hp
   simp only[Bd.dep]at hd
   rw[show(Bd.BB z q a b).pv = .tup [.str "take",.str z,.int q,a.pv,b.pv] from rfl]
   walk_at "y"
   refine hN _ _ (al fun N hN=>?_)
   walk_at "y"
   refine hN _ _ (al fun N hN=>?_)
   walk_at "y"
   refine hN _ _ (al fun N hN=>?_)
   walk_at "y"
   refine FA (by omega) (by omega) fun S1 X1=>?_
   refine hN _ _ (al fun N hN=>?_)
   walk_at "x"
   by_cases hl:p < a.size
   ·have e1:decide (((p+1:Nat):Int) < 1+(a.size:Int))=true:=decide_eq_true (by omega)
    rw[e1]
    simp only[if_true]
    refine hN _ _ (al fun N hN=>?_)
    walk_at "y"
    rw[ep]
    refine ih (by omega) (by omega) hl fun S2 X2=>?_
    refine hN _ _ (al fun N hN=>?_)
    walk_at "y"
    have:=k S2 (X1.trans X2)
    simp only[Bd.led,if_pos hl]at this
    exact this
   ·have e1:decide (((p+1:Nat):Int) < 1+(a.size:Int))=false:=decide_eq_false (by omega)
    rw[e1]
    simp only[Bool.false_eq_true,if_false]
    refine hN _ _ (al fun N hN=>?_)
    have e2:(((p+1:Nat):Int) - (1+(a.size:Int)))=((p - a.size:Nat):Int):=by omega
    have e4:decide ((1:Int)=0)=false:=by decide
    walk_at "y"
    simp only[e4,Bool.false_eq_true,if_false]
    rw[e2]
    refine ih (by omega) (by omega) (by omega) fun S2 X2=>?_
    refine hN _ _ (al fun N hN=>?_)
    walk_at "y"
    have:=k S2 (X1.trans X2)
    simp only[Bd.led,if_neg hl]at this
    exact this
theorem iq{α:Type}{g:Tg}{te:aN}{σ':b3}{keep:av->Prop}{fin:List PV->av->Prop}{S:av}(enc f:α->PV)(hk:keep S):∀(xs:List α) (ys:List PV),
  (∀x∈xs,∃σ2,g.put (enc x) σ'=some σ2/\∀Q:ce,Q (f x) S->te σ2 S Q eI)->ys.length+xs.length<=sizeLine->fin (ys++xs.map f) S->cY g cL te σ' keep fin (xs.map enc) ys S
 |[],ys,_,hl,hf=>⟨hk,by simpa using hl,by simpa using hf⟩
 |x::r,ys,h,hl,hf=>by
  obtain⟨σ2,e,h1⟩:=h x (by simp)
  refine⟨hk,by simp at hl;omega,?_⟩
  rw[e]
  show te σ2 S (fun y S4=>cY g cL te σ' keep fin (r.map enc) (ys++[y]) S4) eI
  exact h1 _ (iq enc f hk r (ys++[f x]) (fun y hy=>h y (by simp[hy])) (by simp at hl ⊢;omega) (by simpa using hf))
def cy{n:Nat}(h:n<=1000):n<=sizeLine:=Nat.le_trans h (by decide)
noncomputable def uL(js:Vs):PV:=.tup (js.map PV.str)
def lB{a b:Bd}{v:PV}(h:bj (.Bh a b) v=true):∃x y,v = .tup [x,y]/\bj a x=true/\bj b y=true:=by
 cases v with
 |tup xs=>
  by_cases h2:xs.length=2
  ·obtain⟨x,y,rfl⟩:=nI h2
   rw[gG,Bool.and_eq_true]at h
   exact⟨x,y,rfl,h⟩
  ·rw[lx h2]at h;cases h
 |int i=>rw[gL]at h;cases h
 |str z=>rw[gK]at h;cases h
 |_=>cases h
def lC{a b:Bd}{v:PV}(h:bj (.BG a b) v=true):∃i y,v = .tup [.int i,y]/\((i=0/\bj a y=true)\/(i=1/\bj b y=true)):=by
 cases v with
 |tup xs=>
  by_cases h2:xs.length=2
  ·obtain⟨x,y,rfl⟩:=nI h2
   cases x with
   |int i=>
    rw[gH]at h
    refine⟨i,y,rfl,?_⟩
    by_cases h0:i=0
    ·rw[if_pos h0]at h;exact .inl ⟨h0,h⟩
    ·rw[if_neg h0]at h
     by_cases h1:i=1
     ·rw[if_pos h1]at h;exact .inr ⟨h1,h⟩
     ·rw[if_neg h1]at h;cases h
   |_=>cases h
  ·rw[ly h2]at h;cases h
 |int i=>rw[gL]at h;cases h
 |str z=>rw[gK]at h;cases h
 |_=>cases h
def lD{z:Str}{m:Int}{a b:Bd}{v:PV}(h:bj (.BB z m a b) v=true):∃i y,v = .tup [.int i,y]/\((i=0/\bj a y=true)\/(i=1/\bj b y=true)):=by
 cases v with
 |tup xs=>
  by_cases h2:xs.length=2
  ·obtain⟨x,y,rfl⟩:=nI h2
   cases x with
   |int i=>
    rw[gJ]at h
    refine⟨i,y,rfl,?_⟩
    by_cases h0:i=0
    ·rw[if_pos h0]at h;exact .inl ⟨h0,h⟩
    ·rw[if_neg h0]at h
     by_cases h1:i=1
     ·rw[if_pos h1]at h;exact .inr ⟨h1,h⟩
     ·rw[if_neg h1]at h;cases h
   |_=>cases h
  ·rw[lz h2]at h;cases h
 |int i=>rw[gL]at h;cases h
 |str z=>rw[gK]at h;cases h
 |_=>cases h
def nK{a:Bd}{v:PV}(h:bj (.BC a) v=true):∃xs,v = .tup xs/\xs.all (nG a)=true:=by
 cases v with
 |tup xs=>rw[jR]at h;exact⟨xs,rfl,h⟩
 |int i=>rw[gL]at h;cases h
 |str z=>rw[gK]at h;cases h
 |_=>cases h
section
variable {js us:Vs} (hj:∀z∈js,IsW z) (hu:∀z∈us,IsW z)
end
theorem Bd.tr_plain:∀t:Bd,bj t t.ptrace=true
 | .rest=>rfl
 | .pay _ _=>rfl
 | .put _ _=>rfl
 | .use _=>rfl
 | .BC a=>by rw[show(Bd.BC a).ptrace = .tup [] from rfl,jR];rfl
 | .Bh a b=>by simp only[Bd.ptrace,gG,a.tr_plain,b.tr_plain];rfl
 | .BG a b=>by simp only[Bd.ptrace,gH,if_true];exact a.tr_plain
 | .BB _ _ a b=>by simp only[Bd.ptrace];rw[gJ,if_neg (by decide),if_pos rfl];exact b.tr_plain
def iG{a:Bd}{g:PV}(h:nG a g=true):∃m y,g = .tup [.int m,y]/\1<=m/\bj a y=true:=by
 unfold nG at h
 split at h
 ·rename_i m y
  rw[Bool.and_eq_true,decide_eq_true_eq]at h
  exact⟨m,y,rfl,h.1,h.2⟩
 ·cases h
def Bd.ED(t:Bd):t.hd=("put":Str)↔∃z m,t = .put z m:=by cases t<;>simp[Bd.hd,aA]
section
variable {js us:Vs} (hj:∀z∈js,IsW z) (hu:∀z∈us,IsW z)
include hj hu
end
abbrev Qs:=Str->Bool
noncomputable def mq(hs:Vs):Qs:=fun z=>decide (z∈hs)
noncomputable def Bd.shut(q:Qs):Bd->Nat->Bool
 | .BB z _ _ _,0=>!q z
 |_,_=>false
noncomputable def Bd.B2(q:Qs)(t:Bd)(r:Bool):List (Bd×Bool):=t.sides.mapIdx fun i s=>(s,r&&!t.shut q i)
noncomputable def Bd.pr(q:Qs):Bd->Bool->List (Bd×Bool)
 | .rest,r=>[(.rest,r)]
 | .pay x y,r=>[(.pay x y,r)]
 | .put z m,r=>[(.put z m,r)]
 | .use z,r=>[(.use z,r)]
 | .BC a,r=>(.BC a,r)::a.pr q r
 | .Bh a b,r=>(.Bh a b,r)::(a.pr q r++b.pr q r)
 | .BG a b,r=>(.BG a b,r)::(a.pr q r++b.pr q r)
 | .BB z m a b,r=>(.BB z m a b,r)::(a.pr q (r&&q z)++b.pr q r)
def Bd.Fc(q:Qs)(t:Bd)(r:Bool):t.pr q r=(t,r)::(t.B2 q r).flatMap fun p=>p.1.pr q p.2:=by
 cases t with
 |rest=>rfl
 |pay x y=>rfl
 |put z m=>rfl
 |use z=>rfl
 |BC a=>show _=_::(a.pr q (r&&!false)++[]);rw[Bool.not_false,Bool.and_true,List.append_nil];rfl
 |Bh a b=>show _=_::(a.pr q (r&&!false)++(b.pr q (r&&!false)++[]));rw[Bool.not_false,Bool.and_true,List.append_nil];rfl
 |BG a b=>show _=_::(a.pr q (r&&!false)++(b.pr q (r&&!false)++[]));rw[Bool.not_false,Bool.and_true,List.append_nil];rfl
 |BB z m a b=>show _=_::(a.pr q (r&&!(!q z))++(b.pr q (r&&!false)++[]));rw[Bool.not_not,Bool.not_false,Bool.and_true,List.append_nil];rfl
theorem Bd.Co(q:Qs):∀(t:Bd) (r:Bool),(t.pr q r).length=t.size
 | .rest,_=>rfl
 | .pay _ _,_=>rfl
 | .put _ _,_=>rfl
 | .use _,_=>rfl
 | .BC a,r=>by show(a.pr q r).length+1=a.size+1;rw[a.Co q r]
 | .Bh a b,r=>by show(a.pr q r++b.pr q r).length+1=a.size+b.size+1;rw[List.length_append,a.Co q r,b.Co q r]
 | .BG a b,r=>by show(a.pr q r++b.pr q r).length+1=a.size+b.size+1;rw[List.length_append,a.Co q r,b.Co q r]
 | .BB z m a b,r=>by show(a.pr q (r&&q z)++b.pr q r).length+1=a.size+b.size+1;rw[List.length_append,a.Co q _,b.Co q r]
noncomputable def Bd.Bg(q:Qs):Bd->List Str
 | .rest=>[]
 | .pay _ _=>[]
 | .put z _=>[z]
 | .use _=>[]
 | .BC a=>a.Bg q
 | .Bh a b=>a.Bg q++b.Bg q
 | .BG a b=>a.Bg q++b.Bg q
 | .BB z _ a b=>(if q z then a.Bg q else [])++b.Bg q
theorem Bd.BL(q:Qs):∀(t:Bd) (u:Bd),(u,true) ∉ t.pr q false
 | .rest,u=>by simp[Bd.pr]
 | .pay _ _,u=>by simp[Bd.pr]
 | .put _ _,u=>by simp[Bd.pr]
 | .use _,u=>by simp[Bd.pr]
 | .BC a,u=>by
  show _ ∉ _::a.pr q false
  rw[List.mem_cons,not_or];exact⟨by simp,a.BL q u⟩
 | .Bh a b,u=>by
  show _ ∉ _::(a.pr q false++b.pr q false)
  rw[List.mem_cons,not_or,List.mem_append,not_or];exact⟨by simp,a.BL q u,b.BL q u⟩
 | .BG a b,u=>by
  show _ ∉ _::(a.pr q false++b.pr q false)
  rw[List.mem_cons,not_or,List.mem_append,not_or];exact⟨by simp,a.BL q u,b.BL q u⟩
 | .BB z m a b,u=>by
  show _ ∉ _::(a.pr q (false&&q z)++b.pr q false)
  rw[Bool.false_and,List.mem_cons,not_or,List.mem_append,not_or];exact⟨by simp,a.BL q u,b.BL q u⟩
theorem Bd.BE(q:Qs){z:Str}:∀(t:Bd),z∈t.Bg q↔∃m,(Bd.put z m,true)∈t.pr q true
 | .rest=>by simp[Bd.Bg,Bd.pr]
 | .pay _ _=>by simp[Bd.Bg,Bd.pr]
 | .put y m=>by
  show z∈[y]↔∃n,(Bd.put z n,true)∈[(Bd.put y m,true)]
  simp only[List.mem_singleton,Prod.mk.injEq,Bd.put.injEq,and_true]
  exact⟨fun h=>⟨m,h,rfl⟩,fun⟨_,h,_⟩=>h⟩
 | .use _=>by simp[Bd.Bg,Bd.pr]
 | .BC a=>by
  show z∈a.Bg q↔∃m,(Bd.put z m,true)∈(Bd.BC a,true)::a.pr q true
  rw[a.BE q];simp
 | .Bh a b=>by
  show z∈a.Bg q++b.Bg q↔∃m,(Bd.put z m,true)∈(Bd.Bh a b,true)::(a.pr q true++b.pr q true)
  rw[List.mem_append,a.BE q,b.BE q];simp[exists_or]
 | .BG a b=>by
  show z∈a.Bg q++b.Bg q↔∃m,(Bd.put z m,true)∈(Bd.BG a b,true)::(a.pr q true++b.pr q true)
  rw[List.mem_append,a.BE q,b.BE q];simp[exists_or]
 | .BB y m a b=>by
  show z∈(if q y=true then a.Bg q else [])++b.Bg q↔∃n,(Bd.put z n,true)∈(Bd.BB y m a b,true)::(a.pr q (true&&q y)++b.pr q true)
  rw[List.mem_append,b.BE q]
  cases h:q y with
  |true=>rw[if_pos rfl,a.BE q];simp[exists_or]
  |false=>
   rw[if_neg (by decide)]
   have f:=a.BL q
   simp[f]
theorem Bd.BH{q p:Qs}(h:∀z,q z=true->p z=true){z:Str}:∀t:Bd,z∈t.Bg q->z∈t.Bg p
 | .rest,e=>e
 | .pay _ _,e=>e
 | .put _ _,e=>e
 | .use _,e=>e
 | .BC a,e=>a.BH h e
 | .Bh a b,e=>List.mem_append.mpr ((List.mem_append.mp e).imp (a.BH h) (b.BH h))
 | .BG a b,e=>List.mem_append.mpr ((List.mem_append.mp e).imp (a.BH h) (b.BH h))
 | .BB y m a b,e=>by
  rcases List.mem_append.mp (show z∈(if q y=true then a.Bg q else [])++b.Bg q from e)with e|e
  ·by_cases hq:q y=true
   ·rw[if_pos hq]at e
    exact List.mem_append.mpr (.inl (by show z∈(if p y=true then a.Bg p else []);rw[if_pos (h y hq)];exact a.BH h e))
   ·rw[if_neg hq]at e;cases e
  ·exact List.mem_append.mpr (.inr (b.BH h e))
theorem Bd.Bw{q:Qs}{js us:Vs}{z:Str}:∀t:Bd,t.good js us->z∈t.Bg q->z∈js
 | .rest,_,e=>by cases e
 | .pay _ _,_,e=>by cases e
 | .put _ _,g,e=>by rw[List.mem_singleton.mp e];exact g.1
 | .use _,_,e=>by cases e
 | .BC a,g,e=>a.Bw g e
 | .Bh a b,g,e=>(List.mem_append.mp e).elim (a.Bw g.1) (b.Bw g.2)
 | .BG a b,g,e=>(List.mem_append.mp e).elim (a.Bw g.1) (b.Bw g.2)
 | .BB y m a b,g,e=>by
  rcases List.mem_append.mp (show z∈(if q y=true then a.Bg q else [])++b.Bg q from e)with e|e
  ·by_cases hq:q y=true
   ·rw[if_pos hq]at e;exact a.Bw g.2.2.2.1 e
   ·rw[if_neg hq]at e;cases e
  ·exact b.Bw g.2.2.2.2 e
noncomputable def BQ(q:Qs)(ds:List (Str×Bd)):List Str:=ds.flatMap fun p=>p.2.Bg q
def jS{q p:Qs}(h:∀z,q z=true->p z=true){ds:List (Str×Bd)}{z:Str}(e:z∈BQ q ds):z∈BQ p ds:=by
 obtain⟨d,hd,e⟩:=List.mem_flatMap.mp e
 exact List.mem_flatMap.mpr ⟨d,hd,d.2.BH h e⟩
inductive Fs (ds:List (Str×Bd)):List Str->Prop
 |nil:Fs ds []
 |snoc {hs:Vs} {z:Str}:Fs ds hs->z∈BQ (mq hs) ds->Fs ds (hs++[z])
noncomputable def held(ds:List (Str×Bd)):Nat->List Str
 |0=>[]
 |n+1=>BQ (mq (held ds n)) ds
theorem ff:∀(hs js:Vs),hs.Nodup->(∀z∈hs,z∈js)->hs.length<=js.length
 |[],_,_,_=>Nat.zero_le _
 |z::r,js,hn,hj=>by
  have hz:=hj z (by simp)
  have h1:=ff r (js.erase z) (List.nodup_cons.mp hn).2 fun y hy=>(List.mem_erase_of_ne (fun e=>(List.nodup_cons.mp hn).1 (by rw[<-e];exact hy))).mpr (hj y (by simp[hy]))
  rw[List.length_erase_of_mem hz]at h1
  have:=List.length_pos_of_mem hz
  rw[List.length_cons]
  omega
def oI{a b:Vs}(h:∀z∈a,z∈b)(z:Str)(e:mq a z=true):mq b z=true:=decide_eq_true (h z (of_decide_eq_true e))
def uM{ds:List (Str×Bd)}{hs:Vs}(h:Fs ds hs):∀k,hs.length<=k->∀z∈hs,z∈held ds k:=by
 induction h with
 |nil=>intro k _ z hz;cases hz
 |@snoc hs y hf hy ih=>
  intro k hk z hz
  rw[List.length_append,List.length_singleton]at hk
  rcases List.mem_append.mp hz with hz|hz
  ·exact ih k (by omega) z hz
  ·rw[List.mem_singleton.mp hz]
   obtain⟨k,rfl⟩:∃m,k=m+1:=⟨k - 1,by omega⟩
   exact jS (oI (ih k (by omega))) hy
theorem oJ{ds:List (Str×Bd)}{hs:Vs}(cl:∀z∈BQ (mq hs) ds,z∈hs):∀k,∀z∈held ds k,z∈hs
 |0,z,hz=>by cases hz
 |k+1,z,hz=>cl z (jS (oI (oJ cl k)) hz)
def uN{ds:List (Str×Bd)}{js hs:Vs}(h:Fs ds hs)(hn:hs.Nodup)(hj:∀z∈hs,z∈js)(cl:∀z∈BQ (mq hs) ds,z∈hs):mq (held ds js.length)=mq hs:=by
 funext z
 exact decide_eq_decide.mpr ⟨oJ cl _ z,uM h _ (ff hs js hn hj) z⟩
noncomputable def nL(p:Bd×Bool):PV:=.tup [p.1.pv,.bl p.2]
def sn(js:Vs):Prop:=∀z∈js,PyData.strOk z=true
abbrev lE(n:Nat)(w:aF):Prop:=∀{S:av} {t:Bd} {js us hs:Vs} {nm:Addr} {r:Bool} {Q:ce} {E:cW},t.dep<=n->t.size<=900->t.good js us->sn js->sn hs->S nm=some (.lst (hs.map PV.str))->
  (∀p S',S p=none->Ext S S'->S' p=some (.lst ((t.pr (mq hs) r).map nL))->Q (.ref p) S')->w [t.pv,.ref nm,.bl r] S Q E
def Bd.D9{js us:Vs}{t s:Bd}(g:t.good js us)(h:s∈t.sides):s.good js us:=by
 cases t with
 |rest=>cases h
 |pay x y=>cases h
 |put z m=>cases h
 |use z=>cases h
 |BC a=>rw[List.mem_singleton.mp h];exact g
 |Bh a b=>
  rcases List.mem_cons.mp h with rfl|h
  ·exact g.1
  ·rw[List.mem_singleton.mp h];exact g.2
 |BG a b=>
  rcases List.mem_cons.mp h with rfl|h
  ·exact g.1
  ·rw[List.mem_singleton.mp h];exact g.2
 |BB z m a b=>
  rcases List.mem_cons.mp h with rfl|h
  ·exact g.2.2.2.1
  ·rw[List.mem_singleton.mp h];exact g.2.2.2.2
def Bd.FB(t:Bd):t.hd=("take":Str)↔∃z m a b,t = .BB z m a b:=by cases t<;>simp[Bd.hd,aA]
def uO{t:Bd}{js us hs:Vs}{nm:Addr}{S:av}{i:Nat}{x2 x3 x5 x6:Option PV}{Q:ce}(g:t.good js us)(hj:sn js)(hh:sn hs)(hn:S nm=some (.lst (hs.map PV.str)))(q:Q (.bl (t.shut (mq hs) i)) S) :
  cI (ah (bo false) (ah ag (v3 0) (c3 (.int 0))) (c3 (.str "take"))) (cI (ah (bo false) (v3 4) (c3 (.int 0))) (ah (jv true) (ah ag (v3 0) (c3 (.int 1))) (v3 1))) [some t.pv,some (.ref nm),x2,x3,some (.int (i:Int)),x5,x6] S Q eI:=by
 rw[Bd.Ds]
 simp only[cI,ah,v3,lk,c3,ag,dU,bo,Bool.false_bne]
 by_cases h:t.hd=("take":Str)
 ·obtain⟨z,m,a,b,rfl⟩:=(Bd.FB t).mp h
  rw[decide_eq_true h,if_pos rfl]
  cases i with
  |zero=>
   rw[decide_eq_true (show((0:Nat):Int)=0 from rfl),if_pos rfl]
   simp only[Bd.tl,jf]
   refine de hn (hj z g.1) hh ?_
   rw[show(true != decide (z∈hs))=Bd.shut (mq hs) (Bd.BB z m a b) 0 by show _=!decide (z∈hs);cases decide (z∈hs)<;>rfl]
   exact q
  |succ i=>
   rw[decide_eq_false (show ¬(((i+1:Nat):Int)=0) by omega),if_neg (by decide)]
   exact q
 ·rw[decide_eq_false h,if_neg (by decide)]
  have e:t.shut (mq hs) i=false:=by cases t<;>first|rfl|exact absurd rfl h
  rw[e]at q
  exact q
def EE{xs s0:aF}(CM:fu xs)(n:Nat)(ih:lE n s0):lE (n+1) (Bs 7 (cu xs s0)):=by
 intro S t js us hs nm r Q E hd GY hg hj hh hn k
 unfold cu
 refine im ?_
 rw[show aC 7 [t.pv,.ref nm,.bl r]=[some t.pv,some (.ref nm),some (.bl r),none,none,none,none] from rfl]
 refine al fun N hN=>?_
 walk_at "x"
 intro p hp
 have X0:Ext S (Bc S p (.lst [.tup [t.pv,.bl r]])):=.new hp
 have hp0:(Bc S p (.lst [.tup [t.pv,.bl r]])) p=some (.lst [.tup [t.pv,.bl r]]):=aa
 generalize Bc S p (.lst [.tup [t.pv,.bl r]])=S0 at X0 hp0
 refine hN _ _ (al fun N hN=>?_)
 simp only[cX,dD,ae,ao,v3,lk]
 refine CM ?_
 dsimp only
 have hps:(t.B2 (mq hs) r).length=t.sides.length:=List.length_mapIdx
 refine cf (fun done σ S'=>∃(x4 x5 x6:Option PV),σ=[some t.pv,some (.ref nm),some (.bl r),some (.ref p),x4,x5,x6]/\Ext S S'/\done.length<=t.sides.length/\S' p=some (.lst (((t,r)::((t.B2 (mq hs) r).take done.length).flatMap fun p=>p.1.pr (mq hs) p.2).map nL))) ⟨_,_,_,rfl,X0,Nat.zero_le _,hp0⟩ (fun _ _ _ _=>trivial) ?_ ?_
 ·rintro done x rest σ S1 K e ⟨x4,x5,x6,rfl,X1,hl,h1⟩ hK
  obtain⟨y,rfl,hy⟩:=fe e
  rw[List.getElem?_map]at hy
  cases hs':t.sides[done.length]? with
  |none=>rw[hs']at hy;cases hy
  |some s=>
  rw[hs']at hy
  cases hy
  have hlt:done.length < t.sides.length:=(List.getElem?_eq_some_iff.mp hs').1
  have hr:s∈t.sides:=List.mem_of_getElem? hs'
  have hrd:=Bd.DT hr
  have hn1:=X1 _ _ hn
  have hq:(t.B2 (mq hs) r)[done.length]?=some (s,r&&!t.shut (mq hs) done.length):=by unfold Bd.B2;rw[List.getElem?_mapIdx,hs'];rfl
  simp only[Tg.put,Tg.Bg,List.set_cons_succ,List.set_cons_zero]
  refine al fun N2 Cc=>?_
  simp only[au]
  refine uO hg hj hh hn1 ?_
  simp only[List.set_cons_succ,List.set_cons_zero]
  refine Cc _ _ ?_
  simp only[aW,eF,mI,ao,ae,v3,lk,h1,true_and,cI,iM]
  have go:∀Q':ce,(∀q S2,S1 q=none->Ext S1 S2->S2 q=some (.lst ((s.pr (mq hs) (r&&!t.shut (mq hs) done.length)).map nL))->Q' (.ref q) S2)->s0 [s.pv,.ref nm,.bl (r&&!t.shut (mq hs) done.length)] S1 Q' eI:=fun Q' k'=>ih (by omega) (by omega) (Bd.D9 hg hr) hj hh hn1 k'
  have tail:∀q S2,S1 q=none->Ext S1 S2->S2 q=some (.lst ((s.pr (mq hs) (r&&!t.shut (mq hs) done.length)).map nL))->bt (.ref p) [.ref q] S2 (fun _ S3=>K [some t.pv,some (.ref nm),some (.bl r),some (.ref p),some (.int (done.length:Int)),some s.pv,some (.bl (t.shut (mq hs) done.length))] S3):=fun q S2 hq2 X2 h2=>by
   simp only[bt,X2 _ _ h1,h2]
   have et:((t.B2 (mq hs) r).take (done.length+1)).flatMap (fun p=>p.1.pr (mq hs) p.2)=((t.B2 (mq hs) r).take done.length).flatMap (fun p=>p.1.pr (mq hs) p.2)++s.pr (mq hs) (r&&!t.shut (mq hs) done.length):=by
    rw[List.take_succ,hq,List.flatMap_append];simp
   have ln:((t,r)::((t.B2 (mq hs) r).take (done.length+1)).flatMap fun p=>p.1.pr (mq hs) p.2).length<=t.size:=by
    rw[<-Bd.Co (mq hs) t r,Bd.Fc]
    rw[List.length_cons,List.length_cons]
    have:(t.B2 (mq hs) r).flatMap (fun p=>p.1.pr (mq hs) p.2)=((t.B2 (mq hs) r).take (done.length+1)).flatMap (fun p=>p.1.pr (mq hs) p.2)++((t.B2 (mq hs) r).drop (done.length+1)).flatMap (fun p=>p.1.pr (mq hs) p.2):=by rw[<-List.flatMap_append,List.take_append_drop]
    rw[this,List.length_append]
    omega
   rw[List.length_cons,et,List.length_append]at ln
   refine⟨cy (by simp only[List.length_map,List.length_cons];omega),?_⟩
   refine hK _ _ ⟨_,_,_,rfl,(X1.trans X2).put hp,by rw[List.length_append];exact hlt,?_⟩
   rw[aa,List.length_append,List.length_singleton,et,<-List.map_append]
   rfl
  cases r with
  |true=>rw[if_pos rfl];exact go _ tail
  |false=>rw[if_neg (by decide)];exact go _ tail
 ·rintro σ S1 ⟨x4,x5,x6,rfl,X1,hl,h1⟩
  refine hN _ _ ?_
  walk_at "x"
  refine k p S1 hp X1 ?_
  rw[h1,Bd.Fc]
  have:(L3.aR (t.sides.map Bd.pv)).length=(t.B2 (mq hs) r).length:=by unfold L3.aR;rw[List.length_mapIdx,List.length_map,hps]
  rw[this,List.take_length]
structure HG (js:Vs) (ds:List (Str×Bd)):Prop where
 jw:sn js
 jl:js.length<=50
 dl:ds.length<=1000
 gd:∀p∈ds,p.2.good js []
 dp:∀p∈ds,p.2.dep<=6
 sz:∀p∈ds,p.2.size<=60
def Ei(ds:List (Str×Bd))(hs:Vs)(d tr:PV)(z:Str):Prop:=∃(dk pl:Nat) (dn:Str) (t:Bd) (m:Int),d = .int (dk:Int)/\tr=t.led pl (.tup [])/\ds[dk]?=some (dn,t)/\(t.pr (mq hs) true)[pl]?=some (.put z m,true)
def Ei.Bg{ds:List (Str×Bd)}{hs:Vs}{d tr:PV}{z:Str}:Ei ds hs d tr z->z∈BQ (mq hs) ds:=fun⟨_,_,_,t,m,_,_,h1,h2⟩=>List.mem_flatMap.mpr ⟨_,List.mem_of_getElem? h1,(Bd.BE (mq hs) t).mpr ⟨m,List.mem_of_getElem? h2⟩⟩
abbrev jT(w:aF):Prop:=∀{S:av} {js hs:Vs} {ds:List (Str×Bd)} {nm:Addr} {Q:ce} {E:cW},HG js ds->sn hs->S nm=some (.lst (hs.map PV.str))->
  (∀S',Ext S S'->(∀z∈BQ (mq hs) ds,z∈hs)->Q .non S')->
  (∀(k:Nat) z d tr S',Ext S S'->js[k]?=some z->Ei ds hs d tr z->z ∉ hs->Q (.tup [.int (k:Int),d,tr]) S')->w [BZ js ds,.ref nm] S Q E
def sr{js:Vs}{z:Str}(h:z∈js):∃k:Nat,js[k]?=some z/\∀j:Nat,j < k->js[j]?≠some z:=by
 induction js with
 |nil=>cases h
 |cons x r ih=>
  by_cases e:x=z
  ·subst e;exact⟨0,rfl,fun j hj=>absurd hj (Nat.not_lt_zero _)⟩
  ·obtain⟨k,h1,h2⟩:=ih ((List.mem_cons.mp h).resolve_left (Ne.symm e))
   refine⟨k+1,by simpa using h1,fun j hj=>?_⟩
   cases j with
   |zero=>simpa using e
   |succ j=>simpa using h2 j (by omega)
def DG{xp xl:aF}(EE:lE 6 xp)(FC:gN 6 xl):jT (Bs 7 (e8 xp xl)):=by
 intro S js hs ds nm Q E hg hh hn k0 k1
 unfold e8
 refine im ?_
 rw[show aC 7 [BZ js ds,.ref nm]=[some (.tup [uL js,.tup (ds.map fJ)]),some (.ref nm),none,none,none,none,none] from rfl]
 refine al fun N hN=>?_
 simp only[cX,dD,ah,v3,lk,c3,ag,jf]
 refine cf (fun done σ S'=>∃(x2 x3 x4 x5 x6:Option PV),σ=[some (.tup [uL js,.tup (ds.map fJ)]),some (.ref nm),x2,x3,x4,x5,x6]/\Ext S S'/\done.length<=ds.length/\∀p∈ds.take done.length,∀z∈p.2.Bg (mq hs),z∈hs) ⟨_,_,_,_,_,rfl,.refl,Nat.zero_le _,by simp⟩ (fun _ _ _ _=>trivial) ?_ ?_
 ·rintro done x rest σ S1 K e ⟨x2,x3,x4,x5,x6,rfl,X1,hl,hd⟩ hK
  obtain⟨y,rfl,hy⟩:=fe e
  rw[List.getElem?_map]at hy
  cases hs':ds[done.length]? with
  |none=>rw[hs']at hy;cases hy
  |some p=>
  rw[hs']at hy
  cases hy
  obtain⟨dn,t⟩:=p
  have hlt:done.length < ds.length:=(List.getElem?_eq_some_iff.mp hs').1
  have hm:(dn,t)∈ds:=List.mem_of_getElem? hs'
  have hn1:=X1 _ _ hn
  simp only[Tg.put,Tg.Bg,List.set_cons_succ,List.set_cons_zero]
  simp only[lp,ao,ah,v3,lk,c3,ag,fJ,jf,List.cons_append,List.nil_append]
  refine EE (hg.dp _ hm) (by have:t.size<=60:=hg.sz _ hm;omega) (hg.gd _ hm) hg.jw hh hn1 fun pl S2 hpl X2 h2=>?_
  simp only[h2]
  have hn2:=X2 _ _ hn1
  refine cf (fun Cm σ S'=>∃(x4 x5 x6:Option PV),σ=[some (.tup [uL js,.tup (ds.map fJ)]),some (.ref nm),some (.int (done.length:Int)),some (.tup [.str dn,t.pv]),x4,x5,x6]/\S'=S2/\∀z m,(Bd.put z m,true)∈(t.pr (mq hs) true).take Cm.length->z∈hs) ⟨_,_,_,rfl,rfl,by simp⟩ (fun _ _ _ ⟨_,_,_,_,h,_⟩=>by rw[h];exact h2) ?_ ?_
  ·rintro Cm x F_ σ S3 K2 e2 ⟨y4,y5,y6,rfl,rfl,hd2⟩ Hn
   obtain⟨y,rfl,hy⟩:=fe e2
   rw[List.getElem?_map]at hy
   cases hu:(t.pr (mq hs) true)[Cm.length]? with
   |none=>rw[hu]at hy;cases hy
   |some u=>
   rw[hu]at hy
   cases hy
   obtain⟨u,f⟩:=u
   have hup:Cm.length < t.size:=by rw[<-Bd.Co (mq hs) t true];exact(List.getElem?_eq_some_iff.mp hu).1
   have Ga:(u,f)∈t.pr (mq hs) true:=List.mem_of_getElem? hu
   have cont:(f=true->∀z m,u=Bd.put z m->z∈hs)->∀(S':av) (x6:Option PV),S'=S3->K2 [some (.tup [uL js,.tup (ds.map fJ)]),some (.ref nm),some (.int (done.length:Int)),some (.tup [.str dn,t.pv]),some (.int (Cm.length:Int)),some (nL (u,f)),x6] S':=fun hc S' x6 eS=>Hn _ _ ⟨_,_,_,rfl,eS,fun z m hz=>by
    rw[List.length_append,List.length_singleton,List.take_succ,hu,List.mem_append]at hz
    rcases hz with hz|hz
    ·exact hd2 z m hz
    ·have:(Bd.put z m,true)=(u,f):=by simpa using hz
     cases this
     exact hc rfl z m rfl⟩
   simp only[Tg.put,Tg.Bg,List.set_cons_succ,List.set_cons_zero]
   refine al fun N3 EB=>?_
   simp only[au,ah,v3,lk,c3,ag,nL,dU,List.set_cons_succ,List.set_cons_zero]
   refine EB _ _ ?_
   simp only[bq,gj,aI,ah,v3,lk,c3,ag,jf]
   cases f with
   |false=>
    rw[if_neg (by decide),if_neg (by decide)]
    exact cont (fun h=>by cases h) _ _ rfl
   |true=>
   rw[if_pos rfl,Bd.Ds]
   simp only[dU,jf,bo,Bool.false_bne,decide_eq_true_eq]
   by_cases DH:u.hd=("put":Str)
   ·obtain⟨z,m,rfl⟩:=(Bd.ED u).mp DH
    rw[if_pos DH]
    have hz:z∈t.Bg (mq hs):=(Bd.BE (mq hs) t).mpr ⟨m,Ga⟩
    have ER:z∈js:=t.Bw (hg.gd _ hm) hz
    simp only[Bd.tl,jf]
    refine de hn2 (hg.jw z ER) hh ?_
    by_cases hin:z∈hs
    ·simp only[hin,decide_true,Bool.true_bne,Bool.not_true,Bool.false_eq_true,if_false]
     exact cont (fun _ z' m' e=>by cases e;exact hin) _ _ rfl
    ·simp only[hin,decide_false,Bool.true_bne,Bool.not_false,if_true]
     obtain⟨kk,hk1,hk2⟩:=sr ER
     simp only[az,aB,ao,w_,ah,v3,lk,c3,ag,dU,jf,uL,jd,jI]
     refine⟨kk,hk1,hk2,?_⟩
     simp only[ae,ao,ah,v3,lk,c3,ag,jf,aB]
     refine FC (hg.dp _ hm) (by have:t.size<=60:=hg.sz _ hm;omega) hup fun S4 X4=>?_
     exact k1 kk z _ _ S4 (X1.trans (X2.trans X4)) hk1 ⟨done.length,Cm.length,dn,t,m,rfl,rfl,hs',hu⟩ hin
   ·rw[if_neg DH,if_neg (by decide),<-Bd.Ds]
    exact cont (fun _ z m e=>absurd (by rw[e];rfl) DH) _ _ rfl
  ·rintro σ S3 ⟨y4,y5,y6,rfl,rfl,hd2⟩
   have ln:(L3.aR ((t.pr (mq hs) true).map nL)).length=(t.pr (mq hs) true).length:=by unfold L3.aR;rw[List.length_mapIdx,List.length_map]
   rw[ln,List.take_length]at hd2
   refine hK _ _ ⟨_,_,_,_,_,rfl,X1.trans X2,by rw[List.length_append];exact hlt,fun p hp z hz=>?_⟩
   rw[List.length_append,List.length_singleton,List.take_succ,hs',List.mem_append]at hp
   rcases hp with hp|hp
   ·exact hd p hp z hz
   ·have:p=(dn,t):=by simpa using hp
    subst this
    obtain⟨m,hm'⟩:=(Bd.BE (mq hs) t).mp hz
    exact hd2 z m hm'
 ·rintro σ S1 ⟨x2,x3,x4,x5,x6,rfl,X1,hl,hd⟩
  refine hN _ _ ?_
  have ln:(L3.aR (ds.map fJ)).length=ds.length:=by unfold L3.aR;rw[List.length_mapIdx,List.length_map]
  rw[ln,List.take_length]at hd
  walk_at "x"
  refine k0 S1 X1 fun z hz=>?_
  obtain⟨p,hp,hz⟩:=List.mem_flatMap.mp hz
  exact hd p hp z hz
def mo(js:Vs)(ds:List (Str×Bd))(hs:Vs)(v:PV)(z:Str):Prop:=∃(k:Nat) (d tr:PV),v = .tup [.int (k:Int),d,tr]/\js[k]?=some z/\Ei ds hs d tr z
abbrev fg(w:aF):Prop:=∀{S:av} {js:Vs} {ds:List (Str×Bd)} {Q:ce} {E:cW},HG js ds->
  (∀p (vs:List PV) (hs:Vs) S',S p=none->Ext S S'->S' p=some (.lst vs)->vs.length=hs.length->(∀(j:Nat) v z,vs[j]?=some v->hs[j]?=some z->mo js ds (hs.take j) v z)->Fs ds hs->hs.Nodup->(∀z∈hs,z∈js)->(∀z∈BQ (mq hs) ds,z∈hs)->Q (.ref p) S')->w [BZ js ds] S Q E
def C1{xn:aF}(DG:jT xn):fg (Bs 4 (ie xn)):=by
 intro S js ds Q E hg k
 unfold ie
 refine im ?_
 rw[show aC 4 [BZ js ds]=[some (BZ js ds),none,none,none] from rfl]
 refine al fun N hN=>?_
 walk_at "x"
 intro pf hpf
 refine hN _ _ (al fun N hN=>?_)
 walk_at "x"
 intro pn Fa
 have Ho:pf≠pn:=fun e=>by rw[<-e,aa]at Fa;cases Fa
 have X0:Ext S (Bc (Bc S pf (.lst [])) pn (.lst [])):=(Ext.new hpf).trans (.new Fa)
 have f0:(Bc (Bc S pf (.lst [])) pn (.lst [])) pf=some (.lst []):=by rw[aj Ho,aa]
 have n0:(Bc (Bc S pf (.lst [])) pn (.lst [])) pn=some (.lst ([].map PV.str)):=aa
 have Hq:S pn=none:=(Ext.new hpf).free Fa
 generalize Bc (Bc S pf (.lst [])) pn (.lst [])=S0 at X0 f0 n0
 refine hN _ _ (al fun N hN=>?_)
 -- what holds Gb the next step is known
 have I0:∀(v:PV) (S1:av) (vs:List PV) (hs:Vs) (N':b3->av->Prop),True:=fun _ _ _ _ _=>trivial
 have Il:∀(S1:av) (vs:List PV) (hs:Vs) (R:PV->av->Prop),Ext S S1->S1 pf=some (.lst vs)->S1 pn=some (.lst (hs.map PV.str))->vs.length=hs.length->(∀(j:Nat) v z,vs[j]?=some v->hs[j]?=some z->mo js ds (hs.take j) v z)->Fs ds hs->hs.Nodup->(∀z∈hs,z∈js)->
   (∀v S2,Ext S S2->S2 pf=some (.lst vs)->S2 pn=some (.lst (hs.map PV.str))->((v = .non/\∀z∈BQ (mq hs) ds,z∈hs)\/(∃z,mo js ds hs v z/\z ∉ hs/\z∈js))->R v S2)->xn [BZ js ds,.ref pn] S1 R eI:=by
  intro S1 vs hs R X1 f1 n1 h1 h2 h3 h4 h5 kk
  refine DG hg (fun z hz=>hg.jw z (h5 z hz)) n1 (fun S2 X2 cl=>kk _ S2 (X1.trans X2) (X2 _ _ f1) (X2 _ _ n1) (.inl ⟨rfl,cl⟩)) fun kx z d tr S2 X2 a1 a2 a3=>?_
  exact kk _ S2 (X1.trans X2) (X2 _ _ f1) (X2 _ _ n1) (.inr ⟨z,⟨kx,d,tr,rfl,a1,a2⟩,a3,List.mem_of_getElem? a1⟩)
 simp only[au,ae,ao,v3,lk]
 refine Il S0 [] [] _ X0 f0 n0 rfl (fun j v z h=>by cases h) .nil List.nodup_nil (fun z h=>by cases h) fun v0 S1 X1 f1 n1 c1=>?_
 simp only[List.set_cons_succ,List.set_cons_zero]
 refine hN _ _ (al fun N hN=>?_)
 refine⟨fun m σ S'=>∃(v:PV) (vs:List PV) (hs:Vs),σ=[some (BZ js ds),some (.ref pf),some (.ref pn),some v]/\Ext S S'/\S' pf=some (.lst vs)/\S' pn=some (.lst (hs.map PV.str))/\vs.length=hs.length/\(∀(j:Nat) v z,vs[j]?=some v->hs[j]?=some z->mo js ds (hs.take j) v z)/\Fs ds hs/\hs.Nodup/\(∀z∈hs,z∈js)/\
   ((v = .non/\∀z∈BQ (mq hs) ds,z∈hs)\/(∃z,mo js ds hs v z/\z ∉ hs/\z∈js))/\js.length - hs.length=m,⟨_,v0,[],[],rfl,X1,f1,n1,rfl,(fun j v z h=>by cases h),.nil,List.nodup_nil,(fun z h=>by cases h),c1,rfl⟩,?_⟩
 rintro m σ S' ⟨v,vs,hs,rfl,X,f,nn,h1,h2,h3,h4,h5,c,rfl⟩
 rcases c with⟨rfl,cl⟩|⟨z,⟨kx,d,tr,rfl,hk,hx⟩,hnz,ER⟩
 ·simp only[aI,ah,v3,lk,c3,vk,bne_self_eq_false,Bool.false_eq_true,if_false]
  refine hN _ _ ?_
  walk_at "x"
  exact k pf vs hs S' hpf X f h1 h2 h3 h4 h5 cl
 ·simp only[aI,ah,v3,lk,c3,vk,Bool.bne_false,if_true]
  refine⟨fun σ' En=>∃(v:PV) (vs:List PV) (hs':Vs),σ'=[some (BZ js ds),some (.ref pf),some (.ref pn),some v]/\Ext S En/\En pf=some (.lst vs)/\En pn=some (.lst (hs'.map PV.str))/\vs.length=hs'.length/\(∀(j:Nat) v z,vs[j]?=some v->hs'[j]?=some z->mo js ds (hs'.take j) v z)/\Fs ds hs'/\hs'.Nodup/\(∀z∈hs',z∈js)/\
   ((v = .non/\∀z∈BQ (mq hs') ds,z∈hs')\/(∃z,mo js ds hs' v z/\z ∉ hs'/\z∈js))/\js.length - hs'.length < js.length - hs.length,?_,?_⟩
  ·rintro σ' En ⟨v,vs,hs',rfl,a1,a2,a3,a4,a5,a6,a7,a8,a9,Jt⟩
   exact⟨_,Jt,v,vs,hs',rfl,a1,a2,a3,a4,a5,a6,a7,a8,a9,rfl⟩
  ·have hn1:(hs++[z]).Nodup:=List.nodup_append.mpr ⟨h4,by simp,fun a ha b hb e=>hnz (by rw[<-List.mem_singleton.mp hb,<-e];exact ha)⟩
   have hj1:∀y∈hs++[z],y∈js:=fun y hy=>(List.mem_append.mp hy).elim (h5 y) fun h=>by rw[List.mem_singleton.mp h];exact ER
   have len:=ff (hs++[z]) js hn1 hj1
   have hz:=hx.Bg
   have hjl:=hg.jl
   rw[List.length_append,List.length_singleton]at len
   refine al fun N2 Cc=>?_
   walk_at "x"
   simp only[f,true_and]
   refine⟨Nat.lt_of_lt_of_le (show _ < 1001 by omega) (by decide),Cc _ _ (al fun N2 Cc=>?_)⟩
   have Ju:pn≠pf:=Ne.symm Ho
   have Xa:Ext S (Bc S' pf (.lst (vs++[.tup [.int (kx:Int),d,tr]]))):=X.put hpf
   have fa:(Bc S' pf (.lst (vs++[.tup [.int (kx:Int),d,tr]]))) pf=some (.lst (vs++[.tup [.int (kx:Int),d,tr]])):=aa
   have na:(Bc S' pf (.lst (vs++[.tup [.int (kx:Int),d,tr]]))) pn=some (.lst (hs.map PV.str)):=by rw[aj Ju];exact nn
   generalize Bc S' pf (.lst (vs++[.tup [.int (kx:Int),d,tr]]))=Sa at Xa fa na
   rw[show BZ js ds = .tup [uL js,.tup (ds.map fJ)] from rfl]
   walk_at "x"
   simp only[na,true_and,dU,uL]
   rw[b_ (v:=PV.str z) (by rw[List.getElem?_map,hk];rfl)]
   simp only[na]
   refine⟨Nat.lt_of_lt_of_le (show _ < 1001 by rw[List.length_map];omega) (by decide),Cc _ _ ?_⟩
   have Xb:Ext S (Bc Sa pn (.lst (hs.map PV.str++[.str z]))):=Xa.put Hq
   have fb:(Bc Sa pn (.lst (hs.map PV.str++[.str z]))) pf=some (.lst (vs++[.tup [.int (kx:Int),d,tr]])):=by rw[aj Ho];exact fa
   have nb:(Bc Sa pn (.lst (hs.map PV.str++[.str z]))) pn=some (.lst ((hs++[z]).map PV.str)):=by rw[aa,List.map_append];rfl
   generalize Bc Sa pn (.lst (hs.map PV.str++[.str z]))=Sb at Xb fb nb
   have st1:∀(j:Nat) v y,(vs++[.tup [.int (kx:Int),d,tr]])[j]?=some v->(hs++[z])[j]?=some y->mo js ds ((hs++[z]).take j) v y:=fun j v y hv hy=>by
    by_cases hj:j < vs.length
    ·rw[List.getElem?_append_left hj]at hv
     rw[List.getElem?_append_left (by omega)]at hy
     rw[List.take_append_of_le_length (by omega)]
     exact h2 j v y hv hy
    ·rw[List.getElem?_append_right (by omega)]at hv
     rw[List.getElem?_append_right (by omega)]at hy
     have e1:j - vs.length=0:=by
      have:=(List.getElem?_eq_some_iff.mp hv).1
      rw[List.length_singleton]at this
      omega
     have e2:j - hs.length=0:=by omega
     rw[e1]at hv
     rw[e2]at hy
     cases hv;cases hy
     refine⟨kx,d,tr,rfl,hk,?_⟩
     rw[List.take_append_of_le_length (by omega),List.take_of_length_le (by omega)]
     exact hx
   simp only[au,ae,ao,v3,lk]
   refine Il Sb _ (hs++[z]) _ Xb fb nb (by simp[h1]) st1 (.snoc h3 hz) hn1 hj1 fun v2 S2 X2 f2 n2 c2=>?_
   simp only[List.set_cons_succ,List.set_cons_zero]
   exact⟨v2,_,hs++[z],rfl,X2,f2,n2,by simp[h1],st1,.snoc h3 hz,hn1,hj1,c2,by rw[List.length_append,List.length_singleton];omega⟩
def CJ(p:Addr)(S S':av):Prop:=∀a o,S a=some o->a≠p->S' a=some o
def CJ.refl{p:Addr}{S:av}:CJ p S S:=fun _ _ h _=>h
def CJ.trans{p:Addr}{S S1 S2:av}(a:CJ p S S1)(b:CJ p S1 S2):CJ p S S2:=fun x o h n=>b x o (a x o h n) n
def CJ.upd{p:Addr}{S:av}{o:SO}:CJ p S (Bc S p o):=fun x u h n=>by rw[aj n];exact h
theorem Bd.Bq(q:Qs):∀t:Bd,(t.Bg q).length<=t.size
 | .rest=>Nat.zero_le _
 | .pay _ _=>Nat.zero_le _
 | .put _ _=>Nat.le_refl _
 | .use _=>Nat.zero_le _
 | .BC a=>Nat.le_trans (a.Bq q) (Nat.le_succ _)
 | .Bh a b=>by show(a.Bg q++b.Bg q).length<=a.size+b.size+1;rw[List.length_append];have:=a.Bq q;have:=b.Bq q;omega
 | .BG a b=>by show(a.Bg q++b.Bg q).length<=a.size+b.size+1;rw[List.length_append];have:=a.Bq q;have:=b.Bq q;omega
 | .BB z m a b=>by
  show((if q z=true then a.Bg q else [])++b.Bg q).length<=a.size+b.size+1
  rw[List.length_append]
  have:=a.Bq q;have:=b.Bq q
  split
  ·omega
  ·simp;omega
abbrev fx(n:Nat)(w:aF):Prop:=∀{S:av} {t:Bd} {js us hs fs:Vs} {hl fd:Addr} {Q:ce} {E:cW},t.dep<=n->t.good js us->sn js->sn hs->S hl=some (.lst (hs.map PV.str))->S fd=some (.lst (fs.map PV.str))->hl≠fd->fs.length+t.size<=1000000->
  (∀S',CJ fd S S'->S' fd=some (.lst ((fs++t.Bg (mq hs)).map PV.str))->Q .non S')->w [t.pv,.ref hl,.ref fd] S Q E
def nM:∀z∈(["then","either","take"]:Vs),PyData.strOk z=true:=by decide +kernel
def su{s0:aF}(n:Nat)(ih:fx n s0):fx (n+1) (Bs 3 (eZ s0)):=by
 intro S t js us hs fs hl fd Q E hd hg hj hh h1 h2 hne hsz k
 unfold eZ
 refine im ?_
 rw[Bd.Ds,show aC 3 [.tup (.str t.hd::t.tl),.ref hl,.ref fd]=[some (.tup (.str t.hd::t.tl)),some (.ref hl),some (.ref fd)] from rfl]
 refine al fun N hN=>?_
 have leaf:∀S1:av,t.hd≠("often":Str)->t.hd ∉ (["then","either","take"]:Vs)->Q .non S1->N [some (.tup (.str t.hd::t.tl)),some (.ref hl),some (.ref fd)] S1:=fun S1 ho h3 q=>by
  refine hN _ _ (al fun N hN=>?_)
  simp only[bq,aI,ah,v3,lk,c3,ag,dU,bo,Bool.false_bne,decide_eq_true_eq]
  rw[if_neg ho]
  refine hN _ _ ?_
  simp only[bq,aI,ah,v3,lk,c3,ag,dU,aB,ao]
  rw[lA]
  refine bT t.DU nM ?_
  simp only[h3,decide_false,Bool.false_bne,Bool.false_eq_true,if_false]
  exact q
 simp only[bq,aI,ah,v3,lk,c3,ag,dU,bo,Bool.false_bne,decide_eq_true_eq]
 by_cases DH:t.hd=("put":Str)
 ·rw[if_pos DH]
  obtain⟨z,m,rfl⟩:=(Bd.ED t).mp DH
  simp only[aW,eF,mI,ao,ah,v3,lk,c3,ag,jf,Bd.tl,bh,h2,true_and]
  have hs1:(Bd.put z m).size=1:=rfl
  refine⟨Nat.lt_of_lt_of_le (show _ < 1000001 by rw[List.length_map];omega) (by decide),leaf _ (by simp[Bd.hd,aA]) (by simp[Bd.hd,aA]) (k _ .upd ?_)⟩
  rw[aa,List.map_append]
  rfl
 rw[if_neg DH]
 by_cases EF:t.hd=("often":Str)
 ·obtain⟨a,rfl⟩:=(Bd.EC t).mp EF
  refine hN _ _ (al fun N hN=>?_)
  simp only[bq,aI,ah,v3,lk,c3,ag,dU,bo,Bool.false_bne,decide_eq_true_eq]
  rw[if_pos EF]
  simp only[aW,ae,ao,ah,v3,lk,c3,ag,jf,Bd.tl]
  simp only[Bd.dep]at hd
  have hs1:(Bd.BC a).size=a.size+1:=rfl
  refine ih (by omega) hg hj hh h1 h2 hne (by omega) fun S1 X1 f1=>?_
  refine hN _ _ ?_
  simp only[bq,aI,ah,v3,lk,c3,ag,dU,aB,ao]
  rw[lA]
  refine bT (Bd.BC a).DU nM ?_
  simp only[Bd.hd,aA,String.reduceEq,List.mem_cons,List.not_mem_nil,or_false,or_self,decide_false,Bool.false_bne,Bool.false_eq_true,if_false]
  exact k S1 X1 f1
 by_cases h3:t.hd∈(["then","either","take"]:Vs)
 ·refine hN _ _ (al fun N hN=>?_)
  simp only[bq,aI,ah,v3,lk,c3,ag,dU,bo,Bool.false_bne,decide_eq_true_eq]
  rw[if_neg EF]
  refine hN _ _ ?_
  simp only[bq,aI,ah,v3,lk,c3,ag,dU,aB,ao]
  rw[lA]
  refine bT t.DU nM ?_
  simp only[h3,decide_true,Bool.false_bne,if_true]
  refine al fun N2 Cc=>?_
  -- the second side
  have snd:∀(hd2:List PV) (a b:Bd) (S1:av) (Gx:Vs),(.str t.hd::t.tl)=hd2++[a.pv,b.pv]->b.dep<=n->b.good js us->CJ fd S S1->S1 fd=some (.lst (Gx.map PV.str))->Gx.length+b.size<=1000000->Gx++b.Bg (mq hs)=fs++t.Bg (mq hs)->N2 [some (.tup (.str t.hd::t.tl)),some (.ref hl),some (.ref fd)] S1:=fun hd2 a b S1 Gx e1 g1 g2 X1 f1 l1 e2=>by
   refine Cc _ _ ?_
   simp only[aW,ae,ao,ah,v3,lk,c3,ag,iY,cp]
   have e3:Ck (.str t.hd::t.tl) (-1)=some b.pv:=by rw[e1];have:=gM (a:=a.pv) (b:=b.pv) (hd:=hd2) (i:=1) (.inr rfl);simpa using this
   rw[e3]
   refine ih g1 g2 hj hh (X1 _ _ h1 hne) f1 hne l1 fun S2 X2 f2=>?_
   rw[e2]at f2
   exact k S2 (X1.trans X2) f2
  have fst:∀(hd2:List PV) (a b:Bd) (Q':ce),(.str t.hd::t.tl)=hd2++[a.pv,b.pv]->a.dep<=n->a.good js us->fs.length+a.size<=1000000->(∀S1,CJ fd S S1->S1 fd=some (.lst ((fs++a.Bg (mq hs)).map PV.str))->Q' .non S1)->ae s0 [ah ag (v3 0) (iY cp (c3 (.int 2))),v3 1,v3 2] [some (.tup (.str t.hd::t.tl)),some (.ref hl),some (.ref fd)] S Q' eI:=fun hd2 a b Q' e1 g1 g2 l1 kk=>by
   simp only[ae,ao,ah,v3,lk,c3,ag,iY,cp]
   have e3:Ck (.str t.hd::t.tl) (-2)=some a.pv:=by rw[e1];have:=gM (a:=a.pv) (b:=b.pv) (hd:=hd2) (i:=0) (.inl rfl);simpa using this
   rw[e3]
   exact ih g1 g2 hj hh h1 h2 hne l1 kk
  simp only[bq,gc,aI,ah,v3,lk,c3,ag,dU,bo,Bool.true_bne,Bool.not_eq_true',decide_eq_false_iff_not,aW]
  have la:∀c:Bd,(c.Bg (mq hs)).length<=c.size:=Bd.Bq (mq hs)
  cases t with
  |Bh a b=>
   have hs1:(Bd.Bh a b).size=a.size+b.size+1:=rfl
   simp only[Bd.dep]at hd
   rw[if_pos (by simp[Bd.hd,aA]),if_pos trivial]
   refine fst [.str "then"] a b _ rfl (by omega) hg.1 (by omega) fun S1 X1 f1=>?_
   exact snd [.str "then"] a b S1 _ rfl (by omega) hg.2 X1 f1 (by rw[List.length_append];have:=la a;omega) (by rw[List.append_assoc];rfl)
  |BG a b=>
   have hs1:(Bd.BG a b).size=a.size+b.size+1:=rfl
   simp only[Bd.dep]at hd
   rw[if_pos (by simp[Bd.hd,aA]),if_pos trivial]
   refine fst [.str "either"] a b _ rfl (by omega) hg.1 (by omega) fun S1 X1 f1=>?_
   exact snd [.str "either"] a b S1 _ rfl (by omega) hg.2 X1 f1 (by rw[List.length_append];have:=la a;omega) (by rw[List.append_assoc];rfl)
  |BB z m a b=>
   have hs1:(Bd.BB z m a b).size=a.size+b.size+1:=rfl
   have ep:(Bd.BB z m a b).Bg (mq hs)=(if mq hs z=true then a.Bg (mq hs) else [])++b.Bg (mq hs):=rfl
   simp only[Bd.dep]at hd
   rw[if_neg (by simp[Bd.hd])]
   simp only[Bd.tl,jf]
   refine de h1 (hj z hg.1) hh ?_
   by_cases hin:z∈hs
   ·simp only[hin,decide_true,Bool.false_bne,if_true]
    rw[show mq hs z=true from decide_eq_true hin,if_pos rfl]at ep
    refine fst [.str "take",.str z,.int m] a b _ rfl (by omega) hg.2.2.2.1 (by omega) fun S1 X1 f1=>?_
    exact snd [.str "take",.str z,.int m] a b S1 _ rfl (by omega) hg.2.2.2.2 X1 f1 (by rw[List.length_append];have:=la a;omega) (by rw[ep,List.append_assoc])
   ·simp only[hin,decide_false,Bool.false_bne,Bool.false_eq_true,if_false]
    rw[show mq hs z=false from decide_eq_false hin,if_neg (by decide),List.nil_append]at ep
    exact snd [.str "take",.str z,.int m] a b S fs rfl (by omega) hg.2.2.2.2 .refl h2 (by omega) (by rw[ep])
  |_=>simp[Bd.hd,aA]at h3
 ·refine leaf S EF h3 (k S .refl ?_)
  have e:t.Bg (mq hs)=[]:=by cases t<;>first|rfl|exact absurd rfl DH|exact absurd rfl EF|simp[Bd.hd]at h3
  rw[e,List.append_nil]
  exact h2
theorem kN{js:Vs}{ds:List (Str×Bd)}(hg:HG js ds)(q:Qs):∀n,n<=ds.length->(BQ q (ds.take n)).length<=60 * n
 |0,_=>by simp[BQ]
 |n+1,h=>by
  have ih:=kN hg q n (by omega)
  have hlt:n < ds.length:=by omega
  unfold BQ at *
  rw[List.take_succ,List.getElem?_eq_getElem hlt,List.flatMap_append,List.length_append]
  have h1:=Bd.Bq q ds[n].2
  have h2:ds[n].2.size<=60:=hg.sz _ (List.getElem_mem hlt)
  simp only[Option.toList_some,List.flatMap_cons,List.flatMap_nil,List.append_nil]
  omega
theorem oK{js:Vs}{ds:List (Str×Bd)}(hg:HG js ds):∀k,∀z∈held ds k,z∈js
 |0,z,h=>by cases h
 |k+1,z,h=>by
  obtain⟨p,hp,hz⟩:=List.mem_flatMap.mp h
  exact p.2.Bw (hg.gd p hp) hz
abbrev ir(w:aF):Prop:=∀{S:av} {js:Vs} {ds:List (Str×Bd)} {Q:ce} {E:cW},HG js ds->(∀p S',S p=none->Ext S S'->S' p=some (.lst ((held ds js.length).map PV.str))->Q (.ref p) S')->w [BZ js ds] S Q E
def Dt{xp:aF}(E6:fx 6 xp):ir (Bs 6 (cr xp)):=by
 intro S js ds Q E hg k
 unfold cr
 refine im ?_
 rw[show aC 6 [BZ js ds]=[some (.tup [uL js,.tup (ds.map fJ)]),none,none,none,none,none] from rfl]
 have hdl:=hg.dl
 refine al fun N hN=>?_
 walk_at "x"
 intro p0 hp0
 have X0:Ext S (Bc S p0 (.lst [])):=.new hp0
 have f0:(Bc S p0 (.lst [])) p0=some (.lst ((held ds 0).map PV.str)):=aa
 generalize Bc S p0 (.lst [])=S0 at X0 f0
 refine hN _ _ (al fun N hN=>?_)
 simp only[cX,ba,ah,v3,lk,c3,ag,dU,uL,cj]
 refine cf (fun done σ S'=>∃(p:Addr) (x2 x3 x4 x5:Option PV),σ=[some (.tup [.tup (js.map PV.str),.tup (ds.map fJ)]),some (.ref p),x2,x3,x4,x5]/\S p=none/\Ext S S'/\S' p=some (.lst ((held ds done.length).map PV.str))) ⟨p0,_,_,_,_,rfl,hp0,X0,f0⟩ (fun _ _ _ _=>trivial) ?_ ?_
 ·rintro done x rest σ S1 K e ⟨p,x2,x3,x4,x5,rfl,hp,X1,f1⟩ hK
  simp only[Tg.put,List.set_cons_succ,List.set_cons_zero]
  refine al fun N2 Cc=>?_
  walk_at "x"
  intro pf hpf
  have Hr:p≠pf:=fun h=>by rw[h,hpf]at f1;cases f1
  have Gc:S pf=none:=X1.free hpf
  have X2:Ext S (Bc S1 pf (.lst [])):=X1.trans (.new hpf)
  have f2:(Bc S1 pf (.lst [])) p=some (.lst ((held ds done.length).map PV.str)):=by rw[aj Hr];exact f1
  have g2:(Bc S1 pf (.lst [])) pf=some (.lst (([]:Vs).map PV.str)):=aa
  generalize Bc S1 pf (.lst [])=S2 at X2 f2 g2
  refine Cc _ _ (al fun N2 Cc=>?_)
  simp only[cX,ba,ah,v3,lk,c3,ag,jf,cj]
  have hJ:sn (held ds done.length):=fun z hz=>hg.jw z (oK hg _ z hz)
  refine cf (fun Cm σ S'=>∃(x4 x5:Option PV),σ=[some (.tup [.tup (js.map PV.str),.tup (ds.map fJ)]),some (.ref p),some x,some (.ref pf),x4,x5]/\Cm.length<=ds.length/\CJ pf S2 S'/\S' pf=some (.lst ((BQ (mq (held ds done.length)) (ds.take Cm.length)).map PV.str))) ⟨_,_,rfl,Nat.zero_le _,.refl,by simpa [BQ]using g2⟩ (fun _ _ _ _=>trivial) ?_ ?_
  ·rintro Cm y F_ σ S3 K2 e2 ⟨x4,x5,rfl,hl2,X3,f3⟩ Hn
   have hy:(ds.map fJ)[Cm.length]?=some y:=by rw[e2];simp
   rw[List.getElem?_map]at hy
   cases hd:ds[Cm.length]? with
   |none=>rw[hd]at hy;cases hy
   |some q=>
   rw[hd]at hy
   cases hy
   obtain⟨dn,t⟩:=q
   have hlt:Cm.length < ds.length:=(List.getElem?_eq_some_iff.mp hd).1
   have hm:(dn,t)∈ds:=List.mem_of_getElem? hd
   simp only[fJ,Tg.put,Tg.Bg,List.set_cons_succ,List.set_cons_zero]
   simp only[aW,ae,ao,v3,lk]
   have lb:=kN hg (mq (held ds done.length)) Cm.length hl2
   refine E6 (hg.dp _ hm) (hg.gd _ hm) hg.jw hJ (X3 _ _ f2 Hr) f3 Hr (by have:t.size<=60:=hg.sz _ hm;omega) fun S4 X4 f4=>?_
   refine Hn _ _ ⟨_,_,rfl,by rw[List.length_append];exact hlt,X3.trans X4,?_⟩
   rw[f4,List.length_append,List.length_singleton]
   congr 3
   unfold BQ
   rw[List.take_succ,hd,List.flatMap_append]
   simp
  ·rintro σ S3 ⟨x4,x5,rfl,hl2,X3,f3⟩
   rw[List.length_map,List.take_length]at f3
   refine Cc _ _ ?_
   walk_at "x"
   refine hK _ _ ⟨pf,_,_,_,_,rfl,Gc,fun a o h=>X3 a o (X2 a o h) (fun e=>by rw[e,Gc]at h;cases h),?_⟩
   rw[f3,List.length_append,List.length_singleton]
   rfl
 ·rintro σ S1 ⟨p,x2,x3,x4,x5,rfl,hp,X1,f1⟩
  refine hN _ _ ?_
  walk_at "x"
  rw[List.length_map]at f1
  exact k p S1 hp X1 f1
def qe(n:Nat):jA (List.replicate n (.bl true))=some (List.replicate n true):=by
 induction n with
 |zero=>rfl
 |succ n ih=>rw[List.replicate_succ,List.replicate_succ];show(jA (List.replicate n (.bl true))).map _=_;rw[ih];rfl
def uP{x:PV}{S:av}{Q:ce}{t c:String}(h:qk S x=some t)(hc:cN c=true)(q:Q (.bl (j6 t c)) S):fO [x,.ty c] S Q:=by
 show(match qk S x with|some t=>cN c=true/\Q (.bl (j6 t c)) S|none=>False)
 rw[h];exact⟨hc,q⟩
abbrev iu(w:aF):Prop:=∀{S:av} {d l e:Addr} {js:Vs} {Q:ce} {E:cW},Bo S d l->S e=some (.lst [])->e≠d->e≠l->(∀(t:Bd) S',t.leaf->t.good js []->Bo S' d l->Ca d l S S'->Q t.pv S')->w [.ref d,.ref e] S Q E
def sv{wd wc:aF}(Be:bB wd)(C4:gD wc):iu (Bs 4 (ck wd wc)):=by
 intro S d l e js Q E D he hed hel k
 unfold ck
 refine im ?_
 rw[show aC 4 [PV.ref d,PV.ref e]=[some (.ref d),some (.ref e),none,none] from rfl]
 refine al fun N hN=>?_
 walk_at "x"
 refine Be D (by decide) (by decide) fun r S1 r0 r1 D1 O1=>?_
 have E7:=O1 _ _ he hed hel
 refine hN _ _ (al fun N hN=>?_)
 walk_at "x"
 simp only[Bool.false_bne,decide_eq_true_eq]
 split
 ·exact k .rest S1 trivial trivial D1 O1
 refine hN _ _ (al fun N hN=>?_)
 walk_at "x"
 simp only[Bool.false_bne,decide_eq_true_eq,E7]
 have pay:wc [.ref d] S1 (fun x S=>Q (.tup [.str "pay",x]) S) eI:=C4 D1 fun x y S2 c D2 O2=>k (.pay x y) S2 trivial c D2 (O1.trans O2)
 split
 ·rw[if_pos trivial];exact pay
 ·rw[if_pos (show((([]:List PV).length:Nat):Int)=0 from rfl)];exact pay
def Gy(js:Vs)(kvs:List (bb×PV)):Prop:=∀z v,dB kvs (.inr z)=some v->∃y∈js,v = .str y
def Gy.get{js:Vs}{kvs:List (bb×PV)}{z:Str}(h:Gy js kvs)(hz:z∈js):∃y∈js,(dB kvs (.inr z)).getD (.str z) = .str y:=by
 cases e:dB kvs (.inr z)with
 |none=>exact⟨z,hz,rfl⟩
 |some v=>obtain⟨y,hy,rfl⟩:=h z v e;exact⟨y,hy,rfl⟩
structure FD (t u:Bd):Prop where
 dp:u.dep=t.dep
 sz:u.size=t.size
 pc:u.Bf=t.Bf
 rc:u.Bi=t.Bi
abbrev lF(n:Nat)(w:aF):Prop:=∀{S:av} {t:Bd} {js us:Vs} {a:Addr} {kvs:List (bb×PV)} {Q:ce} {E:cW},t.dep<=n->t.good js us->S a=some (.dct kvs)->Gy js kvs->(∀u:Bd,u.good js us->FD t u->Q u.pv S)->w [t.pv,.ref a] S Q E
def oM{x:PV}{xs:List PV}:B7 (x::xs) none (some 1)=[x]:=jP (n:=1) (by simp)
def qg:∀y∈(["then","either","take"]:Vs),PyData.strOk y=true:=fc
def EG{s0:aF}(n:Nat)(ih:lF n s0):lF (n+1) (Bs 3 (cO s0)):=by
 intro S t js us a kvs Q E hd hg ha hk k
 unfold cO
 refine im ?_
 rw[Bd.Ds,show aC 3 [.tup (.str t.hd::t.tl),.ref a]=[some (.tup (.str t.hd::t.tl)),some (.ref a),none] from rfl]
 refine al fun N hN=>?_
 simp only[bq,aI,ah,v3,lk,c3,ag,dU,bo,Bool.false_bne,decide_eq_true_eq]
 by_cases h1:t.hd=("put":Str)
 ·rw[if_pos h1]
  cases t with
  |put z m=>
   obtain⟨y,hy,ey⟩:=hk.get hg.1
   simp only[Bd.hd,Bd.tl,az,aB,ao,l7,ah,v3,lk,c3,ag,jf,xO,ha,hV,ey]
   exact k (.put y m) ⟨hy,hg.2⟩ ⟨rfl,rfl,rfl,rfl⟩
  |_=>simp[Bd.hd,aA]at h1
 rw[if_neg h1]
 simp only[aO]
 refine hN _ _ (al fun N hN=>?_)
 simp only[bq,aI,ah,v3,lk,c3,ag,dU,bo,Bool.false_bne,decide_eq_true_eq]
 by_cases h2:t.hd=("often":Str)
 ·rw[if_pos h2]
  cases t with
  |BC b=>
   simp only[Bd.dep]at hd
   simp only[Bd.hd,Bd.tl,az,aB,ao,ae,ah,v3,lk,c3,ag,jf]
   refine ih (by omega) hg ha hk fun u gu ku=>?_
   exact k (.BC u) gu ⟨by simp only[Bd.dep,ku.dp],by simp only[Bd.size,ku.sz],rfl,by simp only[Bd.Bi,ku.pc,ku.rc]⟩
  |_=>simp[Bd.hd,aA]at h2
 rw[if_neg h2]
 simp only[aO]
 refine hN _ _ (al fun N hN=>?_)
 simp only[bq,aI,ah,v3,lk,c3,ag,dU,aB,ao]
 rw[show([PV.str "then",PV.str "either",PV.str "take"]:List PV)=(["then","either","take"]:Vs).map PV.str from rfl]
 refine bT t.DU qg ?_
 rw[Bool.false_bne]
 by_cases h3:t.hd∈(["then","either","take"]:Vs)
 ·rw[decide_eq_true h3]
  simp only[if_true]
  have sides:∀(hd2:List PV) (a b:Bd),(.str t.hd::t.tl)=hd2++[a.pv,b.pv]->Ck (.str t.hd::t.tl) (-1)=some b.pv/\Ck (.str t.hd::t.tl) (-2)=some a.pv:=fun hd2 a b e1=>⟨by rw[e1];have:=gM (a:=a.pv) (b:=b.pv) (hd:=hd2) (i:=1) (.inr rfl);simpa using this,by rw[e1];have:=gM (a:=a.pv) (b:=b.pv) (hd:=hd2) (i:=0) (.inl rfl);simpa using this⟩
  have two:∀(a' b':Bd) (hd2:List PV) (N':b3->av->Prop),(.str t.hd::t.tl)=hd2++[a'.pv,b'.pv]->a'.dep<=n->b'.dep<=n->a'.good js us->b'.good js us->(∀u v:Bd,u.good js us->v.good js us->FD a' u->FD b' v->N' [some (.tup (.str t.hd::t.tl)),some (.ref a),some (.tup [u.pv,v.pv])] S)->
    au 2 (aB [ae s0 [ah ag (v3 0) (iY cp (c3 (.int 2))),v3 1],ae s0 [ah ag (v3 0) (iY cp (c3 (.int 1))),v3 1]]) { nx:=N',rt:=Q,ex:=eI } [some (.tup (.str t.hd::t.tl)),some (.ref a),none] S:=by
   intro a' b' hd2 N' e1 da db ga gb kk
   simp only[au,aB,ao,ae,ah,v3,lk,c3,ag,iY,cp,(sides hd2 a' b' e1).2]
   refine ih da ga ha hk fun u gu ku=>?_
   simp only[(sides hd2 a' b' e1).1]
   exact ih db gb ha hk fun v gv kv=>kk u v gu gv ku kv
  refine al fun N2 Cc=>?_
  cases t with
  |Bh x y=>
   simp only[Bd.dep]at hd
   refine two x y [.str "then"] _ rfl (by omega) (by omega) hg.1 hg.2 fun u v gu gv ku kv=>Cc _ _ (al fun N3 EB=>?_)
   have en:decide (("then":Str) = "take")=false:=by decide
   simp only[bq,aI,ah,v3,lk,c3,ag,dU,bo,Bool.false_bne,Bd.hd,en,Bool.false_eq_true,if_false,aO]
   refine EB _ _ ?_
   simp only[Bd.hd,Bd.tl,az,ah,bd,j4,jx,j5,v3,lk,c3,oM,aV]
   refine⟨cy (by simp),?_⟩
   exact k (.Bh u v) ⟨gu,gv⟩ ⟨by simp only[Bd.dep,ku.dp,kv.dp],by simp only[Bd.size,ku.sz,kv.sz],by simp only[Bd.Bf,ku.pc,kv.pc],by simp only[Bd.Bi,ku.rc,kv.rc]⟩
  |BG x y=>
   simp only[Bd.dep]at hd
   refine two x y [.str "either"] _ rfl (by omega) (by omega) hg.1 hg.2 fun u v gu gv ku kv=>Cc _ _ (al fun N3 EB=>?_)
   have en:decide (("either":Str) = "take")=false:=by decide
   simp only[bq,aI,ah,v3,lk,c3,ag,dU,bo,Bool.false_bne,Bd.hd,en,Bool.false_eq_true,if_false,aO]
   refine EB _ _ ?_
   simp only[Bd.hd,Bd.tl,az,ah,bd,j4,jx,j5,v3,lk,c3,oM,aV]
   refine⟨cy (by simp),?_⟩
   exact k (.BG u v) ⟨gu,gv⟩ ⟨by simp only[Bd.dep,ku.dp,kv.dp],by simp only[Bd.size,ku.sz,kv.sz],by simp only[Bd.Bf,ku.pc,kv.pc],by simp only[Bd.Bi,ku.rc,kv.rc]⟩
  |BB z m x y=>
   simp only[Bd.dep]at hd
   refine two x y [.str "take",.str z,.int m] _ rfl (by omega) (by omega) hg.2.2.2.1 hg.2.2.2.2 fun u v gu gv ku kv=>Cc _ _ (al fun N3 EB=>?_)
   obtain⟨y',hy,ey⟩:=hk.get hg.1
   simp only[bq,aI,ah,v3,lk,c3,ag,dU,bo,Bool.false_bne,Bd.hd,decide_true,if_true]
   simp only[Bd.hd,Bd.tl,az,aB,ao,l7,ah,v3,lk,c3,ag,jf,xO,ha,hV,ey,aV]
   refine⟨cy (by simp),?_⟩
   exact k (.BB y' m u v) ⟨hy,hg.2.1,hg.2.2.1,gu,gv⟩ ⟨by simp only[Bd.dep,ku.dp,kv.dp],by simp only[Bd.size,ku.sz,kv.sz],by simp only[Bd.Bf,ku.pc,kv.pc],by simp only[Bd.Bi,ku.rc,kv.rc]⟩
  |_=>simp[Bd.hd,aA]at h3
 ·rw[decide_eq_false h3]
  simp only[Bool.false_eq_true,if_false,aO]
  refine hN _ _ ?_
  simp only[az,v3,lk]
  rw[<-Bd.Ds]
  exact k t hg ⟨rfl,rfl,rfl,rfl⟩
structure HP (js:Vs) (ds:List (Str×Bd)):Prop extends HG js ds where
 pc:∀p∈ds,p.2.Bf+p.2.Bi<=1000
def FD.refl(t:Bd):FD t t:=⟨rfl,rfl,rfl,rfl⟩
def mr{α:Type}{xs:List α}{y:α}:Ck (xs++[y]) (-1)=some y:=by
 unfold Ck o3
 rw[if_neg (by omega),if_pos (by simp;omega)]
 have:(-1+((xs++[y]).length:Int)).toNat=xs.length:=by simp;omega
 rw[this]
 show(xs++[y])[xs.length]?=some y
 simp
def xy{α:Type}{xs:List α}:B7 xs none (some (-1))=xs.take (xs.length - 1):=by
 unfold B7
 rw[HT.ji,List.drop_zero,Nat.sub_zero]
 congr 1
 have:HT.By xs.length xs.length (some (-1))=if (-1:Int) < 0 then (-1+((xs.length:Nat):Int)).toNat else min (-1:Int).toNat xs.length:=rfl
 rw[this,if_pos (by decide)]
 omega
def qh{js:Vs}{a b:Str}(ha:a∈js)(hb:b∈js):Gy js (cM [] [(.inr a,.str b),(.inr b,.str a)]):=by
 intro z v h
 have e1:hZ [] (Sum.inr a:bb) (.str b)=[(.inr a,.str b)]:=rfl
 have:cM [] [(.inr a,.str b),(.inr b,.str a)]=hZ (hZ [] (Sum.inr a:bb) (.str b)) (.inr b) (.str a):=rfl
 rw[this,e1]at h
 unfold hZ at h
 split at h
 ·simp only[List.map_cons,List.map_nil]at h
  split at h
  ·simp only[dB]at h
   split at h
   ·cases h;exact⟨a,ha,rfl⟩
   ·cases h
  ·simp only[dB]at h
   split at h
   ·cases h;exact⟨b,hb,rfl⟩
   ·cases h
 ·simp only[List.cons_append,List.nil_append,dB]at h
  split at h
  ·cases h;exact⟨b,hb,rfl⟩
  ·split at h
   ·cases h;exact⟨a,ha,rfl⟩
   ·cases h
def A8{r n:Nat}(h:r < n):seqIndex? (r:Int) n=some r:=by
 unfold seqIndex?
 simp
 omega
theorem kO{α β:Type}(f:α->β):∀(xs:List α) (i:Nat),(xs.map f).eraseIdx i=(xs.eraseIdx i).map f
 |[],_=>rfl
 |_::_,0=>rfl
 |x::r,i+1=>by simp only[List.map_cons,List.eraseIdx_cons_succ,kO f r i]
def qi{xs:List PV}{i:Nat}(h:i < xs.length):∃y∈xs,Ck xs ((i:Int) - 1)=some y:=by
 cases i with
 |zero=>
  have hne:xs≠[]:=fun e=>by rw[e]at h;cases h
  refine⟨xs.getLast hne,List.getLast_mem hne,?_⟩
  have:=mr (xs:=xs.dropLast) (y:=xs.getLast hne)
  rw[List.dropLast_concat_getLast hne]at this
  exact this
 |succ i=>
  have e:(((i+1:Nat):Int) - 1)=(i:Int):=by omega
  exact⟨xs[i],List.getElem_mem _,by rw[e];exact jQ (List.getElem?_eq_getElem (by omega))⟩
structure Ep (S:av) (d l p po pb:Addr) (W O B:List PV):Prop where
 D:Bo S d l
 w:S p=some (.lst W)
 o:S po=some (.lst O)
 b:S pb=some (.lst B)
 n:p≠d/\p≠l/\po≠d/\po≠l/\pb≠d/\pb≠l/\p≠pb/\po≠pb
def Ep.CP{S S':av}{d l p po pb:Addr}{W O B:List PV}(h:Ep S d l p po pb W O B)(D':Bo S' d l)(X:Ca d l S S'):Ep S' d l p po pb W O B:=
 ⟨D',X _ _ h.w h.n.1 h.n.2.1,X _ _ h.o h.n.2.2.1 h.n.2.2.2.1,X _ _ h.b h.n.2.2.2.2.1 h.n.2.2.2.2.2.1,h.n⟩
theorem Ep.new{S:av}{d l p po pb q:Addr}{W O B:List PV}{o:SO}(h:Ep S d l p po pb W O B)(hq:S q=none):Ep (Bc S q o) d l p po pb W O B:=
 h.CP (h.D.new hq) (.new hq)
def Ep.put{S:av}{d l p po pb:Addr}{W O B B':List PV}(h:Ep S d l p po pb W O B):Ep (Bc S pb (.lst B')) d l p po pb W O B':=
 ⟨h.D.upd h.n.2.2.2.2.1 h.n.2.2.2.2.2.1,by rw[aj h.n.2.2.2.2.2.2.1];exact h.w,by rw[aj h.n.2.2.2.2.2.2.2];exact h.o,aa,h.n⟩
structure CB (js:Vs) (t:Bd):Prop where
 g:t.good js []
 d:t.dep<=3
 s:t.size<=5
 p:t.Bf+t.Bi<=9
structure CI (js:Vs) (t:Bd):Prop where
 g:t.good js []
 d:t.dep<=2
 s:t.size<=3
 p:t.Bf<=2
 r:t.Bi=0
def Bd.CA{t:Bd}(h:t.leaf):t.Bf=1/\t.Bi=0:=by cases t<;>first|exact⟨rfl,rfl⟩|exact h.elim
theorem CI.put{js:Vs}{z:Str}{m:Int}(hz:z∈js)(h0:1<=m)(h1:m<=9):CI js (.put z m):=⟨⟨hz,h0,h1⟩,by simp[Bd.dep],by simp[Bd.size],by simp[Bd.Bf],rfl⟩
theorem CI.BB{js:Vs}{z y:Str}{m m':Int}{f:Bd}(hz:z∈js)(h0:1<=m)(h1:m<=9)(hy:y∈js)(h2:1<=m')(h3:m'<=9)(hl:f.leaf)(hg:f.good js []):CI js (.BB y m' (.put z m) f):=
 ⟨⟨hy,h2,h3,⟨hz,h0,h1⟩,hg⟩,by simp only[Bd.dep,(Bd.BD hl).1];decide,by simp only[Bd.size,(Bd.BD hl).2];decide,by simp only[Bd.Bf,(Bd.CA hl).1];decide,by simp only[Bd.Bi,(Bd.CA hl).2]⟩
def CI.cb{js:Vs}{t:Bd}(h:CI js t):CB js t:=⟨h.g,by have:=h.d;omega,by have:=h.s;omega,by have:=h.p;have:=h.r;omega⟩
theorem CI.Bh{js:Vs}{t f:Bd}(h:CI js t)(hl:f.leaf)(hg:f.good js []):CB js (.Bh f t):=
 ⟨⟨hg,h.g⟩,by have:=h.d;have:=(Bd.BD hl).1;simp only[Bd.dep];omega,by have:=h.s;have:=(Bd.BD hl).2;simp only[Bd.size];omega,by have:=h.p;simp only[Bd.Bf,Bd.Bi,(Bd.CA hl).1,(Bd.CA hl).2,h.r];omega⟩
theorem CI.BG{js:Vs}{t f:Bd}(h:CI js t)(hl:f.leaf)(hg:f.good js []):CB js (.BG f t):=
 ⟨⟨hg,h.g⟩,by have:=h.d;have:=(Bd.BD hl).1;simp only[Bd.dep];omega,by have:=h.s;have:=(Bd.BD hl).2;simp only[Bd.size];omega,by have:=h.p;simp only[Bd.Bf,Bd.Bi,(Bd.CA hl).1,(Bd.CA hl).2,h.r];omega⟩
theorem CI.BC{js:Vs}{t:Bd}(h:CI js t):CB js (.BC t):=
 ⟨h.g,by have:=h.d;simp only[Bd.dep];omega,by have:=h.s;simp only[Bd.size];omega,by have:=h.p;have:=h.r;simp only[Bd.Bf,Bd.Bi];omega⟩
abbrev fZ(w:aF):Prop:=∀{S:av} {d l:Addr} {Q:ce} {E:cW},Bo S d l->(∀js ds S',HP js ds->Q (BZ js ds) S')->w [.ref d] S Q E
def Du{xw xd xl:aF}(Cb:dF xw)(Be:bB xd)(BX:iu xl):fZ (Bs 10 (dQ xw xd xl)):=by
 intro S0 d l Q E D0 k
 unfold dQ
 refine im ?_
 rw[show aC 10 [PV.ref d]=[some (.ref d),none,none,none,none,none,none,none,none,none] from rfl]
 refine al fun N hN=>?_
 walk_at "x"
 refine Cb D0 (by decide) (by decide) fun p ns S hl hnd hw0 _ DF hpl hp D O0=>?_
 have Jr:ns.length=8:=hl
 refine hN _ _ (al fun N hN=>?_)
 walk_at "x"
 refine Be D (by decide) (by decide) fun r S1 r0 r1 D1 O1=>?_
 obtain⟨j,ej⟩:∃j:Nat,1+r=(j:Int):=⟨(1+r).toNat,by omega⟩
 have hp1:=O1 _ _ hp DF hpl
 dsimp only
 rw[ej,hp1]
 dsimp only
 rw[jP (by rw[List.length_map];omega),<-List.map_take]
 have hj4:j<=4:=by omega
 have hj1:1<=j:=by omega
 intro p2 hp2
 have n2:=D1.free hp2
 have D2:Bo (Bc S1 p2 (.lst ((ns.take j).map PV.str))) d l:=D1.new hp2
 have f2:(Bc S1 p2 (.lst ((ns.take j).map PV.str))) p2=some (.lst ((ns.take j).map PV.str)):=aa
 have Gz:p≠p2:=fun h=>by rw[h,hp2]at hp1;cases hp1
 have hp2':(Bc S1 p2 (.lst ((ns.take j).map PV.str))) p=some (.lst (ns.map PV.str)):=by rw[aj Gz];exact hp1
 generalize Bc S1 p2 (.lst ((ns.take j).map PV.str))=S2 at D2 f2 hp2'
 have Hs:(ns.take j).length=j:=by rw[List.length_take];omega
 have Im:∀z∈ns.take j,IsW z:=fun z hz=>(hw0 z (List.mem_of_mem_take hz)).1
 generalize ns.take j=js at f2 Hs Im
 refine hN _ _ (al fun N hN=>?_)
 walk_at "x"
 simp only[f2]
 refine hN _ _ (al fun N hN=>?_)
 simp only[List.set_cons_zero,List.set_cons_succ,au,a_,ba,v3,lk,cj]
 refine cm (fun done ys S'=>∃os rs:List Str,ys=os.map PV.str/\os.length=done.length/\rs.length+done.length=j/\(∀z∈os,z∈js)/\(∀z∈rs,z∈js)/\Bo S' d l/\S' p2=some (.lst (rs.map PV.str))/\S' p=some (.lst (ns.map PV.str))) ⟨[],js,rfl,rfl,Hs,by simp,fun z h=>h,D2,f2,hp2'⟩ ?_ ?_ ?_
 ·rintro done ys S' ⟨os,rs,rfl,e,l1,_⟩
  exact⟨trivial,cy (by rw[List.length_map,e];omega)⟩
 ·rintro done x rest ys S' K e ⟨os,rs,rfl,e1,e2,ho,hr,D',f',w'⟩ hK
  have hlen:done.length < j:=by
   have:(js.map PV.str).length=done.length+(rest.length+1):=by rw[e,List.length_append,List.length_cons]
   rw[List.length_map]at this
   omega
  simp only[Tg.put,fA,List.reduceReplicate,List.map_cons,List.map_nil,List.cons_append,List.nil_append,List.set_cons_zero,List.set_cons_succ,lk,cL,if_true,eF,mI,ao,ae,am,v3,bw,f',true_and,List.length_map,List.getElem?_cons_zero,List.getElem?_cons_succ,Option.join]
  refine Be D' (by omega) (by omega) fun r S3 r0 r1 D3 O3=>?_
  obtain⟨i,rfl⟩:∃i:Nat,r=(i:Int):=⟨r.toNat,by omega⟩
  have hi:i < rs.length:=by omega
  have f3:=O3 _ _ f' n2.1 n2.2
  simp only[l4,f3,List.length_map,A8 hi,List.getElem?_map,List.getElem?_eq_getElem hi,Option.map_some]
  refine⟨by omega,by omega,hK _ _ ⟨os++[rs[i]],rs.eraseIdx i,by rw[List.map_append];rfl,by rw[List.length_append,List.length_append,e1];rfl,?_,?_,?_,D3.upd n2.1 n2.2,?_,?_⟩⟩
  ·rw[List.length_eraseIdx_of_lt hi,List.length_append,List.length_singleton];omega
  ·intro z hz
   rcases List.mem_append.mp hz with h|h
   ·exact ho z h
   ·rw[List.mem_singleton.mp h];exact hr _ (List.getElem_mem hi)
  ·exact fun z hz=>hr z (List.mem_of_mem_eraseIdx hz)
  ·rw[aa,kO]
  ·rw[aj Gz];exact O3 _ _ w' DF hpl
 rintro ys S3 ⟨os,rs,rfl,eo,_,ho,_,D3,_,w3⟩ po Ht
 rw[List.length_map,Hs]at eo
 have Io:=D3.free Ht
 have Jv:p≠po:=fun h=>by rw[h,Ht]at w3;cases w3
 refine hN _ _ (al fun N hN=>?_)
 walk_at "x"
 intro pb FE
 have D4:=(D3.new (o:=.lst (os.map PV.str)) Ht)
 have Ip:=D4.free FE
 have H0:Ep (Bc (Bc S3 po (.lst (os.map PV.str))) pb (.lst [])) d l p po pb (ns.map PV.str) (os.map PV.str) (([]:List Bd).map Bd.pv):=by
  have a:(Bc S3 po (.lst (os.map PV.str))) p=some (.lst (ns.map PV.str)):=by rw[aj Jv];exact w3
  have b:(Bc S3 po (.lst (os.map PV.str))) po=some (.lst (os.map PV.str)):=aa
  have n1:p≠pb:=fun h=>by rw[h,FE]at a;cases a
  have n2:po≠pb:=fun h=>by rw[<-h,b]at FE;cases FE
  exact⟨D4.new FE,by rw[aj n1];exact a,by rw[aj n2];exact b,aa,DF,hpl,Io.1,Io.2,Ip.1,Ip.2,n1,n2⟩
 generalize Bc (Bc S3 po (.lst (os.map PV.str))) pb (.lst [])=S4 at H0
 refine hN _ _ (al fun N hN=>?_)
 simp only[cX,dD,v3,lk,List.set_cons_zero,List.set_cons_succ,H0.o]
 refine cf (fun done σ S'=>∃(bs:List Bd) (x4 x7 x8 x9:Option PV),σ=[some (.ref d),some (.ref p),some (.ref p2),some (.tup (js.map PV.str)),x4,some (.ref po),some (.ref pb),x7,x8,x9]/\Ep S' d l p po pb (ns.map PV.str) (os.map PV.str) (bs.map Bd.pv)/\bs.length=done.length/\done.length<=j/\∀t∈bs,CB js t) ⟨[],_,_,_,_,rfl,H0,rfl,Nat.zero_le _,by simp⟩ (fun _ _ _ ⟨_,_,_,_,_,_,H,_⟩=>H.o) ?_ ?_
 ·rintro done x rest σ S' K e ⟨bs,x4,x7,x8,x9,rfl,H,lb,lj,hb⟩ hK
  obtain⟨y,rfl,hy⟩:=fe e
  obtain⟨z,hz,rfl⟩:∃z,os[done.length]?=some z/\.str z=y:=by rw[List.getElem?_map]at hy;exact Option.map_eq_some_iff.mp hy
  have hlt:done.length < os.length:=(List.getElem?_eq_some_iff.mp hz).1
  have ER:z∈js:=ho z (List.mem_of_getElem? hz)
  simp only[Tg.put,Tg.Bg,List.set_cons_zero,List.set_cons_succ]
  refine al fun N2 Cc=>?_
  simp only[au,aB,ao,ah,ae,v3,lk,c3]
  refine Be H.D (by decide) (by decide) fun r1 S1 a0 a1 D1 O1=>?_
  have H1:=H.CP D1 O1
  simp only[aV,List.set_cons_zero,List.set_cons_succ]
  refine Cc _ _ (al fun N2 Cc=>?_)
  have next:∀(t:Bd) (S2:av),CI js t->Ep S2 d l p po pb (ns.map PV.str) (os.map PV.str) (bs.map Bd.pv)->N2 [some (.ref d),some (.ref p),some (.ref p2),some (.tup (js.map PV.str)),some (.str z),some (.ref po),some (.ref pb),some (.int done.length),some t.pv,x9] S2:=by
   intro t S2 ht H2
   refine Cc _ _ (al fun N3 EB=>?_)
   simp only[au,bn,aB,ao,ae,v3,lk,c3]
   intro e1 E7
   have n1:=H2.D.free E7
   refine BX (js:=js) (H2.new E7).D aa n1.1 n1.2 fun f1 S3 l1 g1 D3 O3=>?_
   have H3:=(H2.new E7).CP D3 O3
   intro e2 Hu
   have n2:=H3.D.free Hu
   refine BX (js:=js) (H3.new Hu).D aa n2.1 n2.2 fun f2 S4 l2 g2 D4 O4=>?_
   have H4:=(H3.new Hu).CP D4 O4
   intro p9 hp9
   have n9:=H4.D.free hp9
   have H5:=H4.new (o:=.lst [.tup [.str "then",f1.pv,t.pv],.tup [.str "often",t.pv],.tup [.str "either",f2.pv,t.pv]]) hp9
   have f5:(Bc S4 p9 (.lst [.tup [.str "then",f1.pv,t.pv],.tup [.str "often",t.pv],.tup [.str "either",f2.pv,t.pv]])) p9=some (.lst [.tup [.str "then",f1.pv,t.pv],.tup [.str "often",t.pv],.tup [.str "either",f2.pv,t.pv]]):=aa
   refine EB _ _ ?_
   generalize Bc S4 p9 (.lst [.tup [.str "then",f1.pv,t.pv],.tup [.str "often",t.pv],.tup [.str "either",f2.pv,t.pv]])=S5 at H5 f5
   simp only[List.set_cons_zero,List.set_cons_succ,aW,eF,mI,ao,ah,ae,am,bn,v3,lk,c3,bw,aV,H5.b,true_and,List.length_map]
   refine Be (m:=(bs.length:Int)+1) H5.D (by omega) (by omega) fun r6 S6 b0 b1 D6 O6=>?_
   have H6:=H5.CP D6 O6
   have f6:=O6 _ _ f5 n9.1 n9.2
   simp only[ag,f6,dU,jf,xO]
   intro p10 FF
   have Iq:=H6.D.free FF
   refine Be (H6.new FF).D (by decide) (by decide) fun r7 S7 c0 c1 D7 O7=>?_
   have H7:=(H6.new FF).CP D7 O7
   have f7:=O7 _ _ (aa (S:=S6)) Iq.1 Iq.2
   simp only[f7]
   obtain⟨v,hv,hm⟩:=dW (xs:=[t.pv,.tup [.str "then",f1.pv,t.pv],.tup [.str "often",t.pv],.tup [.str "either",f2.pv,t.pv]]) c0 (by simpa using c1)
   rw[hv]
   obtain⟨u,hu,rfl⟩:∃u,CB js u/\u.pv=v:=by
    simp only[List.mem_cons,List.not_mem_nil,or_false]at hm
    rcases hm with rfl|rfl|rfl|rfl
    ·exact⟨t,ht.cb,rfl⟩
    ·exact⟨_,ht.Bh l1 g1,rfl⟩
    ·exact⟨_,ht.BC,rfl⟩
    ·exact⟨_,ht.BG l2 g2,rfl⟩
   simp only[jc,H7.b]
   refine⟨b0,by rw[List.length_map];omega,Nat.lt_of_lt_of_le (show(bs.map Bd.pv).length < 5 by rw[List.length_map];omega) (by decide),?_⟩
   refine hK _ _ ⟨bs.take r6.toNat++u::bs.drop r6.toNat,_,_,_,_,rfl,?_,?_,?_,?_⟩
   ·rw[List.map_append,List.map_cons,List.map_take,List.map_drop]
    exact H7.put
   ·rw[List.length_append,List.length_cons,List.length_take,List.length_drop,List.length_append,List.length_singleton];omega
   ·rw[List.length_append,List.length_singleton];omega
   ·intro w hw
    rcases List.mem_append.mp hw with h|h
    ·exact hb w (List.mem_of_mem_take h)
    ·rcases List.mem_cons.mp h with rfl|h
     ·exact hu
     ·exact hb w (List.mem_of_mem_drop h)
  have take:∀(S2:av),Ep S2 d l p po pb (ns.map PV.str) (os.map PV.str) (bs.map Bd.pv)->au 8 (aB [c3 (.str "take"),ah ag (v3 5) (ah bA (v3 7) (c3 (.int 1))),ah aV (c3 (.int 1)) (ae xd [v3 0,c3 (.int 9)]),v3 8,ae xl [v3 0,bn []]]) { nx:=N2,rt:=Q,ex:=eI,ct:=K,bk:=N } [some (.ref d),some (.ref p),some (.ref p2),some (.tup (js.map PV.str)),some (.str z),some (.ref po),some (.ref pb),some (.int done.length),some (.tup [.str "put",.str z,.int (1+r1)]),x9] S2:=by
   intro S2 H2
   obtain⟨y,hy,ey⟩:=qi (xs:=os.map PV.str) (i:=done.length) (by rw[List.length_map];exact hlt)
   obtain⟨y,Jw,rfl⟩:=List.mem_map.mp hy
   simp only[au,aB,ao,ah,ae,bn,v3,lk,c3,bA,ag,bP,H2.o,ey]
   refine Be H2.D (by decide) (by decide) fun r2 S3 b0 b1 D3 O3=>?_
   have H3:=H2.CP D3 O3
   simp only[aV]
   intro e1 E7
   have n1:=H3.D.free E7
   refine BX (js:=js) (H3.new E7).D aa n1.1 n1.2 fun f S4 Jx hgf D4 O4=>?_
   have H4:=(H3.new E7).CP D4 O4
   exact next (.BB y (1+r2) (.put z (1+r1)) f) S4 (.BB ER (by omega) (by omega) (ho y Jw) (by omega) (by omega) Jx hgf) H4
  simp only[bq,gc,aI,ah,am,ao,ae,v3,lk,c3,jX,bP,decide_eq_true_eq]
  split
  ·rw[if_pos trivial];exact take S1 H1
  ·refine Be H1.D (by decide) (by decide) fun r2 S2 b0 b1 D2 O2=>?_
   have H2:=H1.CP D2 O2
   simp only[bo,Bool.false_bne,decide_eq_true_eq]
   split
   ·exact take S2 H2
   ·simp only[aO]
    exact next (.put z (1+r1)) S2 (.put ER (by omega) (by omega)) H2
 ·rintro σ S5 ⟨bs,x4,x7,x8,x9,rfl,H,lb,lj,hb⟩
  refine hN _ _ ?_
  have EN:bs.length<=4:=by omega
  simp only[az,aB,ao,am,a_,dD,v3,lk,H.b]
  refine cm (fun done ys S'=>S'=S5/\∃es:List (Str×Bd),ys=es.map fJ/\es.length=done.length/\done.length<=bs.length/\∀q∈es,q.2∈bs) ⟨rfl,[],rfl,rfl,Nat.zero_le _,by simp⟩ ?_ ?_ ?_
  ·rintro done ys S' ⟨rfl,es,rfl,e,l1,_⟩
   exact⟨H.b,cy (by rw[List.length_map,e];omega)⟩
  ·rintro done x rest ys S' K e ⟨rfl,es,rfl,e2,l1,he⟩ hK
   obtain⟨y,rfl,hy⟩:=fe e
   obtain⟨t,ht,rfl⟩:∃t,bs[done.length]?=some t/\t.pv=y:=by rw[List.getElem?_map]at hy;exact Option.map_eq_some_iff.mp hy
   have hlt:done.length < bs.length:=(List.getElem?_eq_some_iff.mp ht).1
   have h8:4+done.length < ns.length:=by omega
   have hat:Ck (ns.map PV.str) (4+(done.length:Int))=some (.str ns[4+done.length]):=by
    rw[show(4+(done.length:Int))=((4+done.length:Nat):Int) by omega]
    exact jQ (by rw[List.getElem?_map,List.getElem?_eq_getElem h8];rfl)
   simp only[Tg.put,Tg.Bg,fA,List.reduceReplicate,List.map_cons,List.map_nil,List.cons_append,List.nil_append,List.set_cons_zero,List.set_cons_succ,lk,cL,if_true,aB,ao,ah,c3,v3,aV,ag,List.getElem?_cons_zero,List.getElem?_cons_succ,Option.join,H.w,hat]
   refine hK _ _ ⟨rfl,es++[(ns[4+done.length],t)],by rw[List.map_append];rfl,by rw[List.length_append,List.length_append,e2];rfl,by rw[List.length_append,List.length_singleton];omega,fun q hq=>?_⟩
   rcases List.mem_append.mp hq with h|h
   ·exact he q h
   ·rw[List.mem_singleton.mp h];exact List.mem_of_getElem? ht
  ·rintro ys S' ⟨rfl,es,rfl,e,_,he⟩ pl hpl
   simp only[br,l0,aa]
   have hel:es.length<=1000:=by
    rw[e];unfold L3.aR;rw[List.length_mapIdx,List.length_map];omega
   refine k js es _ ⟨⟨fun z hz=>io (Im z hz),by omega,hel,fun q hq=>(hb _ (he q hq)).g,fun q hq=>by have:=(hb _ (he q hq)).d;omega,fun q hq=>by have:=(hb _ (he q hq)).s;omega⟩,fun q hq=>by have:=(hb _ (he q hq)).p;omega⟩
theorem dZ{α:Type}{g:Tg}{tc:gW}{te:aN}{σ':b3}{keep:av->Prop}{fin:List PV->av->Prop}{S:av}(enc f:α->PV)(c:α->Bool)(hk:keep S):∀(xs:List α) (ys:List PV),
  (∀x∈xs,∃σ2,g.put (enc x) σ'=some σ2/\(∀K:Bool->av->Prop,K (c x) S->tc σ2 S K eI)/\(c x=true->∀Q:ce,Q (f x) S->te σ2 S Q eI))->ys.length+xs.length<=sizeLine->fin (ys++(xs.filter c).map f) S->cY g tc te σ' keep fin (xs.map enc) ys S
 |[],ys,_,hl,hf=>⟨hk,by simpa using hl,by simpa using hf⟩
 |x::r,ys,h,hl,hf=>by
  obtain⟨σ2,e,h1,h2⟩:=h x (by simp)
  refine⟨hk,by simp at hl;omega,?_⟩
  rw[e]
  refine h1 _ ?_
  by_cases hc:c x=true
  ·rw[if_pos hc]
   refine h2 hc _ (dZ enc f c hk r (ys++[f x]) (fun y hy=>h y (by simp[hy])) (by simp at hl ⊢;omega) ?_)
   rw[List.filter_cons_of_pos hc]at hf
   simpa using hf
  ·rw[if_neg hc]
   refine dZ enc f c hk r ys (fun y hy=>h y (by simp[hy])) (by simp at hl;omega) ?_
   rw[List.filter_cons_of_neg hc]at hf
   exact hf
def HG.of{js:Vs}{ds es:List (Str×Bd)}(h:HG js ds)(l:es.length<=1000)(hs:∀p∈es,∃q∈ds,p.2.good js []/\FD q.2 p.2):HG js es:=
 ⟨h.jw,h.jl,l,fun p hp=>by obtain⟨q,hq,g,k⟩:=hs p hp;exact g,fun p hp=>by obtain⟨q,hq,g,k⟩:=hs p hp;rw[k.dp];exact h.dp q hq,fun p hp=>by obtain⟨q,hq,g,k⟩:=hs p hp;rw[k.sz];exact h.sz q hq⟩
abbrev iw(w:aF):Prop:=∀{S:av} {js:Vs} {ds:List (Str×Bd)} {Q:ce} {E:cW},HG js ds->
  (∀p (hs:List (List (Str×Bd))) S',S p=none->Ext S S'->S' p=some (.lst (hs.map (BZ js)))->hs.length<=4->(∀h∈hs,HG js h)->Q (.ref p) S')->w [BZ js ds] S Q E
def sx{xs:aF}(EG:lF 6 xs):iw (Bs 6 (fU xs)):=by
 intro S js ds Q E hP k
 unfold fU
 refine im ?_
 rw[show aC 6 [BZ js ds]=[some (.tup [.tup (js.map PV.str),.tup (ds.map fJ)]),none,none,none,none,none] from rfl]
 refine al fun N hN=>?_
 walk_at "x"
 refine hN _ _ (al fun N hN=>?_)
 walk_at "x"
 intro pk hpk
 have X0:Ext S (Bc S pk (.lst [BZ js ds])):=.new hpk
 have f0:(Bc S pk (.lst [BZ js ds])) pk=some (.lst ([ds].map (BZ js))):=aa
 rw[show PV.tup [.tup (js.map PV.str),.tup (ds.map fJ)]=BZ js ds from rfl]
 generalize Bc S pk (.lst [BZ js ds])=S0 at X0 f0
 refine hN _ _ (al fun N hN=>?_)
 -- what comes behind the first if
 have Fd:∀(x4 x5:Option PV) (hs:List (List (Str×Bd))) (S1:av),Ext S S1->S1 pk=some (.lst (hs.map (BZ js)))->hs.length<=3->(∀h∈hs,HG js h)->N [some (BZ js ds),some (.tup (js.map PV.str)),some (.tup (ds.map fJ)),some (.ref pk),x4,x5] S1:=by
  intro x4 x5 hs S1 X1 f1 l1 g1
  refine hN _ _ (al fun N hN=>?_)
  have last:∀(x4 x5:Option PV) (hs:List (List (Str×Bd))) (S1:av),Ext S S1->S1 pk=some (.lst (hs.map (BZ js)))->hs.length<=4->(∀h∈hs,HG js h)->N [some (BZ js ds),some (.tup (js.map PV.str)),some (.tup (ds.map fJ)),some (.ref pk),x4,x5] S1:=by
   intro x4 x5 hs S1 X1 f1 l1 g1
   refine hN _ _ ?_
   walk_at "x"
   exact k pk hs S1 hpk X1 f1 l1 g1
  simp only[bq,aI,ah,am,ao,v3,lk,c3,bw,jX,bP,decide_eq_true_eq,List.length_map]
  split
  ·rename_i hj
   refine al fun N2 Cc=>?_
   obtain⟨ja,Ir⟩:∃a,js[0]?=some a:=⟨js[0]'(by omega),List.getElem?_eq_getElem (by omega)⟩
   have Hv:Ck (js.map PV.str) 0=some (.str ja):=jQ (n:=0) (by rw[List.getElem?_map,Ir];rfl)
   have hne:js≠[]:=fun h=>by rw[h]at hj;simp at hj
   obtain⟨jr,jb,Is⟩:∃r b,js=r++[b]:=⟨js.dropLast,js.getLast hne,(List.dropLast_concat_getLast hne).symm⟩
   have Hw:Ck (js.map PV.str) (-1)=some (.str jb):=by rw[Is,List.map_append];exact mr
   simp only[au,jG,fP,ah,v3,lk,c3,ag,iY,cp,Hv,Hw]
   intro pd DF
   simp only[aa,true_and,kF,hV]
   have X2:Ext S1 (Bc (Bc S1 pd (.dct [])) pd (.dct (cM [] [(.inr ja,.str jb),(.inr jb,.str ja)]))):=fun a o h=>by
    have n:a≠pd:=fun e=>by rw[e,DF]at h;cases h
    rw[aj n,aj n];exact h
   have f2:(Bc (Bc S1 pd (.dct [])) pd (.dct (cM [] [(.inr ja,.str jb),(.inr jb,.str ja)]))) pd=some (.dct (cM [] [(.inr ja,.str jb),(.inr jb,.str ja)])):=aa
   generalize (Bc (Bc S1 pd (.dct [])) pd (.dct (cM [] [(.inr ja,.str jb),(.inr jb,.str ja)])))=S2 at X2 f2
   have sw:=qh (js:=js) (a:=ja) (b:=jb) (List.mem_of_getElem? Ir) (by rw[Is];simp)
   generalize cM [] [(.inr ja,.str jb),(.inr jb,.str ja)]=kvs at f2 sw
   have FG:=X2 _ _ f1
   have Jy:=X1.trans X2
   refine Cc _ _ ?_
   simp only[List.set_cons_zero,List.set_cons_succ,aW,eF,mI,ao,aB,am,v3,lk,FG,true_and,a_,ba,cj]
   refine cm (fun done ys S'=>S'=S2/\∃es:List (Str×Bd),ys=es.map fJ/\es.length=done.length/\done.length<=ds.length/\∀p∈es,∃q∈ds,p.2.good js []/\FD q.2 p.2) ⟨rfl,[],rfl,rfl,Nat.zero_le _,by simp⟩ ?_ ?_ ?_
   ·rintro done ys S' ⟨_,es,rfl,e,l,_⟩
    exact⟨trivial,cy (by rw[List.length_map,e];have:=hP.dl;omega)⟩
   ·rintro done x rest ys S' K e ⟨rfl,es,rfl,e2,l,he⟩ hK
    obtain⟨q,hq,rfl⟩:∃q∈ds,fJ q=x:=List.mem_map.mp (by rw[e];simp)
    simp only[fJ,Tg.put,Tg.Bg,fA,List.reduceReplicate,List.map_cons,List.map_nil,List.cons_append,List.nil_append,List.set_cons_zero,List.set_cons_succ,lk,cL,if_true,aB,ao,ae,v3,List.getElem?_cons_zero,List.getElem?_cons_succ,Option.join]
    refine EG (hP.dp q hq) (hP.gd q hq) f2 sw fun u gu ku=>hK _ _ ⟨rfl,es++[(q.1,u)],by rw[List.map_append];rfl,by rw[List.length_append,List.length_append,e2];rfl,?_,?_⟩
    ·have:(ds.map fJ).length=done.length+(rest.length+1):=by rw[e,List.length_append,List.length_cons]
     rw[List.length_map]at this
     rw[List.length_append,List.length_singleton];omega
    ·intro p hp
     rcases List.mem_append.mp hp with h|h
     ·exact he p h
     ·rw[List.mem_singleton.mp h];exact⟨q,hq,gu,ku⟩
   ·rintro ys S' ⟨rfl,es,rfl,e,_,he⟩ pl hpl
    rw[List.length_map]at e
    simp only[br,l0,aa]
    have nk:pk≠pl:=fun h=>by rw[h,hpl]at FG;cases FG
    have hle:hs.length+1<=4:=by omega
    simp only[bh,aj nk,FG]
    refine⟨Nat.lt_of_lt_of_le (show(hs.map (BZ js)).length < 5 by rw[List.length_map];omega) (by decide),?_⟩
    refine last _ _ (hs++[es]) _ ((Jy.trans (.new hpl)).put hpk) (by rw[aa,List.map_append];rfl) (by rw[List.length_append];exact hle) fun h hh=>?_
    rcases List.mem_append.mp hh with hh|hh
    ·exact g1 h hh
    ·rw[List.mem_singleton.mp hh];exact HG.of hP (by rw[e];exact hP.dl) he
  ·simp only[aO]
   exact last _ _ hs S1 X1 f1 (by omega) g1
 simp only[bq,aI,ah,am,ao,v3,lk,c3,bw,jX,bP,decide_eq_true_eq,List.length_map]
 split
 ·rename_i hd
  have hd':1 < ds.length:=by omega
  refine al fun N2 Cc=>?_
  simp only[au,a_,ba,v3,lk,cj]
  have dl:=hP.dl
  refine iq (fun p:Str×Bd=>fJ p) (fun p=>.str p.1) trivial ds [] (fun x hx=>⟨_,rfl,fun Q q=>q⟩) (by rw[List.length_nil,Nat.zero_add];exact cy dl) ?_
  intro pn Fa
  rw[List.nil_append]
  have X1:Ext S0 (Bc S0 pn (.lst (ds.map fun p=>.str p.1))):=.new Fa
  have Iu:(Bc S0 pn (.lst (ds.map fun p=>.str p.1))) pn=some (.lst (ds.map fun p=>.str p.1)):=aa
  generalize (Bc S0 pn (.lst (ds.map fun p=>.str p.1)))=S1 at X1 Iu
  refine Cc _ _ (al fun N2 Cc=>?_)
  simp only[au,a_,ba,v3,lk,cj,List.set_cons_zero,List.set_cons_succ]
  refine iq (fun p:Str×Bd=>fJ p) (fun p=>p.2.pv) trivial ds [] (fun x hx=>⟨_,rfl,fun Q q=>q⟩) (by rw[List.length_nil,Nat.zero_add];exact cy dl) ?_
  intro pb FE
  rw[List.nil_append]
  have X2:Ext S1 (Bc S1 pb (.lst (ds.map fun p=>p.2.pv))):=.new FE
  have Gd:(Bc S1 pb (.lst (ds.map fun p=>p.2.pv))) pb=some (.lst (ds.map fun p=>p.2.pv)):=aa
  have Hx:=X2 _ _ Iu
  generalize (Bc S1 pb (.lst (ds.map fun p=>p.2.pv)))=S2 at X2 Gd Hx
  refine Cc _ _ ?_
  have FG:=X2 _ _ (X1 _ _ f0)
  have Jz:=X0.trans (X1.trans X2)
  simp only[List.set_cons_zero,List.set_cons_succ,aW,eF,mI,ao,aB,bn,rR,ah,bd,j4,jx,j5,c3,iY,cp,v3,lk,FG,Hx,Gd,true_and]
  intro p1 hp1
  have n1:pb≠p1:=fun h=>by rw[h,hp1]at Gd;cases Gd
  simp only[aj n1,Gd]
  intro p2 hp2
  have hp2':S2 p2=none:=by
   by_cases e:p2=p1
   ·rw[e,aa]at hp2;cases hp2
   ·rw[aj e]at hp2;exact hp2
  have JA:p1≠p2:=fun h=>by rw[<-h,aa]at hp2;cases hp2
  simp only[aV,aa,aj JA]
  have hlb:1<=(ds.map fun p=>p.2.pv).length:=by rw[List.length_map];omega
  have Iw:B7 (ds.map fun p=>p.2.pv) (some 1) none=((ds.map Prod.snd).drop 1).map Bd.pv:=by rw[show(1:Int)=((1:Nat):Int)from rfl,xu hlb,List.map_drop,List.map_map];rfl
  have JB:B7 (ds.map fun p=>p.2.pv) none (some 1)=((ds.map Prod.snd).take 1).map Bd.pv:=by rw[show(1:Int)=((1:Nat):Int)from rfl,jP hlb,List.map_take,List.map_map];rfl
  simp only[Iw,JB]
  have Ix:((ds.map Prod.snd).drop 1).length+((ds.map Prod.snd).take 1).length=ds.length:=by simp only[List.length_drop,List.length_take,List.length_map];omega
  refine⟨cy (by rw[List.length_map,List.length_map,Ix];exact dl),?_⟩
  intro p3 hp3
  rw[<-List.map_append] 
  have X3:Ext S2 (Bc (Bc (Bc S2 p1 (.lst (((ds.map Prod.snd).drop 1).map Bd.pv))) p2 (.lst (((ds.map Prod.snd).take 1).map Bd.pv))) p3 (.lst (((ds.map Prod.snd).drop 1++(ds.map Prod.snd).take 1).map Bd.pv))):=(Ext.new hp1).trans ((Ext.new (by rw[Iw]at hp2;exact hp2)).trans (.new hp3))
  have f3:(Bc (Bc (Bc S2 p1 (.lst (((ds.map Prod.snd).drop 1).map Bd.pv))) p2 (.lst (((ds.map Prod.snd).take 1).map Bd.pv))) p3 (.lst (((ds.map Prod.snd).drop 1++(ds.map Prod.snd).take 1).map Bd.pv))) p3=some (.lst (((ds.map Prod.snd).drop 1++(ds.map Prod.snd).take 1).map Bd.pv)):=aa
  generalize Bc (Bc (Bc S2 p1 (.lst (((ds.map Prod.snd).drop 1).map Bd.pv))) p2 (.lst (((ds.map Prod.snd).take 1).map Bd.pv))) p3 (.lst (((ds.map Prod.snd).drop 1++(ds.map Prod.snd).take 1).map Bd.pv))=S3 at X3 f3
  have Bs:=X3 _ _ Hx
  have Hy:=X3 _ _ FG
  simp only[Bs,f3]
  refine⟨by rw[List.length_map,List.length_map,List.length_append,Ix],by rw[List.length_map];omega,?_⟩
  have ez:jE (ds.map fun p=>PV.str p.1) (((ds.map Prod.snd).drop 1++(ds.map Prod.snd).take 1).map Bd.pv)=((ds.map Prod.fst).zip ((ds.map Prod.snd).drop 1++(ds.map Prod.snd).take 1)).map fJ:=by
   unfold jE
   rw[show(ds.map fun p=>PV.str p.1)=(ds.map Prod.fst).map PV.str by rw[List.map_map];rfl,List.zip_map,List.map_map]
   rfl
  rw[ez,xy,<-List.map_take]
  intro p4 FN
  have n4:pk≠p4:=fun h=>by rw[h,FN]at Hy;cases Hy
  simp only[bt,aa,aj n4,Hy]
  refine⟨cy (by simp),?_⟩
  refine Fd _ _ [ds,ds.take (ds.length - 1),(ds.map Prod.fst).zip ((ds.map Prod.snd).drop 1++(ds.map Prod.snd).take 1)] _ ((Jz.trans (X3.trans (.new FN))).put hpk) (by rw[aa,List.length_map];rfl) (by simp) fun h hh=>?_
  simp only[List.mem_cons,List.not_mem_nil,or_false]at hh
  rcases hh with rfl|rfl|rfl
  ·exact hP
  ·exact HG.of hP (Nat.le_trans (List.length_take_le _ _) (by omega)) fun p hp=>⟨p,List.mem_of_mem_take hp,hP.gd p (List.mem_of_mem_take hp),.refl _⟩
  ·refine HG.of hP (by rw[List.length_zip,List.length_map];omega) fun p hp=>?_
   have h2:=(List.of_mem_zip hp).2
   have h3:p.2∈ds.map Prod.snd:=by
    rcases List.mem_append.mp h2 with h|h
    ·exact List.mem_of_mem_drop h
    ·exact List.mem_of_mem_take h
   obtain⟨q,hq,e⟩:=List.mem_map.mp h3
   exact⟨q,hq,by rw[<-e];exact hP.gd q hq,by rw[<-e];exact .refl _⟩
 ·simp only[aO]
  exact Fd _ _ [ds] S0 X0 f0 (by simp) fun h hh=>by rw[List.mem_singleton.mp hh];exact hP
noncomputable def jY:PV->PV
 | .tup (x::_)=>x
 |v=>v
noncomputable def d0:PV->PV
 | .tup [_,y]=>y
 |v=>v
noncomputable def nm:PV->Int
 | .int i=>i
 |_=>0
noncomputable def As:PV->List PV
 | .tup xs=>xs
 |_=>[]
noncomputable def cv:Bd->PV->Nat
 | .rest,_=>0
 | .pay _ _,_=>1
 | .put _ _,_=>2
 | .use _,_=>1
 | .Bh a b,v=>cv a (jY v)+cv b (d0 v)
 | .BG a b,v=>(if nm (jY v)=0 then cv a (d0 v) else cv b (d0 v))+1
 | .BB _ _ a b,v=>(if nm (jY v)=0 then cv a (d0 v) else cv b (d0 v))+2
 | .BC a,v=>(As v).foldl (fun k g=>k+(nm (jY g)).toNat * (cv a (d0 g)+1)) 0+1
noncomputable def Cl:Bd->PV->List (Str×Int)
 | .put z m,_=>[(z,m)]
 | .Bh a b,v=>Cl a (jY v)++Cl b (d0 v)
 | .BG a b,v=>if nm (jY v)=0 then Cl a (d0 v) else Cl b (d0 v)
 | .BB z m a b,v=>if nm (jY v)=0 then (z,0 - m)::Cl a (d0 v) else Cl b (d0 v)
 | .BC a,v=>(As v).flatMap fun g=>Cl a (d0 g)
 |_,_=>[]
noncomputable def nN:Bd->Nat
 | .BC a=>nN a+1
 | .Bh a b=>nN a+nN b
 | .BG a b=>nN a+nN b
 | .BB _ _ a b=>nN a+nN b
 |_=>0
noncomputable def uQ:Bd->PV->PV
 | .Bh a b,v=>.tup [uQ a (jY v),uQ b (d0 v)]
 | .BG a b,v=>.tup [jY v,if nm (jY v)=0 then uQ a (d0 v) else uQ b (d0 v)]
 | .BB _ _ a b,v=>.tup [jY v,if nm (jY v)=0 then uQ a (d0 v) else uQ b (d0 v)]
 |_,_=>.tup []
abbrev Gi:=Nat×PV×Int×Bd
noncomputable def nO:Bd->PV->Nat->Int->List Gi
 | .Bh a b,v,k,m=>nO a (jY v) k m++nO b (d0 v) (k+nN a) m
 | .BG a b,v,k,m=>if nm (jY v)=0 then nO a (d0 v) k m else nO b (d0 v) (k+nN a) m
 | .BB _ _ a b,v,k,m=>if nm (jY v)=0 then nO a (d0 v) k m else nO b (d0 v) (k+nN a) m
 | .BC a,v,k,m=>(As v).flatMap fun g=>nO a (d0 g) (k+1) (m * nm (jY g))++[(k,uQ a (d0 g),m * nm (jY g),a)]
 |_,_,_,_=>[]
def mw(t:Bd){js:Vs}(g:t.good js []):(∀p∈Cl t t.ptrace,0<=p.2)/\cv t t.ptrace<=2 * t.size:=by
 induction t with
 |rest=>exact⟨(fun p hp=>by cases hp),by show 0<=2 * 1;omega⟩
 |pay x y=>exact⟨(fun p hp=>by cases hp),by show 1<=2 * 1;omega⟩
 |use z=>exact⟨(fun p hp=>by cases hp),by show 1<=2 * 1;omega⟩
 |put z m=>exact⟨fun p hp=>by rw[List.mem_singleton.mp hp];have:=g.2;show 0<=m;omega,by show 2<=2 * 1;omega⟩
 |BC a ih=>exact⟨(fun p hp=>by cases hp),by show 0+1<=2 * (a.size+1);omega⟩
 |Bh a b C2 C7=>
  have x:=C2 g.1;have y:=C7 g.2
  refine⟨fun p hp=>(List.mem_append.mp hp).elim (x.1 p) (y.1 p),?_⟩
  show cv a a.ptrace+cv b b.ptrace<=2 * (a.size+b.size+1)
  omega
 |BG a b C2 C7=>
  have x:=C2 g.1
  refine⟨x.1,?_⟩
  show cv a a.ptrace+1<=2 * (a.size+b.size+1)
  omega
 |BB z m a b C2 C7=>
  have y:=C7 g.2.2.2.2
  refine⟨y.1,?_⟩
  show cv b b.ptrace+2<=2 * (a.size+b.size+1)
  omega
structure zi (q:Qs) (t:Bd) (v:PV) (z:Str) (m:Int):Prop where
 tr:bj t v=true
 mem:(z,m)∈Cl t v
 neg:∀p∈Cl t v,p.2 < 0->q p.1=true
 room:cv t v<=2 * t.size
def nP{q:Qs}{a b:Bd}{r s:Bool}{p:Nat}{u:Bd×Bool}(h:(a.pr q r++b.pr q s)[p]?=some u):(p < a.size/\(a.pr q r)[p]?=some u)\/(¬p < a.size/\(b.pr q s)[p - a.size]?=some u):=by
 have hl:=Bd.Co q a r
 by_cases hp:p < a.size
 ·rw[List.getElem?_append_left (by omega)]at h;exact .inl ⟨hp,h⟩
 ·rw[List.getElem?_append_right (by omega),hl]at h;exact .inr ⟨hp,h⟩
def xz{q:Qs}{js:Vs}{z:Str}{m:Int}(t:Bd):∀pl:Nat,t.good js []->(t.pr q true)[pl]?=some (.put z m,true)->zi q t (t.led pl (.tup [])) z m:=by
 induction t with
 |rest=>intro pl g h;cases pl<;>simp[Bd.pr]at h
 |pay x y=>intro pl g h;cases pl<;>simp[Bd.pr]at h
 |use y=>intro pl g h;cases pl<;>simp[Bd.pr]at h
 |put y n=>
  intro pl g h
  cases pl with
  |succ p=>simp[Bd.pr]at h
  |zero=>
   simp[Bd.pr]at h
   obtain⟨rfl,rfl⟩:=h
   exact⟨rfl,by simp[Cl],fun p hp hn=>by rw[show p=(y,n)from List.mem_singleton.mp hp]at hn;have:=g.2;have:n < 0:=hn;omega,by show 2<=2 * 1;omega⟩
 |BC a ih=>
  intro pl g h
  cases pl with
  |zero=>simp[Bd.pr]at h
  |succ p=>
   have x:=ih p g (by simpa [Bd.pr]using h)
   have e:(Bd.BC a).led (p+1) (.tup []) = .tup [.tup [.int 1,a.led p (.tup [])]]:=rfl
   have em:Cl (.BC a) (.tup [.tup [.int 1,a.led p (.tup [])]])=Cl a (a.led p (.tup [])):=by
    show([PV.tup [.int 1,a.led p (.tup [])]].flatMap fun g=>Cl a (d0 g))=_
    simp[d0]
   rw[e]
   refine⟨?_,by rw[em];exact x.mem,by rw[em];exact x.neg,?_⟩
   ·rw[jR];simp[nG,x.tr]
   ·show(0+(1:Int).toNat * (cv a (a.led p (.tup []))+1))+1<=2 * (a.size+1)
    have:=x.room
    simp
    omega
 |Bh a b C2 C7=>
  intro pl g h
  cases pl with
  |zero=>simp[Bd.pr]at h
  |succ p=>
   rcases nP (q:=q) (a:=a) (b:=b) (r:=true) (s:=true) (p:=p) (by simpa [Bd.pr]using h)with⟨hp,h⟩|⟨hp,h⟩
   ·have x:=C2 p g.1 h
    have y:=mw b g.2
    have e:(Bd.Bh a b).led (p+1) (.tup []) = .tup [a.led p (.tup []),b.ptrace]:=by simp only[Bd.led,if_pos hp]
    rw[e]
    refine⟨by rw[gG,x.tr,Bd.tr_plain];rfl,List.mem_append.mpr (.inl x.mem),fun w hw hn=>(List.mem_append.mp hw).elim (fun h=>x.neg w h hn) (fun h=>by have:=y.1 w h;omega),?_⟩
    show cv a (a.led p (.tup []))+cv b b.ptrace<=2 * (a.size+b.size+1)
    have:=x.room
    omega
   ·have x:=C7 (p - a.size) g.2 h
    have y:=mw a g.1
    have e:(Bd.Bh a b).led (p+1) (.tup []) = .tup [a.ptrace,b.led (p - a.size) (.tup [])]:=by simp only[Bd.led,if_neg hp]
    rw[e]
    refine⟨by rw[gG,x.tr,Bd.tr_plain];rfl,List.mem_append.mpr (.inr x.mem),fun w hw hn=>(List.mem_append.mp hw).elim (fun h=>by have:=y.1 w h;omega) (fun h=>x.neg w h hn),?_⟩
    show cv a a.ptrace+cv b (b.led (p - a.size) (.tup []))<=2 * (a.size+b.size+1)
    have:=x.room
    omega
 |BG a b C2 C7=>
  intro pl g h
  cases pl with
  |zero=>simp[Bd.pr]at h
  |succ p=>
   rcases nP (q:=q) (a:=a) (b:=b) (r:=true) (s:=true) (p:=p) (by simpa [Bd.pr]using h)with⟨hp,h⟩|⟨hp,h⟩
   ·have x:=C2 p g.1 h
    have e:(Bd.BG a b).led (p+1) (.tup []) = .tup [.int 0,a.led p (.tup [])]:=by simp only[Bd.led,if_pos hp]
    rw[e]
    refine⟨by rw[gH,if_pos rfl,x.tr],x.mem,x.neg,?_⟩
    show cv a (a.led p (.tup []))+1<=2 * (a.size+b.size+1)
    have:=x.room
    omega
   ·have x:=C7 (p - a.size) g.2 h
    have e:(Bd.BG a b).led (p+1) (.tup []) = .tup [.int 1,b.led (p - a.size) (.tup [])]:=by simp only[Bd.led,if_neg hp]
    rw[e]
    refine⟨by rw[gH,if_neg (by decide),if_pos rfl,x.tr],x.mem,x.neg,?_⟩
    show cv b (b.led (p - a.size) (.tup []))+1<=2 * (a.size+b.size+1)
    have:=x.room
    omega
 |BB y n a b C2 C7=>
  intro pl g h
  cases pl with
  |zero=>simp[Bd.pr]at h
  |succ p=>
   rcases nP (q:=q) (a:=a) (b:=b) (r:=true&&q y) (s:=true) (p:=p) (by simpa [Bd.pr]using h)with⟨hp,h⟩|⟨hp,h⟩
   ·have hq:q y=true:=by
     cases hq:q y with
     |true=>rfl
     |false=>rw[hq]at h;exact absurd (List.mem_of_getElem? h) (a.BL q _)
    rw[hq]at h
    have x:=C2 p g.2.2.2.1 h
    have e:(Bd.BB y n a b).led (p+1) (.tup []) = .tup [.int 0,a.led p (.tup [])]:=by simp only[Bd.led,if_pos hp]
    rw[e]
    refine⟨by rw[gJ,if_pos rfl,x.tr],List.mem_cons_of_mem _ x.mem,fun w hw hn=>?_,?_⟩
    ·rcases List.mem_cons.mp (show w∈(y,0 - n)::Cl a (a.led p (.tup []))from hw)with rfl|hw
     ·exact hq
     ·exact x.neg w hw hn
    ·show cv a (a.led p (.tup []))+2<=2 * (a.size+b.size+1)
     have:=x.room
     omega
   ·have x:=C7 (p - a.size) g.2.2.2.2 h
    have e:(Bd.BB y n a b).led (p+1) (.tup []) = .tup [.int 1,b.led (p - a.size) (.tup [])]:=by simp only[Bd.led,if_neg hp]
    rw[e]
    refine⟨by rw[gJ,if_neg (by decide),if_pos rfl,x.tr],x.mem,x.neg,?_⟩
    show cv b (b.led (p - a.size) (.tup []))+2<=2 * (a.size+b.size+1)
    have:=x.room
    omega
end C
namespace G26
open PySem L2 L3
noncomputable def bN(i:Nat):Stmt:=PySem.Challenge.pw_dueworth_k26_fillings.main.body.getD i (.Pass ⟨0,0,0,0⟩)
structure Txt (P:Program) (w:World) (K:Vo) (mg:Vr):Prop where
 o_sides_of:bH K mg "sides_of" (bN 2) ["body"]
 o_parts_in:bH K mg "parts_in" (bN 3) ["body"]
 o_parts:bH K mg "parts" (bN 4) ["body"]
 o_plain_trace:bH K mg "plain_trace" (bN 6) ["body"]
 o_led_to_part:bH K mg "led_to_part" (bN 7) ["body","place","trace"]
 o_parts_reached:md K mg "parts_reached" (bN 9) ["body","names","reached"]
 o_next_step:bH K mg "next_step" (bN 10) ["house","names"]
 o_filling:bH K mg "filling" (bN 11) ["house"]
 o__law_deal:bH K mg "_law_deal" (bN 13) ["_law_script","_law_base"]
 o__law_draw:bH K mg "_law_draw" (bN 14) ["_law_deal_here","_law_many"]
 o__law_words:bH K mg "_law_words" (bN 15) ["_law_deal_here","_law_many"]
 o__law_low:bH K mg "_law_low" (bN 16) ["_law_top","_law_bottom"]
 o__law_cost:bH K mg "_law_cost" (bN 17) ["_law_deal_here"]
 o__law_leaf:bH K mg "_law_leaf" (bN 18) ["_law_deal_here","_law_jars"]
 o__law_body:bH K mg "_law_body" (bN 19) ["_law_deal_here","_law_jars","_law_left","_law_down"]
 o__law_pass_count:bH K mg "_law_pass_count" (bN 20) ["_law_body_here"]
 o__law_round_count:bH K mg "_law_round_count" (bN 21) ["_law_body_here"]
 o__law_deed_body:bH K mg "_law_deed_body" (bN 22) ["_law_deal_here","_law_jars","_law_most_parts","_law_most_lines"]
 o__law_house:bH K mg "_law_house" (bN 23) ["_law_deal_here","_law_most_jars","_law_most_deeds","_law_most_parts"]
 o__law_puts:bH K mg "_law_puts" (bN 24) ["_law_body_here","_law_held","_law_found"]
 o__law_fillable:bH K mg "_law_fillable" (bN 25) ["_law_house_here"]
 o__law_number:bH K mg "_law_number" (bN 26) ["_law_one"]
 o__law_follows:bH K mg "_law_follows" (bN 27) ["_law_body_here","_law_trace","_law_moves"]
 o__law_is_going:bH K mg "_law_is_going" (bN 28) ["_law_body_here","_law_one","_law_moves"]
 o__law_chain:bH K mg "_law_chain" (bN 29) ["_law_deal_here"]
 o__law_wide_house:bH K mg "_law_wide_house" (bN 30) ["_law_deal_here"]
 o__law_swapped:bH K mg "_law_swapped" (bN 31) ["_law_body_here","_law_names"]
 o__law_kin:bH K mg "_law_kin" (bN 32) ["_law_house_here"]
 o__law_right:bH K mg "_law_right" (bN 33) ["_law_house_here"]
 Ge:mg "all" = none
 FH:mg "bool" = none
 BY:mg "enumerate" = none
 Fe:mg "int" = none
 Bx:mg "isinstance" = none
 BI:mg "len" = none
 EH:mg "list" = none
 Ff:mg "max" = none
 C6:mg "range" = none
 D_:mg "reversed" = none
 Gf:mg "set" = none
 DV:mg "sorted" = none
 BM:mg "tuple" = none
 Gg:mg "zip" = none
 DI:∃a,mg "SIDES_FROM" = some (.ref a)/\KD P w K a (C.k_SIDES_FROM.map fun kv=>(kv.1,V.int kv.2))
section
variable {P:Program} {w:World} {K:Vo} {mg:Vr} {base:Heap}
def zj:(["_law_one"]:Vs).Nodup:=by decide +kernel
def At:(["_law_k","_law_deal_here","_law_letters"]:Vs).Nodup:=by decide +kernel
def Au:(["_law_j","_law_deal_here","_law_letters"]:Vs).Nodup:=by decide +kernel
def Av:(["_law_k","_law_deal_here","_law_first","_law_jars","_law_many","_law_most_parts","_law_words_here"]:Vs).Nodup:=by decide +kernel
def Aw:(["_law_one","_law_body_here","_law_moves"]:Vs).Nodup:=by decide +kernel
def Ax:(["_law_jar","_law_deal_here","_law_left"]:Vs).Nodup:=by decide +kernel
def zk:(["_law_k","_law_body_here","_law_words_here"]:Vs).Nodup:=by decide +kernel
def Ay:(["_law_k","_law_deal_here","_law_first","_law_jars","_law_words_here"]:Vs).Nodup:=by decide +kernel
def uR:(["_law_name","_law_body_here"]:Vs).Nodup:=by decide +kernel
def zl:(["_law_name","_law_body_here","_law_names"]:Vs).Nodup:=by decide +kernel
def vt:(["_law_jar","_law_many"]:Vs).Nodup:=by decide +kernel
def vv:(["_law_jar","_law_many","_law_ahead"]:Vs).Nodup:=by decide +kernel
def zm:(["_law_house_here"]:Vs).Nodup:=by decide +kernel
def d4:aF:=Bs 1 C.fR
def iU(T:Txt P w K mg):Cw P w K mg base 1 "sides_of" 1 d4:=gX ["body"] T.o_sides_of (fun _ _ _ _ _ _ _ hr nd=>(ak (aq (bD (ad 0) (bR (A3 hr T.DI (bc hr (ad 0)) (cB bM T.BI (l1 (ad 0))))) cq)))) rfl
noncomputable def d5:Nat->aF
 |0=>ny
 |n+1=>Bs 3 (C.fS d4 (d5 n))
def jU:aF:=d5 12
def mx(T:Txt P w K mg):Cw P w K mg base 13 "parts_in" 1 jU:=lq (b:=1) (r:=d5) T.o_parts_in (fun n R0=>gX ["body","found","side"] T.o_parts_in (fun _ _ _ _ _ _ _ hr nd=>(ab (s4 1 nd (bm (l1 (ad 0))))
  (ab (fI PassesOwn.never rfl (cK (c4 (iU T) hr (l1 (ad 0)))) (gn 2 nd) (ak (bx (mJ ft gr (ad 1) (l1 (c4 R0 hr (l1 (ad 2))))))))
  (ak (aq (ad 1)))))) rfl) rfl rfl 12
def lG:aF:=Bs 1 (C.lm jU)
def sy(T:Txt P w K mg):Cw P w K mg base 14 "parts" 1 lG:=gX ["body"] T.o_parts (fun _ _ _ _ _ _ _ hr nd=>(ak (aq (cB bM T.BI (l1 (c4 (mx T) hr (l1 (ad 0)))))))) rfl
noncomputable def cg:Nat->aF
 |0=>ny
 |n+1=>Bs 1 (C.di (cg n))
def fK:aF:=cg 12
def fh(T:Txt P w K mg):Cw P w K mg base 12 "plain_trace" 1 fK:=lq (b:=0) (r:=cg) T.o_plain_trace (fun n R0=>gX ["body"] T.o_plain_trace (fun _ _ _ _ _ _ _ hr nd=>(ab (aZ (fV hr (bc hr (ad 0)) ap) (ak (aq (aD (lc (c4 R0 hr (l1 (bc hr (ad 0)))) (l1 (c4 R0 hr (l1 (bc hr (ad 0))))))))) aE)
  (ab (aZ (fV hr (bc hr (ad 0)) ap) (ak (aq (aD (lc ac (l1 (c4 R0 hr (l1 (bc hr (ad 0))))))))) aE)
  (ab (aZ (fV hr (bc hr (ad 0)) ap) (ak (aq (aD (lc ac (l1 (c4 R0 hr (l1 (bc hr (ad 0))))))))) aE)
  (ak (aq (aD cH))))))) rfl) rfl rfl 12
noncomputable def ci:Nat->aF
 |0=>ny
 |n+1=>Bs 8 (C.dj lG fK (ci n))
def fL:aF:=ci 12
def jV(T:Txt P w K mg):Cw P w K mg base 26 "led_to_part" 3 fL:=lq (b:=14) (r:=ci) T.o_led_to_part (fun n R0=>gX ["body","place","trace","one","other","second","side","inner"] T.o_led_to_part (fun _ _ _ _ _ _ _ hr nd=>(ab (aZ (fV hr (ad 1) ac) (ak (aq (ad 2))) aE)
  (ab (aZ (fV hr (bc hr (ad 0)) ap) (ak (aq (aD (l1 (aD (lc ac (l1 (c4 R0 hr (lc (bc hr (ad 0)) (lc (aG cZ (ad 1) ac) (l1 (ad 2)))))))))))) aE)
  (ab (s4 3 nd (dH hr (ad 0) (hU b5 ac)))
  (ab (s4 4 nd (dH hr (ad 0) (hU b5 ac)))
  (ab (s4 5 nd (aG aH ac (c4 (sy T) hr (l1 (ad 3)))))
  (ab (s4 6 nd (vj (aU iZ (ad 1) (ad 5) (aM _)) ac ac))
  (ab (s4 7 nd (vj (fV hr (ad 6) ac) (c4 R0 hr (lc (ad 3) (lc (aG cZ (ad 1) ac) (l1 (ad 2))))) (c4 R0 hr (lc (ad 4) (lc (aG cZ (ad 1) (ad 5)) (l1 (ad 2)))))))
  (ab (aZ (yZ hr (bc hr (ad 0)) ap) (ak (aq (aD (lc (ad 6) (l1 (ad 7)))))) aE)
  (ab (aZ (fV hr (ad 6) ac) (ak (aq (aD (lc (ad 7) (l1 (c4 (fh T) hr (l1 (ad 4)))))))) aE)
  (ak (aq (aD (lc (c4 (fh T) hr (l1 (ad 3))) (l1 (ad 7)))))))))))))))) rfl) rfl rfl 12
noncomputable def bI:Nat->aF
 |0=>ny
 |n+1=>Bs 7 (C.cu d4 (bI n))
def eC:aF:=bI 12
def iz(T:Txt P w K mg):E4 P w K mg base 13 "parts_reached" 3 eC:=y7 (b:=1) (r:=bI) T.o_parts_reached (fun n R0=>A4 ["body","names","reached","found","number","side","shut"] T.o_parts_reached (fun _ _ _ _ _ _ _ hr nd=>(ab (s4 3 nd (bm (l1 (aD (lc (ad 0) (l1 (ad 2)))))))
  (ab (fI PassesOwn.never rfl (jD rfl rfl T.BY (by decide +kernel) (l1 (c4 (iU T) hr (l1 (ad 0))))) (pI rfl (aS (gn 4 nd) (aS (gn 5 nd) dC))) (ab (s4 6 nd (lY (iL (iN (gy hr)) (bc hr (ad 0)) ap (aM _)) (lY (iL (iN (gy hr)) (ad 4) ac (aM _)) (oq (iL (gk (eB hr)) (bc hr (ad 0)) (ad 1) rfl)))))
  (ak (bx (mJ ft gr (ad 3) (l1 (A5 R0 hr (lc (ad 5) (lc (ad 1) (l1 (lY (ad 2) (oq (vi (ad 6))))))))))))))
  (ak (aq (ad 3)))))) rfl) rfl rfl 12
def fi:aF:=Bs 7 (C.e8 eC fL)
def gP(T:Txt P w K mg):Cw P w K mg base 27 "next_step" 2 fi:=gX ["house","names","d","deed","place","found","part"] T.o_next_step (fun _ _ _ _ _ _ _ hr nd=>(ab (fI PassesOwn.never rfl (jD rfl rfl T.BY (by decide +kernel) (l1 (bc hr (ad 0)))) (pI rfl (aS (gn 2 nd) (aS (gn 3 nd) dC))) (ak (fI PassesOwn.never rfl (jD rfl rfl T.BY (by decide +kernel) (l1 (cD (iz T) hr (lc (bc hr (ad 3)) (l1 (ad 1)))))) (pI rfl (aS (gn 4 nd) (aS (gn 5 nd) dC))) (ab (s4 6 nd (bc hr (ad 5)))
  (ak (aZ (m7 (lX (eu (bc hr (ad 5))) (lX (fV hr (bc hr (ad 6)) ap) (k_ (aU (gk (eB hr)) (bc hr (ad 6)) (ad 1) rfl))))) (ak (aq (aD (lc (yY PySem.F.plainAttrs_tuple PySem.F.slot_tuple_index PySem.F.type_tuple_index rT rfl (bc hr (ad 0)) (l1 (bc hr (ad 6)))) (lc (ad 2) (l1 (c4 (jV T) hr (lc (bc hr (ad 3)) (lc (ad 4) (l1 (aD cH))))))))))) aE))))))
  (ak (aq vh)))) rfl
def iA:aF:=Bs 4 (C.ie fi)
def nQ(T:Txt P w K mg):Cw P w K mg base 28 "filling" 1 iA:=gX ["house","found","names","step"] T.o_filling (fun _ _ _ _ _ _ _ hr nd=>(ab (s4 1 nd (bm cH))
  (ab (s4 2 nd (bm cH))
  (ab (s4 3 nd (c4 (gP T) hr (lc (ad 0) (l1 (ad 2)))))
  (ab (i_ PassesOwn.never (aU rq (ad 3) vh (aM _)) (ab (bx (mJ b7 cJ (ad 1) (l1 (ad 3))))
  (ab (bx (mJ b7 cJ (ad 2) (l1 (dH hr (bc hr (ad 0)) (bc hr (ad 3))))))
  (ak (s4 3 nd (c4 (gP T) hr (lc (ad 0) (l1 (ad 2)))))))))
  (ak (aq (ad 1)))))))) rfl
def iV:aF:=Bs 5 C.eV
def gQ(T:Txt P w K mg):Cw P w K mg base 1 "_law_deal" 2 iV:=gX ["_law_script","_law_base","_law_one","_law_some","_law_number_here"] T.o__law_deal (fun _ _ _ _ _ _ _ hr nd=>(ab (y3 [] 1 [] ["_law_one"] 3 nd (cK (bD (ad 0) (bR (ad 1)) (bR ac))) (fun _=>(gn 0 zj)) (fun _=>eR) (fun _=>(cB (rC rfl) T.Ff (lc (ad 0) (l1 (aG cZ ac (ad 0)))))))
  (ab (s4 4 nd (aG aH ac (ad 1)))
  (ab (fI PassesOwn.never rfl (cK (ad 3)) (gn 2 nd) (ak (s4 4 nd (aG eU (aG aH (aG eO (ad 4) ac) (aG eU (ad 2) ac)) ac))))
  (ak (aq (rN (gx ap (ad 4) (gx ap ac (gx ap (wY pA rfl (sU [] 1 [] ["_law_one"] (cK (ad 3)) (fun _=>(gn 0 zj)) (fun _=>(oy (aU Am (ad 0) (aG yU ac ac) (aM _)))) (fun _=>(ad 0))) rfl T.EH rfl T.D_) rM)))))))))) rfl
def w__law_draw:aF:=Bs 5 C.eW
def ai(T:Txt P w K mg):Cw P w K mg base 1 "_law_draw" 2 w__law_draw:=gX ["_law_deal_here","_law_many","_law_number_here","_law_one","_law_other"] T.o__law_draw (fun _ _ _ _ _ _ _ hr nd=>(ab (i_ PassesOwn.never (m7 (lX (fV hr (dH hr (ad 0) ap) ac) (k_ (aU j8 (cB bM T.BI (l1 (dH hr (ad 0) ap))) ac (aM _))))) (ak (l5 (sQ hr) (y2 rV vm (dH hr (ad 0) ap)) (ad 0) ap)))
  (ab (s4 2 nd (dH hr (ad 0) ap))
  (ab (aZ (aU j8 (ad 2) ac (aM _)) (ab (l5 (sQ hr) (aG ll (ad 2) (ad 1)) (ad 0) ap)
  (ak (aq (aG eU (ad 2) (ad 1))))) aE)
  (ab (s4 3 nd (aG eU (aG aH (aG eO (dH hr (ad 0) ap) ac) ac) ac))
  (ab (l5 (sQ hr) (aG eU (aG aH (aG eO (ad 3) ac) ac) ac) (ad 0) ap)
  (ab (s4 4 nd (aG eU (aG eO (dH hr (ad 0) ap) (dH hr (ad 0) ap)) ac))
  (ak (aq (aG eU (aG aH (aG eO (aG eU (aG eO (ad 3) (ad 3)) ac) ac) (ad 4)) (ad 1))))))))))) rfl
def bU:aF:=Bs 11 (C.dN w__law_draw)
def du(T:Txt P w K mg):Cw P w K mg base 2 "_law_words" 2 bU:=gX ["_law_deal_here","_law_many","_law_letters","_law_taken","_law_k","_law_core","_law_at","_law_turn","_law_near","_law_found","_law_name"] T.o__law_words (fun _ _ _ _ _ _ _ hr nd=>(ab (s4 2 nd ap)
  (ab (s4 3 nd (bm (lc ap (lc ap (lc ap (lc ap (lc ap (lc ap (lc ap (lc ap (lc ap (l1 ap))))))))))))
  (ab (s4 5 nd (mJ oD rG ap (l1 (sU ["_law_letters","_law_deal_here"] 1 [0,2] ["_law_k","_law_deal_here","_law_letters"] (eQ rfl rfl T.C6 (l1 (c4 (ai T) hr (lc (ad 0) (l1 ac))))) (fun _=>(gn 0 At)) (fun _=>eR) (fun _=>(dH hr (ad 2) (c4 (ai T) hr (lc (ad 1) (l1 ac)))))))))
  (ab (uh (i:=6) (j:=7) (k:=8) rfl nd rfl rfl rfl rfl rfl rfl (aD (lc (c4 (ai T) hr (lc (ad 0) (l1 (aG aH (cB bM T.BI (l1 (ad 5))) ac)))) (lc (c4 (ai T) hr (lc (ad 0) (l1 ac))) (l1 (iL (iN (gy hr)) (c4 (ai T) hr (lc (ad 0) (l1 ac))) ac (aM _)))))))
  (ab (s4 9 nd (bm cH))
  (ab (fI PassesOwn.never rfl (eQ rfl rfl T.C6 (l1 (ad 1))) (gn 4 nd) (ab (s4 10 nd (aG aH (aG aH (bD (ad 5) cq (bR (ad 6))) (dH hr (ad 2) (aG eU (aG aH (ad 7) (ad 4)) ac))) (bD (ad 5) (bR (ad 6)) cq)))
  (ab (aZ (eA (eu (ad 8))) (ak (s4 10 nd (mJ oD rG ap (l1 (sU ["_law_letters","_law_deal_here"] 1 [0,2] ["_law_j","_law_deal_here","_law_letters"] (eQ rfl rfl T.C6 (l1 (aG aH ac (c4 (ai T) hr (lc (ad 0) (l1 ac)))))) (fun _=>(gn 0 Au)) (fun _=>eR) (fun _=>(dH hr (ad 2) (c4 (ai T) hr (lc (ad 1) (l1 ac)))))))))) aE)
  (ab (i_ PassesOwn.never (m7 (eE (aU (iP (eB hr)) (ad 10) (ad 3) rfl) (eN (aU (iP (eB hr)) (ad 10) (ad 9) rfl)))) (ak (s4 10 nd (aG aH (dH hr (ad 2) (aG eU (aG aH (mJ rX ug (ad 2) (l1 (bc hr (ad 10)))) ac) ac)) (bD (ad 10) (bR ac) cq)))))
  (ak (bx (mJ b7 cJ (ad 9) (l1 (ad 10)))))))))
  (ak (aq (ad 9)))))))))) rfl
def f8:aF:=Bs 4 C.fQ
def my(T:Txt P w K mg):Cw P w K mg base 1 "_law_low" 2 f8:=gX ["_law_top","_law_bottom","_law_one","_law_other"] T.o__law_low (fun _ _ _ _ _ _ _ hr nd=>(ab (vn (i:=2) (j:=3) rfl nd rfl rfl (by decide) rfl rfl (lc (cB (rC rfl) T.Ff (lc (ad 0) (l1 (aG cZ ac (ad 0))))) (l1 (ad 1))))
  (ab (i_ PassesOwn.never (aU j8 (ad 3) ac (aM _)) (ak (vn (i:=2) (j:=3) rfl nd rfl rfl (by decide) rfl rfl (lc (ad 3) (l1 (aG eU (ad 2) (ad 3)))))))
  (ak (aq (aD (lc (aG ll (ad 0) (ad 2)) (l1 (aG ll (ad 1) (ad 2)))))))))) rfl
def fj:aF:=Bs 2 (C.eX w__law_draw f8)
def lH(T:Txt P w K mg):Cw P w K mg base 2 "_law_cost" 1 fj:=gX ["_law_deal_here","_law_form"] T.o__law_cost (fun _ _ _ _ _ _ _ hr nd=>(ab (s4 1 nd (c4 (ai T) hr (lc (ad 0) (l1 ac))))
  (ab (aZ (fV hr (ad 1) ac) (ak (aq (aD (lc ac (l1 ac))))) aE)
  (ab (aZ (aU iZ (ad 1) ac (aM _)) (ak (aq (aD (lc (aG aH ac (c4 (ai T) hr (lc (ad 0) (l1 ac)))) (l1 ac))))) aE)
  (ak (aq (c4 (my T) hr (lc (c4 (ai T) hr (lc (ad 0) (l1 ac))) (l1 (aG aH ac (c4 (ai T) hr (lc (ad 0) (l1 ac))))))))))))) rfl
def bO:aF:=Bs 4 (C.ck w__law_draw fj)
def bE(T:Txt P w K mg):Cw P w K mg base 3 "_law_leaf" 2 bO:=gX ["_law_deal_here","_law_jars","_law_form","_law_many"] T.o__law_leaf (fun _ _ _ _ _ _ _ hr nd=>(ab (s4 2 nd (c4 (ai T) hr (lc (ad 0) (l1 ac))))
  (ab (aZ (fV hr (ad 2) ac) (ak (aq (aD (l1 ap)))) aE)
  (ab (aZ (m7 (eE (aU iZ (ad 2) ac (aM _)) (eN (fV hr (cB bM T.BI (l1 (ad 1))) ac)))) (ak (aq (aD (lc ap (l1 (c4 (lH T) hr (l1 (ad 0)))))))) aE)
  (ab (s4 3 nd (dH hr (bm (lc ac (lc ac (l1 (aG aH ac (c4 (ai T) hr (lc (ad 0) (l1 ac)))))))) (c4 (ai T) hr (lc (ad 0) (l1 ac)))))
  (ak (aq (aD (lc ap (lc (dH hr (ad 1) (c4 (ai T) hr (lc (ad 0) (l1 (cB bM T.BI (l1 (ad 1))))))) (l1 (ad 3)))))))))))) rfl
noncomputable def dg:Nat->aF
 |0=>ny
 |n+1=>Bs 8 (C.eY w__law_draw bO (dg n))
def fk:aF:=dg 12
def gR(T:Txt P w K mg):Cw P w K mg base 15 "_law_body" 4 fk:=lq (b:=3) (r:=dg) T.o__law_body (fun n R0=>gX ["_law_deal_here","_law_jars","_law_left","_law_down","_law_form","_law_one","_law_other","_law_many"] T.o__law_body (fun _ _ _ _ _ _ _ hr nd=>(ab (s4 4 nd (c4 (ai T) hr (lc (ad 0) (l1 ac))))
  (ab (aZ (m7 (eE (fV hr (ad 3) ac) (eE (aU iZ (bc hr (ad 2)) ac (aM _)) (eN (aU iZ (ad 4) ac (aM _)))))) (ak (aq (c4 (bE T) hr (lc (ad 0) (l1 (ad 1)))))) aE)
  (ab (aZ (aU iZ (ad 4) ac (aM _)) (ab (l5 (sQ hr) (aG cZ (bc hr (ad 2)) ac) (ad 2) ac)
  (ak (aq (aD (lc ap (l1 (c4 R0 hr (lc (ad 0) (lc (ad 1) (lc (ad 2) (l1 (aG cZ (ad 3) ac)))))))))))) aE)
  (ab (l5 (sQ hr) (aG cZ (bc hr (ad 2)) ac) (ad 2) ac)
  (ab (s4 5 nd (c4 R0 hr (lc (ad 0) (lc (ad 1) (lc (ad 2) (l1 (aG cZ (ad 3) ac)))))))
  (ab (s4 6 nd (c4 R0 hr (lc (ad 0) (lc (ad 1) (lc (ad 2) (l1 (aG cZ (ad 3) ac)))))))
  (ab (aZ (aU iZ (ad 4) ac (aM _)) (ak (aq (aD (lc ap (lc (ad 5) (l1 (ad 6))))))) aE)
  (ab (aZ (m7 (eE (fV hr (ad 4) ac) (eN (fV hr (cB bM T.BI (l1 (ad 1))) ac)))) (ak (aq (aD (lc ap (lc (ad 5) (l1 (ad 6))))))) aE)
  (ab (s4 7 nd (dH hr (bm (lc ac (lc ac (lc ac (l1 (aG aH ac (c4 (ai T) hr (lc (ad 0) (l1 ac))))))))) (c4 (ai T) hr (lc (ad 0) (l1 ac)))))
  (ak (aq (aD (lc ap (lc (dH hr (ad 1) (c4 (ai T) hr (lc (ad 0) (l1 (cB bM T.BI (l1 (ad 1))))))) (lc (ad 7) (lc (ad 5) (l1 (ad 6))))))))))))))))))) rfl) rfl rfl 12
noncomputable def bu:Nat->aF
 |0=>ny
 |n+1=>Bs 1 (C.bS (bu n))
def bv:aF:=bu 12
def cQ(T:Txt P w K mg):Cw P w K mg base 12 "_law_pass_count" 1 bv:=lq (b:=0) (r:=bu) T.o__law_pass_count (fun n R0=>gX ["_law_body_here"] T.o__law_pass_count (fun _ _ _ _ _ _ _ hr nd=>(ab (aZ (fV hr (bc hr (ad 0)) ap) (ak (aq (aG eO (c4 R0 hr (l1 (bc hr (ad 0)))) (c4 R0 hr (l1 (bc hr (ad 0))))))) aE)
  (ab (aZ (m7 (eE (fV hr (bc hr (ad 0)) ap) (eN (fV hr (bc hr (ad 0)) ap)))) (ak (aq (aG aH (c4 R0 hr (l1 (dH hr (ad 0) (hU b5 ac)))) (c4 R0 hr (l1 (dH hr (ad 0) (hU b5 ac))))))) aE)
  (ak (aq ac))))) rfl) rfl rfl 12
noncomputable def bp:Nat->aF
 |0=>ny
 |n+1=>Bs 1 (C.bK bv (bp n))
def cR:aF:=bp 12
def fD(T:Txt P w K mg):Cw P w K mg base 24 "_law_round_count" 1 cR:=lq (b:=12) (r:=bp) T.o__law_round_count (fun n R0=>gX ["_law_body_here"] T.o__law_round_count (fun _ _ _ _ _ _ _ hr nd=>(ab (aZ (fV hr (bc hr (ad 0)) ap) (ak (aq (aG aH (c4 (cQ T) hr (l1 (bc hr (ad 0)))) (c4 R0 hr (l1 (bc hr (ad 0))))))) aE)
  (ab (aZ (aU (iP (eB hr)) (bc hr (ad 0)) (aD (lc ap (lc ap (l1 ap)))) rfl) (ak (aq (aG aH (c4 R0 hr (l1 (dH hr (ad 0) (hU b5 ac)))) (c4 R0 hr (l1 (dH hr (ad 0) (hU b5 ac))))))) aE)
  (ak (aq ac))))) rfl) rfl rfl 12
def b9:aF:=Bs 5 (C.b6 fk bv cR bO)
def gS(T:Txt P w K mg):Cw P w K mg base 25 "_law_deed_body" 4 b9:=gX ["_law_deal_here","_law_jars","_law_most_parts","_law_most_lines","_law_body_here"] T.o__law_deed_body (fun _ _ _ _ _ _ _ hr nd=>(ab (s4 4 nd (c4 (gR T) hr (lc (ad 0) (lc (ad 1) (lc (bm (l1 (aG cZ (ad 2) ac))) (l1 ac))))))
  (ab (aZ (aU j8 (aG aH (c4 (cQ T) hr (l1 (ad 4))) (c4 (fD T) hr (l1 (ad 4)))) (ad 3) (aM _)) (ak (s4 4 nd (aD (lc ap (lc (aD (lc ap (l1 (c4 (bE T) hr (lc (ad 0) (l1 (ad 1))))))) (l1 (c4 (bE T) hr (lc (ad 0) (l1 (ad 1)))))))))) aE)
  (ak (aq (ad 4)))))) rfl
def d6:aF:=Bs 9 (C.dO bU w__law_draw b9)
def j_(T:Txt P w K mg):Cw P w K mg base 26 "_law_house" 4 d6:=gX ["_law_deal_here","_law_most_jars","_law_most_deeds","_law_most_parts","_law_words_here","_law_jars","_law_first","_law_many","_law_deeds"] T.o__law_house (fun _ _ _ _ _ _ _ hr nd=>(ab (s4 4 nd (c4 (du T) hr (lc (ad 0) (l1 ac))))
  (ab (s4 5 nd (cT dL T.BM (l1 (bD (ad 4) cq (bR (c4 (ai T) hr (lc (ad 0) (l1 (aG aH (ad 1) ac)))))))))
  (ab (s4 6 nd (dH hr (bm (lc ac (l1 ac))) (c4 (ai T) hr (lc (ad 0) (l1 ac)))))
  (ab (s4 7 nd (aG aH ac (c4 (ai T) hr (lc (ad 0) (l1 (ad 2))))))
  (ab (y3 ["_law_words_here","_law_most_parts","_law_many","_law_jars","_law_first","_law_deal_here"] 1 [0,6,5,7,3,4] ["_law_k","_law_deal_here","_law_first","_law_jars","_law_many","_law_most_parts","_law_words_here"] 8 nd (eQ rfl rfl T.C6 (l1 (ad 7))) (fun _=>(gn 0 Av)) (fun _=>eR) (fun _=>(aD (lc (dH hr (ad 6) (aG aH (ad 2) (ad 0))) (l1 (c4 (gS T) hr (lc (ad 1) (lc (ad 3) (lc (ad 5) (l1 (aG ll ac (ad 4))))))))))))
  (ak (aq (aD (lc (ad 5) (l1 (cT dL T.BM (l1 (ad 8)))))))))))))) rfl
noncomputable def dh:Nat->aF
 |0=>ny
 |n+1=>Bs 3 (C.eZ (dh n))
def iW:aF:=dh 12
def lI(T:Txt P w K mg):Cw P w K mg base 12 "_law_puts" 3 iW:=lq (b:=0) (r:=dh) T.o__law_puts (fun n R0=>gX ["_law_body_here","_law_held","_law_found"] T.o__law_puts (fun _ _ _ _ _ _ _ hr nd=>(ab (aZ (fV hr (bc hr (ad 0)) ap) (ak (bx (mJ b7 cJ (ad 2) (l1 (bc hr (ad 0)))))) aE)
  (ab (aZ (fV hr (bc hr (ad 0)) ap) (ak (bx (c4 R0 hr (lc (bc hr (ad 0)) (lc (ad 1) (l1 (ad 2))))))) aE)
  (ak (aZ (aU (iP (eB hr)) (bc hr (ad 0)) (aD (lc ap (lc ap (l1 ap)))) rfl) (ab (aZ (m7 (eE (yZ hr (bc hr (ad 0)) ap) (eN (aU (iP (eB hr)) (bc hr (ad 0)) (ad 1) rfl)))) (ak (bx (c4 R0 hr (lc (dH hr (ad 0) (hU b5 ac)) (lc (ad 1) (l1 (ad 2))))))) aE)
  (ak (bx (c4 R0 hr (lc (dH hr (ad 0) (hU b5 ac)) (lc (ad 1) (l1 (ad 2)))))))) aE))))) rfl) rfl rfl 12
def cw:aF:=Bs 6 (C.cr iW)
def iB(T:Txt P w K mg):Cw P w K mg base 13 "_law_fillable" 1 cw:=gX ["_law_house_here","_law_held","_law_turn","_law_found","_law_name","_law_body_here"] T.o__law_fillable (fun _ _ _ _ _ _ _ hr nd=>(ab (s4 1 nd (bm cH))
  (ab (fI PassesOwn.never rfl (cK (bc hr (ad 0))) (gn 2 nd) (ab (s4 3 nd (bm cH))
  (ab (fI PassesOwn.never rfl (cK (bc hr (ad 0))) (pI rfl (aS (gn 4 nd) (aS (gn 5 nd) dC))) (ak (bx (c4 (lI T) hr (lc (ad 5) (lc (ad 1) (l1 (ad 3))))))))
  (ak (s4 1 nd (ad 3))))))
  (ak (aq (ad 1)))))) rfl
def dv:bG:=(az (cI (am fO [(v3 0),(c3 (.ty "int"))]) (iM (am fO [(v3 0),(c3 (.ty "bool"))]))))
def bi:aF:=Bs 1 dv
def bV(T:Txt P w K mg):Cw P w K mg base 1 "_law_number" 1 bi:=gX ["_law_one"] T.o__law_number (fun _ _ _ _ _ _ _ hr nd=>(ak (aq (lY (cB kB T.Bx (lc (ad 0) (l1 (xN T.Fe)))) (oq (vi (cB kB T.Bx (lc (ad 0) (l1 (xN T.FH)))))))))) rfl
def bW(Br s0 s1:aF):bG:=(af (bq (cA (aI (am fO [(v3 1),(c3 (.ty "tuple"))]))) (az (c3 (.bl false))) aO)
  (af (bq (aI (ah (jv false) (ah ag (v3 0) (c3 (.int 0))) (aB [(c3 (.str "rest")),(c3 (.str "pay")),(c3 (.str "put"))]))) (af (aW (eF "list" bt (v3 2) [(ah gq (bn [(bd (v3 0) (jx (c3 (.int 1))) j4)]) (am jz [(ah (bo false) (ah ag (v3 0) (c3 (.int 0))) (c3 (.str "put")))]))]))
  (az (ah (bo false) (v3 1) (aB [])))) aO)
  (af (bq (aI (ah (bo false) (ah ag (v3 0) (c3 (.int 0))) (c3 (.str "often")))) (af (au 3 (a_ (ba (v3 1)) (.n 0) (aI (ae s1 [(v3 1),(v3 0),(v3 2)])) (v3 0) 1 [0,2]))
  (az (ah (bo false) (am bw [(v3 3)]) (am bw [(v3 1)])))) aO)
  (af (bq (aI (ah (bo true) (am bw [(v3 1)]) (c3 (.int 2)))) (az (c3 (.bl false))) aO)
  (af (bq (aI (ah (bo false) (ah ag (v3 0) (c3 (.int 0))) (c3 (.str "then")))) (az (cI (ae s0 [(ah ag (v3 0) (c3 (.int 1))),(ah ag (v3 1) (c3 (.int 0))),(v3 2)]) (ae s0 [(ah ag (v3 0) (c3 (.int 2))),(ah ag (v3 1) (c3 (.int 1))),(v3 2)]))) aO)
  (af (bq (gc (cA (aI (ae Br [(ah ag (v3 1) (c3 (.int 0)))]))) (gc (aI (ah jW (ah ag (v3 1) (c3 (.int 0))) (c3 (.int 0)))) (aI (ah jX (ah ag (v3 1) (c3 (.int 0))) (c3 (.int 1)))))) (az (c3 (.bl false))) aO)
  (af (bq (gj (aI (ah (bo false) (ah ag (v3 0) (c3 (.int 0))) (c3 (.str "take")))) (aI (ah (bo false) (ah ag (v3 1) (c3 (.int 0))) (c3 (.int 0))))) (aW (eF "list" bh (v3 2) [(aB [(ah ag (v3 0) (c3 (.int 1))),(ah bA (c3 (.int 0)) (ah ag (v3 0) (c3 (.int 2))))])])) aO)
  (az (ae s0 [(ah ag (v3 0) (ah bA (ah ag (v3 1) (c3 (.int 0))) (c3 (.int 2)))),(ah ag (v3 1) (c3 (.int 1))),(v3 2)])))))))))
def bJ(Br s0 s1:aF):bG:=(af (bq (gc (cA (aI (am fO [(v3 1),(c3 (.ty "tuple"))]))) (gc (aI (ah (bo true) (am bw [(v3 1)]) (c3 (.int 2)))) (gc (cA (aI (ae Br [(ah ag (v3 1) (c3 (.int 0)))]))) (aI (ah jW (ah ag (v3 1) (c3 (.int 0))) (c3 (.int 1))))))) (az (c3 (.bl false))) aO)
  (az (ae s0 [(ah ag (v3 0) (c3 (.int 1))),(ah ag (v3 1) (c3 (.int 1))),(v3 2)])))
noncomputable def bf:Nat->aF×aF
 |0=>(ny,ny)
 |n+1=>(Bs 4 (bW bi (bf n).1 (bf n).2),Bs 3 (bJ bi (bf n).1 (bf n).2))
def cS(n:Nat):aF:=(bf n).1
def cx(n:Nat):aF:=(bf n).2
def i0(T:Txt P w K mg)(n:Nat){s0 s1:aF}(R0:Cw P w K mg base (1+n) "_law_follows" 3 s0)(R1:Cw P w K mg base (1+n) "_law_is_going" 3 s1):Cw P w K mg base (1+n+1) "_law_follows" 3 (Bs 4 (bW bi s0 s1)):=gX ["_law_body_here","_law_trace","_law_moves","_law_good"] T.o__law_follows (fun _ _ _ _ _ _ _ hr nd=>(ab (aZ (eA (eu (cB kB T.Bx (lc (ad 1) (l1 (xN T.BM)))))) (ak (aq j3)) aE)
  (ab (aZ (aU (iP (eB hr)) (bc hr (ad 0)) (aD (lc ap (lc ap (l1 ap)))) rfl) (ab (bx (mJ ft gr (ad 2) (l1 (aG eO (bm (l1 (bD (ad 0) (bR ac) cq))) (cT yM T.Fe (l1 (iL (iN (gy hr)) (bc hr (ad 0)) ap (aM _))))))))
  (ak (aq (iL (iN (gy hr)) (ad 1) (aD cH) (aM _))))) aE)
  (ab (aZ (fV hr (bc hr (ad 0)) ap) (ab (y3 ["_law_moves","_law_body_here"] 1 [0,2] ["_law_one","_law_body_here","_law_moves"] 3 nd (cK (ad 1)) (fun _=>(gn 0 Aw)) (fun _=>(oy (eu (c4 R1 hr (lc (ad 1) (lc (ad 0) (l1 (ad 2)))))))) (fun _=>(ad 0)))
  (ak (aq (iL (iN (gy hr)) (cB bM T.BI (l1 (ad 3))) (cB bM T.BI (l1 (ad 1))) (aM _))))) aE)
  (ab (aZ (yZ hr (cB bM T.BI (l1 (ad 1))) ac) (ak (aq j3)) aE)
  (ab (aZ (fV hr (bc hr (ad 0)) ap) (ak (aq (lY (c4 R0 hr (lc (bc hr (ad 0)) (lc (bc hr (ad 1)) (l1 (ad 2))))) (oq (c4 R0 hr (lc (bc hr (ad 0)) (lc (bc hr (ad 1)) (l1 (ad 2))))))))) aE)
  (ab (aZ (m7 (eE (eA (eu (c4 (bV T) hr (l1 (bc hr (ad 1)))))) (eE (aU iZ (bc hr (ad 1)) ac (aM _)) (eN (aU j8 (bc hr (ad 1)) ac (aM _)))))) (ak (aq j3)) aE)
  (ab (aZ (m7 (lX (fV hr (bc hr (ad 0)) ap) (k_ (fV hr (bc hr (ad 1)) ac)))) (ak (bx (mJ b7 cJ (ad 2) (l1 (aD (lc (bc hr (ad 0)) (l1 (aG cZ ac (bc hr (ad 0)))))))))) aE)
  (ak (aq (c4 R0 hr (lc (dH hr (ad 0) (aG cZ (bc hr (ad 1)) ac)) (lc (bc hr (ad 1)) (l1 (ad 2))))))))))))))) rfl
def iC(T:Txt P w K mg)(n:Nat){s0 s1:aF}(R0:Cw P w K mg base (1+n) "_law_follows" 3 s0)(R1:Cw P w K mg base (1+n) "_law_is_going" 3 s1):Cw P w K mg base (1+n+1) "_law_is_going" 3 (Bs 3 (bJ bi s0 s1)):=gX ["_law_body_here","_law_one","_law_moves"] T.o__law_is_going (fun _ _ _ _ _ _ _ hr nd=>(ab (aZ (m7 (eE (eA (eu (cB kB T.Bx (lc (ad 1) (l1 (xN T.BM)))))) (eE (yZ hr (cB bM T.BI (l1 (ad 1))) ac) (eE (eA (eu (c4 (bV T) hr (l1 (bc hr (ad 1)))))) (eN (aU iZ (bc hr (ad 1)) ac (aM _))))))) (ak (aq j3)) aE)
  (ak (aq (c4 R0 hr (lc (bc hr (ad 0)) (lc (bc hr (ad 1)) (l1 (ad 2))))))))) rfl
theorem dG(T:Txt P w K mg):∀n:Nat,Cw P w K mg base (1+n) "_law_follows" 3 (cS n)/\Cw P w K mg base (1+n) "_law_is_going" 3 (cx n)
 |0=>⟨.zero T.o__law_follows,.zero T.o__law_is_going⟩
 |n+1=>let ⟨h0,h1⟩:=dG T n;⟨i0 T n h0 h1,iC T n h0 h1⟩
def cU:aF:=cS 12
def i3(T:Txt P w K mg):Cw P w K mg base 13 "_law_follows" 3 cU:=(dG T 12).1
def d8:aF:=Bs 10 (C.dQ bU w__law_draw bO)
def kc(T:Txt P w K mg):Cw P w K mg base 4 "_law_chain" 1 d8:=gX ["_law_deal_here","_law_words_here","_law_left","_law_jars","_law_jar","_law_order","_law_bodies","_law_k","_law_body_here","_law_more"] T.o__law_chain (fun _ _ _ _ _ _ _ hr nd=>(ab (s4 1 nd (c4 (du T) hr (lc (ad 0) (l1 ac))))
  (ab (s4 2 nd (bD (ad 1) cq (bR (aG aH ac (c4 (ai T) hr (lc (ad 0) (l1 ac)))))))
  (ab (s4 3 nd (cT dL T.BM (l1 (ad 2))))
  (ab (y3 ["_law_left","_law_deal_here"] 1 [0,2] ["_law_jar","_law_deal_here","_law_left"] 5 nd (cK (ad 3)) (fun _=>(gn 0 Ax)) (fun _=>eR) (fun _=>(mJ rV vm (ad 2) (l1 (c4 (ai T) hr (lc (ad 1) (l1 (cB bM T.BI (l1 (ad 2))))))))))
  (ab (s4 6 nd (bm cH))
  (ab (fI PassesOwn.never rfl (jD rfl rfl T.BY (by decide +kernel) (l1 (ad 5))) (pI rfl (aS (gn 7 nd) (aS (gn 4 nd) dC))) (ab (s4 8 nd (aD (lc ap (lc (ad 4) (l1 (aG aH ac (c4 (ai T) hr (lc (ad 0) (l1 ac)))))))))
  (ab (aZ (m7 (eE (aU j8 (ad 7) ac (aM _)) (eN (fV hr (c4 (ai T) hr (lc (ad 0) (l1 ac))) ac)))) (ak (s4 8 nd (aD (lc ap (lc (dH hr (ad 5) (aG cZ (ad 7) ac)) (lc (aG aH ac (c4 (ai T) hr (lc (ad 0) (l1 ac)))) (lc (ad 8) (l1 (c4 (bE T) hr (lc (ad 0) (l1 (bm cH)))))))))))) aE)
  (ab (s4 9 nd (bm (lc (aD (lc ap (lc (c4 (bE T) hr (lc (ad 0) (l1 (bm cH)))) (l1 (ad 8))))) (lc (aD (lc ap (l1 (ad 8)))) (l1 (aD (lc ap (lc (c4 (bE T) hr (lc (ad 0) (l1 (bm cH)))) (l1 (ad 8))))))))))
  (ak (bx (mJ pQ rQ (ad 6) (lc (c4 (ai T) hr (lc (ad 0) (l1 (aG aH (cB bM T.BI (l1 (ad 6))) ac)))) (l1 (dH hr (bm (lc (ad 8) (lc (bc hr (ad 9)) (lc (bc hr (ad 9)) (l1 (bc hr (ad 9))))))) (c4 (ai T) hr (lc (ad 0) (l1 ac)))))))))))))
  (ak (aq (aD (lc (ad 3) (l1 (cT dL T.BM (l1 (sU ["_law_words_here"] 2 [1] ["_law_k","_law_body_here","_law_words_here"] (jD rfl rfl T.BY (by decide +kernel) (l1 (ad 6))) (fun _=>(pI rfl (aS (gn 0 zk) (aS (gn 1 zk) dC)))) (fun _=>eR) (fun _=>(aD (lc (dH hr (ad 2) (aG aH ac (ad 0))) (l1 (ad 1)))))))))))))))))))) rfl
def bX(Bb DJ DK BK CL:aF):bG:=(af (au 1 (ae Bb [(v3 0),(c3 (.int 4))]))
  (af (bq (aI (ah (bo false) (v3 1) (c3 (.int 0)))) (az (ae DJ [(v3 0)])) aO)
  (af (bq (aI (ah (bo false) (v3 1) (c3 (.int 1)))) (az (ae DK [(v3 0),(c3 (.int 4)),(c3 (.int 4)),(c3 (.int 20))])) aO)
  (af (au 2 (ae BK [(v3 0),(c3 (.int 8))]))
  (af (au 3 (am br [(bd (v3 2) j4 (jx (ae Bb [(v3 0),(c3 (.int 5))])))]))
  (af (au 4 (ah ag (bn [(c3 (.int 0)),(c3 (.int 4))]) (ae Bb [(v3 0),(c3 (.int 2))])))
  (af (au 5 (ah aV (c3 (.int 1)) (ae Bb [(v3 0),(c3 (.int 4))])))
  (az (aB [(v3 3),(am br [(a_ (j7 (v3 5)) (.n 0) cL (aB [(ah ag (v3 4) (ah aV (v3 2) (v3 0))),(ae CL [(v3 1),(v3 3),(bn [(c3 (.int 19))]),(c3 (.int 5))])]) 1 [0,4,3,2])])])))))))))
def bY:aF:=Bs 6 (bX w__law_draw d8 d6 bU fk)
def cV(T:Txt P w K mg):Cw P w K mg base 27 "_law_wide_house" 1 bY:=gX ["_law_deal_here","_law_form","_law_words_here","_law_jars","_law_first","_law_many"] T.o__law_wide_house (fun _ _ _ _ _ _ _ hr nd=>(ab (s4 1 nd (c4 (ai T) hr (lc (ad 0) (l1 ac))))
  (ab (aZ (fV hr (ad 1) ac) (ak (aq (c4 (kc T) hr (l1 (ad 0))))) aE)
  (ab (aZ (fV hr (ad 1) ac) (ak (aq (c4 (j_ T) hr (lc (ad 0) (lc ac (lc ac (l1 ac))))))) aE)
  (ab (s4 2 nd (c4 (du T) hr (lc (ad 0) (l1 ac))))
  (ab (s4 3 nd (cT dL T.BM (l1 (bD (ad 2) cq (bR (c4 (ai T) hr (lc (ad 0) (l1 ac))))))))
  (ab (s4 4 nd (dH hr (bm (lc ac (l1 ac))) (c4 (ai T) hr (lc (ad 0) (l1 ac)))))
  (ab (s4 5 nd (aG aH ac (c4 (ai T) hr (lc (ad 0) (l1 ac)))))
  (ak (aq (aD (lc (ad 3) (l1 (cT dL T.BM (l1 (sU ["_law_words_here","_law_jars","_law_first","_law_deal_here"] 1 [0,4,3,2] ["_law_k","_law_deal_here","_law_first","_law_jars","_law_words_here"] (eQ rfl rfl T.C6 (l1 (ad 5))) (fun _=>(gn 0 Ay)) (fun _=>eR) (fun _=>(aD (lc (dH hr (ad 4) (aG aH (ad 2) (ad 0))) (l1 (c4 (gR T) hr (lc (ad 1) (lc (ad 3) (lc (bm (l1 ac)) (l1 ac))))))))))))))))))))))))) rfl
noncomputable def bZ:Nat->aF
 |0=>ny
 |n+1=>Bs 3 (C.cO (bZ n))
def fm:aF:=bZ 12
def i4(T:Txt P w K mg):Cw P w K mg base 12 "_law_swapped" 2 fm:=lq (b:=0) (r:=bZ) T.o__law_swapped (fun n R0=>gX ["_law_body_here","_law_names","_law_sides"] T.o__law_swapped (fun _ _ _ _ _ _ _ hr nd=>(ab (aZ (fV hr (bc hr (ad 0)) ap) (ak (aq (aD (lc ap (lc (rO (sQ hr) (ad 1) (bc hr (ad 0)) (bc hr (ad 0)) ⟨rfl,rfl,rfl,rfl⟩) (l1 (bc hr (ad 0)))))))) aE)
  (ab (aZ (fV hr (bc hr (ad 0)) ap) (ak (aq (aD (lc ap (l1 (c4 R0 hr (lc (bc hr (ad 0)) (l1 (ad 1))))))))) aE)
  (ab (aZ (aU (iP (eB hr)) (bc hr (ad 0)) (aD (lc ap (lc ap (l1 ap)))) rfl) (ab (s4 2 nd (aD (lc (c4 R0 hr (lc (dH hr (ad 0) (hU b5 ac)) (l1 (ad 1)))) (l1 (c4 R0 hr (lc (dH hr (ad 0) (hU b5 ac)) (l1 (ad 1))))))))
  (ab (aZ (fV hr (bc hr (ad 0)) ap) (ak (aq (aG aH (aD (lc ap (lc (rO (sQ hr) (ad 1) (bc hr (ad 0)) (bc hr (ad 0)) ⟨rfl,rfl,rfl,rfl⟩) (l1 (bc hr (ad 0)))))) (ad 2)))) aE)
  (ak (aq (aG aH (bD (ad 0) cq (bR ac)) (ad 2)))))) aE)
  (ak (aq (ad 0))))))) rfl) rfl rfl 12
def f9:aF:=Bs 6 (C.fU fm)
def mz(T:Txt P w K mg):Cw P w K mg base 13 "_law_kin" 1 f9:=gX ["_law_house_here","_law_jars","_law_deeds","_law_found","_law_names","_law_bodies"] T.o__law_kin (fun _ _ _ _ _ _ _ hr nd=>(ab (vo (ad 0) (pI rfl (aS (gn 1 nd) (aS (gn 2 nd) dC))))
  (ab (s4 3 nd (bm (l1 (ad 0))))
  (ab (aZ (aU j8 (cB bM T.BI (l1 (ad 2))) ac (aM _)) (ab (s4 4 nd (sU [] 2 [] ["_law_name","_law_body_here"] (cK (ad 2)) (fun _=>(pI rfl (aS (gn 0 uR) (aS (gn 1 uR) dC)))) (fun _=>eR) (fun _=>(ad 0))))
  (ab (y3 [] 2 [] ["_law_name","_law_body_here"] 5 nd (cK (ad 2)) (fun _=>(pI rfl (aS (gn 0 uR) (aS (gn 1 uR) dC)))) (fun _=>eR) (fun _=>(ad 1)))
  (ak (bx (mJ ft gr (ad 3) (l1 (bm (lc (aD (lc (ad 1) (l1 (bD (ad 2) cq (bR (hU b5 ac)))))) (l1 (aD (lc (ad 1) (l1 (w4 rfl rfl rfl rfl T.BM rfl T.Gg (lc (ad 4) (l1 (aG aH (bD (ad 5) (bR ac) cq) (bD (ad 5) cq (bR ac)))))))))))))))))) aE)
  (ab (aZ (aU j8 (cB bM T.BI (l1 (ad 1))) ac (aM _)) (ab (s4 4 nd (rN (gx (bc hr (ad 1)) (dH hr (ad 1) (hU b5 ac)) (gx (dH hr (ad 1) (hU b5 ac)) (bc hr (ad 1)) rM))))
  (ak (bx (mJ b7 cJ (ad 3) (l1 (aD (lc (ad 1) (l1 (cT dL T.BM (l1 (sU ["_law_names"] 2 [4] ["_law_name","_law_body_here","_law_names"] (cK (ad 2)) (fun _=>(pI rfl (aS (gn 0 zl) (aS (gn 1 zl) dC)))) (fun _=>eR) (fun _=>(aD (lc (ad 0) (l1 (c4 (i4 T) hr (lc (ad 1) (l1 (ad 2))))))))))))))))))) aE)
  (ak (aq (ad 3)))))))) rfl
def d9(Er Br Dv Dk:aF):bG:=(af (au 1 (ae Er [(v3 0)]))
  (af (bq (cA (aI (am fO [(v3 1),(c3 (.ty "list"))]))) (az (c3 (.bl false))) aO)
  (af (au 2 (bn []))
  (af (cX (ba (v3 1)) (.n 3) (af (bq (gc (cA (aI (am fO [(v3 3),(c3 (.ty "tuple"))]))) (gc (aI (ah (bo true) (am bw [(v3 3)]) (c3 (.int 3)))) (gc (cA (aI (ae Br [(ah ag (v3 3) (c3 (.int 0)))]))) (cA (aI (ae Br [(ah ag (v3 3) (c3 (.int 1)))])))))) (az (c3 (.bl false))) aO)
  (af (nh (v3 3) (.tp (.cons (.n 4) (.cons (.n 5) (.cons (.n 6) .nil)))))
  (af (au 7 (bn []))
  (af (bq (gc (cA (aI (jH wZ jW (c3 (.int 0)) (v3 4) (am bw [(ah ag (v3 0) (c3 (.int 0)))])))) (gc (cA (aI (jH wZ jW (c3 (.int 0)) (v3 5) (am bw [(ah ag (v3 0) (c3 (.int 1)))])))) (aI (ah (jv false) (ah ag (ah ag (v3 0) (c3 (.int 0))) (v3 4)) (v3 2))))) (az (c3 (.bl false))) aO)
  (af (bq (cA (aI (ae Dv [(ah ag (ah ag (ah ag (v3 0) (c3 (.int 1))) (v3 5)) (c3 (.int 1))),(v3 6),(v3 7)]))) (az (c3 (.bl false))) aO)
  (af (bq (aI (ah (jv true) (ah ag (ah ag (v3 0) (c3 (.int 0))) (v3 4)) (a_ (ba (v3 7)) (.tp (.cons (.n 0) (.cons (.n 1) .nil))) (aI (ah jX (v3 1) (c3 (.int 0)))) (v3 0) 2 []))) (az (c3 (.bl false))) aO)
  (af (bq (aI (ah jX (am bw [(a_ (ba (v3 7)) (.tp (.cons (.n 0) (.cons (.n 1) .nil))) (gj (aI (ah jW (v3 1) (c3 (.int 0)))) (aI (ah (jv true) (v3 0) (v3 2)))) (v3 0) 2 [2])]) (c3 (.int 0)))) (az (c3 (.bl false))) aO)
  (aW (eF "list" bh (v3 2) [(ah ag (ah ag (v3 0) (c3 (.int 0))) (v3 4))]))))))))))
  (af (aW (eF "list" lh (v3 1) []))
  (az (ah (bo false) (am lu [(v3 2)]) (sd (ae Dk [(v3 0)])))))))))
def d_:aF:=Bs 8 (d9 iA bi cU cw)
def ke(T:Txt P w K mg):Cw P w K mg base 29 "_law_right" 1 d_:=gX ["_law_house_here","_law_found","_law_ahead","_law_row","_law_j","_law_d","_law_trace","_law_moves"] T.o__law_right (fun _ _ _ _ _ _ _ hr nd=>(ab (s4 1 nd (c4 (nQ T) hr (l1 (ad 0))))
  (ab (aZ (eA (eu (cB kB T.Bx (lc (ad 1) (l1 (xN T.EH)))))) (ak (aq j3)) aE)
  (ab (s4 2 nd (bm cH))
  (ab (fI PassesOwn.never rfl (cK (ad 1)) (gn 3 nd) (ab (aZ (m7 (eE (eA (eu (cB kB T.Bx (lc (ad 3) (l1 (xN T.BM)))))) (eE (yZ hr (cB bM T.BI (l1 (ad 3))) ac) (eE (eA (eu (c4 (bV T) hr (l1 (bc hr (ad 3)))))) (eN (eA (eu (c4 (bV T) hr (l1 (bc hr (ad 3))))))))))) (ak (aq j3)) aE)
  (ab (vo (ad 3) (pI rfl (aS (gn 4 nd) (aS (gn 5 nd) (aS (gn 6 nd) dC)))))
  (ab (s4 7 nd (bm cH))
  (ab (aZ (m7 (eE (eA (oA yV iZ ac (ad 4) (cB bM T.BI (l1 (bc hr (ad 0)))))) (eE (eA (oA yV iZ ac (ad 5) (cB bM T.BI (l1 (bc hr (ad 0)))))) (eN (aU (iP (eB hr)) (dH hr (bc hr (ad 0)) (ad 4)) (ad 2) rfl))))) (ak (aq j3)) aE)
  (ab (aZ (eA (eu (c4 (i3 T) hr (lc (bc hr (dH hr (bc hr (ad 0)) (ad 5))) (lc (ad 6) (l1 (ad 7))))))) (ak (aq j3)) aE)
  (ab (aZ (aU (gk (eB hr)) (dH hr (bc hr (ad 0)) (ad 4)) (sU [] 2 [] ["_law_jar","_law_many"] (cK (ad 7)) (fun _=>(pI rfl (aS (gn 0 vt) (aS (gn 1 vt) dC)))) (fun _=>(oy (aU j8 (ad 1) ac (aM _)))) (fun _=>(ad 0))) rfl) (ak (aq j3)) aE)
  (ab (aZ (aU j8 (cB bM T.BI (l1 (sU ["_law_ahead"] 2 [2] ["_law_jar","_law_many","_law_ahead"] (cK (ad 7)) (fun _=>(pI rfl (aS (gn 0 vv) (aS (gn 1 vv) dC)))) (fun _=>(oy (m7 (lX (aU iZ (ad 1) ac (aM _)) (k_ (aU (gk (eB hr)) (ad 0) (ad 2) rfl)))))) (fun _=>(ad 0))))) ac (aM _)) (ak (aq j3)) aE)
  (ak (bx (mJ b7 cJ (ad 2) (l1 (dH hr (bc hr (ad 0)) (ad 4))))))))))))))
  (ab (bx (y2 rW uf (ad 1)))
  (ak (aq (iL (iN (gy hr)) (cB uH T.DV (l1 (ad 2))) (xj rfl rfl T.DV rfl T.Gf (c4 (iB T) hr (l1 (ad 0))) rfl pq) (aM _)))))))))) rfl
def sA(Cn Dg Ea DL:aF):bG:=(af (au 1 (ae Cn [(ae Dg [(v3 0),(c3 (.int 0))])]))
  (af (au 2 (ae Cn [(ae Dg [(v3 0),(c3 (.int 1))])]))
  (az (am ud [(a_ (ba (ah aV (ae Ea [(v3 1)]) (bn [(v3 2),(v3 1)]))) (.n 0) cL (ae DL [(v3 0)]) 1 [])]))))
def mB:aF:=Bs 3 (sA bY iV f9 d_)
def xA(T:Txt P w K mg){f:Addr}{fd:FuncData}(O:zI K mg "law" (bN 34) ["_law_script"] f fd):EO P w K mg base 30 f fd ["_law_script"] mB:=A2 ["_law_script","_law_one","_law_other"] O (fun _ _ _ _ _ _ _ hr nd=>(ab (s4 1 nd (c4 (cV T) hr (l1 (c4 (gQ T) hr (lc (ad 0) (l1 ac))))))
  (ab (s4 2 nd (c4 (cV T) hr (l1 (c4 (gQ T) hr (lc (ad 0) (l1 ac))))))
  (ak (aq (cB (yN rfl) T.Ge (l1 (sU [] 1 [] ["_law_house_here"] (cK (aG aH (c4 (mz T) hr (l1 (ad 1))) (bm (lc (ad 2) (l1 (ad 1)))))) (fun _=>(gn 0 zm)) (fun _=>eR) (fun _=>(c4 (ke T) hr (l1 (ad 0)))))))))))) rfl
end
end G26
namespace G26
open PySem L2 L3 Wd
open C
abbrev f_(w:aF):Prop:=∀{S:av} {d l:Addr} {Q:ce} {E:cW},Bo S d l->(∀js ds S',HG js ds->Q (BZ js ds) S')->w [.ref d] S Q E
def uS{x0 x1 x2 x3 x4:aF}(Be:bB x0)(Du:fZ x1)(EI:fY x2)(Cb:dF x3)(n:Nat)(hn6:6<=n)(C5:e_ n x4):f_ (Bs 6 (bX x0 x1 x2 x3 x4)):=by
 intro Sa d l Q E Da k
 unfold bX
 refine im ?_
 rw[show aC 6 [PV.ref d]=[some (.ref d),none,none,none,none,none] from rfl]
 refine al fun N hN=>?_
 walk_at "x"
 refine Be Da (by decide) (by decide) fun r9 S0 _ _ D0 Oa=>?_
 refine hN _ _ (al fun N hN=>?_)
 walk_at "x"
 simp only[Bool.false_bne,decide_eq_true_eq]
 split
 ·exact Du D0 fun js ds S' h=>k js ds S' h.toHG
 refine hN _ _ (al fun N hN=>?_)
 walk_at "x"
 simp only[Bool.false_bne,decide_eq_true_eq]
 split
 ·exact EI (most:=4) (many:=4) (size:=20) D0 (by decide) (by decide) (by decide) (by decide) (by decide) fun js ds S2 h h1 h4 hj D2 O2=>k js ds S2 ⟨fun z hz=>io (h.jw z hz),by omega,by omega,h.gd,h.dq,h.sz⟩
 refine hN _ _ (al fun N hN=>?_)
 walk_at "x"
 refine Cb D0 (by decide) (by decide) fun p ns S hl hnd hw0 _ DF hpl hp D O0=>?_
 have hl8':ns.length=8:=hl
 have hw:∀z∈ns,IsW z:=fun z hz=>(hw0 z hz).1
 refine hN _ _ (al fun N hN=>?_)
 walk_at "x"
 refine Be (m:=5) D (by omega) (by omega) fun r S1 r0 r1 D1 O1=>?_
 obtain⟨j,rfl⟩:∃j:Nat,r=(j:Int):=⟨r.toNat,by omega⟩
 have hp1:=O1 _ _ hp DF hpl
 rw[hp1]
 dsimp only
 rw[jP (by rw[List.length_map];omega),<-List.map_take]
 intro p2 hp2
 rw[aa]
 dsimp only
 have D2:Bo (Bc S1 p2 (.lst ((ns.take j).map PV.str))) d l:=D1.new hp2
 have hp2':=Ca.new (o:=.lst ((ns.take j).map PV.str)) hp2 _ _ hp1 DF hpl
 generalize Bc S1 p2 (.lst ((ns.take j).map PV.str))=S2 at D2 hp2'
 refine hN _ _ (al fun N hN=>?_)
 walk_at "x"
 intro p3 hp3
 have F8:=D2.free hp3
 refine Be (D2.new hp3) (by decide) (by decide) fun f S3 f0 f1 D3 O3=>?_
 have e3:=O3 _ _ (aa (S:=S2) (o:=.lst [.int 0,.int 4])) F8.1 F8.2
 have Fz:=O3 _ _ (Ca.new hp3 _ _ hp2' DF hpl) DF hpl
 simp only[e3]
 obtain⟨v,hv,F9⟩:=dW (xs:=[PV.int 0,.int 4]) f0 (by simpa using f1)
 rw[hv]
 obtain⟨g,rfl,hg⟩:∃g:Nat,v = .int g/\g<=4:=by
  simp only[List.mem_cons,List.not_mem_nil,or_false]at F9
  rcases F9 with rfl|rfl
  ·exact⟨0,rfl,by omega⟩
  ·exact⟨4,rfl,by omega⟩
 refine hN _ _ (al fun N hN=>?_)
 walk_at "x"
 refine Be (m:=4) D3 (by omega) (by omega) fun r4 S4 a0 a1 D4 O4=>?_
 obtain⟨mm,em⟩:∃mm:Nat,1+r4=(mm:Int):=⟨(1+r4).toNat,by omega⟩
 dsimp only
 rw[em]
 have FN:=O4 _ _ Fz DF hpl
 refine hN _ _ ?_
 walk_at "x"
 refine⟨by omega,by omega,?_⟩
 rw[Int.toNat_natCast]
 have hjl:(ns.take j).length<=8:=by rw[List.length_take];omega
 refine cm (fun done ys S'=>∃ds:List (Str×Bd),ys=ds.map fJ/\ds.length=done.length/\done.length<=mm/\(∀q∈ds,q.2.good (ns.take j) []/\q.2.dep<=6/\q.2.size<=60)/\Bo S' d l/\Ca d l S4 S') ⟨[],rfl,rfl,Nat.zero_le _,by simp,D4,.refl⟩ ?_ ?_ ?_
 ·rintro done ys S' ⟨ds,rfl,e,hd,_⟩
  exact⟨trivial,cy (by rw[List.length_map,e];omega)⟩
 ·rintro done x rest ys S' K e ⟨ds,rfl,e2,hd,hc,D',O'⟩ hK
  obtain⟨rfl,hi⟩:=oH e
  walk_at "x"
  try simp only[cL,if_true]
  have hp':=O' _ _ FN DF hpl
  simp only[hp']
  have hlt:g+done.length < ns.length:=by omega
  have hat:Ck (ns.map PV.str) ((g:Int)+(done.length:Int))=some (.str ns[g+done.length]):=by
   have:((g:Int)+(done.length:Int))=((g+done.length:Nat):Int):=by omega
   rw[this]
   exact jQ (by rw[List.getElem?_map,List.getElem?_eq_getElem hlt];rfl)
  rw[hat]
  dsimp only
  intro px hx
  have dx:=D'.free hx
  refine C5 (D'.new hx) aa dx.1 dx.2 (by omega) (by omega) (by omega) (by decide) (by omega) fun t S5 l1 tg td q0 q1 D5 hx5 O5=>?_
  have Hl:Ca d l S' S5:=fun a o ha h1 h2=>O5 a o (by rw[aj (fun e=>by rw[e,hx]at ha;cases ha)];exact ha) h1 h2 (fun e=>by rw[e,hx]at ha;cases ha)
  refine hK _ _ ⟨ds++[(ns[g+done.length],t)],by simp[fJ],by simp[e2],by rw[List.length_append];exact hi,fun y hy=>?_,D5,O'.trans Hl⟩
  rcases List.mem_append.mp hy with hy|hy
  ·exact hc y hy
  ·rw[List.mem_singleton.mp hy];exact⟨tg,show t.dep<=6 by omega,show t.size<=60 by omega⟩
 rintro ys S5 ⟨ds,rfl,e,_,hds,D5,O5⟩
 rw[cP]at e
 intro p6 Hm
 rw[aa]
 dsimp only
 exact k (ns.take j) ds _ ⟨fun z hz=>io (hw z (List.mem_of_mem_take hz)),by omega,by omega,fun q hq=>(hds q hq).1,fun q hq=>(hds q hq).2.1,fun q hq=>(hds q hq).2.2⟩
def oN{c:gW}{t u:bG}{v:Bool}{σ:b3}{S:av}{D:ju}(h:∀Q E,Q v S->c σ S Q E)(qt:v=true->t D σ S)(qf:v=false->u D σ S):bq c t u D σ S:=by
 refine h _ _ ?_
 cases v with
 |true=>exact qt rfl
 |false=>exact qf rfl
def sB{t:Bd}{v:PV}(hp:t.plain=true)(h:bj t v=true):v = .tup []:=by
 cases v with
 |tup xs=>rw[nJ hp,decide_eq_true_eq]at h;rw[h]
 |_=>cases t<;>first|(cases hp;done)|(cases h)
noncomputable def cs(a:Bd)(k:Nat)(xs:List PV):Nat:=xs.foldl (fun k g=>k+(nm (jY g)).toNat * (cv a (d0 g)+1)) k
theorem vx(a:Bd):∀(xs:List PV) (k:Nat),k<=cs a k xs
 |[],k=>Nat.le_refl _
 |x::xs,k=>Nat.le_trans (Nat.le_add_right _ _) (vx a xs _)
def sC(a:Bd)(k:Nat)(xs ys:List PV):cs a k (xs++ys)=cs a (cs a k xs) ys:=List.foldl_append
def uT{a:Bd}{k:Nat}{xs done rest:List PV}{m:Int}{y:PV}(e:xs=done ++ .tup [.int m,y]::rest)(hm:1<=m):cs a k done+cv a y+1<=cs a k (done++[.tup [.int m,y]])/\cs a k (done++[.tup [.int m,y]])<=cs a k xs:=by
 constructor
 ·rw[sC]
  show _<=cs a k done+m.toNat * (cv a y+1)
  have:cv a y+1<=m.toNat * (cv a y+1):=Nat.le_mul_of_pos_left _ (by omega)
  omega
 ·rw[e,show done++PV.tup [.int m,y]::rest=(done++[.tup [.int m,y]])++rest by simp,sC a k _ rest]
  exact vx a rest _
noncomputable def kf(p:Str×Int):PV:=.tup [.str p.1,.int p.2]
def jg:∀(t:Bd) (v:PV) (k:Nat) (m:Int),bj t v=true->(Cl t v).length<=cv t v/\(nO t v k m).length<=cv t v:=by
 intro t
 induction t with
 |rest=>intro v k m _;exact⟨Nat.zero_le _,Nat.zero_le _⟩
 |pay x y=>intro v k m _;exact⟨Nat.zero_le _,Nat.zero_le _⟩
 |use z=>intro v k m _;exact⟨Nat.zero_le _,Nat.zero_le _⟩
 |put z n=>intro v k m _;exact⟨show 1<=2 by decide,Nat.zero_le _⟩
 |Bh a b C2 C7=>
  intro v k m h
  obtain⟨x,y,rfl,hx,hy⟩:=lB h
  have p:=C2 x k m hx;have q:=C7 y (k+nN a) m hy
  show(Cl a x++Cl b y).length<=cv a x+cv b y/\(nO a x k m++nO b y (k+nN a) m).length<=cv a x+cv b y
  rw[List.length_append,List.length_append];omega
 |BG a b C2 C7=>
  intro v k m h
  obtain⟨i,y,rfl,hy⟩:=lC h
  rcases hy with⟨rfl,hy⟩|⟨rfl,hy⟩
  ·have p:=C2 y k m hy
   exact⟨Nat.le_succ_of_le p.1,Nat.le_succ_of_le p.2⟩
  ·have p:=C7 y (k+nN a) m hy
   exact⟨Nat.le_succ_of_le p.1,Nat.le_succ_of_le p.2⟩
 |BB z n a b C2 C7=>
  intro v k m h
  obtain⟨i,y,rfl,hy⟩:=lD h
  rcases hy with⟨rfl,hy⟩|⟨rfl,hy⟩
  ·have p:=C2 y k m hy
   exact⟨by show(Cl a y).length+1<=cv a y+2;omega,by show(nO a y k m).length<=cv a y+2;omega⟩
  ·have p:=C7 y (k+nN a) m hy
   exact⟨by show(Cl b y).length<=cv b y+2;omega,by show(nO b y (k+nN a) m).length<=cv b y+2;omega⟩
 |BC a C2=>
  intro v k m h
  obtain⟨xs,rfl,hx⟩:=nK h
  show(xs.flatMap fun g=>Cl a (d0 g)).length<=cs a 0 xs+1/\(xs.flatMap fun g=>nO a (d0 g) (k+1) (m * nm (jY g))++[(k,uQ a (d0 g),m * nm (jY g),a)]).length<=cs a 0 xs+1
  have key:∀(xs:List PV) (n:Nat),(∀u∈xs,nG a u=true)->(xs.flatMap fun g=>Cl a (d0 g)).length+n<=cs a n xs/\(xs.flatMap fun g=>nO a (d0 g) (k+1) (m * nm (jY g))++[(k,uQ a (d0 g),m * nm (jY g),a)]).length+n<=cs a n xs:=by
   intro xs
   induction xs with
   |nil=>intro n _;exact⟨by simp[cs],by simp[cs]⟩
   |cons u xs ih=>
    intro n hu
    obtain⟨j,y,rfl,hj,hy⟩:=iG (hu u (by simp))
    have p:=C2 y (k+1) (m * j) hy
    have q:=ih (n+j.toNat * (cv a y+1)) fun w hw=>hu w (by simp[hw])
    have r:cv a y+1<=j.toNat * (cv a y+1):=Nat.le_mul_of_pos_left _ (by omega)
    have e:cs a n (.tup [.int j,y]::xs)=cs a (n+j.toNat * (cv a y+1)) xs:=rfl
    rw[e,List.flatMap_cons,List.flatMap_cons,List.length_append,List.length_append,List.length_append]
    show(Cl a y).length+_+n<=_/\(nO a y (k+1) (m * j)).length+1+_+n<=_
    omega
  have:=key xs 0 fun u hu=>List.all_eq_true.mp hx u hu
  omega
abbrev gT(w:aF):Prop:=∀{S:av} {i:Int} {Q:ce} {E:cW},Q (.bl true) S->w [.int i] S Q E
def Cd:gT (Bs 1 dv):=by
 intro S i Q E k
 unfold dv
 refine im ?_
 rw[show aC 1 [PV.int i]=[some (.int i)] from rfl]
 simp only[az,cI,iM,am,ao,v3,lk,c3,xv,xx,if_true,Bool.not_false]
 exact k
abbrev fy(n:Nat)(w:aF):Prop:=∀{S:av} {js:Vs} {t:Bd} {v:PV} {mv:Addr} {ms:List PV} {Q:ce} {E:cW},t.dep<=n->t.good js []->bj t v=true->S mv=some (.lst ms)->ms.length+cv t v<=16000000->(∀S',CJ mv S S'->S' mv=some (.lst (ms++(Cl t v).map kf))->Q (.bl true) S')->w [t.pv,v,.ref mv] S Q E
abbrev lJ(n:Nat)(w:aF):Prop:=∀{S:av} {js:Vs} {a:Bd} {g:PV} {mv:Addr} {ms:List PV} {Q:ce} {E:cW},a.dep<=n->a.good js []->nG a g=true->S mv=some (.lst ms)->ms.length+cv a (d0 g)<=16000000->(∀S',CJ mv S S'->S' mv=some (.lst (ms++(Cl a (d0 g)).map kf))->Q (.bl true) S')->w [(Bd.BC a).pv,g,.ref mv] S Q E
def xB{xn s0 s1:aF}(Cd:gT xn)(n:Nat)(ih:fy n s0):lJ n (Bs 3 (bJ xn s0 s1)):=by
 intro S js a g mv ms Q E hd hg hv hm hc k
 obtain⟨m,y,rfl,h1,hy⟩:=iG hv
 unfold bJ
 refine im ?_
 rw[show aC 3 [(Bd.BC a).pv,.tup [.int m,y],.ref mv]=[some (Bd.BC a).pv,some (.tup [.int m,y]),some (.ref mv)] from rfl]
 refine al fun N hN=>?_
 refine oN (v:=false) (fun Q E q=>?_) (fun h=>nomatch h) (fun _=>hN _ _ ?_)
 ·simp only[gc,cA,aI,am,ah,ao,v3,lk,c3,nH,Bool.not_true,Bool.false_eq_true,if_false,bw,bo,List.length_cons,List.length_nil,ae,ag,dU]
  simp only[Nat.zero_add,Nat.reduceAdd,Int.cast_ofNat_Int,decide_true,bne_self_eq_false,Bool.false_eq_true,if_false]
  refine Cd ?_
  simp only[Bool.not_true,Bool.false_eq_true,if_false,jW,bP]
  rw[decide_eq_false (by omega)]
  exact q
 ·simp only[az,ae,ao,ah,v3,lk,c3,ag,Bd.pv,jf]
  exact ih hd hg hy hm hc k
def vy{n:Nat}(h:n<=16000000):n<=sizeLine:=Nat.le_trans h (by decide)
def xC:∀z∈(["rest","pay","put"]:Vs),PyData.strOk z=true:=by decide +kernel
def Eb{xn s0 s1:aF}(Cd:gT xn)(n:Nat)(ih:fy n s0)(ih1:lJ n s1):fy (n+1) (Bs 4 (bW xn s0 s1)):=by
 intro S js t v mv ms Q E hd hg hv hm hc k
 have hcl:=(jg t v 0 0 hv).1
 unfold bW
 refine im ?_
 rw[show aC 4 [t.pv,v,.ref mv]=[some t.pv,some v,some (.ref mv),none] from rfl]
 obtain⟨xs,rfl⟩:∃xs,v = .tup xs:=by
  cases t with
  |Bh a b=>obtain⟨x,y,rfl,_⟩:=lB hv;exact⟨_,rfl⟩
  |BG a b=>obtain⟨i,y,rfl,_⟩:=lC hv;exact⟨_,rfl⟩
  |BB z m a b=>obtain⟨i,y,rfl,_⟩:=lD hv;exact⟨_,rfl⟩
  |BC a=>obtain⟨xs,rfl,_⟩:=nK hv;exact⟨_,rfl⟩
  |_=>exact⟨_,sB rfl hv⟩
 refine al fun N hN=>?_
 refine oN (v:=false) (fun Q E q=>by simp only[cA,aI,am,ao,v3,lk,c3,nH,Bool.not_true];exact q) (fun h=>nomatch h) (fun _=>hN _ _ (al fun N hN=>?_))
 rw[Bd.Ds]
 refine oN (v:=decide (t.hd∈(["rest","pay","put"]:Vs))) (fun Q E q=>?_) (fun h=>?_) (fun h=>hN _ _ (al fun N hN=>?_))
 ·simp only[aI,ah,v3,lk,c3,ag,dU,aB,ao]
  rw[show([PV.str "rest",PV.str "pay",PV.str "put"]:List PV)=(["rest","pay","put"]:Vs).map PV.str from rfl]
  refine bT (Bd.DU _) xC ?_
  rw[Bool.false_bne]
  exact q
 ·have h:=of_decide_eq_true h
  have hx:xs=[]:=by
   have hp:t.plain=true:=by cases t<;>first|rfl|(simp[Bd.hd,aA]at h;done)
   have:=sB hp hv
   injection this
  subst hx
  refine al fun N2 Cc=>?_
  simp only[aW,eF,ao,ah,bn,bd,jx,j4,v3,lk,c3,j5,mI,hm,true_and]
  intro p1 hp1
  have JC:mv≠p1:=fun h=>by rw[h,hp1]at hm;cases hm
  simp only[am,ao,ah,v3,lk,c3,ag,dU,bo,jz,gq,aa,Bool.false_bne,decide_eq_true_eq]
  have fin:∀(ys:List PV) (S2:av),Ext S S2->S2 mv=some (.lst ms)->(∀p2,S2 p2=none->bt (.ref mv) [.ref p2] (Bc S2 p2 (.lst ys)) (fun _ S3=>N2 [some (.tup (.str t.hd::t.tl)),some (.tup []),some (.ref mv),none] S3))\/ys≠(Cl t (.tup [])).map kf:=by
   intro ys S2 X2 f2
   by_cases e:ys=(Cl t (.tup [])).map kf
   ·refine .inl fun p2 hp2=>?_
    have Gz:mv≠p2:=fun h=>by rw[h,hp2]at f2;cases f2
    simp only[bt,aa,aj Gz,f2]
    refine⟨vy (by rw[e,List.length_map];omega),Cc _ _ ?_⟩
    simp only[az,ah,v3,lk,aB,ao]
    refine⟨.tuple [],.tuple [],.tup .nil,.tup .nil,by simp[PyData.canLay0,PyData.canLayAll0],by simp[PyData.canLay0,PyData.canLayAll0],by simp[PyData.depth,PyData.depthAll],?_⟩
    rw[show(false != PyData.eqv (.tuple []) (.tuple []))=true by simp[PyData.eqv,PyData.eqvAll]]
    refine k _ (fun b o hb nb=>?_) (by rw[aa,e])
    have h2:=X2 _ _ hb
    rw[aj nb,aj (fun e=>by rw[e,hp2]at h2;cases h2)]
    exact h2
   ·exact .inr e
  have X1:Ext S (Bc S p1 (.lst [.tup (B7 (.str t.hd::t.tl) (some 1) none)])):=.new hp1
  have f1:(Bc S p1 (.lst [.tup (B7 (.str t.hd::t.tl) (some 1) none)])) mv=some (.lst ms):=by rw[aj JC];exact hm
  generalize Bc S p1 (.lst [.tup (B7 (.str t.hd::t.tl) (some 1) none)])=S1 at X1 f1
  cases t with
  |put z m=>
   rw[if_pos (show(Bd.put z m).hd=Str.ofString "put" from rfl)]
   refine⟨by decide,by decide,by show 1 * 1<=sizeLine;decide,fun p2 hp2=>?_⟩
   rcases fin [.tup [.str z,.int m]] S1 X1 f1 with q|q
   ·exact q p2 hp2
   ·exact absurd rfl q
  |rest=>
   rw[if_neg (by simp[Bd.hd,aA])]
   refine⟨by decide,by decide,by show 1 * 0<=sizeLine;decide,fun p2 hp2=>?_⟩
   rcases fin [] S1 X1 f1 with q|q
   ·exact q p2 hp2
   ·exact absurd rfl q
  |pay x y=>
   rw[if_neg (by simp[Bd.hd,aA])]
   refine⟨by decide,by decide,by show 1 * 0<=sizeLine;decide,fun p2 hp2=>?_⟩
   rcases fin [] S1 X1 f1 with q|q
   ·exact q p2 hp2
   ·exact absurd rfl q
  |_=>simp[Bd.hd,aA]at h
 have h:=of_decide_eq_false h
 refine oN (v:=decide (t.hd=("often":Str))) (fun Q E q=>by simp only[aI,ah,v3,lk,c3,ag,dU,bo,Bool.false_bne];exact q) (fun h2=>?_) (fun h2=>hN _ _ (al fun N hN=>?_))
 ·obtain⟨a,rfl⟩:=(Bd.EC t).mp (of_decide_eq_true h2)
  obtain⟨xs',e',hx⟩:=nK hv
  injection e' with e'
  subst e'
  simp only[Bd.dep]at hd
  have hc:ms.length+(cs a 0 xs+1)<=16000000:=hc
  refine al fun N2 Cc=>?_
  simp only[au,a_,ba,v3,lk,cj]
  refine cm (fun done ys S'=>ys=done/\CJ mv S S'/\done.length<=xs.length/\S' mv=some (.lst (ms++(done.flatMap fun g=>Cl a (d0 g)).map kf))/\(done.flatMap fun g=>Cl a (d0 g)).length<=cs a 0 done/\done.length<=cs a 0 done/\cs a 0 done<=16000000) ⟨rfl,.refl,Nat.zero_le _,by simpa using hm,Nat.le_refl _,Nat.le_refl _,Nat.zero_le _⟩ ?_ ?_ ?_
  ·rintro done ys S' ⟨rfl,_,hl,_,_,r3,r4⟩
   exact⟨trivial,vy (by omega)⟩
  ·rintro done x rest ys S2 K e ⟨rfl,X2,hl,f2,r2,r3,r4⟩ hK
   have e:xs=ys++x::rest:=e
   have JD:x∈xs:=by rw[e];simp
   have hgo:=List.all_eq_true.mp hx x JD
   obtain⟨m,y,rfl,h1,hy⟩:=iG hgo
   obtain⟨q1,q2⟩:=uT (a:=a) (k:=0) e h1
   have q3:=(jg a y 0 0 hy).1
   simp only[fA,List.replicate_succ,List.replicate_zero,List.map_cons,List.map_nil,List.cons_append,List.nil_append,lk,Tg.put,List.set_cons_zero]
   simp only[aI,ae,ao,v3,lk]
   rw[show(PV.tup (.str (Bd.BC a).hd::(Bd.BC a).tl))=(Bd.BC a).pv from rfl]
   refine ih1 (by omega) hg hgo f2 (by rw[List.length_append,List.length_map];show _+cv a y<=_;omega) fun S3 X3 f3=>?_
   simp only[if_true]
   have ef:([PV.tup [.int m,y]].flatMap fun g=>Cl a (d0 g))=Cl a y:=by simp[d0]
   refine hK _ _ ⟨rfl,X2.trans X3,?_,?_,?_,?_,by omega⟩
   ·have:=congrArg List.length e;simp at this ⊢;omega
   ·rw[f3,List.flatMap_append,List.map_append,List.append_assoc,ef];rfl
   ·rw[List.flatMap_append,List.length_append,ef];omega
   ·rw[List.length_append,List.length_singleton];omega
  ·rintro ys S2 ⟨rfl,X2,hl,f2,r2,r3,_⟩
   intro p hp
   have np:mv≠p:=fun h=>by rw[h,hp]at f2;cases f2
   simp only[List.set_cons_succ,List.set_cons_zero]
   refine Cc _ _ ?_
   simp only[az,ah,am,ao,v3,lk,bw,aa,bo,decide_true,Bool.false_bne]
   exact k _ (fun b o hb nb=>by have h2:=X2 _ _ hb nb;rw[aj (fun e=>by rw[e,hp]at h2;cases h2)];exact h2) (by rw[aj np];exact f2)
 have h2:=of_decide_eq_false h2
 obtain⟨x,y,rfl⟩:∃x y,xs=[x,y]:=by
  cases t with
  |Bh a b=>obtain⟨x,y,e,_⟩:=lB hv;injection e with e;exact⟨x,y,e⟩
  |BG a b=>obtain⟨i,y,e,_⟩:=lC hv;injection e with e;exact⟨_,y,e⟩
  |BB z m a b=>obtain⟨i,y,e,_⟩:=lD hv;injection e with e;exact⟨_,y,e⟩
  |BC a=>exact absurd rfl h2
  |use z=>exact absurd (show z∈[] from hg) (by simp)
  |_=>simp[Bd.hd,aA]at h
 refine oN (v:=false) (fun Q E q=>by simp only[aI,ah,am,ao,v3,lk,c3,bw,bo,List.length_cons,List.length_nil];exact q) (fun h=>nomatch h) (fun _=>hN _ _ (al fun N hN=>?_))
 refine oN (v:=decide (t.hd=("then":Str))) (fun Q E q=>by simp only[aI,ah,v3,lk,c3,ag,dU,bo,Bool.false_bne];exact q) (fun h3=>?_) (fun h3=>hN _ _ (al fun N hN=>?_))
 ·obtain⟨a,b,rfl⟩:=(Bd.Fy t).mp (of_decide_eq_true h3)
  obtain⟨x',y',e,hx,hy⟩:=lB hv
  injection e with e;injection e with e1 e;injection e with e2 _
  subst e1 e2
  have hc:ms.length+(cv a x+cv b y)<=16000000:=hc
  simp only[Bd.dep]at hd
  have q1:=(jg a x 0 0 hx).1
  simp only[az,cI,ae,ao,ah,v3,lk,c3,ag,Bd.tl,dU,jf,xO]
  refine ih (by omega) hg.1 hx hm (by omega) fun S1 X1 f1=>?_
  simp only[if_true]
  refine ih (by omega) hg.2 hy f1 (by rw[List.length_append,List.length_map];omega) fun S2 X2 f2=>k S2 (X1.trans X2) ?_
  rw[f2]
  show some (SO.lst _)=some (.lst (ms++(Cl a x++Cl b y).map kf))
  rw[List.map_append,List.append_assoc]
 have h3:=of_decide_eq_false h3
 have side:∀(i:Int) (y:PV) (hd2:List PV) (a b:Bd) (S1:av) (N:b3->av->Prop),(i=0\/i=1)->.str t.hd::t.tl=hd2++[a.pv,b.pv]->∀c:Bd,(if i=0 then a.pv else b.pv)=c.pv->c.dep<=n->c.good js []->bj c y=true->∀ms',S1 mv=some (.lst ms')->ms'.length+cv c y<=16000000->(∀S',CJ mv S1 S'->S' mv=some (.lst (ms'++(Cl c y).map kf))->Q (.bl true) S')->
   az (ae s0 [ah ag (v3 0) (ah bA (ah ag (v3 1) (c3 (.int 0))) (c3 (.int 2))),ah ag (v3 1) (c3 (.int 1)),v3 2]) { nx:=N,rt:=Q,ex:=eI } [some (.tup (.str t.hd::t.tl)),some (.tup [.int i,y]),some (.ref mv),none] S1:=by
  intro i y hd2 a b S1 N hi e c ec d1 d2 d3 ms' f1 l1 kk
  simp only[az,ae,ao,ah,v3,lk,c3,ag,dU,jf,bA,bP]
  rw[e,gM hi,ec]
  exact ih d1 d2 d3 f1 l1 kk
 cases t with
 |BG a b=>
  obtain⟨i,y',e,hy⟩:=lC hv
  injection e with e;injection e with e1 e;injection e with e2 _
  subst e1 e2
  simp only[Bd.dep]at hd
  have hi:i=0\/i=1:=by rcases hy with⟨h,_⟩|⟨h,_⟩<;>omega
  refine oN (v:=false) (fun Q E q=>?_) (fun h=>nomatch h) (fun _=>hN _ _ (al fun N hN=>?_))
  ·simp only[gc,cA,aI,ah,ae,ao,v3,lk,c3,ag,dU]
   refine Cd ?_
   simp only[Bool.not_true,Bool.false_eq_true,if_false,jW,jX,bP]
   rw[decide_eq_false (by omega),decide_eq_false (by omega)]
   exact q
  refine oN (v:=false) (fun Q E q=>by simp only[gj,aI,ah,v3,lk,c3,ag,dU,bo,Bd.hd,aA,String.reduceEq,decide_false,Bool.false_bne,Bool.false_eq_true,if_false];exact q) (fun h=>nomatch h) (fun _=>hN _ _ ?_)
  rcases hy with⟨rfl,hy⟩|⟨rfl,hy⟩
  ·exact side 0 y [.str "either"] a b S _ (.inl rfl) rfl a rfl (by omega) hg.1 hy ms hm (by have hc:ms.length+(cv a y+1)<=16000000:=hc;omega) k
  ·exact side 1 y [.str "either"] a b S _ (.inr rfl) rfl b rfl (by omega) hg.2 hy ms hm (by have hc:ms.length+(cv b y+1)<=16000000:=hc;omega) k
 |BB z m a b=>
  obtain⟨i,y',e,hy⟩:=lD hv
  injection e with e;injection e with e1 e;injection e with e2 _
  subst e1 e2
  simp only[Bd.dep]at hd
  have hi:i=0\/i=1:=by rcases hy with⟨h,_⟩|⟨h,_⟩<;>omega
  refine oN (v:=false) (fun Q E q=>?_) (fun h=>nomatch h) (fun _=>hN _ _ (al fun N hN=>?_))
  ·simp only[gc,cA,aI,ah,ae,ao,v3,lk,c3,ag,dU]
   refine Cd ?_
   simp only[Bool.not_true,Bool.false_eq_true,if_false,jW,jX,bP]
   rw[decide_eq_false (by omega),decide_eq_false (by omega)]
   exact q
  rcases hy with⟨rfl,hy⟩|⟨rfl,hy⟩
  ·have hc:ms.length+(cv a y+2)<=16000000:=hc
   refine oN (v:=true) (fun Q E q=>by simp only[gj,aI,ah,v3,lk,c3,ag,dU,bo,Bd.hd,decide_true,Bool.false_bne,if_true];exact q) (fun _=>?_) (fun h=>nomatch h)
   simp only[aW,eF,ao,ah,aB,v3,lk,c3,ag,Bd.tl,jf,xO,bA,bP,mI,bh,hm,true_and]
   refine⟨Nat.lt_of_le_of_lt (show _<=16000000 by omega) (by decide),hN _ _ ?_⟩
   refine side 0 y [.str "take",.str z,.int m] a b _ _ (.inl rfl) rfl a rfl (by omega) hg.2.2.2.1 hy _ aa (by rw[List.length_append];simp;omega) fun S2 X2 f2=>k S2 (CJ.upd.trans X2) ?_
   rw[f2,List.append_assoc]
   rfl
  ·refine oN (v:=false) (fun Q E q=>by simp only[gj,aI,ah,v3,lk,c3,ag,dU,bo,Bd.hd,decide_true,Int.reduceEq,decide_false,Bool.false_bne,if_true];exact q) (fun h=>nomatch h) (fun _=>hN _ _ ?_)
   exact side 1 y [.str "take",.str z,.int m] a b S _ (.inr rfl) rfl b rfl (by omega) hg.2.2.2.2 hy ms hm (by have hc:ms.length+(cv b y+2)<=16000000:=hc;omega) k
 |Bh a b=>exact absurd rfl h3
 |BC a=>exact absurd rfl h2
 |use z=>exact absurd (show z∈[] from hg) (by simp)
 |_=>simp[Bd.hd,aA]at h
theorem mC:∀zs:List Str,PyData.eqvAll (zs.map PyData.str) (zs.map PyData.str)=true
 |[]=>rfl
 |z::r=>by simp[PyData.eqvAll,PyData.eqv,mC r]
theorem kP:∀zs:List Str,PyData.depthAll (zs.map PyData.str)<=100
 |[]=>by simp[PyData.depthAll]
 |z::r=>by simp[PyData.depthAll,PyData.depth];exact kP r
def sD{a b:Addr}{zs:Vs}{S:av}{Q:ce}(ha:S a=some (.lst (zs.map PV.str)))(hb:S b=some (.lst (zs.map PV.str)))(hz:sn zs)(q:Q (.bl true) S):bo false (.ref a) (.ref b) S Q:=by
 unfold bo
 have hc:PyData.canLay0 (.list (zs.map PyData.str))=true:=by simpa [PyData.canLay0]using c_ hz
 have hd:=kP zs
 exact⟨.list (zs.map PyData.str),.list (zs.map PyData.str),.ref ha (e9 S zs),.ref hb (e9 S zs),hc,hc,by simp[PyData.depth];omega,by rw[show PyData.eqv (.list (zs.map PyData.str)) (.list (zs.map PyData.str))=true by simp[PyData.eqv,mC]];exact q⟩
def xD{c:gW}{t u:bG}{v:Bool}{P:av->Prop}{σ:b3}{S:av}{D:ju}(h:∀Q E,(∀S',P S'->Q v S')->c σ S Q E)(qt:v=true->∀S',P S'->t D σ S')(qf:∀S',v=false->P S'->u D σ S'):bq c t u D σ S:=by
 refine h _ _ fun S' p=>?_
 cases v with
 |true=>exact qt rfl S' p
 |false=>exact qf S' rfl p
def sE(l:Vs):(Sa.dd l).Nodup:=by
 unfold Sa.dd
 have:∀(l ss:Vs),ss.Nodup->(l.foldl (fun ss k=>if k∈ss then ss else ss++[k]) ss).Nodup:=fun l=>by
  induction l with
  |nil=>intro ss h;exact h
  |cons k l ih=>
   intro ss h
   rw[List.foldl_cons]
   refine ih _ ?_
   split
   ·exact h
   ·rename_i hk
    exact List.nodup_append.mpr ⟨h,by simp,fun a ha b hb e=>hk (by rw[<-List.mem_singleton.mp hb,<-e];exact ha)⟩
 exact this l [] List.nodup_nil
def sF{js us:Vs}{q:Qs}{z:Str}{m:Int}:∀(t:Bd) (r s:Bool),t.good js us->(Bd.put z m,s)∈t.pr q r->1<=m:=by
 intro t
 induction t with
 |rest=>intro r s g h;simp[Bd.pr]at h
 |pay x y=>intro r s g h;simp[Bd.pr]at h
 |use y=>intro r s g h;simp[Bd.pr]at h
 |put y n=>intro r s g h;simp[Bd.pr]at h;rw[h.1.2];exact g.2.1
 |BC a ih=>intro r s g h;exact ih r s g (by simpa [Bd.pr]using h)
 |Bh a b C2 C7=>intro r s g h;rcases(by simpa [Bd.pr]using h:(Bd.put z m,s)∈a.pr q r\/(Bd.put z m,s)∈b.pr q r)with h|h;exact C2 _ _ g.1 h;exact C7 _ _ g.2 h
 |BG a b C2 C7=>intro r s g h;rcases(by simpa [Bd.pr]using h:(Bd.put z m,s)∈a.pr q r\/(Bd.put z m,s)∈b.pr q r)with h|h;exact C2 _ _ g.1 h;exact C7 _ _ g.2 h
 |BB y n a b C2 C7=>intro r s g h;rcases(by simpa [Bd.pr]using h:(Bd.put z m,s)∈a.pr q (r&&q y)\/(Bd.put z m,s)∈b.pr q r)with h|h;exact C2 _ _ g.2.2.2.1 h;exact C7 _ _ g.2.2.2.2 h
def xE{js:Vs}(t:Bd):∀(v:PV),t.good js []->∀p∈Cl t v,p.1∈js:=by
 induction t with
 |rest=>intro v g p h;cases h
 |pay x y=>intro v g p h;cases h
 |use y=>intro v g p h;cases h
 |put y n=>intro v g p h;rw[List.mem_singleton.mp h];exact g.1
 |BC a ih=>intro v g p h;obtain⟨x,_,h⟩:=List.mem_flatMap.mp h;exact ih _ g p h
 |Bh a b C2 C7=>intro v g p h;exact(List.mem_append.mp h).elim (C2 _ g.1 p) (C7 _ g.2 p)
 |BG a b C2 C7=>
  intro v g p h
  unfold Cl at h
  split at h
  ·exact C2 _ g.1 p h
  ·exact C7 _ g.2 p h
 |BB y n a b C2 C7=>
  intro v g p h
  unfold Cl at h
  split at h
  ·rcases List.mem_cons.mp h with rfl|h
   ·exact g.1
   ·exact C2 _ g.2.2.2.1 p h
  ·exact C7 _ g.2.2.2.2 p h
abbrev iD(w:aF):Prop:=∀{S:av} {js:Vs} {ds:List (Str×Bd)} {Q:ce} {E:cW},HG js ds->(∀S',Ext S S'->Q (.bl true) S')->w [BZ js ds] S Q E
def Dw{x0 x1 x2 x3:aF}(C1:fg x0)(Cd:gT x1)(Eb:fy 6 x2)(Dt:ir x3):iD (Bs 8 (d9 x0 x1 x2 x3)):=by
 intro S js ds Q E hg k
 unfold d9
 refine im ?_
 rw[show aC 8 [BZ js ds]=[some (.tup [.tup (js.map PV.str),.tup (ds.map fJ)]),none,none,none,none,none,none,none] from rfl]
 have hjl:=hg.jl
 have hdl:=hg.dl
 refine al fun N hN=>?_
 simp only[au,ae,ao,v3,lk]
 refine C1 hg fun pf vs hs S1 hpf X1 f1 hl hst h1 h2 h3 h4=>?_
 have hsl:=ff hs js h2 h3
 simp only[List.set_cons_succ,List.set_cons_zero]
 refine hN _ _ (al fun N hN=>?_)
 refine oN (v:=false) (fun Q E q=>?_) (fun h=>nomatch h) (fun _=>hN _ _ (al fun N hN=>?_))
 ·simp only[cA,aI,am,ao,v3,lk,c3]
  refine uP (t:="list") (by simp[qk,f1]) rfl ?_
  exact q
 simp only[au,bn,ao]
 intro pa hpa
 have X2:Ext S (Bc S1 pa (.lst [])):=X1.trans (.new hpa)
 have Hz:pf≠pa:=fun h=>by rw[h,hpa]at f1;cases f1
 have HA:S pa=none:=X1.free hpa
 have f2:(Bc S1 pa (.lst [])) pf=some (.lst vs):=by rw[aj Hz];exact f1
 have a2:(Bc S1 pa (.lst [])) pa=some (.lst (([]:Vs).map PV.str)):=aa
 generalize Bc S1 pa (.lst [])=S2 at X2 f2 a2
 simp only[List.set_cons_succ,List.set_cons_zero]
 refine hN _ _ (al fun N hN=>?_)
 simp only[cX,ba,v3,lk,cj,f2]
 refine cf (fun done σ S'=>∃(x3 x4 x5 x6 x7:Option PV),σ=[some (.tup [.tup (js.map PV.str),.tup (ds.map fJ)]),some (.ref pf),some (.ref pa),x3,x4,x5,x6,x7]/\Ext S S'/\S' pf=some (.lst vs)/\S' pa=some (.lst ((hs.take done.length).map PV.str))) ⟨_,_,_,_,_,rfl,X2,f2,a2⟩ (fun _ _ _ ⟨_,_,_,_,_,_,_,h,_⟩=>h) ?_ ?_
 ·rintro done x rest σ S3 K e ⟨x3,x4,x5,x6,x7,rfl,X3,f3,a3⟩ hK
  have hget:vs[done.length]?=some x:=by rw[e];simp
  have hlt:done.length < vs.length:=(List.getElem?_eq_some_iff.mp hget).1
  obtain⟨z,hz⟩:∃z,hs[done.length]?=some z:=⟨hs[done.length]'(by omega),List.getElem?_eq_getElem _⟩
  obtain⟨kx,_,_,rfl,hk,dk,pl,dn,t,m,rfl,rfl,HB,hpl⟩:=hst _ _ _ hget hz
  have hm:(dn,t)∈ds:=List.mem_of_getElem? HB
  have L:=xz t pl (hg.gd _ hm) hpl
  have hsz:t.size<=60:=hg.sz _ hm
  have hkl:kx < js.length:=(List.getElem?_eq_some_iff.mp hk).1
  have JE:dk < ds.length:=(List.getElem?_eq_some_iff.mp HB).1
  have ER:z∈js:=List.mem_of_getElem? hk
  have Iy:sn (hs.take done.length):=fun y hy=>hg.jw y (h3 y (List.mem_of_mem_take hy))
  have hnz:z ∉ hs.take done.length:=fun h=>by
   have h2':=h2
   rw[<-List.take_append_drop done.length hs,List.nodup_append]at h2'
   refine h2'.2.2 z h z ?_ rfl
   rw[List.mem_drop_iff_getElem]
   have:=List.getElem?_eq_some_iff.mp hz
   exact⟨0,by omega,by simpa using this.2⟩
  have hm1:1<=m:=sF t _ _ (hg.gd _ hm) (List.mem_of_getElem? hpl)
  generalize t.led pl (.tup [])=tr at L
  have eK:Ck (js.map PV.str) (kx:Int)=some (.str z):=b_ (by rw[List.getElem?_map,hk];rfl)
  have eD:Ck (ds.map fJ) (dk:Int)=some (.tup [.str dn,t.pv]):=b_ (by rw[List.getElem?_map,HB];rfl)
  simp only[Tg.put,List.set_cons_succ,List.set_cons_zero]
  refine al fun N2 Cc=>?_
  refine oN (v:=false) (fun Q E q=>?_) (fun h=>nomatch h) (fun _=>Cc _ _ (al fun N2 Cc=>?_))
  ·simp only[gc,cA,aI,am,ah,ao,v3,lk,c3,nH,Bool.not_true,Bool.false_eq_true,if_false,bw,bo,List.length_cons,List.length_nil,ae,ag,dU,jf]
   simp only[Nat.zero_add,Nat.reduceAdd,Int.cast_ofNat_Int,decide_true,bne_self_eq_false,Bool.false_eq_true,if_false]
   refine Cd ?_
   simp only[Bool.not_true,Bool.false_eq_true,if_false]
   refine Cd ?_
   exact q
  simp only[nh,v3,lk,Tg.put,Tg.Bg,List.set_cons_succ,List.set_cons_zero]
  refine Cc _ _ (al fun N2 Cc=>?_)
  simp only[au,bn,ao,List.set_cons_succ,List.set_cons_zero]
  intro pm Ev
  have Iz:pf≠pm:=fun h=>by rw[h,Ev]at f3;cases f3
  have IA:pa≠pm:=fun h=>by rw[h,Ev]at a3;cases a3
  have HC:S pm=none:=X3.free Ev
  have X4:Ext S (Bc S3 pm (.lst [])):=X3.trans (.new Ev)
  have f4:(Bc S3 pm (.lst [])) pf=some (.lst vs):=by rw[aj Iz];exact f3
  have a4:(Bc S3 pm (.lst [])) pa=some (.lst ((hs.take done.length).map PV.str)):=by rw[aj IA];exact a3
  have m4:(Bc S3 pm (.lst [])) pm=some (.lst []):=aa
  generalize Bc S3 pm (.lst [])=S4 at X4 f4 a4 m4
  refine Cc _ _ (al fun N2 Cc=>?_)
  refine oN (v:=false) (fun Q E q=>?_) (fun h=>nomatch h) (fun _=>Cc _ _ (al fun N2 Cc=>?_))
  ·simp only[gc,cA,aI,jH,ah,am,ao,v3,lk,c3,ag,dU,jf,wZ,jW,bw,bP,List.length_map,eK]
   rw[decide_eq_true (show(0:Int)<=(kx:Int) by omega),decide_eq_true (show(kx:Int) < (js.length:Int) by omega),decide_eq_true (show(0:Int)<=(dk:Int) by omega),decide_eq_true (show(dk:Int) < (ds.length:Int) by omega)]
   simp only[if_true,Bool.not_true,Bool.false_eq_true,if_false]
   refine de a4 (hg.jw z ER) Iy ?_
   rw[decide_eq_false hnz]
   exact q
  refine xD (v:=false) (P:=fun S'=>CJ pm S4 S'/\S' pm=some (.lst ((Cl t tr).map kf))) (fun Q E q=>?_) (fun h=>nomatch h) (fun S5 _ ⟨X5,m5⟩=>Cc _ _ (al fun N2 Cc=>?_))
  ·simp only[cA,aI,ae,ao,ah,v3,lk,c3,ag,jf,eD]
   refine Eb (hg.dp _ hm) (hg.gd _ hm) L.tr m4 (by have:=L.room;simp;omega) fun S' X' m'=>?_
   rw[List.nil_append]at m'
   exact q _ ⟨X',m'⟩
  have f5:=X5 _ _ f4 Iz
  have a5:=X5 _ _ a4 IA
  have hml:(Cl t tr).length<=1000:=by have:=(jg t tr 0 0 L.tr).1;have:=L.room;omega
  have IB:∀p∈Cl t tr,p.1∈js:=xE t tr (hg.gd _ hm)
  refine xD (v:=false) (P:=fun S'=>Ext S5 S') (fun Q E q=>?_) (fun h=>nomatch h) (fun S6 _ X6=>Cc _ _ (al fun N2 Cc=>?_))
  ·simp only[aI,ah,v3,lk,c3,ag,dU,eK,a_,ba,cj,m5]
   refine dZ kf (fun p=>.str p.1) (fun p=>decide (p.2 > 0)) m5 (Cl t tr) [] (fun p hp=>⟨_,rfl,fun K hK=>?_,fun _ Q q=>?_⟩) (cy (by simpa using hml)) ?_
   ·simp only[aI,ah,v3,lk,c3,jX,bP,List.set_cons_succ,List.set_cons_zero,fA]
    exact hK
   ·exact q
   rw[List.nil_append]
   intro pc HD
   have ec:((Cl t tr).filter fun p=>decide (p.2 > 0)).map (fun p=>PV.str p.1)=(((Cl t tr).filter fun p=>decide (p.2 > 0)).map Prod.fst).map PV.str:=by rw[List.map_map];rfl
   rw[ec]
   refine de aa (hg.jw z ER) (fun y hy=>?_) ?_
   ·obtain⟨p,hp,rfl⟩:=List.mem_map.mp hy
    exact hg.jw _ (IB p (List.mem_filter.mp hp).1)
   ·rw[decide_eq_true (List.mem_map.mpr ⟨(z,m),List.mem_filter.mpr ⟨L.mem,decide_eq_true (show m > 0 by omega)⟩,rfl⟩)]
    exact q _ (.new HD)
  have m6:=X6 _ _ m5
  have a6:=X6 _ _ a5
  refine xD (v:=false) (P:=fun S'=>Ext S6 S') (fun Q E q=>?_) (fun h=>nomatch h) (fun S7 _ X7=>Cc _ _ ?_)
  ·simp only[aI,ah,am,ao,v3,lk,c3,a_,ba,cj,m6]
   refine dZ kf (fun p=>.str p.1) (fun _=>false) m6 (Cl t tr) [] (fun p hp=>⟨_,rfl,fun K hK=>?_,fun h=>nomatch h⟩) (cy (by simpa using hml)) ?_
   ·simp only[gj,aI,ah,v3,lk,c3,jW,bP,fA,List.reduceReplicate,List.map_cons,List.map_nil,List.cons_append,List.nil_append,List.set_cons_succ,List.set_cons_zero]
    by_cases hn:p.2 < 0
    ·have hq:=of_decide_eq_true (L.neg p hp hn)
     rw[decide_eq_true hn]
     simp only[if_true]
     refine de a6 (hg.jw _ (IB p hp)) Iy ?_
     rw[decide_eq_true hq]
     exact hK
    ·rw[decide_eq_false hn]
     simp only[Bool.false_eq_true,if_false]
     exact hK
   intro pc HD
   have ef:(Cl t tr).filter (fun _=>false)=[]:=by simp
   simp only[List.nil_append,ef,List.map_nil,bw,aa,jX,bP]
   exact q _ (.new HD)
  have f7:=X7 _ _ (X6 _ _ f5)
  have a7:=X7 _ _ a6
  have XS:Ext S S7:=fun a o h=>X7 _ _ (X6 _ _ (X5 _ _ (X4 _ _ h) fun h'=>by rw[h',HC]at h;cases h))
  simp only[aW,eF,mI,ao,ah,v3,lk,c3,ag,dU,eK,a7,true_and,bh]
  refine⟨Nat.lt_of_le_of_lt (show((hs.take done.length).map PV.str).length<=1000 by rw[List.length_map,List.length_take];omega) (by decide),hK _ _ ⟨_,_,_,_,_,rfl,XS.put HA,?_,?_⟩⟩
  ·rw[aj Hz];exact f7
  ·rw[aa,List.length_append,List.length_singleton,List.take_succ,hz,List.map_append];rfl
 ·rintro σ S3 ⟨x3,x4,x5,x6,x7,rfl,X3,f3,a3⟩
  rw[List.take_of_length_le (by omega)]at a3
  refine hN _ _ (al fun N hN=>?_)
  simp only[aW,eF,mI,ao,v3,lk,f3,true_and,lh]
  have X4:Ext S (Bc S3 pf (.lst [])):=X3.put hpf
  have a4:(Bc S3 pf (.lst [])) pa=some (.lst (hs.map PV.str)):=by rw[aj (Ne.symm Hz)];exact a3
  generalize Bc S3 pf (.lst [])=S4 at X4 a4
  refine hN _ _ ?_
  simp only[az,ah,am,ao,v3,lk,lu,a4,dE]
  refine⟨by omega,fun l1 s1 hl1 p1 o1=>?_⟩
  have e1:(Bc S4 l1 (.lst (s1.map PV.str))) l1=some (.lst (s1.map PV.str)):=aa
  have X5:Ext S (Bc S4 l1 (.lst (s1.map PV.str))):=X4.trans (.new hl1)
  generalize Bc S4 l1 (.lst (s1.map PV.str))=S5 at X5 e1
  simp only[sd,ae,ao,v3,lk]
  refine Dt hg fun ph S6 hph X6 f6=>?_
  simp only[f6,dE]
  have hdn:(Sa.dd (held ds js.length)).Nodup:=sE _
  have IC:∀z,z∈Sa.dd (held ds js.length)↔z∈held ds js.length:=fun z=>Sa.xa _ z
  have hdl:=ff _ js hdn fun z hz=>oK hg _ z ((IC z).mp hz)
  refine⟨by omega,fun l2 s2 hl2 p2 o2=>?_⟩
  have JF:=uN (js:=js) h1 h2 h3 h4
  have Ev:s1.Perm s2:=by
   refine p1.trans (List.Perm.trans ?_ p2.symm)
   refine(List.perm_ext_iff_of_nodup h2 hdn).mpr fun z=>?_
   rw[IC z]
   have:=congrFun JF z
   unfold mq at this
   exact(decide_eq_decide.mp this).symm
  have es:s1=s2:=Sa.nE o1 o2 Ev
  subst es
  have e2:(Bc S6 l2 (.lst (s1.map PV.str))) l1=some (.lst (s1.map PV.str)):=by
   rw[aj (fun h=>by have:=X6 _ _ e1;rw[h,hl2]at this;cases this)];exact X6 _ _ e1
  refine sD e2 aa (fun z hz=>hg.jw z (h3 z (p1.mem_iff.mp hz))) ?_
  exact k _ (X5.trans (X6.trans (.new hl2)))
abbrev uU(w:aF):Prop:=∀{ns:Vu} {S:av} {Q:ce} {E:cW},ns.length<=63->(∀S',Q (.bl true) S')->w [.cl (ns.map PV.int)] S Q E
def xF{x0 x1 x2 x3:aF}(EJ:f_ x0)(Do:ml x1)(FI:iw x2)(Dw:iD x3):uU (Bs 3 (sA x0 x1 x2 x3)):=by
 intro ns S Q E hl k
 unfold sA
 refine im ?_
 rw[show aC 3 [PV.cl (ns.map PV.int)]=[some (.cl (ns.map PV.int)),none,none] from rfl]
 refine al fun N hN=>?_
 walk_at "x"
 refine Do hl (by decide) (by decide) fun d l S1 _ _ D1 _=>?_
 refine EJ D1 fun js ds S2 hP=>?_
 refine hN _ _ (al fun N hN=>?_)
 walk_at "x"
 refine Do hl (by decide) (by decide) fun d l S3 _ _ D3 _=>?_
 refine EJ D3 fun Fg ds' S4 hP'=>?_
 refine hN _ _ ?_
 simp only[az,am,ao,a_,ba,ah,ae,bn,v3,lk,List.set_cons_zero,List.set_cons_succ]
 refine FI hP fun p hs S5 hp X5 f5 hl4 JG=>?_
 intro p2 hp2
 have n2:p≠p2:=fun h=>by rw[h,hp2]at f5;cases f5
 simp only[aV,aj n2,f5,aa]
 refine⟨cy (by rw[List.length_map];simp;omega),fun p3 hp3=>?_⟩
 have f6:(Bc (Bc S5 p2 (.lst [BZ Fg ds',BZ js ds])) p3 (.lst (hs.map (BZ js)++[BZ Fg ds',BZ js ds]))) p3=some (.lst (hs.map (BZ js)++[BZ Fg ds',BZ js ds])):=aa
 generalize Bc (Bc S5 p2 (.lst [BZ Fg ds',BZ js ds])) p3 (.lst (hs.map (BZ js)++[BZ Fg ds',BZ js ds]))=S6 at f6
 simp only[cj,f6]
 have good:∀v∈hs.map (BZ js)++[BZ Fg ds',BZ js ds],∃j e,v=BZ j e/\HG j e:=by
  intro v hv
  rcases List.mem_append.mp hv with h|h
  ·obtain⟨e,he,rfl⟩:=List.mem_map.mp h;exact⟨js,e,rfl,JG e he⟩
  ·simp only[List.mem_cons,List.not_mem_nil,or_false]at h
   rcases h with rfl|rfl
   ·exact⟨_,_,rfl,hP'⟩
   ·exact⟨_,_,rfl,hP⟩
 have hlen:(hs.map (BZ js)++[BZ Fg ds',BZ js ds]).length<=6:=by rw[List.length_append,List.length_map];simp;omega
 generalize hs.map (BZ js)++[BZ Fg ds',BZ js ds]=vs at f6 good hlen
 refine cm (fun done ys S'=>Ext S6 S'/\done.length<=vs.length/\ys=List.replicate done.length (.bl true)) ⟨.refl,Nat.zero_le _,rfl⟩ (fun done ys S' ⟨X,l,e⟩=>⟨X _ _ f6,cy (by rw[e,List.length_replicate];omega)⟩) ?_ ?_
 ·rintro done x rest ys S' K e ⟨X,l,rfl⟩ hK
  obtain⟨j,ee,rfl,hg⟩:=good x (by rw[e];simp)
  simp only[Tg.put,fA,List.reduceReplicate,List.map_nil,List.append_nil,List.set_cons_zero,cL,if_true,ae,ao,v3,lk]
  refine Dw hg fun S7 X7=>hK _ _ ⟨X.trans X7,?_,?_⟩
  ·have:vs.length=done.length+(rest.length+1):=by rw[e,List.length_append,List.length_cons]
   rw[List.length_append,List.length_singleton];omega
  ·rw[List.length_append,List.length_singleton,List.replicate_succ']
 ·rintro ys S' ⟨X,_,rfl⟩ q hq
  simp only[ud,aa,qe]
  rw[show(List.replicate vs.length true).all id=true by simp]
  exact k _
def fo:bB w__law_draw:=Be
def zn:lv f8:=D8
def lK:dF bU:=Cb fo
def sG:gD fj:=C4 fo zn
def sH:gE bO:=BX fo sG
def uV:iu bO:=sv fo sG
theorem nR:∀n,e_ n (dg n)
 |0=>fun _ _ _ _ _ _ _ h0 h1 _=>by omega
 |n+1=>C5 fo sH n (nR n)
theorem mD:∀n,b8 n (bu n)
 |0=>fun h _ _=>absurd h (by have:=Bd.BW;exact Nat.not_le.mpr (this _))
 |n+1=>p7 n (mD n)
def mE:b8 12 bv:=mD 12
theorem mF:∀n,n<=12->dX n (bp n)
 |0,_=>fun h _ _=>absurd h (by have:=Bd.BW;exact Nat.not_le.mpr (this _))
 |n+1,hn=>p8 n 12 mE (mF n (by omega)) (by omega)
def Az:dY b9:=lw 12 (by decide) (nR 12) mE (mF 12 (by decide)) sH
def uW:fY d6:=qc lK fo Az
def uX:fZ d8:=Du lK fo uV
def zo:f_ bY:=uS fo uX uW lK 12 (by decide) (nR 12)
theorem zp:∀n,lF n (bZ n)
 |0=>fun h _ _ _ _=>absurd h (by have:=Bd.BW;exact Nat.not_le.mpr (this _))
 |n+1=>EG n (zp n)
def zq:iw f9:=sx fun h g a b c=>zp 12 (Nat.le_trans h (by decide)) g a b c
theorem sI:∀n,fx n (dh n)
 |0=>fun h _ _ _ _ _ _ _ _=>absurd h (by have:=Bd.BW;exact Nat.not_le.mpr (this _))
 |n+1=>su n (sI n)
def uY:ir cw:=Dt fun h a b c e f g i j=>sI 12 (Nat.le_trans h (by decide)) a b c e f g i j
def oO:fu d4:=CM
theorem oP:∀n,df n (d5 n)
 |0=>fun h _ _=>absurd h (by have:=Bd.BW;exact Nat.not_le.mpr (this _))
 |n+1=>Dr oO n (oP n)
def sJ:ip 12 lG:=qd 12 (oP 12)
theorem oQ:∀n,fw n (cg n)
 |0=>fun h _=>absurd h (by have:=Bd.BW;exact Nat.not_le.mpr (this _))
 |n+1=>sk n (oQ n)
theorem vz:∀n,n<=12->gN n (ci n)
 |0,_=>fun h _ _ _=>absurd h (by have:=Bd.BW;exact Nat.not_le.mpr (this _))
 |n+1,hn=>uK n 12 (by omega) sJ (oQ 12) (vz n (by omega))
theorem zr:∀n,lE n (bI n)
 |0=>fun h _ _ _ _ _ _=>absurd h (by have:=Bd.BW;exact Nat.not_le.mpr (this _))
 |n+1=>EE oO n (zr n)
def xG:jT fi:=DG (fun h a b c d e f=>zr 12 (Nat.le_trans h (by decide)) a b c d e f) (fun h a b c=>vz 12 (by decide) (Nat.le_trans h (by decide)) a b c)
def qj:fg iA:=C1 xG
def zt:gT bi:=Cd
theorem vA:∀n,fy ((n+1) / 2) (cS n)/\lJ (n / 2) (cx n)
 |0=>⟨fun h _ _ _ _ _=>absurd h (by have:=Bd.BW;exact Nat.not_le.mpr (this _)),fun h _ _ _ _ _=>absurd h (by have:=Bd.BW;exact Nat.not_le.mpr (this _))⟩
 |n+1=>by
  obtain⟨a,b⟩:=vA n
  refine⟨?_,?_⟩
  ·rw[show(n+1+1) / 2=n / 2+1 by omega]
   exact fun{S js t v mv ms Q E} h1 h2 h3 h4 h5 h6=>Eb (E:=E) Cd (n / 2) (fun g1 g2 g3 g4 g5 g6=>a (Nat.le_trans g1 (by omega)) g2 g3 g4 g5 g6) b h1 h2 h3 h4 h5 h6
  ·exact fun{S js b g mv ms Q E} h1 h2 h3 h4 h5 h6=>xB (E:=E) (s1:=cx n) Cd ((n+1) / 2) a h1 h2 h3 h4 h5 h6
def zu:fy 6 cU:=(vA 12).1
def uZ:iD d_:=Dw qj zt zu uY
def sK:∀ns:List Int,ns.length<=63->mB [.cl (ns.map PV.int)] (fun _=>none) (fun v _=>v = .bl true) eI:=fun ns h=>xF zo Do zq uZ h fun _=>rfl
end G26
namespace L3
open PySem L2 Xc
def nS{P:List Value->Prop}(h:∀a,P [a])(us:Vv)(hl:us.length=1):P us:=match us,hl with|[_],_=>h _
def vB{P:List Value->Prop}(h:∀a b,P [a,b])(us:Vv)(hl:us.length=2):P us:=match us,hl with|[_,_],_=>h _ _
def zv{P:List Value->Prop}(h:∀a b c,P [a,b,c])(us:Vv)(hl:us.length=3):P us:=match us,hl with|[_,_,_],_=>h _ _ _
def AA{P:List Value->Prop}(h:∀a b c d,P [a,b,c,d])(us:Vv)(hl:us.length=4):P us:=match us,hl with|[_,_,_,_],_=>h _ _ _ _
section
variable {K:Vo} {h:Heap} {mg:Vr} {x c m q:Str} {st:Stmt} {ps fl:Vs}
noncomputable def u4:Option (Option Value)->Bool
 |some none=>true
 |_=>false
def u5{o:Option (Option Value)}(h:u4 o=true):o=some none:=by
 unfold u4 at h;split at h
 ·rfl
 ·cases h
def FnAt(K:Vo)(f:Addr)(m q:Str)(st:Stmt):Prop:=∃(oc kV doc pm cdv ct:Value) (od an:Option Addr) (osl:Array (Option Value)),
 K.lookup f=some ⟨oc,od,.func (PySem.W.fnOf m q (bC st) (aX st) (ax st) .none kV doc pm an cdv ct),osl⟩/\PySem.W.codeIn K cdv q=true/\PySem.W.keepIn K (.ref f)=true
abbrev sL(m q:Str)(st:Stmt)(ps:Vs):Prop:=∀(kV doc pm:Value) (an:Option Addr) (cdv ct:Value) (us:Vv),us.length=ps.length->bindArgs (PySem.W.fnOf m q (bC st) (aX st) (ax st) .none kV doc pm an cdv ct) ⟨us,[]⟩=pure (ps.zip us)
def FnAt.mk{f:Addr}(a:FnAt K f m q st)(hb:sL m q st ps):∃fd,E8 K m q st f fd/\Binds K fd ps []/\PySem.W.keepIn K (.ref f)=true:=by
 obtain⟨oc,kV,doc,pm,cdv,ct,od,an,osl,l,cc,k⟩:=a
 exact⟨_,kY l cc k,(kY l cc k).binds hb,k⟩
def CS(K:Vo)(x:Str)(st:Stmt):Prop:=∃f,PySem.W.nsIn K mainGlobals x=some (some (.ref f))/\FnAt K f x x st
def CS.own(X:K.In h)(G:h.Ns mainGlobals mg)(a:CS K x st)(hb:sL x x st ps):bH K mg x st ps:=by
 obtain⟨f,n,a⟩:=a
 obtain⟨fd,F,b,k⟩:=a.mk hb
 exact⟨f,fd,F,b,k,PySem.W.mg_of X G n⟩
def CS.law{fa:Addr}(X:K.In h)(G:h.Ns mainGlobals mg)(a:CS K x st)(hfa:mg x=some (.ref fa))(hb:sL x x st ps):∃kV doc pm an cdv ct,zI K mg x st ps fa (PySem.W.fnOf x x (bC st) (aX st) (ax st) .none kV doc pm an cdv ct):=by
 obtain⟨f,n,oc,kV,doc,pm,cdv,ct,od,an,osl,l,cc,k⟩:=a
 cases hfa.symm.trans (PySem.W.mg_of X G n)
 exact⟨kV,doc,pm,an,cdv,ct,kY l cc k,(kY l cc k).binds hb,k,hfa⟩
def GA(P:Program)(w:World)(K:Vo)(x:Str)(kvs:List (bb×V)):Prop:=∃a o,PySem.W.nsIn K mainGlobals x=some (some (.ref a))/\K.lookup a=some o/\(a == sysModules)=false/\∃vs,KV kvs vs/\Obj.IsDictOf (aP P w) o vs
def GA.kd{P:Program}{w:World}{kvs:List (bb×V)}(X:K.In h)(G:h.Ns mainGlobals mg)(a:GA P w K x kvs):∃a,mg x=some (.ref a)/\KD P w K a kvs:=by
 obtain⟨a,o,n,l,s,vs,h1,h2⟩:=a
 exact⟨a,PySem.W.mg_of X G n,s,o,vs,l,h1,h2⟩
def gU(X:K.In h)(G:h.Ns mainGlobals mg){l:Vs}(a:(l.all fun x=>u4 (PySem.W.nsIn K mainGlobals x))=true)(hx:x∈l:=by decide):mg x=none:=PySem.W.mg_none_of X G (u5 (List.all_eq_true.mp a x hx))
section
variable {f C:Addr} {oc kV doc pm cdv ct:Value} {od an:Option Addr} {osl:Array (Option Value)}
def A9(n:PySem.W.nsIn K mainGlobals x=some (some (.ref f)))(l:K.lookup f=some ⟨oc,od,.func (PySem.W.fnOf x x (bC st) (aX st) (ax st) .none kV doc pm an cdv ct),osl⟩)(cc:PySem.W.codeIn K cdv x=true)(k:PySem.W.keepIn K (.ref f)=true):CS K x st:=⟨f,n,oc,kV,doc,pm,cdv,ct,od,an,osl,l,cc,k⟩
def A_{P:Program}{w:World}{kvs:List (bb×V)}{o:Obj}(n:PySem.W.nsIn K mainGlobals x=some (some (.ref f)))(l:K.lookup f=some o)(s:(f == sysModules)=false)(v:∃vs,KV kvs vs/\Obj.IsDictOf (aP P w) o vs):GA P w K x kvs:=⟨f,o,n,l,s,v⟩
end
end
section
variable {K:Vo} {h:Heap} {mg:Vr} {x:Str} {st:Stmt} {ps:Vs}
def GB(K:Vo)(x:Str)(st:Stmt):Prop:=∃(f T:Addr) (oc kV doc pm cdv ct:Value) (od an:Option Addr) (osl:Array (Option Value)) (oT:Obj) (nT:Nat),PySem.W.nsIn K mainGlobals x=some (some (.ref f))/\
 K.lookup f=some ⟨oc,od,.func (PySem.W.fnOf x x (bC st) (aX st) (ax st) (.ref T) kV doc pm an cdv ct),osl⟩/\PySem.W.codeIn K cdv x=true/\PySem.W.keepIn K (.ref f)=true/\K.lookup T=some oT/\oT.data = .seq #[.bool true] nT
abbrev vC(x:Str)(st:Stmt)(ps:Vs):Prop:=∀(s:Shared) (T:Addr) (oT:Obj) (nT:Nat) (kV doc pm cdv ct:Value) (an:Option Addr) (us:Vv),oT.data = .seq #[.bool true] nT->us.length=ps.length->s.heap.get? T=some oT->BindsTo s (PySem.W.fnOf x x (bC st) (aX st) (ax st) (.ref T) kV doc pm an cdv ct) ⟨us,[]⟩ (ps.zip us)
abbrev vD(x:Str)(st:Stmt)(ps:Vs):Prop:=∀(s:Shared) (T:Addr) (oT:Obj) (nT:Nat) (kV doc pm cdv ct:Value) (an:Option Addr) (us:Vv),oT.data = .seq #[.bool true] nT->us.length+1=ps.length->s.heap.get? T=some oT->BindsTo s (PySem.W.fnOf x x (bC st) (aX st) (ax st) (.ref T) kV doc pm an cdv ct) ⟨us,[]⟩ (ps.zip (us++[.bool true]))
def GB.own(X:K.In h)(G:h.Ns mainGlobals mg)(a:GB K x st)(hb:vC x st ps)(hd:vD x st ps):md K mg x st ps:=by
 obtain⟨f,T,oc,kV,doc,pm,cdv,ct,od,an,osl,oT,nT,n,l,c,k,lT,sT⟩:=a
 exact⟨T,f,_,⟨⟨oc,od,kV,doc,pm,an,cdv,ct,osl,rfl,l,c⟩,k⟩,fun s us KI hl=>by rw[List.append_nil]at hl ⊢;exact hb _ _ _ _ _ _ _ _ _ _ us sT hl (KI T oT lT),fun s us KI hl=>hd _ _ _ _ _ _ _ _ _ _ us sT (by rw[List.length_append]at hl;exact hl) (KI T oT lT),k,PySem.W.mg_of X G n⟩
def Ba{f T:Addr}{oc kV doc pm cdv ct:Value}{od an:Option Addr}{osl:Array (Option Value)}{oT:Obj}{nT:Nat}(n:PySem.W.nsIn K mainGlobals x=some (some (.ref f)))(l:K.lookup f=some ⟨oc,od,.func (PySem.W.fnOf x x (bC st) (aX st) (ax st) (.ref T) kV doc pm an cdv ct),osl⟩)(c:PySem.W.codeIn K cdv x=true)(k:PySem.W.keepIn K (.ref f)=true)
  (lT:K.lookup T=some oT) (sT:oT.data = .seq #[.bool true] nT):GB K x st:=⟨f,T,oc,kV,doc,pm,cdv,ct,od,an,osl,oT,nT,n,l,c,k,lT,sT⟩
end
end L3
namespace G26
open PySem L2 L3
def iE:vC "parts_reached" (bN 9) ["body","names","reached"]:=fun _ _ _ _ _ _ _ _ _ _ us sT hl hT=>zv (P:=fun us=>BindsTo _ _ ⟨us,[]⟩ ((["body","names","reached"]:Vs).zip us)) (fun _ _ _=>by refine BindsTo.of_defaults rfl hT sT rfl ?_;rfl) us hl
def iF:vD "parts_reached" (bN 9) ["body","names","reached"]:=fun _ _ _ _ _ _ _ _ _ _ us sT hl hT=>vB (P:=fun us=>BindsTo _ _ ⟨us,[]⟩ ((["body","names","reached"]:Vs).zip (us++[.bool true]))) (fun _ _=>by refine BindsTo.of_defaults rfl hT sT rfl ?_;rfl) us (Nat.succ.inj hl)
def xH{l:PySem.W.OpenLaw}{w:World}{K:Vo}{h:Heap}{mg:Vr}{fa:Addr}(X:K.In h)(G:h.Ns mainGlobals mg)(hfa:mg "law" = some (.ref fa))
  (CC:CS K "sides_of" (bN 2))
  (CD:CS K "parts_in" (bN 3))
  (De:CS K "parts" (bN 4))
  (B3:CS K "plain_trace" (bN 6))
  (B4:CS K "led_to_part" (bN 7))
  (BN:GB K "parts_reached" (bN 9))
  (Cp:CS K "next_step" (bN 10))
  (CN:CS K "filling" (bN 11))
  (Cq:CS K "_law_deal" (bN 13))
  (Cr:CS K "_law_draw" (bN 14))
  (Ce:CS K "_law_words" (bN 15))
  (CF:CS K "_law_low" (bN 16))
  (Cs:CS K "_law_cost" (bN 17))
  (Ct:CS K "_law_leaf" (bN 18))
  (Cu:CS K "_law_body" (bN 19))
  (Bz:CS K "_law_pass_count" (bN 20))
  (Bu:CS K "_law_round_count" (bN 21))
  (BF:CS K "_law_deed_body" (bN 22))
  (Cf:CS K "_law_house" (bN 23))
  (Cv:CS K "_law_puts" (bN 24))
  (BO:CS K "_law_fillable" (bN 25))
  (B5:CS K "_law_number" (bN 26))
  (BU:CS K "_law_follows" (bN 27))
  (BP:CS K "_law_is_going" (bN 28))
  (Cg:CS K "_law_chain" (bN 29))
  (BA:CS K "_law_wide_house" (bN 30))
  (BV:CS K "_law_swapped" (bN 31))
  (CG:CS K "_law_kin" (bN 32))
  (Ch:CS K "_law_right" (bN 33))
  (Ci:GA l.prog w K "SIDES_FROM" (C.k_SIDES_FROM.map fun kv=>(kv.1,V.int kv.2)))
  (DW:((["all","bool","enumerate","int","isinstance","len","list","max","range","reversed","set","sorted","tuple","zip"]:Vs).all fun x=>u4 (PySem.W.nsIn K mainGlobals x))=true)
  (EK:CS K "law" (bN 34))
  : ∃fd:FuncData,(∀(s:Shared) (v:Value),BindsTo s fd ⟨[v],[]⟩ [("_law_script",v)])/\∀base:Heap,K.In base->base.Ns mainGlobals mg->jZ l.prog w K mg base sN 30 fa fd ["_law_script"] (yR K 1 mB):=by
 obtain⟨kV,doc,pm,an,cdv,ct,O⟩:=EK.law X G hfa (ps:=["_law_script"]) (fun _ _ _ _ _ _=>nS fun _=>rfl)
 exact⟨_,fun s v=>.of_eq rfl,fun base _ _=>(xA (P:=l.prog) (w:=w) (base:=base) ⟨CC.own X G (fun _ _ _ _ _ _=>nS fun _=>rfl),
  CD.own X G (fun _ _ _ _ _ _=>nS fun _=>rfl),
  De.own X G (fun _ _ _ _ _ _=>nS fun _=>rfl),
  B3.own X G (fun _ _ _ _ _ _=>nS fun _=>rfl),
  B4.own X G (fun _ _ _ _ _ _=>zv fun _ _ _=>rfl),
  BN.own X G iE iF,
  Cp.own X G (fun _ _ _ _ _ _=>vB fun _ _=>rfl),
  CN.own X G (fun _ _ _ _ _ _=>nS fun _=>rfl),
  Cq.own X G (fun _ _ _ _ _ _=>vB fun _ _=>rfl),
  Cr.own X G (fun _ _ _ _ _ _=>vB fun _ _=>rfl),
  Ce.own X G (fun _ _ _ _ _ _=>vB fun _ _=>rfl),
  CF.own X G (fun _ _ _ _ _ _=>vB fun _ _=>rfl),
  Cs.own X G (fun _ _ _ _ _ _=>nS fun _=>rfl),
  Ct.own X G (fun _ _ _ _ _ _=>vB fun _ _=>rfl),
  Cu.own X G (fun _ _ _ _ _ _=>AA fun _ _ _ _=>rfl),
  Bz.own X G (fun _ _ _ _ _ _=>nS fun _=>rfl),
  Bu.own X G (fun _ _ _ _ _ _=>nS fun _=>rfl),
  BF.own X G (fun _ _ _ _ _ _=>AA fun _ _ _ _=>rfl),
  Cf.own X G (fun _ _ _ _ _ _=>AA fun _ _ _ _=>rfl),
  Cv.own X G (fun _ _ _ _ _ _=>zv fun _ _ _=>rfl),
  BO.own X G (fun _ _ _ _ _ _=>nS fun _=>rfl),
  B5.own X G (fun _ _ _ _ _ _=>nS fun _=>rfl),
  BU.own X G (fun _ _ _ _ _ _=>zv fun _ _ _=>rfl),
  BP.own X G (fun _ _ _ _ _ _=>zv fun _ _ _=>rfl),
  Cg.own X G (fun _ _ _ _ _ _=>nS fun _=>rfl),
  BA.own X G (fun _ _ _ _ _ _=>nS fun _=>rfl),
  BV.own X G (fun _ _ _ _ _ _=>vB fun _ _=>rfl),
  CG.own X G (fun _ _ _ _ _ _=>nS fun _=>rfl),
  Ch.own X G (fun _ _ _ _ _ _=>nS fun _=>rfl),
  gU (x:="all") X G DW,
  gU (x:="bool") X G DW,
  gU (x:="enumerate") X G DW,
  gU (x:="int") X G DW,
  gU (x:="isinstance") X G DW,
  gU (x:="len") X G DW,
  gU (x:="list") X G DW,
  gU (x:="max") X G DW,
  gU (x:="range") X G DW,
  gU (x:="reversed") X G DW,
  gU (x:="set") X G DW,
  gU (x:="sorted") X G DW,
  gU (x:="tuple") X G DW,
  gU (x:="zip") X G DW,
  Ci.kd X G⟩ O).ok⟩
def AB{l:PySem.W.OpenLaw}{q:Program}{loose:Vs}{XP:(Vr)->Heap->Prop}{YP:World->Heap->Prop}{d:DefRec}{K:Params->PySem.W.Frag}(hn:l.most=some 63)(hdf:d.params.defaults=[])
  (hY:∀(w:World) (h:Heap),YP w h->(K w.params).In h)
  (F:∀(w:World) (mg:Vr) (fa:Addr) (h:Heap),(K w.params).In h->h.Ns mainGlobals mg->mg d.name=some (.ref fa)->
   ∃fd:FuncData,(∀(s:Shared) (u:Value),BindsTo s fd ⟨[u],[]⟩ [("_law_script",u)])/\∀base:Heap,(K w.params).In base->base.Ns mainGlobals mg->jZ l.prog w (K w.params) mg base sN 30 fa fd ["_law_script"] (yR (K w.params) 1 mB)) :
  PySem.W.WalkO q loose XP YP l.row.toRowW d [] (fun f vs=>PySem.call f vs):=
 L2.tT (n:=63) (k:=30) (x:="_law_script") (CX:=fun _=>sN) (sp:=fun w=>yR (K w.params) 1 mB) hn (by decide) hdf ⟨rfl,by decide,by decide,rfl⟩ hY F (fun _ _ a ns hl hO hS=>An hO hS (sK ns hl)) fun _ _ _ _ _ z=>z
end G26
local macro_rules | `(tactic| walk_at "k")=>`(tactic| (apply L3.A9; k_is; k_is; k_is; k_is))
local macro_rules | `(tactic| walk_at "d")=>`(tactic| (apply L3.Ba; k_is; k_is; k_is; k_is; k_is; rfl))
open PySem PySem.W PyProof.Rows
set_option maxRecDepth 100000 in
set_option maxHeartbeats 0 in
theorem PySem.Challenge.cw_dueworth_k26_fillings_holds : PySem.Challenge.rw_dueworth_k26_fillings.Holds := by
 w_on; refine holds_law E26.said fun said => ?_
 refine holds_open (q := E26.vw) (loose := ["SIDES_FROM", "parts_reached"]) (Xt := fun s => (xlAt E26.vw [] s && recOk (RowW.records E26.rr) s)) (XP := XL E26.vw []) (N := 2140)
  (Yf := Hook.obs E26.hk) (Ya := Hook.val E26.hk) (YP := Hook.says (kHook E26.early.heap_1 E26.as E26.AC)) E26.left (Hook.of E26.hk) (Hook.keeps E26.hk) (fun s e => xl_of s (Bool.and_eq_true_iff.mp e).1)
  XL.keeps rfl rfl rfl (fun s e => recFacts_of (Bool.and_eq_true_iff.mp e).2) rfl (by assumption)
  (by decide +kernel) ⟨rfl, rfl, rfl, rfl, rfl, by decide +kernel⟩ ?hw ?hc
 (case hw => w_witness2)
 k_fill
 refine G26.AB (l := PySem.Challenge.rw_dueworth_k26_fillings) rfl rfl (fun w h Y => PySem.W.kIn_of Y) ?F
 case F =>
  intro w mg fa h KX G hmg
  refine' G26.xH KX G hmg ?CC ?CD ?De ?B3 ?B4 ?BN ?Cp ?CN ?Cq ?Cr ?Ce ?CF ?Cs ?Ct ?Cu ?Bz ?Bu ?BF ?Cf ?Cv ?BO ?B5 ?BU ?BP ?Cg ?BA ?BV ?CG ?Ch ?Ci ?DW ?EK
  (case CC => walk_at "k")
  (case CD => walk_at "k")
  (case De => walk_at "k")
  (case B3 => walk_at "k")
  (case B4 => walk_at "k")
  (case BN => walk_at "d")
  (case Cp => walk_at "k")
  (case CN => walk_at "k")
  (case Cq => walk_at "k")
  (case Cr => walk_at "k")
  (case Ce => walk_at "k")
  (case CF => walk_at "k")
  (case Cs => walk_at "k")
  (case Ct => walk_at "k")
  (case Cu => walk_at "k")
  (case Bz => walk_at "k")
  (case Bu => walk_at "k")
  (case BF => walk_at "k")
  (case Cf => walk_at "k")
  (case Cv => walk_at "k")
  (case BO => walk_at "k")
  (case B5 => walk_at "k")
  (case BU => walk_at "k")
  (case BP => walk_at "k")
  (case Cg => walk_at "k")
  (case BA => walk_at "k")
  (case BV => walk_at "k")
  (case CG => walk_at "k")
  (case Ch => walk_at "k")
  (case Ci => apply L3.A_; k_is; k_is; rfl; exact L2.wH _ w [("then", 1, _, _), ("either", 1, _, _), ("take", 3, _, _), ("often", 1, _, _)] _ (by decide +kernel))
  (case DW => kernel_rfl)
  (case EK => walk_at "k")
#print axioms PySem.Challenge.cw_dueworth_k26_fillings_holds
