import PyProof.Rows.All
import Wide.All
import OpenK.AllK
import Wide.FinOn
import Lean
import PyProof.EqAt
import PyProof.EqKinds
import PyProof.TupleCall
import PySem.Challenge.RW_dueworth_k06_parts_of_bodies
import Open.Tree
import Open.Head
section
set_option Elab.async false
set_option linter.all false
set_option maxRecDepth 100000
set_option maxHeartbeats 0
namespace ET
open PySem PySem.W PyProof.Rows
def cH(tb:String→Option Builtin)(p:Program)(w:World)(n₀:Nat)(ann:Option Value):Nat→SharedT→Thread→Option SharedT
 |0,_,_=>none
 |n+1,s,t=>match through t with
  |true=>some s
  |false=>match stepOk n₀ ann t with
   |false=>none
   |true=>match stepT (denote tb) p w s t with
    |some x=>cH tb p w n₀ ann n x.1 x.2
    |none=>none
theorem fj{tb:String→Option Builtin}{p:Program}{w:World}{n₀:Nat}{ann:Option Value}:∀{n:Nat} {s s':SharedT} {t:Thread},cH tb p w n₀ ann n s t=some s'→topRun tb p w n₀ ann n s.abs t=some s'.abs
 |0,_,_,_,h=>by cases h
 |n+1,s,s',t,h=>by
  unfold cH at h
  unfold topRun
  cases he:through t with
  |true=>rw[he]at h;cases h;rfl
  |false=>
   rw[he]at h
   cases hk:stepOk n₀ ann t with
   |false=>rw[hk]at h;cases h
   |true=>
    rw[hk]at h
    cases hs:stepT (denote tb) p w s t with
    |none=>rw[hs]at h;cases h
    |some r=>rw[hs]at h;rw[stepT_spec hs];exact fj h
def qY:List Obj→BT→Nat→Option (BT×Nat)
 |[],t,n=>some (t,n)
 |o::os,t,n=>match ((t.ins n o).get n).isSome with
  |true=>qY os (t.ins n o) (n+1)
  |false=>none
theorem ja{life:Life}:∀{os:List Obj} {t t':BT} {n n':Nat},qY os t n=some (t',n')→absHeap t' n' life=⟨(absHeap t n life).objs++os.toArray,life⟩
 |[],t,t',n,n',h=>by cases h;simp[absHeap]
 |o::os,t,t',n,n',h=>by
  unfold qY at h
  cases g:((t.ins n o).get n).isSome with
  |false=>rw[g]at h;cases h
  |true=>
   rw[g]at h
   rw[ja h,absHeap_ins g]
   simp[Heap.push]
def cI(tb:String→Option Builtin)(p:Program)(w:World)(N:Nat)(s₀:Shared):Option Shared:=
 match s₀.heap.isNs mainGlobals&&s₀.gens.size == 0 with
 |true=>match qY s₀.heap.objs.toList .nil 0 with
  |some x=>match cH tb p w x.2 (s₀.heap.nsMap mainGlobals "__annotations__") N ⟨x.1,x.2,s₀.heap.life,s₀.gens,s₀.drawn,s₀.toks,s₀.os⟩ (topStub p)with
   |some s=>match staticsOk (importedModules p.main.body) s₀.heap s.abs.heap&&namesBound p s.abs.heap&&gensDone s.abs&&laidKept s₀.heap s.abs.heap with
    |true=>some s.abs
    |false=>none
   |none=>none
  |none=>none
 |false=>none
theorem iB{tb:String→Option Builtin}{p:Program}{w:World}{N:Nat}{s₀ s:Shared}(h:cI tb p w N s₀=some s):topFrom tb p w N s₀=some s:=by
 unfold cI at h
 unfold topFrom
 cases h1:s₀.heap.isNs mainGlobals&&s₀.gens.size == 0 with
 |false=>rw[h1]at h;cases h
 |true=>
  rw[h1]at h
  dsimp only at h ⊢
  cases h2:qY s₀.heap.objs.toList .nil 0 with
  |none=>rw[h2]at h;cases h
  |some x=>
   rw[h2]at h
   dsimp only at h
   have e:=ja (life:=s₀.heap.life) h2
   have e':absHeap x.1 x.2 s₀.heap.life=s₀.heap:=by
    rw[e]
    simp[absHeap,BT.list]
   have n':x.2=s₀.heap.objs.size:=by rw[←e',absHeap_size]
   cases h3:cH tb p w x.2 (s₀.heap.nsMap mainGlobals "__annotations__") N ⟨x.1,x.2,s₀.heap.life,s₀.gens,s₀.drawn,s₀.toks,s₀.os⟩ (topStub p)with
   |none=>rw[h3]at h;cases h
   |some r=>
    rw[h3]at h
    dsimp only at h
    have ea:SharedT.abs ⟨x.1,x.2,s₀.heap.life,s₀.gens,s₀.drawn,s₀.toks,s₀.os⟩=s₀:=by
     unfold SharedT.abs
     rw[e']
    have:=fj h3
    rw[ea,n']at this
    rw[this]
    exact h
theorem iC{tb:String→Option Builtin}{p:Program}{w:World}{N:Nat}{s₀:Shared}{α:Type}{f:Shared→α}{a:α}(h:Option.map f (cI tb p w N s₀)=some a):Option.map f (topFrom tb p w N s₀)=some a:=by
 obtain⟨s,h1,h2⟩:=Option.map_eq_some_iff.mp h
 rw[iB h1]
 exact congrArg some h2
def seenT(p q:Program)(loose:List Str)(Xt:Shared→Bool){α:Type}(Yf:Shared→α)(N:Nat)(u u':World):=
 Option.map (fun c=>Option.map (fun s=>(openSeen q loose (importedModules p.main.body) Xt true s,Yf s)) (cI treeTable p u' N c)) (fencedOpening treeTable p u N)
lay_quick seenT
theorem jb{p q:Program}{loose:List Str}{Xt:Shared→Bool}{α:Type}{Yf:Shared→α}{N:Nat}{u u':World}{r}(h:PySem.W.Fast.tw2787559817927863336 p q loose Xt Yf N u u'=r):seenT p q loose Xt Yf N u u'=r:=by
 rw[PySem.W.Fast.te2787559817927863336]
 exact h
theorem sR{p q:Program}{loose:List Str}{Xt:Shared→Bool}{α:Type}{Yf:Shared→α}{Ya:World→α}{N:Nat}
  (h:∀u:World,seenT p q loose Xt Yf N u u=some (some (openGood q loose,Ya u))):LeftO p q loose Xt Yf Ya N:=fun u=>by
 obtain⟨c,a,b⟩:=Option.map_eq_some_iff.mp (h u)
 unfold openEnds
 rw[a]
 exact iC b
theorem kD{p q:Program}{loose:List Str}{Xt:Shared→Bool}{α:Type}{Yf:Shared→α}{Ya:World→α}{N:Nat}(row:String)
  (h0:∀u:World,seenT p q loose Xt Yf N u (u.withFollow row false)=some (some (openGood q loose,Ya (u.withFollow row false))))
  (h1:∀u:World,seenT p q loose Xt Yf N u (u.withFollow row true)=some (some (openGood q loose,Ya (u.withFollow row true)))):LeftO p q loose Xt Yf Ya N:=fun u=>by
 obtain⟨c,a,b⟩:=Option.map_eq_some_iff.mp (h0 u)
 obtain⟨c',a',b'⟩:=Option.map_eq_some_iff.mp (h1 u)
 have hc:c'=c:=by rw[a]at a';cases a';rfl
 subst hc
 have b:=iC b
 have b':=iC b'
 have hu:=World.withFollow_self u row
 unfold openEnds
 rw[a]
 cases hb:u.params.followText row<;>rw[hb]at hu
 ·rw[hu]at b
  exact b
 ·rw[hu]at b'
  exact b'
end ET
namespace E06
open PySem PySem.W PyProof.Rows
abbrev tp(i:Nat):Stmt:=PySem.Challenge.pw_dueworth_k06_parts_of_bodies.main.body.getD i (.Pass ⟨0,0,0,0⟩)
/-- the text without what says nothing -/
def vw:Program:={ PySem.Challenge.pw_dueworth_k06_parts_of_bodies with main:={ PySem.Challenge.pw_dueworth_k06_parts_of_bodies.main with body:=[tp 1,tp 2,tp 3,tp 4,tp 5,tp 6,tp 7,tp 8,tp 10,tp 11,tp 12,tp 13,tp 14,tp 15,tp 16,tp 17,tp 18,tp 19,tp 20] } }
abbrev rr:RowW:=OpenRow.toRowW (OpenLaw.row PySem.Challenge.rw_dueworth_k06_parts_of_bodies)
local macro_rules | `(tactic| o_head $H)=>`(tactic|
 refine holds_open (q:=vw) (loose:=["SIDES_FROM"]) (Xt:=fun s=>(xlAt vw [] s&&recOk (RowW.records rr) s)) (XP:=XL vw []) (N:=1334)
  (Yf:=Hook.obs $H) (Ya:=Hook.val $H) (YP:=Hook.says $H) ?hl (Hook.of $H) (Hook.keeps $H) (fun s e=>xl_of s (Bool.and_eq_true_iff.mp e).1)
  XL.keeps rfl rfl rfl (fun s e=>recFacts_of (Bool.and_eq_true_iff.mp e).2) rfl (by assumption)
  (by decide +kernel) ⟨rfl,rfl,rfl,rfl,rfl,by decide +kernel⟩ ?hw ?hc)
/-- the law is well said: by the quick twin of the look,with no twin of the program -/
theorem said:OpenLaw.wellSaid PySem.Challenge.rw_dueworth_k06_parts_of_bodies=true:=(congrFun PySem.W.Fast.te9446332074065402090 _).trans (by kernel_rfl)
/-- says nothing; what lies in the heap is written down by the way -/
theorem early(h:∀P:Prop,P):PySem.Challenge.rw_dueworth_k06_parts_of_bodies.Holds:=by
 w_on;refine holds_law said fun said=>?_;k_head
 all_goals exact h _
abbrev as:List Addr:=[2,3,6,15,16,18,19,21,22,23,25,26,28,29,30,32,33,35,36,37,40,41,42,45,46,47,49,50,52,53,54,56,57,59,60,61,64,65,66,68,69,71,72,73,75,76,78,79,80,82,83,85,86,87,90,91,92,94,95,97,98,99,101,102,104,105,106,109,110,111,114,115,116,119,120,121,124,125]
theorem ux(P:Params):as=(early.heap_1 P).map (·.1):=by kernel_rfl
noncomputable abbrev hk:Hook:=kHook early.heap_1 as ux
theorem qZ(u:World):ET.seenT (OpenLaw.row PySem.Challenge.rw_dueworth_k06_parts_of_bodies).prog vw ["SIDES_FROM"] (fun s=>(xlAt vw [] s&&recOk (RowW.records rr) s)) (Hook.obs hk) 1334 u (u.withFollow "special-get-raises" false)=some (some (openGood vw ["SIDES_FROM"],Hook.val hk (u.withFollow "special-get-raises" false))):=ET.jb (by kernel_rfl)
theorem q8(u:World):ET.seenT (OpenLaw.row PySem.Challenge.rw_dueworth_k06_parts_of_bodies).prog vw ["SIDES_FROM"] (fun s=>(xlAt vw [] s&&recOk (RowW.records rr) s)) (Hook.obs hk) 1334 u (u.withFollow "special-get-raises" true)=some (some (openGood vw ["SIDES_FROM"],Hook.val hk (u.withFollow "special-get-raises" true))):=ET.jb (by kernel_rfl)
theorem left:LeftO (OpenLaw.row PySem.Challenge.rw_dueworth_k06_parts_of_bodies).prog vw ["SIDES_FROM"] (fun s=>(xlAt vw [] s&&recOk (RowW.records rr) s)) (Hook.obs hk) (Hook.val hk) 1334:=ET.kD "special-get-raises" qZ q8
end E06
end
open PySem in
abbrev Vq:=Value->Shared->Prop
open PySem in
abbrev Va:=List (Addr×Obj)
open PySem in
abbrev Vo:=PySem.W.Frag
open PySem in
abbrev Vr:=Str->Option Value
open PySem in
abbrev Vs:=List Str
open PySem in
abbrev Vu:=List Int
open PySem in
abbrev Vv:=List Value
open PySem in
abbrev Vw:=Array Value
set_option Elab.async false
set_option linter.all false
set_option maxRecDepth 100000
namespace L2
open PySem PySem.Spec PyProof.Rows
abbrev aC:=Sum Int Str
noncomputable def fk:aC->Value->Bool
 | .inl k,v=>Value.isInt k v
 | .inr x,v=>Value.isStrOf x v
noncomputable def tw(w:World):aC->Int
 | .inl k=>hashInt k
 | .inr x=>hashStr w x
theorem aB:∀{k:aC} {v:Value},fk k v=true->(∃i t,k=Sum.inl i/\v=Value.int i t)\/(∃x t,k=Sum.inr x/\v=Value.str x t)
 | .inl i,v,h=>by
  obtain⟨t,e⟩:=Value.isInt_shape (k:=i) (v:=v) h
  exact .inl ⟨i,t,rfl,e⟩
 | .inr x,v,h=>by
  obtain⟨t,e⟩:=Value.isStrOf_shape (x:=x) (v:=v) h
  exact .inr ⟨x,t,rfl,e⟩
def jI(i:Int)(t:Tok):fk (.inl i) (.int i t)=true:=by simp[fk,Value.isInt]
def cX(x:Str)(t:Tok):fk (.inr x) (.str x t)=true:=by simp[fk,Value.isStrOf]
def oR(a b:Int):decide ((Sum.inl a:aC)=Sum.inl b)=(a == b):=by
 by_cases e:a=b
 ·subst e;simp
 ·have h:¬(Sum.inl a:aC)=Sum.inl b:=fun q=>e (Sum.inl.inj q)
  rw[decide_eq_false h]
  exact(beq_eq_false_iff_ne.mpr e).symm
def oS(a b:Str):decide ((Sum.inr a:aC)=Sum.inr b)=decide (a=b):=by
 by_cases e:a=b
 ·subst e;simp
 ·have h:¬(Sum.inr a:aC)=Sum.inr b:=fun q=>e (Sum.inr.inj q)
  rw[decide_eq_false h,decide_eq_false e]
def oU(a:Int)(b:Str):decide ((Sum.inl a:aC)=Sum.inr b)=false:=decide_eq_false (fun q=>nomatch q)
def oV(a:Str)(b:Int):decide ((Sum.inr a:aC)=Sum.inl b)=false:=decide_eq_false (fun q=>nomatch q)
noncomputable def aq(prog:Program)(w:World):PySem.KeyKind prog w aC where
 is:=fk
 hash:=tw w
 inj:=fun v a b ha hb=>by
  rcases aB ha with⟨i,t,rfl,rfl⟩|⟨x,t,rfl,rfl⟩
  ·rcases aB hb with⟨j,u,rfl,e⟩|⟨y,u,rfl,e⟩
   ·injection e with e1 _;rw[e1]
   ·exact nomatch e
  ·rcases aB hb with⟨j,u,rfl,e⟩|⟨y,u,rfl,e⟩
   ·exact nomatch e
   ·injection e with e1 _;rw[e1]
 byValue:=fun k v h=>by
  rcases aB h with⟨i,t,rfl,rfl⟩|⟨x,t,rfl,rfl⟩<;>rfl
 pyHash:=fun hv h=>by
  rcases aB hv with⟨i,t,rfl,rfl⟩|⟨x,t,rfl,rfl⟩
  ·exact wpAny_pyHash_int h
  ·exact wpAny_pyHash_str h
 eqBool:=fun hu hv h=>by
  rcases aB hu with⟨i,t,rfl,rfl⟩|⟨x,t,rfl,rfl⟩
  ·rcases aB hv with⟨j,u,rfl,rfl⟩|⟨y,u,rfl,rfl⟩
   ·rw[oR]at h;exact wpAny_eqBool_int h
   ·rw[oU]at h;exact SeqAt.EqAt.int_str i t y u _ _ _ _ h
  ·rcases aB hv with⟨j,u,rfl,rfl⟩|⟨y,u,rfl,rfl⟩
   ·rw[oV]at h;exact SeqAt.EqAt.str_int x t j u _ _ _ _ h
   ·rw[oS]at h;exact wpAny_eqBool_str h
 «strs»:=fun k x t v h=>by
  rcases aB h with⟨i,u,rfl,e⟩|⟨y,u,rfl,e⟩
  ·exact nomatch e
  ·injection e with e1 _
   subst e1
   cases v<;>rfl
def gL(prog:Program)(w:World)(i:Int)(t:Tok):(aq prog w).is (.inl i) (.int i t)=true:=jI i t
def gM(prog:Program)(w:World)(x:Str)(t:Tok):(aq prog w).is (.inr x) (.str x t)=true:=cX x t
inductive V where
 |non|bl (b:Bool)|int (i:Int)|str (x:Str)|xC (b:Array UInt8)|zb (b:UInt64)|ref (a:Addr)|ty (n:String)
 deriving DecidableEq
noncomputable def RelV:V->Value->Prop
 | .non,u=>u=Value.none
 | .bl b,u=>u=Value.bool b
 | .int i,u=>∃t,u=Value.int i t
 | .str x,u=>∃t,u=Value.str x t
 | .xC b,u=>∃t,u=Value.bytes b t
 | .zb b,u=>∃t,u=Value.float b t
 | .ref a,u=>u=Value.ref a
 | .ty n,u=>u=Value.type n
noncomputable abbrev Vals:List V->List Value->Prop:=Paired RelV
theorem Vals.length{xs:List V}{us:Vv}(r:Vals xs us):xs.length=us.length:=Paired.length r
theorem Vals.get:∀{xs:List V} {us:Vv} {i:Nat} {x:V},Vals xs us->xs[i]?=some x->∃u,us[i]?=some u/\RelV x u
 |_,_,_,_,.nil,e=>by simp at e
 |_,_,0,_,.cons r _,e=>by simp at e;subst e;exact⟨_,rfl,r⟩
 |_,_,i+1,x,.cons _ t,e=>by
  obtain⟨u,h1,h2⟩:=Vals.get (i:=i) (x:=x) t (by simpa using e)
  exact⟨u,by simpa using h1,h2⟩
theorem Vals.set{x:V}{u:Value}(r:RelV x u):∀{xs:List V} {us:Vv} (i:Nat),Vals xs us->Vals (xs.set i x) (us.set i u)
 |_,_,_,.nil=>.nil
 |_,_,0,.cons _ t=>.cons r t
 |_,_,i+1,.cons q t=>.cons q (Vals.set r i t)
theorem Vals.append:∀{xs ys:List V} {us ws:Vv},Vals xs us->Vals ys ws->Vals (xs++ys) (us++ws)
 |_,_,_,_,.nil,s=>s
 |_,_,_,_,.cons r t,s=>.cons r (Vals.append t s)
theorem Vals.take:∀{xs:List V} {us:Vv} (n:Nat),Vals xs us->Vals (xs.take n) (us.take n)
 |_,_,0,_=>.nil
 |_,_,_+1,.nil=>.nil
 |_,_,n+1,.cons r t=>.cons r (Vals.take n t)
theorem Vals.drop:∀{xs:List V} {us:Vv} (n:Nat),Vals xs us->Vals (xs.drop n) (us.drop n)
 |_,_,0,r=>r
 |_,_,_+1,.nil=>.nil
 |_,_,n+1,.cons _ t=>Vals.drop n t
noncomputable def RelO:Option V->Option Value->Prop
 |some v,some u=>RelV v u
 |none,none=>True
 |_,_=>False
noncomputable def KV{κ:Type}:List (κ×V)->List (κ×Value)->Prop:=Paired fun(p:κ×V) (q:κ×Value)=>p.1=q.1/\RelV p.2 q.2
noncomputable def kV:aC->V
 | .inl i=>.int i
 | .inr x=>.str x
inductive HO where
 /-- a list -/
 |lst (xs:List V)
 /-- a tuple (never changes) -/
 |tup (xs:List V)
 /-- a dict whose keys are ints and texts; one whose keys are tuples of ints and texts (the empty one is both) -/
 |dK (kvs:List (aC×V))|dT (kvs:List (List aC×V))
 /-- a set of ints: its members,its size -/
 |set (S:Int->Bool) (n:Nat)
 /-- an instance of the class at C,its dict at dx,its attributes -/
 |ins (C dx:Addr) (fs:List (Str×V))
 /-- the dict of the instance at x -/
 |own (x:Addr)
 /-- the dict of an exception -/
 |xd (fs:List (Str×V))
 /-- a bound method,f of x -/
 |met (f x:Addr)
 /-- a range object lo,lo + 1,.. below hi -/
 |zc (lo hi:Int)
 /-- a thing that is known to the object (the script; a dict while a loop walks it): read,never written while it is so -/
 |frz (o:Obj) (u:HO)
 /-- a code object's table -/
 |x_ (ps:Vw)
 /-- any other thing,by what is true of its one object (a def of zQ own: Ah a S n:=HO.ext fun h=>..) -/
 |ext (φ:Heap->Prop)
abbrev Hp:=Addr->Option HO
noncomputable def upd(H:Hp)(a:Addr)(o:HO):Hp:=fun b=>if b=a then some o else H b
def ak{H:Hp}{a:Addr}{o:HO}:upd H a o a=some o:=by unfold upd;rw[if_pos rfl]
def al{H:Hp}{a b:Addr}{o:HO}(h:b≠a):upd H a o b=H b:=by unfold upd;rw[if_neg h]
def q9{H:Hp}{a b:Addr}{o u:HO}(h:H a=some o)(h':H b=some u)(d:o≠u):a≠b:=by
 intro e;subst e;rw[h]at h';exact d (Option.some.inj h')
def aD{H:Hp}{a b:Addr}{o:HO}(h:H a=some o)(h':H b=none):a≠b:=by
 intro e;subst e;rw[h]at h';cases h'
def vR(h:Heap)(a:Addr)(its:Vw):Prop:=∃o,h.get? a=some o/\o.dict=none/\o.cls = .type "tuple"/\∃n,o.data = .seq its n
def vR.tup{h:Heap}{a:Addr}{its:Vw}(x:vR h a its):IsTup h a its:=let ⟨o,e,_,c,d⟩:=x;⟨o,e,c,d⟩
def vR.new(h:Heap)(its:Vw):vR (h.push { cls:=.type "tuple",data:=.seq its }) h.objs.size its:=⟨_,Heap.get?_push_size _ rfl,rfl,rfl,_,rfl⟩
section
variable (P:Program) (w:World)
noncomputable def ObjOk(H:Hp)(h:Heap)(a:Addr):HO->Prop
 | .lst xs=>xs.length<=sizeLine/\∃(its:Vv) (n:Nat),Vals xs its/\h.get? a=some { cls:=.type "list",data:=.seq its.toArray n }
 | .tup xs=>xs.length<=sizeLine/\∃its:List Value,Vals xs its/\vR h a its.toArray
 | .dK kvs=>kvs.length<=sizeLine/\(a == sysModules)=false/\∃vs,KV kvs vs/\h.DictOf (aq P w) a vs
 | .dT kvs=>kvs.length<=sizeLine/\(a == sysModules)=false/\∃xs:List (List aC×Addr×Value),
   Paired (fun(p:List aC×V) (q:List aC×Addr×Value)=>p.1=q.1/\H q.2.1=some (.tup (p.1.map kV))/\RelV p.2 q.2.2) kvs xs/\
   ∃o es ep,h.get? a=some o/\o.ExactDict/\o.data = .dict es ep/\es.toList=xs.map (entryOfKey (tupleKind (aq P w)))/\(xs.map (·.1)).Nodup
 | .set S n=>h.SetOf (intKind P w) a S n
 | .ins C dx fs=>H dx=some (.own a)/\fs.length<=1000/\dx≠a/\h.get? a=some (PySem.W.instObj C dx)/\
   ∃mA,h.Ns1 dx mA/\(∀f,RelO (fs.lookup f) (mA f))/\PySem.Within mA (fs.map (·.1))
 | .own _=>∃o,h.get? a=some o
 | .xd fs=>∃mA,h.Ns1 a mA/\∀f,RelO (fs.lookup f) (mA f)
 | .zc lo hi=>∃t u v,h.get? a=some { cls:=.type "range",data:=.fields #[.int lo t,.int hi u,.int 1 v] }
 | .frz o u=>h.get? a=some o/\ObjOk H h a u
 | .x_ ps=>h.get? a=some { cls:=.none,data:=.fields ps }
 | .met f x=>h.get? a=some (PySem.W.methodObj (.ref f) (.ref x))
 | .ext φ=>φ h/\(∃o,h.get? a=some o)/\∀h1 h2:Heap,φ h1->(∀o,h1.get? a=some o->h2.get? a=some o)->φ h2
def vW(H:Hp)(h:Heap):Prop:=∀a o,H a=some o->ObjOk P w H h a o
end
section
variable {P:Program} {w:World} {H H':Hp} {h h':Heap} {a:Addr} {o:HO}
theorem ObjOk.lt(x:ObjOk P w H h a o):a < h.objs.size:=by
 cases o with
 |lst xs=>obtain⟨_,_,_,_,e⟩:=x;exact Heap.lt_size e
 |tup xs=>obtain⟨_,_,_,p⟩:=x;exact p.tup.lt
 |dK kvs=>obtain⟨_,_,_,_,o,_,_,e,_⟩:=x;exact Heap.lt_size e
 |dT kvs=>obtain⟨_,_,_,_,o,_,_,e,_⟩:=x;exact Heap.lt_size e
 |set S n=>obtain⟨o,_,_,_,e,_⟩:=x;exact Heap.lt_size e
 |ins C dx fs=>obtain⟨_,_,_,e,_⟩:=x;exact Heap.lt_size e
 |own y=>obtain⟨_,e⟩:=x;exact Heap.lt_size e
 |xd fs=>obtain⟨_,⟨_,_,_,e,_⟩,_⟩:=x;exact Heap.lt_size e
 |zc lo hi=>obtain⟨_,_,_,e⟩:=x;exact Heap.lt_size e
 |frz ob u=>obtain⟨e,_⟩:=x;exact Heap.lt_size e
 |x_ ps=>exact Heap.lt_size (show h.get? a=some _ from x)
 |met f y=>exact Heap.lt_size (show h.get? a=some _ from x)
 |ext φ=>obtain⟨_,⟨_,e⟩,_⟩:=x;exact Heap.lt_size e
theorem Paired.ya{α β:Type}{F G:α->β->Prop}:∀{l₁:List α} {l₂:List β},Paired F l₁ l₂->(∀a b,F a b->G a b)->Paired G l₁ l₂
 |_,_,.nil,_=>.nil
 |_,_,.cons r t,f=>.cons (f _ _ r) (Paired.ya t f)
def ObjOk.stay(x:ObjOk P w H h a o)(k:∀b u,(b=a\/H b=some (.own a))->h.get? b=some u->h'.get? b=some u)
  (ho:∀b,H b=some (.own a)->H' b=some (.own a)) (ht:∀b xs,H b=some (.tup xs)->H' b=some (.tup xs)):ObjOk P w H' h' a o:=by
 induction o with
 |lst xs=>obtain⟨z,its,n,r,e⟩:=x;exact⟨z,its,n,r,k _ _ (.inl rfl) e⟩
 |tup xs=>obtain⟨z,its,r,ob,e,c⟩:=x;exact⟨z,its,r,ob,k _ _ (.inl rfl) e,c⟩
 |dK kvs=>obtain⟨z,y,vs,r,ob,es,ep,e,c⟩:=x;exact⟨z,y,vs,r,ob,es,ep,k _ _ (.inl rfl) e,c⟩
 |dT kvs=>
  obtain⟨z,y,xs,r,ob,es,ep,e,c⟩:=x
  exact⟨z,y,xs,Paired.ya r fun p q z=>⟨z.1,ht _ _ z.2.1,z.2.2⟩,ob,es,ep,k _ _ (.inl rfl) e,c⟩
 |set S n=>obtain⟨ob,es,ep,t,e,c⟩:=x;exact⟨ob,es,ep,t,k _ _ (.inl rfl) e,c⟩
 |ins C dx fs=>
  obtain⟨d,z,ne,e,mA,⟨od,es,ep,e2,c⟩,r⟩:=x
  exact⟨ho _ d,z,ne,k _ _ (.inl rfl) e,mA,⟨od,es,ep,k _ _ (.inr d) e2,c⟩,r⟩
 |own y=>obtain⟨ob,e⟩:=x;exact⟨ob,k _ _ (.inl rfl) e⟩
 |xd fs=>obtain⟨mA,⟨od,es,ep,e,c⟩,r⟩:=x;exact⟨mA,⟨od,es,ep,k _ _ (.inl rfl) e,c⟩,r⟩
 |zc lo hi=>obtain⟨t,u,v,e⟩:=x;exact⟨t,u,v,k _ _ (.inl rfl) e⟩
 |frz ob u ih=>obtain⟨e,q⟩:=x;exact⟨k _ _ (.inl rfl) e,ih q⟩
 |x_ ps=>
  have e:h.get? a=some { cls:=.none,data:=.fields ps }:=x
  show h'.get? a=some { cls:=.none,data:=.fields ps }
  exact k a _ (.inl rfl) e
 |met f y=>
  have e:h.get? a=some (PySem.W.methodObj (.ref f) (.ref y)):=x
  show h'.get? a=some (PySem.W.methodObj (.ref f) (.ref y))
  exact k a _ (.inl rfl) e
 |ext φ=>obtain⟨p,⟨o,e⟩,st⟩:=x;exact⟨st _ _ p fun o q=>k _ _ (.inl rfl) q,⟨o,k _ _ (.inl rfl) e⟩,st⟩
theorem vW.lt(x:vW P w H h)(e:H a=some o):a < h.objs.size:=(x a o e).lt
def vW.fresh(x:vW P w H h)(e:h.objs.size<=a):H a=none:=by
 cases q:H a with
 |none=>rfl
 |some u=>exact absurd (Nat.lt_of_lt_of_le (x.lt q) e) (Nat.lt_irrefl _)
def vW.kept(x:vW P w H h)(k:∀b u,h.get? b=some u->h'.get? b=some u):vW P w H h':=fun a o e=>
 (x a o e).stay (fun b u _ q=>k b u q) (fun _ q=>q) fun _ _ q=>q
def vW.laid(x:vW P w H h)(k:∀b u,h.get? b=some u->h'.get? b=some u)(hp:h.objs.size<=a)(new:ObjOk P w (upd H a o) h' a o):vW P w (upd H a o) h':=fun b u e=>by
 have hn:=x.fresh hp
 by_cases hb:b=a
 ·subst hb;rw[ak]at e;cases e;exact new
 ·rw[al hb]at e
  exact(x b u e).stay (fun c v _ q=>k c v q) (fun c q=>by rw[al (aD q hn)];exact q) fun c xs q=>by rw[al (aD q hn)];exact q
end
def Rd(H:Hp)(a:Addr)(u:HO):Prop:=H a=some u\/∃o,H a=some (.frz o u)
def Rd.ok{P:Program}{w:World}{H:Hp}{h:Heap}{a:Addr}{u:HO}(r:Rd H a u)(x:vW P w H h):ObjOk P w H h a u:=by
 rcases r with r|⟨o,r⟩
 ·exact x a u r
 ·obtain⟨_,q⟩:=x a _ r
  exact q
noncomputable def q_:Option HO->Prop
 |some (.lst _)=>True
 |some (.dK _)=>True
 |some (.dT _)=>True
 |some (.set _ _)=>True
 |some (.ins _ _ _)=>True
 |some (.ext _)=>True
 |_=>False
section
variable {P:Program} {w:World} {H:Hp} {h h':Heap} {x e:Addr} {o':HO}
def vW.write(ok:vW P w H h)(mu:q_ (H x))(he:e=x\/H e=some (.own x))(k:∀b u,b≠e->h.get? b=some u->h'.get? b=some u)(yq:∃u,h'.get? e=some u)
  (new:ObjOk P w (upd H x o') h' x o'):vW P w (upd H x o') h':=fun b u q=>by
 have yy:∀c y,H c=some (.own y)->c≠x:=fun c y r z=>by subst z;rw[r]at mu;exact mu
 have zd:∀c xs,H c=some (.tup xs)->c≠x:=fun c xs r z=>by subst z;rw[r]at mu;exact mu
 by_cases hb:b=x
 ·subst hb;rw[ak]at q;cases q;exact new
 ·rw[al hb]at q
  by_cases yb:b=e
  ·have q':H b=some (.own x):=by
    rcases he with z|z
    ·exact absurd (yb.trans z) hb
    ·rw[yb];exact z
   rw[q]at q';cases q'
   obtain⟨v,hv⟩:=yq
   exact⟨v,by rw[yb];exact hv⟩
  ·refine(ok b u q).stay (fun c v hc r=>k c v ?_ r) (fun c r=>by rw[al (yy c b r)];exact r) fun c xs r=>by rw[al (zd c xs r)];exact r
   rcases hc with rfl|hc
   ·exact yb
   ·rintro rfl
    rcases he with z|z
    ·exact yy c b hc z
    ·rw[hc]at z;cases z;exact hb rfl
end
structure Un (fs ex:List Addr) (H H':Hp) (h h':Heap):Prop where
 keep:∀b o,h.get? b=some o->H b=none->b ∉ fs->b ∉ ex->h'.get? b=some o
 slot:∀b o,h.get? b=some o->H b=none->b∈fs->b ∉ ex->∃sl,h'.get? b=some { o with slots:=sl }
 free:∀b o,h.get? b=some o->H b=none->b ∉ ex->H' b=none
 there:∀b o,h.get? b=some o->b ∉ ex->∃o',h'.get? b=some o'
 tups:∀b xs,H b=some (.tup xs)->H' b=some (.tup xs)
 wC:∀b o u,H b=some (.frz o u)->H' b=some (.frz o u)
 wQ:∀b ps,H b=some (.x_ ps)->∃more,H' b=some (.x_ (ps++more))
section
variable {fs fs' ex ex':List Addr} {H H1 H2:Hp} {h h1 h2 h':Heap} {a x e:Addr} {o:HO}
def Un.any(u:Un fs ex H H1 h h1){b:Addr}{ob:Obj}(q:h.get? b=some ob)(n:H b=none)(hx:b ∉ ex):∃sl,h1.get? b=some { ob with slots:=sl }:=by
 by_cases hb:b∈fs
 ·exact u.slot b ob q n hb hx
 ·exact⟨ob.slots,u.keep b ob q n hb hx⟩
def Un.kept(k:∀b u,h.get? b=some u->h'.get? b=some u):Un fs ex H H h h':=
 ⟨fun b ob q _ _ _=>k b ob q,fun b ob q _ _ _=>⟨ob.slots,k b ob q⟩,fun _ _ _ n _=>n,fun b ob q _=>⟨ob,k b ob q⟩,fun _ _ q=>q,fun _ _ _ q=>q,fun _ ps q=>⟨#[],by rw[q];simp⟩⟩
def Un.refl:Un fs ex H H h h:=Un.kept fun _ _ q=>q
def Un.laid(k:∀b u,h.get? b=some u->h'.get? b=some u)(hp:h.objs.size<=a)(hn:H a=none):Un fs ex H (upd H a o) h h' where
 keep:=fun b u q _ _ _=>k b u q
 slot:=fun b u q _ _ _=>⟨u.slots,k b u q⟩
 free:=fun b u q n _=>by rw[al (Nat.ne_of_lt (Nat.lt_of_lt_of_le (Heap.lt_size q) hp))];exact n
 there:=fun b u q _=>⟨u,k b u q⟩
 tups:=fun b xs q=>by rw[al (aD q hn)];exact q
 wC:=fun b u xs q=>by rw[al (aD q hn)];exact q
 wQ:=fun b ps q=>⟨#[],by rw[al (aD q hn),q];simp⟩
def Un.write(mu:q_ (H x))(he:e=x\/H e=some (.own x))(k:∀b u,b≠e->h.get? b=some u->h'.get? b=some u)(yq:∃u,h'.get? e=some u):Un fs ex H (upd H x o) h h':=by
 have hx:∀b,H b=none->b≠x:=fun b n z=>by subst z;rw[n]at mu;exact mu
 have hb:∀b,H b=none->b≠e:=fun b n z=>by
  subst z
  rcases he with r|r
  ·exact hx b n r
  ·rw[n]at r;cases r
 have hm:∀b u,H b=some u->¬q_ (some u)->b≠x:=fun b u q nm z=>by subst z;rw[q]at mu;exact nm mu
 refine⟨fun b u q n _ _=>k b u (hb b n) q,fun b u q n _ _=>⟨u.slots,k b u (hb b n) q⟩,fun b u q n _=>by rw[al (hx b n)];exact n,fun b u q _=>?_,
  fun b xs q=>by rw[al (hm b _ q fun z=>z)];exact q,fun b u xs q=>by rw[al (hm b _ q fun z=>z)];exact q,fun b ps q=>⟨#[],by rw[al (hm b _ q fun z=>z),q];simp⟩⟩
 by_cases yb:b=e
 ·subst yb;exact yq
 ·exact⟨u,k b u yb q⟩
end
noncomputable def sT(h:Heap)(H:Hp):List Addr:=(List.range h.objs.size).filter fun a=>(H a).isSome
noncomputable def fU(h:Heap)(H:Hp):Heap:=PySem.W.hideAll h (sT h H)
def jJ(h:Heap)(H:Hp):(fU h H).objs.size=h.objs.size:=PySem.W.hideAll_size _ _
def kE{h:Heap}{H:Hp}{b:Addr}{o:Obj}(e:h.get? b=some o)(n:H b=none):(fU h H).get? b=some o:=
 PySem.W.hideAll_get _ e fun hm=>by
  have q:(H b).isSome=true:=(List.mem_filter.mp hm).2
  rw[n]at q;simp at q
def mC{h:Heap}{H:Hp}{b:Addr}{o:Obj}(e:(fU h H).get? b=some o):h.get? b=some o/\H b=none:=by
 have e':h.get? b=some o:=PySem.W.of_hideAll (sT h H) e
 refine⟨e',?_⟩
 cases q:H b with
 |none=>rfl
 |some x=>
  have hm:b∈sT h H:=List.mem_filter.mpr ⟨List.mem_range.mpr (Heap.lt_size e'),by simp[q]⟩
  have z:(fU h H).get? b=none:=PySem.W.hideAll_none (sT h H) hm
  rw[z]at e;cases e
structure Mod (K:Vo) (mg:Vr) (base:Heap):Prop where
 ze:K.In base
 glob:base.Ns mainGlobals mg
 blt:∃mb,base.Ns builtinsNs mb/\∀x:Str,x ≠ "__name__"->mb x=bootBuiltins x
 nolimit:base.NoLimit
structure Cx where
 prog:Program
 w:World
 K:Vo
 mg:Vr
 base:Heap
 A:Around
 N:List Str
 s₀:Shared
 H₀:Hp
 env:Env
 outer:List Env
 stack:List Env
 ex:List Addr
 fn:Str->Bool
 calm:Bool
 pn:Va
 xe:Value->Shared->Prop
noncomputable def frs(l:List Env):List Addr:=l.filterMap (·.frame)
noncomputable abbrev Cx.fs(X:Cx):List Addr:=frs X.outer
def sU(sc:Scope)(x:Str):Prop:=sc.names.lookup x=some .local\/sc.names.lookup x=some .cell\/sc.names.lookup x=some .free
def oA(sc:Scope)(x:Str):Prop:=sc.names.lookup x=some .local\/sc.names.lookup x=some .cell
def tz(env:Env)(h:Heap)(m:Vr)(x:Str)(u:Value):Prop:=
 (env.kindOf x=some .local/\m x=some u)\/((env.kindOf x=some .cell\/env.kindOf x=some .free)/\∃c,env.cells.lookup x=some c/\h.IsCell c (some u))
structure Cx.Ok (X:Cx):Prop where
 mod:Mod X.K X.mg X.base
 kind:X.env.scope.kind = .function
 glob:X.env.globals=mainGlobals
 blt:X.env.builtins=builtinsNs
 above:X.s₀.heap.objs.size<=X.env.locals
 inj:∀x y c,X.env.cells.lookup x=some c->X.env.cells.lookup y=some c->x=y
 has:∀x,(X.env.kindOf x=some .cell\/X.env.kindOf x=some .free)->∃c,X.env.cells.lookup x=some c
 yr:∀x c,X.fn x=true->X.env.cells.lookup x=some c->X.s₀.heap.objs.size<=c
 hd:X.calm=true->X.A.handled=none
 frames:X.A.frames=some X.stack
 stk:X.stack=X.outer\/(X.stack=X.env::X.outer/\X.env.frame=some X.env.locals)
 zf:∀b∈X.ex,b≠X.env.locals/\∀x c,X.env.cells.lookup x=some c->c≠b
 bs:∀b o,X.base.get? b=some o->X.s₀.heap.get? b=some o/\X.H₀ b=none
 xO:X.base.objs.size<=X.s₀.heap.objs.size
 xr:∀b o,X.base.get? b=some o->b ∉ X.ex
 xD:∀b∈X.ex,b ∉ X.fs
 wb:X.s₀.heap.FunFrames X.base X.outer
 yc:∀b∈X.fs,X.H₀ b=none
structure Inv (X:Cx) (pins:Va) (σ:List (Option V)) (H:Hp) (s:Shared):Prop where
 ok:X.Ok
 os:s.os=X.s₀.os
 bare:AllBare s.gens
 base:Un X.fs X.ex X.H₀ H X.s₀.heap s.heap
 loc:∃m,s.heap.Ns X.env.locals m/\∀(i:Nat) (x:Str) (v:V),X.N[i]?=some x->σ[i]?=some (some v)->sU X.env.scope x->∃u,RelV v u/\tz X.env s.heap m x u
 cell:∀x c,X.env.cells.lookup x=some c->∃v,s.heap.IsCell c v
 free:H X.env.locals=none
 vI:∀x c,X.env.cells.lookup x=some c->H c=none
 pin:∀p∈X.pn++pins,s.heap.get? p.1=some p.2/\H p.1=none/\p.1≠X.env.locals/\p.1 ∉ X.fs/\∀v,p.2.data ≠ .cell v
 hok:vW X.prog X.w H s.heap
 len:σ.length=X.N.length
section
variable {X:Cx} {pins:Va} {σ:List (Option V)} {H H':Hp} {s:Shared} {h':Heap}
def Cx.Ok.zg(ok:X.Ok){b:Addr}{o:Obj}(e:X.base.get? b=some o):b ∉ X.fs:=fun hb=>by
 have:=(ok.wb.mem hb).1
 rw[e]at this;cases this
theorem Inv.bs(I:Inv X pins σ H s):∀b o,X.base.get? b=some o->s.heap.get? b=some o/\H b=none:=fun b o e=>
 ⟨I.base.keep b o (I.ok.bs b o e).1 (I.ok.bs b o e).2 (I.ok.zg e) (I.ok.xr b o e),I.base.free b o (I.ok.bs b o e).1 (I.ok.bs b o e).2 (I.ok.xr b o e)⟩
def Inv.bk(I:Inv X pins σ H s):∀b o,X.base.get? b=some o->s.heap.get? b=some o:=fun b o e=>(I.bs b o e).1
theorem Inv.mod(I:Inv X pins σ H s):Mod X.K X.mg X.base:=I.ok.mod
def Inv.xM(I:Inv X pins σ H s):X.K.In s.heap:=I.ok.mod.ze.keeps I.bk
theorem Inv.lt(I:Inv X pins σ H s):X.env.locals < s.heap.objs.size:=let ⟨_,hn,_⟩:=I.loc;hn.lt
def Inv.sz(I:Inv X pins σ H s):X.s₀.heap.objs.size<=s.heap.objs.size:=Nat.le_trans I.ok.above (Nat.le_of_lt I.lt)
def Inv.yz(I:Inv X pins σ H s){a:Addr}(h:s.heap.objs.size<=a):a ∉ X.fs:=fun hb=>by
 obtain⟨_,o,ho,_⟩:=I.ok.wb.mem hb
 exact absurd (Nat.lt_of_lt_of_le (Heap.lt_size ho) (Nat.le_trans I.sz h)) (Nat.lt_irrefl _)
def Inv.yd(I:Inv X pins σ H s):∀x c,X.env.cells.lookup x=some c->c≠X.env.locals:=fun x c e z=>by
 obtain⟨v,o,ho,hd⟩:=I.cell x c e
 obtain⟨m,⟨o',es,ep,ho',hd',_⟩,_⟩:=I.loc
 rw[z,ho']at ho;cases ho;rw[hd']at hd;cases hd
theorem Inv.wb(I:Inv X pins σ H s):s.heap.FunFrames X.base X.outer:=by
 have all:∀(l:List Env),(∀b∈frs l,b∈X.fs)->X.s₀.heap.FunFrames X.base l->s.heap.FunFrames X.base l:=by
  intro l
  induction l with
  |nil=>intro _ _;trivial
  |cons env r ih=>
   intro hs hl
   obtain⟨hk,⟨L,o,hf,hn,ho,hd⟩,hr⟩:=hl
   have hL:L∈X.fs:=hs L (by unfold frs;rw[List.filterMap_cons,hf];exact List.mem_cons_self)
   obtain⟨sl,e⟩:=I.base.slot L o ho (I.ok.yc L hL) hL fun z=>I.ok.xD L z hL
   exact⟨hk,⟨L,_,hf,hn,e,hd⟩,ih (fun b hb=>hs b (by unfold frs;rw[List.filterMap_cons,hf];exact List.mem_cons_of_mem _ hb)) hr⟩
 exact all X.outer (fun _ hb=>hb) I.ok.wb
theorem Inv.stack(I:Inv X pins σ H s):s.heap.FunFrames X.base X.stack:=by
 rcases I.ok.stk with e|⟨e,hf⟩
 ·rw[e];exact I.wb
 ·rw[e]
  obtain⟨m,hn,_⟩:=I.loc
  refine .cons (by rw[I.ok.kind];decide) hf hn ?_ I.wb
  exact Heap.get?_none_of_le (Nat.le_trans I.ok.xO I.ok.above)
def Inv.v5(I:Inv X pins σ H s):∀b∈frs X.stack,b∈X.env.locals::X.fs:=fun b hb=>by
 rcases I.ok.stk with e|⟨e,hf⟩
 ·rw[e]at hb;exact List.mem_cons_of_mem _ hb
 ·rw[e]at hb
  unfold frs at hb
  rw[List.filterMap_cons,hf]at hb
  exact hb
def Inv.xf(I:Inv X pins σ H s):∀b∈frs X.stack,H b=none:=fun b hb=>by
 rcases List.mem_cons.mp (I.v5 b hb)with e|hb
 ·rw[e];exact I.free
 ·obtain⟨_,o,ho,_⟩:=I.ok.wb.mem hb
  exact I.base.free b o ho (I.ok.yc b hb) fun z=>I.ok.xD b z hb
def Inv.step{g':Array GenState}{t':Nat}{d':Drawn}{ch:List Addr}(I:Inv X pins σ H s)
  (hch:∀b∈ch,(b∈X.ex\/X.s₀.heap.objs.size<=b)/\b≠X.env.locals/\(∀x c,X.env.cells.lookup x=some c->c≠b)/\∀p∈X.pn++pins,p.1≠b)
  (keep:∀b o,b≠X.env.locals->b ∉ X.fs->b ∉ ch->s.heap.get? b=some o->H b=none->h'.get? b=some o)
  (slot:∀b o,b≠X.env.locals->b∈X.fs->b ∉ ch->s.heap.get? b=some o->H b=none->∃sl,h'.get? b=some { o with slots:=sl }) (free:∀b o,b ∉ ch->s.heap.get? b=some o->H b=none->H' b=none)
  (there:∀b o,b ∉ ch->s.heap.get? b=some o->∃o',h'.get? b=some o')
  (tups:∀b xs,H b=some (.tup xs)->H' b=some (.tup xs)) (wC:∀b o u,H b=some (.frz o u)->H' b=some (.frz o u)) (wQ:∀b ps,H b=some (.x_ ps)->∃more,H' b=some (.x_ (ps++more)))
  (ns:∀m,s.heap.Ns X.env.locals m->h'.Ns X.env.locals m) (hok:vW X.prog X.w H' h') (hg:AllBare g') :
  Inv X pins σ H' { s with heap:=h',gens:=g',drawn:=d',toks:=t' }:=by
 have zR:∀b o,X.s₀.heap.get? b=some o->b≠X.env.locals:=fun b o e=>Nat.ne_of_lt (Nat.lt_of_lt_of_le (Heap.lt_size e) I.ok.above)
 have yR:∀b o,X.s₀.heap.get? b=some o->b ∉ X.ex->b ∉ ch:=fun b o e hx hb=>by
  rcases(hch b hb).1 with z|z
  ·exact hx z
  ·exact absurd (Nat.lt_of_lt_of_le (Heap.lt_size e) z) (Nat.lt_irrefl _)
 have cellK:∀x c,X.env.cells.lookup x=some c->∀v,s.heap.IsCell c v->h'.IsCell c v:=fun x c e v ⟨o,ho,hd⟩=>by
  have yA:c ∉ ch:=fun z=>(hch c z).2.2.1 x c e rfl
  by_cases hc:c∈X.fs
  ·obtain⟨sl,q⟩:=slot c o (I.yd x c e) hc yA ho (I.vI x c e)
   exact⟨_,q,hd⟩
  ·exact⟨o,keep c o (I.yd x c e) hc yA ho (I.vI x c e),hd⟩
 refine⟨I.ok,I.os,hg,⟨fun b o e n hb hx=>?_,fun b o e n hb hx=>?_,fun b o e n hx=>?_,fun b o e hx=>?_,fun b xs e=>tups b xs (I.base.tups b xs e),fun b o xs e=>wC b o xs (I.base.wC b o xs e),fun b ps e=>?_⟩,?_,fun x c e=>?_,?_,fun x c e=>?_,fun p hp=>?_,hok,I.len⟩
 ·exact keep b o (zR b o e) hb (yR b o e hx) (I.base.keep b o e n hb hx) (I.base.free b o e n hx)
 ·obtain⟨sl,e1⟩:=I.base.slot b o e n hb hx
  obtain⟨sl',e2⟩:=slot b _ (zR b o e) hb (yR b o e hx) e1 (I.base.free b o e n hx)
  exact⟨sl',e2⟩
 ·obtain⟨o',e1⟩:=I.base.there b o e hx
  exact free b o' (yR b o e hx) e1 (I.base.free b o e n hx)
 ·obtain⟨o',e1⟩:=I.base.there b o e hx
  exact there b o' (yR b o e hx) e1
 ·obtain⟨m1,e1⟩:=I.base.wQ b ps e
  obtain⟨m2,e2⟩:=wQ b _ e1
  exact⟨m1++m2,by rw[e2,Array.append_assoc]⟩
 ·obtain⟨m,hn,hl⟩:=I.loc
  refine⟨m,ns m hn,fun i x v e1 e2 e3=>?_⟩
  obtain⟨u,r,l⟩:=hl i x v e1 e2 e3
  refine⟨u,r,?_⟩
  rcases l with l|⟨k,c,e,z⟩
  ·exact .inl l
  ·exact .inr ⟨k,c,e,cellK x c e _ z⟩
 ·obtain⟨v,z⟩:=I.cell x c e
  exact⟨v,cellK x c e v z⟩
 ·obtain⟨m,⟨o,_,_,ho,_⟩,_⟩:=I.loc
  exact free _ o (fun z=>(hch _ z).2.1 rfl) ho I.free
 ·obtain⟨v,o,ho,hd⟩:=I.cell x c e
  exact free c o (fun z=>(hch c z).2.2.1 x c e rfl) ho (I.vI x c e)
 ·obtain⟨e,n,ne,nf,d⟩:=I.pin p hp
  have yA:p.1 ∉ ch:=fun z=>(hch p.1 z).2.2.2 p hp rfl
  exact⟨keep p.1 p.2 ne nf yA e n,free p.1 p.2 yA e n,ne,nf,d⟩
def Inv.un{t':Nat}(I:Inv X pins σ H s)(u:Un X.fs [] H H' s.heap h')(hok:vW X.prog X.w H' h'):Inv X pins σ H' { s with heap:=h',toks:=t' }:=by
 obtain⟨m,⟨o,es,ep,ho,r⟩,_⟩:=id I.loc
 obtain⟨sl,hL⟩:=u.any ho I.free (by simp)
 exact I.step (g':=s.gens) (d':=s.drawn) (ch:=[]) (fun _ z=>nomatch z) (fun b o _ hb _ e n=>u.keep b o e n hb (by simp)) (fun b o _ hb _ e n=>u.slot b o e n hb (by simp)) (fun b o _ e n=>u.free b o e n (by simp)) (fun b o _ e=>u.there b o e (by simp)) u.tups u.wC u.wQ (fun m' hm=>by
  obtain⟨o',es',zh,ho',r'⟩:=hm
  rw[ho]at ho';cases ho'
  exact⟨_,es',zh,hL,r'⟩) hok I.bare
def Inv.call{g':Array GenState}{t':Nat}{d':Drawn}{ch:List Addr}(I:Inv X pins σ H s)(u:Un (frs X.stack) ch H H' s.heap h')(hok:vW X.prog X.w H' h')(hg:AllBare g')
  (hch:∀b∈ch,(b∈X.ex\/X.s₀.heap.objs.size<=b)/\b≠X.env.locals/\(∀x c,X.env.cells.lookup x=some c->c≠b)/\∀p∈X.pn++pins,p.1≠b) :
  Inv X pins σ H' { s with heap:=h',gens:=g',drawn:=d',toks:=t' }:=by
 obtain⟨m,⟨o,es,ep,ho,r⟩,_⟩:=id I.loc
 obtain⟨sl,hL⟩:=u.any ho I.free fun z=>(hch _ z).2.1 rfl
 exact I.step (ch:=ch) hch (fun b o hL hb hc e n=>u.keep b o e n (fun z=>(List.mem_cons.mp (I.v5 b z)).elim hL hb) hc) (fun b o _ _ hc e n=>u.any e n hc) (fun b o hc e n=>u.free b o e n hc) (fun b o hc e=>u.there b o e hc) u.tups u.wC u.wQ (fun m' hm=>by
  obtain⟨o',es',zh,ho',r'⟩:=hm
  rw[ho]at ho';cases ho'
  exact⟨_,es',zh,hL,r'⟩) hok hg
def Inv.turned{t':Nat}{it:Addr}(I:Inv X pins σ H s)(k:∀b o,b≠it->s.heap.get? b=some o->h'.get? b=some o)(hn:H it=none)(hL:it≠X.env.locals)
  (h1:it∈X.ex\/X.s₀.heap.objs.size<=it) (h2:∀x c,X.env.cells.lookup x=some c->c≠it) (h3:∀p∈X.pn++pins,p.1≠it):Inv X pins σ H { s with heap:=h',toks:=t' }:=by
 have zS:∀b u,H b=some u->b≠it:=fun b u e z=>by rw[z,hn]at e;cases e
 refine I.step (g':=s.gens) (d':=s.drawn) (ch:=[it]) (fun b hb=>?_) (fun b o _ _ hc e _=>k b o (fun z=>hc (by simp[z])) e) (fun b o _ _ hc e _=>⟨o.slots,k b o (fun z=>hc (by simp[z])) e⟩) (fun _ _ _ _ n=>n)
  (fun b o hc e=>⟨o,k b o (fun z=>hc (by simp[z])) e⟩) (fun _ _ e=>e) (fun _ _ _ e=>e) (fun b ps e=>⟨#[],by rw[e];simp⟩) (fun m hm=>?_) (fun b u e=>?_) I.bare
 ·have e:b=it:=by simpa using hb
  subst e
  exact⟨h1,hL,h2,h3⟩
 ·obtain⟨o,es,ep,ho,r⟩:=hm
  exact⟨o,es,ep,k _ o (Ne.symm hL) ho,r⟩
 ·refine(I.hok b u e).stay (fun c v hc q=>k c v ?_ q) (fun _ q=>q) fun _ _ q=>q
  rcases hc with z|z
  ·rw[z];exact zS b u e
  ·exact zS c _ z
def Inv.tok(I:Inv X pins σ H s)(t:Nat):Inv X pins σ H { s with toks:=t }:=I.un (h':=s.heap) (t':=t) Un.refl I.hok
theorem Inv.kept{t':Nat}(I:Inv X pins σ H s)(k:∀b u,s.heap.get? b=some u->h'.get? b=some u):Inv X pins σ H { s with heap:=h',toks:=t' }:=I.un (Un.kept k) (I.hok.kept k)
theorem Inv.laid{a:Addr}{o:HO}{t':Nat}(I:Inv X pins σ H s)(k:∀b u,s.heap.get? b=some u->h'.get? b=some u)(hp:s.heap.objs.size<=a)(new:ObjOk X.prog X.w (upd H a o) h' a o) :
  Inv X pins σ (upd H a o) { s with heap:=h',toks:=t' }:=I.un (Un.laid k hp (I.hok.fresh hp)) (I.hok.laid k hp new)
theorem Inv.write{x e:Addr}{o:HO}{t':Nat}(I:Inv X pins σ H s)(mu:q_ (H x))(he:e=x\/H e=some (.own x))(k:∀b u,b≠e->s.heap.get? b=some u->h'.get? b=some u)(yq:∃u,h'.get? e=some u)
  (new:ObjOk X.prog X.w (upd H x o) h' x o):Inv X pins σ (upd H x o) { s with heap:=h',toks:=t' }:=I.un (Un.write mu he k yq) (I.hok.write mu he k yq new)
def Inv.weak{σ':List (Option V)}(I:Inv X pins σ H s)(hl:σ'.length=σ.length)(w:∀(i:Nat) v,σ'[i]?=some (some v)->σ[i]?=some (some v)):Inv X pins σ' H s:=
 ⟨I.ok,I.os,I.bare,I.base,let ⟨m,hn,hl'⟩:=I.loc;⟨m,hn,fun i x v e1 e2 e3=>hl' i x v e1 (w i v e2) e3⟩,I.cell,I.free,I.vI,I.pin,I.hok,hl.trans I.len⟩
def Inv.wg{xg:Va}(I:Inv X pins σ H s)(h:∀p∈xg,s.heap.get? p.1=some p.2/\H p.1=none/\p.1≠X.env.locals/\p.1 ∉ X.fs/\∀v,p.2.data ≠ .cell v):Inv X xg σ H s:=
 ⟨I.ok,I.os,I.bare,I.base,I.loc,I.cell,I.free,I.vI,fun p hp=>(List.mem_append.mp hp).elim (fun z=>I.pin p (List.mem_append_left _ z)) (h p),I.hok,I.len⟩
def gN{N:Vs}(hN:N.Nodup){i j:Nat}{x:Str}(a:N[i]?=some x)(b:N[j]?=some x):i=j:=by
 obtain⟨h1,e1⟩:=List.getElem?_eq_some_iff.mp a
 obtain⟨h2,e2⟩:=List.getElem?_eq_some_iff.mp b
 exact(List.getElem_inj hN).mp (e1.trans e2.symm)
def fm {M : Model} {A : Around} {E : Value -> Shared -> Prop} {i : Nat} {x : Str} {v : V} {u : Value} {Q : Unit -> Shared -> Prop} (I : Inv X pins σ H s) (hN : X.N.Nodup) (hi : X.N[i]? = some x) (hx : oA X.env.scope x) (r : RelV v u)
  (h : ∀ s', Inv X pins (σ.set i (some v)) H s' -> (∃ a, Heap.SameBut a s.heap s'.heap /\ (a = X.env.locals \/ X.env.cells.lookup x = some a)) -> Q () s') (hf : X.fn x = true \/ X.env.scope.names.lookup x = some .local := by first | exact .inl rfl | exact .inr rfl | assumption) : wpAny M A (storeName X.env x u) Q E s := by
 obtain ⟨m, hn, hl⟩ := id I.loc
 have hcls : (X.env.scope.kind == .class || (X.env.scope.kind == .module && X.env.locals != X.env.globals)) = false := by rw [I.ok.kind]; rfl
 have zT : i < σ.length := by rw [I.len]; exact (List.getElem?_eq_some_iff.mp hi).1
 have yd := I.yd
 have tracked : ∀ {a : Addr} {h' : Heap}, (∃ o, s.heap.get? a = some o /\ H a = none) -> Heap.SameBut a s.heap h' -> vW X.prog X.w H h' := fun {a h'} ha hs b ob e => by
  obtain ⟨_, _, hfree⟩ := ha
  refine (I.hok b ob e).stay (fun c w' hc q => (hs.2 c ?_).trans q) (fun _ q => q) fun _ _ q => q
  rintro rfl
  rcases hc with rfl | hc
  ·rw [hfree] at e; cases e
  ·rw [hfree] at hc; cases hc
 rcases hx with hk | hk
 ·refine wpAny_storeName_local hk hn (fun h' hn' hs => ?_) hcls
  obtain ⟨oL, _, _, yB, _⟩ := id hn
  refine h _ ⟨I.ok, I.os, I.bare, ⟨fun b o e n hb hx => ?_, fun b o e n hb hx => ?_, I.base.free, fun b o e hx => ?_, I.base.tups, I.base.wC, I.base.wQ⟩, ⟨_, hn', fun j y v' e1 e2 e3 => ?_⟩, fun y c e => ?_, I.free, I.vI, fun p hp => ?_, tracked ⟨oL, yB, I.free⟩ hs, by simpa using I.len⟩ ⟨_, hs, .inl rfl⟩
  ·exact (hs.2 b (Nat.ne_of_lt (Nat.lt_of_lt_of_le (Heap.lt_size e) I.ok.above))).trans (I.base.keep b o e n hb hx)
  ·obtain ⟨sl, e1⟩ := I.base.slot b o e n hb hx
   exact ⟨sl, (hs.2 b (Nat.ne_of_lt (Nat.lt_of_lt_of_le (Heap.lt_size e) I.ok.above))).trans e1⟩
  ·obtain ⟨o', e1⟩ := I.base.there b o e hx
   exact ⟨o', (hs.2 b (Nat.ne_of_lt (Nat.lt_of_lt_of_le (Heap.lt_size e) I.ok.above))).trans e1⟩
  ·by_cases hj : j = i
   ·subst hj
    rw [hi] at e1; cases e1
    rw [List.getElem?_set_self zT] at e2
    cases e2
    exact ⟨u, r, .inl ⟨hk, by simp⟩⟩
   ·rw [List.getElem?_set_ne (Ne.symm hj)] at e2
    obtain ⟨u', r', q⟩ := hl j y v' e1 e2 e3
    refine ⟨u', r', ?_⟩
    rcases q with ⟨k, e⟩ | ⟨k, c, e, z⟩
    ·refine .inl ⟨k, ?_⟩
     have : y ≠ x := fun e => hj (gN hN e1 (e ▸ hi))
     simp [this, e]
    ·exact .inr ⟨k, c, e, z.sameBut hs (yd y c e)⟩
  ·obtain ⟨w', z⟩ := I.cell y c e
   exact ⟨w', z.sameBut hs (yd y c e)⟩
  ·obtain ⟨e, n, ne, nf, d⟩ := I.pin p hp
   exact ⟨(hs.2 p.1 ne).trans e, n, ne, nf, d⟩
 ·have hfn : X.fn x = true := by
   rcases hf with z | z
   ·exact z
   ·rw [z] at hk; cases hk
  obtain ⟨c, hc⟩ := I.ok.has x (.inl hk)
  obtain ⟨w', z⟩ := I.cell x c hc
  refine wpAny_storeName_cell I.ok.kind hk hc z (fun h' hc' hs => ?_)
  obtain ⟨oc, hoc, zi⟩ := id z
  refine h { s with heap := h' } ⟨I.ok, I.os, I.bare, ⟨fun b o e n hb hx => ?_, fun b o e n hb hx => ?_, I.base.free, fun b o e hx => ?_, I.base.tups, I.base.wC, I.base.wQ⟩, ⟨m, hn.sameBut hs (Ne.symm (yd x c hc)), fun j y v' e1 e2 e3 => ?_⟩, fun y c' e => ?_, I.free, I.vI, fun p hp => ?_, tracked ⟨oc, hoc, I.vI x c hc⟩ hs, by simpa using I.len⟩ ⟨c, hs, .inr hc⟩
  ·exact (hs.2 b (Nat.ne_of_lt (Nat.lt_of_lt_of_le (Heap.lt_size e) (I.ok.yr x c hfn hc)))).trans (I.base.keep b o e n hb hx)
  ·obtain ⟨sl, e1⟩ := I.base.slot b o e n hb hx
   exact ⟨sl, (hs.2 b (Nat.ne_of_lt (Nat.lt_of_lt_of_le (Heap.lt_size e) (I.ok.yr x c hfn hc)))).trans e1⟩
  ·obtain ⟨o', e1⟩ := I.base.there b o e hx
   exact ⟨o', (hs.2 b (Nat.ne_of_lt (Nat.lt_of_lt_of_le (Heap.lt_size e) (I.ok.yr x c hfn hc)))).trans e1⟩
  ·by_cases hj : j = i
   ·subst hj
    rw [hi] at e1; cases e1
    rw [List.getElem?_set_self zT] at e2
    cases e2
    exact ⟨u, r, .inr ⟨.inl hk, c, hc, hc'⟩⟩
   ·rw [List.getElem?_set_ne (Ne.symm hj)] at e2
    obtain ⟨u', r', q⟩ := hl j y v' e1 e2 e3
    refine ⟨u', r', ?_⟩
    rcases q with q | ⟨k, c', e, z'⟩
    ·exact .inl q
    ·refine .inr ⟨k, c', e, z'.sameBut hs ?_⟩
     rintro rfl
     exact hj (gN hN e1 (I.ok.inj _ _ _ e hc ▸ hi))
  ·by_cases hcc : c' = c
   ·subst hcc; exact ⟨_, hc'⟩
   ·obtain ⟨w2, z2⟩ := I.cell y c' e
    exact ⟨w2, z2.sameBut hs hcc⟩
  ·obtain ⟨e, n, ne, nf, d⟩ := I.pin p hp
   refine ⟨(hs.2 p.1 ?_).trans e, n, ne, nf, d⟩
   intro q
   rw [q, hoc] at e
   have q' : oc = p.2 := Option.some.inj e
   exact d w' (by rw [<- q']; exact zi)
def cJ{M:Model}{A:Around}{E:Vq}{i:Nat}{x:Str}{v:V}{u:Value}{Q:Unit->Shared->Prop}(I:Inv X pins σ H s)(hN:X.N.Nodup)(hi:X.N[i]?=some x)(hx:oA X.env.scope x)(r:RelV v u)
  (h:∀s',Inv X pins (σ.set i (some v)) H s'->Q () s') (hf:X.fn x=true\/X.env.scope.names.lookup x=some .local:=by first|exact .inl rfl|exact .inr rfl|assumption):wpAny M A (storeName X.env x u) Q E s:=
 fm I hN hi hx r (fun s' I' _=>h s' I') hf
def Inv.yC{s':Shared}{ch:List Addr}(I:Inv X pins σ H s)(ho:s'.os=s.os)(u:Un (frs X.stack) ch H H' s.heap s'.heap)(hok:vW X.prog X.w H' s'.heap)(hg:AllBare s'.gens)
  (hch:∀b∈ch,(b∈X.ex\/X.s₀.heap.objs.size<=b)/\b≠X.env.locals/\(∀x c,X.env.cells.lookup x=some c->c≠b)/\∀p∈X.pn++pins,p.1≠b):Inv X pins σ H' s':=by
 obtain⟨h',g',d',t',o'⟩:=s'
 have e:o'=s.os:=ho
 subst e
 exact I.call (g':=g') (t':=t') (d':=d') u hok hg hch
end
abbrev XK:=Value->Option Addr->Hp->Prop
abbrev St:=List (Option V)
abbrev VK:=V->Hp->Prop
abbrev TE:=St->Hp->VK->Prop
abbrev TT:=St->Hp->(Bool->Hp->Prop)->Prop
abbrev TA:=St->Hp->(List V->Hp->Prop)->Prop
structure eY where
 nx:St->Hp->Prop
 rt:VK
 bk:St->Hp->Prop:=fun _ _=>False
 ct:St->Hp->Prop:=fun _ _=>False
abbrev TS:=eY->St->Hp->Prop
def EP(X:Cx)(pins:Va)(σ:St)(Q:VK)(u:Value)(s':Shared):Prop:=∃v H',Inv X pins σ H' s'/\RelV v u/\Q v H'
def TP(X:Cx)(pins:Va)(σ:St)(Q:Bool->Hp->Prop)(b:Bool)(s':Shared):Prop:=∃H',Inv X pins σ H' s'/\Q b H'
def AP(X:Cx)(pins:Va)(σ:St)(Q:List V->Hp->Prop)(us:Vv)(s':Shared):Prop:=∃vs H',Inv X pins σ H' s'/\Vals vs us/\Q vs H'
def SP(X:Cx)(pins:Va)(D:eY)(f:Flow)(s':Shared):Prop:=
 match f with
 | .next=>∃σ' H',Inv X pins σ' H' s'/\D.nx σ' H'
 | .brk=>∃σ' H',Inv X pins σ' H' s'/\D.bk σ' H'
 | .cont=>∃σ' H',Inv X pins σ' H' s'/\D.ct σ' H'
 | .ret u=>∃v σ' H',Inv X pins σ' H' s'/\RelV v u/\D.rt v H'
def PE(X:Cx)(e:Expr)(t:TE):Prop:=
 ∀(pins:Va) (s:Shared) (σ:St) (H:Hp) (Q:VK),Inv X pins σ H s->t σ H Q->wpAny (model X.prog X.w) X.A (eval e X.env) (EP X pins σ Q) X.xe s
def PT(X:Cx)(e:Expr)(t:TT):Prop:=
 ∀(pins:Va) (s:Shared) (σ:St) (H:Hp) (Q:Bool->Hp->Prop),Inv X pins σ H s->t σ H Q->wpAny (model X.prog X.w) X.A (isTrue e X.env (eval e X.env)) (TP X pins σ Q) X.xe s
def PW(X:Cx)(e:Expr)(t:TT):Prop:=
 ∀(whole:Sem Value) (pins:Va) (s:Shared) (σ:St) (H:Hp) (Q:Bool->Hp->Prop),Inv X pins σ H s->t σ H Q->wpAny (model X.prog X.w) X.A (isTrue e X.env whole) (TP X pins σ Q) X.xe s
def PW.pt{X:Cx}{e:Expr}{t:TT}(h:PW X e t):PT X e t:=h _
def PA(X:Cx)(es:List Expr)(t:TA):Prop:=
 ∀(pos:Pos) (pins:Va) (s:Shared) (σ:St) (H:Hp) (Q:List V->Hp->Prop),Inv X pins σ H s->t σ H Q->wpAny (model X.prog X.w) X.A (spliced (backTo pos (starEach es X.env))) (AP X pins σ Q) X.xe s
def PS(X:Cx)(st:Stmt)(t:TS):Prop:=
 ∀(pins:Va) (s:Shared) (σ:St) (H:Hp) (D:eY),Inv X pins σ H s->t D σ H->wpAny (model X.prog X.w) X.A (exec st X.env) (SP X pins D) X.xe s
def w4(X:Cx)(st:List Stmt)(t:TS):Prop:=
 ∀(pins:Va) (s:Shared) (σ:St) (H:Hp) (D:eY),Inv X pins σ H s->t D σ H->wpAny (model X.prog X.w) X.A (execs st X.env) (SP X pins D) X.xe s
def va{α:Type}{t:Sem α}{Q Q':α->Shared->Prop}{M:Model}{A:Around}{E:Vq}{s:Shared}(h:wpAny M A t Q E s)(hQ:∀a s,Q a s->Q' a s):wpAny M A t Q' E s:=wpAny_mono h hQ fun _ _ x=>x
section
variable {X:Cx}
def tD(i:Nat):TE:=fun σ H Q=>∃v,σ[i]?=some (some v)/\Q v H
def tC(v:V):TE:=fun _ H Q=>Q v H
def oW{i:Nat}{x:Str}{pos:Pos}(hN:X.N[i]?=some x)(hv:sU X.env.scope x)(hd:(x == ("__debug__":Str))=false:=by decide)(hcd:(x == ("__classdict__":Str))=false:=by decide):PE X (.Name x pos) (tD i):=by
 intro pins s σ H Q I h
 obtain⟨v,e,h⟩:=h
 obtain⟨m,hn,hl⟩:=I.loc
 obtain⟨u,r,l⟩:=hl i x v hN e hv
 have fin:EP X pins σ Q u s:=⟨v,H,I,r,h⟩
 rcases l with⟨hk,hm⟩|⟨hk,c,hc,hcell⟩
 ·exact wpAny_Name (wpAny_loadName_local I.ok.kind hk hn hm fin) hd
 ·rcases hk with hk|hk
  ·exact wpAny_Name (wpAny_loadName_cell I.ok.kind hk hc hcell fin) hd
  ·exact wpAny_Name (wpAny_loadName_free I.ok.kind hk hc hcell fin hcd) hd
def oX{i j pos}:PE X (.Constant (.int i) j pos) (tC (.int i)):=fun _ _ _ H _ I h=>wpAny_Constant_int ⟨.int i,H,I.tok _,⟨_,rfl⟩,h⟩
def ra{b j pos}:PE X (.Constant (.bool b) j pos) (tC (.bl b)):=fun _ _ _ H _ I h=>Constant_bool ⟨.bl b,H,I,rfl,h⟩
def oY{x j pos}:PE X (.Constant (.str x) j pos) (tC (.str x)):=fun _ _ _ H _ I h=>Calls.Constant_str ⟨.str x,H,I.tok _,⟨_,rfl⟩,h⟩
def Gl(X:Cx)(x:Str):Prop:=X.env.kindOf x=some .globalImplicit
def fV{E:Vq}{pins:Va}{s:Shared}{σ:St}{H:Hp}{x:Str}{u:Value}{pos:Pos}{Q:Vq}(I:Inv X pins σ H s)(hg:Gl X x)(hm:X.mg x=some u)(h:Q u s)
  (hd:(x == ("__debug__":Str))=false:=by decide):wpAny (model X.prog X.w) X.A (eval (.Name x pos) X.env) Q E s:=
 Calls.Name_function_global I.ok.kind hg (Calls.loadGlobal_global (by rw[I.ok.glob];exact I.mod.glob.keeps I.bk) hm h) hd
def bS{E:Vq}{pins:Va}{s:Shared}{σ:St}{H:Hp}{x:Str}{u:Value}{pos:Pos}{Q:Vq}(I:Inv X pins σ H s)(hg:Gl X x)(hm:X.mg x=none)(hv:bootBuiltins x=some u)(h:Q u s)
  (hn:x ≠ "__name__":=by decide) (hd:(x == ("__debug__":Str))=false:=by decide):wpAny (model X.prog X.w) X.A (eval (.Name x pos) X.env) Q E s:=by
 obtain⟨mb,h1,h2⟩:=I.mod.blt
 exact Calls.Name_function_global I.ok.kind hg (Calls.loadGlobal_builtin (by rw[I.ok.glob];exact I.mod.glob.keeps I.bk) hm (by rw[I.ok.blt];exact h1.keeps I.bk) ((h2 x hn).trans hv) h) hd
def mD{x:Str}{v:V}{u:Value}{pos:Pos}(hg:Gl X x)(hm:X.mg x=none)(hv:bootBuiltins x=some u)(r:RelV v u)(hn:x ≠ "__name__":=by decide)(hd:(x == ("__debug__":Str))=false:=by decide):PE X (.Name x pos) (tC v):=
 fun _ _ _ H _ I h=>bS I hg hm hv ⟨v,H,I,r,h⟩ hn hd
variable {a b:Expr} {ta tb:TE} {pos:Pos}
def tB(t:TE):TT:=fun σ H Q=>t σ H fun x H1=>∃c,x = .bl c/\Q c H1
def oZ{e:Expr}{t:TE}(h:PE X e t)(he:∀whole,isTrue e X.env whole=(do let v <-whole;standAt e.pos;holding [v] (truthy v)):=by intro _;rfl):PT X e (tB t):=by
 intro pins s σ H Q I hw
 refine isTrue_plain (va (h pins s σ H _ I hw) fun v s1 ⟨x,H1,I1,r1,q1⟩=>?_) (he _)
 obtain⟨d,rfl,q⟩:=q1
 cases r1
 exact wpAny_truthy_bool ⟨H1,I1,q⟩
variable {tA yS:TT} {rest:List Expr}
def tE(t u:TT):TT:=fun σ H Q=>t σ H fun c H1=>if c=true then u σ H1 Q else Q false H1
def uG(t u:TT):TT:=fun σ H Q=>t σ H fun c H1=>if c=true then Q true H1 else u σ H1 Q
def tF(t:TT):TT:=fun σ H Q=>t σ H fun c H1=>Q (!c) H1
def mE(ha:PT X a tA):PW X (.BoolOp .And [a] pos) tA:=by
 intro wh pins s σ H Q I h
 refine isTrue_and (va (ha pins s σ H Q I h) fun c s1 e=>?_)
 cases c with
 |true=>exact isTrue_and_nil e
 |false=>exact e
def o0(ha:PT X a tA):PW X (.BoolOp .Or [a] pos) tA:=by
 intro wh pins s σ H Q I h
 refine isTrue_or (va (ha pins s σ H Q I h) fun c s1 e=>?_)
 cases c with
 |false=>exact isTrue_or_nil e
 |true=>exact e
def o2(ha:PT X a tA)(hb:PW X (.BoolOp .And (b::rest) pos) yS):PW X (.BoolOp .And (a::b::rest) pos) (tE tA yS):=by
 intro wh pins s σ H Q I h
 refine isTrue_and (va (ha pins s σ H _ I h) fun c s1 ⟨H1,I1,q1⟩=>?_)
 cases c with
 |true=>exact hb wh pins s1 σ H1 Q I1 q1
 |false=>exact⟨H1,I1,q1⟩
def rb(ha:PT X a tA)(hb:PW X (.BoolOp .Or (b::rest) pos) yS):PW X (.BoolOp .Or (a::b::rest) pos) (uG tA yS):=by
 intro wh pins s σ H Q I h
 refine isTrue_or (va (ha pins s σ H _ I h) fun c s1 ⟨H1,I1,q1⟩=>?_)
 cases c with
 |true=>exact⟨H1,I1,q1⟩
 |false=>exact hb wh pins s1 σ H1 Q I1 q1
def o3(ha:PT X a tA):PT X (.UnaryOp .Not a pos) (tF tA):=by
 intro pins s σ H Q I h
 exact isTrue_not (ha pins s σ H (fun c H1=>Q (!c) H1) I h)
end
def SqL(K:Vo)(H:Hp)(a:Addr)(xs:List V):Prop:=
 Rd H a (.lst xs) \/
  ∃(o:Obj) (its:Vw) (n:Nat),K.lookup a=some o/\o.cls = .type "list"/\o.dict=none/\o.data = .seq its n/\its.size<=sizeLine/\Vals xs its.toList
def v4(K:Vo)(H:Hp)(a:Addr)(xs:List V):Prop:=
 Rd H a (.tup xs) \/
  ∃(o:Obj) (its:Vw) (n:Nat),K.lookup a=some o/\o.cls = .type "tuple"/\o.dict=none/\o.data = .seq its n/\its.size<=sizeLine/\Vals xs its.toList
noncomputable def tG:Value->Option V
 | .none=>some .non
 | .bool b=>some (.bl b)
 | .int i _=>some (.int i)
 | .str x _=>some (.str x)
 | .bytes b _=>some (.xC b)
 | .float b _=>some (.zb b)
 | .ref a=>some (.ref a)
 | .type n=>some (.ty n)
 |_=>none
def RelV.abs{x:V}{u:Value}(r:RelV x u):tG u=some x:=by
 cases x with
 |non=>cases r;rfl
 |bl _=>cases r;rfl
 |int _=>obtain⟨t,rfl⟩:=r;rfl
 |str _=>obtain⟨t,rfl⟩:=r;rfl
 |xC _=>obtain⟨t,rfl⟩:=r;rfl
 |zb _=>obtain⟨t,rfl⟩:=r;rfl
 |ref _=>cases r;rfl
 |ty _=>cases r;rfl
theorem RelV.inj{x y:V}{u:Value}(r:RelV x u)(q:RelV y u):x=y:=Option.some.inj (r.abs.symm.trans q.abs)
theorem Vals.inj:∀{xs ys:List V} {us:Vv},Vals xs us->Vals ys us->xs=ys
 |_,_,_,.nil,.nil=>rfl
 |_,_,_,.cons r t,.cons r' t'=>by rw[r.inj r',Vals.inj t t']
section
variable {X:Cx} {pins:Va} {σ:St} {H:Hp} {s:Shared} {a:Addr} {xs ys:List V}
def SqL.of{K:Vo}(h:H a=some (.lst xs)):SqL K H a xs:=.inl (.inl h)
def v4.of{K:Vo}(h:H a=some (.tup xs)):v4 K H a xs:=.inl (.inl h)
def Inv.list(I:Inv X pins σ H s)(h:SqL X.K H a xs):∃its:List Value,Vals xs its/\PlainL s.heap a its.toArray/\xs.length<=sizeLine:=by
 rcases h with h|⟨o,its,n,hk,hc,hd,hs,hz,r⟩
 ·obtain⟨z,its,n,r,e⟩:=h.ok I.hok
  exact⟨its,r,⟨_,n,e,rfl,rfl,rfl⟩,z⟩
 ·refine⟨its.toList,r,⟨o,n,I.xM a o hk,hc,hd,by simpa using hs⟩,?_⟩
  have e:=r.length
  simp only[Array.length_toList]at e
  omega
def Inv.tuple(I:Inv X pins σ H s)(h:v4 X.K H a xs):∃its:List Value,Vals xs its/\IsTup s.heap a its.toArray/\xs.length<=sizeLine:=by
 rcases h with h|⟨o,its,n,hk,hc,_,hs,hz,r⟩
 ·obtain⟨z,its,r,p⟩:=h.ok I.hok
  exact⟨its,r,p.tup,z⟩
 ·refine⟨its.toList,r,⟨o,I.xM a o hk,hc,n,by simpa using hs⟩,?_⟩
  have e:=r.length
  simp only[Array.length_toList]at e
  omega
def Inv.xE(I:Inv X pins σ H s)(h:SqL X.K H a xs)(h':SqL X.K H a ys):xs=ys:=by
 obtain⟨its,r,⟨o,n,e,_,_,d⟩,_⟩:=I.list h
 obtain⟨its',r',⟨o',n',e',_,_,d'⟩,_⟩:=I.list h'
 rw[e]at e';cases e'
 rw[d]at d'
 injection d' with d1 _
 have:its=its':=by simpa using congrArg Array.toList d1
 subst this
 exact r.inj r'
def Inv.xt(I:Inv X pins σ H s)(h:v4 X.K H a xs)(h':v4 X.K H a ys):xs=ys:=by
 obtain⟨its,r,⟨o,e,_,n,d⟩,_⟩:=I.tuple h
 obtain⟨its',r',⟨o',e',_,n',d'⟩,_⟩:=I.tuple h'
 rw[e]at e';cases e'
 rw[d]at d'
 injection d' with d1 _
 have:its=its':=by simpa using congrArg Array.toList d1
 subst this
 exact r.inj r'
end
noncomputable abbrev Cx.wish(X:Cx)(E:Vq):Cx:={ X with xe:=E }
noncomputable abbrev Cx.yD(X:Cx):Cx:=X.wish fun _ _=>False
theorem Cx.Ok.wish{X:Cx}(ok:X.Ok)(E:Vq):(X.wish E).Ok:=
 ⟨ok.mod,ok.kind,ok.glob,ok.blt,ok.above,ok.inj,ok.has,ok.yr,ok.hd,ok.frames,ok.stk,ok.zf,ok.bs,ok.xO,ok.xr,ok.xD,ok.wb,ok.yc⟩
def Cx.Ok.vJ{X:Cx}{E:Vq}(ok:(X.wish E).Ok):X.Ok:=
 ⟨ok.mod,ok.kind,ok.glob,ok.blt,ok.above,ok.inj,ok.has,ok.yr,ok.hd,ok.frames,ok.stk,ok.zf,ok.bs,ok.xO,ok.xr,ok.xD,ok.wb,ok.yc⟩
section
variable {X:Cx} {pins:Va} {σ:St} {H:Hp} {s:Shared} {E:Vq}
theorem Inv.wish(I:Inv X pins σ H s)(E:Vq):Inv (X.wish E) pins σ H s:=⟨I.ok.wish E,I.os,I.bare,I.base,I.loc,I.cell,I.free,I.vI,I.pin,I.hok,I.len⟩
theorem Inv.vJ(I:Inv (X.wish E) pins σ H s):Inv X pins σ H s:=⟨I.ok.vJ,I.os,I.bare,I.base,I.loc,I.cell,I.free,I.vI,I.pin,I.hok,I.len⟩
theorem SP.vJ{D:eY}{f:Flow}{s':Shared}(h:SP (X.wish E) pins D f s'):SP X pins D f s':=by
 cases f with
 |next=>obtain⟨σ',H',I,q⟩:=h;exact⟨σ',H',I.vJ,q⟩
 |brk=>obtain⟨σ',H',I,q⟩:=h;exact⟨σ',H',I.vJ,q⟩
 |cont=>obtain⟨σ',H',I,q⟩:=h;exact⟨σ',H',I.vJ,q⟩
 |ret u=>obtain⟨v,σ',H',I,r,q⟩:=h;exact⟨v,σ',H',I.vJ,r,q⟩
theorem w4.yD{st:List Stmt}{t:TS}(h:w4 X.yD st t):w4 X st t:=fun pins s σ H D I hw=>
 wpAny_mono (h pins s σ H D (I.wish _) hw) (fun _ _ q=>q.vJ) fun _ _ z=>False.elim z
end
section
variable {X:Cx} {st:Stmt} {rest:List Stmt} {t u:TS} {e:Expr} {te:TE} {pos:Pos}
def rc:TS:=fun D σ H=>D.nx σ H
def tH(t u:TS):TS:=fun D σ H=>t { D with nx:=u D } σ H
def mF:w4 X [] rc:=fun _ _ σ H _ I h=>wpAny_execs_nil ⟨σ,H,I,h⟩
def kF(h1:PS X st t)(h2:w4 X rest u):w4 X (st::rest) (tH t u):=by
 intro pins s σ H D I h
 refine wpAny_execs_cons (va (h1 pins s σ H { D with nx:=u D } I h) fun f s1 q=>?_)
 cases f with
 |next=>
  obtain⟨σ',H',I',q⟩:=q
  exact h2 pins s1 σ' H' D I' q
 |ret v=>exact q
 |brk=>exact q
 |cont=>exact q
def mG(h1:PS X st t):w4 X [st] t:=by
 intro pins s σ H D I h
 refine wpAny_execs_cons (va (h1 pins s σ H D I h) fun f s1 q=>?_)
 cases f with
 |next=>exact wpAny_execs_nil q
 |ret v=>exact q
 |brk=>exact q
 |cont=>exact q
def Inv.quiet{pins:Va}{σ:St}{H:Hp}{s:Shared}(I:Inv X pins σ H s):interactive X.env=false:=by simp[interactive,I.ok.kind]
def re(te:TE):TS:=fun D σ H=>te σ H fun _ H1=>D.nx σ H1
def mH(he:PE X e te)(hs:swapsWith e none pos.line X.env=pure false:=by rfl):PS X (.Expr e pos) (re te):=by
 intro pins s σ H D I h
 exact wpAny_Expr_any (va (he pins s σ H _ I h) fun v s1 ⟨x,H1,I1,r1,q1⟩=>⟨σ,H1,I1,q1⟩) I.quiet hs
def tI(te:TE):TS:=fun D σ H=>te σ H D.rt
def o4(he:PE X e te):PS X (.Return (some e) pos) (tI te):=by
 intro pins s σ H D I h
 exact wpAny_Return_some (va (he pins s σ H _ I h) fun v s1 ⟨x,H1,I1,r1,q1⟩=>⟨x,σ,H1,I1,r1,q1⟩)
def tJ(c:TT)(t u:TS):TS:=fun D σ H=>c σ H fun b H1=>if b=true then t D σ H1 else u D σ H1
def rf{c:Expr}{a b:List Stmt}{tc:TT}(hc:PT X c tc)(ha:w4 X a t)(hb:w4 X b u):PS X (.If c a b pos) (tJ tc t u):=by
 intro pins s σ H D I h
 refine wpAny_If (va (hc pins s σ H _ I h) fun d s1 ⟨H1,I1,q1⟩=>?_)
 cases d with
 |true=>exact ha pins s1 σ H1 D I1 q1
 |false=>exact hb pins s1 σ H1 D I1 q1
end
abbrev TG:=V->St->Hp->(St->Hp->Prop)->Prop
abbrev oB:=List V->St->Hp->(St->Hp->Prop)->Prop
def PG(X:Cx)(target:Expr)(t:TG):Prop:=
 ∀(pins:Va) (s:Shared) (σ:St) (H:Hp) (v:V) (u:Value) (Q:St->Hp->Prop),Inv X pins σ H s->RelV v u->t v σ H Q->
  wpAny (model X.prog X.w) X.A (assign target X.env u) (fun _ s'=>∃σ' H',Inv X pins σ' H' s'/\Q σ' H') X.xe s
def rg(X:Cx)(ts:List Expr)(t:oB):Prop:=
 ∀(pins:Va) (s:Shared) (σ:St) (H:Hp) (vs:List V) (us:Vv) (Q:St->Hp->Prop),Inv X pins σ H s->Vals vs us->t vs σ H Q->
  wpAny (model X.prog X.w) X.A (assignInOrder ((assignEach ts X.env).map (·.2)) us) (fun _ s'=>∃σ' H',Inv X pins σ' H' s'/\Q σ' H') X.xe s
abbrev o5:=V->V->V->Hp->(Hp->Prop)->Prop
def mI(X:Cx)(t:o5):Prop:=
 ∀(pins:Va) (s:Shared) (σ:St) (H:Hp) (o i v:V) (ov iv u:Value) (Q:Hp->Prop),Inv X pins σ H s->RelV o ov->RelV i iv->RelV v u->t o i v H Q->
  wpAny (model X.prog X.w) X.A (setItem ov iv u) (fun _ s'=>∃H',Inv X pins σ H' s'/\Q H') X.xe s
section
variable {X:Cx} {pos:Pos}
def gO(i:Nat):TG:=fun v σ H Q=>Q (σ.set i (some v)) H
def mJ{i:Nat}{x:Str}(hN:X.N.Nodup)(hi:X.N[i]?=some x)(hx:oA X.env.scope x)(hf:X.fn x=true\/X.env.scope.names.lookup x=some .local:=by first|exact .inl rfl|exact .inr rfl|assumption):PG X (.Name x pos) (gO i):=by
 intro pins s σ H v u Q I r h
 exact wpAny_assign_Name (cJ I hN hi hx r (fun s' I'=>⟨_,H,I',h⟩) hf)
noncomputable def rh:oB:=fun vs σ H Q=>vs=[]/\Q σ H
noncomputable def oC(t:TG)(u:oB):oB:=fun vs σ H Q=>∃v r,vs=v::r/\t v σ H fun σ' H'=>u r σ' H' Q
def mK:rg X [] rh:=by
 intro pins s σ H vs us Q I r h
 obtain⟨e,h⟩:=h
 subst e
 cases r
 exact assignInOrder_nil ⟨σ,H,I,h⟩
def kG{e:Expr}{es:List Expr}{t:TG}{u:oB}(h1:PG X e t)(h2:rg X es u)
  (hs:(assignEach (e::es) X.env).map (·.2)=assign e X.env::(assignEach es X.env).map (·.2):=by rfl):rg X (e::es) (oC t u):=by
 intro pins s σ H vs us Q I r h
 obtain⟨v,vr,e1,h⟩:=h
 subst e1
 cases r with
 |cons r rr=>
  rw[hs]
  refine assignInOrder_cons (va (h1 pins s σ H _ _ _ I r h) fun _ s1 ⟨σ1,H1,I1,q1⟩=>?_)
  exact h2 pins s1 σ1 H1 _ _ Q I1 rr q1
def rj(K:Vo)(n:Nat)(t:oB):TG:=fun v σ H Q=>∃a xs,v = .ref a/\v4 K H a xs/\xs.length=n/\t xs σ H Q
def o6{es:List Expr}{k:Nat}{t:oB}{n:Nat}(hc:X.calm=true)(h:rg X es t)
  (hn:(assignEach es X.env).length=n:=by rfl) (hst:(assignEach es X.env).findIdx? (·.1)=none:=by rfl):PG X (.Tuple es k pos) (rj X.K n t):=by
 intro pins s σ H v u Q I r hw
 obtain⟨a,xs,e1,hq,hl,hw⟩:=hw
 subst e1
 cases r
 obtain⟨its,rv,ht,hz⟩:=I.tuple hq
 refine assign_Tuple_tuple (I.ok.hd hc) ht (by simp[hn,<-hl,rv.length]) hst fun h' hx=>?_
 have I1:Inv X pins σ H { s with heap:=h' }:=I.kept (t':=s.toks) fun b o e=>hx b o (Nat.ne_of_lt (Heap.lt_size e)) e
 exact h pins _ σ H xs _ Q I1 (by simpa using rv) hw
def tK(to ti:TE)(t:o5):TG:=fun v σ H Q=>to σ H fun o H1=>ti σ H1 fun i H2=>t o i v H2 fun H3=>Q σ H3
def o7{o i:Expr}{to ti:TE}{t:o5}(ho:PE X o to)(hi:PE X i ti)(hs:mI X t)
  (ha:∀v,assign (.Subscript o i pos) X.env v=(do
   let ov <-holding [v] (eval o X.env)
   let iv <-holding [v,ov] (eval i X.env)
   standAt pos
   holding [v,ov,iv] (setItem ov iv v)
   release [v,ov,iv] []):=by intro _;rfl):PG X (.Subscript o i pos) (tK to ti t):=by
 intro pins s σ H v u Q I r h
 rw[ha]
 refine wpAny_bind (wpAny_holding (va (ho pins s σ H _ I h) fun ov s1 ⟨x,H1,I1,r1,q1⟩=>?_))
 refine wpAny_bind (wpAny_holding (va (hi pins s1 σ H1 _ I1 q1) fun iv s2 ⟨y,H2,I2,r2,q2⟩=>?_))
 refine wpAny_bind (wpAny_standAt (wpAny_bind (wpAny_holding (va (hs pins s2 σ H2 x y v ov iv u _ I2 r1 r2 r q2) fun _ s3 ⟨H3,I3,q3⟩=>?_))))
 exact wpAny_release ⟨σ,H3,I3,q3⟩
def mL(te:TE)(g:TG):TS:=fun D σ H=>te σ H fun x H1=>g x σ H1 D.nx
def kH{tg e:Expr}{te:TE}{g:TG}(he:PE X e te)(hg:PG X tg g)(hs:swapsWithSole [tg] e pos.line X.env=pure false:=by rfl)(hw:swappedStores [tg] e X.env=pure none:=by rfl)
  (h1:(assignEach [tg] X.env).map (·.2)=[assign tg X.env]:=by rfl):PS X (.Assign [tg] e pos) (mL te g):=by
 intro pins s σ H D I h
 refine wpAny_Assign_stores (va (he pins s σ H _ I h) fun v s1 ⟨x,H1,I1,r1,q1⟩=>?_) hs hw
 rw[h1]
 exact va (hg pins s1 σ H1 x v _ I1 r1 q1) fun _ s2 q=>q
def o8{i:Nat}{x:Str}{e:Expr}{te:TE}{pos':Pos}(hN:X.N.Nodup)(hi:X.N[i]?=some x)(hx:oA X.env.scope x)(he:PE X e te)(hs:swapsWith e (some (.Name x pos')) pos.line X.env=pure false:=by rfl)(hf:X.fn x=true\/X.env.scope.names.lookup x=some .local:=by first|exact .inl rfl|exact .inr rfl|assumption) :
  PS X (.Assign [.Name x pos'] e pos) (mL te (gO i)):=by
 intro pins s σ H D I h
 refine wpAny_Assign_Name (va (he pins s σ H _ I h) fun v s1 ⟨y,H1,I1,r1,q1⟩=>?_) hs
 exact cJ I1 hN hi hx r1 (fun s2 I2=>⟨_,H1,I2,q1⟩) hf
def tL(i j:Nat)(ta:TA):TS:=fun D σ H=>ta σ H fun vs H1=>∃v w,vs=[v,w]/\D.nx ((σ.set i (some v)).set j (some w)) H1
def o9{i j:Nat}{x y:Str}{a b:Expr}{ta:TA}{px py pt:Pos}{kt k2 ye}(hc:X.calm=true)(hN:X.N.Nodup)(hi:X.N[i]?=some x)(hj:X.N[j]?=some y)(hij:i≠j)
  (hx:X.env.scope.names.lookup x=some .local) (hy:X.env.scope.names.lookup y=some .local) (ha:PA X [a,b] ta)
  (hw:swappedStores [.Tuple [.Name x px,.Name y py] kt pt] (.Tuple [a,b] k2 ye) X.env=pure (some [x,y]))
  (hs:swapsWithSole [.Tuple [.Name x px,.Name y py] kt pt] (.Tuple [a,b] k2 ye) pos.line X.env=pure false:=by rfl) :
  PS X (.Assign [.Tuple [.Name x px,.Name y py] kt pt] (.Tuple [a,b] k2 ye) pos) (tL i j ta):=by
 intro pins s σ H D I h
 rw[exec_Assign_arm]
 refine wpAny_bind (wpAny_standAt ?_)
 rw[hs]
 refine wpAny_bind (wpAny_pure ?_)
 rw[if_neg (by decide)]
 refine wpAny_bind (Tuple_ (va (ha _ pins s σ H _ I h) fun us s1 ⟨vs,H1,I1,r1,q1⟩=>?_))
 obtain⟨v,w,e1,q1⟩:=q1
 subst e1
 obtain⟨u1,u2,rfl,rv,rw'⟩:∃u1 u2,us=[u1,u2]/\RelV v u1/\RelV w u2:=by
  cases r1 with
  |cons p q=>
   cases q with
   |cons p' q'=>
    cases q'
    exact⟨_,_,rfl,p,p'⟩
 refine wpAny_newObj_type ?_ (by show 2<=sizeLine;decide)
 have I2:Inv X pins σ H1 { s1 with heap:=s1.heap.push { cls:=.type "tuple",data:=.seq [u1,u2].toArray } }:=I1.kept (t':=s1.toks) fun b o e=>Heap.get?_push_of_some _ e
 rw[hw]
 refine wpAny_bind (wpAny_pure ?_)
 show wpAny (model X.prog X.w) X.A (do rule "assign.swapped-stores"; let items <-unpackItems (.ref s1.heap.objs.size) 2 none;assignInOrder [fun v=>bindName X.env y v,fun v=>bindName X.env x v] items.reverse;pure Flow.next) _ _ _
 refine wpAny_bind (wpAny_rule (wpAny_bind (unpackItems_tuple (items:=#[u1,u2]) (I.ok.hd hc) (IsTup.new s1.heap _) fun h' hx'=>?_)))
 have I3:=I2.kept (h':=h') (t':=s1.toks) fun b o e=>hx' b o (Nat.ne_of_lt (Heap.lt_size e)) e
 show wpAny _ _ (assignInOrder [fun v=>bindName X.env y v,fun v=>bindName X.env x v] [u2,u1] >>= fun _=>pure Flow.next) _ _ _
 refine wpAny_bind (assignInOrder_cons (wpAny_bindName (cJ I3 hN hj (.inl hy) rw' (fun s2 I4=>?_) (.inr hy))))
 refine assignInOrder_cons (wpAny_bindName (cJ I4 hN hi (.inl hx) rv (fun s3 I5=>assignInOrder_nil (wpAny_pure ?_)) (.inr hx)))
 rw[List.set_comm _ _ (Ne.symm hij)]at I5
 exact⟨_,H1,I5,q1⟩
end
section
variable {X:Cx} {pos:Pos}
def o_(c:TT)(tb:TS):TS:=fun D σ H=>∃W:Nat->St->Hp->Prop,(∃m,W m σ H)/\∀m σ H,W m σ H->
 c σ H fun b H1=>if b=true then ∃N:St->Hp->Prop,(∀σ' H',N σ' H'->∃m',m' < m/\W m' σ' H')/\tb { D with nx:=N,ct:=N,bk:=D.nx } σ H1 else D.nx σ H1
def kI{c:Expr}{body:List Stmt}{tc:TT}{tb:TS}(hp:PassesOwn (model X.prog X.w) X.A X.env X.xe)(hc:PT X c tc)(hb:w4 X body tb):PS X (.While c body [] pos) (o_ tc tb):=by
 intro pins s σ H D I h
 obtain⟨W,⟨m0,w0⟩,turn⟩:=h
 refine wpAny_While (codeAny_whileLoop (fun n s'=>∃σ' H',Inv X pins σ' H' s'/\W n σ' H') ?_ m0 ⟨σ,H,I,w0⟩)
 rintro n s1 ⟨σ1,H1,I1,w1⟩
 refine wpAny_passesOwn hp (va (hc pins s1 σ1 H1 _ I1 (turn n σ1 H1 w1)) fun b s2 ⟨H2,I2,q2⟩=>?_)
 cases b with
 |true=>
  obtain⟨N,hN,q2⟩:=q2
  rw[if_pos rfl]
  refine wpAny_passesOwn hp (va (hb pins s2 σ1 H2 _ I2 q2) fun f s3 q3=>?_)
  cases f with
  |next=>
   obtain⟨σ3,H3,I3,n3⟩:=q3
   obtain⟨m',hm,w3⟩:=hN σ3 H3 n3
   exact⟨m',hm,σ3,H3,I3,w3⟩
  |cont=>
   obtain⟨σ3,H3,I3,n3⟩:=q3
   obtain⟨m',hm,w3⟩:=hN σ3 H3 n3
   exact⟨m',hm,σ3,H3,I3,w3⟩
  |brk=>exact q3
  |ret v=>exact q3
 |false=>
  rw[if_neg Bool.false_ne_true]
  exact wpAny_execs_nil ⟨σ1,H2,I2,q2⟩
end
structure It where
 go:Nat->Hp->Prop
 yT:Nat->Hp->V->Hp->Prop
 stop:Nat->Hp->Prop
def cY(X:Cx)(pins:Va)(H:Hp)(b:Addr):Prop:=
 H b=none/\b≠X.env.locals/\b ∉ X.fs/\(b∈X.ex\/X.s₀.heap.objs.size<=b)/\(∀x c,X.env.cells.lookup x=some c->c≠b)/\∀p∈X.pn++pins,p.1≠b
def Inv.xu{X:Cx}{pins:Va}{σ:St}{H H':Hp}{s:Shared}{b:Addr}(I:Inv X pins σ H s)(hb:s.heap.objs.size<=b)(hn:H' b=none):cY X pins H' b:=by
 refine⟨hn,Nat.ne_of_gt (Nat.lt_of_lt_of_le I.lt hb),I.yz hb,.inr (Nat.le_trans I.sz hb),fun x c e z=>?_,fun p hp z=>?_⟩
 ·obtain⟨v,q⟩:=I.cell x c e
  exact absurd (Nat.lt_of_lt_of_le q.lt (by rw[z];exact hb)) (Nat.lt_irrefl _)
 ·exact absurd (Nat.lt_of_lt_of_le (Heap.lt_size (I.pin p hp).1) (by rw[z];exact hb)) (Nat.lt_irrefl _)
structure jK (P:Program) (w:World) (K:Vo) (tg:Expr) (J:It) (fp:List Addr) (it:Addr) (tn:Nat->Heap->Prop):Prop where
 mem:it∈fp
 obj:∀i h,tn i h->∀b∈fp,∃o,h.get? b=some o/\∀v,o.data ≠ .cell v
 keep:∀i h h',tn i h->(∀b∈fp,∀o,h.get? b=some o->h'.get? b=some o)->tn i h'
 item:∀(X:Cx),X.prog=P->X.w=w->X.K=K->X.calm=true->∀(i:Nat) (pins:Va) (s:Shared) (σ:St) (H:Hp) (E:Vq),Inv X pins σ H s->(∀b∈fp,cY X pins H b)->tn i s.heap->J.go i H->
  wpAny (model P w) X.A (pyNext (.ref it)) (fun r s1=>∃u,r=some u/\
   wpAny (model P w) X.A (letOwnedTupleGo tg (.ref it) u) (fun _ s2=>∃x H',Inv X pins σ H' s2/\RelV x u/\J.yT i H x H'/\tn (i+1) s2.heap/\∀b∈fp,H' b=none) E s1) E s
 done:∀(X:Cx),X.prog=P->X.w=w->X.K=K->X.calm=true->∀(i:Nat) (pins:Va) (s:Shared) (σ:St) (H:Hp) (E:Vq),Inv X pins σ H s->(∀b∈fp,cY X pins H b)->tn i s.heap->J.stop i H->
  wpAny (model P w) X.A (pyNext (.ref it)) (fun r s1=>r=none/\Inv X pins σ H s1) E s
 self:∀(A:Around) (i:Nat) (s:Shared) (Q:Vq) (E:Vq),tn i s.heap->Q (.ref it) s->wpAny (model P w) A (pyIter (.ref it)) Q E s
abbrev TI:=St->Hp->(It->Hp->Prop)->Prop
def tM(X:Cx)(pins:Va)(σ:St)(tg:Expr)(R:It->Hp->Prop)(itv:Value)(s2:Shared):Prop:=
 ∃(it:Addr) (fp:List Addr) (tn:Nat->Heap->Prop) (J:It) (H':Hp),itv = .ref it/\Inv X pins σ H' s2/\jK X.prog X.w X.K tg J fp it tn/\tn 0 s2.heap/\(∀b∈fp,cY X pins H' b)/\R J H'
def PI(X:Cx)(tg iter:Expr)(wi:TI):Prop:=
 ∀(pins:Va) (s:Shared) (σ:St) (H:Hp) (R:It->Hp->Prop),Inv X pins σ H s->wi σ H R->
  wpAny (model X.prog X.w) X.A (eval iter X.env) (fun v s1=>wpAny (model X.prog X.w) X.A (pyIter v) (tM X pins σ tg R) X.xe s1) X.xe s
def jc {M : Model} {A : Around} {E : Value -> Shared -> Prop} {s : Shared} {tg : Expr} {it : Addr} {u : Value} {o : Obj} {n : String} {vs : Array Value} {Q : Unit -> Shared -> Prop} (ho : s.heap.get? it = some o) (hc : o.cls = .type n) (hd : o.data = .fields vs)
    (hn : ["enumerate", "zip", "dict_itemiterator", "dict_reverseitemiterator", "odict_iterator", "itertools.zip_longest", "itertools.pairwise"].contains n = false) (hQ : Q () s) : wpAny M A (letOwnedTupleGo tg (.ref it) u) Q E s := by
  unfold letOwnedTupleGo
  cases tg <;> first
    | exact wpAny_pure hQ
    | (cases u <;> first
        | exact wpAny_pure hQ
        | (refine wpAny_bind (wpAny_load ho ?_)
           rw [hc, hd]
           show wpAny M A (if (["enumerate", "zip", "dict_itemiterator", "dict_reverseitemiterator", "odict_iterator", "itertools.zip_longest", "itertools.pairwise"].contains n && vs[0]? == some (rawInt _)) = true then _ else _) Q E s
           rw [if_neg (by intro h; rw [hn, Bool.false_and] at h; cases h)]
           exact wpAny_pure hQ))
noncomputable def sV(K:Vo)(a:Addr):It:=
 ⟨fun i H=>∃xs x,SqL K H a xs/\xs[i]?=some x,fun i H x H'=>H'=H/\∀xs,SqL K H a xs->xs[i]?=some x,fun i H=>∃xs,SqL K H a xs/\xs.length<=i⟩
noncomputable def tN(K:Vo)(a:Addr):It:=
 ⟨fun i H=>∃xs x,v4 K H a xs/\xs[i]?=some x,fun i H x H'=>H'=H/\∀xs,v4 K H a xs->xs[i]?=some x,fun i H=>∃xs,v4 K H a xs/\xs.length<=i⟩
noncomputable def sW(lo:Int)(n:Nat):It:=⟨fun i _=>i < n,fun i H x H'=>H'=H/\x = .int (lo+i),fun i _=>n<=i⟩
def jL{P:Program}{w:World}{K:Vo}{tg:Expr}(a it:Addr):jK P w K tg (sV K a) [it] it (fun i h=>h.IsListIter it a i) where
 mem:=by simp
 obj:=fun i h st b hb=>by
  have e:b=it:=by simpa using hb
  subst e
  obtain⟨o,e,c,d⟩:=st
  exact⟨o,e,fun v z=>by rw[d]at z;cases z⟩
 keep:=fun i h h' st k=>st.at fun o e=>k it (by simp) o e
 item:=by
  intro X hP hw hK hc i pins s σ H E I hf st hg
  subst hP hw hK
  obtain⟨xs,x,hq,hx⟩:=hg
  obtain⟨its,rv,p,hz⟩:=I.list hq
  obtain⟨u,hu,ru⟩:=rv.get hx
  obtain⟨f0,f1,f2,f3,f4,f5⟩:=hf it (by simp)
  refine wpAny_pyNext_list_item st p.isList (x:=u) (by simpa using hu) fun h' st' sb=>?_
  have I1:Inv X pins σ H { s with heap:=h' }:=I.turned (t':=s.toks) (fun b o hb e=>(sb.2 b hb).trans e) f0 f1 f3 f4 f5
  obtain⟨o,e,c,d⟩:=id st'
  exact⟨u,rfl,jc (s:={ s with heap:=h' }) e c d (by decide) ⟨x,H,I1,ru,⟨rfl,fun ys hy=>by rw[I.xE hy hq];exact hx⟩,st',fun b hb=>(hf b hb).1⟩⟩
 done:=by
  intro X hP hw hK hc i pins s σ H E I hf st hg
  subst hP hw hK
  obtain⟨xs,hq,hx⟩:=hg
  obtain⟨its,rv,p,hz⟩:=I.list hq
  obtain⟨f0,f1,f2,f3,f4,f5⟩:=hf it (by simp)
  have hl:=rv.length
  exact wpAny_pyNext_list_end (I.ok.hd hc) st p.isList (by simp;omega) fun h' eb=>⟨rfl,I.turned (t':=s.toks) (fun b o hb e=>eb b o hb e) f0 f1 f3 f4 f5⟩
 self:=fun _ _ _ _ _ st h=>wpAny_pyIter_listiter st h
def iD{P:Program}{w:World}{K:Vo}{tg:Expr}(a it:Addr):jK P w K tg (tN K a) [it] it (fun i h=>h.IsTupleIter it a i) where
 mem:=by simp
 obj:=fun i h st b hb=>by
  have e:b=it:=by simpa using hb
  subst e
  obtain⟨o,e,c,d⟩:=st
  exact⟨o,e,fun v z=>by rw[d]at z;cases z⟩
 keep:=fun i h h' st k=>st.at fun o e=>k it (by simp) o e
 item:=by
  intro X hP hw hK hc i pins s σ H E I hf st hg
  subst hP hw hK
  obtain⟨xs,x,hq,hx⟩:=hg
  obtain⟨its,rv,p,hz⟩:=I.tuple hq
  obtain⟨u,hu,ru⟩:=rv.get hx
  obtain⟨f0,f1,f2,f3,f4,f5⟩:=hf it (by simp)
  refine wpAny_pyNext_tuple_item st (show s.heap.IsTuple a its.toArray from p) (x:=u) (by simpa using hu) fun h' st' sb=>?_
  have I1:Inv X pins σ H { s with heap:=h' }:=I.turned (t':=s.toks) (fun b o hb e=>(sb.2 b hb).trans e) f0 f1 f3 f4 f5
  obtain⟨o,e,c,d⟩:=id st'
  exact⟨u,rfl,jc (s:={ s with heap:=h' }) e c d (by decide) ⟨x,H,I1,ru,⟨rfl,fun ys hy=>by rw[I.xt hy hq];exact hx⟩,st',fun b hb=>(hf b hb).1⟩⟩
 done:=by
  intro X hP hw hK hc i pins s σ H E I hf st hg
  subst hP hw hK
  obtain⟨xs,hq,hx⟩:=hg
  obtain⟨its,rv,p,hz⟩:=I.tuple hq
  obtain⟨f0,f1,f2,f3,f4,f5⟩:=hf it (by simp)
  have hl:=rv.length
  exact wpAny_pyNext_tuple_end (I.ok.hd hc) st (show s.heap.IsTuple a its.toArray from p) (by simp;omega) fun h' eb=>⟨rfl,I.turned (t':=s.toks) (fun b o hb e=>eb b o hb e) f0 f1 f3 f4 f5⟩
 self:=fun _ _ _ _ _ st h=>wpAny_pyIter_tupleiter st h
def iE{P:Program}{w:World}{K:Vo}{tg:Expr}(it:Addr)(lo:Int)(n:Nat):jK P w K tg (sW lo n) [it] it (fun i h=>IsRangeIter h it (lo+(i:Nat) * 1) ((n:Int) - (i:Nat)) 1) where
 mem:=by simp
 obj:=fun i h st b hb=>by
  have e:b=it:=by simpa using hb
  subst e
  exact⟨_,st,fun v z=>by
   have z':Data.fields _=Data.cell v:=z
   cases z'⟩
 keep:=fun i h h' st k=>k it (by simp) _ st
 item:=by
  intro X hP hw hK hc i pins s σ H E I hf st hg
  subst hP hw hK
  obtain⟨f0,f1,f2,f3,f4,f5⟩:=hf it (by simp)
  have W:=Walks.range (prog:=X.prog) (w:=X.w) (I.ok.hd hc) it lo 1 n
  refine W.item i s _ _ hg st fun v h' tk hv st' kk=>?_
  obtain⟨t,rfl⟩:=hv
  have I1:Inv X pins σ H { s with heap:=h',toks:=tk }:=I.turned (fun b o hb e=>kk b o (by simpa using hb) e) f0 f1 f3 f4 f5
  refine⟨_,rfl,jc (s:={ s with heap:=h',toks:=tk }) (n:="range_iterator") st' rfl rfl (by decide) ⟨.int (lo+i),H,I1,⟨t,?_⟩,⟨rfl,rfl⟩,st',fun b hb=>(hf b hb).1⟩⟩
  rw[Int.mul_one]
 done:=by
  intro X hP hw hK hc i pins s σ H E I hf st hg
  subst hP hw hK
  obtain⟨f0,f1,f2,f3,f4,f5⟩:=hf it (by simp)
  exact wpAny_pyNext_range_end (I.ok.hd hc) st (by have:n<=i:=hg;omega) fun h' eb=>⟨rfl,I.turned (t':=s.toks) (fun b o hb e=>eb b o hb e) f0 f1 f3 f4 f5⟩
 self:=fun _ _ _ _ _ st h=>wpAny_pyIter_rangeiter st h
section
variable {X:Cx} {tg:Expr}
def kJ{pins:Va}{σ:St}{H:Hp}{s:Shared}{R:It->Hp->Prop}{E:Vq}{lo hi:Int}{t u v:Tok}{tk:Nat}(I:Inv X pins σ H s)(h1:-(2 ^ 62)<=lo)(h2:lo < 2 ^ 62)(h3:-(2 ^ 62)<=hi)(h4:hi < 2 ^ 62)
  (q:R (sW lo (hi - lo).toNat) H):wpAny (model X.prog X.w) X.A (pyIter (.ref s.heap.objs.size)) (tM X pins σ tg R) E { s with heap:=s.heap.push { cls:=.type "range",data:=.fields #[.int lo t,.int hi u,.int 1 v] },toks:=tk }:=by
 refine wpAny_pyIter_range (IsRange.new ..) (small_one h1 h2 h3 h4) ?_
 have I1:Inv X pins σ H { s with heap:=s.heap.push { cls:=.type "range",data:=.fields #[.int lo t,.int hi u,.int 1 v] },toks:=tk }:=I.kept fun b o e=>Heap.get?_push_of_some _ e
 refine⟨(s.heap.push { cls:=.type "range",data:=.fields #[.int lo t,.int hi u,.int 1 v] }).objs.size,[(s.heap.push { cls:=.type "range",data:=.fields #[.int lo t,.int hi u,.int 1 v] }).objs.size],_,_,H,rfl,
  I1.kept (t':=tk) fun b o e=>Heap.get?_push_of_some _ e,iE _ lo (hi - lo).toNat,?_,fun b hb=>?_,q⟩
 ·have e1:lo+((0:Nat):Int) * 1=lo:=by simp
  have e2:(((hi - lo).toNat:Nat):Int) - ((0:Nat):Int)=Builtin.Range.rangeSize lo hi 1:=by rw[rangeSize_one];split<;>omega
  show IsRangeIter _ _ (lo+((0:Nat):Int) * 1) ((((hi - lo).toNat:Nat):Int) - ((0:Nat):Int)) 1
  rw[e1,e2]
  exact Heap.get?_push_size _ rfl
 ·have e:b=(s.heap.push { cls:=.type "range",data:=.fields #[.int lo t,.int hi u,.int 1 v] }).objs.size:=by simpa using hb
  subst e
  exact I1.xu (Nat.le_refl _) (I1.hok.fresh (Nat.le_refl _))
def rm(ta:TA):TI:=fun σ H R=>ta σ H fun vs H1=>∃j:Int,vs=[.int j]/\-(2 ^ 62)<=j/\j < 2 ^ 62/\R (sW 0 j.toNat) H1
def jM{a:Expr}{ta:TA}{p pos:Pos}(hg:Gl X "range")(hm:X.mg "range" = none)(ha:PA X [a] ta)(hs:starEach [a] X.env=[(false,eval a X.env)]:=by rfl):PI X tg (.Call (.Name "range" p) [a] [] pos) (rm ta):=by
 intro pins s σ H R I h
 refine Call_ (bS I hg hm boot_range (PyProof.Rows.callWith_type1 (va (ha pos pins s σ H _ I h) fun us s1 ⟨vs,H1,I1,r1,q1⟩=>?_) hs rfl))
 obtain⟨j,e,q1,q2,q⟩:=q1
 subst e
 cases r1 with
 |cons r rr=>
  cases rr
  obtain⟨t,rfl⟩:=r
  exact call_range_1 (kJ I1 (by omega) (by omega) q1 q2 (by simpa using q))
def tO(wi:TI)(g:TG)(tb:TS):TS:=fun D σ H=>wi σ H fun J H1=>∃W:Nat->Nat->St->Hp->Prop,(∃m,W 0 m σ H1)/\∀i m σ H,W i m σ H->
 (J.stop i H/\D.nx σ H)\/(J.go i H/\∃N:St->Hp->Prop,(∀σ' H',N σ' H'->∃m',m' < m/\W (i+1) m' σ' H')/\∀x H',J.yT i H x H'->g x σ H' fun σ2 H2=>tb { D with nx:=N,ct:=N,bk:=D.nx } σ2 H2)
noncomputable def d3(fp:List Addr)(h:Heap):List (Addr×Obj):=fp.filterMap fun b=>(h.get? b).map fun o=>(b,o)
def cp{fp:List Addr}{h:Heap}{b:Addr}{o:Obj}(hb:b∈fp)(e:h.get? b=some o):(b,o)∈d3 fp h:=List.mem_filterMap.mpr ⟨b,hb,by rw[e];rfl⟩
def jN{fp:List Addr}{h:Heap}{p:Addr×Obj}(hp:p∈d3 fp h):p.1∈fp/\h.get? p.1=some p.2:=by
 obtain⟨b,hb,e⟩:=List.mem_filterMap.mp hp
 cases q:h.get? b with
 |none=>rw[q]at e;cases e
 |some o=>
  rw[q]at e
  have e':(b,o)=p:=Option.some.inj e
  subst e'
  exact⟨hb,q⟩
def Inv.pinned{pins:Va}{σ:St}{H:Hp}{s:Shared}{fp:List Addr}(I:Inv X pins σ H s)(hf:∀b∈fp,cY X pins H b)(ho:∀b∈fp,∃o,s.heap.get? b=some o/\∀v,o.data ≠ .cell v):Inv X (pins++d3 fp s.heap) σ H s:=
 I.wg fun p hp=>(List.mem_append.mp hp).elim (fun z=>I.pin p (List.mem_append_right _ z)) fun z=>by
  obtain⟨hb,e⟩:=jN z
  obtain⟨f0,f1,f2,_⟩:=hf p.1 hb
  obtain⟨o,e',d⟩:=ho p.1 hb
  rw[e]at e';cases e'
  exact⟨e,f0,f1,f2,d⟩
def Inv.vY{pins pl:Va}{σ:St}{H:Hp}{s:Shared}(I:Inv X (pins++pl) σ H s):Inv X pins σ H s:=I.wg fun p hp=>I.pin p (List.mem_append_right _ (List.mem_append_left _ hp))
def pc{iter:Expr}{body:List Stmt}{wi:TI}{g:TG}{tb:TS}{pos:Pos}(hp:PassesOwn (model X.prog X.w) X.A X.env X.xe)(hc:X.calm=true)(hi:PI X tg iter wi)(hg:PG X tg g)(hb:w4 X body tb)
  (hs:∀x,foldedSetIterable iter X.env x=pure x:=by intro _;rfl):PS X (.For tg iter body [] pos) (tO wi g tb):=by
 intro pins s σ H D I h
 refine wpAny_For (va (hi pins s σ H _ I h) fun v s1 h1=>va h1 fun itv s2 h2=>?_) hs
 obtain⟨it,fp,tn,J,H2,e,I2,T,st2,f2,W,⟨m0,w0⟩,turn⟩:=h2
 subst e
 -- what stays true of the iterator's objects through the loop
 have stat:∀{H':Hp},(∀b∈fp,H' b=none)->∀b∈fp,cY X pins H' b:=fun hn b hb=>⟨hn b hb,(f2 b hb).2⟩
 refine codeAny_forLoop_any (fun n s'=>∃i σ' H',Inv X pins σ' H' s'/\tn i s'.heap/\(∀b∈fp,H' b=none)/\W i n σ' H') ?_ m0 ⟨0,σ,H2,I2,st2,fun b hb=>(f2 b hb).1,w0⟩
 rintro n s3 ⟨i,σ3,H3,I3,st3,zU,w3⟩
 rcases turn i n σ3 H3 w3 with⟨stop,qn⟩|⟨go,N,hN,step⟩
 ·refine wpAny_passesOwn hp (va (T.done X rfl rfl rfl hc i pins s3 σ3 H3 X.xe I3 (stat zU) st3 stop) fun r s4 ⟨hr,I4⟩=>?_)
  subst hr
  exact wpAny_execs_nil ⟨σ3,H3,I4,qn⟩
 ·refine wpAny_passesOwn hp (va (T.item X rfl rfl rfl hc i pins s3 σ3 H3 X.xe I3 (stat zU) st3 go) fun r s4 ⟨u,hr,h4⟩=>?_)
  subst hr
  refine wpAny_passesOwn hp (va h4 fun _ s5 ⟨x,H5,I5,r5,y5,xP,zj⟩=>?_)
  have zk:=I5.pinned (stat zj) (T.obj _ _ xP)
  refine wpAny_passesOwn hp (va (hg _ s5 σ3 H5 x u _ zk r5 (step x H5 y5)) fun _ s6 ⟨σ6,H6,I6,q6⟩=>?_)
  refine wpAny_passesOwn hp (va (hb _ s6 σ6 H6 _ I6 q6) fun f s7 q7=>?_)
  have again:∀{σ7:St} {H7:Hp},Inv X (pins++d3 fp s5.heap) σ7 H7 s7->N σ7 H7->∃m,m < n/\∃i σ' H',Inv X pins σ' H' s7/\tn i s7.heap/\(∀b∈fp,H' b=none)/\W i m σ' H':=fun{σ7 H7} I7 n7=>by
   obtain⟨m',hm,w7⟩:=hN σ7 H7 n7
   refine⟨m',hm,i+1,σ7,H7,I7.vY,T.keep _ _ _ xP fun b hb o e=>(I7.pin (b,o) (List.mem_append_right _ (List.mem_append_right _ (cp hb e)))).1,fun b hb=>?_,w7⟩
   obtain⟨o,e,d⟩:=T.obj _ _ xP b hb
   exact(I7.pin (b,o) (List.mem_append_right _ (List.mem_append_right _ (cp hb e)))).2.1
  cases f with
  |next=>obtain⟨σ7,H7,I7,n7⟩:=q7;exact again I7 n7
  |cont=>obtain⟨σ7,H7,I7,n7⟩:=q7;exact again I7 n7
  |brk=>obtain⟨σ7,H7,I7,q7⟩:=q7;exact⟨σ7,H7,I7.vY,q7⟩
  |ret v=>obtain⟨x7,σ7,H7,I7,r7,q7⟩:=q7;exact⟨x7,σ7,H7,I7.vY,r7,q7⟩
end
abbrev R2:=V->V->Hp->VK->Prop
def cZ(X:Cx)(f:Value->Value->Sem Value)(r:R2):Prop:=
 ∀(pins:Va) (s:Shared) (σ:St) (H:Hp) (x y:V) (v u:Value) (Q:VK),Inv X pins σ H s->RelV x v->RelV y u->r x y H Q->
  wpAny (model X.prog X.w) X.A (f v u) (EP X pins σ Q) X.xe s
def sX(X:Cx)(f:Value->Sem Value)(r:V->Hp->VK->Prop):Prop:=
 ∀(pins:Va) (s:Shared) (σ:St) (H:Hp) (x:V) (v:Value) (Q:VK),Inv X pins σ H s->RelV x v->r x H Q->
  wpAny (model X.prog X.w) X.A (f v) (EP X pins σ Q) X.xe s
def d4(X:Cx)(f:Value)(r:List V->Hp->VK->Prop):Prop:=
 ∀(pins:Va) (s:Shared) (σ:St) (H:Hp) (xs:List V) (us:Vv) (Q:VK),Inv X pins σ H s->Vals xs us->r xs H Q->
  wpAny (model X.prog X.w) X.A (call f us) (EP X pins σ Q) X.xe s
def rn(r:R2)(ta tb:TE):TE:=fun σ H Q=>ta σ H fun x H1=>tb σ H1 fun y H2=>r x y H2 Q
def uH(r:V->Hp->VK->Prop)(ta:TE):TE:=fun σ H Q=>ta σ H fun x H1=>r x H1 Q
def rI(C:Int->Int->Prop)(g:Int->Int->V):R2:=fun x y H Q=>∃i j,x = .int i/\y = .int j/\C i j/\Q (g i j) H
def mM(g:Int->Int->V):R2:=fun x y H Q=>∃i j,x = .int i/\y = .int j/\Q (g i j) H
noncomputable def rU(g:Int->V):V->Hp->VK->Prop:=fun x H Q=>∃i,x = .int i/\Q (g i) H
section
variable {X:Cx} {a b c:Expr} {ta tb tc:TE} {pos:Pos}
def rq(ha:PE X a ta)(hb:PE X b tb){pins:Va}{s:Shared}{σ:St}{H:Hp}{R:V->V->Hp->Prop}(I:Inv X pins σ H s)
  (h:ta σ H fun x H1=>tb σ H1 fun y H2=>R x y H2) {Q:Vq} {f:Value->Value->Sem Value}
  (hf:∀v u s2 x y H2,Inv X pins σ H2 s2->RelV x v->RelV y u->R x y H2->wpAny (model X.prog X.w) X.A (f v u) Q X.xe s2) :
  wpAny (model X.prog X.w) X.A (eval a X.env) (fun v s₁=>wpAny (model X.prog X.w) X.A (eval b X.env) (fun u s₂=>wpAny (model X.prog X.w) X.A (f v u) Q X.xe s₂) X.xe s₁) X.xe s:=by
 refine va (ha pins s σ H _ I h) fun v s1 ⟨x,H1,I1,r1,q1⟩=>?_
 refine va (hb pins s1 σ H1 _ I1 q1) fun u s2 ⟨y,H2,I2,r2,q2⟩=>?_
 exact hf v u s2 x y H2 I2 r1 r2 q2
def rA{op:Operator}{r:R2}(ho:cZ X (binaryOp op) r)(ha:PE X a ta)(hb:PE X b tb):PE X (.BinOp a op b pos) (rn r ta tb):=by
 intro pins s σ H Q I h
 exact wpAny_BinOp (rq ha hb I h fun v u s2 x y H2 I2 rx ry q=>ho pins s2 σ H2 x y v u Q I2 rx ry q)
def rB{op:UnaryOp}{r:V->Hp->VK->Prop}(ho:sX X (unaryOp op) r)(ha:PE X a ta):PE X (.UnaryOp op a pos) (uH r ta):=by
 intro pins s σ H Q I h
 exact UnaryOp_ (va (ha pins s σ H _ I h) fun v s1 ⟨x,H1,I1,r1,q1⟩=>ho pins s1 σ H1 x v Q I1 r1 q1)
def sY{f:Value->Value->Sem Value}{C:Int->Int->Prop}{g:Int->Int->Int}
  (rule:∀(i j:Int) (t u:Tok) (s:Shared) (Q:Vq) (E:Vq),C i j->Q (.int (g i j) s.toks) { s with toks:=s.toks+1 }->wpAny (model X.prog X.w) X.A (f (.int i t) (.int j u)) Q E s) :
  cZ X f (rI C fun i j=>.int (g i j)):=by
 intro pins s σ H x y v u Q I rx ry h
 obtain⟨i,j,rfl,rfl,hc,q⟩:=h
 obtain⟨t,rfl⟩:=rx
 obtain⟨t',rfl⟩:=ry
 exact rule i j t t' s _ _ hc ⟨.int (g i j),H,I.tok _,⟨_,rfl⟩,q⟩
def rC{f:Value->Value->Sem Value}{g:Int->Int->Int}
  (rule:∀(i j:Int) (t u:Tok) (s:Shared) (Q:Vq) (E:Vq),Q (.int (g i j) s.toks) { s with toks:=s.toks+1 }->wpAny (model X.prog X.w) X.A (f (.int i t) (.int j u)) Q E s) :
  cZ X f (mM fun i j=>.int (g i j)):=by
 intro pins s σ H x y v u Q I rx ry h
 obtain⟨i,j,rfl,rfl,q⟩:=h
 obtain⟨t,rfl⟩:=rx
 obtain⟨t',rfl⟩:=ry
 exact rule i j t t' s _ _ ⟨.int (g i j),H,I.tok _,⟨_,rfl⟩,q⟩
def pe{f:Value->Value->Sem Value}{g:Int->Int->Bool}
  (rule:∀(i j:Int) (t u:Tok) (s:Shared) (Q:Vq) (E:Vq),Q (.bool (g i j)) s->wpAny (model X.prog X.w) X.A (f (.int i t) (.int j u)) Q E s) :
  cZ X f (mM fun i j=>.bl (g i j)):=by
 intro pins s σ H x y v u Q I rx ry h
 obtain⟨i,j,rfl,rfl,q⟩:=h
 obtain⟨t,rfl⟩:=rx
 obtain⟨t',rfl⟩:=ry
 exact rule i j t t' s _ _ ⟨.bl (g i j),H,I,rfl,q⟩
def pg(i j:Int):Prop:=0<=j/\j<=1000000/\i.natAbs < 2 ^ 64
def xQ(i j:Int):Prop:=(-(2 ^ 64) < i/\i < 2 ^ 64)\/(-(2 ^ 64) < j/\j < 2 ^ 64)
def xQ.ok{i j:Int}(h:xQ i j):IntMulOk i j:=by
 rcases h with⟨h1,h2⟩|⟨h1,h2⟩
 ·exact .of_left (intBits_le_64 h1 h2)
 ·exact .of_right (intBits_le_64 h1 h2)
def ph:cZ X (binaryOp .Add) (mM fun i j=>.int (i+j)):=rC fun _ _ _ _ _ _ _ q=>add_int q
def pk:cZ X (binaryOp .Sub) (mM fun i j=>.int (i - j)):=rC fun _ _ _ _ _ _ _ q=>sub_int q
def mN:cZ X (binaryOp .Mod) (rI (fun _ j=>j≠0) fun i j=>.int (i.fmod j)):=sY fun _ _ _ _ _ _ _ hc q=>mod_int' hc q
def pp:cZ X (binaryOp .Pow) (rI pg fun i j=>.int (i ^ j.toNat)):=sY fun _ _ _ _ _ _ _ hc q=>pow_int_small hc.1 hc.2.1 hc.2.2 q
def uI{f:Value->Sem Value}{g:Int->Int}
  (rule:∀(i:Int) (t:Tok) (s:Shared) (Q:Vq) (E:Vq),Q (.int (g i) s.toks) { s with toks:=s.toks+1 }->wpAny (model X.prog X.w) X.A (f (.int i t)) Q E s) :
  sX X f (rU fun i=>.int (g i)):=by
 intro pins s σ H x v Q I rx h
 obtain⟨i,rfl,q⟩:=h
 obtain⟨t,rfl⟩:=rx
 exact rule i t s _ _ ⟨.int (g i),H,I.tok _,⟨_,rfl⟩,q⟩
def pq:sX X (unaryOp .USub) (rU fun i=>.int (-i)):=uI fun _ _ _ _ _ q=>neg_int q
end
noncomputable def rD:V->V->Bool
 | .non,.non=>true | .non,.int _=>true | .int _,.non=>true | .non,.bl _=>true | .bl _,.non=>true | .non,.str _=>true | .str _,.non=>true
 | .int _,.int _=>true | .bl _,.bl _=>true | .str _,.str _=>true | .xC _,.xC _=>true
 | .int _,.str _=>true | .str _,.int _=>true | .bl _,.str _=>true | .str _,.bl _=>true
 |_,_=>false
def uJ:R2:=fun x y H Q=>rD x y=true/\Q (.bl (decide (x=y))) H
def uK:R2:=fun x y H Q=>rD x y=true/\Q (.bl (!decide (x=y))) H
def jd{i j:Int}:decide (V.int i=V.int j)=(i == j):=by
 rw[Bool.eq_iff_iff]
 simp
def kK{i j:Bool}:decide (V.bl i=V.bl j)=(i == j):=by
 rw[Bool.eq_iff_iff]
 simp
def je{i j:Str}:decide (V.str i=V.str j)=(i == j):=by
 rw[Bool.eq_iff_iff]
 simp
def jf{i j:Array UInt8}:decide (V.xC i=V.xC j)=(i.toList == j.toList):=by
 rw[Bool.eq_iff_iff]
 cases i
 cases j
 simp
section
variable {X:Cx} {a b c:Expr} {ta tb tc:TE} {pos:Pos}
def am{pins:Va}{σ:St}{H:Hp}{s:Shared}{Q:VK}{k k':Bool}(I:Inv X pins σ H s)(q:Q (.bl k) H)(e:k=k'):EP X pins σ Q (.bool k') s:=by
 subst e
 exact⟨.bl k,H,I,rfl,q⟩
def kL:cZ X (compareOp .Eq) uJ:=by
 intro pins s σ H x y v u Q I rx ry h
 obtain⟨hs,q⟩:=h
 cases x with
 |non=>
  cases rx
  cases y with
  |non=>cases ry;exact PySem.EqNone.eq_none_none (am I q (by simp))
  |bl j=>cases ry;exact PySem.EqNone.eq_none_bool (am I q (by simp))
  |int j=>obtain⟨t',rfl⟩:=ry;exact PySem.EqNone.eq_none_int (am I q (by simp))
  |str j=>obtain⟨t',rfl⟩:=ry;exact PySem.EqNone.eq_none_str (am I q (by simp))
  |_=>exact absurd (show false=true from hs) Bool.false_ne_true
 |bl i=>
  cases rx
  cases y with
  |non=>cases ry;exact PySem.EqNone.eq_bool_none (am I q (by simp))
  |bl j=>cases ry;exact eq_bool (am I q kK)
  |str j=>obtain⟨t',rfl⟩:=ry;exact PySem.EqMixed.eq_bool_str (am I q (by simp))
  |_=>exact absurd (show false=true from hs) Bool.false_ne_true
 |int i=>
  obtain⟨t,rfl⟩:=rx
  cases y with
  |non=>cases ry;exact PySem.EqNone.eq_int_none (am I q (by simp))
  |int j=>obtain⟨t',rfl⟩:=ry;exact eq_int (am I q jd)
  |str j=>obtain⟨t',rfl⟩:=ry;exact PySem.EqMixed.eq_int_str (am I q (by simp))
  |_=>exact absurd (show false=true from hs) Bool.false_ne_true
 |str i=>
  obtain⟨t,rfl⟩:=rx
  cases y with
  |non=>cases ry;exact PySem.EqNone.eq_str_none (am I q (by simp))
  |bl j=>cases ry;exact PySem.EqMixed.eq_str_bool (am I q (by simp))
  |int j=>obtain⟨t',rfl⟩:=ry;exact PySem.EqMixed.eq_str_int (am I q (by simp))
  |str j=>obtain⟨t',rfl⟩:=ry;exact eq_str (am I q je)
  |_=>exact absurd (show false=true from hs) Bool.false_ne_true
 |xC i=>
  obtain⟨t,rfl⟩:=rx
  cases y with
  |xC j=>obtain⟨t',rfl⟩:=ry;exact PySem.W.eq_bytes (am I q jf)
  |_=>exact absurd (show false=true from hs) Bool.false_ne_true
 |_=>cases y<;>exact absurd (show false=true from hs) Bool.false_ne_true
def kM:cZ X (compareOp .NotEq) uK:=by
 intro pins s σ H x y v u Q I rx ry h
 obtain⟨hs,q⟩:=h
 cases x with
 |non=>
  cases rx
  cases y with
  |non=>cases ry;exact PySem.EqNone.ne_none_none (am I q (by simp))
  |bl j=>cases ry;exact PySem.EqNone.ne_none_bool (am I q (by simp))
  |int j=>obtain⟨t',rfl⟩:=ry;exact PySem.EqNone.ne_none_int (am I q (by simp))
  |str j=>obtain⟨t',rfl⟩:=ry;exact PySem.EqNone.ne_none_str (am I q (by simp))
  |_=>exact absurd (show false=true from hs) Bool.false_ne_true
 |bl i=>
  cases rx
  cases y with
  |non=>cases ry;exact PySem.EqNone.ne_bool_none (am I q (by simp))
  |bl j=>cases ry;exact ne_bool (am I q (congrArg not kK))
  |str j=>obtain⟨t',rfl⟩:=ry;exact PySem.EqMixed.ne_bool_str (am I q (by simp))
  |_=>exact absurd (show false=true from hs) Bool.false_ne_true
 |int i=>
  obtain⟨t,rfl⟩:=rx
  cases y with
  |non=>cases ry;exact PySem.EqNone.ne_int_none (am I q (by simp))
  |int j=>obtain⟨t',rfl⟩:=ry;exact ne_int (am I q (congrArg not jd))
  |str j=>obtain⟨t',rfl⟩:=ry;exact PySem.EqMixed.ne_int_str (am I q (by simp))
  |_=>exact absurd (show false=true from hs) Bool.false_ne_true
 |str i=>
  obtain⟨t,rfl⟩:=rx
  cases y with
  |non=>cases ry;exact PySem.EqNone.ne_str_none (am I q (by simp))
  |bl j=>cases ry;exact PySem.EqMixed.ne_str_bool (am I q (by simp))
  |int j=>obtain⟨t',rfl⟩:=ry;exact PySem.EqMixed.ne_str_int (am I q (by simp))
  |str j=>obtain⟨t',rfl⟩:=ry;exact ne_str (am I q (congrArg not je))
  |_=>exact absurd (show false=true from hs) Bool.false_ne_true
 |xC i=>
  obtain⟨t,rfl⟩:=rx
  cases y with
  |xC j=>obtain⟨t',rfl⟩:=ry;exact PySem.W.ne_bytes (am I q (congrArg not jf))
  |_=>exact absurd (show false=true from hs) Bool.false_ne_true
 |_=>cases y<;>exact absurd (show false=true from hs) Bool.false_ne_true
def rE:cZ X (compareOp .Lt) (mM fun i j=>.bl (decide (i < j))):=pe fun _ _ _ _ _ _ _ q=>lt_int q
def rF:cZ X (compareOp .Gt) (mM fun i j=>.bl (decide (j < i))):=pe fun _ _ _ _ _ _ _ q=>gt_int q
def rG:cZ X (compareOp .GtE) (mM fun i j=>.bl (decide (j<=i))):=pe fun _ _ _ _ _ _ _ q=>ge_int q
def jO:cZ X (compareOp .In) (fun x y H Q=>∃i j,x = .str i/\y = .str j/\Q (.bl (!(Builtin.Str.occurrences j i 0 j.length 1).isEmpty)) H):=by
 intro pins s σ H x y v u Q I rx ry h
 obtain⟨i,j,rfl,rfl,q⟩:=h
 obtain⟨t,rfl⟩:=rx
 obtain⟨t',rfl⟩:=ry
 exact in_str (am I q rfl)
def aY(b:Expr){op:CmpOp}(h:op ≠ .In:=by decide)(h2:op ≠ .NotIn:=by decide):behindInMarks op b=false:=by
 have e1:(op == CmpOp.In)=false:=by cases op<;>first|rfl|exact absurd rfl h
 have e2:(op == CmpOp.NotIn)=false:=by cases op<;>first|rfl|exact absurd rfl h2
 cases b<;>simp[behindInMarks,e1,e2]
def rH(t:TE):TT:=fun σ H Q=>t σ H fun x H'=>∃k,x = .bl k/\Q k H'
def mO{op:CmpOp}{r:R2}(ho:cZ X (compareOp op) r)(ha:PE X a ta)(hb:PE X b tb)(hm:behindInMarks op b=false):PT X (.Compare a [op] [b] pos) (rH (rn r ta tb)):=by
 intro pins s σ H Q I h
 refine wpAny_isTrue_Compare1 (va (ha pins s σ H _ I h) fun v s1 ⟨x,H1,I1,r1,q1⟩=>va (hb pins s1 σ H1 _ I1 q1) fun u s2 ⟨y,H2,I2,r2,q2⟩=>
  va (ho pins s2 σ H2 x y v u _ I2 r1 r2 q2) fun c s3 ⟨z,H3,I3,r3,k,e,q3⟩=>?_) hm
 subst e
 cases r3
 exact wpAny_truthy_bool ⟨H3,I3,q3⟩
def c_:(sizeLine:Nat) < 2 ^ 63:=by rw[sizeLine_eq];decide
def iF:cZ X (binaryOp .Add) (fun x y H Q=>∃i j,x = .str i/\y = .str j/\i.length+j.length<=sizeLine/\Q (.str (i++j)) H):=by
 intro pins s σ H x y v u Q I rx ry h
 obtain⟨i,j,rfl,rfl,hz,q⟩:=h
 obtain⟨t,rfl⟩:=rx
 obtain⟨t',rfl⟩:=ry
 exact add_str (fun t' tk=>⟨.str (i++j),H,I.tok _,⟨_,rfl⟩,q⟩) hz
def gP{x:V}{us:Vv}(r:Vals [x] us):∃u,us=[u]/\RelV x u:=by
 cases r with
 |cons r1 r2=>cases r2;exact⟨_,rfl,r1⟩
def rJ{x y:V}{us:Vv}(r:Vals [x,y] us):∃u w',us=[u,w']/\RelV x u/\RelV y w':=by
 cases r with
 |cons r1 r2=>
  cases r2 with
  |cons r3 r4=>cases r4;exact⟨_,_,rfl,r1,r3⟩
def jP(hc:X.calm=true):d4 X (.builtin "max") (fun xs H Q=>∃i j,xs=[.int i,.int j]/\Q (.int (if j > i then j else i)) H):=by
 intro pins s σ H xs us Q I r h
 obtain⟨i,j,rfl,q⟩:=h
 obtain⟨u,w',rfl,⟨t,rfl⟩,⟨t',rfl⟩⟩:=rJ r
 refine max_two_ints (I.ok.hd hc) fun h' tk k=>⟨_,H,I.kept k,?_,q⟩
 by_cases hj:j > i
 ·rw[if_pos hj,if_pos hj];exact⟨_,rfl⟩
 ·rw[if_neg hj,if_neg hj];exact⟨_,rfl⟩
end
section
variable {prog:Program} {w:World} {A:Around} {E:Vq} {s:Shared} {K:Vo} {x dx C f:Addr} {mA:Vr} {name:Str} {v:Value}
end
def RelO.some_of{v:V}{o:Option Value}(r:RelO (some v) o):∃u,o=some u/\RelV v u:=by
 cases o with
 |none=>exact(show False from r).elim
 |some u=>exact⟨u,rfl,r⟩
section
variable {P:Program} {w:World} {H H':Hp} {h h':Heap} {a C dx:Addr} {fs fs':List (Str×V)}
end
section
variable {X:Cx} {pins:Va} {σ:St} {H:Hp} {s:Shared} {a C dx:Addr} {fs:List (Str×V)} {f:Str} {v:V} {A:Around} {E:Vq}
end
section
variable {X:Cx} {o e value:Expr} {f:Str} {pos pos' tpos:Pos} {ta tv:TE}
end
section
variable {X:Cx} {pins:Va} {σ:St} {H:Hp} {s:Shared} {A:Around} {E:Vq} {Q:Vq} {c:Value} {b:Bool}
end
structure Room (k:Nat) (A:Around):Prop where
 hd:A.handled=none
 dp:A.depth+3 * k+5 < recursionLimit
 un:A.units+16 * k+200 < cLine
 gd:A.guards=some []
def Room.mono{j k:Nat}{A:Around}(r:Room k A)(h:j<=k):Room j A:=⟨r.hd,by have:=r.dp;omega,by have:=r.un;omega,r.gd⟩
theorem Room.deeper{k:Nat}{A:Around}(r:Room (k+1) A)(env:Env):Room k (A.deeper env):=
 ⟨r.hd,by have:=r.dp;show A.depth+1+3 * k+5 < _;omega,by have:=r.un;show A.units+3+16 * k+200 < _;omega,r.gd⟩
theorem Room.depth{k:Nat}{A:Around}(r:Room k A):A.depth < recursionLimit:=by have:=r.dp;omega
def mP:TA:=fun _ H Q=>Q [] H
def kN(ta:TE)(tr:TA):TA:=fun σ H Q=>ta σ H fun x H1=>tr σ H1 fun xs H2=>Q (x::xs) H2
section
variable {X:Cx} {e:Expr} {es:List Expr} {te:TE} {t:TA} {pos:Pos}
def pr:PA X [] mP:=fun _ _ _ _ H Q I h=>Calls.spliced_nil ⟨[],H,I,.nil,h⟩
def mQ(ha:PE X e te)(hr:PA X es t)(hs:starEach (e::es) X.env=(false,eval e X.env)::starEach es X.env:=by rfl):PA X (e::es) (kN te t):=by
 intro pos pins s σ H Q I h
 rw[hs]
 show wpAny _ _ (spliced ((false,eval e X.env)::backTo pos (starEach es X.env))) _ _ s
 refine Calls.spliced_cons (va (ha pins s σ H _ I h) fun u s1 ⟨x,H1,I1,r1,q1⟩=>?_)
 exact va (hr pos pins s1 σ H1 _ I1 q1) fun us s2 ⟨xs,H2,I2,r2,q2⟩=>⟨x::xs,H2,I2,.cons r1 r2,q2⟩
def tP(t:TA):TE:=fun σ H Q=>t σ H fun xs H1=>xs.length<=sizeLine/\∀p,H1 p=none->Q (.ref p) (upd H1 p (.tup xs))
def tQ(t:TA):TE:=fun σ H Q=>t σ H fun xs H1=>xs.length<=sizeLine/\∀p,H1 p=none->Q (.ref p) (upd H1 p (.lst xs))
def pz{x1}(h:PA X es t):PE X (.Tuple es x1 pos) (tP t):=by
 intro pins s σ H Q I hq
 refine wpAny_Tuple_spliced (va (h pos pins s σ H _ I hq) fun us s1 ⟨xs,H1,I1,r,z,q⟩=>⟨by rw[<-r.length];exact z,?_⟩)
 have hf:H1 s1.heap.objs.size=none:=I1.hok.fresh (Nat.le_refl _)
 refine⟨.ref s1.heap.objs.size,upd H1 s1.heap.objs.size (.tup xs),I1.laid (t':=s1.toks) (fun b u e=>Heap.get?_push_of_some _ e) (Nat.le_refl _) ?_,rfl,q _ hf⟩
 exact⟨z,us,r,⟨_,Heap.get?_push_size _ rfl,rfl,rfl,_,rfl⟩⟩
def pA(h:PA X es t):PE X (.List es pos) (tQ t):=by
 intro pins s σ H Q I hq
 refine wpAny_List_spliced (va (h pos pins s σ H _ I hq) fun us s1 ⟨xs,H1,I1,r,z,q⟩=>⟨by rw[<-r.length];exact z,?_⟩)
 have hf:H1 s1.heap.objs.size=none:=I1.hok.fresh (Nat.le_refl _)
 refine⟨.ref s1.heap.objs.size,upd H1 s1.heap.objs.size (.lst xs),I1.laid (t':=s1.toks) (fun b u e=>Heap.get?_push_of_some _ e) (Nat.le_refl _) ?_,rfl,q _ hf⟩
 exact⟨z,us,0,r,Heap.get?_push_size _ rfl⟩
end
abbrev Sp:=List V->Hp->VK->XK->Prop
abbrev kO:=List Env->Hp->Shared->XK->Value->Shared->Prop
structure mR (P:Program) (w:World) (K:Vo) (mg:Vr) (base:Heap) (A:Around) (outer:List Env) (s:Shared) (H:Hp):Prop where
 frames:A.frames=some outer
 mod:Mod K mg base
 bs:∀b o,base.get? b=some o->s.heap.get? b=some o/\H b=none
 xO:base.objs.size<=s.heap.objs.size
 wb:s.heap.FunFrames base outer
 yc:∀b∈frs outer,H b=none
 hok:vW P w H s.heap
 bare:AllBare s.gens
def CE(outer:List Env)(P:Program)(w:World)(H:Hp)(s:Shared)(Q:VK)(u:Value)(s':Shared):Prop:=
 ∃v H',s'.os=s.os/\AllBare s'.gens/\Un (frs outer) [] H H' s.heap s'.heap/\vW P w H' s'.heap/\RelV v u/\Q v H'
def CR(CX:kO)(outer:List Env)(P:Program)(w:World)(H:Hp)(s:Shared)(Q:VK)(E:XK)(r:Result)(s':Shared):Prop:=
 match r with
 | .ok (.ret u)=>CE outer P w H s Q u s'
 | .ok _=>False
 | .error e=>CX outer H s E e s'
structure eZ (P:Program) (w:World) (K:Vo) (mg:Vr) (base:Heap) (CX:kO) (k:Nat) (f:Addr) (fd:FuncData) (ps:Vs) (sp:Sp):Prop where
 len:∀vs H Q E,sp vs H Q E->vs.length=ps.length
 run:∀(A:Around) (outer:List Env) (s:Shared) (H:Hp) (args:Args) (us:Vv) (vs:List V) (Q:VK) (E:XK),Room k A->mR P w K mg base A outer s H->BindsTo s fd args (ps.zip us)->Vals vs us->sp vs H Q E->
  codeAny (model P w) A (.call (.ref f) args) (CR CX outer P w H s Q E) s
section
variable {X:Cx} {pins:Va} {σ:St} {H:Hp} {s s':Shared}
def Inv.zl(I:Inv X pins σ H s):mR X.prog X.w X.K X.mg X.base X.A X.stack s H:=
 ⟨I.ok.frames,I.ok.mod,I.bs,Nat.le_trans I.ok.xO I.sz,I.stack,I.xf,I.hok,I.bare⟩
def Inv.after{Q:VK}{u:Value}(I:Inv X pins σ H s)(h:CE X.stack X.prog X.w H s Q u s'):EP X pins σ Q u s':=by
 obtain⟨v,H',os,bare,un,hok,r,q⟩:=h
 obtain⟨hh,g,d,t,os'⟩:=s'
 obtain rfl:os'=s.os:=os
 exact⟨v,H',I.call (h':=hh) (g':=g) (d':=d) (t':=t) (ch:=[]) un hok bare (fun b z=>absurd z (by simp)),r,q⟩
end
def oD(sp:Sp)(dvs:List V)(E:XK)(t:TA):TE:=fun σ H Q=>t σ H fun vs H1=>sp (vs++dvs) H1 Q E
def Binds(K:Vo)(fd:FuncData)(ps:Vs)(ds:Vv):Prop:=
 ∀(s:Shared) (us:Vv),K.In s.heap->(us++ds).length=ps.length->BindsTo s fd ⟨us,[]⟩ (ps.zip (us++ds))
def Binds.all{K:Vo}{fd:FuncData}{ps:Vs}(h:∀us:List Value,us.length=ps.length->bindArgs fd ⟨us,[]⟩=pure (ps.zip us)):Binds K fd ps []:=fun s us _ hl=>by
 rw[List.append_nil]at hl ⊢
 exact .of_eq (h us hl)
def fW(CX:kO)(X:Cx)(E:XK):Prop:=∀(pins:Va) (σ:St) (H:Hp) (s:Shared) (e:Value) (s':Shared),Inv X pins σ H s->CX X.stack H s E e s'->X.xe e s'
section
variable {X:Cx} {CX:kO} {k:Nat} {f C:Addr} {fd:FuncData} {ps:Vs} {sp:Sp} {dvs:List V} {ds:Vv} {E:XK} {x m:Str} {p pos apos:Pos} {e o:Expr} {es:List Expr} {ta:TE} {t:TA}
def kP{pins:Va}{σ:St}{H:Hp}{s:Shared}{Q:VK}{us:Vv}{vs:List V}(F:eZ X.prog X.w X.K X.mg X.base CX k f fd ps sp)(hr:Room k X.A)(hb:Binds X.K fd ps ds)(hd:Vals dvs ds)(hx:fW CX X E)
  (I:Inv X pins σ H s) (r:Vals vs us) (h:sp (vs++dvs) H Q E):wpAny (model X.prog X.w) X.A (call (.ref f) us) (EP X pins σ Q) X.xe s:=by
 have r2:Vals (vs++dvs) (us++ds):=r.append hd
 have hl:(us++ds).length=ps.length:=by rw[<-r2.length];exact F.len _ _ _ _ h
 refine wpAny_call (codeAny_mono (F.run X.A X.stack s H ⟨us,[]⟩ (us++ds) (vs++dvs) Q E hr I.zl (hb s us I.xM hl) r2 h) fun r s' hq=>?_)
 cases r with
 |error e=>exact hx pins σ H s e s' I hq
 |ok fl=>
  cases fl with
  |ret u=>exact I.after hq
  |next=>exact False.elim hq
  |brk=>exact False.elim hq
  |cont=>exact False.elim hq
def mS(F:eZ X.prog X.w X.K X.mg X.base CX k f fd ps sp)(hr:Room k X.A)(hg:Gl X x)(hm:X.mg x=some (.ref f))(hk:PySem.W.keepIn X.K (.ref f)=true)(hb:Binds X.K fd ps ds)(hd:Vals dvs ds)(hx:fW CX X E)
  (ha:PA X (e::es) t) (hdb:(x == ("__debug__":Str))=false:=by decide) (he:starEach (e::es) X.env=(false,eval e X.env)::starEach es X.env:=by rfl) (hpl:(backTo pos (starEach es X.env)).any (·.1)=false:=by rfl) :
  PE X (.Call (.Name x p) (e::es) [] pos) (oD sp dvs E t):=by
 intro pins s σ H Q I h
 refine wpAny_Call_Name_kw (fV I hg hm ?_ hdb)
 refine PySem.W.callWith_K (h₀:=X.base) I.ok.mod.ze hk (va (ha pos pins s σ H _ I h) fun us s1 ⟨vs,H1,I1,r,q⟩=>⟨I1.xM,?_⟩) he hpl
 exact kP F hr hb hd hx I1 r q
def kQ(F:eZ X.prog X.w X.K X.mg X.base CX k f fd ps sp)(hr:Room k X.A)(hg:Gl X x)(hm:X.mg x=some (.ref f))(hk:PySem.W.keepIn X.K (.ref f)=true)(hb:Binds X.K fd ps ds)(hd:Vals dvs ds)(hx:fW CX X E)
  (hdb:(x == ("__debug__":Str))=false:=by decide):PE X (.Call (.Name x p) [] [] pos) (oD sp dvs E mP):=by
 intro pins s σ H Q I h
 refine wpAny_Call_Name_kw (fV I hg hm ?_ hdb)
 exact PySem.W.callWith_K0 I.xM hk (kP (us:=[]) F hr hb hd hx I .nil h)
end
def PK(X:Cx)(kws:List Keyword)(t:TA):Prop:=
 ∀(pos:Pos) (pins:Va) (s:Shared) (σ:St) (H:Hp) (Q:List V->Hp->Prop),Inv X pins σ H s->t σ H Q->wpAny (model X.prog X.w) X.A (evalAll ((backToKw pos (keywordEach kws X.env)).map (·.2))) (AP X pins σ Q) X.xe s
section
variable {X:Cx} {CX:kO} {k:Nat} {f C:Addr} {fd:FuncData} {ps ks:Vs} {sp:Sp} {E:XK} {x m:Str} {p pos apos kpos:Pos} {e o:Expr} {es:List Expr} {kws:List Keyword} {te ta:TE} {t tk:TA} {nm:Option Str}
def pB:PK X [] mP:=fun _ _ _ _ H Q I h=>wpAny_evalAll_nil ⟨[],H,I,.nil,h⟩
def mT(ha:PE X e te)(hr:PK X kws t):PK X (⟨nm,e,kpos⟩::kws) (kN te t):=by
 intro pos pins s σ H Q I h
 show wpAny _ _ (evalAll ((do let v <-eval e X.env;standAt pos;pure v)::(backToKw pos (keywordEach kws X.env)).map (·.2))) _ _ s
 refine wpAny_evalAll_cons (wpAny_bind (va (ha pins s σ H _ I h) fun u s1 ⟨x,H1,I1,r1,q1⟩=>wpAny_bind (wpAny_standAt (wpAny_pure ?_))))
 exact va (hr pos pins s1 σ H1 _ I1 q1) fun us s2 ⟨xs,H2,I2,r2,q2⟩=>⟨x::xs,H2,I2,.cons r1 r2,q2⟩
variable {g:List Value->List Value->List Value} {gV:List V->List V->List V}
end
structure b_ (N P:Vs) (sc:Scope):Prop where
 kind:sc.kind = .function
 co:sc.isCoroutine=false
 gen:sc.isGenerator=false
 nd:N.Nodup
 pre:N.take P.length=P
 par:∀x∈P,sc.names.lookup x=some .local\/sc.names.lookup x=some .cell
 yf:∀y∈sc.names,y.2 ≠ .free
theorem fo{kindOf:Str->Option NameKind}{x:Str}:∀{binds:List (Str×Value)} {m:Vr},(∀v,(x,v) ∉ binds)->bindL kindOf binds m x=m x
 |[],_,_=>rfl
 |(n,v)::r,m,h=>by
  unfold bindL
  rw[fo fun w hw=>h w (List.mem_cons_of_mem _ hw)]
  split
  ·have:x≠n:=by rintro rfl;exact h v List.mem_cons_self
   simp[this]
  ·rfl
theorem fq{kindOf:Str->Option NameKind}{x:Str}:∀{binds:List (Str×Value)} {m:Vr},(∀v,(x,v) ∉ binds)->bindC kindOf binds m x=m x
 |[],_,_=>rfl
 |(n,v)::r,m,h=>by
  unfold bindC
  rw[fq fun w hw=>h w (List.mem_cons_of_mem _ hw)]
  split
  ·rfl
  ·have:x≠n:=by rintro rfl;exact h v List.mem_cons_self
   simp[this]
theorem ft{kindOf:Str->Option NameKind}{x:Str}{v:Value}:∀{P:Vs} {vs:Vv} {i:Nat} {m:Vr},P.Nodup->P[i]?=some x->vs[i]?=some v->kindOf x=some .local->
  bindL kindOf (P.zip vs) m x=some v
 |[],_,_,_,_,h,_,_=>by simp at h
 |_::_,[],_,_,_,_,h,_=>by simp at h
 |p::P,w::vs,0,m,nd,h1,h2,hk=>by
  simp at h1 h2;subst h1;subst h2
  show bindL kindOf ((p,w)::P.zip vs) m p=_
  unfold bindL
  rw[fo fun v hv=>(List.nodup_cons.mp nd).1 (List.of_mem_zip hv).1,if_pos hk]
  simp
 |p::P,w::vs,i+1,m,nd,h1,h2,hk=>by
  show bindL kindOf ((p,w)::P.zip vs) m x=_
  unfold bindL
  exact ft (i:=i) (List.nodup_cons.mp nd).2 (by simpa using h1) (by simpa using h2) hk
theorem fu{kindOf:Str->Option NameKind}{x:Str}{v:Value}:∀{P:Vs} {vs:Vv} {i:Nat} {m:Vr},P.Nodup->P[i]?=some x->vs[i]?=some v->kindOf x≠some .local->
  bindC kindOf (P.zip vs) m x=some v
 |[],_,_,_,_,h,_,_=>by simp at h
 |_::_,[],_,_,_,_,h,_=>by simp at h
 |p::P,w::vs,0,m,nd,h1,h2,hk=>by
  simp at h1 h2;subst h1;subst h2
  show bindC kindOf ((p,w)::P.zip vs) m p=_
  unfold bindC
  rw[fq fun v hv=>(List.nodup_cons.mp nd).1 (List.of_mem_zip hv).1,if_neg hk]
  simp
 |p::P,w::vs,i+1,m,nd,h1,h2,hk=>by
  show bindC kindOf ((p,w)::P.zip vs) m x=_
  unfold bindC
  exact fu (i:=i) (List.nodup_cons.mp nd).2 (by simpa using h1) (by simpa using h2) hk
noncomputable def bT(N:Vs)(vs:List V):St:=vs.map some++List.replicate (N.length - vs.length) none
noncomputable def iG(CX:kO)(P:Program)(w:World)(K:Vo)(mg:Vr)(base:Heap)(N:Vs)(qual:Str)(scope:Scope)(f:Addr)(cd:Value)(A:Around)(outer:List Env)(s:Shared)(H:Hp)(E:XK):Cx where
 prog:=P
 w:=w
 K:=K
 mg:=mg
 base:=base
 A:=A.deeper (envOfC qual scope s.heap.objs.size f cd)
 N:=N
 s₀:=s
 H₀:=H
 env:=envOfC qual scope s.heap.objs.size f cd
 outer:=outer
 stack:=envOfC qual scope s.heap.objs.size f cd::outer
 ex:=[]
 calm:=true
 fn:=fun _=>true
 pn:=[]
 xe:=fun e s'=>wpAny (model P w) (A.deeper (envOfC qual scope s.heap.objs.size f cd)) (leaving (envOfC qual scope s.heap.objs.size f cd) e) (fun _ s''=>CX outer H s E e s'') (fun e' s''=>CX outer H s E e' s'') s'
def gQ{sc:Scope}{n:Nat}{x:Str}(h:sc.names.lookup x=some .cell):∃c,(cellsFrom n sc.names []).lookup x=some c:=by
 have q:=PySem.W.cellsFrom_some sc.names n [] (.inl h)
 exact Option.isSome_iff_exists.mp q
def jQ{CX:kO}{P:Program}{w:World}{K:Vo}{mg:Vr}{base:Heap}{N ps:Vs}{qual:Str}{scope:Scope}{f:Addr}{cd:Value}{A:Around}{outer:List Env}{s s1:Shared}{H:Hp}{E:XK}{us:Vv}{vs:List V}
  (S:b_ N ps scope) (hd:A.handled=none) (e0:mR P w K mg base A outer s H) (hl:vs.length=ps.length) (r:Vals vs us)
  (x:InCallC s s.heap.objs.size (bindL (envOfC qual scope s.heap.objs.size f cd).kindOf (ps.zip us) fun _=>none) (cellsFrom (s.heap.objs.size+1) scope.names []) (bindC (envOfC qual scope s.heap.objs.size f cd).kindOf (ps.zip us) fun _=>none) s1) :
  Inv (iG CX P w K mg base N qual scope f cd A outer s H E) [] (bT N vs) H s1:=by
 have hpl:ps.length<=N.length:=by have:=congrArg List.length S.pre;rw[List.length_take]at this;omega
 obtain⟨h1,tk,rfl,hk⟩:=x.done
 have yE:∀b:Addr,b ∉ (iG CX P w K mg base N qual scope f cd A outer s H E).ex:=fun b z=>absurd (show b∈([]:List Addr)from z) (by simp)
 refine⟨⟨e0.mod,S.kind,rfl,rfl,Nat.le_refl _,fun y z c h1 h2=>?_,fun y hy=>?_,fun y c _ h=>?_,fun _=>hd,Around.frames_deeper e0.frames,.inr ⟨rfl,rfl⟩,fun b z=>absurd z (yE b),e0.bs,e0.xO,fun b _ _=>yE b,fun b z=>absurd z (yE b),e0.wb,e0.yc⟩,
  rfl,e0.bare,Un.kept hk,⟨_,x.toInCall.ns,fun i y v h1 h2 h3=>?_⟩,fun y c h=>⟨_,x.cell y c h⟩,e0.hok.fresh (Nat.le_refl _),fun y c h=>?_,fun p hp=>absurd (show p∈([]:Va)from hp) (by simp),e0.hok.kept hk,?_⟩
 ·exact name_of_addr x.apart (PySem.mem_of_lookup h1) (PySem.mem_of_lookup h2)
 ·have hy:scope.names.lookup y=some .cell\/scope.names.lookup y=some .free:=hy
  rcases hy with hy|hy
  ·exact gQ hy
  ·exact absurd rfl (S.yf _ (PySem.mem_of_lookup hy))
 ·exact Nat.le_of_lt (x.above y c (PySem.mem_of_lookup h))
 ·have hi:i < vs.length:=by
   unfold bT at h2
   by_cases hi:i < vs.length
   ·exact hi
   ·rw[List.getElem?_append_right (by simpa using hi)]at h2
    rw[List.getElem?_replicate]at h2
    split at h2<;>cases h2
  have ha:vs[i]?=some v:=by
   unfold bT at h2
   rw[List.getElem?_append_left (by simpa using hi),List.getElem?_map]at h2
   cases e:vs[i]? with
   |none=>rw[e]at h2;cases h2
   |some a=>rw[e]at h2;cases h2;rfl
  obtain⟨u,hu,rv⟩:=r.get ha
  have hp:ps[i]?=some y:=by
   rw[<-S.pre,List.getElem?_take_of_lt (by omega)];exact h1
  have zV:ps.Nodup:=by rw[<-S.pre];exact S.nd.sublist (List.take_sublist _ _)
  refine⟨u,rv,?_⟩
  rcases S.par y (List.mem_of_getElem? hp)with k|k
  ·exact .inl ⟨k,ft zV hp hu k⟩
  ·obtain⟨c,e⟩:=gQ (n:=s.heap.objs.size+1) k
   refine .inr ⟨.inl k,c,e,?_⟩
   have q:=x.cell y c e
   rw[fu zV hp hu (by show scope.names.lookup y≠_;rw[k];decide)]at q
   exact q
 ·exact e0.hok.fresh (Nat.le_of_lt (x.above y c (PySem.mem_of_lookup h)))
 ·unfold bT
  show _=N.length
  rw[List.length_append,List.length_map,List.length_replicate]
  omega
def rK{CX:kO}{P:Program}{w:World}{K:Vo}{mg:Vr}{base:Heap}{k:Nat}{f:Addr}{name qual:Str}{params:Arguments}{body:List Stmt}{scope:Scope}{dV kV doc pm cdv ct oc:Value}{an od:Option Addr}
  {osl:Array (Option Value)} {N ps:Vs} {sp:Sp} (lk:K.lookup f=some ⟨oc,od,.func (PySem.W.fnOf name qual params body scope dV kV doc pm an cdv ct),osl⟩) (hcd:PySem.W.codeIn K cdv qual=true) (S:b_ N ps scope)
  (len:∀vs H Q E,sp vs H Q E->vs.length=ps.length)
  (hbody:∀(A:Around) (outer:List Env) (s:Shared) (H:Hp) (vs:List V) (Q:VK) (E:XK),Room k (A.deeper (envOfC qual scope s.heap.objs.size f cdv))->sp vs H Q E->
   ∃t,w4 (iG CX P w K mg base N qual scope f cdv A outer s H E) body t/\t { nx:=fun _ H'=>Q .non H',rt:=Q } (bT N vs) H) :
  eZ P w K mg base CX (k+1) f (PySem.W.fnOf name qual params body scope dV kV doc pm an cdv ct) ps sp:=by
 refine⟨len,fun A outer s H args us vs Q E hr e0 hb r xY=>?_⟩
 have hl:=len _ _ _ _ xY
 have KX:K.In s.heap:=e0.mod.ze.keeps fun b o e=>(e0.bs b o e).1
 have lim:s.heap.NoLimit:=e0.mod.nolimit.keeps fun b o e=>(e0.bs b o e).1
 have hkind:∀y∈ps.zip us,scope.names.lookup y.1=some .local\/(scope.names.lookup y.1=some .cell/\((cellsFrom (s.heap.objs.size+1) scope.names []).lookup y.1).isSome=true):=fun⟨n,v⟩ hy=>by
  rcases S.par n (List.of_mem_zip hy).1 with q|q
  ·exact .inl q
  ·exact .inr ⟨q,PySem.W.cellsFrom_some _ _ _ (.inl q)⟩
 refine codeAny_call_function hr.depth (KX _ _ lk) rfl S.co S.gen rfl (PySem.W.codeRec_of KX hcd) (hb _ _ _ _ ?_)
 refine wpAny_newFunctionEnv_cells S.kind hkind fun env he s1 x=>?_
 subst he
 refine⟨lim.keeps x.toInCall.keep,codeAny_func ?_⟩
 obtain⟨t,ht,hq⟩:=hbody A outer s H vs Q E (hr.deeper _) xY
 have I:Inv (iG CX P w K mg base N qual scope f cdv A outer s H E) [] (bT N vs) H s1:=jQ S hr.hd e0 hl r x
 refine wpAny_mono (ht [] s1 (bT N vs) H _ I hq) (fun fl s' hs=>?_) fun e s' hs=>hs
 have fin:∀{σ':St} {H':Hp} {v:V} {u:Value},Inv (iG CX P w K mg base N qual scope f cdv A outer s H E) [] σ' H' s'->RelV v u->Q v H'->CE outer P w H s Q u s':=
  fun{σ' H' v u} J rv q=>⟨v,H',J.os,J.bare,J.base,J.hok,rv,q⟩
 cases fl with
 |ret u=>
  obtain⟨v,σ',H',J,rv,q⟩:=hs
  exact fin J rv q
 |next=>
  obtain⟨σ',H',J,q⟩:=hs
  exact fin (v:=V.non) (u:=Value.none) J rfl q
 |brk=>
  obtain⟨_,_,_,q⟩:=hs
  exact False.elim q
 |cont=>
  obtain⟨_,_,_,q⟩:=hs
  exact False.elim q
section
variable {X:Cx} {x:Str} {p pos:Pos} {e:Expr} {es:List Expr} {t:TA} {id T:String} {r:List V->Hp->VK->Prop}
def uL(r:List V->Hp->VK->Prop)(t:TA):TE:=fun σ H Q=>t σ H fun vs H1=>r vs H1 Q
def kR(hc:d4 X (.builtin id) r)(hg:Gl X x)(hm:X.mg x=none)(hv:bootBuiltins x=some (.builtin id))(ha:PA X (e::es) t)(hn:x ≠ "__name__":=by decide)(hdb:(x == ("__debug__":Str))=false:=by decide)
  (he:starEach (e::es) X.env=(false,eval e X.env)::starEach es X.env:=by rfl) (hpl:(backTo pos (starEach es X.env)).any (·.1)=false:=by rfl):PE X (.Call (.Name x p) (e::es) [] pos) (uL r t):=by
 intro pins s σ H Q I h
 refine wpAny_Call_Name_kw (bS I hg hm hv ?_ hn hdb)
 exact PyProof.Rows.callWith_builtin1 (va (ha pos pins s σ H _ I h) fun us s1 ⟨vs,H1,I1,r1,q1⟩=>hc pins s1 σ H1 vs us Q I1 r1 q1) he hpl
end
end L2
namespace HT
open PySem PyProof.Rows
section
open PySem.SeqAt
open PySem.AutoSeq1 (wpAny_loadPart')
open PySem.MeetsSeq PySem.MeetsSeq2 PySem.MeetsSeq3
end
section
variable {prog:Program} {w:World} {A:Around} {E:Vq} {s:Shared}
def mU{t b:Addr}{vs ws:Vv}{Q:Vq}(ht:IsTup s.heap t vs.toArray)(hb:IsTup s.heap b ws.toArray)(hv:vs≠[])
  (h1:ws=[]->Q (.ref t) s) (h2:ws≠[]->Q (.ref s.heap.objs.size) { s with heap:=s.heap.push { cls:=.type "tuple",data:=.seq (vs++ws).toArray } })
  (hsz:vs.length+ws.length<=sizeLine):wpAny (model prog w) A (binaryOp .Add (.ref t) (.ref b)) Q E s:=by
 obtain⟨⟨cls,dd,data,sl⟩,ho,hc,n,hd⟩:=id ht
 obtain⟨⟨zm,dd2,data2,sl2⟩,ho2,hc2,n2,hd2⟩:=id hb
 simp only at hc hd hc2 hd2
 subst hc hd hc2 hd2
 have e:vs.toArray++ws.toArray=(vs++ws).toArray:=by simp
 by_cases hw:ws=[]
 ·exact concat_meets ⟨_,ho,rfl⟩ ⟨_,ho2,rfl⟩ noFill_tuple_add seq_tuple_add PySem.F.slot_tuple_add PySem.F.entry_tuple_add (PySem.F.args_tuple_add_2 _ _)
   (tuple_addW1 t b vs.toArray ws.toArray n n2 dd dd2 sl sl2 (by simpa using hv) (by simp[hw])) ⟨ho,ho2,h1 hw⟩
 ·refine concat_meets ⟨_,ho,rfl⟩ ⟨_,ho2,rfl⟩ noFill_tuple_add seq_tuple_add PySem.F.slot_tuple_add PySem.F.entry_tuple_add (PySem.F.args_tuple_add_2 _ _)
   (tuple_addW2 t b vs.toArray ws.toArray n n2 dd dd2 sl sl2 (by simpa using hv) (by simpa using hw) (by rw[List.size_toArray,List.size_toArray];exact hsz)) ⟨ho,ho2,?_⟩
  rw[e]
  exact h2 hw
noncomputable def vd(n d:Nat):Option Int->Nat
 |none=>d
 |some v=>if v < 0 then (v+(n:Int)).toNat else min v.toNat n
def kS(n d:Nat):vd n d none=d:=rfl
def mV(n d k:Nat):vd n d (some (k:Int))=min k n:=by
 show(if (k:Int) < 0 then ((k:Int)+(n:Int)).toNat else min (k:Int).toNat n)=min k n
 rw[if_neg (by omega),Int.toNat_natCast]
def pC(n d:Nat)(hd:d<=n)(o:Option Int):vd n d o<=n:=by
 cases o with
 |none=>exact hd
 |some v=>
  show(if v < 0 then (v+(n:Int)).toNat else min v.toNat n)<=n
  by_cases hv:v < 0
  ·rw[if_pos hv];omega
  ·rw[if_neg hv];exact Nat.min_le_right _ _
def jg(v:Int)(n d:Nat):(if v < 0 then max (v+(n:Int)) 0 else min v (n:Int))=((vd n d (some v):Nat):Int):=by
 show(if v < 0 then max (v+(n:Int)) 0 else min v (n:Int))=(((if v < 0 then (v+(n:Int)).toNat else min v.toNat n):Nat):Int)
 by_cases hv:v < 0
 ·simp only[if_pos hv];omega
 ·simp only[if_neg hv];omega
def iH(lo hi:Option Int)(n:Nat):Builtin.Slice.sliceAdjust lo hi 1 (n:Int)=(((vd n 0 lo:Nat):Int),((vd n n hi:Nat):Int)):=by
 have h1:¬((1:Int) < 0):=by omega
 unfold Builtin.Slice.sliceAdjust
 simp only[h1,if_false]
 refine Prod.ext ?_ ?_
 ·cases lo with
  |none=>rfl
  |some v=>exact jg v n 0
 ·cases hi with
  |none=>rfl
  |some v=>exact jg v n n
def iI(i j:Nat):Builtin.Slice.slicePlaces (i:Int) (j:Int) 1=j - i:=by
 unfold Builtin.Slice.slicePlaces
 have h1:(1:Int) > 0:=by omega
 simp only[h1,if_true,Int.ediv_one]
 split<;>omega
def d5{v:Value}{o:Option Int}{Q:Option Int->Shared->Prop}(p:IsPart v o)(h:Q o s):wpAny (model prog w) A (Builtin.Slice.slicePartIndex v) Q E s:=by
 cases p with
 |none=>exact slicePart_none h
 |int i t=>exact slicePart_int h
def bx{sl:Addr}{vl vu:Value}{lo hi:Option Int}{n:Nat}{Q:Int×Int×Nat->Shared->Prop}(hs:s.heap.IsSliceOf sl vl vu .none)(pl:IsPart vl lo)(pu:IsPart vu hi)
  (h:Q (((vd n 0 lo:Nat):Int),1,vd n n hi - vd n 0 lo) s):wpAny (model prog w) A (Builtin.Slice.sliceApplied (.ref sl) (pure (n:Int))) Q E s:=by
 obtain⟨os,hos,hcs,hds⟩:=id hs
 unfold Builtin.Slice.sliceApplied Builtin.Slice.sliceFields
 refine wpAny_bind (wpAny_bind (wpAny_field hos hds (x:=vl) rfl (wpAny_bind (wpAny_field hos hds (x:=vu) rfl (wpAny_bind (wpAny_field hos hds (x:=.none) rfl (wpAny_pure ?_)))))))
 refine wpAny_bind (slicePart_none ?_)
 show wpAny _ _ (if ((1:Int) == 0)=true then _ else _) _ _ s
 rw[if_neg (by decide)]
 refine wpAny_bind (d5 pl (wpAny_bind (d5 pu (wpAny_bind (wpAny_pure ?_)))))
 show wpAny _ _ (match Builtin.Slice.sliceAdjust lo hi 1 (n:Int)with|(lo,hi)=>pure (lo,(1:Int),Builtin.Slice.slicePlaces lo hi 1)) _ _ s
 rw[iH lo hi n]
 show wpAny _ _ (pure (((vd n 0 lo:Nat):Int),(1:Int),Builtin.Slice.slicePlaces ((vd n 0 lo:Nat):Int) ((vd n n hi:Nat):Int) 1)) _ _ s
 rw[iI]
 exact wpAny_pure h
def kT(xs:Vw)(i k:Nat):((List.range k).filterMap fun(m:Nat)=>xs[((i:Int)+(m:Int) * 1).toNat]?).toArray=((xs.toList.drop i).take k).toArray:=by
 have e:(fun(m:Nat)=>xs[((i:Int)+(m:Int) * 1).toNat]?)=fun m=>xs[i+m]?:=by
  funext m
  have:((i:Int)+(m:Int) * 1).toNat=i+m:=by omega
  rw[this]
 rw[e]
 have:=pick_run xs i k
 rw[List.filterMap_map]at this
 have e2:((fun x=>xs[x]?) ∘ fun x=>i+x)=fun m=>xs[i+m]?:=rfl
 rw[e2]at this
 rw[this]
def cK{t sl:Addr}{items:Vw}{vl vu:Value}{lo hi:Option Int}{Q:Vq}(ht:IsTup s.heap t items)(hs:s.heap.IsSliceOf sl vl vu .none)(pl:IsPart vl lo)(pu:IsPart vu hi)
  (hw:¬(vd items.size 0 lo=0/\vd items.size items.size hi=items.size))
  (h:Q (.ref s.heap.objs.size) { s with heap:=s.heap.push { cls:=.type "tuple",data:=.seq ((items.toList.drop (vd items.size 0 lo)).take (vd items.size items.size hi - vd items.size 0 lo)).toArray } })
  (hsz:items.size<=sizeLine):wpAny (model prog w) A (getItem (.ref t) (.ref sl)) Q E s:=by
 have xh:sizeOk (.seq ((items.toList.drop (vd items.size 0 lo)).take (vd items.size items.size hi - vd items.size 0 lo)).toArray):=by
  show((items.toList.drop (vd items.size 0 lo)).take (vd items.size items.size hi - vd items.size 0 lo)).toArray.size<=sizeLine
  rw[List.size_toArray,List.length_take,List.length_drop,Array.length_toList]
  omega
 have hj:vd items.size items.size hi<=items.size:=pC _ _ (Nat.le_refl _) hi
 obtain⟨os,hos,hcs,hds⟩:=id hs
 have zn:s.TypeIs (.ref sl) "slice":=⟨os,hos,hcs⟩
 unfold getItem
 try with_reducible refine wpAny_holding ?_
 first|refine wpAny_bind (wpAny_pure ?_)|skip
 refine wpAny_bind (wpAny_sequenceKey ht.typeIs (by decide) ?_)
 refine wpAny_bind (wpAny_callSpecial?_slot (name:=Str.ofString "__getitem__") ht.typeIs PyProof.Rows.slot_tuple_getitem
  (wpAny_call_entry PyProof.Rows.slot_tuple_getitem ht.typeIs entry_tuple_getitem ?_ (args_tuple_getitem _ _)))
 show wpAny _ _ (Builtin.Tuple.tupleItemsOf (.ref t) >>= _) _ _ s
 refine wpAny_bind (tupleItemsOf_ ht ?_)
 refine wpAny_bind (wpAny_typeOf zn ?_)
 rw[if_pos (by decide)]
 refine wpAny_bind (bx hs pl pu ?_)
 have hno:¬((((vd items.size 0 lo:Nat):Int) == 0&&(1:Int) == 1&&(vd items.size items.size hi - vd items.size 0 lo) == items.size)=true):=by
  intro q
  rw[Bool.and_eq_true,Bool.and_eq_true]at q
  have q1:((vd items.size 0 lo:Nat):Int)=0:=eq_of_beq q.1.1
  have q2:vd items.size items.size hi - vd items.size 0 lo=items.size:=eq_of_beq q.2
  exact hw ⟨by omega,by omega⟩
 show wpAny _ _ (if (((vd items.size 0 lo:Nat):Int) == 0&&(1:Int) == 1&&(vd items.size items.size hi - vd items.size 0 lo) == items.size)=true then _ else _) _ _ s
 rw[if_neg hno,kT]
 first
  |exact wpAny_bind (m:=Builtin.Tuple.tupleExact _) (wpAny_newObj_type (wpAny_pure ⟨_,rfl,wpAny_pure h⟩) xh)
  |exact wpAny_bind (m:=Builtin.Tuple.tupleExact _) (wpAny_newObj_type (wpAny_bind (wpAny_pure (wpAny_pure ⟨_,rfl,wpAny_pure h⟩))) xh)
  |exact wpAny_bind (wpAny_bind (m:=Builtin.Tuple.tupleExact _) (wpAny_newObj_type (wpAny_pure (wpAny_pure ⟨_,rfl,wpAny_pure h⟩)) xh))
  |exact wpAny_bind (wpAny_bind (m:=Builtin.Tuple.tupleExact _) (wpAny_newObj_type (wpAny_pure ⟨_,rfl,wpAny_pure h⟩) xh))
end
end HT
namespace L2
open PySem PySem.Spec PyProof.Rows
abbrev TO:=St->Hp->(Option Int->Hp->Prop)->Prop
def PO(X:Cx)(e:Option Expr)(t:TO):Prop:=
 ∀(pins:Va) (s:Shared) (σ:St) (H:Hp) (Q:Option Int->Hp->Prop),Inv X pins σ H s->t σ H Q->
  wpAny (model X.prog X.w) X.A (evalPart e X.env) (fun u s'=>∃o H',Inv X pins σ H' s'/\IsPart u o/\Q o H') X.xe s
noncomputable def mW:TO:=fun _ H Q=>Q none H
noncomputable def rL(t:TE):TO:=fun σ H Q=>t σ H fun x H1=>∃i,x = .int i/\Q (some i) H1
def d6{ns:Vu}:∀{us:Vv},Vals (ns.map V.int) us->IntsAre us ns:=by
 induction ns with
 |nil=>intro us r;rw[List.map_nil]at r;cases r;exact .nil
 |cons n ns ih=>
  intro us r
  rw[List.map_cons]at r
  cases r with
  |cons r1 r2=>
   obtain⟨t,e⟩:=r1
   subst e
   exact .cons n t (ih r2)
section
variable {X:Cx} {e:Expr} {te:TE} {lo hi:Option Expr} {tl th:TO} {pos p2:Pos}
def mX:PO X none mW:=by
 intro pins s σ H Q I h
 rw[evalPart_none]
 exact wpAny_pure ⟨none,H,I,.none,h⟩
def mY(h:PE X e te):PO X (some e) (rL te):=by
 intro pins s σ H Q I hw
 rw[evalPart_some]
 refine va (h pins s σ H _ I hw) fun u s1 ⟨x,H1,I1,r1,q1⟩=>?_
 obtain⟨i,rfl,q⟩:=q1
 obtain⟨t,rfl⟩:=r1
 exact⟨some i,H1,I1,.int i t,q⟩
def qR(X:Cx)(r:V->Option Int->Option Int->Hp->VK->Prop):Prop:=
 ∀(pins:Va) (s:Shared) (σ:St) (H:Hp) (x:V) (v vl vu:Value) (lo hi:Option Int) (sl:Addr) (Q:VK),Inv X pins σ H s->RelV x v->s.heap.IsSliceOf sl vl vu .none->IsPart vl lo->IsPart vu hi->r x lo hi H Q->
  ∃T id,typeLookup (.type T) "__getitem__" = pure (some (.builtin id))/\s.TypeIs v T/\wpAny (model X.prog X.w) X.A (getItem v (.ref sl)) (EP X pins σ Q) X.xe s
def uM(r:V->Option Int->Option Int->Hp->VK->Prop)(te:TE)(tl th:TO):TE:=fun σ H Q=>te σ H fun x H1=>tl σ H1 fun l H2=>th σ H2 fun u H3=>r x l u H3 Q
def kU{r:V->Option Int->Option Int->Hp->VK->Prop}(hr:qR X r)(he:PE X e te)(hl:PO X lo tl)(hu:PO X hi th):PE X (.Subscript e (.Slice lo hi none p2) pos) (uM r te tl th):=by
 intro pins s σ H Q I h
 refine Subscript_ (va (he pins s σ H _ I h) fun v s1 ⟨x,H1,I1,r1,q1⟩=>?_)
 refine wpAny_Slice (va (hl pins s1 σ H1 _ I1 q1) fun vl s2 ⟨l,H2,I2,pl,q2⟩=>va (hu pins s2 σ H2 _ I2 q2) fun vu s3 ⟨u,H3,I3,pu,q3⟩=>?_)
 rw[evalPart_none]
 refine wpAny_pure ?_
 have I4:Inv X pins σ H3 { s3 with heap:=s3.heap.push { cls:=.type "slice",data:=.fields #[vl,vu,.none] } }:=I3.kept (t':=s3.toks) fun b ob q=>Heap.get?_push_of_some _ q
 obtain⟨T,id,hT,ht,hg⟩:=hr pins { s3 with heap:=s3.heap.push { cls:=.type "slice",data:=.fields #[vl,vu,.none] } } σ H3 x v vl vu l u s3.heap.objs.size Q I4 r1 (Heap.IsSliceOf.new ..) pl pu q3
 show wpAny (model X.prog X.w) X.A (subscriptTail e (.Slice lo hi none p2) v (.ref s3.heap.objs.size)) (EP X pins σ Q) X.xe { s3 with heap:=s3.heap.push { cls:=.type "slice",data:=.fields #[vl,vu,.none] } }
 exact tail_any (ops:=[.ref s3.heap.objs.size,v]) ht hT hg (by with_unfolding_all rfl)
noncomputable def d8(xs:List V)(lo hi:Option Int):List V:=(xs.drop (HT.vd xs.length 0 lo)).take (HT.vd xs.length xs.length hi - HT.vd xs.length 0 lo)
def dE(xs:List V)(lo hi:Option Int):(d8 xs lo hi).length<=xs.length:=by
 unfold d8
 rw[List.length_take,List.length_drop]
 omega
noncomputable def tR(K:Vo):V->Option Int->Option Int->Hp->VK->Prop:=fun x lo hi H Q=>∃a xs,x = .ref a/\v4 K H a xs/\
 ¬(HT.vd xs.length 0 lo=0/\HT.vd xs.length xs.length hi=xs.length)/\∀p,H p=none->Q (.ref p) (upd H p (.tup (d8 xs lo hi)))
def pD:qR X (tR X.K):=by
 intro pins s σ H x v vl vu lo hi sl Q I rx hs pl pu h
 obtain⟨a,xs,rfl,hx,hw,q⟩:=h
 cases rx
 obtain⟨its,r,ht,hz⟩:=I.tuple hx
 have hlen:its.toArray.size=xs.length:=by rw[List.size_toArray];exact r.length.symm
 refine⟨"tuple",_,PyProof.Rows.slot_tuple_getitem.lookup,ht.typeIs,?_⟩
 refine HT.cK ht hs pl pu (by rw[hlen];exact hw) ?_ (by rw[hlen];exact hz)
 rw[hlen]
 refine⟨.ref s.heap.objs.size,_,I.laid (t':=s.toks) (o:=.tup (d8 xs lo hi)) (fun b ob q=>Heap.get?_push_of_some _ q) (Nat.le_refl _) ?_,rfl,q _ (I.hok.fresh (Nat.le_refl _))⟩
 exact⟨Nat.le_trans (dE xs lo hi) hz,_,(r.drop (HT.vd xs.length 0 lo)).take (HT.vd xs.length xs.length hi - HT.vd xs.length 0 lo),vR.new _ _⟩
def rM(K:Vo):R2:=fun x y H Q=>∃a b xs ys,x = .ref a/\y = .ref b/\v4 K H a xs/\v4 K H b ys/\xs≠[]/\xs.length+ys.length<=sizeLine/\
 (ys=[]->Q (.ref a) H)/\(ys≠[]->∀p,H p=none->Q (.ref p) (upd H p (.tup (xs++ys))))
def Vals.wD{xs:List V}{us:Vv}(r:Vals xs us):us=[]↔xs=[]:=by
 cases r with
 |nil=>simp
 |cons _ _=>simp
def mZ:cZ X (binaryOp .Add) (rM X.K):=by
 intro pins s σ H x y v u Q I rx ry h
 obtain⟨a,b,xs,ys,rfl,rfl,ha,hb,hx,hz,q1,q2⟩:=h
 cases rx
 cases ry
 obtain⟨its,r1,p1,_⟩:=I.tuple ha
 obtain⟨its2,r2,p2,_⟩:=I.tuple hb
 refine HT.mU p1 p2 (fun z=>hx (r1.wD.mp z)) (fun z=>⟨.ref a,H,I,rfl,q1 (r2.wD.mp z)⟩) (fun z=>?_) (by rw[<-r1.length,<-r2.length];exact hz)
 refine⟨.ref s.heap.objs.size,_,I.laid (t':=s.toks) (o:=.tup (xs++ys)) (fun b ob q=>Heap.get?_push_of_some _ q) (Nat.le_refl _) ?_,rfl,q2 (fun w=>z (r2.wD.mpr w)) _ (I.hok.fresh (Nat.le_refl _))⟩
 exact⟨by rw[List.length_append];exact hz,_,r1.append r2,vR.new _ _⟩
end
noncomputable def my(n:Nat)(i:Int):Option Nat:=if 0<=i then (if i < n then some i.toNat else none) else if -(n:Int)<=i then some (i+n).toNat else none
noncomputable def vK{α:Type}(xs:List α)(i:Int):Option α:=(my xs.length i).bind fun j=>xs[j]?
def jh{n:Nat}{i:Int}{j:Nat}(h:my n i=some j):seqIndex? i n=some j/\j < n/\-(n:Int)<=i/\i < n:=by
 unfold my at h
 by_cases h0:0<=i
 ·rw[if_pos h0]at h
  by_cases h1:i < n
  ·rw[if_pos h1]at h
   have e:i.toNat=j:=Option.some.inj h
   exact⟨by rw[seqIndex_of h0 h1,e],by omega,by omega,h1⟩
  ·rw[if_neg h1]at h;cases h
 ·rw[if_neg h0]at h
  by_cases h1:-(n:Int)<=i
  ·rw[if_pos h1]at h
   have e:(i+n).toNat=j:=Option.some.inj h
   exact⟨by rw[seqIndex_neg (by omega) h1,e],by omega,h1,by omega⟩
  ·rw[if_neg h1]at h;cases h
def fX{α:Type}{xs:List α}{i:Int}{v:α}(h:vK xs i=some v):∃j,seqIndex? i xs.length=some j/\xs[j]?=some v/\j < xs.length/\-(xs.length:Int)<=i/\i < xs.length:=by
 unfold vK at h
 cases e:my xs.length i with
 |none=>rw[e]at h;cases h
 |some j=>
  rw[e]at h
  obtain⟨h1,h2,h3,h4⟩:=jh e
  exact⟨j,h1,h,h2,h3,h4⟩
def fY{α:Type}{xs:List α}{j:Nat}{v:α}(h:xs[j]?=some v):vK xs (j:Int)=some v:=by
 have hj:j < xs.length:=(List.getElem?_eq_some_iff.mp h).1
 have e:my xs.length (j:Int)=some j:=by
  unfold my
  rw[if_pos (by omega),if_pos (by omega)];simp
 unfold vK;rw[e];exact h
def dU(b:Expr):Prop:=∀o i,subscripted b false o i=operate [o,i] (getItem o i)
def qS(X:Cx)(r:R2):Prop:=
 ∀(value slice:Expr) (pins:Va) (s:Shared) (σ:St) (H:Hp) (x y:V) (v u:Value) (Q:VK),Inv X pins σ H s->RelV x v->RelV y u->r x y H Q->
  subscripted slice false v u=operate [v,u] (getItem v u)->wpAny (model X.prog X.w) X.A (subscriptTail value slice v u) (EP X pins σ Q) X.xe s
def sZ(X:Cx)(id:String)(r:V->List V->Hp->VK->Prop):Prop:=
 ∀(pins:Va) (s:Shared) (σ:St) (H:Hp) (x:V) (xs:List V) (v:Value) (us:Vv) (Q:VK),Inv X pins σ H s->RelV x v->Vals xs us->r x xs H Q->
  wpAny (model X.prog X.w) X.A (call (.builtin id) (v::us)) (EP X pins σ Q) X.xe s
section
variable {X:Cx} {a b:Expr} {ta tb:TE} {pos:Pos}
def rN{r:R2}(hr:qS X r)(ha:PE X a ta)(hb:PE X b tb)(hs:dU b):PE X (.Subscript a b pos) (rn r ta tb):=by
 intro pins s σ H Q I h
 exact Subscript_ (rq ha hb I h fun v u s2 x y H2 I2 rx ry q=>hr a b pins s2 σ H2 x y v u Q I2 rx ry q (hs _ _))
def tS(K:Vo):R2:=fun x y H Q=>∃p xs i v,x = .ref p/\y = .int i/\SqL K H p xs/\vK xs i=some v/\Q v H
def tT(K:Vo):R2:=fun x y H Q=>∃p xs i v,x = .ref p/\y = .int i/\v4 K H p xs/\vK xs i=some v/\Q v H
def tU:R2:=fun x y H Q=>∃z i c,x = .str z/\y = .int i/\z.length<=sizeLine/\vK z.cps.toList i=some c/\Q (.str ⟨#[c]⟩) H
def ji:qS X (tS X.K):=by
 intro value slice pins s σ H x y v u Q I rx ry h hs
 obtain⟨p,xs,i,z,rfl,rfl,hq,he,q⟩:=h
 cases rx
 obtain⟨t,rfl⟩:=ry
 obtain⟨its,r,pl,hz⟩:=I.list hq
 obtain⟨j,h1,h2,h3,h4,h5⟩:=fX he
 obtain⟨w,ew,rw'⟩:=r.get h2
 have hl:=r.length
 have hn:=c_
 have fin:EP X pins σ Q w s:=⟨z,H,I,rw',q⟩
 by_cases h0:0<=i
 ·have hj:i.toNat=j:=by
   rw[seqIndex_of h0 h5]at h1
   exact Option.some.inj h1
  exact item_listR pl.isList h0 (by omega) (by rw[hj];simpa using ew) fin hs
 ·have hj:(i+(its.toArray.size:Int)).toNat=j:=by
   rw[seqIndex_neg (by omega) h4]at h1
   rw[List.size_toArray,<-hl]
   exact Option.some.inj h1
  exact subscriptTail_builtinR (x:=w) pl.isList.typeIs slot_list_getitem.lookup
   (wpAny_getItem_list_neg (Q:=fun r s'=>r=w/\EP X pins σ Q r s') pl.isList (by omega) (by rw[List.size_toArray]<;>omega) (by omega) (by rw[hj];simpa using ew) ⟨rfl,fin⟩) hs
def pE:qS X (tT X.K):=by
 intro value slice pins s σ H x y v u Q I rx ry h hs
 obtain⟨p,xs,i,z,rfl,rfl,hq,he,q⟩:=h
 cases rx
 obtain⟨t,rfl⟩:=ry
 obtain⟨its,r,pl,hz⟩:=I.tuple hq
 obtain⟨j,h1,h2,h3,h4,h5⟩:=fX he
 obtain⟨w,ew,rw'⟩:=r.get h2
 have hl:=r.length
 have hn:=c_
 have fin:EP X pins σ Q w s:=⟨z,H,I,rw',q⟩
 exact subscriptTail_builtinR (x:=w) pl.typeIs slot_tuple_getitem.lookup
  (getItem_tuple (j:=j) (Q:=fun r s'=>r=w/\EP X pins σ Q r s') pl (by omega) (by omega) (by rw[List.size_toArray,<-hl];exact h1) (by simpa using ew) ⟨rfl,fin⟩) hs
def pF:qS X tU:=by
 intro value slice pins s σ H x y v u Q I rx ry h hs
 obtain⟨z,i,c,rfl,rfl,hz,he,q⟩:=h
 obtain⟨t,rfl⟩:=rx
 obtain⟨t',rfl⟩:=ry
 obtain⟨j,h1,h2,h3,h4,h5⟩:=fX he
 have hl:z.cps.toList.length=z.length:=by simp[Str.length]
 rw[hl]at h1 h4 h5
 have hn:=c_
 exact tail_any (typeIs_str s z t) slot_str_getitem.lookup (getItem_str (c:=c) (by
  have e1:decide (i < -(2 ^ 63:Int))=false:=decide_eq_false (by omega)
  have e2:decide (i>=2 ^ 63)=false:=decide_eq_false (by omega)
  rw[e1,e2,Bool.or_false]) (by rw[h1];simpa using h2) ⟨.str ⟨#[c]⟩,H,I.tok _,⟨_,rfl⟩,q⟩) hs
def iJ(its:Vv)(n j:Nat)(u:Value):Obj.mapSeq (·.setIfInBounds j u) { cls:=.type "list",data:=.seq its.toArray n }={ cls:=.type "list",data:=.seq (its.set j u).toArray n }:=by
 simp[Obj.mapSeq]
theorem Inv.lst{pins:Va}{σ:St}{H:Hp}{s:Shared}{p:Addr}{xs:List V}(I:Inv X pins σ H s)(h:H p=some (.lst xs)) :
  ∃(its:Vv) (n:Nat),Vals xs its/\s.heap.get? p=some { cls:=.type "list",data:=.seq its.toArray n }/\xs.length<=sizeLine:=by
 obtain⟨z,its,n,r,e⟩:=I.hok p _ h
 exact⟨its,n,r,e,z⟩
def Inv.yg{pins:Va}{σ:St}{H:Hp}{s:Shared}{p:Addr}{xs ys:List V}{its its':Vv}{n n':Nat}{f:Obj->Obj}(I:Inv X pins σ H s)(h:H p=some (.lst xs))
  (ho:s.heap.get? p=some { cls:=.type "list",data:=.seq its.toArray n }) (hf:f { cls:=.type "list",data:=.seq its.toArray n }={ cls:=.type "list",data:=.seq its'.toArray n' }) (r:Vals ys its') (hz:ys.length<=sizeLine) (t:Nat) :
  Inv X pins σ (upd H p (.lst ys)) { s with heap:=s.heap.update p f,toks:=t }:=by
 have e:(s.heap.update p f).get? p=some { cls:=.type "list",data:=.seq its'.toArray n' }:=by
  rw[Heap.get?_update_self f ho (by rw[hf]<;>rfl),hf]
 refine I.write (x:=p) (e:=p) (by rw[h];trivial) (.inl rfl) (fun b u hb q=>(Heap.get?_update_other _ _ (Ne.symm hb)).trans q) ⟨_,e⟩ ?_
 exact⟨hz,its',n',r,e⟩
noncomputable def rO:V->V->V->Hp->(Hp->Prop)->Prop:=fun o i v H Q=>∃p xs k j,o = .ref p/\i = .int k/\H p=some (.lst xs)/\my xs.length k=some j/\Q (upd H p (.lst (xs.set j v)))
def kW:mI X rO:=by
 intro pins s σ H o i v ov iv u Q I ro ri rv h
 obtain⟨p,xs,k,j,rfl,rfl,hp,hj,q⟩:=h
 cases ro
 obtain⟨t,rfl⟩:=ri
 obtain⟨its,n,r,ho,hz⟩:=I.lst hp
 obtain⟨h1,h2,h3,h4⟩:=jh hj
 have hl:=r.length
 have hn:=c_
 have I':Inv X pins σ (upd H p (.lst (xs.set j v))) { s with heap:=s.heap.update p (Obj.mapSeq (·.setIfInBounds j u)) }:=
  I.yg hp ho (iJ its n j u) (r.set rv j) (by rw[List.length_set];exact hz) s.toks
 by_cases h0:0<=k
 ·have hk:k.toNat=j:=by
   rw[seqIndex_of h0 h4]at h1
   exact Option.some.inj h1
  exact PySem.W.ki_setAt ho h0 (by omega) (by rw[List.size_toArray,<-hl];exact h4) (by rw[hk];exact⟨_,I',q⟩)
 ·have hk:(k+(its.toArray.size:Int)).toNat=j:=by
   rw[seqIndex_neg (by omega) h3]at h1
   rw[List.size_toArray,<-hl]
   exact Option.some.inj h1
  exact PySem.W.ki_setBack ho (by omega) (by rw[List.size_toArray,<-hl];exact h3) (by omega) (by rw[hk];exact⟨_,I',q⟩)
def fZ(lo hi:Option Int)(n:Nat):(sliceBounds lo hi none n).1=((HT.vd n 0 lo:Nat):Int)/\(sliceBounds lo hi none n).2.1=((HT.vd n n hi:Nat):Int)/\(sliceBounds lo hi none n).2.2=1:=by
 refine⟨?_,?_,rfl⟩
 ·cases lo with
  |none=>simp[sliceBounds,HT.vd]
  |some i=>
   simp only[sliceBounds,HT.vd,Option.getD_none,show(1:Int) > 0 by decide,if_true]
   by_cases h:i < 0
   ·simp only[h,if_true]<;>omega
   ·simp only[h,if_false]<;>omega
 ·cases hi with
  |none=>simp[sliceBounds,HT.vd]
  |some i=>
   simp only[sliceBounds,HT.vd,Option.getD_none,show(1:Int) > 0 by decide,if_true]
   by_cases h:i < 0
   ·simp only[h,if_true]<;>omega
   ·simp only[h,if_false]<;>omega
def e8(its:Vv)(lo hi:Option Int):slicePick its.toArray lo hi none=((its.drop (HT.vd its.length 0 lo)).take (HT.vd its.length its.length hi - HT.vd its.length 0 lo)).toArray:=by
 obtain⟨h1,h2,h3⟩:=fZ lo hi its.toArray.size
 unfold slicePick
 rw[h1,h2,h3]
 simp only[sliceRange_one,pick_run,List.size_toArray]<;>rfl
noncomputable def tV(K:Vo):V->Option Int->Option Int->Hp->VK->Prop:=fun x lo hi H Q=>∃a xs,x = .ref a/\SqL K H a xs/\∀p,H p=none->Q (.ref p) (upd H p (.lst (d8 xs lo hi)))
def jj:qR X (tV X.K):=by
 intro pins s σ H x v vl vu lo hi sl Q I rx hs pl pu h
 obtain⟨a,xs,rfl,hx,q⟩:=h
 cases rx
 obtain⟨its,r,ht,hz⟩:=I.list hx
 have hlen:=r.length
 refine⟨"list",_,slot_list_getitem.lookup,ht.isList.typeIs,?_⟩
 refine wpAny_getItem_list_slice ht.isList hs pl pu .none (by simp) ?_ (by rw[List.size_toArray]<;>omega)
 rw[e8,<-hlen]
 refine⟨.ref s.heap.objs.size,_,I.laid (t':=s.toks) (o:=.lst (d8 xs lo hi)) (fun b ob q=>Heap.get?_push_of_some _ q) (Nat.le_refl _) ?_,rfl,q _ (I.hok.fresh (Nat.le_refl _))⟩
 exact⟨Nat.le_trans (dE xs lo hi) hz,_,0,(r.drop (HT.vd xs.length 0 lo)).take (HT.vd xs.length xs.length hi - HT.vd xs.length 0 lo),Heap.get?_push_size _ rfl⟩
def bD:d4 X (.builtin "len") (fun xs H Q=>∃p ys,xs=[.ref p]/\(SqL X.K H p ys\/v4 X.K H p ys)/\Q (.int ys.length) H):=by
 intro pins s σ H xs us Q I r h
 obtain⟨p,ys,rfl,hq,q⟩:=h
 obtain⟨u,rfl,rx⟩:=gP r
 cases rx
 have hn:=c_
 rcases hq with hq|hq
 ·obtain⟨its,r',pl,hz⟩:=I.list hq
  have hlen:=r'.length
  exact Calls.call_len_list pl.isList (by simp only[List.size_toArray]<;>omega) ⟨.int ys.length,H,I.tok _,⟨s.toks+1,by rw[List.size_toArray,hlen]⟩,q⟩
 ·obtain⟨its,r',pl,hz⟩:=I.tuple hq
  have hlen:=r'.length
  exact len_tuple pl (by simp only[List.size_toArray]<;>omega) ⟨.int ys.length,H,I.tok _,⟨s.toks+1,by rw[List.size_toArray,hlen]⟩,q⟩
def f6:d4 X (.builtin "len") (fun xs H Q=>∃z,xs=[.str z]/\z.length<=sizeLine/\Q (.int z.length) H):=by
 intro pins s σ H xs us Q I r h
 obtain⟨z,rfl,hz,q⟩:=h
 obtain⟨u,rfl,t,rfl⟩:=gP r
 have hn:=c_
 exact len_str (by omega) ⟨.int z.length,H,I.tok _,⟨_,rfl⟩,q⟩
def s9(K:Vo)(T:String)(x:V)(H:Hp):Prop:=match x with
 | .str _=>T = "str"
 | .int _=>T = "int"
 | .ref p=>(T = "list"/\∃xs,SqL K H p xs)\/(T = "tuple"/\∃o,K.lookup p=some o/\o.cls = .type "tuple"/\o.dict=none) \/
   (T = "dict"/\((∃kvs,H p=some (.dK kvs))\/∃kvs,H p=some (.dT kvs)))\/(T = "set"/\∃S n,H p=some (.set S n))
 |_=>False
def kX{pins:Va}{σ:St}{H:Hp}{s:Shared}{T:String}{x:V}{v:Value}(I:Inv X pins σ H s)(r:RelV x v)(ty:s9 X.K T x H) :
  s.TypeIs v T/\∀a,v = .ref a->∃ob,s.heap.get? a=some ob/\ob.dict=none:=by
 cases x with
 |str z=>
  obtain⟨t,rfl⟩:=r
  cases (show T = "str" from ty)
  exact⟨typeIs_str s z t,fun _ e=>nomatch e⟩
 |int i=>
  obtain⟨t,rfl⟩:=r
  cases (show T = "int" from ty)
  exact⟨typeIs_int s i t,fun _ e=>nomatch e⟩
 |ref p=>
  cases r
  rcases ty with⟨rfl,xs,hq⟩|⟨rfl,o,hk,hc,hd⟩|⟨rfl,hk⟩|⟨rfl,S,n,hk⟩
  ·obtain⟨its,_,pl,_⟩:=I.list hq
   refine⟨pl.isList.typeIs,fun a e=>?_⟩
   cases e
   obtain⟨o,n,e,c,hd,_⟩:=pl
   exact⟨o,e,hd⟩
  ·refine⟨⟨o,I.xM p o hk,hc⟩,fun a e=>?_⟩
   cases e
   exact⟨o,I.xM _ o hk,hd⟩
  ·have z:∃o,s.heap.get? p=some o/\o.ExactDict:=by
    rcases hk with⟨kvs,hk⟩|⟨kvs,hk⟩
    ·obtain⟨_,_,_,_,o,_,_,e,ex,_⟩:=I.hok p _ hk
     exact⟨o,e,ex⟩
    ·obtain⟨_,_,_,_,o,_,_,e,ex,_⟩:=I.hok p _ hk
     exact⟨o,e,ex⟩
   obtain⟨o,e,ex⟩:=z
   refine⟨⟨o,e,ex.1⟩,fun a e2=>?_⟩
   cases e2
   exact⟨o,e,ex.2.1⟩
  ·obtain⟨o,_,_,_,e,ex,_⟩:=I.hok p _ hk
   refine⟨⟨o,e,ex.1⟩,fun a e2=>?_⟩
   cases e2
   exact⟨o,e,ex.2.1⟩
 |_=>exact False.elim ty
def tW(K:Vo)(T:String)(r:V->List V->Hp->VK->Prop)(to:TE):TE:=fun σ H Q=>to σ H fun x H1=>s9 K T x H1/\r x [] H1 Q
def uN(K:Vo)(T:String)(r:V->List V->Hp->VK->Prop)(to:TE)(t:TA):TE:=fun σ H Q=>to σ H fun x H1=>s9 K T x H1/\t σ H1 fun xs H2=>r x xs H2 Q
variable {o e:Expr} {es:List Expr} {to:TE} {t:TA} {name:Str} {apos cpos:Pos} {T id:String} {r:V->List V->Hp->VK->Prop}
def pG(pa:PlainAttrs T)(slot:Slot T name id)(hty:typeOf (.builtin id)=pure (.type "method_descriptor"))(hm:sZ X id r)(ho:PE X o to)
  (hbase:attributeBase o name X.env (eval o X.env)=eval o X.env:=by rfl) (hline:(apos.endLine == cpos.line)=true:=by rfl):PE X (.Call (.Attribute o name apos) [] [] cpos) (tW X.K T r to):=by
 intro pins s σ H Q I h
 refine wpAny_Call_method0_late hbase hline (va (ho pins s σ H _ I h) fun v s1 ⟨x,H1,I1,r1,ty,q1⟩=>?_)
 obtain⟨h1,h2⟩:=kX I1 r1 ty
 exact⟨T,id,pa,slot,hty,h1,h2,Calls.callWith_builtin rfl (PySem.evalArgs_none (hm pins s1 σ H1 x [] v [] Q I1 r1 .nil q1))⟩
def rP(pa:PlainAttrs T)(slot:Slot T name id)(hty:typeOf (.builtin id)=pure (.type "method_descriptor"))(hm:sZ X id r)(ho:PE X o to)(ha:PA X (e::es) t)
  (hbase:attributeBase o name X.env (eval o X.env)=eval o X.env:=by rfl)
  (hfew:((backTo cpos (starEach (e::es) X.env)).all (fun x=>!x.1)&&(backToKw cpos (keywordEach [] X.env)).all (fun x=>x.1.isSome)
   && decide ((e::es).length+([]:List Keyword).length+(if ([]:List Keyword).isEmpty then 0 else 1) < 30))=true:=by rfl)
  (hline:(apos.endLine == cpos.line)=true:=by rfl) (hs:starEach (e::es) X.env=(false,eval e X.env)::starEach es X.env:=by rfl) (hplain:(backTo cpos (starEach es X.env)).any (·.1)=false:=by rfl) :
  PE X (.Call (.Attribute o name apos) (e::es) [] cpos) (uN X.K T r to t):=by
 intro pins s σ H Q I h
 refine wpAny_Call_method_late hbase hfew hline rfl (va (ho pins s σ H _ I h) fun v s1 ⟨x,H1,I1,r1,ty,q1⟩=>?_)
 obtain⟨h1,h2⟩:=kX I1 r1 ty
 refine⟨T,id,pa,slot,hty,h1,h2,?_⟩
 have hA:=ha cpos pins s1 σ H1 _ I1 q1
 rw[hs]at hA ⊢
 refine Calls.callWith_builtin (by show(false || (backTo cpos (starEach es X.env)).any (·.1))=false;rw[hplain]<;>rfl) (Calls.evalArgs_plain ?_)
 exact va hA fun us s2 ⟨vs,H2,I2,r2,q2⟩=>hm pins s2 σ H2 x vs v us Q I2 r1 r2 q2
end
def rQ(X:Cx)(id:String)(r:V->List V->Hp->VK->Prop):Prop:=
 ∀(pins:Va) (s:Shared) (σ:St) (H:Hp) (x:V) (xs:List V) (v:Value) (us:Vv) (Q:VK),Inv X pins σ H s->RelV x v->Vals xs us->r x xs H Q->
  wpAny (model X.prog X.w) X.A (call (.builtin id) (v::us)) (EP X pins σ Q) X.xe s
theorem Vals.one:∀{x:V} {us:Vv},Vals [x] us->∃u,us=[u]/\RelV x u
 |_,_,.cons r .nil=>⟨_,rfl,r⟩
theorem Vals.zero:∀{us:Vv},Vals [] us->us=[]
 |_,.nil=>rfl
theorem Vals.dropLast{xs:List V}{us:Vv}(h:Vals xs us):Vals xs.dropLast us.dropLast:=by
 induction h with
 |nil=>exact .nil
 |cons r t ih=>
  cases t with
  |nil=>exact .nil
  |cons q t'=>exact .cons r ih
theorem Vals.eraseIdx:∀{xs:List V} {us:Vv} (i:Nat),Vals xs us->Vals (xs.eraseIdx i) (us.eraseIdx i)
 |_,_,_,.nil=>.nil
 |_,_,0,.cons _ t=>t
 |_,_,i+1,.cons r t=>.cons r (Vals.eraseIdx i t)
theorem Vals.reverse{xs:List V}{us:Vv}(h:Vals xs us):Vals xs.reverse us.reverse:=by
 induction h with
 |nil=>exact .nil
 |cons r t ih=>rw[List.reverse_cons,List.reverse_cons];exact Vals.append ih (.cons r .nil)
theorem Vals.rep{xs:List V}{us:Vv}(h:Vals xs us):∀k:Nat,Vals (List.replicate k xs).flatten (List.replicate k us).flatten
 |0=>.nil
 |k+1=>by
  rw[List.replicate_succ,List.replicate_succ,List.flatten_cons,List.flatten_cons]
  exact Vals.append h (Vals.rep h k)
def iK{α:Type}(l:List α):l.eraseIdx (l.length - 1)=l.dropLast:=by
 induction l with
 |nil=>rfl
 |cons a r ih=>
  cases r with
  |nil=>rfl
  |cons b r=>
   have e:(a::b::r).length - 1=((b::r).length - 1)+1:=by
    have h1:(a::b::r).length=r.length+2:=rfl
    have h2:(b::r).length=r.length+1:=rfl
    omega
   rw[e,List.eraseIdx_cons_succ,ih]
   all_goals rfl
theorem fw{α:Type}:∀(l:List α) (i:Nat),(l.eraseIdx i).length<=l.length
 |[],_=>Nat.le_refl _
 |_::_,0=>Nat.le_succ _
 |_::r,i+1=>Nat.succ_le_succ (fw r i)
theorem fx(its:Vv):∀(k:Nat) (acc:Vv),
  List.foldl (fun x1 x2=>x1++x2) acc.toArray (List.replicate k its.toArray)=(acc++(List.replicate k its).flatten).toArray
 |0,acc=>by simp
 |k+1,acc=>by
  have e:acc.toArray++its.toArray=(acc++its).toArray:=by simp
  have e2:(acc++its)++(List.replicate k its).flatten=acc++(List.replicate (k+1) its).flatten:=by
   rw[List.replicate_succ,List.flatten_cons,List.append_assoc]
  rw[<-e2,<-fx its k (acc++its),<-e,List.replicate_succ,List.foldl_cons]
section
variable {X:Cx} {pins:Va} {σ:St} {H:Hp} {s:Shared} {l b:Addr} {xs ys zs:List V}
def Inv.xF{its its':Vv}{n:Nat}{f:Array Value->Array Value}{t':Nat}(I:Inv X pins σ H s)(hH:H l=some (.lst xs))
  (e:s.heap.get? l=some { cls:=.type "list",data:=.seq its.toArray n }) (hf:f its.toArray=its'.toArray) (hv:Vals ys its') (hz:ys.length<=sizeLine) :
  Inv X pins σ (upd H l (.lst ys)) { s with heap:=s.heap.update l (Obj.mapSeq f),toks:=t' }:=by
 have q:=PySem.IsL.update e f
 rw[hf]at q
 refine I.write (x:=l) (e:=l) (by rw[hH];exact trivial) (.inl rfl) (fun b' u hb hu=>(Heap.get?_update_other s.heap (Obj.mapSeq f) (Ne.symm hb)).trans hu) ⟨_,q⟩ ?_
 exact⟨hz,its',_,hv,q⟩
def Inv.yF{its:Vv}{t':Nat}(I:Inv X pins σ H s)(hv:Vals ys its)(hz:ys.length<=sizeLine) :
  Inv X pins σ (upd H s.heap.objs.size (.lst ys)) { s with heap:=s.heap.push { cls:=.type "list",data:=.seq its.toArray },toks:=t' }:=
 I.laid (fun _ _ q=>Heap.get?_push_of_some _ q) (Nat.le_refl _) ⟨hz,its,0,hv,Heap.get?_push_size _ rfl⟩
theorem Inv.fresh(I:Inv X pins σ H s):H s.heap.objs.size=none:=I.hok.fresh (Nat.le_refl _)
def Inv.wE(I:Inv X pins σ H s)(hH:H l=some (.lst xs)):xs.length<=sizeLine/\∃(its:Vv) (n:Nat),Vals xs its/\xs.length=its.length/\s.heap.get? l=some { cls:=.type "list",data:=.seq its.toArray n }:=by
 obtain⟨z,its,n,r,e⟩:=I.hok l _ hH
 exact⟨z,its,n,r,r.length,e⟩
def gR{n:Nat}(h:n<=sizeLine):Builtin.List.listTooLong n=false:=by
 unfold Builtin.List.listTooLong
 exact decide_eq_false (by omega)
end
section
variable {X:Cx}
noncomputable def m4:V->List V->Hp->VK->Prop:=fun x vs H Q=>∃l xs y,x = .ref l/\vs=[y]/\H l=some (.lst xs)/\xs.length < sizeLine/\Q .non (upd H l (.lst (xs++[y])))
def jR:rQ X "list.append" m4:=by
 intro pins s σ H x vs v us Q I rx rv h
 obtain⟨l,xs,y,rfl,rfl,hH,hz,q⟩:=h
 cases rx
 obtain⟨u,rfl,ru⟩:=rv.one
 obtain⟨z,its,n,r,hl,e⟩:=I.wE hH
 refine call_meets F.slot_list_append ⟨_,e,rfl⟩ F.entry_list_append (F.args_list_append_2 _ _) (PySem.list_append l its.toArray n u (by rw[List.size_toArray];omega)) ⟨e,?_⟩
 refine⟨.non,_,I.xF (its':=its++[u]) hH e (by simp) (r.append (.cons ru .nil)) ?_,rfl,q⟩
 rw[List.length_append,List.length_singleton]
 omega
noncomputable def m5:V->List V->Hp->VK->Prop:=fun x vs H Q=>∃l b xs zs,x = .ref l/\vs=[.ref b]/\H l=some (.lst xs)/\H b=some (.lst zs)/\xs.length+zs.length<=sizeLine/\Q .non (upd H l (.lst (xs++zs)))
def jS:rQ X "list.extend" m5:=by
 intro pins s σ H x vs v us Q I rx rv h
 obtain⟨l,b,xs,zs,rfl,rfl,hH,hB,hz,q⟩:=h
 cases rx
 obtain⟨u,rfl,ru⟩:=rv.one
 cases ru
 obtain⟨z,its,n,r,hl,e⟩:=I.wE hH
 obtain⟨z2,its2,n2,r2,hl2,e2⟩:=I.wE hB
 have hsz:its.toArray.size+its2.toArray.size<=sizeLine:=by rw[List.size_toArray,List.size_toArray];omega
 have xG:¬(!its.toArray.isEmpty&&Builtin.List.listTooLong (its.toArray.size+its2.toArray.size))=true:=by
  rw[gR hsz,Bool.and_false]
  exact Bool.false_ne_true
 refine call_meets F.slot_list_extend ⟨_,e,rfl⟩ F.entry_list_extend (F.args_list_extend_2 _ _)
  (AutoSeq1.list_extend_list_list_0 l its.toArray n b its2.toArray n2 xG (by rw[List.size_toArray];omega) (by omega)) ⟨e,e2,?_⟩
 refine⟨.non,_,I.xF (its':=its++its2) hH e (by simp) (r.append r2) ?_,rfl,q⟩
 rw[List.length_append]
 omega
noncomputable def tX:V->List V->Hp->VK->Prop:=fun x vs H Q=>∃l xs y,x = .ref l/\vs=[]/\H l=some (.lst xs)/\xs[xs.length - 1]?=some y/\Q y (upd H l (.lst xs.dropLast))
def pH:rQ X "list.pop" tX:=by
 intro pins s σ H x vs v us Q I rx rv h
 obtain⟨l,xs,y,rfl,rfl,hH,hy,q⟩:=h
 cases rx
 have zo:=rv.zero
 subst zo
 obtain⟨z,its,n,r,hl,e⟩:=I.wE hH
 obtain⟨u,hu,ru⟩:=r.get hy
 have hy':its.toArray[its.toArray.size - 1]?=some u:=by
  show its.toArray[its.length - 1]?=some u
  rw[<-Array.getElem?_toList,<-hl]
  exact hu
 refine call_meets F.slot_list_pop ⟨_,e,rfl⟩ F.entry_list_pop (F.args_list_pop_1 _) (MeetsSeq.list_pop_last l its.toArray n u hy' (by rw[List.size_toArray];omega)) ⟨e,?_⟩
 refine⟨y,_,I.xF (its':=its.dropLast) hH e ?_ r.dropLast ?_,ru,q⟩
 ·show its.toArray.eraseIdxIfInBounds (its.toArray.size - 1)=its.dropLast.toArray
  rw[List.size_toArray,List.eraseIdxIfInBounds_toArray,iK]
 ·rw[List.length_dropLast]
  omega
noncomputable def pI:V->List V->Hp->VK->Prop:=fun x vs H Q=>∃l xs i k y,x = .ref l/\vs=[.int i]/\H l=some (.lst xs)/\-(2 ^ 63)<=i/\i < 2 ^ 63/\seqIndex? i xs.length=some k/\xs[k]?=some y/\Q y (upd H l (.lst (xs.eraseIdx k)))
def kY:rQ X "list.pop" pI:=by
 intro pins s σ H x vs v us Q I rx rv h
 obtain⟨l,xs,i,k,y,rfl,rfl,hH,h1,h2,hk,hy,q⟩:=h
 cases rx
 obtain⟨u,rfl,ru⟩:=rv.one
 obtain⟨t,rfl⟩:=ru
 obtain⟨z,its,n,r,hl,e⟩:=I.wE hH
 obtain⟨w,hw,rw'⟩:=r.get hy
 refine call_meets F.slot_list_pop ⟨_,e,rfl⟩ F.entry_list_pop (F.args_list_pop_2 _ _)
  (MeetsSeq.list_pop_at l its.toArray n i t k w (fitsIndex_both h1 h2) (by rw[List.size_toArray,<-hl];exact hk) (by rw[<-Array.getElem?_toList];exact hw) (by rw[List.size_toArray];omega)) ⟨e,?_⟩
 refine⟨y,_,I.xF (its':=its.eraseIdx k) hH e ?_ (r.eraseIdx k) ?_,rw',q⟩
 ·show its.toArray.eraseIdxIfInBounds k=(its.eraseIdx k).toArray
  rw[List.eraseIdxIfInBounds_toArray]
 ·have:=fw xs k
  omega
noncomputable def pJ:V->List V->Hp->VK->Prop:=fun x vs H Q=>∃l xs,x = .ref l/\vs=[]/\H l=some (.lst xs)/\Q .non (upd H l (.lst []))
def kZ:rQ X "list.clear" pJ:=by
 intro pins s σ H x vs v us Q I rx rv h
 obtain⟨l,xs,rfl,rfl,hH,q⟩:=h
 cases rx
 have zo:=rv.zero
 subst zo
 obtain⟨z,its,n,r,hl,e⟩:=I.wE hH
 refine call_meets F.slot_list_clear ⟨_,e,rfl⟩ F.entry_list_clear (F.args_list_clear_1 _) (AutoSeq1.list_clear_list_0 l its.toArray n (by rw[List.size_toArray];omega)) ⟨e,?_⟩
 exact⟨.non,_,I.xF (its':=[]) (ys:=[]) hH e rfl .nil (Nat.zero_le _),rfl,q⟩
def tY:R2:=fun x y H Q=>∃l b xs zs,x = .ref l/\y = .ref b/\H l=some (.lst xs)/\H b=some (.lst zs)/\xs.length+zs.length<=sizeLine/\∀p,H p=none->Q (.ref p) (upd H p (.lst (xs++zs)))
def pK:cZ X (binaryOp .Add) tY:=by
 intro pins s σ H x y v u Q I rx ry h
 obtain⟨l,b,xs,zs,rfl,rfl,hH,hB,hz,q⟩:=h
 cases rx
 cases ry
 obtain⟨z,its,n,r,hl,e⟩:=I.wE hH
 obtain⟨z2,its2,n2,r2,hl2,e2⟩:=I.wE hB
 refine PySem.P.add_list e e2 ?_ (by rw[List.size_toArray,List.size_toArray];omega)
 have ea:its.toArray++its2.toArray=(its++its2).toArray:=by simp
 rw[ea]
 exact⟨.ref _,_,I.yF (t':=s.toks) (r.append r2) (by rw[List.length_append];omega),rfl,q _ I.fresh⟩
def tZ:R2:=fun x y H Q=>∃l k xs,x = .ref l/\y = .int k/\H l=some (.lst xs)/\-(2 ^ 63)<=k/\k < 2 ^ 63/\xs.length * k.toNat<=sizeLine/\
 ∀p,H p=none->Q (.ref p) (upd H p (.lst (List.replicate k.toNat xs).flatten))
def m6{α:Type}(xs:List α)(k:Nat):(List.replicate k xs).flatten.length=k * xs.length:=by
 induction k with
 |zero=>simp
 |succ k ih=>rw[List.replicate_succ,List.flatten_cons,List.length_append,ih,Nat.succ_mul,Nat.add_comm]
def pL:cZ X (binaryOp .Mult) tZ:=by
 intro pins s σ H x y v u Q I rx ry h
 obtain⟨l,k,xs,rfl,rfl,hH,h1,h2,hz,q⟩:=h
 cases rx
 obtain⟨t,rfl⟩:=ry
 obtain⟨z,its,n,r,hl,e⟩:=I.wE hH
 have hlen:its.toArray.size * k.toNat<=sizeLine:=by rw[List.size_toArray,<-hl];exact hz
 have hcap:¬its.toArray.size * k.toNat > (2 ^ 63 - 1) / 8:=by
  have:(sizeLine:Nat)<=(2 ^ 63 - 1) / 8:=by decide
  omega
 have hfit:¬(!Builtin.List.listFitsIndex k)=true:=by
  rw[fitsIndex_both h1 h2]
  exact Bool.false_ne_true
 have xG:¬Builtin.List.listTooLong (its.toArray.size * k.toNat)=true:=by
  rw[gR hlen]
  exact Bool.false_ne_true
 have hnew:List.foldl (fun x1 x2=>x1++x2) #[] (List.replicate (if its.toArray.isEmpty=true then 0 else k.toNat) its.toArray)=(List.replicate k.toNat its).flatten.toArray:=by
  have f0:∀m:Nat,List.foldl (fun x1 x2=>x1++x2) #[] (List.replicate m its.toArray)=(List.replicate m its).flatten.toArray:=fun m=>by
   have:=fx its m []
   rw[List.nil_append]at this
   exact this
  rw[f0]
  cases its with
  |nil=>simp
  |cons a r'=>rw[if_neg (by simp)]
 refine wpAny_binaryOp_repeat_ref (T:="list") (U:="int") (by decide) ⟨_,e,rfl⟩ (fun s'=>typeIs_int s' k t) noFill_list_mul F.fills_int_mul F.slot_int_rmul repeat_list F.slot_int_index.lookup
  (call_meets F.slot_int_rmul (typeIs_int s k t) F.entry_int_rmul (F.args_int_rmul_2 _ _) (int___rmul___int_list k t l its.toArray n)
   ⟨e,rfl,⟨_,e,rfl⟩,call_meets F.slot_list_mul ⟨_,e,rfl⟩ F.entry_list_mul (F.args_list_mul_2 _ _) (AutoListH.list___mul___list_int_3 l its.toArray n k t hfit hcap xG) ⟨e,?_⟩⟩)
 rw[hnew]
 exact⟨.ref _,_,I.yF (t':=s.toks) (r.rep k.toNat) (by rw[m6,Nat.mul_comm];exact hz),rfl,q _ I.fresh⟩
end
section
variable {prog:Program} {w:World} {A:Around} {E:Vq} {s:Shared}
end
section
variable {X:Cx}
end
section
variable {κ:Type} [DecidableEq κ]
noncomputable def cq(kvs:List (κ×V))(k:κ):Option V:=(kvs.find? fun kv=>decide (kv.1=k)).map (·.2)
noncomputable def bU(kvs:List (κ×V))(k:κ)(v:V):List (κ×V):=
 if (kvs.any fun kv=>decide (kv.1=k))=true then kvs.map (fun kv=>if kv.1=k then (kv.1,v) else kv) else kvs++[(k,v)]
def vA{p:κ×V}{r:List (κ×V)}{k:κ}(e:p.1=k):cq (p::r) k=some p.2:=by simp[cq,List.find?_cons,e]
def vB{p:κ×V}{r:List (κ×V)}{k:κ}(e:¬p.1=k):cq (p::r) k=cq r k:=by simp[cq,List.find?_cons,e]
theorem d9(k:κ):∀kvs:List (κ×V),(kvs.any fun kv=>decide (kv.1=k))=(cq kvs k).isSome
 |[]=>rfl
 |p::r=>by
  rw[List.any_cons]
  by_cases e:p.1=k
  ·simp only[vA e,decide_eq_true e,Bool.true_or,Option.isSome_some]
  ·rw[vB e,decide_eq_false e,Bool.false_or];exact d9 k r
def bV(kvs:List (κ×V))(k:κ)(v:V):(bU kvs k v).length<=kvs.length+1:=by
 unfold bU
 split
 ·rw[List.length_map];omega
 ·rw[List.length_append,List.length_cons,List.length_nil];omega
def RelO.v6{o:Option V}{u:Option Value}(r:RelO o u):o.isSome=u.isSome:=by
 cases o with
 |none=>cases u with
  |none=>rfl
  |some _=>exact(show False from r).elim
 |some _=>cases u with
  |none=>exact(show False from r).elim
  |some _=>rfl
theorem RelO.getD{o:Option V}{u:Option Value}{d:V}{d':Value}(r:RelO o u)(rd:RelV d d'):RelV (o.getD d) (u.getD d'):=by
 cases o with
 |none=>cases u with
  |none=>exact rd
  |some _=>exact(show False from r).elim
 |some _=>cases u with
  |none=>exact(show False from r).elim
  |some _=>exact r
def KV.val{kvs:List (κ×V)}{vs:List (κ×Value)}(r:KV kvs vs)(k:κ):RelO (cq kvs k) (valueAt vs k):=by
 unfold KV at r
 induction r with
 |nil=>exact True.intro
 |@cons p q ps qs h t ih=>
  obtain⟨h1,h2⟩:=h
  by_cases e:p.1=k
  ·have e':q.1=k:=h1.symm.trans e
   have b:valueAt (q::qs) k=some q.2:=by simp[valueAt,List.find?_cons,e']
   rw[vA e,b];exact h2
  ·have e':¬q.1=k:=fun z=>e (h1.trans z)
   have b:valueAt (q::qs) k=valueAt qs k:=by simp[valueAt,List.find?_cons,e']
   rw[vB e,b];exact ih
theorem KV.any{kvs:List (κ×V)}{vs:List (κ×Value)}(r:KV kvs vs)(k:κ):(kvs.any fun kv=>decide (kv.1=k))=vs.any fun kv=>decide (kv.1=k):=by
 unfold KV at r
 induction r with
 |nil=>rfl
 |cons h t ih=>rw[List.any_cons,List.any_cons,ih,h.1]
def KV.repl{kvs:List (κ×V)}{vs:List (κ×Value)}(r:KV kvs vs)(k:κ){y:V}{u:Value}(ry:RelV y u) :
  KV (kvs.map fun kv=>if kv.1=k then (kv.1,y) else kv) (vs.map fun kv=>if kv.1=k then (kv.1,u) else kv):=by
 unfold KV at r ⊢
 induction r with
 |nil=>exact .nil
 |@cons p q ps qs h t ih=>
  rw[List.map_cons,List.map_cons]
  refine .cons ?_ ih
  obtain⟨h1,h2⟩:=h
  by_cases e:p.1=k
  ·rw[if_pos e,if_pos (h1.symm.trans e)];exact⟨h1,ry⟩
  ·rw[if_neg e,if_neg (fun z=>e (h1.trans z))];exact⟨h1,h2⟩
def KV.put{kvs:List (κ×V)}{vs:List (κ×Value)}(r:KV kvs vs)(k:κ){y:V}{u:Value}(ry:RelV y u):KV (bU kvs k y) (stored vs k u):=by
 unfold bU stored
 rw[r.any k]
 by_cases e:(vs.any fun kv=>decide (kv.1=k))=true
 ·rw[if_pos e,if_pos e];exact r.repl k ry
 ·rw[if_neg e,if_neg e];exact Paired.snoc r ⟨rfl,ry⟩
theorem KV.length{kvs:List (κ×V)}{vs:List (κ×Value)}(r:KV kvs vs):kvs.length=vs.length:=Paired.length r
end
def fy{P:Program}{w:World}{k:aC}{u:Value}(r:RelV (kV k) u):(aq P w).is k u=true:=by
 cases k with
 |inl i=>obtain⟨t,e⟩:=(show ∃t,u=Value.int i t from r);subst e;exact gL P w i t
 |inr x=>obtain⟨t,e⟩:=(show ∃t,u=Value.str x t from r);subst e;exact gM P w x t
theorem fz{P:Program}{w:World}:∀{ks:List aC} {us:Vv},Vals (ks.map kV) us->ItemsAre (aq P w) ks us
 |[],_,r=>by rw[List.map_nil]at r;cases r;exact .nil
 |k::ks,_,r=>by
  rw[List.map_cons]at r
  cases r with
  |cons h t=>exact .cons (fy h) (fz t)
noncomputable abbrev KT(H:Hp):List (List aC×V)->List (List aC×Addr×Value)->Prop:=Paired fun p q=>p.1=q.1/\H q.2.1=some (.tup (p.1.map kV))/\RelV p.2 q.2.2
def KT.val{H:Hp}{kvs:List (List aC×V)}{xs:List (List aC×Addr×Value)}(r:KT H kvs xs)(k:List aC):RelO (cq kvs k) ((atKey xs k).map (·.2)):=by
 induction r with
 |nil=>exact True.intro
 |@cons p q ps qs h t ih=>
  obtain⟨h1,_,h2⟩:=h
  by_cases e:p.1=k
  ·have e':q.1=k:=h1.symm.trans e
   have b:atKey (q::qs) k=some q.2:=by simp[atKey,List.find?_cons,e']
   rw[vA e,b];exact h2
  ·have e':¬q.1=k:=fun z=>e (h1.trans z)
   have b:atKey (q::qs) k=atKey qs k:=by simp[atKey,List.find?_cons,e']
   rw[vB e,b];exact ih
def KT.repl{H:Hp}{kvs:List (List aC×V)}{xs:List (List aC×Addr×Value)}(r:KT H kvs xs)(k:List aC){y:V}{u:Value}(ry:RelV y u) :
  KT H (kvs.map fun kv=>if kv.1=k then (kv.1,y) else kv) (xs.map (putAt k u)):=by
 induction r with
 |nil=>exact .nil
 |@cons p q ps qs h t ih=>
  rw[List.map_cons,List.map_cons]
  refine .cons ?_ ih
  obtain⟨h1,h2,h3⟩:=h
  unfold putAt
  by_cases e:p.1=k
  ·rw[if_pos e,if_pos (h1.symm.trans e)];exact⟨h1,h2,ry⟩
  ·rw[if_neg e,if_neg (fun z=>e (h1.trans z))];exact⟨h1,h2,h3⟩
def KT.put{H:Hp}{kvs:List (List aC×V)}{xs:List (List aC×Addr×Value)}(r:KT H kvs xs)(k:List aC){b:Addr}{y:V}{u:Value}(hb:H b=some (.tup (k.map kV)))(ry:RelV y u) :
  KT H (bU kvs k y) (storedH xs k b u):=by
 have e:(kvs.any fun kv=>decide (kv.1=k))=(atKey xs k).isSome:=by
  rw[d9,(r.val k).v6,Option.isSome_map]
 unfold bU storedH
 rw[e]
 by_cases q:(atKey xs k).isSome=true
 ·rw[if_pos q,if_pos q];exact r.repl k ry
 ·rw[if_neg q,if_neg q];exact Paired.snoc r ⟨rfl,hb,ry⟩
def KT.keeps{H H':Hp}{kvs:List (List aC×V)}{xs:List (List aC×Addr×Value)}(r:KT H kvs xs)(ht:∀b ys,H b=some (.tup ys)->H' b=some (.tup ys)):KT H' kvs xs:=
 Paired.ya r fun _ _ z=>⟨z.1,ht _ _ z.2.1,z.2.2⟩
section
variable {P:Program} {w:World} {H:Hp} {h:Heap} {a:Addr}
def oE{u:HO}(ok:vW P w H h)(e:Rd H a u):ObjOk P w H h a u:=e.ok ok
def gS{kvs:List (aC×V)}(ok:vW P w H h)(e:Rd H a (.dK kvs)):kvs.length<=sizeLine/\(a == sysModules)=false/\∃vs,KV kvs vs/\h.DictOf (aq P w) a vs:=
 show ObjOk P w H h a (.dK kvs)from oE ok e
def oF{kvs:List (aC×V)}(ok:vW P w H h)(e:H a=some (.dK kvs)):kvs.length<=sizeLine/\(a == sysModules)=false/\∃vs,KV kvs vs/\h.DictOf (aq P w) a vs:=gS ok (.inl e)
def bE{ks:List aC}(ok:vW P w H h)(e:H a=some (.tup (ks.map kV))):(tupleKind (aq P w)).is h ks a:=by
 obtain⟨_,its,r,o,h1,_,h2,n,h3⟩:=(show ObjOk P w H h a (.tup (ks.map kV))from ok a _ e)
 exact⟨o,its.toArray,n,h1,h2,h3,by simpa using fz r⟩
def jk{kvs:List (List aC×V)}(ok:vW P w H h)(e:Rd H a (.dT kvs)):kvs.length<=sizeLine/\(a == sysModules)=false/\
  ∃xs,KT H kvs xs/\h.DictOfH (tupleKind (aq P w)) a xs:=by
 obtain⟨z,y,xs,r,o,es,ep,h1,h2,h3,h4,h5⟩:=(show ObjOk P w H h a (.dT kvs)from oE ok e)
 refine⟨z,y,xs,r,o,es,ep,h1,h2,h3,h4,fun x hx=>?_,h5⟩
 have all:∀{l:List (List aC×V)} {m:List (List aC×Addr×Value)},KT H l m->∀x∈m,(tupleKind (aq P w)).is h x.1 x.2.1:=by
  intro l m q
  induction q with
  |nil=>intro x hx;exact nomatch hx
  |@cons p q ps qs hq t ih=>
   intro x hx
   rcases List.mem_cons.mp hx with e|hx
   ·subst e
    exact bE ok (by rw[<-hq.1];exact hq.2.1)
   ·exact ih x hx
 exact all r x hx
def rR{kvs:List (List aC×V)}(ok:vW P w H h)(e:H a=some (.dT kvs)):kvs.length<=sizeLine/\(a == sysModules)=false/\
  ∃xs,KT H kvs xs/\h.DictOfH (tupleKind (aq P w)) a xs:=jk ok (.inl e)
end
def DGet(H:Hp)(a:Addr)(y:V)(r:Option V):Prop:=
 (∃kvs k,Rd H a (.dK kvs)/\y=kV k/\r=cq kvs k)\/∃kvs k b,Rd H a (.dT kvs)/\y = .ref b/\H b=some (.tup (k.map kV))/\r=cq kvs k
def xH(H:Hp)(a:Addr)(y v:V)(H':Hp):Prop:=
 (∃kvs k,H a=some (.dK kvs)/\y=kV k/\kvs.length < sizeLine/\H'=upd H a (.dK (bU kvs k v))) \/
 ∃kvs k b,H a=some (.dT kvs)/\y = .ref b/\H b=some (.tup (k.map kV))/\kvs.length < sizeLine/\H'=upd H a (.dT (bU kvs k v))
theorem DGet.k{H:Hp}{a:Addr}{kvs:List (aC×V)}{k:aC}(e:H a=some (.dK kvs)):DGet H a (kV k) (cq kvs k):=.inl ⟨kvs,k,.inl e,rfl,rfl⟩
theorem xH.k{H:Hp}{a:Addr}{kvs:List (aC×V)}{k:aC}{v:V}(e:H a=some (.dK kvs))(hl:kvs.length < sizeLine):xH H a (kV k) v (upd H a (.dK (bU kvs k v))):=.inl ⟨kvs,k,e,rfl,hl,rfl⟩
section
variable {X:Cx} {pins:Va} {σ:St} {H:Hp} {s:Shared} {a:Addr} {y v:V} {u r:Value} {o:Option V} {A:Around} {E:Vq}
def Inv.big(I:Inv X pins σ H s):sysModules < s.heap.objs.size:=by
 have h:mainGlobals < s.heap.objs.size:=(I.mod.glob.keeps I.bk).lt
 exact Nat.lt_trans (by decide) h
def jT{Q:Vq}(hu:A.units+1 < cLine)(I:Inv X pins σ H s)(g:DGet H a y (some v))(ry:RelV y u)(h:∀w' s',Inv X pins σ H s'->RelV v w'->Q w' s') :
  wpAny (model X.prog X.w) A (getItem (.ref a) u) Q E s:=by
 rcases g with⟨kvs,k,e,ey,l⟩|⟨kvs,k,b,e,ey,eb,l⟩
 ·subst ey
  obtain⟨z,hd,vs,rel,dd⟩:=gS I.hok e
  obtain⟨w',hw,rw'⟩:=RelO.some_of (v:=v) (o:=valueAt vs k) (by rw[l];exact rel.val k)
  exact wpAny_getItem_of (fy ry) dd.mapOf hw (h w' _ (I.tok _) rw')
 ·subst ey
  cases (show u=Value.ref b from ry)
  obtain⟨z,hd,xs,rel,dd⟩:=jk I.hok e
  obtain⟨w',hw,rw'⟩:=RelO.some_of (v:=v) (o:=(atKey xs k).map (·.2)) (by rw[l];exact rel.val k)
  obtain⟨p,hp,hp2⟩:=Option.map_eq_some_iff.mp hw
  refine wpAny_getItem_heap (tupleKind_room_in1 hu) (bE I.hok eb) dd hp ?_
  rw[hp2]
  exact h w' _ (I.tok _) rw'
def rT{Q:Vq}(hu:A.units+1 < cLine)(I:Inv X pins σ H s)(g:DGet H a y o)(ry:RelV y u)(h:∀s',Inv X pins σ H s'->Q (.bool o.isSome) s') :
  wpAny (model X.prog X.w) A (compareOp .In u (.ref a)) Q E s:=by
 rcases g with⟨kvs,k,e,ey,l⟩|⟨kvs,k,b,e,ey,eb,l⟩
 ·subst ey
  obtain⟨z,hd,vs,rel,dd⟩:=gS I.hok e
  refine wpAny_in_of (fy ry) hd dd.mapOf ?_
  rw[<-(rel.val k).v6,<-l]
  exact h _ (I.tok _)
 ·subst ey
  cases (show u=Value.ref b from ry)
  obtain⟨z,hd,xs,rel,dd⟩:=jk I.hok e
  refine wpAny_in_heap (tupleKind_room_in1 hu) (bE I.hok eb) hd dd ?_
  have q:=(rel.val k).v6
  rw[Option.isSome_map]at q
  rw[<-q,<-l]
  exact h _ (I.tok _)
def f7{h':Heap}{t':Nat}{ob:HO}(I:Inv X pins σ H s)(mu:q_ (H a))(hs:Heap.SameBut a s.heap h')(he:∃q,h'.get? a=some q)(new:ObjOk X.prog X.w (upd H a ob) h' a ob) :
  Inv X pins σ (upd H a ob) { s with heap:=h',toks:=t' }:=
 I.write (x:=a) (e:=a) mu (.inl rfl) (fun b q hb z=>(hs.2 b hb).trans z) he new
def k0{P:Program}{w:World}{H':Hp}{h':Heap}{kvs:List (aC×V)}{vs:List (aC×Value)}(z:kvs.length<=sizeLine)(hd:(a == sysModules)=false)(rel:KV kvs vs)(dd:h'.DictOf (aq P w) a vs) :
  ObjOk P w H' h' a (.dK kvs):=⟨z,hd,vs,rel,dd⟩
def jU{H':Hp}{Q:Unit->Shared->Prop}(hu:A.units+1 < cLine)(I:Inv X pins σ H s)(g:xH H a y v H')(ry:RelV y u)(rv:RelV v r)(h:∀s',Inv X pins σ H' s'->Q () s') :
  wpAny (model X.prog X.w) A (setItem (.ref a) u r) Q E s:=by
 rcases g with⟨kvs,k,e,ey,l,eH⟩|⟨kvs,k,b,e,ey,eb,l,eH⟩
 ·subst ey eH
  obtain⟨z,hd,vs,rel,dd⟩:=oF I.hok e
  have hz:vs.length<=sizeLine:=by rw[<-rel.length];exact z
  have hl:(bU kvs k v).length<=sizeLine:=by have:=bV kvs k v;omega
  refine wpAny_setItem_pairs (hsz:=hz) (fy ry) dd fun h' yh hs=>h _ ?_
  have he:∃q,h'.get? a=some q:=let ⟨q,_,_,hq,_⟩:=yh;⟨q,hq⟩
  exact f7 I (by rw[e];exact True.intro) hs he (k0 hl hd (rel.put k rv) yh)
 ·subst ey eH
  cases (show u=Value.ref b from ry)
  obtain⟨z,hd,xs,rel,dd⟩:=rR I.hok e
  have hz:xs.length<=sizeLine:=by rw[<-Paired.length rel];exact z
  have hl:(bU kvs k v).length<=sizeLine:=by have:=bV kvs k v;omega
  refine wpAny_setItem_heap (hsz:=hz) (tupleKind_room_in1 hu) (bE I.hok eb) dd fun h' yh hs=>h _ ?_
  obtain⟨q,es,ep,hq,h2,h3,h4,_,h5⟩:=yh
  refine f7 I (by rw[e];exact True.intro) hs ⟨q,hq⟩ ⟨hl,hd,_,(rel.put k eb rv).keeps fun c ys ec=>?_,q,es,ep,hq,h2,h3,h4,h5⟩
  rw[al (q9 ec e (fun z=>nomatch z))]
  exact ec
end
section
variable {X:Cx} {pins:Va} {σ:St} {H:Hp} {s:Shared} {a:Addr} {kvs:List (aC×V)} {k:aC} {u:Value} {A:Around} {E:Vq}
def rV{Q:Vq}(I:Inv X pins σ H s)(e:Rd H a (.dK kvs))(h:∀t s',Inv X pins σ H s'->Q (.int kvs.length t) s'):wpAny (model X.prog X.w) A (call (.builtin "len") [.ref a]) Q E s:=by
 obtain⟨z,hd,vs,rel,dd⟩:=gS I.hok e
 refine call_len_dict hd dd (by rw[<-rel.length];rw[sizeLine_eq]at z;omega) ?_
 rw[<-rel.length]
 exact h _ _ (I.tok _)
end
def gT{X:Cx}{pins:Va}{σ:St}{H:Hp}{s:Shared}{a:Addr}{y:V}{o:Option V}(I:Inv X pins σ H s)(g:DGet H a y o):s.TypeIs (.ref a) "dict":=by
 rcases g with⟨kvs,k,e,_,_⟩|⟨kvs,k,b,e,_,_,_⟩
 ·obtain⟨_,_,vs,_,dd⟩:=gS I.hok e
  exact dd.typeIs
 ·obtain⟨_,_,xs,_,dd⟩:=jk I.hok e
  exact dd.typeIs
section
variable {X:Cx} {o i e value:Expr} {pos pos' tpos:Pos} {td ty tv:TE}
end
def k4{P:Program}{w:World}{H:Hp}(h:Heap)(hb:sysModules < h.objs.size):ObjOk P w H (h.push { cls:=.type "dict",data:=.dict #[] }) h.objs.size (.dK []):=
 ⟨Nat.zero_le _,beq_eq_false_iff_ne.mpr (Ne.symm (Nat.ne_of_lt hb)),[],.nil,Heap.DictOf.new h⟩
section
variable {X:Cx} {pos:Pos}
end
noncomputable def f8:List (TE×TE)->St->Hp->(List (V×V)->Hp->Prop)->Prop
 |[],_,H,Q=>Q [] H
 |(tk,tv)::r,σ,H,Q=>tk σ H fun x H1=>tv σ H1 fun y H2=>f8 r σ H2 fun ps H3=>Q ((x,y)::ps) H3
noncomputable abbrev VV:List (V×V)->List (Value×Value)->Prop:=Paired fun p q=>RelV p.1 q.1/\RelV p.2 q.2
def rW(X:Cx)(pos:Pos)(keys:List (Option Expr))(values:List Expr)(wk:List (TE×TE)):Prop:=
 ∀(pins:Va) (s:Shared) (σ:St) (H:Hp) (Q:List (V×V)->Hp->Prop),Inv X pins σ H s->f8 wk σ H Q->
  wpAny (model X.prog X.w) X.A (evalPairs (pairTrees keys values X.env pos)) (fun vs s'=>∃ps H',Inv X pins σ H' s'/\VV ps vs/\Q ps H') X.xe s
def m7{X:Cx}{pos:Pos}:rW X pos [] [] []:=fun pins s σ H Q I h=>pairTrees_nil_walk ⟨[],H,I,.nil,h⟩
def k5{X:Cx}{pos:Pos}{k v:Expr}{ks:List (Option Expr)}{vs:List Expr}{tk tv:TE}{wk:List (TE×TE)}(hk:PE X k tk)(hv:PE X v tv)(hr:rW X pos ks vs wk) :
  rW X pos (some k::ks) (v::vs) ((tk,tv)::wk):=fun pins s σ H Q I h=>
 pairTrees_cons_walk (va (hk pins s σ H _ I h) fun u s1 ⟨x,H1,I1,rx,q1⟩=>va (hv pins s1 σ H1 _ I1 q1) fun w2 s2 ⟨y,H2,I2,ry,q2⟩=>
  va (hr pins s2 σ H2 _ I2 q2) fun ws s3 ⟨ps,H3,I3,rel,q3⟩=>⟨(x,y)::ps,H3,I3,.cons ⟨rx,ry⟩ rel,q3⟩)
noncomputable def dc(kvs more:List (aC×V)):List (aC×V):=more.foldl (fun acc kv=>bU acc kv.1 kv.2) kvs
def KV.merge:∀{more:List (aC×V)} {rs:List (aC×Value)} {kvs:List (aC×V)} {vs:List (aC×Value)},KV more rs->KV kvs vs->KV (dc kvs more) (merged vs rs):=by
 intro more rs kvs vs r
 unfold KV at r
 induction r generalizing kvs vs with
 |nil=>intro q;exact q
 |@cons p q ps qs h t ih=>
  intro r0
  have e:KV (bU kvs p.1 p.2) (stored vs q.1 q.2):=by
   have:=r0.put p.1 h.2
   rw[<-h.1];exact this
  exact ih e
theorem cj:∀(more kvs:List (aC×V)),(dc kvs more).length<=kvs.length+more.length
 |[],kvs=>by show kvs.length<=kvs.length+0;omega
 |p::r,kvs=>by
  have h1:=cj r (bU kvs p.1 p.2)
  have h2:=bV kvs p.1 p.2
  show(dc (bU kvs p.1 p.2) r).length<=_
  rw[List.length_cons];omega
theorem d_{P:Program}{w:World}:∀{kvs:List (aC×V)} {ws:List (Value×Value)},VV (kvs.map fun kv=>(kV kv.1,kv.2)) ws->∃rs,Carries (aq P w) ws rs/\KV kvs rs
 |[],_,r=>by rw[List.map_nil]at r;cases r;exact⟨[],True.intro,.nil⟩
 |p::kvs,_,r=>by
  rw[List.map_cons]at r
  cases r with
  |@cons a b as bs h t=>
   obtain⟨rs,c,q⟩:=d_ (P:=P) (w:=w) t
   obtain⟨b1,b2⟩:=b
   exact⟨(p.1,b2)::rs,⟨fy h.1,rfl,c⟩,.cons ⟨rfl,h.2⟩ q⟩
def rX(wk:List (TE×TE)):TE:=fun σ H Q=>∀p,H p=none->f8 wk σ (upd H p (.dK [])) fun ps H2=>H2 p=some (.dK [])/\∃kvs:List (aC×V),ps=kvs.map (fun kv=>(kV kv.1,kv.2))/\kvs.length<=15/\Q (.ref p) (upd H2 p (.dK (dc [] kvs)))
def m8{X:Cx}{pos:Pos}{keys:List (Option Expr)}{values:List Expr}{wk:List (TE×TE)}(h:rW X pos keys values wk)(hall:keys.all (·.isSome)=true)(hl:keys.length=values.length)(h0:keys≠[])
  (zp:keys.length<=15):PE X (.Dict keys values pos) (rX wk):=by
 intro pins s σ H Q I q
 have hn:=I.hok.fresh (Nat.le_refl s.heap.objs.size)
 have I1:=I.laid (a:=s.heap.objs.size) (o:=.dK []) (h':=s.heap.push { cls:=.type "dict",data:=.dict #[] }) (t':=s.toks) (fun _ _ q=>Heap.get?_push_of_some _ q) (Nat.le_refl _) (k4 s.heap I.big)
 refine wpAny_Dict_walk (knd:=aq X.prog X.w) hall hl h0 zp (va (h pins _ σ _ _ I1 (q _ hn)) fun ws s2 ⟨ps,H2,I2,rel,e,kvs,ep,lk,q2⟩=>?_)
 subst ep
 obtain⟨rs,c,rk⟩:=d_ (P:=X.prog) (w:=X.w) rel
 obtain⟨z,hd,vs0,r0,dd⟩:=oF I2.hok e
 cases r0
 refine⟨rs,c,dd,fun h' yh hs=>⟨.ref s.heap.objs.size,_,?_,rfl,q2⟩⟩
 have hz:(dc [] kvs).length<=sizeLine:=by
  have h1:=cj kvs []
  rw[List.length_nil]at h1
  rw[sizeLine_eq];omega
 have he:∃q,h'.get? s.heap.objs.size=some q:=let ⟨q,_,_,hq,_⟩:=yh;⟨q,hq⟩
 exact f7 I2 (by rw[e];exact True.intro) hs he (k0 hz hd (rk.merge .nil) yh)
structure M2 (X:Cx) (o:Expr) (m:Str) (apos:Pos) (e f:Expr) (cpos:Pos):Prop where
 base:attributeBase o m X.env (eval o X.env)=eval o X.env
 few:((backTo cpos (starEach [e,f] X.env)).all (fun x=>!x.1)&&(backToKw cpos (keywordEach [] X.env)).all (fun x=>x.1.isSome)
  && decide (([e,f]:List Expr).length+([]:List Keyword).length+(if ([]:List Keyword).isEmpty then 0 else 1) < 30))=true
 line:(apos.endLine == cpos.line)=true
 trees:backTo cpos (starEach [e,f] X.env)=[(false,eval e X.env),(false,eval f X.env)]
section
variable {X:Cx} {pins:Va} {σ:St} {H:Hp} {s:Shared} {a:Addr} {y d:V} {u r:Value} {o:Option V} {A:Around} {E:Vq}
end
section
variable {X:Cx} {o e f:Expr} {apos cpos:Pos} {td ty tx:TE}
end
section
variable {X:Cx} {pins:Va} {σ:St} {H:Hp} {s:Shared} {a:Addr} {kvs:List (aC×V)} {A:Around} {E:Vq}
end
section
variable {X:Cx} {pins:Va} {σ:St} {H:Hp} {s:Shared} {a:Addr} {y:V} {u:Value} {A:Around} {E:Vq}
end
end L2
namespace Att
open PySem PySem.W PySem.Calls PyProof.Rows
def dR{P:Params}{h:Heap}:∀(ns:Vu) (vs:Vv),WellAll P h vs (ns.map WData.int)->IntsAre vs ns:=by
 intro ns
 induction ns with
 |nil=>
  intro vs w
  rw[List.map_nil]at w
  cases w
  exact .nil
 |cons n ns ih=>
  intro vs w
  rw[List.map_cons]at w
  cases w with
  |cons a b=>
   cases a
   exact .cons _ _ (ih _ b)
def jV{l:OpenLaw}{n:Nat}(hn:l.most=some n){P:Params}{h:Heap}{args:List WData}{vals:Vv}
  (hpre:l.row.toRowW.claim.pre args=true) (hwl:WellAll P h vals args) :
  ∃a vs ns,vals=[Value.ref a]/\args=[WData.list (ns.map WData.int)]/\h.get? a=some { cls:=.type "list",data:=.seq vs.toArray }/\IntsAre vs ns/\ns.length<=n:=by
 have hsh:WShape.hasAll [] args [.list .int]=true:=(pre_splitW hpre).1
 have hc:l.pre.holds [] { args:=args }=true:=(pre_splitW hpre).2
 obtain⟨d,r,rfl,h1,h2⟩:=hasAllW_cons hsh
 obtain rfl:=hasAllW_nil h2
 obtain⟨xs,rfl,h3⟩:=hasW_list h1
 obtain⟨ns,rfl⟩:=items_int h3
 have hlen:ns.length<=n:=by
  unfold OpenLaw.pre at hc
  have h4:(WTm.not (.lt (.lit (.int (n:Int))) (.len (.arg 0)))).holds [] { args:=[.list (ns.map .int)] }=true:=by
   have h4:=(holds_andW hc).1
   rw[hn]at h4
   exact h4
  have h5:=condW_of h4 (w_not (w_lt w_lit (w_len_list (w_arg rfl))))
  rw[List.length_map]at h5
  refine Nat.le_of_not_lt fun q=>?_
  have q':(n:Int) < ((ns.length:Nat):Int):=by omega
  first
   |(rw[decide_eq_true q']at h5;exact absurd h5 (by decide))
   |(simp at h5;omega)
 cases hwl with
 |cons w1 w2=>
  cases w2
  cases w1 with
  |list ho hall=>exact⟨_,_,ns,rfl,rfl,ho,dR ns _ hall,hlen⟩
def jW(l:OpenLaw)(args:List WData):l.row.toRowW.claim.post args (.bool true) args=true:=
 postW_of (r:=l.row.toRowW) (X:=(true == true))
  (show WShape.has [] (.bool true) .bool=true by first|rfl|decide|simp[WShape.has,WShape.arms,WShape.armsAll])
  (show(WTm.eq .res (.lit (.bool true))).value [] { args:=args,res:=some (.bool true),after:=args }=some (.bool (true == true))from w_eq_bool (w_res rfl) w_lit) rfl
def gU{l:OpenLaw}{n:Nat}{q:Program}{loose:Vs}{XP:(Vr)->Heap->Prop}{YP:World->Heap->Prop}{d:DefRec}
  (hn:l.most=some n) (hdf:d.params.defaults=[])
  (call:∀(w:World) (s₀ s₁:Shared) (mg mb:Vr) (fa:Addr) (o:Obj) (pm cd doc:Value) (a:Addr) (vs:Vv) (ns:Vu),
   Ground q loose [] XP w s₀ mg mb s₁.heap->YP w s₁.heap->
   s₁.heap.get? fa=some o->o.data = .func (docDef d.name d.params d.body d.scope pm cd doc)->s₁.heap.CodeRec cd d.name->mg d.name=some (.ref fa)->
   s₁.heap.get? a=some { cls:=.type "list",data:=.seq vs.toArray }->IntsAre vs ns->ns.length<=n->s₁.gens=#[]->
   codeAny (model l.prog w) callerA (.call (.ref fa) ⟨[.ref a],[]⟩) (fun r s'=>r = .ok (.ret (.bool true))/\OldK s₁.heap s'.heap/\s'.os=s₁.os/\AllBare s'.gens) s₁) :
  WalkO q loose XP YP l.row.toRowW d [] (fun f vs=>PySem.call f vs):=by
 intro w s₀ s₁ mg mb G Y fa o pm cd doc dV kV ho hd hcd hD hmg hg args vals as hpre hlay hrd hwl hlo
 obtain rfl:dV = .none:=Dflts.none hD hdf
 obtain rfl:kV = .none:=Dflts.noKw hD
 obtain⟨a,vs,ns,rfl,rfl,hobj,hints,hlen⟩:=jV hn hpre hwl
 refine enter_call (codeAny_mono (call w s₀ s₁ mg mb fa o pm cd doc a vs ns G Y ho (fd_plain hd) hcd hmg hobj hints hlen hg) fun r s' hq=>?_)
 obtain⟨rfl,h2,h3,h4⟩:=hq
 exact⟨.inl ⟨.bool true,.bool true,[],rfl,fun _=>rfl,.bool true,jW l _,fun _=>⟨List.Pairwise.nil,fun _ hm=>(nomatch hm)⟩⟩,h2,h3,h4⟩
section
variable {prog:Program} {w:World} {A:Around} {E:Vq} {s:Shared} {K:Frag}
end
end Att
namespace L2
open PySem PySem.Spec PyProof.Rows
theorem fA:∀{vs:Vv} {ns:Vu},IntsAre vs ns->Vals (ns.map V.int) vs
 |_,_,.nil=>.nil
 |_,_,.cons n t h=>.cons ⟨t,rfl⟩ (fA h)
def m9(H:Hp):Prop:=∀b,H b=none\/∃o xs,H b=some (.frz o (.lst xs))
def k6{P:Program}{w:World}{K:Vo}{mg mb:Vr}{CX:kO}{k:Nat}{fa a:Addr}{fd:FuncData}{x:Str}{sp:Sp}{s₁:Shared}{vs:Vv}{ns:Vu}
  (KX:K.In s₁.heap) (hns:s₁.heap.Ns mainGlobals mg) (hb:s₁.heap.Ns builtinsNs mb) (Ai:∀x:Str,x ≠ "__name__"->mb x=bootBuiltins x) (hlim:s₁.heap.NoLimit) (hg:s₁.gens=#[])
  (ha:s₁.heap.get? a=some { cls:=.type "list",data:=.seq vs.toArray }) (hi:IntsAre vs ns) (hl:ns.length<=sizeLine) (hr:Room k callerA)
  (F:∀base:Heap,K.In base->base.Ns mainGlobals mg->eZ P w K mg base CX k fa fd [x] sp) (hbind:∀(s:Shared) (u:Value),BindsTo s fd ⟨[u],[]⟩ [(x,u)])
  (xY:∀H:Hp,m9 H->SqL K H a (ns.map V.int)->sp [.ref a] H (fun v _=>v = .bl true) fun _ _ _=>False)
  (zq:∀H e s',CX [] H s₁ (fun _ _ _=>False) e s'->False) :
  codeAny (model P w) callerA (.call (.ref fa) ⟨[.ref a],[]⟩) (fun r s'=>r = .ok (.ret (.bool true))/\OldK s₁.heap s'.heap/\s'.os=s₁.os/\AllBare s'.gens) s₁:=by
 have rv:=fA hi
 have zr:=hi.length
 -- from an abstract heap in which nothing but the script may be tracked
 have core:∀H:Hp,m9 H->SqL K H a (ns.map V.int)->vW P w H s₁.heap->(∀b,H b≠none->b=a)->(H a≠none->K.lookup a=none)->
   codeAny (model P w) callerA (.call (.ref fa) ⟨[.ref a],[]⟩) (fun r s'=>r = .ok (.ret (.bool true))/\OldK s₁.heap s'.heap/\s'.os=s₁.os/\AllBare s'.gens) s₁:=by
  intro H hO hS hok hA hK
  have xj:∀{b:Addr} {o:Obj},s₁.heap.get? b=some o->H b=none->(fU s₁.heap H).get? b=some o:=fun e n=>kE e n
  have yE:∀{b:Addr} {o:Obj} {es:Array DictEntry} {ep:Nat},s₁.heap.get? b=some o->o.data = .dict es ep->H b=none:=fun{b o es ep} e d=>by
   cases q:H b with
   |none=>rfl
   |some u=>
    have e':b=a:=hA b (by rw[q];simp)
    subst e'
    rw[ha]at e;cases e
    have d':Data.seq vs.toArray _=Data.dict es ep:=d
    cases d'
  have yU:∀{b:Addr} {m:Vr},s₁.heap.Ns b m->(fU s₁.heap H).Ns b m:=fun{b m} ⟨o,es,ep,e,d,r⟩=>⟨o,es,ep,xj e (yE e d),d,r⟩
  have zW:K.In (fU s₁.heap H):=fun b o e=>xj (KX b o e) (by
   cases q:H b with
   |none=>rfl
   |some u=>
    have e':b=a:=hA b (by rw[q];simp)
    subst e'
    rw[hK (by rw[q];simp)]at e;cases e)
  have hM:Mod K mg (fU s₁.heap H):=⟨zW,yU hns,⟨mb,yU hb,Ai⟩,let ⟨mc,h1,h2⟩:=hlim;⟨mc,yU h1,h2⟩⟩
  have e0:mR P w K mg (fU s₁.heap H) callerA [] s₁ H:=⟨rfl,hM,fun b o e=>mC e,Nat.le_of_eq (jJ _ _),trivial,fun b hb=>absurd (show b∈([]:List Addr)from hb) (by simp),hok,.of_eq hg⟩
  refine codeAny_mono ((F _ zW (yU hns)).run callerA [] s₁ H ⟨[.ref a],[]⟩ [.ref a] [.ref a] _ _ hr e0 (hbind s₁ (.ref a)) (.cons rfl .nil) (xY H hO hS)) fun r s' h=>?_
  cases r with
  |error e=>exact(zq H e s' h).elim
  |ok fl=>
   cases fl with
   |next=>exact False.elim h
   |brk=>exact False.elim h
   |cont=>exact False.elim h
   |ret u=>
    obtain⟨v,H',os,bare,un,zt,r',q⟩:=h
    have q':v = .bl true:=q
    subst q'
    obtain rfl:u=Value.bool true:=r'
    refine⟨rfl,OldK.of_keep fun b o e=>?_,os,bare⟩
    cases q:H b with
    |none=>exact un.keep b o e q (by intro z;exact absurd (show b∈([]:List Addr)from z) (by simp)) (by simp)
    |some u=>
     rcases hO b with z|⟨ob,xs,z⟩
     ·rw[q]at z;cases z
     ·have z2:=un.wC b ob _ z
      obtain⟨e1,_⟩:=hok b _ z
      obtain⟨e2,_⟩:=zt b _ z2
      rw[e]at e1;cases e1
      exact e2
 cases hk:K.lookup a with
 |some o=>
  -- the script is one of the module's own objects
  have e:=KX a o hk
  rw[ha]at e
  cases e
  refine core (fun _=>none) (fun _=>.inl rfl) (.inr ⟨_,vs.toArray,_,hk,rfl,rfl,rfl,by rw[List.size_toArray,zr];exact hl,by simpa using rv⟩) (fun b u z=>by have z':(none:Option HO)=some u:=z;cases z') (fun b z=>absurd rfl z) fun z=>absurd rfl z
 |none=>
  refine core (fun b=>if b=a then some (.frz { cls:=.type "list",data:=.seq vs.toArray } (.lst (ns.map V.int))) else none) (fun b=>?_) (.inl (.inr ⟨{ cls:=.type "list",data:=.seq vs.toArray },if_pos rfl⟩)) (fun b u z=>?_) (fun b z=>?_) fun _=>hk
  ·by_cases hb:b=a
   ·exact .inr ⟨_,_,if_pos hb⟩
   ·exact .inl (if_neg hb)
  ·by_cases hb:b=a
   ·have z':=(if_pos hb).symm.trans z
    cases z'
    subst hb
    exact⟨ha,by rw[List.length_map];exact hl,vs,_,rv,ha⟩
   ·have z':=(if_neg hb).symm.trans z
    cases z'
  ·by_cases hb:b=a
   ·exact hb
   ·exact absurd (if_neg hb) z
def m_{l:PySem.W.OpenLaw}{n k:Nat}{q:Program}{loose:Vs}{XP:(Vr)->Heap->Prop}{YP:World->Heap->Prop}{d:DefRec}{K:Params->PySem.W.Frag}{CX:World->kO}{sp:World->Sp}{x:Str}
  (hn:l.most=some n) (hn2:n<=sizeLine) (hdf:d.params.defaults=[]) (hr:Room k callerA)
  (hY:∀(w:World) (h:Heap),YP w h->(K w.params).In h)
  (F:∀(w:World) (mg:Vr) (fa:Addr) (h:Heap),(K w.params).In h->h.Ns mainGlobals mg->mg d.name=some (.ref fa)->
   ∃fd:FuncData,(∀(s:Shared) (u:Value),BindsTo s fd ⟨[u],[]⟩ [(x,u)])/\
    ∀base:Heap,(K w.params).In base->base.Ns mainGlobals mg->eZ l.prog w (K w.params) mg base (CX w) k fa fd [x] (sp w))
  (xY:∀(w:World) (H:Hp) (a:Addr) (ns:Vu),ns.length<=n->m9 H->SqL (K w.params) H a (ns.map V.int)->sp w [.ref a] H (fun v _=>v = .bl true) fun _ _ _=>False)
  (zq:∀(w:World) (H:Hp) (s:Shared) (e:Value) (s':Shared),CX w [] H s (fun _ _ _=>False) e s'->False) :
  PySem.W.WalkO q loose XP YP l.row.toRowW d [] (fun f vs=>PySem.call f vs):=by
 refine Att.gU hn hdf fun w s₀ s₁ mg mb fa o pm cd doc a vs ns G Y ho hd hcd hmg hobj hints hlen hg=>?_
 have KX:=hY w _ Y
 obtain⟨fd,hb,hF⟩:=F w mg fa _ KX G.T.g hmg
 exact k6 KX G.T.g G.T.b G.T.builtins G.T.nolimit hg hobj hints (Nat.le_trans hlen hn2) hr hF hb (fun H hO hS=>xY w H a ns hlen hO hS) fun H e s'=>zq w H s₁ e s'
noncomputable def bj(s:Stmt):Arguments:=match s with
 | .FunctionDef _ a _ _ _ _ _ _ _ _=>a
 |_=>{ posonlyargs:=[],args:=[],vararg:=none,kwonlyargs:=[],kw_defaults:=[],kwarg:=none,defaults:=[] }
noncomputable def aQ(s:Stmt):List Stmt:=match s with
 | .FunctionDef _ _ b _ _ _ _ _ _ _=>b
 |_=>[]
noncomputable def ar(s:Stmt):Scope:=match s with
 | .FunctionDef _ _ _ _ _ _ sc _ _ _=>sc
 |_=>{ kind:=.function,names:=[],isGenerator:=false,isCoroutine:=false }
noncomputable abbrev oG:kO:=fun _ _ _ _ _ _=>False
noncomputable abbrev E0:XK:=fun _ _ _=>False
def oH{X:Cx}:fW oG X E0:=fun _ _ _ _ _ _ _ h=>h.elim
structure xZ (K:Vo) (x qual:Str) (st:Stmt) (f:Addr) (fd:FuncData):Prop where
 ex:∃(oc:Value) (od:Option Addr) (kV doc pm:Value) (an:Option Addr) (cdv ct:Value) (osl:Array (Option Value)),
  fd=PySem.W.fnOf x qual (bj st) (aQ st) (ar st) .none kV doc pm an cdv ct/\K.lookup f=some ⟨oc,od,.func fd,osl⟩/\PySem.W.codeIn K cdv qual=true
 kp:PySem.W.keepIn K (.ref f)=true
section
variable {P:Program} {w:World} {K:Vo} {mg:Vr} {base:Heap}
def xZ.ok{x qual:Str}{st:Stmt}{f:Addr}{fd:FuncData}{N ps:Vs}{k:Nat}{sp:Sp}(F:xZ K x qual st f fd)(S:b_ N ps (ar st))(len:∀vs H Q E,sp vs H Q E->vs.length=ps.length)
  (hbody:∀(cdv:Value) (A:Around) (outer:List Env) (s:Shared) (H:Hp) (vs:List V) (Q:VK) (E:XK),Room k (A.deeper (envOfC qual (ar st) s.heap.objs.size f cdv))->sp vs H Q E->
   ∃t,w4 (iG oG P w K mg base N qual (ar st) f cdv A outer s H E).yD (aQ st) t/\t { nx:=fun _ H'=>Q .non H',rt:=Q } (bT N vs) H):eZ P w K mg base oG (k+1) f fd ps sp:=by
 obtain⟨oc,od,kV,doc,pm,an,cdv,ct,osl,rfl,lk,hcd⟩:=F.ex
 refine rK lk hcd S len fun A outer s H vs Q E hr xY=>?_
 obtain⟨t,h,q⟩:=hbody cdv A outer s H vs Q E hr xY
 exact⟨t,h.yD,q⟩
def xZ.binds{x qual:Str}{st:Stmt}{f:Addr}{fd:FuncData}{ps:Vs}(F:xZ K x qual st f fd)
  (h:∀(kV doc pm:Value) (an:Option Addr) (cdv ct:Value) (us:Vv),us.length=ps.length->bindArgs (PySem.W.fnOf x qual (bj st) (aQ st) (ar st) .none kV doc pm an cdv ct) ⟨us,[]⟩=pure (ps.zip us)):Binds K fd ps []:=by
 obtain⟨oc,od,kV,doc,pm,an,cdv,ct,osl,rfl,lk,hcd⟩:=F.ex
 exact .all (h kV doc pm an cdv ct)
def f9{x qual:Str}{st:Stmt}{f:Addr}{oc:Value}{od an:Option Addr}{osl:Array (Option Value)}{kV doc pm cdv ct:Value}(l:K.lookup f=some ⟨oc,od,.func (PySem.W.fnOf x qual (bj st) (aQ st) (ar st) .none kV doc pm an cdv ct),osl⟩)
  (c:PySem.W.codeIn K cdv qual=true) (k:PySem.W.keepIn K (.ref f)=true):xZ K x qual st f (PySem.W.fnOf x qual (bj st) (aQ st) (ar st) .none kV doc pm an cdv ct):=⟨⟨oc,od,kV,doc,pm,an,cdv,ct,osl,rfl,l,c⟩,k⟩
end
def bc{n:Nat}(h:n<=1000):n < sizeLine:=Nat.lt_of_le_of_lt h (by decide)
section
variable {X:Cx}
def jX:d4 X (.builtin "len") (fun xs H Q=>∃a kvs,xs=[V.ref a]/\H a=some (.dK kvs)/\Q (.int kvs.length) H):=by
 intro pins s σ H xs us Q I r h
 obtain⟨a,kvs,rfl,ha,q⟩:=h
 obtain⟨u,rfl,ru⟩:=gP r
 cases ru
 exact rV I (.inl ha) fun t s' I'=>⟨.int kvs.length,H,I',⟨t,rfl⟩,q⟩
end
section
variable {κ:Type} [DecidableEq κ]
end
end L2
set_option maxHeartbeats 4000000
namespace L2
open PySem PySem.Spec PyProof.Rows
def f_{prog:Program}{w:World}{A:Around}{R:Result->Shared->Prop}{s:Shared}{elt target iter:Expr}{ifs:List Expr}{scope:Scope}{pos:Pos}{it acc:Value}{env:Env}(I:Nat->Shared->Prop)
  (turn:∀n s,I n s->wpAny (model prog w) A (pyNext it) (fun r s₁=>match r with
   |none=>R (.ok .next) s₁
   |some v=>wpAny (model prog w) A (letOwnedTupleGo target it v) (fun _ s₁'=>wpAny (model prog w) A (assign target env v) (fun _ s₂=>
     wpAny (model prog w) A (forIn ifs true fun c r=>if r=true then do let ok <-isTrue c env (eval c env);pure (ForInStep.yield ok) else pure (ForInStep.yield r)) (fun ok s₃=>
      if ok=true then wpAny (model prog w) A (eval elt env) (fun x s₄=>
       wpAny (model prog w) A (call (.builtin "list.append") [acc,x]) (fun _ s₅=>∃m,m < n/\I m s₅) (fun _ _=>False) s₄) (fun _ _=>False) s₃
      else ∃m,m < n/\I m s₃) (fun _ _=>False) s₂) (fun _ _=>False) s₁') (fun _ _=>False) s₁) (fun _ _=>False) s)
  (n:Nat) (h:I n s) :
  codeAny (model prog w) A (.compLoop (.ListComp elt [⟨target,iter,ifs,0⟩] scope pos) 0 it acc env) R s:=by
 refine codeAny_loop rfl I (fun n s hI=>?_) n h
 show wpAny _ A ((compTurn (.ListComp elt [⟨target,iter,ifs,0⟩] scope pos) 0 it acc env).onRaise (fun x=>do noteFrame x env;theTreesLotGoes x)) _ _ s
 refine wpAny_noted ?_
 rw[compTurn_list]
 refine wpAny_bind (wpAny_standAt (wpAny_bind (wpAny_mono (turn n s hI) (fun r s₁ h₁=>?_) fun _ _ h'=>h'.elim)))
 cases r with
 |none=>exact wpAny_pure h₁
 |some v=>
  refine wpAny_bind (wpAny_mono h₁ (fun _ s₁' h₁'=>?_) fun _ _ h'=>h'.elim)
  refine wpAny_bind (wpAny_mono h₁' (fun _ s₂ h₂=>wpAny_bind (wpAny_mono h₂ (fun ok s₃ h₃=>?_) fun _ _ h'=>h'.elim)) fun _ _ h'=>h'.elim)
  cases ok with
  |false=>exact wpAny_pure ⟨rfl,h₃⟩
  |true=>
   exact wpAny_bind (wpAny_bind (wpAny_mono h₃ (fun x s₄ h₄=>wpAny_bind (wpAny_mono h₄ (fun _ s₅ h₅=>wpAny_pure (wpAny_pure ⟨rfl,h₅⟩)) fun _ _ h'=>h'.elim)) fun _ _ h'=>h'.elim))
structure Bk where
 C:Addr
 s:Shared
 H:Hp
 fp:List Addr
 pn:Va
noncomputable def aU(env:Env)(fs:Vs):List (Str×Addr):=fs.map fun x=>(x,(env.cells.lookup x).getD 0)
noncomputable abbrev Cx.vP(X:Cx)(N:Vs)(scope:Scope)(fs:Vs)(B:Bk):Cx:=
 { X with N:=N,s₀:=B.s,H₀:=B.H,env:=compEnvC scope (aU X.env fs) B.C X.env,outer:=X.stack,ex:=B.fp,fn:=fun _=>false,pn:=B.pn,xe:=fun _ _=>False }
noncomputable def aT(env:Env):List Str->Prop
 |[]=>True
 |x::r=>(∃c,env.cells.lookup x=some c)/\aT env r
theorem dF{env:Env}:∀{fs:Vs},aT env fs->∀{x:Str} {c:Addr},(aU env fs).lookup x=some c->env.cells.lookup x=some c
 |[],_,x,c,h=>by cases h
 |y::r,k,x,c,h=>by
  obtain⟨⟨d,hd⟩,k⟩:=k
  have h':List.lookup x ((y,(env.cells.lookup y).getD 0)::aU env r)=some c:=h
  rw[List.lookup_cons]at h'
  cases e:x == y with
  |true=>
   rw[e]at h'
   have e':x=y:=by simpa using e
   subst e'
   rw[hd]at h'
   rw[hd]
   exact h'
  |false=>
   rw[e]at h'
   exact dF k h'
noncomputable def gc(names:List (Str×NameKind))(cl:List (Str×Addr)):Bool:=names.all fun y=>(y.2 != .cell&&y.2 != .free) || (cl.lookup y.1).isSome
def k7{names:List (Str×NameKind)}{cl:List (Str×Addr)}{x:Str}{k:NameKind}(h:gc names cl=true)(e:names.lookup x=some k)(hk:k = .cell\/k = .free):∃c,cl.lookup x=some c:=by
 have hm:(x,k)∈names:=PySem.mem_of_lookup e
 have q:=List.all_eq_true.mp h _ hm
 have z:(cl.lookup x).isSome=true:=by
  rcases hk with rfl|rfl
  ·simpa using q
  ·simpa using q
 exact Option.isSome_iff_exists.mp z
noncomputable def vj(env:Env)(scope:Scope)(cl:List (Str×Addr)):List Str->Prop
 |[]=>True
 |x::r=>((env.scope.names.lookup x=some .cell\/env.scope.names.lookup x=some .free)/\((relabel scope env).names.lookup x=some .cell\/(relabel scope env).names.lookup x=some .free)/\cl.lookup x=env.cells.lookup x)/\vj env scope cl r
theorem vj.mem{env:Env}{scope:Scope}{cl:List (Str×Addr)}:∀{l:Vs},vj env scope cl l->∀x∈l,
  (env.scope.names.lookup x=some .cell\/env.scope.names.lookup x=some .free)/\((relabel scope env).names.lookup x=some .cell\/(relabel scope env).names.lookup x=some .free)/\cl.lookup x=env.cells.lookup x
 |[],_,x,h=>nomatch h
 |y::r,k,x,h=>by
  rcases List.mem_cons.mp h with rfl|h
  ·exact k.1
  ·exact vj.mem k.2 x h
noncomputable def bz(own:Nat)(fr:List Nat)(σ:St):St:=List.replicate own none++fr.map fun j=>(σ[j]?).getD none
noncomputable abbrev de(us:Vv):Obj:={ cls:=.type "list",data:=.seq us.toArray us.length }
def jY(us:Vv)(u:Value):({ cls:=.type "list",data:=.seq (us.toArray.push u) (us.length+1) }:Obj)=de (us++[u]):=by
 show({ cls:=.type "list",data:=.seq (us.toArray.push u) (us.length+1) }:Obj)={ cls:=.type "list",data:=.seq (us++[u]).toArray (us++[u]).length }
 rw[List.length_append,List.length_singleton,List.push_toArray]
section
variable {X:Cx} {pins:Va} {σ:St} {H:Hp} {s:Shared}
def Inv.yG{D:Addr}{us:Vv}{n:Nat}{ys:List V}(I:Inv X pins σ H s)(f:cY X pins H D)(e:s.heap.get? D=some { cls:=.type "list",data:=.seq us.toArray n })(r:Vals ys us)(hz:ys.length<=sizeLine) :
  Inv X pins σ (upd H D (.lst ys)) s:=by
 obtain⟨f0,f1,f2,f3,f4,f5⟩:=f
 have nD:∀b u,H b=some u->b≠D:=fun b u q=>aD q f0
 have hok:vW X.prog X.w (upd H D (.lst ys)) s.heap:=fun b u q=>by
  by_cases hb:b=D
  ·subst hb
   rw[ak]at q
   cases q
   exact⟨hz,us,n,r,e⟩
  ·rw[al hb]at q
   exact(I.hok b u q).stay (fun _ _ _ z=>z) (fun c z=>by rw[al (nD c _ z)];exact z) fun c xs z=>by rw[al (nD c _ z)];exact z
 exact I.step (H':=upd H D (.lst ys)) (h':=s.heap) (g':=s.gens) (t':=s.toks) (d':=s.drawn) (ch:=[D])
  (fun b hb=>by
   have z:b=D:=by simpa using hb
   subst z
   exact⟨f3,f1,f4,f5⟩)
  (fun _ _ _ _ _ q _=>q) (fun _ o _ _ _ q _=>⟨o.slots,q⟩)
  (fun b o hb _ n=>by rw[al (fun z=>hb (by simp[z]))];exact n)
  (fun _ o _ q=>⟨o,q⟩) (fun b xs q=>by rw[al (nD b _ q)];exact q) (fun b o u q=>by rw[al (nD b _ q)];exact q)
  (fun b ps q=>⟨#[],by rw[al (nD b _ q),q];simp⟩) (fun _ q=>q) hok I.bare
def pM{N:Vs}{scope:Scope}{fs:Vs}{C:Addr}{fp:List Addr}(I:Inv X pins σ H s)(hkind:scope.kind = .function)(hC:s.heap.objs.size<=C)(hcl:aT X.env fs)
  (hhas:gc (relabel scope X.env).names (aU X.env fs)=true) (hf:∀b∈fp,cY X pins H b) (hlt:∀b∈fp,b < s.heap.objs.size):(X.vP N scope fs ⟨C,s,H,fp,X.pn++pins⟩).Ok where
 mod:=I.ok.mod
 kind:=hkind
 glob:=I.ok.glob
 blt:=I.ok.blt
 above:=hC
 inj:=fun x y c h1 h2=>I.ok.inj x y c (dF hcl h1) (dF hcl h2)
 has:=fun x hx=>by
  rcases hx with e|e
  ·exact k7 hhas e (.inl rfl)
  ·exact k7 hhas e (.inr rfl)
 yr:=fun x c h=>by cases h
 hd:=I.ok.hd
 frames:=I.ok.frames
 stk:=.inl rfl
 zf:=fun b hb=>⟨Nat.ne_of_lt (Nat.lt_of_lt_of_le (hlt b hb) hC),fun x c e=>(hf b hb).2.2.2.2.1 x c (dF hcl e)⟩
 bs:=I.bs
 xO:=Nat.le_trans I.ok.xO I.sz
 xr:=fun b o e hb=>(hf b hb).2.2.2.1.elim (fun z=>I.ok.xr b o e z) fun z=>absurd (Nat.lt_of_lt_of_le (Heap.lt_size e) (Nat.le_trans I.ok.xO z)) (Nat.lt_irrefl _)
 xD:=fun b hb z=>(List.mem_cons.mp (I.v5 b z)).elim (hf b hb).2.1 (hf b hb).2.2.1
 wb:=I.stack
 yc:=I.xf
def na{N:Vs}{scope:Scope}{fs:Vs}{C D:Addr}{fp:List Addr}{own:Nat}{fr:List Nat}{h₁:Heap}{m0:Vr}{t':Nat}(I:Inv X pins σ H s)
  (ok:(X.vP N scope fs ⟨C,s,H,fp,X.pn++pins⟩).Ok) (hC:s.heap.objs.size<=C) (hD:s.heap.objs.size<=D) (hDC:D≠C) (hcl:aT X.env fs)
  (old:∀b o,s.heap.get? b=some o->h₁.get? b=some o) (hns:h₁.Ns C m0) (hacc:h₁.get? D=some (de [])) (hlen:N.length=own+fr.length) (hN:(N.drop own).map some=fr.map fun j=>X.N[j]?)
  (hF:vj X.env scope (aU X.env fs) (N.drop own)) :
  Inv (X.vP N scope fs ⟨C,s,H,fp,X.pn++pins⟩) [(D,de [])] (bz own fr σ) H { s with heap:=h₁,toks:=t' }:=by
 refine⟨ok,rfl,I.bare,Un.kept old,⟨m0,hns,fun i x v e1 e2 e3=>?_⟩,fun x c e=>?_,I.hok.fresh hC,fun x c e=>I.vI x c (dF hcl e),fun p hp=>?_,I.hok.kept old,?_⟩
 ·have e1:N[i]?=some x:=e1
  by_cases hi:i < own
  ·unfold bz at e2
   rw[List.getElem?_append_left (by rw[List.length_replicate];exact hi),List.getElem?_replicate,if_pos hi]at e2
   cases e2
  ·obtain⟨k,rfl⟩:∃k,i=own+k:=⟨i - own,by omega⟩
   have e1':(N.drop own)[k]?=some x:=by rw[List.getElem?_drop];exact e1
   have q:=congrArg (fun l=>l[k]?) hN
   simp only[List.getElem?_map,e1',Option.map_some]at q
   unfold bz at e2
   rw[List.getElem?_append_right (by rw[List.length_replicate];omega),List.length_replicate,Nat.add_sub_cancel_left,List.getElem?_map]at e2
   cases hj:fr[k]? with
   |none=>rw[hj]at e2;cases e2
   |some j=>
    rw[hj]at e2 q
    simp only[Option.map_some,Option.some.injEq]at e2 q
    have hσ:σ[j]?=some (some v):=by
     cases z:σ[j]? with
     |none=>rw[z]at e2;cases e2
     |some w=>rw[z]at e2;simp only[Option.getD_some]at e2;rw[e2]
    obtain⟨k1,k2,k3⟩:=hF.mem x (List.mem_of_getElem? e1')
    obtain⟨m,hn,hl⟩:=I.loc
    have vis:sU X.env.scope x:=by
     rcases k1 with z|z
     ·exact .inr (.inl z)
     ·exact .inr (.inr z)
    obtain⟨u,ru,l⟩:=hl j x v q.symm hσ vis
    rcases l with⟨hk,_⟩|⟨_,c,hc,o,ho,hd⟩
    ·have hk':X.env.scope.names.lookup x=some .local:=hk
     rcases k1 with z|z
     ·rw[z]at hk';cases hk'
     ·rw[z]at hk';cases hk'
    ·exact⟨u,ru,.inr ⟨k2,c,k3.trans hc,o,old _ _ ho,hd⟩⟩
 ·obtain⟨v,o,ho,hd⟩:=I.cell x c (dF hcl e)
  exact⟨v,o,old _ _ ho,hd⟩
 ·rcases List.mem_append.mp hp with z|z
  ·obtain⟨e,n,ne,nf,d⟩:=I.pin p z
   exact⟨old _ _ e,n,Nat.ne_of_lt (Nat.lt_of_lt_of_le (Heap.lt_size e) hC),fun q=>(List.mem_cons.mp (I.v5 _ q)).elim ne nf,d⟩
  ·have z':p=(D,de []):=by simpa using z
   subst z'
   exact⟨hacc,I.hok.fresh hD,hDC,fun q=>(List.mem_cons.mp (I.v5 _ q)).elim (fun e=>absurd e (Nat.ne_of_gt (Nat.lt_of_lt_of_le I.lt hD))) (I.yz hD),fun v z=>by cases z⟩
 ·show(bz own fr σ).length=N.length
  unfold bz
  rw[List.length_append,List.length_replicate,List.length_map,hlen]
end
def PF(X:Cx)(ifs:List Expr)(t:TT):Prop:=
 ∀(pins:Va) (s:Shared) (σ:St) (H:Hp) (Q:Bool->Hp->Prop),Inv X pins σ H s->t σ H Q->
  wpAny (model X.prog X.w) X.A (forIn ifs true fun c r=>if r=true then do let ok <-isTrue c X.env (eval c X.env);pure (ForInStep.yield ok) else pure (ForInStep.yield r)) (TP X pins σ Q) X.xe s
def t0:TT:=fun _ H Q=>Q true H
def pN{X:Cx}:PF X [] t0:=fun _ _ _ H _ I h=>wpAny_tests_nil ⟨H,I,h⟩
def pO{X:Cx}{c:Expr}{t:TT}(h:PT X c t):PF X [c] t:=fun pins s σ H Q I q=>wpAny_tests_one (h pins s σ H Q I q)
def oI(J:It)(g:TG)(tc:TT)(te:TE)(own:Nat)(σ':St)(fin:List V->Hp->Prop)(H1:Hp):Prop:=
 ∃W:Nat->Nat->List V->Hp->Prop,(∃m,W 0 m [] H1)/\∀i m ys H,W i m ys H->
  (J.stop i H/\ys.length<=sizeLine/\fin ys H) \/
  (J.go i H/\ys.length<=sizeLine/\∃Nx:List V->Hp->Prop,(∀ys' H',Nx ys' H'->∃m',m' < m/\W (i+1) m' ys' H')/\∀x H',J.yT i H x H'->g x σ' H' fun σ2 H2=>σ2.drop own=σ'.drop own/\tc σ2 H2 fun b H3=>
   if b=true then te σ2 H3 fun y H4=>Nx (ys++[y]) H4 else Nx ys H3)
section
variable {X:Cx} {pins:Va} {σ:St} {H:Hp} {s:Shared}
variable {elt iter tg:Expr} {ifs:List Expr} {scope:Scope} {pos:Pos} {N:Vs} {own:Nat} {fr:List Nat} {fs:Vs} {g:TG} {tc:TT} {te:TE}
def ee{J:It}{fp:List Addr}{it:Addr}{tn:Nat->Heap->Prop}{fin:List V->Hp->Prop}{E:Vq}{RR:Value->Addr->Result->Shared->Prop}
  (hc:X.calm=true) (hcell:∀y∈scope.names,y.2 ≠ .cell) (hkind:scope.kind = .function) (hcl:aT X.env fs) (hhas:gc (relabel scope X.env).names (aU X.env fs)=true)
  (hlen:N.length=own+fr.length) (hN:(N.drop own).map some=fr.map fun j=>X.N[j]?) (hF:vj X.env scope (aU X.env fs) (N.drop own))
  (hg:∀B,PG (X.vP N scope fs B) tg g) (hf:∀B,PF (X.vP N scope fs B) ifs tc) (he:∀B,PE (X.vP N scope fs B) elt te)
  (I:Inv X pins σ H s) (T:jK X.prog X.w X.K tg J fp it tn) (st:tn 0 s.heap) (f:∀b∈fp,cY X pins H b) (W:oI J g tc te own (bz own fr σ) fin H)
  (hRR:∀D C s' ys H' m',Inv X pins σ (upd H' D (.lst ys)) s'->H' D=none->s'.heap.Ns C m'->cY X pins (upd H' D (.lst ys)) C->fin ys H'->RR (.ref D) C (.ok .next) s') :
  wpAny (model X.prog X.w) X.A (newList []) (fun acc s₃=>wpAny (model X.prog X.w) X.A (newFunctionEnv scope X.env.globals (aU X.env fs) [] X.env.qual none .none (some X.env)) (fun cenv s₄=>
   codeAny (model X.prog X.w) X.A (.compStart (.ListComp elt [⟨tg,iter,ifs,0⟩] scope pos) 0 (.ref it) acc { cenv with scope:=relabel scope X.env }) (RR acc cenv.locals) s₄) E s₃) E s:=by
 refine wpAny_newObj_type (wpAny_newFunctionEnv hcell (by intro y hy;simp at hy) (fun h₁ yi xR=>?_) hkind)
 dsimp only at yi xR ⊢
 generalize zu:s.heap.push { cls:=.type "list",dict:=none,data:=.seq ([]:Vv).toArray }=H2 at yi xR ⊢
 have hC:H2.objs.size=s.heap.objs.size+1:=by rw[<-zu,Heap.size_push]
 have yj:s.heap.objs.size<=H2.objs.size:=by rw[hC];exact Nat.le_succ _
 have hDC:s.heap.objs.size≠H2.objs.size:=by rw[hC];exact Nat.ne_of_lt (Nat.lt_succ_self _)
 have below:∀b,b < s.heap.objs.size->b≠H2.objs.size/\b≠s.heap.objs.size:=fun b hb=>⟨by rw[hC];exact Nat.ne_of_lt (Nat.lt_succ_of_lt hb),Nat.ne_of_lt hb⟩
 have old:∀b o,s.heap.get? b=some o->h₁.get? b=some o:=fun b o e=>xR.extBut b o (below b (Heap.lt_size e)).1 (Heap.get?_push_of_some _ (zu▸Heap.get?_push_of_some _ e))
 have hacc:h₁.get? s.heap.objs.size=some (de []):=xR.extBut _ _ hDC (Heap.get?_push_of_some _ (zu▸Heap.get?_push_size _ rfl))
 have hlt:∀b∈fp,b < s.heap.objs.size:=fun b hb=>by
  obtain⟨o,e,_⟩:=T.obj 0 _ st b hb
  exact Heap.lt_size e
 obtain⟨Wv,⟨m0,w0⟩,turn⟩:=W
 have ok:=pM (N:=N) I hkind yj hcl hhas f hlt
 have loop:∀s₃:Shared,s₃={ s with heap:=h₁,toks:=s.toks+([]:List (Str×Value)).length }->
   codeAny (model X.prog X.w) X.A (.compLoop (.ListComp elt [⟨tg,iter,ifs,0⟩] scope pos) 0 (.ref it) (.ref s.heap.objs.size) (compEnvC scope (aU X.env fs) H2.objs.size X.env))
    (RR (.ref s.heap.objs.size) H2.objs.size) s₃:=by
  rintro s₃ rfl
  have I0:=na (own:=own) (fr:=fr) (t':=s.toks+([]:List (Str×Value)).length) I ok yj (Nat.le_refl _) hDC hcl old yi hacc hlen hN hF
  have zv:tn 0 h₁:=T.keep 0 _ _ st fun b _ o e=>old b o e
  have stat:∀{us:Vv} {H':Hp},(∀b∈fp,H' b=none)->∀b∈fp,cY (X.vP N scope fs ⟨H2.objs.size,s,H,fp,X.pn++pins⟩) [(s.heap.objs.size,de us)] H' b:=fun{us H'} hn b hb=>by
   obtain⟨f0,f1,f2,f3,f4,f5⟩:=f b hb
   refine⟨hn b hb,(below b (hlt b hb)).1,fun z=>(List.mem_cons.mp (I.v5 b z)).elim f1 f2,.inl hb,fun x c e=>f4 x c (dF hcl e),fun p hp=>?_⟩
   rcases List.mem_append.mp hp with z|z
   ·exact f5 p z
   ·have z':p=(s.heap.objs.size,de us):=by simpa using z
    subst z'
    exact Ne.symm (below b (hlt b hb)).2
  have zw:∀p∈X.pn++pins,p.1 < s.heap.objs.size:=fun p hp=>Heap.lt_size (I.pin p hp).1
  refine f_ (fun k s'=>∃i ys us H',Inv (X.vP N scope fs ⟨H2.objs.size,s,H,fp,X.pn++pins⟩) [(s.heap.objs.size,de us)] (bz own fr σ) H' s'/\Vals ys us/\tn i s'.heap/\(∀b∈fp,H' b=none)/\Wv i k ys H') ?_ m0
   ⟨0,[],[],H,I0,.nil,zv,fun b hb=>(f b hb).1,w0⟩
  rintro n s' ⟨i,ys,us,H',I',rv,st',zX,w'⟩
  rcases turn i n ys H' w' with⟨stop,hz,zx⟩|⟨go,hz,Nx,zY,step⟩
  ·refine va (T.done (X.vP N scope fs ⟨H2.objs.size,s,H,fp,X.pn++pins⟩) rfl rfl rfl hc i _ s' _ H' (fun _ _=>False) I' (stat zX) st' stop) (fun r s1 ⟨hr,I1⟩=>?_)
   subst hr
   show RR _ _ (.ok .next) s1
   have IX:Inv X pins σ H' s1:=I.yC I1.os I1.base I1.hok I1.bare fun b hb=>by
    obtain⟨f0,f1,f2,f3,f4,f5⟩:=f b hb
    exact⟨f3,f1,f4,f5⟩
   obtain⟨eD,nD,_⟩:=I1.pin (s.heap.objs.size,de us) (by simp)
   have IT:=IX.yG (I.xu (H':=H') (Nat.le_refl _) nD) eD rv hz
   obtain⟨m',hn',_⟩:=I1.loc
   exact hRR _ _ s1 ys H' m' IT nD hn' (I.xu yj (by rw[al (Ne.symm hDC)];exact I1.free)) zx
  ·refine va (T.item (X.vP N scope fs ⟨H2.objs.size,s,H,fp,X.pn++pins⟩) rfl rfl rfl hc i _ s' _ H' (fun _ _=>False) I' (stat zX) st' go) (fun r s1 ⟨u,hr,h1⟩=>?_)
   subst hr
   show wpAny _ _ (letOwnedTupleGo tg (.ref it) u) _ _ s1
   refine va h1 (fun _ s5 ⟨x,H5,I5,r5,y5,xP,zj⟩=>?_)
   have zk:=I5.pinned (stat zj) (T.obj _ _ xP)
   refine va (hg _ _ s5 _ H5 x u _ zk r5 (step x H5 y5)) (fun _ s6 ⟨σ6,H6,I6,Aj,q6⟩=>?_)
   refine va (hf _ _ s6 σ6 H6 _ I6 q6) (fun b s7 ⟨H7,I7,q7⟩=>?_)
   -- yk the turn's own names
   have forget:∀{H8:Hp} {s8:Shared} {pl:Va},Inv (X.vP N scope fs ⟨H2.objs.size,s,H,fp,X.pn++pins⟩) pl σ6 H8 s8->Inv (X.vP N scope fs ⟨H2.objs.size,s,H,fp,X.pn++pins⟩) pl (bz own fr σ) H8 s8:=fun{H8 s8 pl} I8=>by
    refine I8.weak (I0.len.trans I8.len.symm) fun j v e=>?_
    by_cases hj:j < own
    ·unfold bz at e
     rw[List.getElem?_append_left (by rw[List.length_replicate];exact hj),List.getElem?_replicate,if_pos hj]at e
     cases e
    ·obtain⟨k,rfl⟩:∃k,j=own+k:=⟨j - own,by omega⟩
     rw[<-List.getElem?_drop]at e ⊢
     rw[Aj]
     exact e
   have yV:∀{H8:Hp} {s8:Shared},Inv (X.vP N scope fs ⟨H2.objs.size,s,H,fp,X.pn++pins⟩) ([(s.heap.objs.size,de us)]++d3 fp s5.heap) σ6 H8 s8->∀b∈fp,∀o,s5.heap.get? b=some o->s8.heap.get? b=some o/\H8 b=none:=fun I8 b hb o e=>
    let z:=I8.pin (b,o) (List.mem_append_right _ (List.mem_append_right _ (cp hb e)))
    ⟨z.1,z.2.1⟩
   cases b with
   |false=>
    show ∃m,m < n/\_
    obtain⟨m',hm,w7⟩:=zY _ _ (show Nx ys H7 from q7)
    refine⟨m',hm,i+1,ys,us,H7,(forget I7).vY,rv,T.keep _ _ _ xP fun b hb o e=>(yV I7 b hb o e).1,fun b hb=>?_,w7⟩
    obtain⟨o,e,_⟩:=T.obj _ _ xP b hb
    exact(yV I7 b hb o e).2
   |true=>
    show wpAny _ _ (eval elt _) _ _ s7
    have Ak:te σ6 H7 fun y H4=>Nx (ys++[y]) H4:=q7
    refine va (he _ _ s7 σ6 H7 _ I7 Ak) (fun v s8 ⟨y,H8,I8,r8,n8⟩=>?_)
    obtain⟨m',hm,w8⟩:=zY _ _ n8
    obtain⟨eD,nD,zZ,Al,_⟩:=I8.pin (s.heap.objs.size,de us) (List.mem_append_right _ (List.mem_append_left _ (by simp)))
    refine append_at (hsz:=by show us.toArray.size<=sizeLine;rw[List.size_toArray,<-rv.length];exact hz) eD fun h9 z0 Am=>?_
    have J0:Inv (X.vP N scope fs ⟨H2.objs.size,s,H,fp,X.pn++pins⟩) [] σ6 H8 s8:=I8.wg fun p hp=>nomatch hp
    have J1:Inv (X.vP N scope fs ⟨H2.objs.size,s,H,fp,X.pn++pins⟩) [] σ6 H8 { s8 with heap:=h9 }:=J0.turned (t':=s8.toks) (it:=s.heap.objs.size) (fun b o hb e=>(z0.2 b hb).trans e) nD zZ (.inr (Nat.le_refl _))
     (fun x c e z=>by
      obtain⟨v',q⟩:=I.cell x c (dF hcl e)
      exact absurd (Nat.lt_of_lt_of_le q.lt (by rw[z];exact Nat.le_refl _)) (Nat.lt_irrefl _))
     (fun p hp=>by
      rw[List.append_nil]at hp
      exact Nat.ne_of_lt (zw p hp))
    have J2:Inv (X.vP N scope fs ⟨H2.objs.size,s,H,fp,X.pn++pins⟩) [(s.heap.objs.size,de (us++[v]))] σ6 H8 { s8 with heap:=h9 }:=J1.wg fun p hp=>by
     have z':p=(s.heap.objs.size,de (us++[v])):=by simpa using hp
     subst z'
     exact⟨Am.trans (congrArg some (jY us v)),nD,zZ,Al,fun v z=>by cases z⟩
    refine⟨m',hm,i+1,ys++[y],us++[v],H8,forget J2,Vals.append rv (.cons r8 .nil),T.keep _ _ _ xP fun b hb o e=>(z0.2 b (below b (hlt b hb)).2).trans (yV I8 b hb o e).1,fun b hb=>?_,w8⟩
    obtain⟨o,e,_⟩:=T.obj _ _ xP b hb
    exact(yV I8 b hb o e).2
 exact codeAny_compStart_list (loop _ rfl) (T.self _ 0 _ _ _ (T.keep 0 _ _ st fun b _ o e=>old b o e) (loop _ rfl))
def k8(wi:TI)(g:TG)(tc:TT)(te:TE)(own:Nat)(fr:List Nat):TE:=fun σ H Q=>wi σ H fun J H1=>
 oI J g tc te own (bz own fr σ) (fun ys H2=>∀D,H2 D=none->Q (.ref D) (upd H2 D (.lst ys))) H1
def nb(fs:Vs)(own:Nat)(fr:List Nat)(N:Vs){wi:TI}(hc:X.calm=true)(hclos:closureFor scope X.env=pure (aU X.env fs))(hcell:∀y∈scope.names,y.2 ≠ .cell)(hkind:scope.kind = .function)
  (hnames:∀x∈scope.names,x.2 = .local->scope.names.lookup x.1=some .local) (hcl:aT X.env fs) (hhas:gc (relabel scope X.env).names (aU X.env fs)=true)
  (hlen:N.length=own+fr.length) (hN:(N.drop own).map some=fr.map fun j=>X.N[j]?) (hF:vj X.env scope (aU X.env fs) (N.drop own))
  (hi:PI X tg iter wi) (hg:∀B,PG (X.vP N scope fs B) tg g) (hf:∀B,PF (X.vP N scope fs B) ifs tc) (he:∀B,PE (X.vP N scope fs B) elt te)
  (hs:∀x,foldedSetIterable iter X.env x=pure x:=by intro _;rfl):PE X (.ListComp elt [⟨tg,iter,ifs,0⟩] scope pos) (k8 wi g tc te own fr):=by
 intro pins s σ H Q I h
 rw[eval_ListComp]
 refine wpAny_comprehension_free (use:=none) (g:=⟨tg,iter,ifs,0⟩) (gs:=[]) rfl hs hclos hkind hnames (va (hi pins s σ H _ I h) fun v s1 h1=>va h1 fun itv s2 h2=>?_)
 obtain⟨it,fp,tn,J,H2,e,I2,T,st2,f2,W⟩:=h2
 subst e
 refine ee (RR:=fun acc C=>compPost (model X.prog X.w) X.A X.xe none (EP X pins σ Q) acc C) hc hcell hkind hcl hhas hlen hN hF hg hf he I2 T st2 f2 W ?_
 intro D C s' ys H' m' I' nD hn fC fin
 exact⟨m',hn,fun h' hs'=>⟨.ref D,_,I'.turned (t':=s'.toks) (fun b o hb e=>(hs'.2 b hb).trans e) fC.1 fC.2.1 fC.2.2.2.1 fC.2.2.2.2.1 fC.2.2.2.2.2,rfl,fin D nD⟩⟩
def nc(fs:Vs)(own:Nat)(fr:List Nat)(N:Vs){wi:TI}{i:Nat}{y:Str}{py spos:Pos}(hX:X.N.Nodup)(hix:X.N[i]?=some y)(hy:X.env.scope.names.lookup y=some .local)
  (hsw:swapsWith (.ListComp elt [⟨tg,iter,ifs,0⟩] scope pos) (some (.Name y py)) spos.line X.env=pure true)
  (hc:X.calm=true) (hclos:closureFor scope X.env=pure (aU X.env fs)) (hcell:∀y∈scope.names,y.2 ≠ .cell) (hkind:scope.kind = .function)
  (hnames:∀x∈scope.names,x.2 = .local->scope.names.lookup x.1=some .local) (hcl:aT X.env fs) (hhas:gc (relabel scope X.env).names (aU X.env fs)=true)
  (hlen:N.length=own+fr.length) (hN:(N.drop own).map some=fr.map fun j=>X.N[j]?) (hF:vj X.env scope (aU X.env fs) (N.drop own))
  (hi:PI X tg iter wi) (hg:∀B,PG (X.vP N scope fs B) tg g) (hf:∀B,PF (X.vP N scope fs B) ifs tc) (he:∀B,PE (X.vP N scope fs B) elt te)
  (hs:∀x,foldedSetIterable iter X.env x=pure x:=by intro _;rfl):PS X (.Assign [.Name y py] (.ListComp elt [⟨tg,iter,ifs,0⟩] scope pos) spos) (mL (k8 wi g tc te own fr) (gO i)):=by
 intro pins s σ H D I h
 rw[exec_Assign_Name_used _ _ _ _ hsw]
 refine wpAny_bind (wpAny_standAt (wpAny_bind ?_))
 show wpAny _ X.A (do let _ <-comprehension (.ListComp elt [⟨tg,iter,ifs,0⟩] scope pos) scope X.env _ (newList []) false (eval iter X.env) (some (assign (.Name y py) X.env))) _ _ s
 refine wpAny_bind (wpAny_mono (wpAny_comprehension_free (use:=some (assign (.Name y py) X.env)) (Q:=fun _ s'=>SP X pins D .next s') (g:=⟨tg,iter,ifs,0⟩) (gs:=[]) rfl hs hclos hkind hnames
  (va (hi pins s σ H _ I h) fun v s1 h1=>va h1 fun itv s2 h2=>?_)) (fun _ s' hq=>wpAny_pure (wpAny_pure hq)) fun _ _ e=>e)
 obtain⟨it,fp,tn,J,H2,e,I2,T,st2,f2,W⟩:=h2
 subst e
 refine ee (RR:=fun acc C=>compPost (model X.prog X.w) X.A X.xe (some (assign (.Name y py) X.env)) (fun _ s'=>SP X pins D .next s') acc C) hc hcell hkind hcl hhas hlen hN hF hg hf he I2 T st2 f2 W ?_
 intro Da C s' ys H' m' I' nD hn fC fin
 show wpAny _ X.A (assign (.Name y py) X.env (.ref Da)) _ _ s'
 refine wpAny_assign_Name (fm (v:=.ref Da) I' hX hix (.inl hy) rfl (fun s2 I3 ⟨a,sb,ha⟩=>?_) (.inr hy))
 have ca:C≠a:=by
  rcases ha with z|z
  ·rw[z];exact fC.2.1
  ·exact Ne.symm (fC.2.2.2.2.1 _ _ z)
 exact⟨m',hn.sameBut sb ca,fun h' hs'=>⟨_,_,I3.turned (t':=s2.toks) (fun b o hb e=>(hs'.2 b hb).trans e) fC.1 fC.2.1 fC.2.2.2.1 fC.2.2.2.2.1 fC.2.2.2.2.2,fin Da nD⟩⟩
end
end L2
namespace PySem
open Sem (wp)
namespace F
def jZ:typeLookup (.type "list_reverseiterator") "__len__" = pure none:=by rw[typeLookup_type,builtinLookup_eq_fast];kernel_rfl
def k9:typeLookup (.type "list_reverseiterator") "__length_hint__" = pure (some (.builtin "list_reverseiterator.__length_hint__")):=by rw[typeLookup_type,builtinLookup_eq_fast];kernel_rfl
end F
section
variable {prog:Program} {w:World} {A:Around} {s:Shared} {R:Result->Shared->Prop}
variable {I:Addr} {fp wr:List Addr} {G:Array GenState->Array GenState->Prop} {n:Nat} {P:Nat->Value->Prop} {St:Nat->Shared->Prop}
def iL(W:WalksS prog w A.in1 I fp wr G n P St)(hT:∀i s,St i s->s.TypeIs (.ref I) "list_reverseiterator")(S:Addr)(res:Value)(c₀:Nat)(hst:St 0 s)(hSf:S ∉ fp)(hI:I∈fp)
  (hS:s.heap.get? S=some { cls:=.type "list",data:=.seq #[] c₀ })
  (hR:∀s' acc' c',Moved (S::wr) G s s'->s'.heap.get? S=some { cls:=.type "list",dict:=none,data:=.seq acc' c',slots:=#[] }->ItemsOf P acc' n->R (.ok (.ret res)) s') (hn:n<=sizeLine) :
  wpAny (model prog w) A.in1 (Builtin.List.listExtendWith (.ref S) (.ref I) res)
   (fun fin s'=>match fin with | .done f=>R (.ok f) s' | .again c'=>c'.quiet=true/\codeAny (model prog w) A c' R s') (fun e s'=>R (.error e) s') s:=by
 have hSI:S≠I:=fun e=>hSf (e▸hI)
 have h1:Builtin.List.listSameRef (.ref S) (.ref I)=false:=by simp[Builtin.List.listSameRef,hSI]
 unfold Builtin.List.listExtendWith
 refine wpAny_bind (wpAny_typeOf (hT 0 _ hst) ?_)
 rw[if_neg (by rw[h1];decide)]
 refine wpAny_bind (W.self 0 _ _ _ hst ?_)
 refine wpAny_bind (wpAny_holding ?_)
 unfold Builtin.List.listLengthHint
 refine wpAny_bind (wpAny_specialOf (hT 0 _ hst) F.jZ ?_)
 show wpAny _ A.in1 (specialOf (Value.ref I) (Str.ofString "__length_hint__") >>= _) _ _ _
 refine wpAny_bind (wpAny_specialOf (hT 0 _ hst) F.k9 ?_)
 (generalize hid:("list_reverseiterator.__length_hint__":String)=An;wp_delta;rw[show splitId An=some ("list_reverseiterator","__length_hint__")from by subst hid;decide +kernel];subst hid)
 refine wpAny_bind (wpAny_isInstance (b:=true) (hT 0 _ hst) (by rw[isSubtype_type];kernel_rfl) ?_)
 refine wpAny_pure ?_
 rw[if_neg (by decide)]
 exact wpAny_pure ⟨plainId_quiet F.plain_extend_loop _,codeAny_extend_loopS W hn _ hSf _ n 0 _ _ _ rfl (Nat.zero_le _) hst hS (ItemsOf.nil P) fun s' acc' c' hm hS' hacc=>hR s' acc' c' hm hS' hacc⟩
def e9(W:WalksS prog w A.in1 I fp wr G n P St)(hT:∀i s,St i s->s.TypeIs (.ref I) "list_reverseiterator")(S:Addr)(hst:St 0 s)(hSf:S ∉ fp)(hI:I∈fp)
  (hS:s.heap.get? S=some { cls:=.type "list",data:=.seq #[] })
  (hR:∀s' acc' c',Moved (S::wr) G s s'->s'.heap.get? S=some { cls:=.type "list",dict:=none,data:=.seq acc' c',slots:=#[] }->ItemsOf P acc' n->R (.ok (.ret .none)) s') (hn:n<=sizeLine) :
  wpAny (model prog w) A.in1 (Builtin.«list.__init__» ⟨[.ref S,.ref I],[]⟩)
   (fun fin s'=>match fin with | .done f=>R (.ok f) s' | .again c'=>c'.quiet=true/\codeAny (model prog w) A c' R s') (fun e s'=>R (.error e) s') s:=by
 show wpAny _ A.in1 (do let old <-Builtin.List.listItems (.ref S);Builtin.List.listUpdate (.ref S) (fun _=>#[]);letGo old.toList.reverse;Builtin.List.listExtendWith (.ref S) (.ref I) .none) _ _ s
 refine wpAny_bind ?_
 unfold Builtin.List.listItems
 refine wpAny_bind (wpAny_seqItems hS rfl (wpAny_pure ?_))
 show wpAny _ A.in1 (updateSeq S (fun _=>#[]) >>= fun _=>letGo (#[]:Vw).toList.reverse >>= fun _=>Builtin.List.listExtendWith (.ref S) (.ref I) .none) _ _ s
 refine wpAny_bind (wpAny_updateSeq hS rfl ?_)
 have yW:=Heap.get?_update_self (Obj.mapSeq (fun _=>(#[]:Vw))) hS rfl
 have yH:∀b o,b≠S->s.heap.get? b=some o->(s.heap.update S (Obj.mapSeq (fun _=>(#[]:Vw)))).get? b=some o:=
  fun b o hb e=>(Heap.get?_update_other _ _ (Ne.symm hb)).trans e
 refine wpAny_bind (wpAny_letGo ?_)
 refine iL (hn:=hn) W hT S .none _ (W.frame 0 s _ s.toks hst (Nat.le_refl _) fun b hb o e=>yH b o (fun h=>hSf (h▸hb)) e) hSf hI yW fun s' acc' c' hm hS' hacc=>?_
 exact hR s' acc' c' (Moved.trans W.gtrans ((Moved.refl W.grefl).then_heap (Nat.le_refl _) fun b o hb e=>yH b o (fun h=>hb (h▸List.mem_cons_self)) e) hm) hS' hacc
end
section
variable {prog:Program} {w:World} {A:Around} {E:Vq} {s:Shared}
def e_{I l:Addr}{items:Vw}{Q:Vq}(hh:A.handled=none)(hl:s.heap.IsList l items)(hit:s.heap.IsRevIter I l ((items.size:Int) - 1))(hne:l≠I)(hn:items.size<=sizeLine)
  (hQ:∀h' tk acc' c',(∀b o,b≠I->s.heap.get? b=some o->h'.get? b=some o)->h'.get? s.heap.objs.size=some { cls:=.type "list",dict:=none,data:=.seq acc' c',slots:=#[] }->
   acc'.toList=items.toList.reverse->Q (.ref s.heap.objs.size) { s with heap:=h',toks:=tk }) :
  wpAny (model prog w) A (call (.type "list") [.ref I]) Q E s:=by
 have W:=(Walks.listRev (prog:=prog) (w:=w) (A:=A.in1.in1) hh I l hne items).toS
 have zy:I < s.heap.objs.size:=by obtain⟨o,ho,_⟩:=hit;exact Heap.lt_size ho
 have zA:l < s.heap.objs.size:=by obtain⟨o,ho,_⟩:=hl;exact Heap.lt_size ho
 have hfp:∀b∈[I,l],b < s.heap.objs.size:=fun b hb=>by
  rcases List.mem_cons.mp hb with rfl|hb
  ·exact zy
  ·rw[List.mem_singleton.mp hb];exact zA
 have hSf:s.heap.objs.size ∉ [I,l]:=fun hm=>Nat.lt_irrefl _ (hfp _ hm)
 have hst:(fun i (s:Shared)=>i<=items.size/\s.heap.IsRevIter I l ((items.size:Int) - 1 - (i:Int))/\s.heap.IsList l items) 0 s:=⟨Nat.zero_le _,by simpa using hit,hl⟩
 refine callType_codes (Q₁:=fun obj s₁=>obj = .ref s.heap.objs.size/\s₁={ s with heap:=s.heap.push { cls:=.type "list",data:=.seq #[] } }) F.called_list (F.typeCall_list_1 _) F.entry_list_init
  (code_list_new _ ⟨rfl,rfl⟩) fun obj s₁ h₁=>?_
 obtain⟨rfl,rfl⟩:=h₁
 have hS:(s.heap.push { cls:=.type "list",data:=.seq #[] }).get? s.heap.objs.size=some { cls:=.type "list",data:=.seq #[] }:=Heap.get?_push_size _ rfl
 refine⟨⟨_,hS,rfl⟩,F.args_list_init_2 _ _,e9 (hn:=hn) W (fun i s st=>st.2.1.typeIs) _ (W.frame 0 s _ s.toks hst (Nat.le_refl _) fun b _ o e=>Heap.get?_push_of_some _ e) hSf (List.mem_cons_self ..) hS fun s' acc' c' hm hS' hacc=>?_⟩
 refine⟨rfl,?_⟩
 rw[hm.eq_with]
 refine hQ s'.heap s'.toks acc' c' (fun b o hb e=>hm.heap b o (fun z=>?_) (Heap.get?_push_of_some _ e)) hS' ?_
 ·rcases List.mem_cons.mp z with z|z
  ·exact absurd (Heap.lt_size e) (by rw[z];exact Nat.lt_irrefl _)
  ·exact hb (List.mem_singleton.mp z)
 ·obtain⟨hsz,hP⟩:=hacc
  apply List.ext_getElem?
  intro j
  by_cases hj:j < items.size
  ·have hj':j < acc'.size:=by rw[hsz];exact hj
   have q:=hP j acc'[j] (by simp[hj'])
   have e1:acc'.toList[j]?=some acc'[j]:=by simp[hj']
   rw[e1,List.getElem?_reverse (by simpa using hj)]
   simpa using q.symm
  ·rw[List.getElem?_eq_none (by simpa [hsz]using hj),List.getElem?_eq_none (by simpa using hj)]
end
end PySem
namespace L2
open PySem PySem.Spec PyProof.Rows
section
variable {X:Cx}
def k_(K:Vo)(te:TE):TE:=fun σ H Q=>te σ H fun x H1=>∃a xs,x = .ref a/\SqL K H1 a xs/\∀q,H1 q=none->Q (.ref q) (upd H1 q (.lst xs.reverse))
def iM{e:Expr}{te:TE}{p1 p2 q1 q2:Pos}(hc:X.calm=true)(he:PE X e te)(yX:Gl X "list")(hm1:X.mg "list" = none)(ym:Gl X "reversed")(hm2:X.mg "reversed" = none)
  (hs:starEach [e] X.env=[(false,eval e X.env)]:=by rfl) (hs2:starEach [.Call (.Name "reversed" p2) [e] [] q2] X.env=[(false,eval (.Call (.Name "reversed" p2) [e] [] q2) X.env)]:=by rfl) :
  PE X (.Call (.Name "list" p1) [.Call (.Name "reversed" p2) [e] [] q2] [] q1) (k_ X.K te):=by
 intro pins s σ H Q I h
 refine wpAny_Call_Name_kw (bS I yX hm1 (u:=.type "list") (by decide +kernel) ?_)
 refine PyProof.Rows.callWith_type1 ?_ hs2 rfl
 rw[hs2]
 show wpAny _ _ (spliced ((false,eval (.Call (.Name "reversed" p2) [e] [] q2) X.env)::backTo q1 [])) _ _ s
 refine Calls.spliced_cons ?_
 refine wpAny_Call_Name_kw (bS I ym hm2 (u:=.type "reversed") boot_reversed ?_)
 refine PyProof.Rows.callWith_type1 ?_ hs rfl
 rw[hs]
 show wpAny _ _ (spliced ((false,eval e X.env)::backTo q2 [])) _ _ s
 refine Calls.spliced_cons (va (he pins s σ H _ I h) fun u s1 ⟨x,H1,I1,r1,a,xs,ex,hx,q⟩=>?_)
 subst ex
 cases r1
 obtain⟨its,rv,p,hz⟩:=I1.list hx
 have hl:=rv.length
 have hal:a < s1.heap.objs.size:=by obtain⟨o,ho,_⟩:=p.isList;exact Heap.lt_size ho
 refine Calls.spliced_nil (call_reversed_list p.isList ?_)
 refine Calls.spliced_nil ?_
 refine e_ (I.ok.hd hc) (p.isList.push _) ⟨_,Heap.get?_push_size _ rfl,rfl,rfl⟩ (Nat.ne_of_lt hal) (by rw[List.size_toArray,<-hl];exact hz) fun h' tk acc c hk hS ha=>?_
 have hsz:(s1.heap.push (revObj a ((its.toArray.size:Int) - 1))).objs.size=s1.heap.objs.size+1:=Heap.size_push _ _
 have hle:s1.heap.objs.size<=(s1.heap.push (revObj a ((its.toArray.size:Int) - 1))).objs.size:=by rw[hsz];exact Nat.le_succ _
 refine⟨.ref _,_,I1.laid (a:=(s1.heap.push (revObj a ((its.toArray.size:Int) - 1))).objs.size) (o:=.lst xs.reverse) (h':=h') (t':=tk) (fun b u e=>hk b u (Nat.ne_of_lt (Heap.lt_size e)) (Heap.get?_push_of_some _ e)) hle ?_,rfl,q _ (I1.hok.fresh hle)⟩
 refine⟨by rw[List.length_reverse];exact hz,its.reverse,c,Vals.reverse rv,?_⟩
 rw[hS]
 have e:acc=its.reverse.toArray:=by
  apply Array.toList_inj.mp
  rw[ha]
 rw[e]
end
section
variable {X:Cx}
end
section
variable {X:Cx}
noncomputable abbrev iz(c:Nat):Str:=⟨#[c]⟩
noncomputable def t4(z:Str):It:=⟨fun i _=>i < z.cps.size,fun i H x H'=>H'=H/\∃c,z.cps[i]?=some c/\x = .str (iz c),fun i _=>z.cps.size<=i⟩
def lg{P:Program}{w:World}{K:Vo}{tg:Expr}{ty:String}(hty:ty = "str_ascii_iterator" \/ ty = "str_iterator")(it:Addr)(z:Str)(t:Tok):jK P w K tg (t4 z) [it] it (fun i h=>i<=z.cps.size/\h.IsStrIter it ty z t i):=by
 have W:∀A':Around,A'.handled=none->Walks P w A' it [it] [it] z.cps.size (SignAt z) (fun i h=>h.IsStrIter it ty z t i):=fun A' hA=>by
  rcases hty with rfl|rfl
  ·exact Walks.strAscii hA it z t
  ·exact Walks.strWide hA it z t
 have nt:(["enumerate","zip","dict_itemiterator","dict_reverseitemiterator","odict_iterator","itertools.zip_longest","itertools.pairwise"].contains ty)=false:=by
  rcases hty with rfl|rfl<;>decide
 refine⟨by simp,fun i h st b hb=>?_,fun i h h' st k=>?_,?_,?_,?_⟩
 ·have e:b=it:=by simpa using hb
  subst e
  obtain⟨_,o,e,c,d⟩:=st
  exact⟨o,e,fun v q=>by rw[d]at q;cases q⟩
 ·obtain⟨hi,o,e,r⟩:=st
  exact⟨hi,o,k it (by simp) o e,r⟩
 ·intro X hP hw hK hc i pins s σ H E I hf st hg
  subst hP hw hK
  obtain⟨f0,f1,f2,f3,f4,f5⟩:=hf it (by simp)
  refine(W X.A (I.ok.hd hc)).item i s _ _ hg st.2 fun v h' tk hv st' kk=>?_
  obtain⟨c,u,hcp,rfl⟩:=hv
  have I1:Inv X pins σ H { s with heap:=h',toks:=tk }:=I.turned (fun b o hb e=>kk b o (by simpa using hb) e) f0 f1 f3 f4 f5
  obtain⟨o,e,co,d⟩:=id st'
  exact⟨_,rfl,jc (s:={ s with heap:=h',toks:=tk }) e co d nt ⟨.str (iz c),H,I1,⟨u,rfl⟩,⟨rfl,c,hcp,rfl⟩,⟨hg,st'⟩,fun b hb=>(hf b hb).1⟩⟩
 ·intro X hP hw hK hc i pins s σ H E I hf st hg
  subst hP hw hK
  obtain⟨f0,f1,f2,f3,f4,f5⟩:=hf it (by simp)
  have e:i=z.cps.size:=Nat.le_antisymm st.1 hg
  subst e
  exact(W X.A (I.ok.hd hc)).done s _ _ st.2 fun h' tk kk=>⟨rfl,I.turned (fun b o hb e=>kk b o (by simpa using hb) e) f0 f1 f3 f4 f5⟩
 ·intro A i s Q E st h
  rcases hty with rfl|rfl
  ·exact wpAny_pyIter_striter_ascii st.2 h
  ·exact wpAny_pyIter_striter_wide st.2 h
def gf{ys:Vs}:∀{us:Vv},Vals (ys.map V.str) us->StrsAre us ys:=by
 induction ys with
 |nil=>intro us r;rw[List.map_nil]at r;cases r;exact .nil
 |cons n ns ih=>
  intro us r
  rw[List.map_cons]at r
  cases r with
  |cons r1 r2=>
   obtain⟨t,e⟩:=r1
   subst e
   exact .cons n t (ih r2)
noncomputable def rY(K:Vo):V->List V->Hp->VK->Prop:=fun x vs H Q=>∃sep p ys,x = .str sep/\vs=[.ref p]/\SqL K H p (ys.map V.str)/\(ys.map (·.length)).sum+ys.length * sep.length<=1000000/\Q (.str (Txt.join sep ys)) H
def ng:sZ X "str.join" (rY X.K):=by
 intro pins s σ H x vs v us Q I rx rv h
 obtain⟨sep,p,ys,rfl,rfl,hp,hz,q⟩:=h
 obtain⟨t,rfl⟩:=rx
 obtain⟨u,rfl,ru⟩:=gP rv
 cases ru
 obtain⟨its,r,pl,_⟩:=I.list hp
 exact join_list pl.isList (by simpa using gf r) (by omega) fun t' k=>⟨.str _,H,I.tok k,⟨t',rfl⟩,q⟩
end
section
variable {X:Cx}
noncomputable def t5:V->Option Int->Option Int->Hp->VK->Prop:=fun x lo hi H Q=>∃z,x = .str z/\z.length<=sizeLine/\Q (.str (Txt.slice z lo hi)) H
def pP:qR X t5:=by
 intro pins s σ H x v vl vu lo hi sl Q I rx hs pl pu h
 obtain⟨z,rfl,hz,q⟩:=h
 obtain⟨t,rfl⟩:=rx
 refine⟨"str",_,F.slot_str_getitem.lookup,typeIs_str _ _ _,?_⟩
 obtain⟨o,e,c,d⟩:=hs
 have fin:∀l u:Option (Int×Tok),(vl=partValue l/\lo=l.map (·.1))->(vu=partValue u/\hi=u.map (·.1))->wpAny (model X.prog X.w) X.A (getItem (.str z t) (.ref sl)) (EP X pins σ Q) X.xe s:=by
  rintro l u ⟨rfl,rfl⟩ ⟨rfl,rfl⟩
  exact wpAny_getItem_str_slice (l:=l) (u:=u) (st:=none) ⟨o,e,c,d⟩ rfl (post_val_or_str ⟨Nat.le_trans (Txt.slice_le z _ _) hz,fun t' k=>⟨.str _,H,I.tok k,⟨t',rfl⟩,q⟩⟩)
 cases pl with
 |none=>
  cases pu with
  |none=>exact fin none none ⟨rfl,rfl⟩ ⟨rfl,rfl⟩
  |int j uj=>exact fin none (some (j,uj)) ⟨rfl,rfl⟩ ⟨rfl,rfl⟩
 |int i ui=>
  cases pu with
  |none=>exact fin (some (i,ui)) none ⟨rfl,rfl⟩ ⟨rfl,rfl⟩
  |int j uj=>exact fin (some (i,ui)) (some (j,uj)) ⟨rfl,rfl⟩ ⟨rfl,rfl⟩
end
end L2
namespace Zt
open PySem
open Sem (wp)
section
variable {prog:Program} {w:World} {A:Around} {E:Vq} {s:Shared}
variable {ka kb:Bool} {z TI TO i1 i2 l1 l2:Addr} {k1 k2:Nat} {xs ys:Vw} {x y a b:Value}
end
section
variable {ka kb:Bool} {prog:Program} {w:World} {A:Around} {E:Vq} {s:Shared}
end
end Zt
namespace L2
open PySem PySem.Spec PyProof.Rows
section
variable {X:Cx} {pins:Va} {σ:St} {H:Hp} {s:Shared} {h':Heap}
end
section
variable {X:Cx}
def KD(P:Program)(w:World)(K:Vo)(a:Addr)(kvs:List (aC×V)):Prop:=(a == sysModules)=false/\∃o vs,K.lookup a=some o/\KV kvs vs/\Obj.IsDictOf (aq P w) o vs
def rZ(a:Addr)(kvs:List (aC×V))(ty tx:TE):TE:=fun σ H Q=>ty σ H fun y H2=>tx σ H2 fun z H3=>∃k,y=kV k/\Q ((cq kvs k).getD z) H3
def nh{x:Str}{e f:Expr}{px apos cpos:Pos}{ty tx:TE}{a:Addr}{kvs:List (aC×V)}(hu:X.A.units+1 < cLine)(hg:Gl X x)(hm:X.mg x=some (.ref a))(hD:KD X.prog X.w X.K a kvs)(he:PE X e ty)(hf:PE X f tx)(m:M2 X (.Name x px) "get" apos e f cpos)
  (hd:(x == ("__debug__":Str))=false:=by decide):PE X (.Call (.Attribute (.Name x px) "get" apos) [e,f] [] cpos) (rZ a kvs ty tx):=by
 intro pins s σ H Q I h
 obtain⟨hsys,o,vs,hk,rel,ii⟩:=hD
 have dd:∀{s1:Shared} {H1:Hp},Inv X pins σ H1 s1->s1.heap.DictOf (aq X.prog X.w) a vs:=fun I1=>Heap.dictOf_iff.mpr ⟨o,I1.xM a o hk,ii⟩
 refine wpAny_Call_method m.base m.few m.line PySem.F.plainAttrs_dict PySem.F.slot_dict_get PySem.F.type_dict_get (fV I hg hm ?_ hd)
 refine⟨(dd I).typeIs,fun b q=>?_,?_⟩
 ·cases q
  obtain⟨ob,_,_,h1,h2,_⟩:=dd I
  exact⟨ob,h1,h2.2.1⟩
 rw[m.trees]
 refine Calls.callWith_builtin rfl (Calls.evalArgs_plain (Calls.spliced_cons (va (he pins s σ H _ I h) fun iv s2 ⟨y,H2,I2,ry,q2⟩=>
  Calls.spliced_cons (va (hf pins s2 σ H2 _ I2 q2) fun fv s3 ⟨z,H3,I3,rz,k,ey,q3⟩=>Calls.spliced_nil ?_))))
 subst ey
 refine call_meetsIn PySem.F.slot_dict_get (dd I3).typeIs PySem.F.entry_dict_get (PySem.F.args_dict_get_3 _ _ _) (meets_dict_get_default (aq X.prog X.w) a (fy ry) hsys fv) ⟨_,(dd I3).mapOf,⟨_,H3,I3.tok _,?_,q3⟩⟩
 exact(rel.val k).getD rz
end
section
variable {env:Env} {rest:List Expr} {pos:Pos}
def cb{a:Expr}{gs:List Comprehension}{sc:Scope}:starEach (.ListComp a gs sc pos::rest) env=(false,eval (.ListComp a gs sc pos) env)::starEach rest env:=rfl
end
section
variable {X:Cx} {pos:Pos} {es:List Expr} {te:TE} {t:TA}
end
section
variable {X:Cx} {pos:Pos} {e:Expr} {es:List Expr} {te:TE} {t:TA}
end
section
variable {X:Cx} {pos:Pos} {a b e tg iter:Expr} {es:List Expr} {ta tb' te:TE} {t:TA} {st:Stmt} {sts:List Stmt} {u v tb:TS}
end
section
variable {X:Cx}
end
end L2
namespace Et
open PySem
open Sem (wp)
open AutoSeq1 (wpAny_loadPart')
end Et
namespace L2
open PySem PySem.Spec PyProof.Rows
section
variable {X:Cx}
end
def lh(w:World)(x:Str):PyData.keyHash w.params x=hashStr w x:=rfl
noncomputable abbrev s_(w:World)(x:Str×Int×Tok×Tok):DictEntry:=⟨PyData.keyHash w.params x.1,.str x.1 x.2.2.1,.int x.2.1 x.2.2.2⟩
def pQ(P:Program)(w:World)(xs:List (Str×Int×Tok×Tok))(ep:Nat)(nd:(xs.map (·.1)).Nodup) :
  ∃vs,KV (xs.map fun x=>((Sum.inr x.1:aC),V.int x.2.1)) vs/\Obj.IsDictOf (aq P w) { cls:=.type "dict",data:=.dict (xs.map (s_ w)).toArray ep } vs:=by
 refine⟨xs.map fun x=>((Sum.inr x.1:aC),Value.int x.2.1 x.2.2.2),?_,(xs.map (s_ w)).toArray,ep,⟨rfl,rfl,rfl⟩,rfl,?_,?_,?_⟩
 ·induction xs with
  |nil=>exact .nil
  |cons x xs ih=>exact .cons ⟨rfl,_,rfl⟩ (ih (by simpa using(List.nodup_cons.mp (by simpa using nd)).2))
 ·intro e he
  have he':e∈xs.map (s_ w):=by simpa using he
  obtain⟨x,_,rfl⟩:=List.mem_map.mp he'
  exact⟨Sum.inr x.1,cX x.1 x.2.2.1,lh w x.1⟩
 ·have key:∀ys:List (Str×Int×Tok×Tok),Pairs (aq P w) (ys.map (s_ w)) (ys.map fun x=>((Sum.inr x.1:aC),Value.int x.2.1 x.2.2.2)):=by
   intro ys
   induction ys with
   |nil=>exact .nil
   |cons y ys ih=>exact .cons (cX y.1 y.2.2.1) rfl ih
  exact key xs
 ·rw[List.map_map]
  have e:((fun x:aC×Value=>x.1) ∘ fun x:Str×Int×Tok×Tok=>((Sum.inr x.1:aC),Value.int x.2.1 x.2.2.2))=fun x=>Sum.inr x.1:=rfl
  have key:∀ys:List (Str×Int×Tok×Tok),(ys.map (·.1)).Nodup->(ys.map fun x=>(Sum.inr x.1:aC)).Nodup:=by
   intro ys
   induction ys with
   |nil=>intro _;exact List.nodup_nil
   |cons y ys ih=>
    intro h
    rw[List.map_cons,List.nodup_cons]at h ⊢
    refine⟨fun hm=>h.1 ?_,ih h.2⟩
    obtain⟨z,hz,e⟩:=List.mem_map.mp hm
    have e':z.1=y.1:=Sum.inr.inj e
    exact List.mem_map.mpr ⟨z,hz,e'⟩
  exact key xs nd
end L2
namespace Wd
open PySem L2 PyProof.Rows
noncomputable def abc:Str:="abcdefghijklmnopqrstuvwxyz"
noncomputable def wo:List Str:=["jars","deed","rest","pay","put","then","either","take","often","use"]
def pR:∀i,i < 26->abc.cps.toList[i]?=some (97+i):=by decide +kernel
def ni:abc.length<=sizeLine/\abc.cps.toList.length=26:=by decide +kernel
structure IsW (z:Str):Prop where
 ne:z.cps.toList≠[]
 le:z.cps.toList.length<=6
 sm:∀c∈z.cps.toList,97<=c/\c<=122
def IsW.len{z:Str}(h:IsW z):z.length<=6:=by have q:=h.le;rw[Array.length_toList]at q;exact q
def pS(i:Nat):vK abc.cps.toList ((i % 26:Nat):Int)=some (97+i % 26):=fY (pR _ (Nat.mod_lt _ (by decide)))
def iN(cs:List Nat):Txt.join "" (cs.map iz)=⟨cs.toArray⟩:=by
 have q:=join_nil_signs ⟨cs.toArray⟩
 have e:Txt.join "" (cs.map iz)=Str.join ⟨#[]⟩ (cs.map iz):=StrLaws.glued_eq_join _ _
 rw[e]
 exact q
def nj(cs:List Nat):((cs.map iz).map (·.length)).sum=cs.length:=by
 induction cs with
 |nil=>rfl
 |cons c r ih=>rw[List.map_cons,List.map_cons,List.sum_cons,ih,List.length_cons];show 1+r.length=_;omega
end Wd
namespace M3
noncomputable def gg(t b:Int):Int:=(if b < 0 then -t else t) / (Int.gcd t b:Int)
noncomputable def gW(t b:Int):Int:=(if b < 0 then -b else b) / (Int.gcd t b:Int)
def cL{t b:Int}(h:b≠0):0 < Int.gcd t b:=Nat.gcd_pos_of_pos_right _ (by omega)
def pT{t b:Int}(h:b≠0):(Int.gcd t b:Int)<=b.natAbs:=by
 have q:Nat.gcd t.natAbs b.natAbs<=b.natAbs:=Nat.gcd_le_right _ (by omega)
 have e:Int.gcd t b=Nat.gcd t.natAbs b.natAbs:=rfl
 omega
def li(t b:Int):Int.gcd (-t) (-b)=Int.gcd t b:=by rw[Int.gcd_neg,Int.neg_gcd]
def parts(t b:Int):∃x y:Int,t=(Int.gcd t b:Int) * x/\b=(Int.gcd t b:Int) * y:=by
 obtain⟨x,hx⟩:=Int.gcd_dvd_left t b
 obtain⟨y,hy⟩:=Int.gcd_dvd_right t b
 exact⟨x,y,hx,hy⟩
def pU{t b x y g:Int}(hg:g=(Int.gcd t b:Int))(h:b≠0)(ht:t=g * x)(hb:b=g * y):gg t b=(if y < 0 then -x else x)/\gW t b=(if y < 0 then -y else y):=by
 have gp:0 < g:=by rw[hg];exact Int.natCast_pos.mpr (cL h)
 have hy:b < 0↔y < 0:=by
  rw[hb]
  constructor
  ·intro q
   by_cases z:y < 0
   ·exact z
   ·have:=Int.mul_nonneg (Int.le_of_lt gp) (Int.not_lt.mp z)
    omega
  ·intro q
   exact Int.mul_neg_of_pos_of_neg gp q
 unfold gg gW
 rw[<-hg]
 by_cases z:y < 0
 ·rw[if_pos (hy.mpr z),if_pos (hy.mpr z),if_pos z,if_pos z]
  constructor
  ·rw[ht,<-Int.mul_neg,Int.mul_ediv_cancel_left _ (by omega)]
  ·rw[hb,<-Int.mul_neg,Int.mul_ediv_cancel_left _ (by omega)]
 ·rw[if_neg (fun q=>z (hy.mp q)),if_neg (fun q=>z (hy.mp q)),if_neg z,if_neg z]
  constructor
  ·rw[ht,Int.mul_ediv_cancel_left _ (by omega)]
  ·rw[hb,Int.mul_ediv_cancel_left _ (by omega)]
def nk{t b x y:Int}(h:b≠0)(ht:t=(Int.gcd t b:Int) * x)(hb:b=(Int.gcd t b:Int) * y):Int.gcd x y=1:=by
 have gp:=cL (t:=t) h
 have q:Int.gcd ((Int.gcd t b:Int) * x) ((Int.gcd t b:Int) * y)=(Int.gcd t b:Int).natAbs * Int.gcd x y:=Int.gcd_mul_left _ _ _
 rw[<-ht,<-hb,Int.natAbs_natCast]at q
 have q2:Int.gcd t b * 1=Int.gcd t b * Int.gcd x y:=by omega
 exact(Nat.eq_of_mul_eq_mul_left gp q2).symm
structure uy (a b:Int):Prop where
 pos:0 < b
 one:Int.gcd a b=1
def jl{t b:Int}(h:b≠0):uy (gg t b) (gW t b):=by
 obtain⟨x,y,ht,hb⟩:=parts t b
 have c:=nk h ht hb
 obtain⟨e1,e2⟩:=pU rfl h ht hb
 have y0:y≠0:=fun z=>h (by rw[hb,z,Int.mul_zero])
 rw[e1,e2]
 by_cases z:y < 0
 ·rw[if_pos z,if_pos z]
  exact⟨by omega,by rw[li];exact c⟩
 ·rw[if_neg z,if_neg z]
  exact⟨by omega,c⟩
def ll{t b:Int}(h:b≠0):t.fdiv (if b < 0 then -(Int.gcd t b:Int) else (Int.gcd t b:Int))=gg t b/\b.fdiv (if b < 0 then -(Int.gcd t b:Int) else (Int.gcd t b:Int))=gW t b:=by
 have gp:(0:Int) < (Int.gcd t b:Int):=Int.natCast_pos.mpr (cL h)
 have d1:=Int.gcd_dvd_left t b
 have d2:=Int.gcd_dvd_right t b
 unfold gg gW
 by_cases z:b < 0
 ·rw[if_pos z,if_pos z,if_pos z,Int.fdiv_neg (by omega),if_pos d1,Int.fdiv_neg (by omega),if_pos d2,Int.fdiv_eq_ediv_of_dvd d1,Int.fdiv_eq_ediv_of_dvd d2,Int.neg_ediv_of_dvd d1,Int.neg_ediv_of_dvd d2]
  exact⟨rfl,rfl⟩
 ·rw[if_neg z,if_neg z,if_neg z,Int.fdiv_eq_ediv_of_dvd d1,Int.fdiv_eq_ediv_of_dvd d2]
  exact⟨rfl,rfl⟩
def lm(x y:Int):Int.gcd y (x.fmod y)=Int.gcd x y:=by
 have q:=Int.mul_fdiv_add_fmod x y
 have e:Int.gcd y (x.fmod y+x.fdiv y * y)=Int.gcd y (x.fmod y):=Int.gcd_add_mul_right_right _ _ _
 rw[<-e,Int.mul_comm (x.fdiv y) y,Int.add_comm,q,Int.gcd_comm]
def lp{t b T B:Int}(h:b≠0)(h1:-T<=t)(h2:t<=T)(h3:-B<=b)(h4:b<=B)(hT:0<=T)(hB:0<=B):-T<=gg t b/\gg t b<=T/\0 < gW t b/\gW t b<=B:=by
 have gp:(0:Int) < (Int.gcd t b:Int):=Int.natCast_pos.mpr (cL h)
 have L:=(jl (t:=t) h).pos
 have key:∀z M:Int,0<=M->-M<=z->z<=M->-M<=z / (Int.gcd t b:Int)/\z / (Int.gcd t b:Int)<=M:=fun z M hM z1 z2=>by
  generalize (Int.gcd t b:Int)=g at gp
  have m2:M * 1<=M * g:=Int.mul_le_mul_of_nonneg_left (by omega) hM
  have m3:-M * g = -(M * g):=Int.neg_mul M g
  exact⟨Int.le_ediv_of_mul_le gp (by omega),Int.ediv_le_of_le_mul gp (by omega)⟩
 have k1:=key (if b < 0 then -t else t) T hT (by split<;>omega) (by split<;>omega)
 have k2:=key (if b < 0 then -b else b) B hB (by split<;>omega) (by split<;>omega)
 exact⟨k1.1,k1.2,L,k2.2⟩
end M3
namespace Xc
open PySem PySem.W PySem.Calls PyProof.Rows Builtin Builtin.ObjectAttr
section
variable {prog:Program} {w:World} {A:Around} {K:Frag} {C f:Addr} {R:Result->Shared->Prop} {h:Heap} {g:Array GenState} {d:Drawn} {t:Nat} {os:OsState}
end
structure t6 (h:Heap) (e:Addr) (oe:Obj) (vs:Vw):Prop where
 at_:h.get? e=some oe
 dat:oe.data = .fields vs
 tb:vs[1]?=some .none\/∃T oT ts,vs[1]?=some (.ref T)/\T≠e/\h.get? T=some oT/\oT.data = .fields ts/\ts[3]?=some .none
section
variable {M:Model} {A:Around} {E:Vq} {s:Shared}
end
section
variable {M:Model} {A:Around} {E:Vq} {env:Env} {K:Frag} {C:Addr}
end
section
variable {prog:Program} {w:World} {A:Around} {E:Vq} {s:Shared} {K:Frag} {x C:Addr} {ox:Obj} {od:Option Obj} {name:Str} {expr:Bool} {Q:Vq}
end
section
variable {prog:Program} {w:World} {A:Around} {E:Vq} {s:Shared} {K:Frag} {x C:Addr} {ox:Obj} {od:Option Obj} {name:Str} {v:Value} {R:Result->Shared->Prop}
end
end Xc
namespace L2
open PySem PySem.Spec PyProof.Rows Xc
def uO(X:Cx)(pins:Va)(H:Hp)(h:Heap)(a C dx:Addr):Prop:=
 ∃oe vs,t6 h a oe vs/\oe.cls = .ref C/\oe.dict=some dx/\cY X pins H a/\∀T,vs[1]?=some (.ref T)->cY X pins H T
section
variable {X:Cx} {pins:Va} {σ:St} {H H':Hp} {s s':Shared} {a C dx:Addr}
end
section
variable {X:Cx} {k:Nat} {f C:Addr} {fd:FuncData} {ps:Vs} {sp:Sp} {x m:Str} {p pos apos:Pos} {e o:Expr} {es:List Expr} {ta:TE} {t:TA}
end
def XD(dx:Addr)(fs:List (Str×V))(h:Heap):Prop:=∃mA,h.Ns1 dx mA/\(∀f,RelO (fs.lookup f) (mA f))/\PySem.Within mA (fs.map (·.1))
section
variable {X:Cx} {pins:Va} {σ:St} {H:Hp} {s:Shared}
end
section
variable {X:Cx} {o value:Expr} {f:Str} {pos pos':Pos} {ta tv:TE}
end
section
variable {P:Program} {w:World} {K:Vo} {mg:Vr} {base:Heap}
end
section
variable {X:Cx} {f C:Addr} {fd:FuncData} {ps ks:Vs} {x:Str} {p cpos pos:Pos} {e:Expr} {es:List Expr} {t:TA}
end
section
variable {X:Cx} {pins xg:Va} {σ:St} {H H':Hp} {s s':Shared} {E:Vq}
end
section
variable {X:Cx} {pins xg:Va} {σ:St} {H:Hp} {s':Shared} {E:Vq} {a C dx Dc:Addr} {i:Nat} {n x:Str} {np hpos:Pos} {b₀:Stmt} {suite:List Stmt} {th:Addr->TS} {D:eY}
end
end L2
namespace L3
open PySem L2
inductive PV where
 |non|bl (b:Bool)|int (i:Int)|str (x:Str)|tup (xs:List PV)|cl (xs:List PV)|ref (a:Addr)|ty (n:String)|exc (c:Str) (ks:Vs) (ps:List PV)|cls (c:Str)
def yt(K:Vo)(H:Hp)(a:Addr)(xs:List V):Prop:=
 (∃o,H a=some (.frz o (.lst xs))) \/
  ∃(o:Obj) (its:Vw) (n:Nat),K.lookup a=some o/\o.cls = .type "list"/\o.dict=none/\o.data = .seq its n/\its.size<=sizeLine/\Vals xs its.toList
def yt.sq{K:Vo}{H:Hp}{a:Addr}{xs:List V}(h:yt K H a xs):SqL K H a xs:=h.elim (fun z=>.inl (.inr z)) .inr
def yY(H:Hp)(a C:Addr)(ks:Vs)(vs:List V):Prop:=
 ∃oe dx od,H a=some (.frz oe (.ext fun _=>True))/\oe.cls = .ref C/\oe.dict=some dx/\(∀c,oe.data ≠ .cls c)/\H dx=some (.frz od (.ext (XD dx (ks.zip vs))))
def nn(K:Vo)(c:Str)(C:Addr):Prop:=PySem.W.nsIn K mainGlobals c=some (some (.ref C))
mutual
inductive Rep (K:Vo) (H:Hp):V->PV->Prop
 |non:Rep K H .non .non
 |bl (b:Bool):Rep K H (.bl b) (.bl b)
 |int (i:Int):Rep K H (.int i) (.int i)
 |str (x:Str):Rep K H (.str x) (.str x)
 |ty (n:String):Rep K H (.ty n) (.ty n)
 |ref (a:Addr):Rep K H (.ref a) (.ref a)
 |tup {a:Addr} {vs:List V} {ps:List PV}:v4 K H a vs->Reps K H vs ps->Rep K H (.ref a) (.tup ps)
 |cl {a:Addr} {vs:List V} {ps:List PV}:yt K H a vs->Reps K H vs ps->Rep K H (.ref a) (.cl ps)
 |exc {a C:Addr} {c:Str} {ks:Vs} {vs:List V} {ps:List PV}:nn K c C->yY H a C ks vs->Reps K H vs ps->Rep K H (.ref a) (.exc c ks ps)
 |cls {C:Addr} {c:Str}:nn K c C->Rep K H (.ref C) (.cls c)
inductive Reps (K:Vo) (H:Hp):List V->List PV->Prop
 |nil:Reps K H [] []
 |cons {v:V} {p:PV} {vs:List V} {ps:List PV}:Rep K H v p->Reps K H vs ps->Reps K H (v::vs) (p::ps)
end
structure Grow (K:Vo) (H H':Hp):Prop where
 t:∀a vs,v4 K H a vs->v4 K H' a vs
 c:∀a vs,yt K H a vs->yt K H' a vs
 x:∀a o u,H a=some (.frz o u)->H' a=some (.frz o u)
def Grow.refl{K:Vo}{H:Hp}:Grow K H H:=⟨fun _ _ h=>h,fun _ _ h=>h,fun _ _ _ h=>h⟩
def Grow.trans{K:Vo}{H H1 H2:Hp}(a:Grow K H H1)(b:Grow K H1 H2):Grow K H H2:=⟨fun x vs h=>b.t x vs (a.t x vs h),fun x vs h=>b.c x vs (a.c x vs h),fun x o u h=>b.x x o u (a.x x o u h)⟩
def yY.mono{K:Vo}{H H':Hp}(g:Grow K H H'){a C:Addr}{ks:Vs}{vs:List V}(h:yY H a C ks vs):yY H' a C ks vs:=let ⟨oe,dx,od,h1,h2,h3,h4,h5⟩:=h;⟨oe,dx,od,g.x _ _ _ h1,h2,h3,h4,g.x _ _ _ h5⟩
def Grow.of{K:Vo}{H H':Hp}(h:∀a xs,H a=some (.tup xs)->H' a=some (.tup xs))(h2:∀a o u,H a=some (.frz o u)->H' a=some (.frz o u)):Grow K H H':=by
 refine⟨fun a vs q=>?_,fun a vs q=>?_,h2⟩
 ·rcases q with(q|⟨o,q⟩)|q
  ·exact .inl (.inl (h a vs q))
  ·exact .inl (.inr ⟨o,h2 a o _ q⟩)
  ·exact .inr q
 ·rcases q with⟨o,q⟩|q
  ·exact .inl ⟨o,h2 a o _ q⟩
  ·exact .inr q
def Grow.same{K:Vo}{H H':Hp}(h:∀c o,H c=some o->H' c=some o):Grow K H H':=.of (fun a _ q=>h a _ q) (fun a _ _ q=>h a _ q)
def Grow.new{K:Vo}{H:Hp}{p:Addr}{o:HO}(h:H p=none):Grow K H (upd H p o):=.same fun c u q=>by rw[al (aD q h)];exact q
noncomputable def Mu:HO->Prop
 | .tup _=>False
 | .frz _ _=>False
 |_=>True
def Grow.mut{K:Vo}{H:Hp}{p:Addr}{o u:HO}(h:H p=some u)(m:Mu u):Grow K H (upd H p o):=
 .of (fun a xs q=>by rw[al (fun e=>by subst e;rw[h]at q;cases q;exact m)];exact q) (fun a _ _ q=>by rw[al (fun e=>by subst e;rw[h]at q;cases q;exact m)];exact q)
mutual
theorem Rep.mono{K:Vo}{H H':Hp}(g:Grow K H H'):∀{v:V} {p:PV},Rep K H v p->Rep K H' v p
 |_,_,.non=>.non
 |_,_,.bl b=>.bl b
 |_,_,.int i=>.int i
 |_,_,.str x=>.str x
 |_,_,.ty n=>.ty n
 |_,_,.ref a=>.ref a
 |_,_,.tup h r=>.tup (g.t _ _ h) (Reps.mono g r)
 |_,_,.cl h r=>.cl (g.c _ _ h) (Reps.mono g r)
 |_,_,.exc n h r=>.exc n (h.mono g) (Reps.mono g r)
 |_,_,.cls n=>.cls n
theorem Reps.mono{K:Vo}{H H':Hp}(g:Grow K H H'):∀{vs:List V} {ps:List PV},Reps K H vs ps->Reps K H' vs ps
 |_,_,.nil=>.nil
 |_,_,.cons a r=>.cons (Rep.mono g a) (Reps.mono g r)
end
theorem Reps.length{K:Vo}{H:Hp}:∀{vs:List V} {ps:List PV},Reps K H vs ps->vs.length=ps.length
 |_,_,.nil=>rfl
 |_,_,.cons _ r=>by rw[List.length_cons,List.length_cons,Reps.length r]
theorem Reps.append{K:Vo}{H:Hp}:∀{vs us:List V} {ps qs:List PV},Reps K H vs ps->Reps K H us qs->Reps K H (vs++us) (ps++qs)
 |_,_,_,_,.nil,s=>s
 |_,_,_,_,.cons a r,s=>.cons a (Reps.append r s)
theorem Reps.get{K:Vo}{H:Hp}:∀{vs:List V} {ps:List PV} {i:Nat} {p:PV},Reps K H vs ps->ps[i]?=some p->∃v,vs[i]?=some v/\Rep K H v p
 |_,_,_,_,.nil,e=>by simp at e
 |_,_,0,_,.cons a r,e=>by simp at e;subst e;exact⟨_,rfl,a⟩
 |_,_,i+1,p,.cons a r,e=>by
  obtain⟨v,h1,h2⟩:=Reps.get (i:=i) (p:=p) r (by simpa using e)
  exact⟨v,by simpa using h1,h2⟩
theorem Reps.take{K:Vo}{H:Hp}:∀{vs:List V} {ps:List PV} (n:Nat),Reps K H vs ps->Reps K H (vs.take n) (ps.take n)
 |_,_,0,_=>.nil
 |_,_,_+1,.nil=>.nil
 |_,_,n+1,.cons a r=>.cons a (Reps.take n r)
theorem Reps.drop{K:Vo}{H:Hp}:∀{vs:List V} {ps:List PV} (n:Nat),Reps K H vs ps->Reps K H (vs.drop n) (ps.drop n)
 |_,_,0,r=>r
 |_,_,_+1,.nil=>.nil
 |_,_,n+1,.cons _ r=>Reps.drop n r
theorem Reps.set{K:Vo}{H:Hp}{v:V}{p:PV}(q:Rep K H v p):∀{vs:List V} {ps:List PV} (n:Nat),Reps K H vs ps->Reps K H (vs.set n v) (ps.set n p)
 |_,_,_,.nil=>.nil
 |_,_,0,.cons _ r=>.cons q r
 |_,_,n+1,.cons a r=>.cons a (Reps.set q n r)
theorem Reps.eraseIdx{K:Vo}{H:Hp}:∀{vs:List V} {ps:List PV} (n:Nat),Reps K H vs ps->Reps K H (vs.eraseIdx n) (ps.eraseIdx n)
 |_,_,_,.nil=>.nil
 |_,_,0,.cons _ r=>r
 |_,_,n+1,.cons a r=>.cons a (Reps.eraseIdx n r)
theorem Reps.reverse{K:Vo}{H:Hp}:∀{vs:List V} {ps:List PV},Reps K H vs ps->Reps K H vs.reverse ps.reverse
 |_,_,.nil=>.nil
 |_,_,.cons a r=>by rw[List.reverse_cons,List.reverse_cons];exact(Reps.reverse r).append (.cons a .nil)
theorem Reps.dropLast{K:Vo}{H:Hp}{vs:List V}{ps:List PV}(r:Reps K H vs ps):Reps K H vs.dropLast ps.dropLast:=by
 rw[List.dropLast_eq_take,List.dropLast_eq_take,r.length]
 exact r.take _
inductive SO where
 |lst (xs:List PV)
 |dct (kvs:List (aC×PV))
 |ins (c:Str) (fs:List (Str×PV))
abbrev aj:=Addr->Option SO
noncomputable def u6(S:aj)(a:Addr)(o:SO):aj:=fun b=>if b=a then some o else S b
def aa{S:aj}{a:Addr}{o:SO}:u6 S a o a=some o:=by unfold u6;rw[if_pos rfl]
def ac{S:aj}{a b:Addr}{o:SO}(h:b≠a):u6 S a o b=S b:=by unfold u6;rw[if_neg h]
inductive ve (K:Vo) (H:Hp) {κ:Type}:List (κ×V)->List (κ×PV)->Prop
 |nil:ve K H [] []
 |cons {k:κ} {v:V} {p:PV} {vs:List (κ×V)} {ps:List (κ×PV)}:Rep K H v p->ve K H vs ps->ve K H ((k,v)::vs) ((k,p)::ps)
theorem ve.mono{K:Vo}{H H':Hp}(g:Grow K H H'){κ:Type}:∀{vs:List (κ×V)} {ps:List (κ×PV)},ve K H vs ps->ve K H' vs ps
 |_,_,.nil=>.nil
 |_,_,.cons a r=>.cons (a.mono g) (ve.mono g r)
theorem ve.length{K:Vo}{H:Hp}{κ:Type}:∀{vs:List (κ×V)} {ps:List (κ×PV)},ve K H vs ps->vs.length=ps.length
 |_,_,.nil=>rfl
 |_,_,.cons _ r=>by rw[List.length_cons,List.length_cons,ve.length r]
noncomputable def wR(K:Vo)(H:Hp)(a:Addr):SO->Prop
 | .lst xs=>∃vs,H a=some (.lst vs)/\Reps K H vs xs
 | .dct kvs=>∃kv,H a=some (.dK kv)/\ve K H kv kvs
 | .ins c fs=>∃C dx f',nn K c C/\H a=some (.ins C dx f')/\ve K H f' fs
theorem wR.stay{K:Vo}{H H':Hp}(g:Grow K H H'){a:Addr}(e:H' a=H a):∀{o:SO},wR K H a o->wR K H' a o
 | .lst _,⟨vs,h,r⟩=>⟨vs,e.trans h,r.mono g⟩
 | .dct _,⟨vs,h,r⟩=>⟨vs,e.trans h,r.mono g⟩
 | .ins _ _,⟨C,dx,vs,n,h,r⟩=>⟨C,dx,vs,n,e.trans h,r.mono g⟩
theorem wR.some{K:Vo}{H:Hp}{a:Addr}:∀{o:SO},wR K H a o->∃u,H a=Option.some u/\Mu u
 | .lst _,⟨_,h,_⟩=>⟨_,h,trivial⟩
 | .dct _,⟨_,h,_⟩=>⟨_,h,trivial⟩
 | .ins _ _,⟨_,_,_,_,h,_⟩=>⟨_,h,trivial⟩
def u_(K:Vo)(H:Hp)(S:aj):Prop:=∀a o,S a=some o->wR K H a o
def u_.free{K:Vo}{H:Hp}{S:aj}(r:u_ K H S){p:Addr}(h:H p=none):S p=none:=by
 cases e:S p with
 |none=>rfl
 |some o=>
  obtain⟨u,q,_⟩:=(r p o e).some
  rw[h]at q;cases q
def u_.grow{K:Vo}{H H':Hp}{S:aj}(r:u_ K H S)(h:∀c o,H c=some o->H' c=some o):u_ K H' S:=fun a o e=>by
 obtain⟨u,q,_⟩:=(r a o e).some
 exact(r a o e).stay (.same h) ((h a u q).trans q.symm)
def u_.other{K:Vo}{H:Hp}{S:aj}(r:u_ K H S){p:Addr}{o:HO}(h:H p=none):u_ K (upd H p o) S:=r.grow fun c u q=>by rw[al (aD q h)];exact q
theorem u_.new{K:Vo}{H:Hp}{S:aj}(r:u_ K H S){p:Addr}{u:HO}{o:SO}(h:H p=none)(q:wR K (upd H p u) p o):u_ K (upd H p u) (u6 S p o):=fun a x e=>by
 by_cases z:a=p
 ·subst z;rw[aa]at e;cases e;exact q
 ·rw[ac z]at e;exact(r a x e).stay (.new h) (al z)
def u_.put{K:Vo}{H:Hp}{S:aj}(r:u_ K H S){p:Addr}{u0 u:HO}{o:SO}(h:H p=some u0)(m:Mu u0)(q:wR K (upd H p u) p o):u_ K (upd H p u) (u6 S p o):=fun a x e=>by
 by_cases z:a=p
 ·subst z;rw[aa]at e;cases e;exact q
 ·rw[ac z]at e;exact(r a x e).stay (.mut h m) (al z)
abbrev aZ:=List (Option PV)
noncomputable def lk:aZ->Nat->Option PV
 |[],_=>none
 |x::_,0=>x
 |_::r,i+1=>lk r i
def lq{σ:aZ}{i:Nat}{p:PV}(h:lk σ i=some p):σ[i]?=some (some p):=by
 induction σ generalizing i with
 |nil=>cases h
 |cons x r ih=>
  cases i with
  |zero=>exact congrArg some h
  |succ i=>exact ih h
structure vb (K:Vo) (H:Hp) (σ:St) (σ3:aZ):Prop where
 len:σ.length=σ3.length
 at':∀(i:Nat) (p:PV),σ3[i]?=some (some p)->∃v,σ[i]?=some (some v)/\Rep K H v p
theorem vb.mono{K:Vo}{H H':Hp}{σ:St}{σ3:aZ}(r:vb K H σ σ3)(g:Grow K H H'):vb K H' σ σ3:=⟨r.len,fun i p e=>let ⟨v,h,q⟩:=r.at' i p e;⟨v,h,q.mono g⟩⟩
theorem vb.set{K:Vo}{H:Hp}{σ:St}{σ3:aZ}(r:vb K H σ σ3){v:V}{p:PV}(q:Rep K H v p)(i:Nat):vb K H (σ.set i (some v)) (σ3.set i (some p)):=by
 refine⟨by rw[List.length_set,List.length_set,r.len],fun j x e=>?_⟩
 rw[List.getElem?_set]at e ⊢
 split at e
 ·rename_i hij
  rw[if_pos hij]
  subst hij
  split at e
  ·rename_i hl
   cases e
   rw[if_pos (by rw[r.len];exact hl)]
   exact⟨v,rfl,q⟩
  ·cases e
 ·rename_i hij
  rw[if_neg hij]
  exact r.at' j x e
abbrev bP:=PV->aj->Prop
abbrev cr:=PV->aZ->aj->Prop
abbrev ax:=aZ->aj->bP->cr->Prop
abbrev dS:=aZ->aj->(Bool->aj->Prop)->cr->Prop
abbrev uP:=aZ->aj->(List PV->aj->Prop)->cr->Prop
structure gX where
 nx:aZ->aj->Prop
 rt:bP
 ex:cr
 bk:aZ->aj->Prop:=fun _ _=>False
 ct:aZ->aj->Prop:=fun _ _=>False
abbrev a_:=gX->aZ->aj->Prop
def xA(X:Cx)(H:Hp)(E:cr):Prop:=∀(c:Str) (ks:Vs) (ps:List PV) (σ3:aZ) (S':aj) (H':Hp) (pins:Va) (σ:St) (s':Shared) (a C dx:Addr) (od:Obj) (vs:List V),E (.exc c ks ps) σ3 S'->nn X.K c C->vs.length=ks.length->
 H' dx=some (.frz od (.ext (XD dx (ks.zip vs))))->Reps X.K H' vs ps->u_ X.K H' S'->vb X.K H' σ σ3->Grow X.K H H'->Inv X pins σ H' s'->uO X pins H' s'.heap a C dx->X.xe (.ref a) s'
def xA.mono{X:Cx}{H H':Hp}{E:cr}(x:xA X H E)(g:Grow X.K H H'):xA X H' E:=fun c ks ps σ3 S' H2 pins σ s' a C dx od vs h1 h2 h3 h4 h5 h6 h7 h8 h9 Ao=>x c ks ps σ3 S' H2 pins σ s' a C dx od vs h1 h2 h3 h4 h5 h6 h7 (g.trans h8) h9 Ao
def xB(K:Vo)(H:Hp)(Q3:bP)(Q:VK):Prop:=∀p S' v H',Q3 p S'->Rep K H' v p->u_ K H' S'->Grow K H H'->Q v H'
def xB.mono{K:Vo}{H H':Hp}{Q3:bP}{Q:VK}(r:xB K H Q3 Q)(g:Grow K H H'):xB K H' Q3 Q:=fun p S' v H2 h1 h2 h3 h4=>r p S' v H2 h1 h2 h3 (g.trans h4)
def yu(K:Vo)(H:Hp)(N3:aZ->aj->Prop)(N:St->Hp->Prop):Prop:=∀σ3 S' σ H',N3 σ3 S'->vb K H' σ σ3->u_ K H' S'->Grow K H H'->N σ H'
def yu.mono{K:Vo}{H H':Hp}{Q3:aZ->aj->Prop}{Q:St->Hp->Prop}(r:yu K H Q3 Q)(g:Grow K H H'):yu K H' Q3 Q:=fun p S' v H2 h1 h2 h3 h4=>r p S' v H2 h1 h2 h3 (g.trans h4)
def LE(X:Cx)(t:ax):TE:=fun σ H Q=>∃σ3 S Q3 E3,vb X.K H σ σ3/\u_ X.K H S/\t σ3 S Q3 E3/\xA X H E3/\xB X.K H Q3 Q
def LT(X:Cx)(t:dS):TT:=fun σ H Q=>∃σ3 S Q3 E3,vb X.K H σ σ3/\u_ X.K H S/\t σ3 S Q3 E3/\xA X H E3/\∀b S' H',Q3 b S'->u_ X.K H' S'->Grow X.K H H'->Q b H'
def LS(X:Cx)(t:a_):TS:=fun D σ H=>∃σ3 S D3,vb X.K H σ σ3/\u_ X.K H S/\t D3 σ3 S/\xA X H D3.ex/\yu X.K H D3.nx D.nx/\xB X.K H D3.rt D.rt/\yu X.K H D3.bk D.bk/\yu X.K H D3.ct D.ct
structure aI (X:Cx) (e:Expr) (t:ax):Prop where
 ok:PE X e (LE X t)
structure jm (X:Cx) (e:Expr) (t:dS):Prop where
 ok:PT X e (LT X t)
structure pV (X:Cx) (e:Expr) (t:dS):Prop where
 ok:PW X e (LT X t)
structure jn (X:Cx) (st:Stmt) (t:a_):Prop where
 ok:PS X st (LS X t)
structure ef (X:Cx) (st:List Stmt) (t:a_):Prop where
 ok:w4 X st (LS X t)
def ay{X:Cx}{e:Expr}{t t':TE}(h:PE X e t)(k:∀σ H Q,t' σ H Q->t σ H Q):PE X e t':=fun pins s σ H Q I q=>h pins s σ H Q I (k σ H Q q)
def iO{X:Cx}{e:Expr}{t t':TT}(h:PT X e t)(k:∀σ H Q,t' σ H Q->t σ H Q):PT X e t':=fun pins s σ H Q I q=>h pins s σ H Q I (k σ H Q q)
def lr{X:Cx}{e:Expr}{t t':TT}(h:PW X e t)(k:∀σ H Q,t' σ H Q->t σ H Q):PW X e t':=fun wh pins s σ H Q I q=>h wh pins s σ H Q I (k σ H Q q)
def bp{X:Cx}{e:Stmt}{t t':TS}(h:PS X e t)(k:∀D σ H,t' D σ H->t D σ H):PS X e t':=fun pins s σ H D I q=>h pins s σ H D I (k D σ H q)
def jo{X:Cx}{e:List Stmt}{t t':TS}(h:w4 X e t)(k:∀D σ H,t' D σ H->t D σ H):w4 X e t':=fun pins s σ H D I q=>h pins s σ H D I (k D σ H q)
section
variable {X:Cx} {a b c e o:Expr} {es:List Expr} {ta tb tc te:ax} {pos:Pos}
def v3(i:Nat):ax:=fun σ S Q _=>match lk σ i with|some p=>Q p S|none=>False
def ai(i:Nat){x:Str}(hN:X.N[i]?=some x:=by rfl)(hv:sU X.env.scope x:=by first|exact Or.inl rfl|exact Or.inr (Or.inl rfl)|exact Or.inr (Or.inr rfl))(hd:(x == ("__debug__":Str))=false:=by decide)
  (hcd:(x == ("__classdict__":Str))=false:=by decide):aI X (.Name x pos) (v3 i):=
 ⟨ay (oW hN hv hd hcd) fun σ H Q ⟨σ3,S,Q3,E3,rσ,rS,h,xo,k⟩=>by
  unfold v3 at h
  split at h
  ·rename_i p e
   obtain⟨v,ev,rv⟩:=rσ.at' i p (lq e)
   exact⟨v,ev,k p S v H h rv rS .refl⟩
  ·exact h.elim⟩
def c3(p:PV):ax:=fun _ S Q _=>Q p S
def ab{i:Int}{j:Nat}:aI X (.Constant (.int i) j pos) (c3 (.int i)):=⟨ay oX fun σ H Q ⟨σ3,S,Q3,E3,rσ,rS,h,xo,k⟩=>k _ S _ H h (.int i) rS .refl⟩
def lv{i:Bool}{j:Nat}:aI X (.Constant (.bool i) j pos) (c3 (.bl i)):=⟨ay ra fun σ H Q ⟨σ3,S,Q3,E3,rσ,rS,h,xo,k⟩=>k _ S _ H h (.bl i) rS .refl⟩
def ag{i:Str}{j:Nat}:aI X (.Constant (.str i) j pos) (c3 (.str i)):=⟨ay oY fun σ H Q ⟨σ3,S,Q3,E3,rσ,rS,h,xo,k⟩=>k _ S _ H h (.str i) rS .refl⟩
def t7{x:Str}{n:String}(hg:Gl X x)(hm:X.mg x=none)(hv:bootBuiltins x=some (.type n))(hn:x ≠ "__name__":=by decide)(hd:(x == ("__debug__":Str))=false:=by decide):aI X (.Name x pos) (c3 (.ty n)):=
 ⟨ay (mD (v:=.ty n) hg hm hv rfl hn hd) fun σ H Q ⟨σ3,S,Q3,E3,rσ,rS,h,xo,k⟩=>k _ S _ H h (.ty n) rS .refl⟩
noncomputable def au:List ax->uP
 |[],_,S,Q,_=>Q [] S
 |t::ts,σ,S,Q,E=>t σ S (fun x S1=>au ts σ S1 (fun xs S2=>Q (x::xs) S2) E) E
noncomputable def tj:List TE->TA
 |[]=>mP
 |t::ts=>kN t (tj ts)
structure iA (X:Cx) (es:List Expr) (ts:List ax):Prop where
 ok:PA X es (tj (ts.map (LE X)))
def oJ:iA X [] []:=⟨pr⟩
def lw{ts:List ax}(hs:starEach (e::es) X.env=(false,eval e X.env)::starEach es X.env)(ha:aI X e te)(hr:iA X es ts):iA X (e::es) (te::ts):=⟨mQ ha.ok hr.ok hs⟩
theorem bd:∀{ts:List ax} {σ:L2.St} {H:Hp} {Q:List V->Hp->Prop} {σ3:aZ} {S:aj} {Q3:List PV->aj->Prop} {E3:cr},vb X.K H σ σ3->u_ X.K H S->au ts σ3 S Q3 E3->xA X H E3->
  (∀ps S' vs H',ps.length=ts.length->Q3 ps S'->Reps X.K H' vs ps->u_ X.K H' S'->Grow X.K H H'->Q vs H')->tj (ts.map (LE X)) σ H Q
 |[],σ,H,Q,σ3,S,Q3,E3,rσ,rS,h,xo,k=>k [] S [] H rfl h .nil rS .refl
 |t::ts,σ,H,Q,σ3,S,Q3,E3,rσ,rS,h,xo,k=>
  ⟨σ3,S,_,E3,rσ,rS,h,xo,fun p S1 v H1 h1 rv vf g1=>bd (rσ.mono g1) vf h1 (xo.mono g1) fun ps S2 vs H2 hl h2 zB wy g2=>k (p::ps) S2 (v::vs) H2 (by rw[List.length_cons,List.length_cons,hl]) h2 (.cons (rv.mono g2) zB) wy (g1.trans g2)⟩
def ba(ts:List ax):ax:=fun σ S Q E=>au ts σ S (fun xs S1=>Q (.tup xs) S1) E
def bm{ts:List ax}{x1:Nat}(h:iA X es ts)(hn:ts.length<=1000:=by exact Nat.le_of_ble_eq_true rfl):aI X (.Tuple es x1 pos) (ba ts):=
 ⟨ay (pz h.ok) fun σ H Q ⟨σ3,S,Q3,E3,rσ,rS,hq,xo,k⟩=>bd rσ rS hq xo fun ps S' vs H' hl q rv vX g=>
  ⟨Nat.le_of_lt (bc (by rw[rv.length,hl];exact hn)),fun p hp=>k _ S' _ _ q (.tup (v4.of ak) (rv.mono (.new hp))) (vX.other hp) (g.trans (.new hp))⟩⟩
def ci(ts:List ax):ax:=fun σ S Q E=>au ts σ S (fun xs S1=>∀p,S1 p=none->Q (.ref p) (u6 S1 p (.lst xs))) E
def ck{ts:List ax}(h:iA X es ts)(hn:ts.length<=1000:=by exact Nat.le_of_ble_eq_true rfl):aI X (.List es pos) (ci ts):=
 ⟨ay (pA h.ok) fun σ H Q ⟨σ3,S,Q3,E3,rσ,rS,hq,xo,k⟩=>bd rσ rS hq xo fun ps S' vs H' hl q rv vX g=>
  ⟨Nat.le_of_lt (bc (by rw[rv.length,hl];exact hn)),fun p hp=>k _ _ _ _ (q p (vX.free hp)) (.ref p) (vX.new hp ⟨vs,ak,rv.mono (.new hp)⟩) (g.trans (.new hp))⟩⟩
abbrev R3:=PV->PV->aj->bP->Prop
def LR(X:Cx)(r:R3):R2:=fun x y H Q=>∃px py S Q3,Rep X.K H x px/\Rep X.K H y py/\u_ X.K H S/\r px py S Q3/\xB X.K H Q3 Q
structure dG (X:Cx) (f:Value->Value->Sem Value) (r:R3):Prop where
 ok:cZ X f (LR X r)
def ap(r:R3)(ta tb:ax):ax:=fun σ S Q E=>ta σ S (fun x S1=>tb σ S1 (fun y S2=>r x y S2 Q) E) E
def dW{r:R3}{σ:L2.St}{H:Hp}{Q:VK}:LE X (ap r ta tb) σ H Q->rn (LR X r) (LE X ta) (LE X tb) σ H Q:=fun⟨σ3,S,Q3,E3,rσ,rS,h,xo,k⟩=>
 ⟨σ3,S,_,E3,rσ,rS,h,xo,fun x S1 v H1 h1 rx vf g1=>⟨σ3,S1,_,E3,rσ.mono g1,vf,h1,xo.mono g1,fun y S2 u H2 h2 ry wy g2=>⟨x,y,S2,Q3,rx.mono g2,ry,wy,h2,k.mono (g1.trans g2)⟩⟩⟩
def aA{op:Operator}{r:R3}(ho:dG X (binaryOp op) r)(ha:aI X a ta)(hb:aI X b tb):aI X (.BinOp a op b pos) (ap r ta tb):=⟨ay (rA ho.ok ha.ok hb.ok) fun _ _ _=>dW⟩
def bi(t:ax):dS:=fun σ S Q E=>t σ S (fun v S'=>match v with | .bl k=>Q k S'|_=>False) E
def lz{σ:L2.St}{H:Hp}{Q:Bool->Hp->Prop}:LT X (bi te) σ H Q->LE X te σ H (fun x H'=>∃k,x = .bl k/\Q k H'):=fun⟨σ3,S,Q3,E3,rσ,rS,h,xo,k⟩=>
 ⟨σ3,S,_,E3,rσ,rS,h,xo,fun p S' v H' h1 rv vX g=>by
  cases p with
  |bl z=>cases rv;exact⟨z,rfl,k z S' H' h1 vX g⟩
  |_=>exact h1.elim⟩
def bf{op:CmpOp}{r:R3}(ho:dG X (compareOp op) r)(ha:aI X a ta)(hb:aI X b tb)(hm:behindInMarks op b=false):jm X (.Compare a [op] [b] pos) (bi (ap r ta tb)):=
 ⟨iO (mO ho.ok ha.ok hb.ok hm) fun σ H Q ⟨σ3,S,Q3,E3,rσ,rS,h,xo,k⟩=>dW ⟨σ3,S,_,E3,rσ,rS,h,xo,fun p S' v H' h1 rv vX g=>by
  cases p with
  |bl z=>cases rv;exact⟨z,rfl,k z S' H' h1 vX g⟩
  |_=>exact h1.elim⟩⟩
def lA(h:aI X e te)(he:∀whole,isTrue e X.env whole=(do let v <-whole;standAt e.pos;holding [v] (truthy v)):=by intro _;rfl):jm X e (bi te):=
 ⟨iO (oZ h.ok he) fun σ H Q q=>lz q⟩
end
section
variable {X:Cx} {a b c:Expr} {rest:List Expr} {ta tb te:ax} {tA tB:dS} {pos:Pos}
def gY(t u:dS):dS:=fun σ S Q E=>t σ S (fun c S1=>if c=true then u σ S1 Q E else Q false S1) E
def nq(t u:dS):dS:=fun σ S Q E=>t σ S (fun c S1=>if c=true then Q true S1 else u σ S1 Q E) E
def j0(t:dS):dS:=fun σ S Q E=>t σ S (fun c S1=>Q (!c) S1) E
def lB(ha:jm X a tA):pV X (.BoolOp .And [a] pos) tA:=⟨mE ha.ok⟩
def lC(ha:jm X a tA):pV X (.BoolOp .Or [a] pos) tA:=⟨o0 ha.ok⟩
def oK(ha:jm X a tA)(hb:pV X (.BoolOp .And (b::rest) pos) tB):pV X (.BoolOp .And (a::b::rest) pos) (gY tA tB):=
 ⟨lr (o2 ha.ok hb.ok) fun σ H Q ⟨σ3,S,Q3,E3,rσ,rS,h,xo,k⟩=>⟨σ3,S,_,E3,rσ,rS,h,xo,fun c S1 H1 h1 vf g1=>by
  cases c with
  |true=>rw[if_pos rfl]at h1 ⊢;exact⟨σ3,S1,Q3,E3,rσ.mono g1,vf,h1,xo.mono g1,fun b S2 H2 h2 wy g2=>k b S2 H2 h2 wy (g1.trans g2)⟩
  |false=>rw[if_neg (by decide)]at h1 ⊢;exact k false S1 H1 h1 vf g1⟩⟩
def nr(ha:jm X a tA)(hb:pV X (.BoolOp .Or (b::rest) pos) tB):pV X (.BoolOp .Or (a::b::rest) pos) (nq tA tB):=
 ⟨lr (rb ha.ok hb.ok) fun σ H Q ⟨σ3,S,Q3,E3,rσ,rS,h,xo,k⟩=>⟨σ3,S,_,E3,rσ,rS,h,xo,fun c S1 H1 h1 vf g1=>by
  cases c with
  |true=>rw[if_pos rfl]at h1 ⊢;exact k true S1 H1 h1 vf g1
  |false=>rw[if_neg (by decide)]at h1 ⊢;exact⟨σ3,S1,Q3,E3,rσ.mono g1,vf,h1,xo.mono g1,fun b S2 H2 h2 wy g2=>k b S2 H2 h2 wy (g1.trans g2)⟩⟩⟩
def r6(h:pV X a tA):jm X a tA:=⟨h.ok.pt⟩
def r9(ha:jm X a tA):jm X (.UnaryOp .Not a pos) (j0 tA):=
 ⟨iO (o3 ha.ok) fun σ H Q ⟨σ3,S,Q3,E3,rσ,rS,h,xo,k⟩=>⟨σ3,S,_,E3,rσ,rS,h,xo,fun c S1 H1 h1 vf g1=>k (!c) S1 H1 h1 vf g1⟩⟩
abbrev r_:=PV->aj->bP->Prop
noncomputable def uQ(X:Cx)(r:r_):V->Hp->VK->Prop:=fun x H Q=>∃px S Q3,Rep X.K H x px/\u_ X.K H S/\r px S Q3/\xB X.K H Q3 Q
structure uz (X:Cx) (f:Value->Sem Value) (r:r_):Prop where
 ok:sX X f (uQ X r)
def qT(r:r_)(ta:ax):ax:=fun σ S Q E=>ta σ S (fun x S1=>r x S1 Q) E
def t8{op:UnaryOp}{r:r_}(ho:uz X (unaryOp op) r)(ha:aI X a ta):aI X (.UnaryOp op a pos) (qT r ta):=
 ⟨ay (rB ho.ok ha.ok) fun σ H Q ⟨σ3,S,Q3,E3,rσ,rS,h,xo,k⟩=>⟨σ3,S,_,E3,rσ,rS,h,xo,fun p S1 v H1 h1 rv vf g1=>⟨p,S1,Q3,rv,vf,h1,k.mono g1⟩⟩⟩
noncomputable def j1:r_:=fun x S Q=>match x with | .int i=>Q (.int (-i)) S|_=>False
def pW:uz X (unaryOp .USub) j1:=⟨fun pins s σ H x v Q I rx ⟨px,S,Q3,r1,rS,h,k⟩=>by
 cases px with
 |int i=>cases r1;exact pq pins s σ H _ v Q I rx ⟨i,rfl,k _ S _ H h (.int _) rS .refl⟩
 |_=>exact h.elim⟩
end
section
variable {X:Cx}
def cM(g:Int->Int->PV):R3:=fun x y S Q=>match x,y with | .int i,.int j=>Q (g i j) S|_,_=>False
def cm(C:Int->Int->Prop)(g:Int->Int->PV):R3:=fun x y S Q=>match x,y with | .int i,.int j=>C i j/\Q (g i j) S|_,_=>False
def pX{f:Value->Value->Sem Value}{g:Int->Int->Int}(h:cZ X f (mM fun i j=>.int (g i j))):dG X f (cM fun i j=>.int (g i j)):=⟨fun pins s σ H x y v u Q I rx ry ⟨px,py,S,Q3,r1,r2,rS,q,k⟩=>by
 cases px with
 |int i=>
  cases py with
  |int j=>cases r1;cases r2;exact h pins s σ H _ _ v u Q I rx ry ⟨i,j,rfl,rfl,k _ S _ H q (.int _) rS .refl⟩
  |_=>exact q.elim
 |_=>exact q.elim⟩
def gh{f:Value->Value->Sem Value}{g:Int->Int->Bool}(h:cZ X f (mM fun i j=>.bl (g i j))):dG X f (cM fun i j=>.bl (g i j)):=⟨fun pins s σ H x y v u Q I rx ry ⟨px,py,S,Q3,r1,r2,rS,q,k⟩=>by
 cases px with
 |int i=>
  cases py with
  |int j=>cases r1;cases r2;exact h pins s σ H _ _ v u Q I rx ry ⟨i,j,rfl,rfl,k _ S _ H q (.bl _) rS .refl⟩
  |_=>exact q.elim
 |_=>exact q.elim⟩
def gi{f:Value->Value->Sem Value}{C:Int->Int->Prop}{g:Int->Int->Int}(h:cZ X f (rI C fun i j=>.int (g i j))):dG X f (cm C fun i j=>.int (g i j)):=⟨fun pins s σ H x y v u Q I rx ry ⟨px,py,S,Q3,r1,r2,rS,q,k⟩=>by
 cases px with
 |int i=>
  cases py with
  |int j=>cases r1;cases r2;exact h pins s σ H _ _ v u Q I rx ry ⟨i,j,rfl,rfl,q.1,k _ S _ H q.2 (.int _) rS .refl⟩
  |_=>exact q.elim
 |_=>exact q.elim⟩
def gZ(i j:Int):Prop:=j≠0/\j.natAbs < 2 ^ 8000
def iP{n:Nat}(h:n < 2 ^ 8000):n.log2 < 9000:=by
 by_cases z:n=0
 ·rw[z];decide +kernel
 ·exact Nat.lt_trans ((Nat.log2_lt z).mpr h) (by decide)
def pY:dG X (binaryOp .Sub) (cM fun i j=>.int (i - j)):=pX pk
def pZ:dG X (binaryOp .Mod) (cm (fun _ j=>j≠0) fun i j=>.int (i.fmod j)):=gi mN
def nu:dG X (binaryOp .FloorDiv) (cm gZ fun i j=>.int (i.fdiv j)):=gi (sY fun _ _ _ _ _ _ _ hc q=>PyProof.Rows.floordiv_int hc.1 q (.inl (PyProof.noPylong_of_log2 (iP hc.2))))
def p0:dG X (binaryOp .Pow) (cm pg fun i j=>.int (i ^ j.toNat)):=gi pp
def sd:dG X (compareOp .Lt) (cM fun i j=>.bl (decide (i < j))):=gh rE
def se:dG X (compareOp .Gt) (cM fun i j=>.bl (decide (j < i))):=gh rF
def sf:dG X (compareOp .GtE) (cM fun i j=>.bl (decide (j<=i))):=gh rG
end
end L3
namespace L2
open PySem PySem.Spec PyProof.Rows
section
variable {X:Cx}
def sg(K:Vo):R2:=fun x y H Q=>∃a b xs ys,x = .ref a/\y = .ref b/\v4 K H a xs/\v4 K H b ys/\xs.length+ys.length<=sizeLine/\∀r H',(∀c o,H c=some o->H' c=some o)->v4 K H' r (xs++ys)->Q (.ref r) H'
def nv:cZ X (binaryOp .Add) (sg X.K):=by
 intro pins s σ H x y v u Q I rx ry h
 obtain⟨a,b,xs,ys,rfl,rfl,ha,hb,hz,q⟩:=h
 by_cases hx:xs=[]
 ·subst hx
  cases rx
  cases ry
  obtain⟨its,r1,p1,_⟩:=I.tuple ha
  obtain⟨its2,r2,p2,_⟩:=I.tuple hb
  cases r1
  obtain⟨⟨cls,dd,data,sl⟩,ho,hc,n,hd⟩:=id p1
  obtain⟨⟨zm,dd2,data2,sl2⟩,ho2,hc2,n2,hd2⟩:=id p2
  simp only at hc hd hc2 hd2
  subst hc hd hc2 hd2
  exact concat_meets ⟨_,ho,rfl⟩ ⟨_,ho2,rfl⟩ noFill_tuple_add seq_tuple_add PySem.F.slot_tuple_add PySem.F.entry_tuple_add (PySem.F.args_tuple_add_2 _ _)
   (tuple_addW0 a b _ its2.toArray n n2 dd dd2 sl sl2 rfl) ⟨ho,ho2,⟨.ref b,H,I,rfl,q b H (fun _ _ e=>e) hb⟩⟩
 ·exact mZ pins s σ H _ _ v u Q I rx ry ⟨a,b,xs,ys,rfl,rfl,ha,hb,hx,hz,fun e=>q a H (fun _ _ e=>e) (by rw[e,List.append_nil];exact ha),
   fun _ p hp=>q p _ (fun c o e=>by rw[al (aD e hp)];exact e) (v4.of ak)⟩
end
end L2
namespace L3
open PySem L2
section
variable {X:Cx}
def a6:R3:=fun x y S Q=>match x,y with
 | .int i,.int j=>Q (.int (i+j)) S
 | .str i,.str j=>i.length+j.length<=sizeLine/\Q (.str (i++j)) S
 | .tup i,.tup j=>i.length+j.length<=sizeLine/\Q (.tup (i++j)) S
 | .ref i,.ref j=>match S i,S j with
  |some (.lst xs),some (.lst ys)=>xs.length+ys.length<=sizeLine/\∀p,S p=none->Q (.ref p) (u6 S p (.lst (xs++ys)))
  |_,_=>False
 |_,_=>False
def aS:dG X (binaryOp .Add) a6:=⟨fun pins s σ H x y v u Q I rx ry ⟨px,py,S,Q3,r1,r2,rS,q,k⟩=>by
 unfold a6 at q
 split at q
 ·cases r1;cases r2
  exact ph pins s σ H _ _ v u Q I rx ry ⟨_,_,rfl,rfl,k _ S _ H q (.int _) rS .refl⟩
 ·cases r1;cases r2
  exact iF pins s σ H _ _ v u Q I rx ry ⟨_,_,rfl,rfl,q.1,k _ S _ H q.2 (.str _) rS .refl⟩
 ·cases r1 with
  |tup h1 s1=>
   cases r2 with
   |tup h2 s2=>
    refine nv pins s σ H _ _ v u Q I rx ry ⟨_,_,_,_,rfl,rfl,h1,h2,by rw[s1.length,s2.length];exact q.1,fun r H' hs hr=>?_⟩
    exact k _ S _ H' q.2 (.tup hr ((s1.mono (.same hs)).append (s2.mono (.same hs)))) (rS.grow hs) (.same hs)
 ·cases r1;cases r2
  split at q
  ·rename_i i j xs ys e1 e2
   obtain⟨vs,h1,s1⟩:=rS _ _ e1
   obtain⟨us,h2,s2⟩:=rS _ _ e2
   exact pK pins s σ H _ _ v u Q I rx ry ⟨_,_,_,_,rfl,rfl,h1,h2,by rw[s1.length,s2.length];exact q.1,fun p hp=>k _ _ _ _ (q.2 p (rS.free hp)) (.ref p) (rS.new hp ⟨_,ak,(s1.append s2).mono (.new hp)⟩) (.new hp)⟩
  ·exact q.elim
 ·exact q.elim⟩
end
mutual
inductive Dat (S:aj):PV->PyData->Prop
 |non:Dat S .non .none
 |bl (b:Bool):Dat S (.bl b) (.bool b)
 |int (i:Int):Dat S (.int i) (.int i)
 |str (x:Str):Dat S (.str x) (.str x)
 |tup {ps:List PV} {ds:List PyData}:vQ S ps ds->Dat S (.tup ps) (.tuple ds)
 |cl {ps:List PV} {ds:List PyData}:vQ S ps ds->Dat S (.cl ps) (.list ds)
 |ref {a:Addr} {ps:List PV} {ds:List PyData}:S a=some (.lst ps)->vQ S ps ds->Dat S (.ref a) (.list ds)
inductive vQ (S:aj):List PV->List PyData->Prop
 |nil:vQ S [] []
 |cons {p:PV} {d:PyData} {ps:List PV} {ds:List PyData}:Dat S p d->vQ S ps ds->vQ S (p::ps) (d::ds)
end
section
variable {X:Cx} {pins:Va} {σ:L2.St} {H:Hp} {s:Shared} {S:aj}
def iQ(I:Inv X pins σ H s)(rS:u_ X.K H S):(∀{p:PV} {d:PyData},Dat S p d->∀{v:V} {u:Value},Rep X.K H v p->RelV v u->∃as,Reads s.heap u d as)/\∀{ps:List PV} {ds:List PyData},vQ S ps ds->∀{vs:List V} {us:Vv},Reps X.K H vs ps->Vals vs us->∃as,ReadsAll s.heap us ds as:=by
 have one:=@Dat.rec S (motive_1:=fun p d _=>∀{v:V} {u:Value},Rep X.K H v p->RelV v u->∃as,Reads s.heap u d as) (motive_2:=fun ps ds _=>∀{vs:List V} {us:Vv},Reps X.K H vs ps->Vals vs us->∃as,ReadsAll s.heap us ds as)
 have two:=@vQ.rec S (motive_1:=fun p d _=>∀{v:V} {u:Value},Rep X.K H v p->RelV v u->∃as,Reads s.heap u d as) (motive_2:=fun ps ds _=>∀{vs:List V} {us:Vv},Reps X.K H vs ps->Vals vs us->∃as,ReadsAll s.heap us ds as)
 have c1:∀{v:V} {u:Value},Rep X.K H v .non->RelV v u->∃as,Reads s.heap u .none as:=fun h r=>by cases h;cases r;exact⟨_,.none⟩
 have c2:∀(b:Bool) {v:V} {u:Value},Rep X.K H v (.bl b)->RelV v u->∃as,Reads s.heap u (.bool b) as:=fun b _ _ h r=>by cases h;cases r;exact⟨_,.bool b⟩
 have c3:∀(i:Int) {v:V} {u:Value},Rep X.K H v (.int i)->RelV v u->∃as,Reads s.heap u (.int i) as:=fun i _ _ h r=>by cases h;obtain⟨t,rfl⟩:=r;exact⟨_,.int i t⟩
 have c4:∀(x:Str) {v:V} {u:Value},Rep X.K H v (.str x)->RelV v u->∃as,Reads s.heap u (.str x) as:=fun x _ _ h r=>by cases h;obtain⟨t,rfl⟩:=r;exact⟨_,.str x t⟩
 have c5:∀{ps:List PV} {ds:List PyData},vQ S ps ds->(∀{vs:List V} {us:Vv},Reps X.K H vs ps->Vals vs us->∃as,ReadsAll s.heap us ds as)->∀{v:V} {u:Value},Rep X.K H v (.tup ps)->RelV v u->∃as,Reads s.heap u (.tuple ds) as:=fun _ ih _ _ h r=>by
  cases h with
  |tup h rs=>
   cases r
   obtain⟨its,rv,⟨o,ho,hc,n,hd⟩,hz⟩:=I.tuple h
   obtain⟨as,q⟩:=ih rs rv
   exact⟨as,.tuple ho hc hd (by simpa using q)⟩
 have c6:∀{ps:List PV} {ds:List PyData},vQ S ps ds->(∀{vs:List V} {us:Vv},Reps X.K H vs ps->Vals vs us->∃as,ReadsAll s.heap us ds as)->∀{v:V} {u:Value},Rep X.K H v (.cl ps)->RelV v u->∃as,Reads s.heap u (.list ds) as:=fun _ ih _ _ h r=>by
  cases h with
  |cl h rs=>
   cases r
   obtain⟨its,rv,⟨o,n,ho,hc,_,hd⟩,hz⟩:=I.list h.sq
   obtain⟨as,q⟩:=ih rs rv
   exact⟨_,.list ho hc hd (by simpa using q)⟩
 have c7:∀{a:Addr} {ps:List PV} {ds:List PyData},S a=some (.lst ps)->vQ S ps ds->(∀{vs:List V} {us:Vv},Reps X.K H vs ps->Vals vs us->∃as,ReadsAll s.heap us ds as)->∀{v:V} {u:Value},Rep X.K H v (.ref a)->RelV v u->∃as,Reads s.heap u (.list ds) as:=fun e _ ih _ _ h r=>by
  cases h
  cases r
  obtain⟨vs,hv,rs⟩:=rS _ _ e
  obtain⟨its,rv,⟨o,n,ho,hc,_,hd⟩,hz⟩:=I.list (SqL.of hv)
  obtain⟨as,q⟩:=ih rs rv
  exact⟨_,.list ho hc hd (by simpa using q)⟩
 have c8:∀{vs:List V} {us:Vv},Reps X.K H vs []->Vals vs us->∃as,ReadsAll s.heap us [] as:=fun h r=>by cases h;cases r;exact⟨_,.nil⟩
 have c9:∀{p:PV} {d:PyData} {ps:List PV} {ds:List PyData},Dat S p d->vQ S ps ds->(∀{v:V} {u:Value},Rep X.K H v p->RelV v u->∃as,Reads s.heap u d as)->(∀{vs:List V} {us:Vv},Reps X.K H vs ps->Vals vs us->∃as,ReadsAll s.heap us ds as)->∀{vs:List V} {us:Vv},Reps X.K H vs (p::ps)->Vals vs us->∃as,ReadsAll s.heap us (d::ds) as:=fun _ _ i1 i2 _ _ h r=>by
  cases h with
  |cons a rs=>
   cases r with
   |cons r1 r2=>
    obtain⟨as,q⟩:=i1 a r1
    obtain⟨bs,q2⟩:=i2 rs r2
    exact⟨_,.cons q q2⟩
 exact⟨fun h=>one c1 c2 c3 c4 c5 c6 c7 c8 c9 h,fun h=>two c1 c2 c3 c4 c5 c6 c7 c8 c9 h⟩
def Dat.reads(I:Inv X pins σ H s)(rS:u_ X.K H S){p:PV}{d:PyData}{v:V}{u:Value}(h:Dat S p d)(r:Rep X.K H v p)(r2:RelV v u):∃as,Reads s.heap u d as:=(iQ I rS).1 h r r2
end
section
variable {X:Cx}
def eX(neg:Bool):R3:=fun x y S Q=>match x,y with
 | .int i,.int j=>Q (.bl (neg != decide (i=j))) S
 | .str i,.str j=>Q (.bl (neg != decide (i=j))) S
 | .bl i,.bl j=>Q (.bl (neg != decide (i=j))) S
 |x,y=>∃d d',Dat S x d/\Dat S y d'/\d.canLay0=true/\d'.canLay0=true/\min d.depth d'.depth<=150/\Q (.bl (neg != PyData.eqv d d')) S
def sh(hu:X.A.units+150 < cLine):dG X (compareOp .Eq) (eX false):=⟨fun pins s σ H x y v u Q I rx ry ⟨px,py,S,Q3,r1,r2,rS,q,k⟩=>by
 unfold eX at q
 split at q
 ·cases r1;cases r2
  exact kL pins s σ H _ _ v u Q I rx ry ⟨rfl,k _ S _ H (by simpa using q) (.bl _) rS .refl⟩
 ·cases r1;cases r2
  exact kL pins s σ H _ _ v u Q I rx ry ⟨rfl,k _ S _ H (by simpa using q) (.bl _) rS .refl⟩
 ·cases r1;cases r2
  exact kL pins s σ H _ _ v u Q I rx ry ⟨rfl,k _ S _ H (by simpa using q) (.bl _) rS .refl⟩
 ·obtain⟨d,d',h1,h2,c1,c2,hd,q⟩:=q
  obtain⟨as,a1⟩:=h1.reads I rS r1 rx
  obtain⟨bs,a2⟩:=h2.reads I rS r2 ry
  exact SeqAt.compareEq_reads a1 a2 c1 c2 (by omega) ⟨.bl _,H,I,rfl,k _ S _ H (by simpa using q) (.bl _) rS .refl⟩⟩
def si(hu:X.A.units+150 < cLine):dG X (compareOp .NotEq) (eX true):=⟨fun pins s σ H x y v u Q I rx ry ⟨px,py,S,Q3,r1,r2,rS,q,k⟩=>by
 unfold eX at q
 split at q
 ·cases r1;cases r2
  exact kM pins s σ H _ _ v u Q I rx ry ⟨rfl,k _ S _ H (by simpa using q) (.bl _) rS .refl⟩
 ·cases r1;cases r2
  exact kM pins s σ H _ _ v u Q I rx ry ⟨rfl,k _ S _ H (by simpa using q) (.bl _) rS .refl⟩
 ·cases r1;cases r2
  exact kM pins s σ H _ _ v u Q I rx ry ⟨rfl,k _ S _ H (by simpa using q) (.bl _) rS .refl⟩
 ·obtain⟨d,d',h1,h2,c1,c2,hd,q⟩:=q
  obtain⟨as,a1⟩:=h1.reads I rS r1 rx
  obtain⟨bs,a2⟩:=h2.reads I rS r2 ry
  exact SeqAt.compareNe_reads a1 a2 c1 c2 (by omega) ⟨.bl _,H,I,rfl,k _ S _ H (by simpa using q) (.bl _) rS .refl⟩⟩
noncomputable def fB(x:PyData)(xs:List PyData):Bool:=xs.any fun y=>PyData.eqv y x
def ny(neg:Bool):R3:=fun x y S Q=>match x,y with
 | .str i,.str j=>Q (.bl (neg != !(Builtin.Str.occurrences j i 0 j.length 1).isEmpty)) S
 |x,y=>match y with
  | .ref a=>match S a with
   |some (.lst xs)=>∃d ds,Dat S x d/\vQ S xs ds/\d.canLay0=true/\PyData.canLayAll0 ds=true/\d.depth<=150/\Q (.bl (neg != fB d ds)) S
   |some (.dct kvs)=>match x with
    | .str z=>Q (.bl (neg != (kvs.any fun kv=>decide (kv.1=Sum.inr z)))) S
    | .int z=>Q (.bl (neg != (kvs.any fun kv=>decide (kv.1=Sum.inl z)))) S
    |_=>False
   |_=>False
  | .tup xs=>∃d ds,Dat S x d/\vQ S xs ds/\d.canLay0=true/\PyData.canLayAll0 ds=true/\d.depth<=150/\Q (.bl (neg != fB d ds)) S
  |_=>False
theorem ve.any{K:Vo}{H:Hp}{κ:Type} [DecidableEq κ](k:κ):∀{vs:List (κ×V)} {ps:List (κ×PV)},ve K H vs ps->(cq vs k).isSome=ps.any fun kv=>decide (kv.1=k)
 |_,_,.nil=>rfl
 |_,_,.cons (k:=k') a r=>by
  rw[List.any_cons,<-ve.any k r]
  by_cases e:k'=k
  ·rw[vA e];simp[e]
  ·rw[vB e];simp[e]
def lD(hu:X.A.units+160 < cLine):dG X (compareOp .In) (ny false):=⟨fun pins s σ H x y v u Q I rx ry ⟨px,py,S,Q3,r1,r2,rS,q,k⟩=>by
 unfold ny at q
 split at q
 ·cases r1;cases r2
  exact jO pins s σ H _ _ v u Q I rx ry ⟨_,_,rfl,rfl,k _ S _ H (by simpa using q) (.bl _) rS .refl⟩
 ·split at q
  ·cases r2
   cases ry
   split at q
   ·rename_i xs e
    obtain⟨d,ds,h1,h2,c1,c2,hd,q⟩:=q
    obtain⟨as,a1⟩:=h1.reads I rS r1 rx
    obtain⟨bs,a2⟩:=(Dat.ref e h2).reads I rS (.ref _) (rfl:RelV (.ref _) (.ref _))
    exact SeqAt.in_list_reads a2 a1 c2 c1 (by omega) ⟨.bl _,H,I,rfl,k _ S _ H (by simpa [fB]using q) (.bl _) rS .refl⟩
   ·rename_i kvs e
    obtain⟨kv,hv,rk⟩:=rS _ _ e
    split at q
    ·cases r1
     exact rT (by omega) I (DGet.k (k:=Sum.inr _) hv) rx fun s3 I3=>⟨.bl _,H,I3,rfl,k _ S _ H (by rw[rk.any];simpa using q) (.bl _) rS .refl⟩
    ·cases r1
     exact rT (by omega) I (DGet.k (k:=Sum.inl _) hv) rx fun s3 I3=>⟨.bl _,H,I3,rfl,k _ S _ H (by rw[rk.any];simpa using q) (.bl _) rS .refl⟩
    ·exact q.elim
   ·exact q.elim
  ·rename_i xs
   obtain⟨d,ds,h1,h2,c1,c2,hd,q⟩:=q
   obtain⟨as,a1⟩:=h1.reads I rS r1 rx
   obtain⟨bs,a2⟩:=(Dat.tup h2).reads I rS r2 ry
   exact SeqAt.in_tuple_reads a2 a1 c2 c1 (by omega) ⟨.bl _,H,I,rfl,k _ S _ H (by simpa [fB]using q) (.bl _) rS .refl⟩
  ·exact q.elim⟩
end
end L3
namespace HT
open PySem PySem.Spec PyProof.Rows
section
variable {prog:Program} {w:World} {A:Around} {E:Vq} {s:Shared}
def cO{t sl:Addr}{items:Vw}{vl vu:Value}{lo hi:Option Int}{Q:Vq}(ht:IsTup s.heap t items)(hs:s.heap.IsSliceOf sl vl vu .none)(pl:IsPart vl lo)(pu:IsPart vu hi)
  (hw:vd items.size 0 lo=0/\vd items.size items.size hi=items.size)
  (h:Q (.ref t) s):wpAny (model prog w) A (getItem (.ref t) (.ref sl)) Q E s:=by
 obtain⟨os,hos,hcs,hds⟩:=id hs
 have zn:s.TypeIs (.ref sl) "slice":=⟨os,hos,hcs⟩
 unfold getItem
 try with_reducible refine wpAny_holding ?_
 first|refine wpAny_bind (wpAny_pure ?_)|skip
 refine wpAny_bind (wpAny_sequenceKey ht.typeIs (by decide) ?_)
 refine wpAny_bind (wpAny_callSpecial?_slot (name:=Str.ofString "__getitem__") ht.typeIs PyProof.Rows.slot_tuple_getitem
  (wpAny_call_entry PyProof.Rows.slot_tuple_getitem ht.typeIs entry_tuple_getitem ?_ (args_tuple_getitem _ _)))
 show wpAny _ _ (Builtin.Tuple.tupleItemsOf (.ref t) >>= _) _ _ s
 refine wpAny_bind (tupleItemsOf_ ht ?_)
 refine wpAny_bind (wpAny_typeOf zn ?_)
 rw[if_pos (by decide)]
 refine wpAny_bind (bx hs pl pu ?_)
 have hyes:(((vd items.size 0 lo:Nat):Int) == 0&&(1:Int) == 1&&(vd items.size items.size hi - vd items.size 0 lo) == items.size)=true:=by
  rw[hw.1,hw.2];simp
 show wpAny _ _ (if (((vd items.size 0 lo:Nat):Int) == 0&&(1:Int) == 1&&(vd items.size items.size hi - vd items.size 0 lo) == items.size)=true then _ else _) _ _ s
 rw[if_pos hyes]
 unfold Builtin.Tuple.tupleIsExact
 refine wpAny_bind (wpAny_bind (wpAny_typeOf ht.typeIs (wpAny_pure ?_)))
 rw[if_pos (by decide)]
 first
  |exact wpAny_bind (wpAny_rule (wpAny_pure ⟨_,rfl,wpAny_pure h⟩))
  |exact wpAny_bind (wpAny_rule (wpAny_bind (wpAny_pure (wpAny_pure ⟨_,rfl,wpAny_pure h⟩))))
  |exact wpAny_bind (wpAny_rule (wpAny_bind (wpAny_pure ⟨_,rfl,wpAny_pure h⟩)))
end
end HT
namespace L2
open PySem PySem.Spec PyProof.Rows
section
variable {X:Cx}
noncomputable def sk(K:Vo):V->Option Int->Option Int->Hp->VK->Prop:=fun x lo hi H Q=>∃a xs,x = .ref a/\v4 K H a xs/\∀r H',(∀c o,H c=some o->H' c=some o)->v4 K H' r (d8 xs lo hi)->Q (.ref r) H'
def nz:qR X (sk X.K):=by
 intro pins s σ H x v vl vu lo hi sl Q I rx hs pl pu h
 obtain⟨a,xs,rfl,hx,q⟩:=h
 by_cases hw:HT.vd xs.length 0 lo=0/\HT.vd xs.length xs.length hi=xs.length
 ·cases rx
  obtain⟨its,r,ht,hz⟩:=I.tuple hx
  have hlen:its.toArray.size=xs.length:=by rw[List.size_toArray];exact r.length.symm
  refine⟨"tuple",_,PyProof.Rows.slot_tuple_getitem.lookup,ht.typeIs,HT.cO ht hs pl pu (by rw[hlen];exact hw) ⟨.ref a,H,I,rfl,q a H (fun _ _ e=>e) ?_⟩⟩
  have e:d8 xs lo hi=xs:=by unfold d8;rw[hw.1,hw.2];simp
  rw[e];exact hx
 ·exact pD pins s σ H _ v vl vu lo hi sl Q I rx hs pl pu ⟨a,xs,rfl,hx,hw,fun p hp=>q p _ (fun c o e=>by rw[al (aD e hp)];exact e) (v4.of ak)⟩
def nA(hu:X.A.units+1 < cLine):qS X (fun x y H Q=>∃a v,x = .ref a/\DGet H a y (some v)/\Q v H):=by
 intro value slice pins s σ H x y v u Q I rx ry h hs
 obtain⟨a,z,rfl,g,q⟩:=h
 cases rx
 exact tail_any (gT I g) PySem.F.slot_dict_getitem.lookup (jT hu I g ry fun w' s3 I3 rw'=>⟨z,H,I3,rw',q⟩) hs
def lE(hu:X.A.units+1 < cLine):mI X (fun o i v H Q=>∃a H',o = .ref a/\xH H a i v H'/\Q H'):=by
 intro pins s σ H o i v ov iv u Q I ro ri rv h
 obtain⟨a,H',rfl,g,q⟩:=h
 cases ro
 exact jU hu I g ri rv fun s' I'=>⟨H',I',q⟩
end
end L2
namespace L3
open PySem L2
theorem Reps.vK{K:Vo}{H:Hp}{vs:List V}{ps:List PV}{i:Int}{p:PV}(r:Reps K H vs ps)(h:L2.vK ps i=some p):∃v,L2.vK vs i=some v/\Rep K H v p:=by
 unfold L2.vK at h ⊢
 rw[r.length]
 cases e:my ps.length i with
 |none=>rw[e]at h;cases h
 |some j=>
  rw[e]at h
  obtain⟨v,h1,h2⟩:=r.get h
  exact⟨v,h1,h2⟩
noncomputable def gj:PV->Option aC
 | .int i=>some (.inl i)
 | .str x=>some (.inr x)
 |_=>none
def bE{K:Vo}{H:Hp}{v:V}{p:PV}{k:aC}(r:Rep K H v p)(h:gj p=some k):v=kV k:=by
 cases p with
 |int i=>cases h;cases r;rfl
 |str i=>cases h;cases r;rfl
 |_=>cases h
noncomputable def fe{κ:Type} [DecidableEq κ]:List (κ×PV)->κ->Option PV
 |[],_=>none
 |(k',v)::r,k=>if k'=k then some v else fe r k
theorem ve.val{K:Vo}{H:Hp}{κ:Type} [DecidableEq κ]{k:κ}{p:PV}:∀{vs:List (κ×V)} {ps:List (κ×PV)},ve K H vs ps->fe ps k=some p->∃v,cq vs k=some v/\Rep K H v p
 |_,_,.nil,h=>by cases h
 |_,_,.cons (k:=k') a r,h=>by
  unfold fe at h
  split at h
  ·rename_i e;cases h;exact⟨_,vA e,a⟩
  ·rename_i e;rw[vB e];exact ve.val r h
section
variable {X:Cx} {a b e lo hi:Expr} {ta tb te:ax} {pos p2:Pos}
structure uA (X:Cx) (r:R3):Prop where
 ok:qS X (LR X r)
def sn{r:R3}(hr:uA X r)(ha:aI X a ta)(hb:aI X b tb)(hs:dU b):aI X (.Subscript a b pos) (ap r ta tb):=⟨ay (rN hr.ok ha.ok hb.ok hs) fun _ _ _=>dW⟩
def aE:R3:=fun x y S Q=>match x with
 | .tup xs=>match y with | .int i=>(match vK xs i with|some v=>Q v S|none=>False)|_=>False
 | .cl xs=>match y with | .int i=>(match vK xs i with|some v=>Q v S|none=>False)|_=>False
 | .str z=>match y with | .int i=>z.length<=sizeLine/\(match vK z.cps.toList i with|some c=>Q (.str ⟨#[c]⟩) S|none=>False)|_=>False
 | .ref a=>match S a with
  |some (.lst xs)=>(match y with | .int i=>(match vK xs i with|some v=>Q v S|none=>False)|_=>False)
  |some (.dct kvs)=>(match gj y with|some k=>(match fe kvs k with|some v=>Q v S|none=>False)|none=>False)
  |_=>False
 |_=>False
def uB(hu:X.A.units+1 < cLine):uA X aE:=⟨fun value slice pins s σ H x y v u Q I rx ry ⟨px,py,S,Q3,r1,r2,rS,q,k⟩ hs=>by
 unfold aE at q
 split at q
 ·split at q
  ·split at q
   ·rename_i e
    cases r2
    cases r1 with
    |tup h1 rs=>
     obtain⟨w,hw,rw'⟩:=rs.vK e
     exact pE value slice pins s σ H _ _ v u Q I rx ry ⟨_,_,_,w,rfl,rfl,h1,hw,k _ S _ H q rw' rS .refl⟩ hs
   ·exact q.elim
  ·exact q.elim
 ·split at q
  ·split at q
   ·rename_i e
    cases r2
    cases r1 with
    |cl h1 rs=>
     obtain⟨w,hw,rw'⟩:=rs.vK e
     exact ji value slice pins s σ H _ _ v u Q I rx ry ⟨_,_,_,w,rfl,rfl,h1.sq,hw,k _ S _ H q rw' rS .refl⟩ hs
   ·exact q.elim
  ·exact q.elim
 ·split at q
  ·obtain⟨hz,q⟩:=q
   split at q
   ·rename_i e
    cases r1;cases r2
    exact pF value slice pins s σ H _ _ v u Q I rx ry ⟨_,_,_,rfl,rfl,hz,e,k _ S _ H q (.str _) rS .refl⟩ hs
   ·exact q.elim
  ·exact q.elim
 ·split at q
  ·rename_i e0
   split at q
   ·split at q
    ·rename_i e
     cases r1;cases r2
     obtain⟨vs,hv,rs⟩:=rS _ _ e0
     obtain⟨w,hw,rw'⟩:=rs.vK e
     exact ji value slice pins s σ H _ _ v u Q I rx ry ⟨_,_,_,w,rfl,rfl,SqL.of hv,hw,k _ S _ H q rw' rS .refl⟩ hs
    ·exact q.elim
   ·exact q.elim
  ·rename_i e0
   split at q
   ·rename_i ek
    split at q
    ·rename_i ev
     cases r1
     have e1:=bE r2 ek
     subst e1
     obtain⟨kv,hv,rk⟩:=rS _ _ e0
     obtain⟨w,hw,rw'⟩:=rk.val ev
     refine nA hu value slice pins s σ H _ _ v u Q I rx ry ⟨_,w,rfl,?_,k _ S _ H q rw' rS .refl⟩ hs
     rw[<-hw]
     exact DGet.k hv
    ·exact q.elim
   ·exact q.elim
  ·exact q.elim
 ·exact q.elim⟩
abbrev qU:=aZ->aj->(Option Int->aj->Prop)->cr->Prop
noncomputable def LO(X:Cx)(t:qU):TO:=fun σ H Q=>∃σ3 S Q3 E3,vb X.K H σ σ3/\u_ X.K H S/\t σ3 S Q3 E3/\xA X H E3/\∀o S' H',Q3 o S'->u_ X.K H' S'->Grow X.K H H'->Q o H'
structure tm (X:Cx) (e:Option Expr) (t:qU):Prop where
 ok:PO X e (LO X t)
noncomputable def nB:qU:=fun _ S Q _=>Q none S
noncomputable def lF(t:ax):qU:=fun σ S Q E=>t σ S (fun v S'=>match v with | .int i=>Q (some i) S'|_=>False) E
def lG{e:Option Expr}{t t':TO}(h:PO X e t)(k:∀σ H Q,t' σ H Q->t σ H Q):PO X e t':=fun pins s σ H Q I q=>h pins s σ H Q I (k σ H Q q)
def iR:tm X none nB:=⟨lG mX fun σ H Q ⟨σ3,S,Q3,E3,rσ,rS,h,xo,k⟩=>k none S H h rS .refl⟩
def eh(h:aI X e te):tm X (some e) (lF te):=⟨lG (mY h.ok) fun σ H Q ⟨σ3,S,Q3,E3,rσ,rS,h,xo,k⟩=>⟨σ3,S,_,E3,rσ,rS,h,xo,fun p S' v H' h1 rv vX g=>by
 cases p with
 |int i=>cases rv;exact⟨i,rfl,k _ S' H' h1 vX g⟩
 |_=>exact h1.elim⟩⟩
noncomputable def cu{α:Type}(xs:List α)(lo hi:Option Int):List α:=(xs.drop (HT.vd xs.length 0 lo)).take (HT.vd xs.length xs.length hi - HT.vd xs.length 0 lo)
def Reps.cut{K:Vo}{H:Hp}{vs:List V}{ps:List PV}(r:Reps K H vs ps)(lo hi:Option Int):Reps K H (d8 vs lo hi) (cu ps lo hi):=by
 unfold d8 cu
 rw[r.length]
 exact(r.drop _).take _
def g6(x:PV)(lo hi:Option Int)(S:aj)(Q:bP):Prop:=match x with
 | .tup xs=>Q (.tup (cu xs lo hi)) S
 | .cl xs=>∀p,S p=none->Q (.ref p) (u6 S p (.lst (cu xs lo hi)))
 | .str z=>z.length<=sizeLine/\Q (.str (Txt.slice z lo hi)) S
 | .ref a=>match S a with|some (.lst xs)=>∀p,S p=none->Q (.ref p) (u6 S p (.lst (cu xs lo hi)))|_=>False
 |_=>False
noncomputable def uR(X:Cx):V->Option Int->Option Int->Hp->VK->Prop:=fun x lo hi H Q=>∃px S Q3,Rep X.K H x px/\u_ X.K H S/\g6 px lo hi S Q3/\xB X.K H Q3 Q
def uS:qR X (uR X):=by
 intro pins s σ H x v vl vu lo hi sl Q I rx hs pl pu ⟨px,S,Q3,r1,rS,q,k⟩
 unfold g6 at q
 split at q
 ·cases r1 with
  |tup h1 rs=>exact nz pins s σ H _ v vl vu lo hi sl Q I rx hs pl pu ⟨_,_,rfl,h1,fun r H' hh hr=>k _ S _ H' q (.tup hr ((rs.cut lo hi).mono (.same hh))) (rS.grow hh) (.same hh)⟩
 ·cases r1 with
  |cl h1 rs=>exact jj pins s σ H _ v vl vu lo hi sl Q I rx hs pl pu ⟨_,_,rfl,h1.sq,fun p hp=>k _ _ _ _ (q p (rS.free hp)) (.ref p) (rS.new hp ⟨_,ak,(rs.cut lo hi).mono (.new hp)⟩) (.new hp)⟩
 ·cases r1
  exact pP pins s σ H _ v vl vu lo hi sl Q I rx hs pl pu ⟨_,rfl,q.1,k _ S _ H q.2 (.str _) rS .refl⟩
 ·split at q
  ·rename_i e
   cases r1
   obtain⟨vs,hv,rs⟩:=rS _ _ e
   exact jj pins s σ H _ v vl vu lo hi sl Q I rx hs pl pu ⟨_,_,rfl,SqL.of hv,fun p hp=>k _ _ _ _ (q p (rS.free hp)) (.ref p) (rS.new hp ⟨_,ak,(rs.cut lo hi).mono (.new hp)⟩) (.new hp)⟩
  ·exact q.elim
 ·exact q.elim
def bq(te:ax)(tl th:qU):ax:=fun σ S Q E=>te σ S (fun x S1=>tl σ S1 (fun l S2=>th σ S2 (fun u S3=>g6 x l u S3 Q) E) E) E
def dX{lo hi:Option Expr}{tl th:qU}(he:aI X e te)(hl:tm X lo tl)(hu:tm X hi th):aI X (.Subscript e (.Slice lo hi none p2) pos) (bq te tl th):=
 ⟨ay (kU uS he.ok hl.ok hu.ok) fun σ H Q ⟨σ3,S,Q3,E3,rσ,rS,h,xo,k⟩=>⟨σ3,S,_,E3,rσ,rS,h,xo,fun x S1 v H1 h1 rx vf g1=>⟨σ3,S1,_,E3,rσ.mono g1,vf,h1,xo.mono g1,fun l S2 H2 h2 wy g2=>
  ⟨σ3,S2,_,E3,rσ.mono (g1.trans g2),wy,h2,xo.mono (g1.trans g2),fun u S3 H3 h3 yn g3=>⟨x,S3,Q3,rx.mono (g2.trans g3),yn,h3,k.mono (g1.trans (g2.trans g3))⟩⟩⟩⟩⟩
def nC:cZ X (binaryOp .Mult) (rI IntMulOk fun i j=>.int (i * j)):=sY fun _ _ _ _ _ _ _ hc q=>PyProof.Rows.mul_int q hc
def ei:R3:=fun x y S Q=>match x,y with
 | .int i,.int j=>IntMulOk i j/\Q (.int (i * j)) S
 | .ref a,.int j=>(match S a with|some (.lst xs)=>-(2 ^ 63)<=j/\j < 2 ^ 63/\xs.length * j.toNat<=sizeLine/\∀p,S p=none->Q (.ref p) (u6 S p (.lst (List.replicate j.toNat xs).flatten))|_=>False)
 |_,_=>False
theorem Reps.rep{K:Vo}{H:Hp}{vs:List V}{ps:List PV}(r:Reps K H vs ps):∀n:Nat,Reps K H (List.replicate n vs).flatten (List.replicate n ps).flatten
 |0=>.nil
 |n+1=>by
  rw[List.replicate_succ,List.replicate_succ,List.flatten_cons,List.flatten_cons]
  exact r.append (Reps.rep r n)
def df:dG X (binaryOp .Mult) ei:=⟨fun pins s σ H x y v u Q I rx ry ⟨px,py,S,Q3,r1,r2,rS,q,k⟩=>by
 unfold ei at q
 split at q
 ·cases r1;cases r2
  exact nC pins s σ H _ _ v u Q I rx ry ⟨_,_,rfl,rfl,q.1,k _ S _ H q.2 (.int _) rS .refl⟩
 ·split at q
  ·rename_i e
   cases r1;cases r2
   obtain⟨vs,hv,rs⟩:=rS _ _ e
   exact pL pins s σ H _ _ v u Q I rx ry ⟨_,_,_,rfl,rfl,hv,q.1,q.2.1,by rw[rs.length];exact q.2.2.1,fun p hp=>k _ _ _ _ (q.2.2.2 p (rS.free hp)) (.ref p) (rS.new hp ⟨_,ak,(rs.rep _).mono (.new hp)⟩) (.new hp)⟩
  ·exact q.elim
 ·exact q.elim⟩
end
end L3
namespace L2
open PySem PySem.Spec PyProof.Rows
section
variable {X:Cx}
def iS{pins:Va}{σ:St}{H:Hp}{s:Shared}{x:Value}{t:Value}{p:Heap->Prop}{vs:List V}{tp:Addr}{b:Bool}{Q:Vq}{E:Vq}(I:Inv X pins σ H s)(Z:PySem.W.KitX X.K x t p)(hp:p s.heap)(hx:x ≠ .builtin "__main__.__loader__#opaque")
  (ht:v4 X.K H tp vs) (e:∀its,Vals vs its->PySem.W.kitAny X.K t its=some b) (h:∀tk,Q (.bool b) { s with toks:=tk }):wpAny (model X.prog X.w) X.A (call (.builtin "isinstance") [x,.ref tp]) Q E s:=by
 obtain⟨its,rv,⟨⟨cls,dd,data,sl⟩,ho,hc,n,hd⟩,hz⟩:=I.tuple ht
 simp only at hc hd
 subst hc hd
 exact PySem.W.kia_tup Z I.xM hp ho (e its rv) hx h
end
end L2
namespace L3
open PySem L2
abbrev kB:=List PV->aj->bP->Prop
section
variable {X:Cx} {e o:Expr} {es:List Expr} {te to:ax} {ts:List ax} {x:Str} {p pos apos cpos:Pos}
noncomputable def LC(X:Cx)(r:kB):List V->Hp->VK->Prop:=fun xs H Q=>∃ps S Q3,Reps X.K H xs ps/\u_ X.K H S/\r ps S Q3/\xB X.K H Q3 Q
structure dH (X:Cx) (f:Value) (r:kB):Prop where
 ok:d4 X f (LC X r)
def ao(r:kB)(ts:List ax):ax:=fun σ S Q E=>au ts σ S (fun ps S1=>r ps S1 Q) E
def nE{r:kB}{σ:L2.St}{H:Hp}{Q:VK}:LE X (ao r ts) σ H Q->tj (ts.map (LE X)) σ H fun vs H1=>LC X r vs H1 Q:=fun⟨σ3,S,Q3,E3,rσ,rS,h,xo,k⟩=>
 bd rσ rS h xo fun ps S' vs H' hl q rv vX g=>⟨ps,S',Q3,rv,vX,q,k.mono g⟩
def nF{id:String}{r:kB}(hc:dH X (.builtin id) r)(hg:Gl X x)(hm:X.mg x=none)(hv:bootBuiltins x=some (.builtin id))(he:starEach (e::es) X.env=(false,eval e X.env)::starEach es X.env)(ha:iA X (e::es) ts)
  (hn:x ≠ "__name__":=by decide) (hdb:(x == ("__debug__":Str))=false:=by decide) (hpl:(backTo pos (starEach es X.env)).any (·.1)=false:=by rfl):aI X (.Call (.Name x p) (e::es) [] pos) (ao r ts):=
 ⟨ay (kR hc.ok hg hm hv ha.ok hn hdb he hpl) fun _ _ _=>nE⟩
def cv:kB:=fun ps S Q=>match ps with
 |[.tup xs]=>Q (.int xs.length) S
 |[.cl xs]=>Q (.int xs.length) S
 |[.str z]=>z.length<=sizeLine/\Q (.int z.length) S
 |[.ref a]=>(match S a with|some (.lst xs)=>Q (.int xs.length) S|some (.dct kvs)=>Q (.int kvs.length) S|_=>False)
 |_=>False
def er:dH X (.builtin "len") cv:=⟨fun pins s σ H xs us Q I r ⟨ps,S,Q3,rp,rS,q,k⟩=>by
 unfold cv at q
 split at q
 ·cases rp with|cons a rr=>cases rr;cases a with|tup h rs=>exact bD pins s σ H _ us Q I r ⟨_,_,rfl,.inr h,by rw[rs.length];exact k _ S _ H q (.int _) rS .refl⟩
 ·cases rp with|cons a rr=>cases rr;cases a with|cl h rs=>exact bD pins s σ H _ us Q I r ⟨_,_,rfl,.inl h.sq,by rw[rs.length];exact k _ S _ H q (.int _) rS .refl⟩
 ·cases rp with|cons a rr=>cases rr;cases a;exact f6 pins s σ H _ us Q I r ⟨_,rfl,q.1,k _ S _ H q.2 (.int _) rS .refl⟩
 ·cases rp with
  |cons a rr=>
   cases rr;cases a
   split at q
   ·rename_i e
    obtain⟨vs,hv,rs⟩:=rS _ _ e
    exact bD pins s σ H _ us Q I r ⟨_,_,rfl,.inl (SqL.of hv),by rw[rs.length];exact k _ S _ H q (.int _) rS .refl⟩
   ·rename_i e
    obtain⟨vs,hv,rs⟩:=rS _ _ e
    exact jX pins s σ H _ us Q I r ⟨_,_,rfl,hv,by rw[rs.length];exact k _ S _ H q (.int _) rS .refl⟩
   ·exact q.elim
 ·exact q.elim⟩
def eu:kB:=fun ps S Q=>match ps with|[.int i,.int j]=>Q (.int (if j > i then j else i)) S|_=>False
def lH(hc:X.calm=true):dH X (.builtin "max") eu:=⟨fun pins s σ H xs us Q I r ⟨ps,S,Q3,rp,rS,q,k⟩=>by
 unfold eu at q
 split at q
 ·cases rp with|cons a rr=>cases rr with|cons b r3=>cases r3;cases a;cases b;exact jP hc pins s σ H _ us Q I r ⟨_,_,rfl,k _ S _ H q (.int _) rS .refl⟩
 ·exact q.elim⟩
def jp:kB:=fun ps S Q=>match ps with
 |[.int _]=>False
 |[.str _]=>False
 |[.bl _]=>False
 |[.non]=>False
 |[.ty _]=>False
 |[v]=>∃d,Dat S v d/\d.showable=true/\d.hasDict=false/\d.depth<=100/\d.shown.length<=sizeLine/\Q (.str d.shown) S
 |_=>False
def p4(hu:X.A.units+150 < cLine)(hg:X.A.guards=some []):dH X (.builtin "repr") jp:=⟨fun pins s σ H xs us Q I r ⟨ps,S,Q3,rp,rS,q,k⟩=>by
 unfold jp at q
 have main:∀{v:PV} {x:V} {u:Value} {a:Addr},u = .ref a->Rep X.K H x v->RelV x u->(∃d,Dat S v d/\d.showable=true/\d.hasDict=false/\d.depth<=100/\d.shown.length<=sizeLine/\Q3 (.str d.shown) S)->wpAny (model X.prog X.w) X.A (call (.builtin "repr") [u]) (EP X pins σ Q) X.xe s:=by
  rintro v x u a rfl rv rx ⟨d,hd,h1,h2,h3,h4,q⟩
  obtain⟨as,R⟩:=hd.reads I rS rv rx
  exact repr_of_reads' R h1 (PyData.noDict_hsm h2) hg (by omega) (fun _ _ e=>e) (fun h' u tk hk=>⟨.str _,H,I.kept hk,⟨u,rfl⟩,k _ S _ H q (.str _) rS .refl⟩) h4
 split at q
 ·exact q.elim
 ·exact q.elim
 ·exact q.elim
 ·exact q.elim
 ·exact q.elim
 ·rename_i n1 n2 n3 n4 n5
  cases rp with
  |cons a rr=>
   cases rr
   cases r with
   |cons r1 r2=>
    cases r2
    cases a with
    |non=>exact absurd rfl n4
    |bl b=>exact absurd rfl (n3 b)
    |int i=>exact absurd rfl (n1 i)
    |str i=>exact absurd rfl (n2 i)
    |ty i=>exact absurd rfl (n5 i)
    |ref b=>cases r1;exact main rfl (.ref b) rfl q
    |tup h rs=>cases r1;exact main rfl (.tup h rs) rfl q
    |cl h rs=>cases r1;exact main rfl (.cl h rs) rfl q
    |exc h1 h2 rs=>cases r1;exact main rfl (.exc h1 h2 rs) rfl q
    |cls h=>cases r1;exact main rfl (.cls h) rfl q
 ·exact q.elim⟩
end
noncomputable def ff(t c:String):Bool:=t == c || (t == "bool" && c == "int")
noncomputable def j4(S:aj):PV->Option String
 | .non=>some "NoneType"
 | .bl _=>some "bool"
 | .int _=>some "int"
 | .str _=>some "str"
 | .tup _=>some "tuple"
 | .cl _=>some "list"
 | .ref a=>(match S a with|some (.lst _)=>some "list" | some (.dct _)=>some "dict" | _=>none)
 | .ty _=>none
 | .exc _ _ _=>none
 | .cls _=>none
noncomputable def cN(c:String):Bool:=["int","str","bool","tuple","list","dict"].contains c
def lI(K:Vo)(t c:String):PySem.W.kitCls K (.type t) (.type c)=(if PySem.W.kitMeta c=true then (PySem.fastBuiltinMro t).map (·.contains (Value.type c)) else none):=rfl
def jq{K:Vo}{t c:String}(ht:t∈["NoneType","bool","int","str","tuple","list","dict"])(hc:cN c=true):PySem.W.kitOne K (.type t) (.type c)=some (ff t c):=by
 have hc':c∈["int","str","bool","tuple","list","dict"]:=by
  have:=hc
  unfold cN at this
  simpa using this
 simp only[List.mem_cons,List.not_mem_nil,or_false]at ht hc'
 rcases ht with rfl|rfl|rfl|rfl|rfl|rfl|rfl<;>rcases hc' with rfl|rfl|rfl|rfl|rfl|rfl <;>
  first
   |(unfold PySem.W.kitOne;rw[if_pos (by decide)];rfl)
   |(unfold PySem.W.kitOne;rw[if_neg (by decide),lI];decide +kernel)
def lJ{S:aj}{p:PV}{t:String}(h:j4 S p=some t):t∈["NoneType","bool","int","str","tuple","list","dict"]:=by
 unfold j4 at h
 split at h<;>first|(cases h;decide)|(split at h<;>first|(cases h;decide)|cases h)|cases h
section
variable {X:Cx}
noncomputable def sr:List PV->Option (List String)
 |[]=>some []
 | .ty c::r=>if cN c then (sr r).map (c::·) else none
 |_::_=>none
def dg:kB:=fun ps S Q=>match ps with
 |[x,.ty c]=>(match j4 S x with|some t=>cN c=true/\Q (.bl (ff t c)) S|none=>False)
 |[x,.tup cs]=>(match j4 S x,sr cs with|some t,some l=>Q (.bl (l.any (ff t))) S|_,_=>False)
 |_=>False
def nG{K:Vo}{H:Hp}{t:String}(ht:t∈["NoneType","bool","int","str","tuple","list","dict"]):∀(cs:List PV) {l:List String} {vs:List V} {its:Vv},sr cs=some l->Reps K H vs cs->Vals vs its->PySem.W.kitAny K (.type t) its=some (l.any (ff t)):=by
 intro cs
 induction cs with
 |nil=>intro l vs its h rs r;cases h;cases rs;cases r;rfl
 |cons p cs ih=>
  intro l vs its h rs r
  cases p with
  |ty c=>
   unfold sr at h
   split at h
   ·rename_i hc
    cases e:sr cs with
    |none=>rw[e]at h;cases h
    |some l'=>
     rw[e]at h
     cases h
     cases rs with
     |cons a rs=>
      cases a
      cases r with
      |@cons _ u _ us r1 r2=>
       cases (show u=Value.type c from r1)
       show(match PySem.W.kitOne K (.type t) (.type c)with|some true=>some true|some false=>PySem.W.kitAny K (.type t) us|none=>none)=_
       rw[jq ht hc,List.any_cons]
       cases ff t c with
       |true=>rfl
       |false=>exact ih e rs r2
   ·cases h
  |_=>cases h
def oM:dH X (.builtin "isinstance") dg:=⟨fun pins s σ H xs us Q I r ⟨ps,S,Q3,rp,rS,q,k⟩=>by
 have main:∀{v:PV} {x:V} {u:Value} {t:String},Rep X.K H x v->RelV x u->j4 S v=some t->∃(h:Heap->Prop),PySem.W.KitX X.K u (.type t) h/\h s.heap/\u ≠ .builtin "__main__.__loader__#opaque":=by
  intro v x u t rv rx ht
  cases rv with
  |non=>cases ht;cases rx;exact⟨_,PySem.W.kitx_none,True.intro,fun z=>nomatch z⟩
  |bl b=>cases ht;cases rx;exact⟨_,PySem.W.kitx_bool,True.intro,fun z=>nomatch z⟩
  |int b=>cases ht;obtain⟨t,rfl⟩:=rx;exact⟨_,PySem.W.kitx_int,True.intro,fun z=>nomatch z⟩
  |str b=>cases ht;obtain⟨t,rfl⟩:=rx;exact⟨_,PySem.W.kitx_str,True.intro,fun z=>nomatch z⟩
  |ty b=>cases ht
  |exc _ _ _=>cases ht
  |cls _=>cases ht
  |tup h rs=>
   cases ht;cases rx
   obtain⟨its,_,⟨o,ho,hc,_⟩,_⟩:=I.tuple h
   exact⟨_,PySem.W.kitx_tuple,⟨o,ho,hc⟩,fun z=>nomatch z⟩
  |cl h rs=>
   cases ht;cases rx
   obtain⟨its,_,⟨o,n,ho,hc,_⟩,_⟩:=I.list h.sq
   exact⟨_,PySem.W.kitx_list,⟨o,ho,hc⟩,fun z=>nomatch z⟩
  |ref a=>
   cases rx
   unfold j4 at ht
   simp only at ht
   split at ht
   ·rename_i e
    cases ht
    obtain⟨vs,hv,_⟩:=rS _ _ e
    obtain⟨its,_,⟨o,n,ho,hc,_⟩,_⟩:=I.list (SqL.of hv)
    exact⟨_,PySem.W.kitx_list,⟨o,ho,hc⟩,fun z=>nomatch z⟩
   ·rename_i e
    cases ht
    obtain⟨vs,hv,_⟩:=rS _ _ e
    obtain⟨_,_,vs',_,p⟩:=(show ObjOk X.prog X.w H s.heap _ (.dK vs)from I.hok _ _ hv)
    obtain⟨o,es,ep,h1,h2,_⟩:=p
    exact⟨_,PySem.W.kitx_dict,⟨o,h1,h2.1⟩,fun z=>nomatch z⟩
   ·cases ht
 unfold dg at q
 split at q
 ·split at q
  ·rename_i ht
   cases rp with
   |cons a rr=>
    cases rr with
    |cons b r3=>
     cases r3;cases b
     cases r with
     |cons r1 r2=>
      cases r2 with
      |cons r4 r5=>
       cases r5
       cases (show _=Value.type _ from r4)
       obtain⟨h,Z,hp,hx⟩:=main a r1 ht
       exact PySem.W.kia_one Z I.xM hp (jq (lJ ht) q.1) hx fun tk=>⟨.bl _,H,I.tok _,rfl,k _ S _ H q.2 (.bl _) rS .refl⟩
  ·exact q.elim
 ·split at q
  ·rename_i ht hl
   cases rp with
   |cons a rr=>
    cases rr with
    |cons b r3=>
     cases r3
     cases b with
     |tup h1 rs=>
      cases r with
      |cons r1 r2=>
       cases r2 with
       |cons r4 r5=>
        cases r5
        cases r4
        obtain⟨h,Z,hp,hx⟩:=main a r1 ht
        exact iS I Z hp hx h1 (fun its rv=>nG (lJ ht) _ hl rs rv) fun tk=>⟨.bl _,H,I.tok _,rfl,k _ S _ H q (.bl _) rS .refl⟩
  ·exact q.elim
 ·exact q.elim⟩
end
abbrev lK:=PV->List PV->aj->bP->Prop
section
variable {X:Cx} {e o:Expr} {es:List Expr} {te to:ax} {ts:List ax} {name:Str} {p pos apos cpos:Pos} {T id:String}
noncomputable def LM(X:Cx)(r:lK):V->List V->Hp->VK->Prop:=fun x xs H Q=>∃px ps S Q3,Rep X.K H x px/\Reps X.K H xs ps/\u_ X.K H S/\r px ps S Q3/\xB X.K H Q3 Q
structure nH (X:Cx) (id:String) (r:lK):Prop where
 ok:sZ X id (LM X r)
def lL(T:String)(x:PV)(S:aj):Prop:=match x with
 | .str _=>T = "str"
 | .ref a=>(match S a with|some (.lst _)=>T = "list" | some (.dct _)=>T = "dict" | _=>False)
 | .cl _=>T = "list"
 |_=>False
def lM{H:Hp}{S:aj}{v:V}{p:PV}(rS:u_ X.K H S)(r:Rep X.K H v p)(h:lL T p S):s9 X.K T v H:=by
 cases r with
 |str x=>exact h
 |ref a=>
  unfold lL at h
  simp only at h
  split at h
  ·rename_i e
   obtain⟨vs,hv,_⟩:=rS _ _ e
   exact .inl ⟨h,_,SqL.of hv⟩
  ·rename_i e
   obtain⟨vs,hv,_⟩:=rS _ _ e
   exact .inr (.inr (.inl ⟨h,.inl ⟨_,hv⟩⟩))
  ·exact h.elim
 |cl h1 _=>exact .inl ⟨h,_,h1.sq⟩
 |_=>exact h.elim
def fD(T:String)(r:lK)(to:ax)(ts:List ax):ax:=fun σ S Q E=>to σ S (fun x S1=>lL T x S1/\au ts σ S1 (fun ps S2=>r x ps S2 Q) E) E
def t9{r:lK}(pa:PlainAttrs T)(slot:Slot T name id)(hty:typeOf (.builtin id)=pure (.type "method_descriptor"))(hm:nH X id r)(hs:starEach (e::es) X.env=(false,eval e X.env)::starEach es X.env)(ho:aI X o to)(ha:iA X (e::es) ts)
  (hbase:attributeBase o name X.env (eval o X.env)=eval o X.env:=by rfl)
  (hfew:((backTo cpos (starEach (e::es) X.env)).all (fun x=>!x.1)&&(backToKw cpos (keywordEach [] X.env)).all (fun x=>x.1.isSome)
   && decide ((e::es).length+([]:List Keyword).length+(if ([]:List Keyword).isEmpty then 0 else 1) < 30))=true:=by rfl)
  (hline:(apos.endLine == cpos.line)=true:=by rfl) (hplain:(backTo cpos (starEach es X.env)).any (·.1)=false:=by rfl):aI X (.Call (.Attribute o name apos) (e::es) [] cpos) (fD T r to ts):=
 ⟨ay (rP pa slot hty hm.ok ho.ok ha.ok hbase hfew hline hs hplain) fun σ H Q ⟨σ3,S,Q3,E3,rσ,rS,h,xo,k⟩=>⟨σ3,S,_,E3,rσ,rS,h,xo,fun x S1 v H1 h1 rx vf g1=>
  ⟨lM vf rx h1.1,bd (rσ.mono g1) vf h1.2 (xo.mono g1) fun ps S2 vs H2 hl q rv wy g2=>⟨x,ps,S2,Q3,rx.mono g2,rv,wy,q,k.mono (g1.trans g2)⟩⟩⟩⟩
def sv{r:lK}(pa:PlainAttrs T)(slot:Slot T name id)(hty:typeOf (.builtin id)=pure (.type "method_descriptor"))(hm:nH X id r)(ho:aI X o to)
  (hbase:attributeBase o name X.env (eval o X.env)=eval o X.env:=by rfl) (hline:(apos.endLine == cpos.line)=true:=by rfl):aI X (.Call (.Attribute o name apos) [] [] cpos) (fD T r to []):=
 ⟨ay (pG pa slot hty hm.ok ho.ok hbase hline) fun σ H Q ⟨σ3,S,Q3,E3,rσ,rS,h,xo,k⟩=>⟨σ3,S,_,E3,rσ,rS,h,xo,fun x S1 v H1 h1 rx vf g1=>
  ⟨lM vf rx h1.1,⟨x,[],S1,Q3,rx,.nil,vf,h1.2,k.mono g1⟩⟩⟩⟩
def bb:lK:=fun x ps S Q=>match x,ps with
 | .ref a,[y]=>(match S a with|some (.lst xs)=>xs.length < sizeLine/\Q .non (u6 S a (.lst (xs++[y])))|_=>False)
 |_,_=>False
def g7:nH X "list.append" bb:=⟨fun pins s σ H x xs v us Q I rx rs ⟨px,ps,S,Q3,r1,rp,rS,q,k⟩=>by
 unfold bb at q
 split at q
 ·split at q
  ·rename_i e
   cases r1
   cases rp with
   |cons b rr=>
    cases rr
    obtain⟨vs,hv,rl⟩:=rS _ _ e
    exact jR pins s σ H _ _ v us Q I rx rs ⟨_,_,_,rfl,rfl,hv,by rw[rl.length];exact q.1,k _ _ _ _ q.2 .non (rS.put hv trivial ⟨_,ak,(rl.append (.cons b .nil)).mono (.mut hv trivial)⟩) (.mut hv trivial)⟩
  ·exact q.elim
 ·exact q.elim⟩
def bn:lK:=fun x ps S Q=>match x,ps with
 | .ref a,[.ref b]=>(match S a,S b with|some (.lst xs),some (.lst ys)=>xs.length+ys.length<=sizeLine/\Q .non (u6 S a (.lst (xs++ys)))|_,_=>False)
 |_,_=>False
def g_:nH X "list.extend" bn:=⟨fun pins s σ H x xs v us Q I rx rs ⟨px,ps,S,Q3,r1,rp,rS,q,k⟩=>by
 unfold bn at q
 split at q
 ·split at q
  ·rename_i e e2
   cases r1
   cases rp with
   |cons b rr=>
    cases rr
    cases b
    obtain⟨vs,hv,rl⟩:=rS _ _ e
    obtain⟨us',hu,ru⟩:=rS _ _ e2
    exact jS pins s σ H _ _ v us Q I rx rs ⟨_,_,_,_,rfl,rfl,hv,hu,by rw[rl.length,ru.length];exact q.1,k _ _ _ _ q.2 .non (rS.put hv trivial ⟨_,ak,(rl.append ru).mono (.mut hv trivial)⟩) (.mut hv trivial)⟩
  ·exact q.elim
 ·exact q.elim⟩
def hG:lK:=fun x ps S Q=>match x,ps with
 | .ref a,[]=>(match S a with|some (.lst xs)=>(match xs[xs.length - 1]? with|some y=>Q y (u6 S a (.lst xs.dropLast))|none=>False)|_=>False)
 | .ref a,[.int i]=>(match S a with|some (.lst xs)=>-(2 ^ 63)<=i/\i < 2 ^ 63/\(match seqIndex? i xs.length with|some j=>(match xs[j]? with|some y=>Q y (u6 S a (.lst (xs.eraseIdx j)))|none=>False)|none=>False)|_=>False)
 |_,_=>False
def oN:nH X "list.pop" hG:=⟨fun pins s σ H x xs v us Q I rx rs ⟨px,ps,S,Q3,r1,rp,rS,q,k⟩=>by
 unfold hG at q
 split at q
 ·split at q
  ·rename_i e
   split at q
   ·rename_i ey
    cases r1
    cases rp
    obtain⟨vs,hv,rl⟩:=rS _ _ e
    rw[<-rl.length]at ey
    obtain⟨y',zC,ry⟩:=rl.get ey
    exact pH pins s σ H _ _ v us Q I rx rs ⟨_,_,_,rfl,rfl,hv,zC,k _ _ _ _ q (ry.mono (.mut hv trivial)) (rS.put hv trivial ⟨_,ak,rl.dropLast.mono (.mut hv trivial)⟩) (.mut hv trivial)⟩
   ·exact q.elim
  ·exact q.elim
 ·split at q
  ·rename_i e
   obtain⟨h1,h2,q⟩:=q
   split at q
   ·rename_i ej
    split at q
    ·rename_i ey
     cases r1
     cases rp with
     |cons b rr=>
      cases rr;cases b
      obtain⟨vs,hv,rl⟩:=rS _ _ e
      obtain⟨y',zC,ry⟩:=rl.get ey
      rw[<-rl.length]at ej
      exact kY pins s σ H _ _ v us Q I rx rs ⟨_,_,_,_,_,rfl,rfl,hv,h1,h2,ej,zC,k _ _ _ _ q (ry.mono (.mut hv trivial)) (rS.put hv trivial ⟨_,ak,(rl.eraseIdx _).mono (.mut hv trivial)⟩) (.mut hv trivial)⟩
    ·exact q.elim
   ·exact q.elim
  ·exact q.elim
 ·exact q.elim⟩
def gk:lK:=fun x ps S Q=>match x,ps with
 | .ref a,[]=>(match S a with|some (.lst xs)=>Q .non (u6 S a (.lst []))|_=>False)
 |_,_=>False
def nI:nH X "list.clear" gk:=⟨fun pins s σ H x xs v us Q I rx rs ⟨px,ps,S,Q3,r1,rp,rS,q,k⟩=>by
 unfold gk at q
 split at q
 ·split at q
  ·rename_i e
   cases r1;cases rp
   obtain⟨vs,hv,rl⟩:=rS _ _ e
   exact kZ pins s σ H _ _ v us Q I rx rs ⟨_,_,rfl,rfl,hv,k _ _ _ _ q .non (rS.put hv trivial ⟨_,ak,.nil⟩) (.mut hv trivial)⟩
  ·exact q.elim
 ·exact q.elim⟩
noncomputable def texts:List PV->Option (List Str)
 |[]=>some []
 | .str b::r=>(texts r).map (b::·)
 |_::_=>none
theorem cw{K:Vo}{H:Hp}:∀{vs:List V} {ps:List PV} {bs:Vs},Reps K H vs ps->texts ps=some bs->vs=bs.map V.str
 |_,_,_,.nil,h=>by cases h;rfl
 |_,_,bs,.cons (p:=p) a r,h=>by
  cases p with
  |str b=>
   cases a
   unfold texts at h
   cases e:texts _ with
   |none=>rw[e]at h;cases h
   |some l=>rw[e]at h;cases h;rw[cw r e];rfl
  |_=>cases h
def jr:lK:=fun x ps S Q=>match x,ps with
 | .str z,[.ref a]=>(match S a with|some (.lst xs)=>(match texts xs with|some ys=>(ys.map (·.length)).sum+ys.length * z.length<=1000000/\Q (.str (Txt.join z ys)) S|none=>False)|_=>False)
 |_,_=>False
def p7:nH X "str.join" jr:=⟨fun pins s σ H x xs v us Q I rx rs ⟨px,ps,S,Q3,r1,rp,rS,q,k⟩=>by
 unfold jr at q
 split at q
 ·split at q
  ·rename_i e
   split at q
   ·rename_i et
    cases r1
    cases rp with
    |cons b rr=>
     cases rr;cases b
     obtain⟨vs,hv,rl⟩:=rS _ _ e
     have e2:=cw rl et
     subst e2
     exact ng pins s σ H _ _ v us Q I rx rs ⟨_,_,_,rfl,rfl,SqL.of hv,q.1,k _ S _ H q.2 (.str _) rS .refl⟩
   ·exact q.elim
  ·exact q.elim
 ·exact q.elim⟩
end
section
variable {X:Cx} {e c:Expr} {te:ax} {st:Stmt} {rest a b:List Stmt} {t u:a_} {tc:dS} {pos:Pos}
def cx:a_:=fun D σ S=>D.nx σ S
def ah(t u:a_):a_:=fun D σ S=>t { D with nx:=u D } σ S
def bW:ef X [] cx:=⟨jo mF fun D σ H ⟨σ3,S,D3,rσ,rS,h,xo,n,r,bk,ct⟩=>n σ3 S σ H h rσ rS .refl⟩
def ae(h1:jn X st t)(h2:ef X rest u):ef X (st::rest) (ah t u):=
 ⟨jo (kF h1.ok h2.ok) fun D σ H ⟨σ3,S,D3,rσ,rS,h,xo,n,r,bk,ct⟩=>⟨σ3,S,{ D3 with nx:=u D3 },rσ,rS,h,xo,fun σ4 S' σ' H' h' xN vX g=>⟨σ4,S',D3,xN,vX,h',xo.mono g,n.mono g,r.mono g,bk.mono g,ct.mono g⟩,r,bk,ct⟩⟩
def av(h1:jn X st t):ef X [st] t:=⟨mG h1.ok⟩
def bA(te:ax):a_:=fun D σ S=>te σ S (fun _ S1=>D.nx σ S1) D.ex
def eA(he:aI X e te)(hs:swapsWith e none pos.line X.env=pure false:=by rfl):jn X (.Expr e pos) (bA te):=
 ⟨bp (mH he.ok hs) fun D σ H ⟨σ3,S,D3,rσ,rS,h,xo,n,r,bk,ct⟩=>⟨σ3,S,_,D3.ex,rσ,rS,h,xo,fun p S1 v H1 h1 rv vf g1=>n σ3 S1 σ H1 h1 (rσ.mono g1) vf g1⟩⟩
def aL(te:ax):a_:=fun D σ S=>te σ S D.rt D.ex
def aF(he:aI X e te):jn X (.Return (some e) pos) (aL te):=
 ⟨bp (o4 he.ok) fun D σ H ⟨σ3,S,D3,rσ,rS,h,xo,n,r,bk,ct⟩=>⟨σ3,S,D3.rt,D3.ex,rσ,rS,h,xo,r⟩⟩
def fE(c:dS)(t u:a_):a_:=fun D σ S=>c σ S (fun b S1=>if b=true then t D σ S1 else u D σ S1) D.ex
def eB(hc:jm X c tc)(ha:ef X a t)(hb:ef X b u):jn X (.If c a b pos) (fE tc t u):=
 ⟨bp (rf hc.ok ha.ok hb.ok) fun D σ H ⟨σ3,S,D3,rσ,rS,h,xo,n,r,bk,ct⟩=>⟨σ3,S,_,D3.ex,rσ,rS,h,xo,fun z S1 H1 h1 vf g1=>by
  cases z with
  |true=>rw[if_pos rfl]at h1 ⊢;exact⟨σ3,S1,D3,rσ.mono g1,vf,h1,xo.mono g1,n.mono g1,r.mono g1,bk.mono g1,ct.mono g1⟩
  |false=>rw[if_neg (by decide)]at h1 ⊢;exact⟨σ3,S1,D3,rσ.mono g1,vf,h1,xo.mono g1,n.mono g1,r.mono g1,bk.mono g1,ct.mono g1⟩⟩⟩
def aJ(i:Nat)(te:ax):a_:=fun D σ S=>te σ S (fun v S1=>D.nx (σ.set i (some v)) S1) D.ex
def lN{i:Nat}{D:eY}{σ:L2.St}{H:Hp}:LS X (aJ i te) D σ H->mL (LE X te) (gO i) D σ H:=fun⟨σ3,S,D3,rσ,rS,h,xo,n,r,bk,ct⟩=>
 ⟨σ3,S,_,D3.ex,rσ,rS,h,xo,fun p S1 v H1 h1 rv vf g1=>n _ S1 _ H1 h1 ((rσ.mono g1).set rv i) vf g1⟩
def sw{i:Nat}{x:Str}{pos':Pos}(hN:X.N.Nodup)(hi:X.N[i]?=some x)(hx:oA X.env.scope x)(he:aI X e te)(hs:swapsWith e (some (.Name x pos')) pos.line X.env=pure false:=by rfl)
  (hf:X.fn x=true\/X.env.scope.names.lookup x=some .local:=by first|exact .inl rfl|exact .inr rfl|assumption):jn X (.Assign [.Name x pos'] e pos) (aJ i te):=⟨bp (o8 hN hi hx he.ok hs hf) fun _ _ _=>lN⟩
def j5(i j:Nat)(ta tb:ax):a_:=fun D σ S=>ta σ S (fun v S1=>tb σ S1 (fun w S2=>D.nx ((σ.set i (some v)).set j (some w)) S2) D.ex) D.ex
def oO{i j:Nat}{x y:Str}{a b:Expr}{ta tb:ax}{px py pt:Pos}{kt k2 ye}(hc:X.calm=true)(hN:X.N.Nodup)(hi:X.N[i]?=some x)(hj:X.N[j]?=some y)(hij:i≠j)
  (hx:X.env.scope.names.lookup x=some .local) (hy:X.env.scope.names.lookup y=some .local) (ha:iA X [a,b] [ta,tb])
  (hw:swappedStores [.Tuple [.Name x px,.Name y py] kt pt] (.Tuple [a,b] k2 ye) X.env=pure (some [x,y]):=by rfl)
  (hs:swapsWithSole [.Tuple [.Name x px,.Name y py] kt pt] (.Tuple [a,b] k2 ye) pos.line X.env=pure false:=by rfl) :
  jn X (.Assign [.Tuple [.Name x px,.Name y py] kt pt] (.Tuple [a,b] k2 ye) pos) (j5 i j ta tb):=
 ⟨bp (o9 hc hN hi hj hij hx hy ha.ok hw hs) fun D σ H ⟨σ3,S,D3,rσ,rS,h,xo,n,r,bk,ct⟩=>
  ⟨σ3,S,_,D3.ex,rσ,rS,h,xo,fun v S1 v' H1 h1 rv vf g1=>⟨σ3,S1,_,D3.ex,rσ.mono g1,vf,h1,xo.mono g1,fun w S2 w' H2 h2 rw' wy g2=>
   ⟨v',w',rfl,n _ S2 _ H2 h2 (((rσ.mono (g1.trans g2)).set (rv.mono g2) i).set rw' j) wy (g1.trans g2)⟩⟩⟩⟩
inductive Tg where
 |n (i:Nat)|tp (l:Tg)|nil|cons (a r:Tg)
mutual
noncomputable def Tg.put:Tg->PV->aZ->Option aZ
 | .n i,p,σ=>some (σ.set i (some p))
 | .tp l,.tup xs,σ=>l.vC xs σ
 |_,_,_=>none
noncomputable def Tg.vC:Tg->List PV->aZ->Option aZ
 | .nil,[],σ=>some σ
 | .cons a r,x::xs,σ=>(match a.put x σ with|some σ'=>r.vC xs σ'|none=>none)
 |_,_,_=>none
end
noncomputable def Tg.len:Tg->Nat
 | .cons _ r=>r.len+1
 |_=>0
mutual
noncomputable def Tg.g2(K:Vo):Tg->TG
 | .n i=>gO i
 | .tp l=>rj K l.len (l.x6 K)
 |_=>fun _ _ _ _=>False
noncomputable def Tg.x6(K:Vo):Tg->oB
 | .nil=>rh
 | .cons a r=>oC (a.g2 K) (r.x6 K)
 |_=>fun _ _ _ _=>False
end
noncomputable def Tg.under(own:Nat):Tg->Bool
 | .n i=>decide (i < own)
 | .tp l=>l.under own
 | .nil=>true
 | .cons a r=>a.under own&&r.under own
theorem Tg.wS:∀(g:Tg) {ps:List PV} {σ3 σ4:aZ},g.vC ps σ3=some σ4->ps.length=g.len
 | .nil,ps,σ3,σ4,h=>by
  cases ps with
  |nil=>rfl
  |cons _ _=>unfold Tg.vC at h;cases h
 | .cons a r,ps,σ3,σ4,h=>by
  cases ps with
  |nil=>unfold Tg.vC at h;cases h
  |cons x xs=>
   unfold Tg.vC at h
   split at h
   ·rw[List.length_cons,Tg.wS r h];rfl
   ·cases h
 | .n _,ps,σ3,σ4,h=>by unfold Tg.vC at h;cases h
 | .tp _,ps,σ3,σ4,h=>by unfold Tg.vC at h;cases h
mutual
theorem Tg.wF{K:Vo}{H:Hp}{own:Nat}:∀(g:Tg) {v:V} {p:PV} {σ:L2.St} {σ3 σ4:aZ} {Q:L2.St->Hp->Prop},Rep K H v p->vb K H σ σ3->g.put p σ3=some σ4->(∀σ',vb K H σ' σ4->(g.under own=true->σ'.drop own=σ.drop own)->Q σ' H)->g.g2 K v σ H Q
 | .n i,v,p,σ,σ3,σ4,Q,r,rσ,h,k=>by
  unfold Tg.put at h
  cases h
  unfold Tg.g2
  refine k _ (rσ.set r i) fun hb=>?_
  have hi:i < own:=of_decide_eq_true hb
  rw[List.drop_set]
  rw[if_pos hi]
 | .tp l,v,p,σ,σ3,σ4,Q,r,rσ,h,k=>by
  cases p with
  |tup xs=>
   unfold Tg.put at h
   cases r with
   |tup hq rs=>
    have hg:=Tg.xk (own:=own) l rs rσ h k
    unfold Tg.g2
    exact⟨_,_,rfl,hq,rs.length.trans (Tg.wS l h),hg⟩
  |_=>unfold Tg.put at h;cases h
 | .nil,v,p,σ,σ3,σ4,Q,r,rσ,h,k=>by unfold Tg.put at h;cases h
 | .cons _ _,v,p,σ,σ3,σ4,Q,r,rσ,h,k=>by unfold Tg.put at h;cases h
theorem Tg.xk{K:Vo}{H:Hp}{own:Nat}:∀(g:Tg) {vs:List V} {ps:List PV} {σ:L2.St} {σ3 σ4:aZ} {Q:L2.St->Hp->Prop},Reps K H vs ps->vb K H σ σ3->g.vC ps σ3=some σ4->(∀σ',vb K H σ' σ4->(g.under own=true->σ'.drop own=σ.drop own)->Q σ' H)->g.x6 K vs σ H Q
 | .nil,vs,ps,σ,σ3,σ4,Q,r,rσ,h,k=>by
  cases ps with
  |nil=>
   unfold Tg.vC at h
   cases h
   cases r
   unfold Tg.x6
   exact⟨rfl,k _ rσ fun _=>rfl⟩
  |cons _ _=>unfold Tg.vC at h;cases h
 | .cons a r',vs,ps,σ,σ3,σ4,Q,r,rσ,h,k=>by
  cases ps with
  |nil=>unfold Tg.vC at h;cases h
  |cons x xs=>
   unfold Tg.vC at h
   split at h
   ·rename_i σ5 e5
    cases r with
    |cons r1 r2=>
     unfold Tg.x6
     refine⟨_,_,rfl,Tg.wF (own:=own) a r1 rσ e5 fun σ' xN d1=>Tg.xk (own:=own) r' r2 xN h fun Ap zD d2=>k Ap zD fun hb=>?_⟩
     have hb':a.under own=true/\r'.under own=true:=by simpa [Tg.under]using hb
     rw[d2 hb'.2,d1 hb'.1]
   ·cases h
 | .n _,vs,ps,σ,σ3,σ4,Q,r,rσ,h,k=>by unfold Tg.vC at h;cases h
 | .tp _,vs,ps,σ,σ3,σ4,Q,r,rσ,h,k=>by unfold Tg.vC at h;cases h
end
structure mz (X:Cx) (e:Expr) (g:Tg):Prop where
 ok:PG X e (g.g2 X.K)
structure nJ (X:Cx) (es:List Expr) (g:Tg):Prop where
 ok:rg X es (g.x6 X.K)
 len:(assignEach es X.env).length=g.len
def uT(i:Nat){x:Str}(hN:X.N.Nodup)(hi:X.N[i]?=some x)(hx:oA X.env.scope x)(hf:X.fn x=true\/X.env.scope.names.lookup x=some .local:=by first|exact .inl rfl|exact .inr rfl|assumption):mz X (.Name x pos) (.n i):=⟨by
 have h:=mJ (pos:=pos) hN hi hx hf
 unfold Tg.g2
 exact h⟩
def jt:nJ X [] .nil:=⟨by unfold Tg.x6;exact mK,rfl⟩
def bX{es:List Expr}{a r:Tg}(h1:mz X e a)(h2:nJ X es r)(hs:(assignEach (e::es) X.env).map (·.2)=assign e X.env::(assignEach es X.env).map (·.2):=by rfl)(hl:(assignEach (e::es) X.env).length=(assignEach es X.env).length+1:=by rfl):nJ X (e::es) (.cons a r):=
 ⟨by unfold Tg.x6;exact kG h1.ok h2.ok hs,by rw[hl,h2.len];rfl⟩
def tq{es:List Expr}{k:Nat}{l:Tg}(hc:X.calm=true)(h:nJ X es l)(hst:(assignEach es X.env).findIdx? (·.1)=none:=by rfl):mz X (.Tuple es k pos) (.tp l):=⟨by
 have h:=o6 (pos:=pos) (k:=k) hc h.ok h.len hst
 unfold Tg.g2
 exact h⟩
def j6(te:ax)(g:Tg):a_:=fun D σ S=>te σ S (fun v S1=>match g.put v σ with|some σ'=>D.nx σ' S1|none=>False) D.ex
def sx{tg:Expr}{g:Tg}(he:aI X e te)(hg:mz X tg g)(hs:swapsWithSole [tg] e pos.line X.env=pure false:=by rfl)(hw:swappedStores [tg] e X.env=pure none:=by rfl)
  (h1:(assignEach [tg] X.env).map (·.2)=[assign tg X.env]:=by rfl):jn X (.Assign [tg] e pos) (j6 te g):=
 ⟨bp (kH he.ok hg.ok hs hw h1) fun D σ H ⟨σ3,S,D3,rσ,rS,h,xo,n,r,bk,ct⟩=>⟨σ3,S,_,D3.ex,rσ,rS,h,xo,fun p S1 v H1 h1 rv vf g1=>by
  dsimp only at h1
  split at h1
  ·rename_i σ' e'
   exact Tg.wF (own:=0) g rv (rσ.mono g1) e' fun σ2 Aq _=>n _ S1 _ H1 h1 Aq vf g1
  ·exact h1.elim⟩⟩
end
noncomputable def gm{κ:Type} [DecidableEq κ](kvs:List (κ×PV))(k:κ)(v:PV):List (κ×PV):=
 if (kvs.any fun kv=>decide (kv.1=k))=true then kvs.map (fun kv=>if kv.1=k then (kv.1,v) else kv) else kvs++[(k,v)]
theorem ve.append{K:Vo}{H:Hp}{κ:Type}:∀{vs us:List (κ×V)} {ps qs:List (κ×PV)},ve K H vs ps->ve K H us qs->ve K H (vs++us) (ps++qs)
 |_,_,_,_,.nil,s=>s
 |_,_,_,_,.cons a r,s=>.cons a (ve.append r s)
def ve.put{K:Vo}{H:Hp}{κ:Type} [DecidableEq κ]{k:κ}{v:V}{p:PV}(q:Rep K H v p){vs:List (κ×V)}{ps:List (κ×PV)}(r:ve K H vs ps):ve K H (bU vs k v) (gm ps k p):=by
 have e:(vs.any fun kv=>decide (kv.1=k))=(ps.any fun kv=>decide (kv.1=k)):=by rw[d9,r.any]
 unfold bU gm
 rw[e]
 split
 ·clear e
  rename_i h
  clear h
  induction r with
  |nil=>exact .nil
  |@cons k' v' p' vs' ps' a r ih=>
   rw[List.map_cons,List.map_cons]
   by_cases z:k'=k
   ·rw[if_pos z,if_pos z];exact .cons q ih
   ·rw[if_neg z,if_neg z];exact .cons a ih
 ·exact r.append (.cons q .nil)
def dh(o i v:PV)(S:aj)(Q:aj->Prop):Prop:=match o with
 | .ref a=>(match S a with
  |some (.lst xs)=>(match i with | .int k=>(match my xs.length k with|some j=>Q (u6 S a (.lst (xs.set j v)))|none=>False)|_=>False)
  |some (.dct kvs)=>(match gj i with|some k=>kvs.length < sizeLine/\Q (u6 S a (.dct (gm kvs k v)))|none=>False)
  |_=>False)
 |_=>False
section
variable {X:Cx} {e o i:Expr} {te to ti:ax} {pos pos':Pos}
noncomputable def t_(X:Cx):V->V->V->Hp->(Hp->Prop)->Prop:=fun o i v H Q=>∃po pi pv S Q3,Rep X.K H o po/\Rep X.K H i pi/\Rep X.K H v pv/\u_ X.K H S/\dh po pi pv S Q3/\∀S' H',Q3 S'->u_ X.K H' S'->Grow X.K H H'->Q H'
def p8(hu:X.A.units+1 < cLine):mI X (t_ X):=by
 intro pins s σ H o i v ov iv u Q I ro ri rv ⟨po,pi,pv,S,Q3,r1,r2,r3,rS,q,k⟩
 unfold dh at q
 split at q
 ·split at q
  ·rename_i e
   split at q
   ·split at q
    ·rename_i ej
     cases r1;cases r2
     obtain⟨vs,hv,rl⟩:=rS _ _ e
     rw[<-rl.length]at ej
     exact kW pins s σ H _ _ _ ov iv u Q I ro ri rv ⟨_,_,_,_,rfl,rfl,hv,ej,k _ _ q (rS.put hv trivial ⟨_,ak,((rl.set r3 _).mono (.mut hv trivial))⟩) (.mut hv trivial)⟩
    ·exact q.elim
   ·exact q.elim
  ·rename_i e
   split at q
   ·rename_i ek
    cases r1
    have e1:=bE r2 ek
    subst e1
    obtain⟨kv,hv,rk⟩:=rS _ _ e
    exact lE hu pins s σ H _ _ _ ov iv u Q I ro ri rv ⟨_,_,rfl,xH.k hv (by rw[rk.length];exact q.1),k _ _ q.2 (rS.put hv trivial ⟨_,ak,(rk.put r3).mono (.mut hv trivial)⟩) (.mut hv trivial)⟩
   ·exact q.elim
  ·exact q.elim
 ·exact q.elim
def iT(te to ti:ax):a_:=fun D σ S=>te σ S (fun v S1=>to σ S1 (fun o S2=>ti σ S2 (fun i S3=>dh o i v S3 (fun S4=>D.nx σ S4)) D.ex) D.ex) D.ex
def lO(hu:X.A.units+1 < cLine)(he:aI X e te)(ho:aI X o to)(hi:aI X i ti)
  (ha:∀v,assign (.Subscript o i pos') X.env v=(do
   let ov <-holding [v] (eval o X.env)
   let iv <-holding [v,ov] (eval i X.env)
   standAt pos'
   holding [v,ov,iv] (setItem ov iv v)
   release [v,ov,iv] []):=by intro _;rfl)
  (hs:swapsWithSole [.Subscript o i pos'] e pos.line X.env=pure false:=by rfl) (hw:swappedStores [.Subscript o i pos'] e X.env=pure none:=by rfl)
  (h1:(assignEach [.Subscript o i pos'] X.env).map (·.2)=[assign (.Subscript o i pos') X.env]:=by rfl):jn X (.Assign [.Subscript o i pos'] e pos) (iT te to ti):=
 ⟨bp (kH he.ok (o7 ho.ok hi.ok (p8 hu) ha) hs hw h1) fun D σ H ⟨σ3,S,D3,rσ,rS,h,xo,n,r,bk,ct⟩=>⟨σ3,S,_,D3.ex,rσ,rS,h,xo,fun v S1 v' H1 h1 rv vf g1=>
  ⟨σ3,S1,_,D3.ex,rσ.mono g1,vf,h1,xo.mono g1,fun o S2 o' H2 h2 ro wy g2=>⟨σ3,S2,_,D3.ex,rσ.mono (g1.trans g2),wy,h2,xo.mono (g1.trans g2),fun i S3 i' H3 h3 ri yn g3=>
   ⟨o,i,v,S3,_,ro.mono g3,ri,rv.mono (g2.trans g3),yn,h3,fun S4 H4 h4 Ar g4=>n _ S4 _ H4 h4 (rσ.mono (g1.trans (g2.trans (g3.trans g4)))) Ar (g1.trans (g2.trans (g3.trans g4)))⟩⟩⟩⟩⟩
end
end L3
namespace L2
open PySem PySem.Spec PyProof.Rows
section
variable {X:Cx} {tg:Expr}
def ua(K:Vo)(tl:TE):TI:=fun σ H R=>tl σ H fun x H1=>(∃a,x = .ref a/\(∃xs,SqL K H1 a xs)/\R (sV K a) H1)\/(∃a,x = .ref a/\(∃xs,v4 K H1 a xs)/\R (tN K a) H1)\/∃z,x = .str z/\R (t4 z) H1
def p9{l:Expr}{tl:TE}(hl:PE X l tl):PI X tg l (ua X.K tl):=by
 intro pins s σ H R I h
 refine va (hl pins s σ H _ I h) fun v s1 ⟨x,H1,I1,r1,q1⟩=>?_
 rcases q1 with⟨a,e,⟨xs,hq⟩,q⟩|⟨a,e,⟨xs,hq⟩,q⟩|⟨z,e,q⟩
 ·subst e
  cases r1
  obtain⟨its,rv,p,hz⟩:=I1.list hq
  refine wpAny_pyIter_list p.isList ?_
  refine⟨s1.heap.objs.size,[s1.heap.objs.size],_,_,H1,rfl,I1.kept (t':=s1.toks) fun b o e=>Heap.get?_push_of_some _ e,jL a _,⟨_,Heap.get?_push_size _ rfl,rfl,rfl⟩,fun b hb=>?_,q⟩
  have e:b=s1.heap.objs.size:=by simpa using hb
  subst e
  exact I1.xu (Nat.le_refl _) (I1.hok.fresh (Nat.le_refl _))
 ·subst e
  cases r1
  obtain⟨its,rv,p,hz⟩:=I1.tuple hq
  refine wpAny_pyIter_tuple (show s1.heap.IsTuple a its.toArray from p) ?_
  refine⟨s1.heap.objs.size,[s1.heap.objs.size],_,_,H1,rfl,I1.kept (t':=s1.toks) fun b o e=>Heap.get?_push_of_some _ e,iD a _,⟨_,Heap.get?_push_size _ rfl,rfl,rfl⟩,fun b hb=>?_,q⟩
  have e:b=s1.heap.objs.size:=by simpa using hb
  subst e
  exact I1.xu (Nat.le_refl _) (I1.hok.fresh (Nat.le_refl _))
 ·subst e
  obtain⟨t,rfl⟩:=r1
  have fin:∀ty,(ty = "str_ascii_iterator" \/ ty = "str_iterator")->tM X pins σ tg R (.ref s1.heap.objs.size) { s1 with heap:=s1.heap.push { cls:=.type ty,data:=.fields #[.str z t,.int 0 0] } }:=fun ty hty=>by
   refine⟨s1.heap.objs.size,[s1.heap.objs.size],_,_,H1,rfl,I1.kept (t':=s1.toks) fun b o e=>Heap.get?_push_of_some _ e,lg hty _ z t,⟨Nat.zero_le _,_,Heap.get?_push_size _ rfl,rfl,rfl⟩,fun b hb=>?_,q⟩
   have e:b=s1.heap.objs.size:=by simpa using hb
   subst e
   exact I1.xu (Nat.le_refl _) (I1.hok.fresh (Nat.le_refl _))
  cases ha:z.cps.all (· < 128)
  ·exact wpAny_pyIter_wide ha (fin _ (.inr rfl))
  ·exact wpAny_pyIter_ascii ha (fin _ (.inl rfl))
end
end L2
namespace L3
open PySem L2
structure ub where
 items:List PV
 keep:aj->Prop
def fF(K:Vo)(H0:Hp)(J:It)(src:ub):Prop:=∀(i:Nat) (S:aj) (H:Hp),Grow K H0 H->u_ K H S->src.keep S->
 (∀p,src.items[i]?=some p->J.go i H/\∀x H',J.yT i H x H'->Rep K H' x p/\u_ K H' S/\Grow K H H')/\(i=src.items.length->J.stop i H)
abbrev nK:=aZ->aj->(ub->aj->Prop)->cr->Prop
def LI(X:Cx)(t:nK):TI:=fun σ H R=>∃σ3 S R3 E3,vb X.K H σ σ3/\u_ X.K H S/\t σ3 S R3 E3/\xA X H E3/\∀src S' J H',R3 src S'->fF X.K H' J src->u_ X.K H' S'->Grow X.K H H'->R J H'
structure p_ (X:Cx) (tg iter:Expr) (t:nK):Prop where
 ok:PI X tg iter (LI X t)
def lP{X:Cx}{tg iter:Expr}{t t':TI}(h:PI X tg iter t)(k:∀σ H R,t' σ H R->t σ H R):PI X tg iter t':=fun pins s σ H R I q=>h pins s σ H R I (k σ H R q)
section
variable {X:Cx} {e tg:Expr} {es:List Expr} {te:ax} {ts:List ax} {p pos:Pos}
noncomputable def bB(S:aj):PV->Option ub
 | .tup xs=>some ⟨xs,fun _=>True⟩
 | .cl xs=>some ⟨xs,fun _=>True⟩
 | .str z=>some ⟨z.cps.toList.map fun c=>.str (iz c),fun _=>True⟩
 | .ref a=>(match S a with|some (.lst xs)=>some ⟨xs,fun S'=>S' a=some (.lst xs)⟩|_=>none)
 |_=>none
def aM(te:ax):nK:=fun σ S R E=>te σ S (fun v S1=>match bB S1 v with|some src=>R src S1|none=>False) E
end
section
variable {X:Cx} {e tg a b:Expr} {es:List Expr} {te ta tb:ax} {ts:List ax} {p pos:Pos}
def lQ{K:Vo}{H0:Hp}{a:Addr}{xs:List PV}:fF K H0 (sV K a) ⟨xs,fun S'=>S' a=some (.lst xs)⟩:=by
 intro i S H g rS hk
 obtain⟨vs,hv,rs⟩:=rS a _ hk
 refine⟨fun p hp=>?_,fun hi=>⟨vs,SqL.of hv,by rw[rs.length,hi];exact Nat.le_refl _⟩⟩
 obtain⟨v,hx,rv⟩:=rs.get hp
 refine⟨⟨vs,v,SqL.of hv,hx⟩,fun x H' ⟨e,h⟩=>?_⟩
 subst e
 have:=h vs (SqL.of hv)
 rw[hx]at this
 cases this
 exact⟨rv,rS,.refl⟩
def nL{K:Vo}{H0:Hp}{a:Addr}{vs:List V}{xs:List PV}(h:v4 K H0 a vs)(rs:Reps K H0 vs xs):fF K H0 (tN K a) ⟨xs,fun _=>True⟩:=by
 intro i S H g rS _
 have hv:=g.t _ _ h
 refine⟨fun p hp=>?_,fun hi=>⟨vs,hv,by rw[rs.length,hi];exact Nat.le_refl _⟩⟩
 obtain⟨v,hx,rv⟩:=rs.get hp
 refine⟨⟨vs,v,hv,hx⟩,fun x H' ⟨e,h⟩=>?_⟩
 subst e
 have:=h vs hv
 rw[hx]at this
 cases this
 exact⟨rv.mono g,rS,.refl⟩
def qa{K:Vo}{H0:Hp}{a:Addr}{vs:List V}{xs:List PV}(h:yt K H0 a vs)(rs:Reps K H0 vs xs):fF K H0 (sV K a) ⟨xs,fun _=>True⟩:=by
 intro i S H g rS _
 have hv:=(g.c _ _ h).sq
 refine⟨fun p hp=>?_,fun hi=>⟨vs,hv,by rw[rs.length,hi];exact Nat.le_refl _⟩⟩
 obtain⟨v,hx,rv⟩:=rs.get hp
 refine⟨⟨vs,v,hv,hx⟩,fun x H' ⟨e,h⟩=>?_⟩
 subst e
 have:=h vs hv
 rw[hx]at this
 cases this
 exact⟨rv.mono g,rS,.refl⟩
def nM{K:Vo}{H0:Hp}{z:Str}:fF K H0 (t4 z) ⟨z.cps.toList.map fun c=>.str (iz c),fun _=>True⟩:=by
 intro i S H g rS _
 refine⟨fun p hp=>?_,fun hi=>by show z.cps.size<=i;rw[hi,List.length_map,Array.length_toList];exact Nat.le_refl _⟩
 rw[List.getElem?_map]at hp
 cases hc:z.cps.toList[i]? with
 |none=>rw[hc]at hp;cases hp
 |some c=>
  rw[hc]at hp
  cases hp
  have hc':z.cps[i]?=some c:=by simpa using hc
  refine⟨?_,fun x H' ⟨e,c',h1,h2⟩=>?_⟩
  ·show i < z.cps.size
   by_cases hi:i < z.cps.size
   ·exact hi
   ·rw[Array.getElem?_eq_none (by omega)]at hc';cases hc'
  ·subst e
   rw[hc']at h1
   cases h1
   subst h2
   exact⟨.str _,rS,.refl⟩
def bY(he:aI X e te):p_ X tg e (aM te):=⟨lP (p9 he.ok) fun σ H R ⟨σ3,S,R3,E3,rσ,rS,h,xo,k⟩=>⟨σ3,S,_,E3,rσ,rS,h,xo,fun v S1 v' H1 h1 rv vf g1=>by
 dsimp only at h1
 split at h1
 ·rename_i src hs
  unfold bB at hs
  split at hs
  ·cases hs
   cases rv with
   |tup hq rs=>exact .inr (.inl ⟨_,rfl,⟨_,hq⟩,k _ S1 _ H1 h1 (nL hq rs) vf g1⟩)
  ·cases hs
   cases rv with
   |cl hq rs=>exact .inl ⟨_,rfl,⟨_,hq.sq⟩,k _ S1 _ H1 h1 (qa hq rs) vf g1⟩
  ·cases hs
   cases rv
   exact .inr (.inr ⟨_,rfl,k _ S1 _ H1 h1 nM vf g1⟩)
  ·cases rv
   split at hs
   ·rename_i ea
    cases hs
    obtain⟨vs,hv,rs⟩:=vf _ _ ea
    exact .inl ⟨_,rfl,⟨_,SqL.of hv⟩,k _ S1 _ H1 h1 lQ vf g1⟩
   ·cases hs
  ·cases hs
 ·exact h1.elim⟩⟩
noncomputable def aP(lo:Int)(n:Nat):List PV:=(List.range n).map fun(i:Nat)=>PV.int (lo+i)
def j7{K:Vo}{H0:Hp}{lo:Int}{n:Nat}:fF K H0 (sW lo n) ⟨aP lo n,fun _=>True⟩:=by
 intro i S H g rS _
 refine⟨fun p hp=>?_,fun hi=>by show n<=i;rw[hi];simp[aP]⟩
 unfold aP at hp
 rw[List.getElem?_map]at hp
 by_cases hi:i < n
 ·rw[List.getElem?_range hi]at hp
  cases hp
  refine⟨hi,fun x H' ⟨e,h⟩=>?_⟩
  subst e h
  exact⟨.int _,rS,.refl⟩
 ·rw[List.getElem?_eq_none (by simpa using hi)]at hp
  cases hp
def eC(ta:ax):nK:=fun σ S R E=>ta σ S (fun v S1=>match v with | .int j=>-(2 ^ 62)<=j/\j < 2 ^ 62/\R ⟨aP 0 j.toNat,fun _=>True⟩ S1|_=>False) E
def cP(hs:starEach [a] X.env=[(false,eval a X.env)])(hg:Gl X "range")(hm:X.mg "range" = none)(ha:iA X [a] [ta]):p_ X tg (.Call (.Name "range" p) [a] [] pos) (eC ta):=
 ⟨lP (jM hg hm ha.ok hs) fun σ H R ⟨σ3,S,R3,E3,rσ,rS,h,xo,k⟩=>⟨σ3,S,_,E3,rσ,rS,h,xo,fun v S1 v' H1 h1 rv vf g1=>by
  dsimp only at h1
  split at h1
  ·cases rv
   exact⟨_,rfl,h1.1,h1.2.1,k _ S1 _ H1 h1.2.2 j7 vf g1⟩
  ·exact h1.elim⟩⟩
end
section
variable {X:Cx} {iter tg c:Expr} {body:List Stmt} {ti:nK} {g:Tg} {tb:a_} {tc:dS} {pos:Pos}
noncomputable def hJ(g:Tg)(tb:a_)(D:gX)(keep:aj->Prop):List PV->aZ->aj->Prop
 |[],σ,S=>keep S/\D.nx σ S
 |x::r,σ,S=>keep S/\match g.put x σ with|some σ'=>tb { D with nx:=hJ g tb D keep r,ct:=hJ g tb D keep r,bk:=D.nx } σ' S|none=>False
def eE(ti:nK)(g:Tg)(tb:a_):a_:=fun D σ S=>ti σ S (fun src S1=>hJ g tb D src.keep src.items σ S1) D.ex
def ju(hp:PassesOwn (model X.prog X.w) X.A X.env X.xe)(hc:X.calm=true)(hi:p_ X tg iter ti)(hg:mz X tg g)(hb:ef X body tb)(hs:∀x,foldedSetIterable iter X.env x=pure x:=by intro _;rfl):jn X (.For tg iter body [] pos) (eE ti g tb):=
 ⟨bp (pc hp hc hi.ok hg.ok hb.ok hs) fun D σ H ⟨σ3,S,D3,rσ,rS,h,xo,n,r,bk,ct⟩=>⟨σ3,S,_,D3.ex,rσ,rS,h,xo,fun src S1 J H1 h1 sim vf g1=>by
  refine⟨fun i m σ' H'=>i+m=src.items.length/\∃σ4 S',vb X.K H' σ' σ4/\u_ X.K H' S'/\Grow X.K H1 H'/\hJ g tb D3 src.keep (src.items.drop i) σ4 S',⟨src.items.length,Nat.zero_add _,σ3,S1,rσ.mono g1,vf,.refl,by simpa using h1⟩,?_⟩
  rintro i m σ' H' ⟨hm,σ4,S',xN,vX,g',hw⟩
  cases hd:src.items.drop i with
  |nil=>
   rw[hd]at hw
   have hi:i=src.items.length:=by
    have:=congrArg List.length hd
    rw[List.length_drop,List.length_nil]at this
    omega
   exact .inl ⟨(sim i S' H' g' vX hw.1).2 hi,n _ S' _ H' hw.2 xN vX (g1.trans g')⟩
  |cons x rest=>
   rw[hd]at hw
   have hx:src.items[i]?=some x:=by
    have:=congrArg (fun l=>l[0]?) hd
    simpa using this
   have hrest:src.items.drop (i+1)=rest:=by
    have:=congrArg List.tail hd
    simpa [List.tail_drop]using this
   have hlt:i < src.items.length:=by
    by_cases z:i < src.items.length
    ·exact z
    ·rw[List.getElem?_eq_none (by omega)]at hx;cases hx
   obtain⟨go,yl⟩:=(sim i S' H' g' vX hw.1).1 x hx
   refine .inr ⟨go,fun σ5 H5=>∃σ6 S6,vb X.K H5 σ5 σ6/\u_ X.K H5 S6/\Grow X.K H1 H5/\hJ g tb D3 src.keep rest σ6 S6,?_,fun v H5 hv=>?_⟩
   ·rintro σ5 H5 ⟨σ6,S6,q1,q2,q3,q4⟩
    exact⟨m - 1,by omega,by omega,σ6,S6,q1,q2,q3,by rw[hrest];exact q4⟩
   ·obtain⟨rv,zE,g5⟩:=yl v H5 hv
    obtain⟨_,hw⟩:=hw
    split at hw
    ·rename_i σ6 e6
     refine Tg.wF (own:=0) g rv (xN.mono g5) e6 fun σ7 yZ _=>?_
     exact⟨σ6,S',_,yZ,zE,hw,xo.mono (g1.trans (g'.trans g5)),fun σ8 S8 σ9 H9 q1 q2 q3 q4=>⟨σ8,S8,q2,q3,g'.trans (g5.trans q4),q1⟩,r.mono (g1.trans (g'.trans g5)),n.mono (g1.trans (g'.trans g5)),
      fun σ8 S8 σ9 H9 q1 q2 q3 q4=>⟨σ8,S8,q2,q3,g'.trans (g5.trans q4),q1⟩⟩
    ·exact hw.elim⟩⟩
def gq(tc:dS)(tb:a_):a_:=fun D σ S=>∃W:Nat->aZ->aj->Prop,(∃m,W m σ S)/\∀m σ S,W m σ S->
 tc σ S (fun b S1=>if b=true then ∃N:aZ->aj->Prop,(∀σ' S',N σ' S'->∃m',m' < m/\W m' σ' S')/\tb { D with nx:=N,ct:=N,bk:=D.nx } σ S1 else D.nx σ S1) D.ex
def gr(hp:PassesOwn (model X.prog X.w) X.A X.env X.xe)(hc:jm X c tc)(hb:ef X body tb):jn X (.While c body [] pos) (gq tc tb):=
 ⟨bp (kI hp hc.ok hb.ok) fun D σ H ⟨σ3,S,D3,rσ,rS,⟨W,⟨m0,w0⟩,turn⟩,xo,n,r,bk,ct⟩=>by
  refine⟨fun m σ' H'=>∃σ4 S',vb X.K H' σ' σ4/\u_ X.K H' S'/\Grow X.K H H'/\W m σ4 S',⟨m0,σ3,S,rσ,rS,.refl,w0⟩,?_⟩
  rintro m σ' H' ⟨σ4,S',xN,vX,g',w'⟩
  refine⟨σ4,S',_,D3.ex,xN,vX,turn m σ4 S' w',xo.mono g',fun b S1 H1 h1 vf g1=>?_⟩
  cases b with
  |true=>
   rw[if_pos rfl]at h1 ⊢
   obtain⟨N,hN,h1⟩:=h1
   refine⟨fun σ5 H5=>∃σ6 S6,vb X.K H5 σ5 σ6/\u_ X.K H5 S6/\Grow X.K H H5/\N σ6 S6,?_,?_⟩
   ·rintro σ5 H5 ⟨σ6,S6,q1,q2,q3,q4⟩
    obtain⟨m',hm,w6⟩:=hN σ6 S6 q4
    exact⟨m',hm,σ6,S6,q1,q2,q3,w6⟩
   ·exact⟨σ4,S1,_,xN.mono g1,vf,h1,xo.mono (g'.trans g1),fun σ8 S8 σ9 H9 q1 q2 q3 q4=>⟨σ8,S8,q2,q3,g'.trans (g1.trans q4),q1⟩,r.mono (g'.trans g1),n.mono (g'.trans g1),
     fun σ8 S8 σ9 H9 q1 q2 q3 q4=>⟨σ8,S8,q2,q3,g'.trans (g1.trans q4),q1⟩⟩
  |false=>
   rw[if_neg (by decide)]at h1 ⊢
   exact n _ S1 _ H1 h1 (xN.mono g1) vf (g'.trans g1)⟩
end
noncomputable def di:cr:=fun _ _ _=>False
def xA.no{X:Cx}{H:Hp}:xA X H di:=fun _ _ _ _ _ _ _ _ _ _ _ _ _ _ h=>h.elim
section
variable {X:Cx} {elt iter tg c:Expr} {ifs:List Expr} {scope:Scope} {pos:Pos} {ti:nK} {g:Tg} {tc:dS} {te:ax} {fs N:Vs} {own:Nat} {fr:List Nat}
noncomputable def bo(g:Tg)(tc:dS)(te:ax)(σ':aZ)(keep:aj->Prop)(fin:List PV->aj->Prop):List PV->List PV->aj->Prop
 |[],ys,S=>keep S/\ys.length<=sizeLine/\fin ys S
 |x::r,ys,S=>keep S/\ys.length<=sizeLine/\match g.put x σ' with
  |some σ2=>tc σ2 S (fun b S3=>if b=true then te σ2 S3 (fun y S4=>bo g tc te σ' keep fin r (ys++[y]) S4) di else bo g tc te σ' keep fin r ys S3) di
  |none=>False
def cQ:dS:=fun _ S Q _=>Q true S
structure qV (X:Cx) (ifs:List Expr) (t:dS):Prop where
 ok:PF X ifs (LT X t)
def iU{t t':TT}(h:PF X ifs t)(k:∀σ H Q,t' σ H Q->t σ H Q):PF X ifs t':=fun pins s σ H Q I q=>h pins s σ H Q I (k σ H Q q)
def fG:qV X [] cQ:=⟨iU pN fun σ H Q ⟨σ3,S,Q3,E3,rσ,rS,h,xo,k⟩=>k true S H h rS .refl⟩
def hU(h:jm X c tc):qV X [c] tc:=⟨pO h.ok⟩
noncomputable def br(own:Nat)(fr:List Nat)(σ:aZ):aZ:=List.replicate own none++fr.map fun j=>lk σ j
def nN{K:Vo}{H:Hp}{σ:L2.St}{σ3:aZ}(r:vb K H σ σ3)(own:Nat)(fr:List Nat):vb K H (bz own fr σ) (br own fr σ3):=by
 refine⟨by unfold bz br;simp,fun i p e=>?_⟩
 unfold br at e
 unfold bz
 by_cases hi:i < own
 ·rw[List.getElem?_append_left (by simpa using hi),List.getElem?_replicate,if_pos hi]at e
  cases e
 ·rw[List.getElem?_append_right (by simpa using hi),List.length_replicate,List.getElem?_map]at e ⊢
  cases hj:fr[i - own]? with
  |none=>rw[hj]at e;cases e
  |some j=>
   rw[hj]at e
   simp only[Option.map_some,Option.some.injEq]at e ⊢
   obtain⟨v,hv,rv⟩:=r.at' j p (lq e)
   exact⟨v,by rw[hv];rfl,rv⟩
def aG(ti:nK)(g:Tg)(tc:dS)(te:ax)(own:Nat)(fr:List Nat):ax:=fun σ S Q E=>ti σ S (fun src S1=>bo g tc te (br own fr σ) src.keep (fun ys S2=>∀p,S2 p=none->Q (.ref p) (u6 S2 p (.lst ys))) src.items [] S1) E
def fH{σ:L2.St}{H:Hp}{Q:VK}(xS:g.under own=true)(B0:Bk):LE X (aG ti g tc te own fr) σ H Q->k8 (LI X ti) (g.g2 X.K) (fun σ H Q=>∃σ3 S Q3,vb X.K H σ σ3/\u_ X.K H S/\tc σ3 S Q3 di/\∀b S' H',Q3 b S'->u_ X.K H' S'->Grow X.K H H'->Q b H')
  (fun σ H Q=>∃σ3 S Q3,vb X.K H σ σ3/\u_ X.K H S/\te σ3 S Q3 di/\xB X.K H Q3 Q) own fr σ H Q:=fun⟨σ3,S,Q3,E3,rσ,rS,h,xo,k⟩=>by
 refine⟨σ3,S,_,E3,rσ,rS,h,xo,fun src S1 J H1 h1 sim vf g1=>?_⟩
 refine⟨fun i m ys H'=>i+m=src.items.length/\∃zs S',Reps X.K H' ys zs/\u_ X.K H' S'/\Grow X.K H1 H'/\bo g tc te (br own fr σ3) src.keep (fun ys S2=>∀p,S2 p=none->Q3 (.ref p) (u6 S2 p (.lst ys))) (src.items.drop i) zs S',⟨src.items.length,Nat.zero_add _,[],S1,.nil,vf,.refl,by simpa using h1⟩,?_⟩
 rintro i m ys H' ⟨hm,zs,S',rz,vX,g',hw⟩
 cases hd:src.items.drop i with
 |nil=>
  rw[hd]at hw
  have hi:i=src.items.length:=by
   have:=congrArg List.length hd
   rw[List.length_drop,List.length_nil]at this
   omega
  refine .inl ⟨(sim i S' H' g' vX hw.1).2 hi,by rw[rz.length];exact hw.2.1,fun D hD=>?_⟩
  exact k _ _ _ _ (hw.2.2 D (vX.free hD)) (.ref D) (vX.new hD ⟨_,ak,rz.mono (.new hD)⟩) (g1.trans (g'.trans (.new hD)))
 |cons x rest=>
  rw[hd]at hw
  have hx:src.items[i]?=some x:=by
   have:=congrArg (fun l=>l[0]?) hd
   simpa using this
  have hrest:src.items.drop (i+1)=rest:=by
   have:=congrArg List.tail hd
   simpa [List.tail_drop]using this
  have hlt:i < src.items.length:=by
   by_cases z:i < src.items.length
   ·exact z
   ·rw[List.getElem?_eq_none (by omega)]at hx;cases hx
  obtain⟨go,yl⟩:=(sim i S' H' g' vX hw.1).1 x hx
  refine .inr ⟨go,by rw[rz.length];exact hw.2.1,fun ys' H5=>∃zs' S6,Reps X.K H5 ys' zs'/\u_ X.K H5 S6/\Grow X.K H1 H5/\bo g tc te (br own fr σ3) src.keep (fun ys S2=>∀p,S2 p=none->Q3 (.ref p) (u6 S2 p (.lst ys))) rest zs' S6,?_,fun v H5 hv=>?_⟩
  ·rintro ys' H5 ⟨zs',S6,q1,q2,q3,q4⟩
   exact⟨m - 1,by omega,by omega,zs',S6,q1,q2,q3,by rw[hrest];exact q4⟩
  ·obtain⟨rv,zE,g5⟩:=yl v H5 hv
   obtain⟨_,_,hw⟩:=hw
   split at hw
   ·rename_i σ6 e6
    refine Tg.wF (own:=own) g rv ((nN rσ own fr).mono (g1.trans (g'.trans g5))) e6 fun σ7 yZ d7=>⟨d7 xS,?_⟩
    refine⟨σ6,S',_,yZ,zE,hw,fun b S8 H8 h8 z3 g8=>?_⟩
    cases b with
    |true=>
     rw[if_pos rfl]at h8 ⊢
     exact⟨σ6,S8,_,yZ.mono g8,z3,h8,fun y S9 y' H9 h9 ry As g9=>⟨zs++[y],S9,(rz.mono (g5.trans (g8.trans g9))).append (.cons ry .nil),As,g'.trans (g5.trans (g8.trans g9)),h9⟩⟩
    |false=>
     rw[if_neg (by decide)]at h8 ⊢
     exact⟨zs,S8,rz.mono (g5.trans g8),z3,g'.trans (g5.trans g8),h8⟩
   ·exact hw.elim
def qb(fs:Vs)(own:Nat)(fr:List Nat)(N:Vs)(xS:g.under own=true)(hc:X.calm=true)(hclos:closureFor scope X.env=pure (aU X.env fs))(hcell:∀y∈scope.names,y.2 ≠ .cell)(hkind:scope.kind = .function)
  (hnames:∀x∈scope.names,x.2 = .local->scope.names.lookup x.1=some .local) (hcl:aT X.env fs) (hhas:gc (relabel scope X.env).names (aU X.env fs)=true)
  (hlen:N.length=own+fr.length) (hN:(N.drop own).map some=fr.map fun j=>X.N[j]?) (hF:vj X.env scope (aU X.env fs) (N.drop own))
  (hi:p_ X tg iter ti) (hg:∀B,mz (X.vP N scope fs B) tg g) (hf:∀B,qV (X.vP N scope fs B) ifs tc) (he:∀B,aI (X.vP N scope fs B) elt te)
  (hs:∀x,foldedSetIterable iter X.env x=pure x:=by intro _;rfl):aI X (.ListComp elt [⟨tg,iter,ifs,0⟩] scope pos) (aG ti g tc te own fr):=
 ⟨ay (nb fs own fr N hc hclos hcell hkind hnames hcl hhas hlen hN hF hi.ok (fun B=>(hg B).ok)
  (fun B=>iU (hf B).ok fun σ H Q ⟨σ3,S,Q3,rσ,rS,h,k⟩=>⟨σ3,S,Q3,di,rσ,rS,h,.no,k⟩) (fun B=>ay (he B).ok fun σ H Q ⟨σ3,S,Q3,rσ,rS,h,k⟩=>⟨σ3,S,Q3,di,rσ,rS,h,.no,k⟩) hs) fun _ _ _=>fH xS ⟨0,X.s₀,X.H₀,[],[]⟩⟩
def qc(fs:Vs)(own:Nat)(fr:List Nat)(N:Vs){i:Nat}{y:Str}{py spos:Pos}(hX:X.N.Nodup)(hix:X.N[i]?=some y)(hy:X.env.scope.names.lookup y=some .local)
  (hsw:swapsWith (.ListComp elt [⟨tg,iter,ifs,0⟩] scope pos) (some (.Name y py)) spos.line X.env=pure true)
  (xS:g.under own=true) (hc:X.calm=true) (hclos:closureFor scope X.env=pure (aU X.env fs)) (hcell:∀y∈scope.names,y.2 ≠ .cell) (hkind:scope.kind = .function)
  (hnames:∀x∈scope.names,x.2 = .local->scope.names.lookup x.1=some .local) (hcl:aT X.env fs) (hhas:gc (relabel scope X.env).names (aU X.env fs)=true)
  (hlen:N.length=own+fr.length) (hN:(N.drop own).map some=fr.map fun j=>X.N[j]?) (hF:vj X.env scope (aU X.env fs) (N.drop own))
  (hi:p_ X tg iter ti) (hg:∀B,mz (X.vP N scope fs B) tg g) (hf:∀B,qV (X.vP N scope fs B) ifs tc) (he:∀B,aI (X.vP N scope fs B) elt te)
  (hs:∀x,foldedSetIterable iter X.env x=pure x:=by intro _;rfl):jn X (.Assign [.Name y py] (.ListComp elt [⟨tg,iter,ifs,0⟩] scope pos) spos) (aJ i (aG ti g tc te own fr)):=
 ⟨bp (nc fs own fr N hX hix hy hsw hc hclos hcell hkind hnames hcl hhas hlen hN hF hi.ok (fun B=>(hg B).ok)
  (fun B=>iU (hf B).ok fun σ H Q ⟨σ3,S,Q3,rσ,rS,h,k⟩=>⟨σ3,S,Q3,di,rσ,rS,h,.no,k⟩) (fun B=>ay (he B).ok fun σ H Q ⟨σ3,S,Q3,rσ,rS,h,k⟩=>⟨σ3,S,Q3,di,rσ,rS,h,.no,k⟩) hs)
  fun D σ H ⟨σ3,S,D3,rσ,rS,h,xo,n,r,bk,ct⟩=>fH xS ⟨0,X.s₀,X.H₀,[],[]⟩ ⟨σ3,S,_,D3.ex,rσ,rS,h,xo,fun p S1 v H1 h1 rv vf g1=>n _ S1 _ H1 h1 ((rσ.mono g1).set rv i) vf g1⟩⟩
end
abbrev aH:=List PV->aj->bP->cr->Prop
noncomputable def sy(K:Vo)(n:Nat)(sp:aH):Sp:=fun vs H Q _=>vs.length=n/\∃ps S Q3 E3,Reps K H vs ps/\u_ K H S/\sp ps S Q3 E3/\xB K H Q3 Q
structure x8 (P:Program) (w:World) (K:Vo) (mg:Vr) (base:Heap) (k:Nat) (f:Addr) (fd:FuncData) (ps:Vs) (sp:aH):Prop where
 ok:eZ P w K mg base oG k f fd ps (sy K ps.length sp)
section
variable {X:Cx} {e o:Expr} {es:List Expr} {te to:ax} {ts:List ax} {x:Str} {p pos apos cpos:Pos} {k:Nat} {f:Addr} {fd:FuncData} {ps:Vs} {sp:aH}
def ad(sp:aH)(ts:List ax):ax:=fun σ S Q E=>au ts σ S (fun ps S1=>sp ps S1 Q E) E
def qd(F:x8 X.prog X.w X.K X.mg X.base k f fd ps sp)(hr:Room k X.A)(hg:Gl X x)(hm:X.mg x=some (.ref f))(hk:PySem.W.keepIn X.K (.ref f)=true)(hb:Binds X.K fd ps [])(he:starEach (e::es) X.env=(false,eval e X.env)::starEach es X.env)(ha:iA X (e::es) ts)
  (hl:ts.length=ps.length:=by rfl) (hdb:(x == ("__debug__":Str))=false:=by decide) (hpl:(backTo pos (starEach es X.env)).any (·.1)=false:=by rfl):aI X (.Call (.Name x p) (e::es) [] pos) (ad sp ts):=
 ⟨ay (mS F.ok hr hg hm hk hb .nil oH ha.ok hdb he hpl) fun σ H Q ⟨σ3,S,Q3,E3,rσ,rS,h,xo,k⟩=>bd rσ rS h xo fun ps' S' vs H' hl' q rv vX g=>by
  rw[List.append_nil]
  exact⟨by rw[rv.length,hl',hl],ps',S',Q3,E3,rv,vX,q,k.mono g⟩⟩
def nO(F:x8 X.prog X.w X.K X.mg X.base k f fd [] sp)(hr:Room k X.A)(hg:Gl X x)(hm:X.mg x=some (.ref f))(hk:PySem.W.keepIn X.K (.ref f)=true)(hb:Binds X.K fd [] [])
  (hdb:(x == ("__debug__":Str))=false:=by decide):aI X (.Call (.Name x p) [] [] pos) (ad sp []):=
 ⟨ay (kQ F.ok hr hg hm hk hb .nil oH hdb) fun σ H Q ⟨σ3,S,Q3,E3,rσ,rS,h,xo,k⟩=>⟨rfl,[],S,Q3,E3,.nil,rS,h,k⟩⟩
end
noncomputable def az(n:Nat)(args:List PV):aZ:=args.map some++List.replicate (n - args.length) none
def bu(n:Nat)(t:a_):aH:=fun args S Q _=>t { nx:=fun _ S'=>Q .non S',rt:=Q,ex:=di } (az n args) S
def j8{K:Vo}{H:Hp}{N:Vs}{vs:List V}{ps:List PV}(r:Reps K H vs ps):vb K H (L2.bT N vs) (az N.length ps):=by
 refine⟨by unfold L2.bT az;simp[r.length],fun i p e=>?_⟩
 unfold az at e
 unfold L2.bT
 by_cases hi:i < ps.length
 ·rw[List.getElem?_append_left (by simpa using hi),List.getElem?_map]at e
  cases hp:ps[i]? with
  |none=>rw[hp]at e;cases e
  |some q=>
   rw[hp]at e
   cases e
   obtain⟨v,hv,rv⟩:=r.get hp
   rw[List.getElem?_append_left (by rw[List.length_map,r.length];exact hi),List.getElem?_map,hv]
   exact⟨v,rfl,rv⟩
 ·rw[List.getElem?_append_right (by simpa using hi),List.getElem?_replicate]at e
  split at e
  ·cases e
  ·cases e
section
variable {P:Program} {w:World} {K:Vo} {mg:Vr} {base:Heap}
noncomputable abbrev uc(P:Program)(w:World)(K:Vo)(mg:Vr)(base:Heap)(N:Vs)(qual:Str)(st:Stmt)(f:Addr)(cdv:Value)(A:Around)(outer:List Env)(s:Shared)(H:Hp)(E:XK):Cx:=(iG oG P w K mg base N qual (ar st) f cdv A outer s H E).yD
def uC{x qual:Str}{st:Stmt}{f:Addr}{fd:FuncData}{N ps:Vs}{k:Nat}{t:a_}(F:xZ K x qual st f fd)(S:b_ N ps (ar st))
  (hbody:∀(cdv:Value) (A:Around) (outer:List Env) (s:Shared) (H:Hp) (E:XK),Room k (A.deeper (PyProof.Rows.envOfC qual (ar st) s.heap.objs.size f cdv))->ef (uc P w K mg base N qual st f cdv A outer s H E) (aQ st) t) :
  x8 P w K mg base (k+1) f fd ps (bu N.length t):=
 ⟨F.ok S (fun vs H Q E h=>h.1) fun cdv A outer s H vs Q E hr ⟨hl,ps',S',Q3,E3,rv,rS,q,kk⟩=>⟨_,(hbody cdv A outer s H E hr).ok,az N.length ps',S',_,j8 rv,rS,q,.no,fun σ3 S2 σ2 H2 h2 _ wy g2=>kk _ S2 _ H2 h2 .non wy g2,kk,fun _ _ _ _ h2=>h2.elim,fun _ _ _ _ h2=>h2.elim⟩⟩
end
section
variable {X:Cx} {o e f:Expr} {to te tf:ax} {pos apos cpos:Pos}
noncomputable def dj:List (ax×ax)->aZ->aj->(List (PV×PV)->aj->Prop)->cr->Prop
 |[],_,S,Q,_=>Q [] S
 |(tk,tv)::r,σ,S,Q,E=>tk σ S (fun x S1=>tv σ S1 (fun y S2=>dj r σ S2 (fun ps S3=>Q ((x,y)::ps) S3) E) E) E
noncomputable def hV:List (PV×PV)->Option (List (aC×PV))
 |[]=>some []
 |(x,y)::r=>match gj x,hV r with|some k,some l=>some ((k,y)::l)|_,_=>none
noncomputable def gu(kvs more:List (aC×PV)):List (aC×PV):=more.foldl (fun acc kv=>gm acc kv.1 kv.2) kvs
structure tt (X:Cx) (pos:Pos) (keys:List (Option Expr)) (values:List Expr) (wk:List (ax×ax)):Prop where
 ok:rW X pos keys values (wk.map fun t=>(LE X t.1,LE X t.2))
def qe:tt X pos [] [] []:=⟨m7⟩
def gx{k v:Expr}{ks:List (Option Expr)}{vs:List Expr}{tk tv:ax}{wk:List (ax×ax)}(hk:aI X k tk)(hv:aI X v tv)(hr:tt X pos ks vs wk):tt X pos (some k::ks) (v::vs) ((tk,tv)::wk):=⟨k5 hk.ok hv.ok hr.ok⟩
inductive fI (K:Vo) (H:Hp):List (V×V)->List (PV×PV)->Prop
 |nil:fI K H [] []
 |cons {a b:V} {p q:PV} {vs:List (V×V)} {ps:List (PV×PV)}:Rep K H a p->Rep K H b q->fI K H vs ps->fI K H ((a,b)::vs) ((p,q)::ps)
theorem eF:∀{wk:List (ax×ax)} {σ:L2.St} {H:Hp} {Q:List (V×V)->Hp->Prop} {σ3:aZ} {S:aj} {Q3:List (PV×PV)->aj->Prop} {E3:cr},vb X.K H σ σ3->u_ X.K H S->dj wk σ3 S Q3 E3->xA X H E3->
  (∀ps S' vs H',ps.length=wk.length->Q3 ps S'->fI X.K H' vs ps->u_ X.K H' S'->Grow X.K H H'->Q vs H')->f8 (wk.map fun t=>(LE X t.1,LE X t.2)) σ H Q
 |[],σ,H,Q,σ3,S,Q3,E3,rσ,rS,h,xo,k=>k [] S [] H rfl h .nil rS .refl
 |(tk,tv)::ts,σ,H,Q,σ3,S,Q3,E3,rσ,rS,h,xo,k=>
  ⟨σ3,S,_,E3,rσ,rS,h,xo,fun p S1 v H1 h1 rv vf g1=>⟨σ3,S1,_,E3,rσ.mono g1,vf,h1,xo.mono g1,fun p2 S2 v2 H2 h2 At wy g2=>eF (rσ.mono (g1.trans g2)) wy h2 (xo.mono (g1.trans g2)) fun ps S3 vs H3 hl h3 zB yn g3=>
   k ((p,p2)::ps) S3 ((v,v2)::vs) H3 (by rw[List.length_cons,List.length_cons,hl]) h3 (.cons (rv.mono (g2.trans g3)) (At.mono g3) zB) yn (g1.trans (g2.trans g3))⟩⟩
theorem fJ{K:Vo}{H:Hp}:∀{vs:List (V×V)} {ps:List (PV×PV)} {l:List (aC×PV)},fI K H vs ps->hV ps=some l->∃kvs:List (aC×V),vs=kvs.map (fun kv=>(kV kv.1,kv.2))/\ve K H kvs l
 |_,_,_,.nil,h=>by cases h;exact⟨[],rfl,.nil⟩
 |_,_,l,.cons a b r,h=>by
  unfold hV at h
  split at h
  ·rename_i k l' ek el
   cases h
   obtain⟨kvs,e,q⟩:=fJ r el
   refine⟨(k,_)::kvs,?_,.cons b q⟩
   rw[List.map_cons,<-e,bE a ek]
  ·cases h
def ve.merge{K:Vo}{H:Hp}{more:List (aC×V)}{m3:List (aC×PV)}(r:ve K H more m3):∀{kvs:List (aC×V)} {k3:List (aC×PV)},ve K H kvs k3->ve K H (dc kvs more) (gu k3 m3):=by
 induction r with
 |nil=>intro kvs k3 q;exact q
 |cons a r ih=>intro kvs k3 q;exact ih (q.put a)
def hW(wk:List (ax×ax)):ax:=fun σ S Q E=>∀p,S p=none->dj wk σ (u6 S p (.dct [])) (fun ps S2=>S2 p=some (.dct [])/\match hV ps with|some kvs=>Q (.ref p) (u6 S2 p (.dct (gu [] kvs)))|none=>False) E
def qf{keys:List (Option Expr)}{values:List Expr}{wk:List (ax×ax)}(h:tt X pos keys values wk)(hall:keys.all (·.isSome)=true:=by rfl)(hl:keys.length=values.length:=by rfl)(h0:keys≠[]:=by exact List.cons_ne_nil _ _)(zp:keys.length<=15:=by decide)
  (ht:wk.length<=15:=by exact Nat.le_of_ble_eq_true rfl):aI X (.Dict keys values pos) (hW wk):=
 ⟨ay (m8 h.ok hall hl h0 zp) fun σ H Q ⟨σ3,S,Q3,E3,rσ,rS,hq,xo,k⟩=>fun p hp=>by
  have g0:Grow X.K H (upd H p (.dK [])):=.new hp
  refine eF (rσ.mono g0) (rS.new hp (o:=.dct []) ⟨[],ak,.nil⟩) (hq p (rS.free hp)) (xo.mono g0) fun ps S' vs H' hl' q rv vX g=>?_
  obtain⟨e,q⟩:=q
  obtain⟨kv,hv,rk⟩:=vX _ _ e
  cases rk
  refine⟨hv,?_⟩
  split at q
  ·rename_i kvs ek
   obtain⟨l,el,rl⟩:=fJ rv ek
   refine⟨l,el,?_,k _ _ _ _ q (.ref p) (vX.put hv trivial ⟨_,ak,(ve.merge rl .nil).mono (.mut hv trivial)⟩) (g0.trans (g.trans (.mut hv trivial)))⟩
   have z1:∀{vs:List (V×V)} {ps:List (PV×PV)},fI X.K H' vs ps->vs.length=ps.length:=by
    intro vs ps r
    induction r with
    |nil=>rfl
    |cons _ _ _ ih=>rw[List.length_cons,List.length_cons,ih]
   have z2:=congrArg List.length el
   rw[List.length_map,z1 rv,hl']at z2
   omega
  ·exact q.elim⟩
def jv(kvs:List (aC×Int))(te tf:ax):ax:=fun σ S Q E=>te σ S (fun y S2=>tf σ S2 (fun z S3=>match gj y with|some k=>Q (((kvs.find? fun kv=>decide (kv.1=k)).map fun kv=>PV.int kv.2).getD z) S3|none=>False) E) E
def qg{x:Str}{px:Pos}{a:Addr}{kvs:List (aC×Int)}(hu:X.A.units+1 < cLine)(hg:Gl X x)(hm:X.mg x=some (.ref a))(hD:KD X.prog X.w X.K a (kvs.map fun kv=>(kv.1,V.int kv.2)))(he:aI X e te)(hf:aI X f tf)(m:M2 X (.Name x px) "get" apos e f cpos)
  (hd:(x == ("__debug__":Str))=false:=by decide):aI X (.Call (.Attribute (.Name x px) "get" apos) [e,f] [] cpos) (jv kvs te tf):=
 ⟨ay (nh hu hg hm hD he.ok hf.ok m hd) fun σ H Q ⟨σ3,S,Q3,E3,rσ,rS,h,xo,k⟩=>⟨σ3,S,_,E3,rσ,rS,h,xo,fun y S2 y' H2 h2 ry wy g2=>⟨σ3,S2,_,E3,rσ.mono g2,wy,h2,xo.mono g2,fun z S3 z' H3 h3 rz yn g3=>by
  dsimp only at h3
  split at h3
  ·rename_i k' ek
   have e1:=bE (ry.mono g3) ek
   subst e1
   refine⟨_,rfl,k _ S3 _ H3 h3 ?_ yn (g2.trans g3)⟩
   have:∀l:List (aC×Int),Rep X.K H3 ((cq (l.map fun kv=>(kv.1,V.int kv.2)) k').getD z') (((l.find? fun kv=>decide (kv.1=k')).map fun kv=>PV.int kv.2).getD z):=by
    intro l
    induction l with
    |nil=>exact rz
    |cons q r ih=>
     rw[List.map_cons,List.find?_cons]
     by_cases e:q.1=k'
     ·rw[vA e,decide_eq_true e];exact .int _
     ·rw[vB e,decide_eq_false e];exact ih
   exact this kvs
  ·exact h3.elim⟩⟩⟩
def hZ(te:ax):ax:=fun σ S Q E=>te σ S (fun x S1=>match x with
 | .ref a=>(match S1 a with|some (.lst xs)=>∀p,S1 p=none->Q (.ref p) (u6 S1 p (.lst xs.reverse))|_=>False)
 |_=>False) E
def qh{p1 p2 q1 q2:Pos}(hs:starEach [e] X.env=[(false,eval e X.env)])(hc:X.calm=true)(he:aI X e te)(yX:Gl X "list")(hm1:X.mg "list" = none)(ym:Gl X "reversed")(hm2:X.mg "reversed" = none):aI X (.Call (.Name "list" p1) [.Call (.Name "reversed" p2) [e] [] q2] [] q1) (hZ te):=
 ⟨ay (iM hc he.ok yX hm1 ym hm2 hs rfl) fun σ H Q ⟨σ3,S,Q3,E3,rσ,rS,h,xo,k⟩=>⟨σ3,S,_,E3,rσ,rS,h,xo,fun x S1 v H1 h1 rx vf g1=>by
  dsimp only at h1
  split at h1
  ·cases rx
   split at h1
   ·rename_i ea
    obtain⟨vs,hv,rs⟩:=vf _ _ ea
    exact⟨_,_,rfl,SqL.of hv,fun q hq=>k _ _ _ _ (h1 q (vf.free hq)) (.ref q) (vf.new hq ⟨_,ak,rs.reverse.mono (.new hq)⟩) (g1.trans (.new hq))⟩
   ·exact h1.elim
  ·exact h1.elim⟩⟩
end
def bg:R3:=cM fun i j=>.int (i - j)
def dk:R3:=cm (fun _ j=>j≠0) fun i j=>.int (i.fmod j)
def eG:R3:=cm gZ fun i j=>.int (i.fdiv j)
def lR:R3:=cm pg fun i j=>.int (i ^ j.toNat)
def nP:R3:=cM fun i j=>.bl (decide (i < j))
def nQ:R3:=cM fun i j=>.bl (decide (j < i))
def sA:R3:=cM fun i j=>.bl (decide (j<=i))
section
variable {X:Cx}
def bZ:dG X (binaryOp .Sub) bg:=pY
def cR:dG X (binaryOp .Mod) dk:=pZ
def iV:dG X (binaryOp .FloorDiv) eG:=nu
def sB:dG X (binaryOp .Pow) lR:=p0
def lS:dG X (compareOp .Lt) nP:=sd
def nR:dG X (compareOp .Gt) nQ:=se
def ud:dG X (compareOp .GtE) sA:=sf
end
def qW{A:Around}{k:Nat}(hr:Room k A):A.units+1 < cLine:=by have:=hr.un;omega
def dI{A:Around}{k:Nat}(hr:Room k A):A.units+150 < cLine:=by have:=hr.un;omega
def lT{A:Around}{k:Nat}(hr:Room k A):A.units+160 < cLine:=by have:=hr.un;omega
structure tu (K:Vo) (mg:Vr) (x:Str) (st:Stmt) (ps:Vs) (f:Addr) (fd:FuncData):Prop where
 F:xZ K x x st f fd
 b:Binds K fd ps []
 k:PySem.W.keepIn K (.ref f)=true
 m:mg x=some (.ref f)
def x8.zero{P:Program}{w:World}{K:Vo}{mg:Vr}{base:Heap}{k:Nat}{f:Addr}{fd:FuncData}{ps:Vs}{sp:aH}(h:sp=fun _ _ _ _=>False):x8 P w K mg base k f fd ps sp:=by
 subst h
 exact⟨⟨fun vs H Q E q=>q.1,fun A outer s H args us vs Q E _ _ _ _ ⟨_,_,_,_,_,_,_,q,_⟩=>q.elim⟩⟩
def ue{K:Vo}{H:Hp}{a:Addr}{ns:Vu}{sp:aH}(hO:m9 H)(hS:SqL K H a (ns.map V.int))(h:sp [.cl (ns.map PV.int)] (fun _=>none) (fun v _=>v = .bl true) di):sy K 1 sp [.ref a] H (fun v _=>v = .bl true) fun _ _ _=>False:=by
 have hr:∀l:List Int,Reps K H (l.map V.int) (l.map PV.int):=by
  intro l
  induction l with
  |nil=>exact .nil
  |cons x r ih=>exact .cons (.int x) ih
 refine⟨rfl,[.cl (ns.map PV.int)],fun _=>none,_,di,.cons (.cl (vs:=ns.map V.int) ?_ (hr ns)) .nil,(fun b o e=>by simp at e),h,fun p S' v H' q rv rS g=>?_⟩
 ·rcases hS with(q|q)|q
  ·rcases hO a with z|⟨o,xs,z⟩
   ·rw[z]at q;cases q
   ·rw[z]at q;cases q
  ·exact .inl q
  ·exact .inr q
 ·subst q
  cases rv
  rfl
end L3
namespace L2
open PySem PySem.Spec PyProof.Rows
section
variable {X:Cx}
end
end L2
namespace HT
open PySem PySem.Spec PyProof.Rows
section
variable {prog:Program} {w:World} {A:Around} {E:Vq} {s:Shared}
end
end HT
namespace L2
open PySem PySem.Spec PyProof.Rows
section
variable {X:Cx} {e st:Expr} {te ts:TE} {p2 pos:Pos}
end
end L2
namespace L3
open PySem L2
section
variable {X:Cx} {e st:Expr} {te ts:ax} {p2 pos:Pos}
noncomputable def b4:List PV->Option (List Int)
 |[]=>some []
 | .int i::r=>(b4 r).map (i::·)
 |_::_=>none
theorem eI:∀ns:List Int,b4 (ns.map PV.int)=some ns
 |[]=>rfl
 |n::ns=>by rw[List.map_cons];unfold b4;rw[eI ns];rfl
theorem dl{K:Vo}{H:Hp}:∀{vs:List V} {ps:List PV} {ns:Vu},Reps K H vs ps->b4 ps=some ns->vs=ns.map V.int
 |_,_,_,.nil,h=>by cases h;rfl
 |_,_,ns,.cons (p:=p) a r,h=>by
  cases p with
  |int b=>
   cases a
   unfold b4 at h
   cases e:b4 _ with
   |none=>rw[e]at h;cases h
   |some l=>rw[e]at h;cases h;rw[dl r e];rfl
  |_=>cases h
end
end L3
namespace L2
open PySem PySem.Spec PyProof.Rows
section
variable {X:Cx}
end
end L2
namespace L3
open PySem L2
section
variable {X:Cx} {a b c:Expr} {ta tb tc:ax} {pos:Pos}
end
end L3
namespace L2
open PySem PySem.Spec PyProof.Rows PySem.AutoSeq1
section
variable {X:Cx}
end
end L2
namespace L3
open PySem L2
section
variable {X:Cx}
end
end L3
namespace C
open PySem L2 L3
noncomputable def k_SIDES_FROM:List (aC×Int):=[(Sum.inr "then",1),(Sum.inr "either",1),(Sum.inr "take",3),(Sum.inr "often",1)]
def b5:a_:=(ah (aJ 3 (aG (aM (bq (v3 0) (lF (v3 1)) (lF (c3 (.int 63))))) (.n 0) cQ (ao eu [(v3 0),(ap bg (c3 (.int 0)) (v3 0))]) 1 []))
  (ah (aJ 4 (ap a6 (c3 (.int 7919)) (v3 1)))
  (ah (eE (aM (v3 3)) (.n 2) (aJ 4 (ap dk (ap a6 (ap ei (v3 4) (c3 (.int 48271))) (ap dk (v3 2) (c3 (.int 2147483629)))) (c3 (.int 2147483647)))))
  (aL (hW [((c3 (.str "seed")),(v3 4)),((c3 (.str "number")),(c3 (.int 0))),((c3 (.str "left")),(hZ (aG (aM (v3 3)) (.n 0) (bi (ap sA (v3 0) (ap lR (c3 (.int 10)) (c3 (.int 18))))) (v3 0) 1 [])))])))))
def b6:a_:=(ah (gq (gY (bi (ap (eX false) (ap aE (v3 0) (c3 (.str "number"))) (c3 (.int 0)))) (bi (ap nQ (ao cv [(ap aE (v3 0) (c3 (.str "left")))]) (c3 (.int 0))))) (iT (fD "list" hG (ap aE (v3 0) (c3 (.str "left"))) []) (v3 0) (c3 (.str "number"))))
  (ah (aJ 2 (ap aE (v3 0) (c3 (.str "number"))))
  (ah (fE (bi (ap nQ (v3 2) (c3 (.int 0)))) (ah (iT (ap eG (v3 2) (v3 1)) (v3 0) (c3 (.str "number")))
  (aL (ap dk (v3 2) (v3 1)))) cx)
  (ah (aJ 3 (ap dk (ap a6 (ap ei (ap aE (v3 0) (c3 (.str "seed"))) (c3 (.int 48271))) (c3 (.int 7919))) (c3 (.int 2147483647))))
  (ah (iT (ap dk (ap a6 (ap ei (v3 3) (c3 (.int 40692))) (c3 (.int 104729))) (c3 (.int 2147483399))) (v3 0) (c3 (.str "seed")))
  (ah (aJ 4 (ap dk (ap ei (ap aE (v3 0) (c3 (.str "seed"))) (ap aE (v3 0) (c3 (.str "seed")))) (c3 (.int 2147483563))))
  (aL (ap dk (ap a6 (ap ei (ap dk (ap ei (v3 3) (v3 3)) (c3 (.int 2147483629))) (c3 (.int 2147483563))) (v3 4)) (v3 1)))))))))
def cy:a_:=(ah (j5 2 3 (ao eu [(v3 0),(ap bg (c3 (.int 0)) (v3 0))]) (v3 1))
  (ah (gq (bi (ap nQ (v3 3) (c3 (.int 0)))) (j5 2 3 (v3 3) (ap dk (v3 2) (v3 3))))
  (aL (ba [(ap eG (v3 0) (v3 2)),(ap eG (v3 1) (v3 2))]))))
def cz:a_:=(aL (bq (v3 0) (lF (jv C.k_SIDES_FROM (ap aE (v3 0) (c3 (.int 0))) (ao cv [(v3 0)]))) nB))
def cA(vS s0:aH):a_:=(ah (aJ 1 (ci [(v3 0)]))
  (ah (eE (aM (ad vS [(v3 0)])) (.n 2) (bA (fD "list" bn (v3 1) [(ad s0 [(v3 2)])])))
  (aL (v3 1))))
def gy(vT:aH):a_:=(aL (ao cv [(ad vT [(v3 0)])]))
end C
namespace L3
open PySem L2
theorem h_:∀{a b:List Char},a.map Char.toNat=b.map Char.toNat->a=b
 |[],[],_=>rfl
 |[],_::_,h=>by simp at h
 |_::_,[],h=>by simp at h
 |x::a,y::b,h=>by
  simp only[List.map_cons,List.cons.injEq]at h
  rw[h_ h.2,Char.toNat_inj.mp h.1]
def aW{a b:String}:(Str.ofString a=Str.ofString b)↔a=b:=by
 refine⟨fun h=>?_,fun h=>by rw[h]⟩
 rw[Str.ofString_eq_toList,Str.ofString_eq_toList]at h
 have h':a.toList.map Char.toNat=b.toList.map Char.toNat:=by
  have:=congrArg (fun s:Str=>s.cps.toList) h
  simpa using this
 exact String.toList_inj.mp (h_ h')
def sS{a b:String}:((Sum.inr (Str.ofString a):aC)=Sum.inr (Str.ofString b))↔a=b:=by
 rw[Sum.inr.injEq,aW]
def sC{i j:Int}(h1:-(2 ^ 64) < i)(h2:i < 2 ^ 64):IntMulOk i j:=(show xQ i j from .inl ⟨h1,h2⟩).ok
def nS{i j:Int}(h1:-(2 ^ 64) < j)(h2:j < 2 ^ 64):IntMulOk i j:=(show xQ i j from .inr ⟨h1,h2⟩).ok
def eJ{i j:Int}(h:0<=j):i.fmod j=i % j:=Int.fmod_eq_emod_of_nonneg i h
def sD{i j:Int}(h:0<=j):i.fdiv j=i / j:=Int.fdiv_eq_ediv_of_nonneg i h
def uf{i j:Int}(h:0 < j)(h2:j < 2 ^ 64):gZ i j:=⟨by omega,Nat.lt_trans (show j.natAbs < 2 ^ 64 by omega) (Nat.pow_lt_pow_right (by decide) (by decide))⟩
def vZ(d l:Addr)(S S':aj):Prop:=∀a o,S a=some o->a≠d->a≠l->S' a=some o
def vZ.refl{d l:Addr}{S:aj}:vZ d l S S:=fun _ _ h _ _=>h
def vZ.trans{d l:Addr}{S S1 S2:aj}(a:vZ d l S S1)(b:vZ d l S1 S2):vZ d l S S2:=fun x o h h1 h2=>b x o (a x o h h1 h2) h1 h2
def vZ.upd{d l:Addr}{S:aj}{o:SO}:vZ d l S (u6 S d o):=fun x u h h1 h2=>by rw[ac h1];exact h
def vZ.Au{d l:Addr}{S:aj}{o:SO}:vZ d l S (u6 S l o):=fun x u h h1 h2=>by rw[ac h2];exact h
def vZ.new{d l p:Addr}{S:aj}{o:SO}(h:S p=none):vZ d l S (u6 S p o):=fun x u hx h1 h2=>by rw[ac (fun e=>by rw[e,h]at hx;cases hx)];exact hx
end L3
local macro_rules | `(tactic| walk_at "x")=>`(tactic| ((try dsimp only [L3.ah,L3.aJ,L3.aL,L3.bA,L3.fE,L3.cx,L3.ap,L3.v3,L3.c3,L3.lk,L3.au,L3.ao,L3.ad,L3.fD,L3.bi,L3.gY,L3.nq,L3.j0,L3.iT,L3.j5,L3.ba,L3.ci,L3.qT,L3.j1,L3.aE,L3.gj,L3.bq,L3.nB,L3.lF,L3.g6,L3.cM,L3.cm,L3.bg,L3.dk,L3.eG,L3.lR,L3.nP,L3.nQ,L3.sA,L3.eX,L3.a6,L3.ei,L3.cv,L3.eu,List.set_cons_zero,List.set_cons_succ,List.set_nil,L3.lL,L3.dh,L3.hG,L3.aG,L3.aM,L3.bB,L3.eE,L3.br,L3.Tg.put,L3.Tg.vC,L3.j6,L3.hW,L3.dj,L3.hZ,L3.eC,L3.bb,L3.bn,List.reduceReplicate,List.map_cons,List.map_nil,List.cons_append,List.nil_append]); (try simp only [L3.ah,L3.aJ,L3.aL,L3.bA,L3.fE,L3.cx,L3.ap,L3.v3,L3.c3,L3.lk,L3.au,L3.ao,L3.ad,L3.fD,L3.bi,L3.gY,L3.nq,L3.j0,L3.iT,L3.j5,L3.ba,L3.ci,L3.qT,L3.j1,L3.aE,L3.gj,L3.bq,L3.nB,L3.lF,L3.g6,L3.cM,L3.cm,L3.bg,L3.dk,L3.eG,L3.lR,L3.nP,L3.nQ,L3.sA,L3.eX,L3.a6,L3.ei,L3.cv,L3.eu,List.set_cons_zero,List.set_cons_succ,List.set_nil,L3.lL,L3.dh,L3.hG,L3.aG,L3.aM,L3.bB,L3.eE,L3.br,L3.Tg.put,L3.Tg.vC,L3.j6,L3.hW,L3.dj,L3.hZ,L3.eC,L3.bb,L3.bn,List.reduceReplicate,List.map_cons,List.map_nil,List.cons_append,List.nil_append])))
namespace C
open PySem L2 L3
noncomputable def aO(seed number:Int)(l:Addr):List (aC×PV):=[(Sum.inr "seed",.int seed),(Sum.inr "number",.int number),(Sum.inr "left",.ref l)]
structure v7 (S:aj) (d l:Addr) (seed number:Int) (left:Vu):Prop where
 d:S d=some (.dct (aO seed number l))
 l:S l=some (.lst (left.map PV.int))
 s0:0<=seed
 s1:seed < 2147483647
 nm:0<=number
 lf:∀x∈left,0<=x
 ln:left.length<=100
def vm(S:aj)(d l:Addr):Prop:=∃seed number left,v7 S d l seed number left
def v7.ne{S:aj}{d l:Addr}{seed number:Int}{left:Vu}(D:v7 S d l seed number left):d≠l:=fun e=>by
 have h:=D.d
 rw[e,D.l]at h
 cases h
def vm.new{S:aj}{d l p:Addr}{o:SO}(D:vm S d l)(h:S p=none):vm (u6 S p o) d l:=by
 obtain⟨s,n,f,D⟩:=D
 refine⟨s,n,f,?_,?_,D.s0,D.s1,D.nm,D.lf,D.ln⟩
 ·rw[ac (fun e=>by have:=D.d;rw[e,h]at this;cases this)];exact D.d
 ·rw[ac (fun e=>by have:=D.l;rw[e,h]at this;cases this)];exact D.l
def vm.free{S:aj}{d l p:Addr}(D:vm S d l)(h:S p=none):p≠d/\p≠l:=by
 obtain⟨s,n,f,D⟩:=D
 exact⟨(fun e=>by have:=D.d;rw[<-e,h]at this;cases this),(fun e=>by have:=D.l;rw[<-e,h]at this;cases this)⟩
def eK(s n m:Int)(l:Addr):gm (aO s n l) (Sum.inr "number") (.int m)=aO s m l:=by
 simp[gm,aO,sS,aW]
def lU(s n m:Int)(l:Addr):gm (aO s n l) (Sum.inr "seed") (.int m)=aO m n l:=by
 simp[gm,aO,sS,aW]
def qi(s n:Int)(l:Addr):fe (aO s n l) (Sum.inr "seed")=some (.int s):=by simp[fe,aO,sS,aW]
def lV(s n:Int)(l:Addr):fe (aO s n l) (Sum.inr "number")=some (.int n):=by simp[fe,aO,sS,aW]
def qj(s n:Int)(l:Addr):fe (aO s n l) (Sum.inr "left")=some (.ref l):=by simp[fe,aO,sS,aW]
abbrev bh(w:aH):Prop:=∀{S:aj} {d l:Addr} {m:Int} {Q:bP} {E:cr},vm S d l->0 < m->m < 2 ^ 62->(∀r S',0<=r->r < m->vm S' d l->vZ d l S S'->Q (.int r) S')->w [.ref d,.int m] S Q E
def u8:bh (bu 5 b6):=by
  intro S d l m Q E D h0 h1 k
  obtain⟨seed,number,left,D⟩:=D
  have hne:=D.ne
  have hsz:∀a b,(aO a b l).length < sizeLine:=fun _ _=>bc (by show 3<=1000;decide)
  have fin:∀num xl S1,v7 S1 d l seed num xl->vZ d l S S1->¬(num=0/\0 < xl.length)->
      (if 0 < num then gZ num m/\(aO seed num l).length < sizeLine/\m≠0/\Q (PV.int (num.fmod m)) (u6 S1 d (SO.dct (aO seed (num.fdiv m) l)))
       else IntMulOk seed 48271/\(2147483647:Int)≠0/\IntMulOk ((seed * 48271+7919).fmod 2147483647) 40692/\(2147483399:Int)≠0/\(aO seed num l).length < sizeLine/\
        IntMulOk (((seed * 48271+7919).fmod 2147483647 * 40692+104729).fmod 2147483399) (((seed * 48271+7919).fmod 2147483647 * 40692+104729).fmod 2147483399)/\(2147483563:Int)≠0/\
        IntMulOk ((seed * 48271+7919).fmod 2147483647) ((seed * 48271+7919).fmod 2147483647)/\(2147483629:Int)≠0/\
        IntMulOk (((seed * 48271+7919).fmod 2147483647 * (seed * 48271+7919).fmod 2147483647).fmod 2147483629) 2147483563/\m≠0/\
        Q (PV.int ((((seed * 48271+7919).fmod 2147483647 * (seed * 48271+7919).fmod 2147483647).fmod 2147483629 * 2147483563+((((seed * 48271+7919).fmod 2147483647 * 40692+104729).fmod 2147483399) * (((seed * 48271+7919).fmod 2147483647 * 40692+104729).fmod 2147483399)).fmod 2147483563).fmod m))
          (u6 S1 d (SO.dct (aO (((seed * 48271+7919).fmod 2147483647 * 40692+104729).fmod 2147483399) num l)))):=by
    intro num xl S1 D1 O1 hz
    split
    . rename_i hp
      rw[eJ (Int.le_of_lt h0),sD (Int.le_of_lt h0)]
      refine⟨uf h0 (by omega),hsz _ _,by omega,k _ _ (Int.emod_nonneg _ (by omega)) (Int.emod_lt_of_pos _ h0) ⟨seed,num / m,xl,aa,by rw[ac hne.symm];exact D1.l,D1.s0,D1.s1,Int.ediv_nonneg D1.nm (Int.le_of_lt h0),D1.lf,D1.ln⟩ (O1.trans .upd)⟩
    . have e1:∀x:Int,x.fmod 2147483647=x % 2147483647:=fun x=>eJ (by decide)
      have e2:∀x:Int,x.fmod 2147483399=x % 2147483399:=fun x=>eJ (by decide)
      simp only[e1,e2,eJ (Int.le_of_lt h0)]
      have p1:=D1.s0
      have p2:=D1.s1
      refine⟨nS (by decide) (by decide),by decide,nS (by decide) (by decide),by decide,hsz _ _,sC (by omega) (by omega),by decide,sC (by omega) (by omega),by decide,nS (by decide) (by decide),by omega,
        k _ _ (Int.emod_nonneg _ (by omega)) (Int.emod_lt_of_pos _ h0) ⟨_,num,xl,aa,by rw[ac hne.symm];exact D1.l,by omega,by omega,D1.nm,D1.lf,D1.ln⟩ (O1.trans .upd)⟩
  unfold bu b6
  rw[show az 5 [PV.ref d,PV.int m]=[some (.ref d),some (.int m),none,none,none] from rfl]
  simp only[ah]
  refine⟨fun n σ S'=>σ=[some (.ref d),some (.int m),none,none,none]/\∃number left,v7 S' d l seed number left/\left.length=n/\vZ d l S S',⟨_,rfl,number,left,D,rfl,.refl⟩,?_⟩
  rintro n σ S1 ⟨rfl,num,xl,D1,hn,O1⟩
  walk_at "x"
  simp only[D1.d,D1.l,lV,qj,qi,lU,eK,aa,Bool.false_bne,decide_eq_true_eq]
  have hlen:(List.map PV.int xl).length=xl.length:=List.length_map ..
  rw[hlen]
  split
  . rename_i hz
    subst hz
    split
    . rename_i hl
      refine⟨fun σ S'=>σ=[some (.ref d),some (.int m),none,none,none]/\∃number left,v7 S' d l seed number left/\left.length < n/\vZ d l S S',?_,?_⟩
      . rintro σ' S' ⟨rfl,a,b,h2,h3,h4⟩
        exact⟨_,h3,rfl,a,b,h2,rfl,h4⟩
      . have hl':0 < xl.length:=by omega
        obtain⟨pre,x,rfl⟩:∃pre x,xl=pre++[x]:=by
          refine⟨xl.dropLast,xl.getLast (by intro e;rw[e]at hl';simp at hl'),(List.dropLast_concat_getLast _).symm⟩
        refine⟨trivial,?_⟩
        rw[show(List.map PV.int (pre++[x]))[(pre++[x]).length - 1]?=some (.int x) by simp,show(List.map PV.int (pre++[x])).dropLast=pre.map PV.int by simp]
        simp only[ac hne,D1.d,eK]
        refine⟨hsz _ _,trivial,x,pre,⟨aa,by rw[ac hne.symm,aa],D1.s0,D1.s1,D1.lf x (by simp),fun y hy=>D1.lf y (by simp[hy]),by have:=D1.ln;simp at this;omega⟩,?_,O1.trans (vZ.Au.trans .upd)⟩
        rw[<-hn];simp
    . rename_i hl
      exact fin 0 xl S1 D1 O1 (fun z=>hl (by omega))
  . rename_i hz
    rw[if_neg (by decide)]
    exact fin num xl S1 D1 O1 (fun z=>hz z.1)
end C
namespace L3
open PySem L2
def Ext(S S':aj):Prop:=∀a o,S a=some o->S' a=some o
def Ext.refl{S:aj}:Ext S S:=fun _ _ h=>h
def Ext.trans{S S1 S2:aj}(a:Ext S S1)(b:Ext S1 S2):Ext S S2:=fun x o h=>b x o (a x o h)
def Ext.new{S:aj}{p:Addr}{o:SO}(h:S p=none):Ext S (u6 S p o):=fun x u hx=>by rw[ac (fun e=>by rw[e,h]at hx;cases hx)];exact hx
def Ext.free{S S':aj}(e:Ext S S'){p:Addr}(h:S' p=none):S p=none:=by
 cases q:S p with
 |none=>rfl
 |some o=>rw[e p o q]at h;cases h
theorem bF{g:Tg}{tc:dS}{te:ax}{σ':aZ}{keep:aj->Prop}{fin:List PV->aj->Prop}{S:aj}(f:PV->PV)(c:PV->Bool)(hk:keep S):∀(items ys:List PV),
  (∀x∈items,∃σ2,g.put x σ'=some σ2/\(∀Q:Bool->aj->Prop,Q (c x) S->tc σ2 S Q di)/\(c x=true->∀Q:bP,Q (f x) S->te σ2 S Q di))->ys.length+items.length<=sizeLine->fin (ys++(items.filter c).map f) S->bo g tc te σ' keep fin items ys S
 |[],ys,_,hl,hf=>⟨hk,by simpa using hl,by simpa using hf⟩
 |x::r,ys,h,hl,hf=>by
  obtain⟨σ2,e,h1,h2⟩:=h x (by simp)
  refine⟨hk,by simp at hl;omega,?_⟩
  rw[e]
  refine h1 _ ?_
  cases hc:c x with
  |true=>
   rw[if_pos rfl]
   refine h2 hc _ (bF f c hk r (ys++[f x]) (fun y hy=>h y (by simp[hy])) (by simp at hl ⊢;omega) ?_)
   rw[List.filter_cons,hc,if_pos rfl]at hf
   simpa using hf
  |false=>
   rw[if_neg (by decide)]
   refine bF f c hk r ys (fun y hy=>h y (by simp[hy])) (by simp at hl ⊢;omega) ?_
   rw[List.filter_cons,hc,if_neg (by decide)]at hf
   exact hf
def j9{g:Tg}{te:ax}{σ':aZ}{keep:aj->Prop}{fin:List PV->aj->Prop}{S:aj}(f:PV->PV){items:List PV}(hk:keep S)
  (h:∀x∈items,∃σ2,g.put x σ'=some σ2/\∀Q:bP,Q (f x) S->te σ2 S Q di) (hl:items.length<=sizeLine) (hf:fin (items.map f) S):bo g cQ te σ' keep fin items [] S:=by
 refine bF f (fun _=>true) hk items [] (fun x hx=>?_) (by simpa using hl) (by rw[List.filter_eq_self.mpr (fun _ _=>rfl)];exact hf)
 obtain⟨σ2,e,k⟩:=h x hx
 exact⟨σ2,e,fun Q q=>q,fun _=>k⟩
theorem fK{g:Tg}{tc:dS}{te:ax}{σ':aZ}{keep:aj->Prop}{fin:List PV->aj->Prop}{items:List PV}(Iv:List PV->List PV->aj->Prop)(hk:∀done ys S,Iv done ys S->keep S/\ys.length<=sizeLine)
  (step:∀done x rest ys S (K:List PV->aj->Prop),items=done++x::rest->Iv done ys S->(∀ys' S',Iv (done++[x]) ys' S'->K ys' S')->match g.put x σ' with
   |some σ2=>tc σ2 S (fun b S3=>if b=true then te σ2 S3 (fun y S4=>K (ys++[y]) S4) di else K ys S3) di
   |none=>False)
  (hf:∀ys S,Iv items ys S->fin ys S):∀(rest done ys:List PV) (S:aj),items=done++rest->Iv done ys S->bo g tc te σ' keep fin rest ys S
 |[],done,ys,S,e,h=>by
  rw[List.append_nil]at e
  exact⟨(hk _ _ _ h).1,(hk _ _ _ h).2,hf ys S (e▸h)⟩
 |x::rest,done,ys,S,e,h=>by
  refine⟨(hk _ _ _ h).1,(hk _ _ _ h).2,?_⟩
  exact step done x rest ys S (fun ys' S'=>bo g tc te σ' keep fin rest ys' S') e h fun ys' S' h'=>fK Iv hk step hf rest (done++[x]) ys' S' (by rw[e];simp) h'
theorem ia{g:Tg}{tb:a_}{D:gX}{keep:aj->Prop}{items:List PV}(Iv:List PV->aZ->aj->Prop)(hk:∀done σ S,Iv done σ S->keep S)
  (step:∀done x rest σ S (K:aZ->aj->Prop),items=done++x::rest->Iv done σ S->(∀σ' S',Iv (done++[x]) σ' S'->K σ' S')->match g.put x σ with
   |some σ'=>tb { D with nx:=K,ct:=K,bk:=D.nx } σ' S
   |none=>False)
  (hd:∀σ S,Iv items σ S->D.nx σ S):∀(rest done:List PV) (σ:aZ) (S:aj),items=done++rest->Iv done σ S->hJ g tb D keep rest σ S
 |[],done,σ,S,e,h=>by
  rw[List.append_nil]at e
  exact⟨hk _ _ _ h,hd σ S (e▸h)⟩
 |x::rest,done,σ,S,e,h=>
  ⟨hk _ _ _ h,step done x rest σ S (hJ g tb D keep rest) e h fun σ' S' h'=>ia Iv hk step hd rest (done++[x]) σ' S' (by rw[e];simp) h'⟩
def dY{g:Tg}{tb:a_}{D:gX}{keep:aj->Prop}{items:List PV}{σ:aZ}{S:aj}(Iv:List PV->aZ->aj->Prop)(h0:Iv [] σ S)(hk:∀done σ S,Iv done σ S->keep S)
  (step:∀done x rest σ S (K:aZ->aj->Prop),items=done++x::rest->Iv done σ S->(∀σ' S',Iv (done++[x]) σ' S'->K σ' S')->match g.put x σ with
   |some σ'=>tb { D with nx:=K,ct:=K,bk:=D.nx } σ' S
   |none=>False)
  (hd:∀σ S,Iv items σ S->D.nx σ S):hJ g tb D keep items σ S:=ia Iv hk step hd items [] σ S rfl h0
def eL{g:Tg}{tc:dS}{te:ax}{σ':aZ}{keep:aj->Prop}{fin:List PV->aj->Prop}{items:List PV}{S:aj}(Iv:List PV->List PV->aj->Prop)(h0:Iv [] [] S)(hk:∀done ys S,Iv done ys S->keep S/\ys.length<=sizeLine)
  (step:∀done x rest ys S (K:List PV->aj->Prop),items=done++x::rest->Iv done ys S->(∀ys' S',Iv (done++[x]) ys' S'->K ys' S')->match g.put x σ' with
   |some σ2=>tc σ2 S (fun b S3=>if b=true then te σ2 S3 (fun y S4=>K (ys++[y]) S4) di else K ys S3) di
   |none=>False)
  (hf:∀ys S,Iv items ys S->fin ys S):bo g tc te σ' keep fin items [] S:=fK Iv hk step hf items [] [] S rfl h0
def aN{t u:a_}{D:gX}{σ:aZ}{S:aj}(h:∀N:aZ->aj->Prop,(∀σ S,u D σ S->N σ S)->t { D with nx:=N } σ S):ah t u D σ S:=h (u D) fun _ _ q=>q
def iW{n:Nat}{b:a_}{args:List PV}{S:aj}{Q:bP}{E:cr}(h:b { nx:=fun _ S'=>Q .non S',rt:=Q,ex:=di } (az n args) S):bu n b args S Q E:=h
def lW{α β:Type}(f:α->β)(xs:List α)(lo hi:Option Int):cu (xs.map f) lo hi=(cu xs lo hi).map f:=by
 unfold cu
 rw[List.length_map,List.map_take,List.map_drop]
def lX{α:Type}(xs:List α)(lo hi:Option Int):(cu xs lo hi).length<=xs.length:=by
 unfold cu
 rw[List.length_take,List.length_drop]
 omega
def aK{n:Nat}(h:n<=1000):n<=sizeLine:=Nat.le_of_lt (bc h)
section
variable {α:Type} {a b c d e:α} {l:List α}
def oP:vK (a::l) 0=some a:=by simp[vK,my]
def uD:vK (a::b::l) 1=some b:=fY (j:=1) rfl
def qk:vK [a] (-1)=some a:=rfl
def ql:vK [a,b] (-1)=some b:=rfl
def qm:vK [a,b,c] (-1)=some c:=rfl
def qo:vK [a,b,c,d] (-1)=some d:=rfl
def qp:vK [a,b,c,d,e] (-1)=some e:=rfl
def qq:vK [a,b] (-2)=some a:=rfl
def qr:vK [a,b,c] (-2)=some b:=rfl
def qt:vK [a,b,c,d] (-2)=some c:=rfl
def qu:vK [a,b,c,d,e] (-2)=some d:=rfl
end
def cS(lo:Int)(n:Nat):(aP lo n).length=n:=by simp[aP]
end L3
namespace C
open PySem L2 L3
abbrev ib(w:aH):Prop:=∀{S:aj} {ns:Vu} {b:Int} {Q:bP} {E:cr},ns.length<=63->0<=b->b < 1000->(∀d l S',S d=none->S l=none->vm S' d l->Ext S S'->Q (.ref d) S')->w [.cl (ns.map PV.int),.int b] S Q E
def wG:ib (bu 5 b5):=by
 intro S ns b Q E hn h0 h1 k
 unfold bu b5
 rw[show az 5 [PV.cl (ns.map PV.int),PV.int b]=[some (.cl (ns.map PV.int)),some (.int b),none,none,none] from rfl]
 walk_at "x"
 intro p hp
 rw[aa]
 dsimp only
 rw[lW]
 have hx:(cu ns (some b) (some 63)).length<=63:=Nat.le_trans (lX _ _ _) hn
 generalize cu ns (some b) (some 63)=xs at hx
 refine j9 (fun v=>match v with | .int i=>.int (if 0 - i > i then 0 - i else i)|v=>v) aa (fun x hx=>?_) (aK (by rw[List.length_map];omega)) ?_
 ·obtain⟨i,hi,rfl⟩:=List.mem_map.mp hx
  refine⟨[some (.int i)],rfl,fun Q q=>?_⟩
  walk_at "x"
  exact q
 intro p2 hp2
 rw[aa]
 dsimp only
 rw[List.map_map]
 have e0:(xs.map ((fun v=>match v with | .int i=>.int (if 0 - i > i then 0 - i else i)|v=>v) ∘ PV.int))=(xs.map fun i=>if 0 - i > i then 0 - i else i).map PV.int:=by
  rw[List.map_map];rfl
 rw[e0]
 have hy:((xs.map fun i=>if 0 - i > i then 0 - i else i)).length<=63:=by rw[List.length_map];exact hx
 have y2:∀y∈xs.map (fun i:Int=>if 0 - i > i then 0 - i else i),0<=y:=by
  intro y hy
  obtain⟨i,_,rfl⟩:=List.mem_map.mp hy
  split<;>omega
 generalize (xs.map fun i=>if 0 - i > i then 0 - i else i)=ys at hy y2
 have h2:p2≠p:=fun e=>by rw[e,aa]at hp2;cases hp2
 have hp2':S p2=none:=by rw[<-hp2,ac h2]
 refine dY (fun done σ S'=>S'=u6 (u6 S p (.lst (xs.map PV.int))) p2 (.lst (ys.map PV.int))/\∃v2 n,0<=n/\n < 2147483647/\σ=[some (.cl (ns.map PV.int)),some (.int b),v2,some (.ref p2),some (.int n)]) ⟨rfl,none,7919+b,by omega,by omega,rfl⟩ (fun done σ S' h=>by rw[h.1];exact aa) ?_ ?_
 ·rintro done x rest σ S' K e ⟨rfl,v2,n,n0,n1,rfl⟩ hK
  obtain⟨i,hi,rfl⟩:∃i,i∈ys/\x = .int i:=by
   have:x∈ys.map PV.int:=by rw[e];simp
   obtain⟨i,hi,rfl⟩:=List.mem_map.mp this
   exact⟨i,hi,rfl⟩
  walk_at "x"
  refine⟨nS (by decide) (by decide),by decide,by decide,hK _ _ ⟨rfl,_,_,?_,?_,rfl⟩⟩
  ·rw[eJ (by decide)];omega
  ·rw[eJ (i:=(n * 48271+_)) (by decide)];omega
 ·rintro σ S' ⟨rfl,v2,n,n0,n1,rfl⟩
  walk_at "x"
  intro d hd
  have hd2:d≠p2:=fun e=>by rw[e,aa]at hd;cases hd
  rw[ac hd2]at hd
  have hd1:d≠p:=fun e=>by rw[e,aa]at hd;cases hd
  rw[ac hd1]at hd
  rw[ac hd2.symm,aa]
  dsimp only
  refine bF (fun v=>v) (fun v=>match v with | .int i=>decide (10 ^ 18<=i)|_=>false) (by rw[ac hd2.symm,aa]) _ [] (fun x hx=>?_) (by rw[List.length_map];exact aK (by simp;omega)) ?_
  ·obtain⟨i,hi,rfl⟩:=List.mem_map.mp hx
   refine⟨[some (.int i)],rfl,fun Q q=>?_,fun _ Q q=>?_⟩
   ·walk_at "x"
    exact⟨⟨by decide,by decide,by decide⟩,q⟩
   ·walk_at "x"
    exact q
  intro p3 hp3
  rw[aa]
  intro l hl
  have e3:([]++List.map (fun v:PV=>v) (List.filter (fun v=>match v with | .int i=>decide (10 ^ 18<=i)|_=>false) (List.map PV.int ys)))=(ys.filter fun i=>decide (10 ^ 18<=i)).map PV.int:=by
   rw[List.nil_append,List.map_id',List.filter_map]
   rfl
  rw[e3]at hl ⊢
  rw[<-List.map_reverse]
  generalize y6:u6 (u6 (u6 (u6 S p (SO.lst (List.map PV.int xs))) p2 (SO.lst (List.map PV.int ys))) d (SO.dct [])) p3 (SO.lst (List.map PV.int (List.filter (fun i=>decide (10 ^ 18<=i)) ys)))=S3 at hl ⊢
  have z4:S3 d=some (.dct []):=by rw[<-y6,ac (fun e=>by rw[<-e,aa]at hp3;cases hp3),aa]
  have z5:l≠d:=fun e=>by rw[e,z4]at hl;cases hl
  have zF:Ext S S3:=by
   rw[<-y6]
   refine(Ext.new hp).trans ((Ext.new hp2).trans ((Ext.new ?_).trans (.new hp3)))
   rw[ac hd2,ac hd1];exact hd
  refine⟨by rw[ac z5.symm];exact z4,?_⟩
  have e4:hV [(PV.str "seed",PV.int n),(PV.str "number",PV.int 0),(PV.str "left",PV.ref l)]=some (aO n 0 l):=rfl
  rw[e4]
  have e5:gu [] (aO n 0 l)=aO n 0 l:=by simp[gu,aO,gm,sS,aW]
  dsimp only
  rw[e5]
  refine k d l _ hd (zF.free hl) ⟨n,0,_,aa,by rw[ac z5,aa],n0,n1,Int.le_refl _,fun y hy=>?_,?_⟩ ?_
  ·exact y2 y (List.mem_filter.mp (List.mem_reverse.mp hy)).1
  ·rw[List.length_reverse]
   exact Nat.le_trans (List.length_filter_le _ _) (by omega)
  ·intro a o ha
   have had:a≠d:=fun e=>by rw[e,hd]at ha;cases ha
   rw[ac had,ac (fun e=>by rw[e,zF.free hl]at ha;cases ha)]
   exact zF a o ha
end C
namespace L3
open PySem L2
theorem eM(S:aj):∀zs:List Str,vQ S (zs.map PV.str) (zs.map PyData.str)
 |[]=>.nil
 |z::r=>.cons (.str z) (eM S r)
theorem b7:∀{zs:Vs},(∀z∈zs,PyData.strOk z=true)->PyData.canLayAll0 (zs.map PyData.str)=true
 |[],_=>rfl
 |z::r,h=>by
  show(PyData.canLay0 (.str z)&&PyData.canLayAll0 (r.map PyData.str))=true
  rw[b7 fun y hy=>h y (by simp[hy])]
  have:PyData.canLay0 (.str z)=true:=h z (by simp)
  rw[this];rfl
def eN(z:Str)(zs:Vs):fB (.str z) (zs.map PyData.str)=decide (z∈zs):=by
 unfold fB
 rw[List.any_map,Bool.eq_iff_iff,List.any_eq_true,decide_eq_true_iff]
 constructor
 ·rintro⟨y,hy,e⟩
  have e':(y == z)=true:=e
  exact(eq_of_beq e')▸hy
 ·intro h
  exact⟨z,h,beq_self_eq_true z⟩
def nT{neg:Bool}{z:Str}{zs:Vs}{a:Addr}{S:aj}{Q:bP}(hS:S a=some (.lst (zs.map PV.str)))(hz:PyData.strOk z=true)(hzs:∀y∈zs,PyData.strOk y=true)(q:Q (.bl (neg != decide (z∈zs))) S):ny neg (.str z) (.ref a) S Q:=by
 unfold ny
 simp only[hS]
 exact⟨_,_,.str z,eM S zs,hz,b7 hzs,by show 0<=150;decide,by rw[eN];exact q⟩
def ie{neg:Bool}{z:Str}{zs:Vs}{S:aj}{Q:bP}(hz:PyData.strOk z=true)(hzs:∀y∈zs,PyData.strOk y=true)(q:Q (.bl (neg != decide (z∈zs))) S):ny neg (.str z) (.tup (zs.map PV.str)) S Q:=by
 unfold ny
 exact⟨_,_,.str z,eM S zs,hz,b7 hzs,by show 0<=150;decide,by rw[eN];exact q⟩
end L3
namespace C
open PySem L2 L3 Wd
abbrev gz(w:aH):Prop:=∀{S:aj} {t b:Int} {Q:bP} {E:cr},0 < b->b.natAbs < 2 ^ 8000->Q (.tup [.int (M3.gg t b),.int (M3.gW t b)]) S->w [.int t,.int b] S Q E
def w9:gz (bu 4 cy):=by
 intro S t b Q E hb hs k
 unfold bu cy
 rw[show az 4 [PV.int t,PV.int b]=[some (.int t),some (.int b),none,none] from rfl]
 simp only[ah]
 walk_at "x"
 refine⟨fun n σ S'=>S'=S/\∃x y:Int,σ=[some (.int t),some (.int b),some (.int x),some (.int y)]/\0<=x/\0<=y/\Int.gcd x y=Int.gcd t b/\y.toNat=n,⟨_,rfl,_,b,rfl,by split<;>omega,by omega,?_,rfl⟩,?_⟩
 ·split
  ·rw[show(0 - t) = -t by omega,Int.neg_gcd]
  ·rfl
 rintro n σ S' ⟨rfl,x,y,rfl,hx,hy,hg,rfl⟩
 walk_at "x"
 simp only[decide_eq_true_eq]
 split
 ·rename_i hp
  refine⟨fun σ' z6=>z6=S'/\∃x' y':Int,σ'=[some (.int t),some (.int b),some (.int x'),some (.int y')]/\0<=x'/\0<=y'/\Int.gcd x' y'=Int.gcd t b/\y'.toNat < y.toNat,?_,?_⟩
  ·rintro σ' z6 ⟨rfl,x',y',rfl,h1,h2,h3,h4⟩
   exact⟨_,h4,rfl,x',y',rfl,h1,h2,h3,rfl⟩
  ·walk_at "x"
   have e:x.fmod y=x % y:=eJ hy
   have l1:=Int.emod_nonneg x (b:=y) (by omega)
   have l2:=Int.emod_lt_of_pos x hp
   refine⟨by omega,trivial,y,x.fmod y,rfl,hy,by omega,?_,by omega⟩
   rw[M3.lm];exact hg
 ·rename_i hp
  have y2:y=0:=by omega
  subst y2
  have Av:x=(Int.gcd t b:Int):=by
   rw[<-hg]
   rw[Int.gcd_zero_right]
   omega
  subst Av
  have gp:(0:Int) < (Int.gcd t b:Int):=Int.natCast_pos.mpr (M3.cL (by omega))
  have gl:=M3.pT (t:=t) (b:=b) (by omega)
  have cd:∀z,gZ z (Int.gcd t b:Int):=fun z=>⟨by omega,Nat.lt_of_le_of_lt (by omega) hs⟩
  refine⟨cd _,cd _,?_⟩
  have d1:=(M3.ll (t:=t) (b:=b) (by omega))
  rw[if_neg (by omega)]at d1
  rw[d1.1,d1.2]
  exact k
structure ug (x y:Int):Prop where
 low:M3.uy x y
 x0:0<=x
 x1:x<=999
 y1:y<=9
def j_{n:Nat}(h:n < 2 ^ 64):n < 2 ^ 8000:=Nat.lt_trans h (Nat.pow_lt_pow_right (by decide) (by decide))
def kc{r:Int}(h0:0<=r)(h1:r < 26):∃c,vK abc.cps.toList r=some c/\97<=c/\c<=122:=by
 obtain⟨n,rfl⟩:=Int.eq_ofNat_of_zero_le h0
 have q:=pS n
 rw[Nat.mod_eq_of_lt (by omega)]at q
 exact⟨_,q,by omega,by omega⟩
def lY{z:Str}(h:IsW z):PyData.strOk z=true:=by
 unfold PyData.strOk
 rw[Array.all_eq_true']
 intro c hc
 have:=h.sm c (by simpa using hc)
 simp;omega
def nU:∀z∈wo,PyData.strOk z=true:=by decide +kernel
theorem bC:∀zs:List Str,texts (zs.map PV.str)=some zs
 |[]=>rfl
 |z::r=>by show(texts (r.map PV.str)).map (z::·)=_;rw[bC r];rfl
def ke:("":Str).length=0:=by decide +kernel
def kf{cs:List Nat}(h:cs.length<=1000):((cs.map iz).map (·.length)).sum+(cs.map iz).length * ("":Str).length<=1000000:=by
 rw[nj,ke]
 omega
def iX{w__law_draw:aH}(u8:bh w__law_draw){S:aj}{d l:Addr}{σ:aZ}{n:Int}{fin:List PV->aj->Prop}(D:vm S d l)(hn:n.toNat<=100)(h1:lk σ 1=some (.ref d))(h2:lk σ 2=some (.str abc))(hσ:∃x,σ=[x,some (.ref d),some (.str abc)])
  (k:∀(cs:List Nat) S',cs.length=n.toNat->(∀c∈cs,97<=c/\c<=122)->vm S' d l->vZ d l S S'->fin ((cs.map iz).map PV.str) S') :
  bo (Tg.n 0) cQ (ap aE (v3 2) (ad w__law_draw [v3 1,c3 (.int 26)])) σ (fun _=>True) fin (aP 0 n.toNat) [] S:=by
 obtain⟨x0,rfl⟩:=hσ
 refine eL (fun done ys S'=>∃cs:List Nat,ys=(cs.map iz).map PV.str/\cs.length=done.length/\done.length<=n.toNat/\(∀c∈cs,97<=c/\c<=122)/\vm S' d l/\vZ d l S S') ⟨[],rfl,rfl,Nat.zero_le _,by simp,D,.refl⟩ ?_ ?_ ?_
 ·rintro done ys S' ⟨cs,rfl,e,hd,_⟩
  exact⟨trivial,aK (by rw[List.length_map,List.length_map,e];omega)⟩
 ·rintro done x rest ys S' K e ⟨cs,rfl,e2,hd,hc,D',O'⟩ hK
  have hlen:done.length+1<=n.toNat:=by
   have:=congrArg List.length e
   rw[cS,List.length_append,List.length_cons]at this
   omega
  walk_at "x"
  simp only[cQ,if_true]
  refine u8 D' (by decide) (by decide) fun r S2 r0 r1 D2 O2=>⟨ni.1,?_⟩
  obtain⟨c,ec,c0,c1⟩:=kc r0 r1
  rw[ec]
  refine hK _ _ ⟨cs++[c],by simp,by simp[e2],by simpa using hlen,fun y hy=>?_,D2,O'.trans O2⟩
  rcases List.mem_append.mp hy with hy|hy
  ·exact hc y hy
  ·rw[List.mem_singleton.mp hy];exact⟨c0,c1⟩
 ·rintro ys S' ⟨cs,rfl,e,hd,hc,D',O'⟩
  exact k cs S' (by rw[e,cS]) hc D' O'
inductive Bd where
 |rest|pay (x y:Int)|put (z:Str) (m:Int)|use (z:Str)|wA (a:Bd)|va (a b:Bd)|wH (a b:Bd)|wB (z:Str) (m:Int) (a b:Bd)
noncomputable def Bd.pv:Bd->PV
 | .rest=>.tup [.str "rest"]
 | .pay x y=>.tup [.str "pay",.tup [.int x,.int y]]
 | .put z m=>.tup [.str "put",.str z,.int m]
 | .use z=>.tup [.str "use",.str z]
 | .wA a=>.tup [.str "often",a.pv]
 | .va a b=>.tup [.str "then",a.pv,b.pv]
 | .wH a b=>.tup [.str "either",a.pv,b.pv]
 | .wB z m a b=>.tup [.str "take",.str z,.int m,a.pv,b.pv]
noncomputable def Bd.dep:Bd->Nat
 | .wA a=>a.dep+1
 | .va a b=>max a.dep b.dep+1
 | .wH a b=>max a.dep b.dep+1
 | .wB _ _ a b=>max a.dep b.dep+1
 |_=>1
noncomputable def Bd.size:Bd->Nat
 | .wA a=>a.size+1
 | .va a b=>a.size+b.size+1
 | .wH a b=>a.size+b.size+1
 | .wB _ _ a b=>a.size+b.size+1
 |_=>1
noncomputable def Bd.good(js us:Vs):Bd->Prop
 | .rest=>True
 | .pay x y=>ug x y
 | .put z m=>z∈js/\1<=m/\m<=9
 | .use z=>z∈us
 | .wA a=>a.good js us
 | .va a b=>a.good js us/\b.good js us
 | .wH a b=>a.good js us/\b.good js us
 | .wB z m a b=>z∈js/\1<=m/\m<=9/\a.good js us/\b.good js us
def Bd.wm(t:Bd):1<=t.dep:=by cases t<;>simp[Bd.dep]
theorem Bd.vg:∀t:Bd,t.dep<=t.size
 | .rest=>Nat.le_refl _
 | .pay _ _=>Nat.le_refl _
 | .put _ _=>Nat.le_refl _
 | .use _=>Nat.le_refl _
 | .wA a=>by have:=a.vg;simp only[Bd.dep,Bd.size];omega
 | .va a b=>by have:=a.vg;have:=b.vg;simp only[Bd.dep,Bd.size];omega
 | .wH a b=>by have:=a.vg;have:=b.vg;simp only[Bd.dep,Bd.size];omega
 | .wB _ _ a b=>by have:=a.vg;have:=b.vg;simp only[Bd.dep,Bd.size];omega
def gA{α:Type}{xs:List α}{r:Int}(h0:0<=r)(h1:r < xs.length):∃v,vK xs r=some v/\v∈xs:=by
 obtain⟨n,rfl⟩:=Int.eq_ofNat_of_zero_le h0
 have hn:n < xs.length:=by omega
 exact⟨xs[n],fY (by simp[hn]),List.getElem_mem hn⟩
end C
local macro_rules | `(tactic| walk_at "w")=>`(tactic| simp only [L3.ah,L3.aJ,L3.aL,L3.bA,L3.fE,L3.cx,L3.ap,L3.v3,L3.c3,L3.lk,L3.au,L3.ao,L3.ad,L3.fD,L3.bi,L3.gY,L3.nq,L3.j0,L3.iT,L3.j5,L3.ba,L3.ci,L3.qT,L3.j1,L3.aE,L3.gj,L3.bq,L3.nB,L3.lF,L3.g6,L3.cM,L3.cm,L3.bg,L3.dk,L3.eG,L3.lR,L3.nP,L3.nQ,L3.sA,L3.eX,L3.a6,L3.ei,L3.cv,L3.eu,List.set_cons_zero,List.set_cons_succ,List.set_nil,L3.lL,L3.dh,L3.hG,L3.aG,L3.aM,L3.bB,L3.eE,L3.br,L3.Tg.put,L3.Tg.vC,L3.j6,L3.hW,L3.dj,L3.hZ,L3.eC,L3.bb,L3.bn,List.reduceReplicate,List.map_cons,List.map_nil,List.cons_append,List.nil_append,L3.oP,L3.uD,L3.qk,L3.ql,L3.qm,L3.qo,L3.qp,L3.qq,L3.qr,L3.qt,L3.qu,L3.aW,String.reduceEq,decide_true,decide_false,Bool.false_bne,Bool.true_bne,Bool.not_true,Bool.not_false,if_true,if_false,Bool.false_eq_true,reduceIte,ite_true,ite_false])
local macro_rules | `(tactic| walk_at "y")=>`(tactic| ((try walk_at "x"); (try walk_at "w")))
namespace C
open PySem L2 L3 Wd
structure Sh (S:aj) (v:PV) (d:PyData) (n k:Nat):Prop where
 dat:Dat S v d
 lay:d.canLay0=true
 yo:d.showable=true
 dep:d.depth<=k
 len:d.shown.length<=n
structure w5 (S:aj) (vs:List PV) (ds:List PyData) (n k:Nat):Prop where
 dat:vQ S vs ds
 lay:PyData.canLayAll0 ds=true
 yo:PyData.showableAll ds=true
 dep:PyData.depthAll ds<=k
 len:piled (PyData.shownAll ds)<=n
def Sh.le{S:aj}{v:PV}{d:PyData}{n k m j:Nat}(h:Sh S v d n k)(a:n<=m)(b:k<=j):Sh S v d m j:=⟨h.dat,h.lay,h.yo,Nat.le_trans h.dep b,Nat.le_trans h.len a⟩
def w5.le{S:aj}{v:List PV}{d:List PyData}{n k m j:Nat}(h:w5 S v d n k)(a:n<=m)(b:k<=j):w5 S v d m j:=⟨h.dat,h.lay,h.yo,Nat.le_trans h.dep b,Nat.le_trans h.len a⟩
theorem Sh.str{S:aj}{z:Str}(h:PyData.strOk z=true):Sh S (.str z) (.str z) (10 * z.length+2) 0:=
 ⟨.str z,by simpa [PyData.canLay0]using h,by simp[PyData.showable],by simp[PyData.depth],by
  rw[PyData.shown_str]
  refine StrLaws.reprText_len z fun c hc=>?_
  have h3:=Array.all_eq_true_iff_forall_mem.mp h c (Array.mem_toList_iff.mp hc)
  have h4:c < 0x110000:=by simpa using h3
  have e:(16:Nat) ^ 8=4294967296:=by decide
  omega⟩
theorem w5.nil{S:aj}:w5 S [] [] 0 0:=⟨.nil,by simp[PyData.canLayAll0],by simp[PyData.showableAll],by simp[PyData.depthAll],by simp[PyData.shownAll,piled]⟩
theorem Sh.cons{S:aj}{v:PV}{d:PyData}{n k:Nat}{vs:List PV}{ds:List PyData}{m:Nat}(a:Sh S v d n k)(b:w5 S vs ds m k):w5 S (v::vs) (d::ds) (n+2+m) k:=
 ⟨.cons a.dat b.dat,by simp[PyData.canLayAll0,a.lay,b.lay],by simp[PyData.showableAll,a.yo,b.yo],by simp only[PyData.depthAll];exact Nat.max_le.mpr ⟨a.dep,b.dep⟩,by
  rw[PyData.shownAll_cons,piled_cons]
  have:=a.len
  have:=b.len
  omega⟩
theorem w5.map{α:Type}{S:aj}{n k:Nat}(f:α->PV)(g:α->PyData):∀{xs:List α},(∀x∈xs,Sh S (f x) (g x) n k)->w5 S (xs.map f) (xs.map g) (xs.length * (n+2)) k
 |[],_=>w5.nil.le (Nat.zero_le _) (Nat.zero_le _)
 |x::r,h=>((h x (by simp)).cons (w5.map f g fun y hy=>h y (by simp[hy]))).le (by rw[List.length_cons,Nat.succ_mul];omega) (Nat.le_refl _)
def Sh.dict{S:aj}{v:PV}{d:PyData}{n k:Nat}(h:Sh S v d n k):d.hasDict=false:=PyData.hasDict_of_canLay d h.lay
def qv:(2:Nat) ^ 24<=sizeLine:=by decide
def kg{i:Int}(h:i.natAbs < 2 ^ 64):i.natAbs.log2 < 1920:=by
 by_cases h0:i.natAbs=0
 ·rw[h0];decide
 ·exact(Nat.log2_lt h0).mpr (Nat.lt_trans h (Nat.pow_lt_pow_right (by decide) (by decide)))
def Sh.w{S:aj}{z:Str}(h:IsW z):Sh S (.str z) (.str z) 62 0:=(Sh.str (lY h)).le (by have:=h.len;omega) (Nat.le_refl _)
def w5.zG{S:aj}(k:Nat):w5 S [] [] 0 k:=.le .nil (Nat.le_refl _) (Nat.zero_le _)
end C
namespace C
open PySem L2 L3
end C
namespace C
open PySem L2 L3 Wd
def vm.ext{S S':aj}{d l:Addr}(D:vm S d l)(e:Ext S S'):vm S' d l:=by
 obtain⟨s,n,f,D⟩:=D
 exact⟨s,n,f,e _ _ D.d,e _ _ D.l,D.s0,D.s1,D.nm,D.lf,D.ln⟩
def _root_.L3.Ext.put{p:Addr}{S S':aj}{o:SO}(O:Ext S S')(h:S p=none):Ext S (u6 S' p o):=fun x u hx=>by rw[ac (fun e=>by rw[e,h]at hx;cases hx)];exact O x u hx
def qw{α:Type}{xs:List α}{n:Nat}(h:n<=xs.length):cu xs (some (n:Int)) none=xs.drop n:=by
 unfold cu
 rw[HT.kS,HT.mV,Nat.min_eq_left h,List.take_of_length_le]
 rw[List.length_drop]
 exact Nat.le_refl _
def nV{x:PV}{n:Nat}{a b:List PV}(e:aP 0 n=a++x::b):x = .int a.length/\a.length < n:=by
 have h1:(aP 0 n)[a.length]?=some x:=by rw[e];simp
 unfold aP at h1
 rw[List.getElem?_map]at h1
 have hl:a.length < n:=by
  have:=congrArg List.length e
  rw[cS,List.length_append,List.length_cons]at this
  omega
 rw[List.getElem?_range hl]at h1
 simp at h1
 exact⟨h1.symm,hl⟩
noncomputable def Bd.sides:Bd->List Bd
 | .wA a=>[a]
 | .va a b=>[a,b]
 | .wH a b=>[a,b]
 | .wB _ _ a b=>[a,b]
 |_=>[]
noncomputable def Bd.parts:Bd->List Bd
 | .wA a=>.wA a::a.parts
 | .va a b=>.va a b::(a.parts++b.parts)
 | .wH a b=>.wH a b::(a.parts++b.parts)
 | .wB z m a b=>.wB z m a b::(a.parts++b.parts)
 |t=>[t]
def Bd.wT(t:Bd):t.parts=t::t.sides.flatMap Bd.parts:=by cases t<;>simp[Bd.parts,Bd.sides]
theorem Bd.vc:∀t:Bd,t.parts.length=t.size
 | .rest=>rfl
 | .pay _ _=>rfl
 | .put _ _=>rfl
 | .use _=>rfl
 | .wA a=>by simp only[Bd.parts,Bd.size,List.length_cons,a.vc]
 | .va a b=>by simp only[Bd.parts,Bd.size,List.length_cons,List.length_append,a.vc,b.vc]
 | .wH a b=>by simp only[Bd.parts,Bd.size,List.length_cons,List.length_append,a.vc,b.vc]
 | .wB _ _ a b=>by simp only[Bd.parts,Bd.size,List.length_cons,List.length_append,a.vc,b.vc]
def Bd.wU{t u:Bd}(h:u∈t.sides):u.dep < t.dep/\u.size < t.size:=by
 cases t<;>simp[Bd.sides]at h
 ·subst h;simp[Bd.dep,Bd.size]
 all_goals (rcases h with rfl|rfl<;>simp only[Bd.dep,Bd.size]<;>omega)
abbrev ce(w:aH):Prop:=∀{S:aj} {t:Bd} {Q:bP} {E:cr},Q (.tup (t.sides.map Bd.pv)) S->w [t.pv] S Q E
def vL:ce (bu 1 cz):=by
 intro S t Q E k
 unfold cz
 refine iW ?_
 rw[show az 1 [t.pv]=[some t.pv] from rfl]
 cases t<;>(unfold Bd.pv;walk_at "y"; simp only[jv,ap,v3,lk,c3,aE,oP,gj,ao,au,cv,k_SIDES_FROM,List.find?,sS,String.reduceEq,decide_true,decide_false,Option.map,Option.getD];exact k)
abbrev aX(n:Nat)(w:aH):Prop:=∀{S:aj} {t:Bd} {Q:bP} {E:cr},t.dep<=n->t.size<=900->(∀p S',S p=none->Ext S S'->S' p=some (.lst (t.parts.map Bd.pv))->Q (.ref p) S')->w [t.pv] S Q E
def vn{xs s0:aH}(vL:ce xs)(n:Nat)(ih:aX n s0):aX (n+1) (bu 3 (cA xs s0)):=by
 intro S t Q E hd hs k
 unfold cA
 refine iW ?_
 rw[show az 3 [t.pv]=[some t.pv,none,none] from rfl]
 refine aN fun N hN=>?_
 walk_at "x"
 intro p hp
 have X0:Ext S (u6 S p (.lst [t.pv])):=.new hp
 have hp0:(u6 S p (.lst [t.pv])) p=some (.lst [t.pv]):=aa
 generalize u6 S p (.lst [t.pv])=S0 at X0 hp0
 refine hN _ _ (aN fun N hN=>?_)
 simp only[eE,aM,ad,au,v3,lk]
 refine vL ?_
 simp only[bB]
 refine dY (fun done σ S'=>∃(ts:List Bd) (x:Option PV) (rs:List Bd),done=ts.map Bd.pv/\t.sides=ts++rs/\σ=[some t.pv,some (.ref p),x]/\Ext S S'/\S' p=some (.lst ((t::ts.flatMap Bd.parts).map Bd.pv))) ⟨[],_,t.sides,rfl,rfl,rfl,X0,hp0⟩ (fun _ _ _ _=>trivial) ?_ ?_
 ·rintro done x rest σ S1 K e ⟨ts,y,rs,rfl,es,rfl,X1,h1⟩ hK
  rw[es,List.map_append]at e
  have e2:=List.append_cancel_left e
  rcases rs with _|⟨r,rs⟩
  ·cases e2
  rw[List.map_cons,List.cons.injEq]at e2
  obtain⟨rfl,e3⟩:=e2
  have hr:r∈t.sides:=by rw[es];simp
  have hrd:=Bd.wU hr
  walk_at "x"
  refine⟨by rw[h1];trivial,ih (t:=r) (by omega) (by omega) fun q S2 hq X2 h2=>?_⟩
  simp only[X2 _ _ h1,h2]
  have hlen:(t::ts.flatMap Bd.parts).length+r.parts.length<=t.size:=by
   rw[<-Bd.vc t,Bd.wT t,es,List.flatMap_append,List.flatMap_cons]
   simp only[List.length_cons,List.length_append]
   omega
  refine⟨aK (by simp only[List.length_map]at *;omega),?_⟩
  refine hK _ _ ⟨ts++[r],_,rs,by simp,by rw[es];simp,rfl,(X1.trans X2).put hp,?_⟩
  rw[aa,List.flatMap_append]
  simp
 ·rintro σ S1 ⟨ts,y,rs,e,es,rfl,X1,h1⟩
  refine hN _ _ ?_
  walk_at "x"
  have ez:rs=[]:=by
   have:=congrArg List.length e
   rw[es]at this
   simp at this
   exact this
  subst ez
  rw[List.append_nil]at es
  rw[<-es,<-Bd.wT]at h1
  exact k p S1 hp X1 h1
noncomputable def heads:List Str:=["rest","pay","put","use","often","then","either","take"]
def kh:∀z∈heads,PyData.strOk z=true:=by decide +kernel
end C
namespace C
open PySem L2 L3
end C
namespace C
open PySem L2 L3 Wd
section
variable {S:aj} {Q:bP} {i:Int} {xs:List PV} {b:Bool}
def qx:dg [.int i,.ty "tuple"] S Q=Q (.bl false) S:=by simp[dg,j4,ff,cN]
def lZ:dg [.tup xs,.ty "tuple"] S Q=Q (.bl true) S:=by simp[dg,j4,ff,cN]
def qy{z:Str}:dg [.str z,.ty "tuple"] S Q=Q (.bl false) S:=by simp[dg,j4,ff,cN]
end
noncomputable def Bd.hd:Bd->Str
 | .rest=>"rest" | .pay _ _=>"pay" | .put _ _=>"put" | .use _=>"use" | .wA _=>"often" | .va _ _=>"then" | .wH _ _=>"either" | .wB _ _ _ _=>"take"
noncomputable def Bd.tl:Bd->List PV
 | .rest=>[] | .pay x y=>[.tup [.int x,.int y]] | .put z m=>[.str z,.int m] | .use z=>[.str z] | .wA a=>[a.pv] | .va a b=>[a.pv,b.pv] | .wH a b=>[a.pv,b.pv] | .wB z m a b=>[.str z,.int m,a.pv,b.pv]
def Bd.v0(t:Bd):t.pv = .tup (.str t.hd::t.tl):=by cases t<;>rfl
def Bd.x9(t:Bd):PyData.strOk t.hd=true:=by cases t<;>exact kh _ (by simp[heads,Bd.hd])
end C
namespace C
open PySem L2 L3
end C
namespace C
open PySem L2 L3 Wd
abbrev dm(n:Nat)(w:aH):Prop:=∀{S:aj} {t:Bd} {Q:bP} {E:cr},t.dep<=n->t.size<=900->(∀S',Ext S S'->Q (.int t.size) S')->w [t.pv] S Q E
def ki{xp:aH}(n:Nat)(vn:aX n xp):dm n (bu 1 (gy xp)):=by
 intro S t Q E hd hs k
 unfold gy
 refine iW ?_
 rw[show az 1 [t.pv]=[some t.pv] from rfl]
 walk_at "x"
 refine vn hd hs fun p S1 hp X1 h1=>?_
 simp only[h1,List.length_map,t.vc]
 exact k S1 X1
section
variable {js us:Vs} (hj:∀z∈js,IsW z) (hu:∀z∈us,IsW z)
end
section
variable {js us:Vs} (hj:∀z∈js,IsW z) (hu:∀z∈us,IsW z)
include hj hu
end
end C
namespace Zu
open PySem Zt
open Sem (wp)
section
variable {kd:Bool} {prog:Program} {w:World} {A:Around} {E:Vq} {s:Shared}
variable {n l1 l2 l3:Nat} {i:Nat} {xs ys zs:Vw} {x y z a b c:Value}
end
section
variable {kd:Bool} {prog:Program} {w:World} {A:Around} {E:Vq} {s:Shared}
end
end Zu
namespace L2
open PySem PySem.Spec PyProof.Rows
section
variable {X:Cx}
end
end L2
namespace L3
open PySem L2
section
variable {X:Cx} {a b c:Expr} {ta tb tc:ax} {p pos:Pos}
end
end L3
namespace L2
open PySem PySem.Spec PyProof.Rows
section
variable {X:Cx}
end
end L2
namespace L3
open PySem L2
section
variable {X:Cx}
end
end L3
namespace C
open PySem L2 L3
end C
namespace C
open PySem L2 L3 Wd
theorem dn{α:Type}{g:Tg}{te:ax}{σ':aZ}{keep:aj->Prop}{fin:List PV->aj->Prop}{S:aj}(enc f:α->PV)(hk:keep S):∀(xs:List α) (ys:List PV),
  (∀x∈xs,∃σ2,g.put (enc x) σ'=some σ2/\∀Q:bP,Q (f x) S->te σ2 S Q di)->ys.length+xs.length<=sizeLine->fin (ys++xs.map f) S->bo g cQ te σ' keep fin (xs.map enc) ys S
 |[],ys,_,hl,hf=>⟨hk,by simpa using hl,by simpa using hf⟩
 |x::r,ys,h,hl,hf=>by
  obtain⟨σ2,e,h1⟩:=h x (by simp)
  refine⟨hk,by simp at hl;omega,?_⟩
  rw[e]
  show te σ2 S (fun y S4=>bo g cQ te σ' keep fin (r.map enc) (ys++[y]) S4) di
  exact h1 _ (dn enc f hk r (ys++[f x]) (fun y hy=>h y (by simp[hy])) (by simp at hl ⊢;omega) (by simpa using hf))
end C
namespace C
open PySem L2 L3
end C
namespace Zv
open PySem
open Sem (wp)
section
variable {prog:Program} {w:World} {A:Around} {E:Vq} {s:Shared} {n l1 l2:Nat} {i:Nat} {xs ys:Vw} {x y:Value} {T:Nat} {oT:Obj} {f1:Value}
end
section
variable {prog:Program} {w:World} {A:Around} {R:Result->Shared->Prop} {n l1 l2:Nat} {xs ys:Vw}
end
section
variable {prog:Program} {w:World} {A:Around} {E:Vq} {s:Shared} {n l1 l2:Nat} {xs ys:Vw}
end
end Zv
namespace L2
open PySem PySem.Spec PyProof.Rows
section
variable {P:Program} {w:World} {K:Vo} {mg:Vr} {base:Heap}
end
section
variable {X:Cx}
end
end L2
namespace L3
open PySem L2
section
variable {P:Program} {w:World} {K:Vo} {mg:Vr} {base:Heap}
end
section
variable {X:Cx} {e o:Expr} {es:List Expr} {te to:ax} {ts:List ax} {x:Str} {p pos apos cpos:Pos} {k:Nat} {f:Addr} {fd:FuncData} {ps:Vs} {sp:aH}
end
section
variable {X:Cx} {a b:Expr} {ta tb:ax}
end
end L3
namespace L2
open PySem PySem.Spec PyProof.Rows
section
variable {X:Cx}
variable {o e:Expr} {es:List Expr} {to:TE} {t:TA} {name:Str} {apos cpos:Pos} {id:String} {r:V->List V->Hp->VK->Prop}
end
end L2
namespace L3
open PySem L2
section
variable {X:Cx}
variable {o e:Expr} {es:List Expr} {to:ax} {ts:List ax} {name:Str} {apos cpos:Pos} {id:String}
end
section
variable {X:Cx} {a b:Expr} {ta tb:ax} {p pos:Pos}
end
end L3
namespace C
open PySem L2 L3
end C
namespace C
open PySem L2 L3 Wd
end C
namespace L3
open PySem L2 Xc
section
variable {X:Cx} {e o:Expr} {es:List Expr} {te to:ax} {ts:List ax} {x:Str} {p pos apos cpos:Pos} {k:Nat} {f:Addr} {fd:FuncData} {ps:Vs} {sp:aH}
end
section
variable {P:Program} {w:World} {K:Vo} {mg:Vr} {base:Heap}
end
section
variable {X:Cx} {e:Expr} {es:List Expr} {ts:List ax} {x qual:Str} {st:Stmt} {p pos cpos:Pos} {f C:Addr} {fd:FuncData} {ps ks:Vs}
end
section
variable {X:Cx} {body suite:List Stmt} {b₀:Stmt} {n x:Str} {i:Nat} {np hpos pos:Pos} {tb th:a_} {Dc:Addr} {cs:Vs}
end
section
variable {X:Cx} {e:Expr} {te:ax} {f:Str} {pos:Pos} {l:List (Str×Str)}
end
section
variable {P:Program} {w:World} {K:Vo} {mg:Vr} {base:Heap} {N:Vs} {qual:Str} {st:Stmt} {f:Addr} {cdv:Value} {A:Around} {outer:List Env} {s:Shared} {H:Hp} {E:XK}
end
end L3
namespace L3
open PySem L2
end L3
namespace L2
open PySem PySem.Spec PyProof.Rows Xc
section
variable {X:Cx} {k:Nat} {f C:Addr} {fd:FuncData} {ps:Vs} {sp:Sp} {m:Str} {pos apos:Pos} {e o:Expr} {es:List Expr} {ta:TE} {t:TA}
end
end L2
namespace L3
open PySem L2 Xc
section
variable {P:Program} {w:World} {K:Vo} {mg:Vr} {base:Heap}
structure bv (K:Vo) (mg:Vr) (x:Str) (st:Stmt) (ps:Vs):Prop where
 ex:∃f fd,tu K mg x st ps f fd
structure wc (P:Program) (w:World) (K:Vo) (mg:Vr) (base:Heap) (k:Nat) (x:Str) (n:Nat) (sp:aH):Prop where
 ex:∃f fd ps,ps.length=n/\x8 P w K mg base k f fd ps sp/\mg x=some (.ref f)/\PySem.W.keepIn K (.ref f)=true/\Binds K fd ps []
def ig{x:Str}{st:Stmt}{ps:Vs}{k n:Nat}{t:a_}{sp:aH}(N:Vs)(O:bv K mg x st ps)
  (hbody:∀(f:Addr) (cdv:Value) (A:Around) (outer:List Env) (s:Shared) (H:Hp) (E:XK),Room k (A.deeper (PyProof.Rows.envOfC x (ar st) s.heap.objs.size f cdv))->N.Nodup->ef (uc P w K mg base N x st f cdv A outer s H E) (aQ st) t) (e:sp=bu N.length t)
  (hn:ps.length=n:=by rfl) (S:b_ N ps (ar st):=by exact⟨rfl,rfl,rfl,by decide +kernel,rfl,by decide +kernel,by decide +kernel⟩):wc P w K mg base (k+1) x n sp:=by
 subst e
 obtain⟨f,fd,o⟩:=O.ex
 exact⟨f,fd,ps,hn,uC o.F S fun cdv A outer s H E hr=>hbody f cdv A outer s H E hr S.nd,o.m,o.k,o.b⟩
def uU{x:Str}{st:Stmt}{ps:Vs}{k:Nat}{t:a_}{sp:aH}{f:Addr}{fd:FuncData}(N:Vs)(o:tu K mg x st ps f fd)
  (hbody:∀(f:Addr) (cdv:Value) (A:Around) (outer:List Env) (s:Shared) (H:Hp) (E:XK),Room k (A.deeper (PyProof.Rows.envOfC x (ar st) s.heap.objs.size f cdv))->N.Nodup->ef (uc P w K mg base N x st f cdv A outer s H E) (aQ st) t) (e:sp=bu N.length t)
  (S:b_ N ps (ar st):=by exact⟨rfl,rfl,rfl,by decide +kernel,rfl,by decide +kernel,by decide +kernel⟩):x8 P w K mg base (k+1) f fd ps sp:=by
 subst e
 exact uC o.F S fun cdv A outer s H E hr=>hbody f cdv A outer s H E hr S.nd
def sE:aH:=fun _ _ _ _=>False
theorem wc.zero{x:Str}{st:Stmt}{ps:Vs}{k n:Nat}(O:bv K mg x st ps)(hn:ps.length=n:=by rfl):wc P w K mg base k x n sE:=by
 obtain⟨f,fd,o⟩:=O.ex
 exact⟨f,fd,ps,hn,.zero rfl,o.m,o.k,o.b⟩
theorem nW{b n:Nat}{x:Str}{st:Stmt}{ps:Vs}{r:Nat->aH}(O:bv K mg x st ps)(h:∀j,wc P w K mg base (b+j) x n (r j)->wc P w K mg base (b+j+1) x n (r (j+1)))(h0:r 0=sE)(hn:ps.length=n:=by rfl):∀j,wc P w K mg base (b+j) x n (r j)
 |0=>by rw[h0];exact .zero O hn
 |j+1=>h j (nW O h h0 hn j)
end
section
variable {X:Cx} {a b e o:Expr} {es:List Expr} {ta tb te to:ax} {ts:List ax} {x c m f:Str} {p pos apos cpos:Pos} {j k n:Nat} {sp:aH}
def c4(O:wc X.prog X.w X.K X.mg X.base k x n sp)(hr:Room j X.A)(ha:iA X (e::es) ts)(hj:k<=j:=by omega)(hl:ts.length=n:=by rfl)(hg:Gl X x:=by rfl)(he:starEach (e::es) X.env=(false,eval e X.env)::starEach es X.env:=by rfl)(hdb:(x == ("__debug__":Str))=false:=by decide)(hpl:(backTo pos (starEach es X.env)).any (·.1)=false:=by rfl) :
  aI X (.Call (.Name x p) (e::es) [] pos) (ad sp ts):=by
 obtain⟨f,fd,ps,hn,F,h1,h2,h3⟩:=O.ex
 exact qd F (hr.mono hj) hg h1 h2 h3 he ha (hl.trans hn.symm) hdb hpl
def uV(O:wc X.prog X.w X.K X.mg X.base k x 0 sp)(hr:Room j X.A)(hj:k<=j:=by omega)(hg:Gl X x:=by rfl)(hdb:(x == ("__debug__":Str))=false:=by decide):aI X (.Call (.Name x p) [] [] pos) (ad sp []):=by
 obtain⟨f,fd,ps,hn,F,h1,h2,h3⟩:=O.ex
 obtain rfl:=List.length_eq_zero_iff.mp hn
 exact nO F (hr.mono hj) hg h1 h2 h3 hdb
def cB{id:String}{r:kB}(hc:dH X (.builtin id) r)(hm:X.mg x=none)(ha:iA X (e::es) ts)(hg:Gl X x:=by rfl)(hv:bootBuiltins x=some (.builtin id):=by decide +kernel)(he:starEach (e::es) X.env=(false,eval e X.env)::starEach es X.env:=by rfl)
  (hnn:x ≠ "__name__":=by decide) (hdb:(x == ("__debug__":Str))=false:=by decide) (hpl:(backTo pos (starEach es X.env)).any (·.1)=false:=by rfl):aI X (.Call (.Name x p) (e::es) [] pos) (ao r ts):=nF hc hg hm hv he ha hnn hdb hpl
def lc{r:List Expr}(ha:aI X a ta)(hr:iA X r ts)(hs:starEach (a::r) X.env=(false,eval a X.env)::starEach r X.env:=by rfl):iA X (a::r) (ta::ts):=lw hs ha hr
def l1(ha:aI X a ta)(hs:starEach [a] X.env=(false,eval a X.env)::starEach [] X.env:=by rfl):iA X [a] [ta]:=lw hs ha oJ
def mB{i:Int}{q:Nat}{p2:Pos}(hr:Room j X.A)(ha:aI X a ta)(hs:dU (.Constant (.int i) q p2):=by exact fun _ _=>rfl):aI X (.Subscript a (.Constant (.int i) q p2) pos) (ap aE ta (c3 (.int i))):=sn (uB (qW hr)) ha ab hs
def jw(hr:Room j X.A)(ha:aI X a ta)(hb:aI X b tb)(hs:dU b:=by exact fun _ _=>rfl):aI X (.Subscript a b pos) (ap aE ta tb):=sn (uB (qW hr)) ha hb hs
def qX(hr:Room j X.A)(ha:aI X a ta)(hb:aI X b tb):jm X (.Compare a [.Eq] [b] pos) (bi (ap (eX false) ta tb)):=bf (sh (dI hr)) ha hb (aY _)
def uh(hr:Room j X.A)(ha:aI X a ta)(hb:aI X b tb):jm X (.Compare a [.NotEq] [b] pos) (bi (ap (eX true) ta tb)):=bf (si (dI hr)) ha hb (aY _)
def s4(i:Nat){pos':Pos}(nd:X.N.Nodup)(he:aI X e te)(hi:X.N[i]?=some x:=by rfl)(hx:oA X.env.scope x:=by first|exact Or.inl rfl|exact Or.inr rfl)(hs:swapsWith e (some (.Name x pos')) pos.line X.env=pure false:=by rfl)
  (hf:X.fn x=true\/X.env.scope.names.lookup x=some .local:=by first|exact .inl rfl|exact .inr rfl|assumption):jn X (.Assign [.Name x pos'] e pos) (aJ i te):=sw nd hi hx he hs hf
def gn(i:Nat)(nd:X.N.Nodup)(hi:X.N[i]?=some x:=by rfl)(hx:oA X.env.scope x:=by first|exact Or.inl rfl|exact Or.inr rfl)(hf:X.fn x=true\/X.env.scope.names.lookup x=some .local:=by first|exact .inl rfl|exact .inr rfl|assumption):mz X (.Name x pos) (.n i):=uT i nd hi hx hf
def uW{px:Pos}{kvs:List (aC×Int)}{g:Expr}{tg:ax}(hr:Room j X.A)(hD:∃a,X.mg x=some (.ref a)/\KD X.prog X.w X.K a (kvs.map fun kv=>(kv.1,V.int kv.2)))(he:aI X e te)(hf:aI X g tg)(hg:Gl X x:=by rfl)(m:M2 X (.Name x px) "get" apos e g cpos:=by exact⟨rfl,rfl,rfl,rfl⟩)
  (hd:(x == ("__debug__":Str))=false:=by decide):aI X (.Call (.Attribute (.Name x px) "get" apos) [e,g] [] cpos) (jv kvs te tg):=let ⟨_,h1,h2⟩:=hD;qg (qW hr) hg h1 h2 he hf m hd
end
structure qz (T:String) (name:Str) (id:String):Prop where
 pa:PlainAttrs T
 slot:Slot T name id
 ty:typeOf (.builtin id)=pure (.type "method_descriptor")
section
variable {X:Cx} {e o:Expr} {es:List Expr} {to:ax} {ts:List ax} {name:Str} {T id:String} {p pos apos cpos:Pos} {r:lK}
def fL:qz "list" "append" "list.append":=⟨PySem.F.plainAttrs_list,PySem.F.slot_list_append,PySem.F.type_list_append⟩
def fM:qz "list" "extend" "list.extend":=⟨PySem.F.plainAttrs_list,PySem.F.slot_list_extend,PySem.F.type_list_extend⟩
def l5:qz "list" "pop" "list.pop":=⟨PySem.F.plainAttrs_list,PySem.F.slot_list_pop,PySem.F.type_list_pop⟩
def l7:qz "list" "clear" "list.clear":=⟨PySem.F.plainAttrs_list,PySem.F.slot_list_clear,PySem.F.type_list_clear⟩
def nX:qz "str" "join" "str.join":=⟨PySem.F.plainAttrs_str,PySem.F.slot_str_join,PySem.F.type_str_join⟩
def sF(k:qz T name id)(hm:nH X id r)(ho:aI X o to)(ha:iA X (e::es) ts)(hs:starEach (e::es) X.env=(false,eval e X.env)::starEach es X.env:=by rfl)
  (hbase:attributeBase o name X.env (eval o X.env)=eval o X.env:=by rfl)
  (hfew:((backTo cpos (starEach (e::es) X.env)).all (fun x=>!x.1)&&(backToKw cpos (keywordEach [] X.env)).all (fun x=>x.1.isSome)
   && decide ((e::es).length+([]:List Keyword).length+(if ([]:List Keyword).isEmpty then 0 else 1) < 30))=true:=by rfl)
  (hline:(apos.endLine == cpos.line)=true:=by rfl) (hplain:(backTo cpos (starEach es X.env)).any (·.1)=false:=by rfl):aI X (.Call (.Attribute o name apos) (e::es) [] cpos) (fD T r to ts):=t9 k.pa k.slot k.ty hm hs ho ha hbase hfew hline hplain
def qA(k:qz T name id)(hm:nH X id r)(ho:aI X o to)
  (hbase:attributeBase o name X.env (eval o X.env)=eval o X.env:=by rfl) (hline:(apos.endLine == cpos.line)=true:=by rfl):aI X (.Call (.Attribute o name apos) [] [] cpos) (fD T r to []):=sv k.pa k.slot k.ty hm ho hbase hline
end
section
variable {X:Cx} {tg iter elt:Expr} {ifs:List Expr} {scope:Scope} {pos:Pos} {ti:nK} {g:Tg} {tc:dS} {te:ax}
def nY(fs:Vs)(own:Nat)(fr:List Nat)(N:Vs)(hi:p_ X tg iter ti)(hg:∀B,mz (X.vP N scope fs B) tg g)(hf:∀B,qV (X.vP N scope fs B) ifs tc)(he:∀B,aI (X.vP N scope fs B) elt te)
  (xS:g.under own=true:=by rfl) (hc:X.calm=true:=by rfl) (hclos:closureFor scope X.env=pure (aU X.env fs):=by rfl) (hcell:∀y∈scope.names,y.2 ≠ .cell:=by decide +kernel) (hkind:scope.kind = .function:=by rfl)
  (hnames:∀x∈scope.names,x.2 = .local->scope.names.lookup x.1=some .local:=by decide +kernel) (hcl:aT X.env fs:=by repeat' first|exact trivial|exact⟨_,rfl⟩|constructor) (hhas:gc (relabel scope X.env).names (aU X.env fs)=true:=by rfl)
  (hlen:N.length=own+fr.length:=by rfl) (hN:(N.drop own).map some=fr.map (fun j=>X.N[j]?):=by rfl) (hF:vj X.env scope (aU X.env fs) (N.drop own):=by repeat' first|exact trivial|exact .inl rfl|exact .inr rfl|exact rfl|apply And.intro)
  (hs:∀x,foldedSetIterable iter X.env x=pure x:=by intro _;rfl):aI X (.ListComp elt [⟨tg,iter,ifs,0⟩] scope pos) (aG ti g tc te own fr):=qb fs own fr N xS hc hclos hcell hkind hnames hcl hhas hlen hN hF hi hg hf he hs
def uE(fs:Vs)(own:Nat)(fr:List Nat)(N:Vs)(i:Nat){y:Str}{py spos:Pos}(hX:X.N.Nodup)(hi:p_ X tg iter ti)(hg:∀B,mz (X.vP N scope fs B) tg g)(hf:∀B,qV (X.vP N scope fs B) ifs tc)(he:∀B,aI (X.vP N scope fs B) elt te)
  (hix:X.N[i]?=some y:=by rfl) (hy:X.env.scope.names.lookup y=some .local:=by rfl) (hsw:swapsWith (.ListComp elt [⟨tg,iter,ifs,0⟩] scope pos) (some (.Name y py)) spos.line X.env=pure true:=by rfl)
  (xS:g.under own=true:=by rfl) (hc:X.calm=true:=by rfl) (hclos:closureFor scope X.env=pure (aU X.env fs):=by rfl) (hcell:∀y∈scope.names,y.2 ≠ .cell:=by decide +kernel) (hkind:scope.kind = .function:=by rfl)
  (hnames:∀x∈scope.names,x.2 = .local->scope.names.lookup x.1=some .local:=by decide +kernel) (hcl:aT X.env fs:=by repeat' first|exact trivial|exact⟨_,rfl⟩|constructor) (hhas:gc (relabel scope X.env).names (aU X.env fs)=true:=by rfl)
  (hlen:N.length=own+fr.length:=by rfl) (hN:(N.drop own).map some=fr.map (fun j=>X.N[j]?):=by rfl) (hF:vj X.env scope (aU X.env fs) (N.drop own):=by repeat' first|exact trivial|exact .inl rfl|exact .inr rfl|exact rfl|apply And.intro)
  (hs:∀x,foldedSetIterable iter X.env x=pure x:=by intro _;rfl):jn X (.Assign [.Name y py] (.ListComp elt [⟨tg,iter,ifs,0⟩] scope pos) spos) (aJ i (aG ti g tc te own fr)):=qc fs own fr N hX hix hy hsw xS hc hclos hcell hkind hnames hcl hhas hlen hN hF hi hg hf he hs
end
section
variable {X:Cx} {e o value:Expr} {es:List Expr} {te to:ax} {ts:List ax} {x c m f:Str} {fl:Vs} {p pos pos' apos:Pos} {j k n:Nat} {sp:aH}
end
section
variable {P:Program} {w:World} {K:Vo} {mg:Vr} {base:Heap}
end
section
variable {X:Cx} {e:Expr} {es:List Expr} {ts:List ax} {x:Str} {p pos cpos:Pos} {ks:Vs} {j:Nat}
def uF{n:String}(hm:X.mg x=none)(hg:Gl X x:=by rfl)(hv:bootBuiltins x=some (.type n):=by decide +kernel)(hn:x ≠ "__name__":=by decide)(hd:(x == ("__debug__":Str))=false:=by decide):aI X (.Name x pos) (c3 (.ty n)):=t7 hg hm hv hn hd
end
section
variable {X:Cx} {body suite:List Stmt} {b₀:Stmt} {n x:Str} {np hpos pos:Pos} {tb th:a_} {cs:Vs}
end
section
variable {P:Program} {w:World} {K:Vo} {mg:Vr} {base:Heap}
end
section
variable {X:Cx} {e:Expr} {es:List Expr} {ts:List ax} {x:Str} {p pos:Pos} {j k n:Nat} {sp:aH}
end
end L3
namespace L2
open PySem PySem.Spec PyProof.Rows
section
variable {X:Cx}
end
end L2
namespace L3
open PySem L2
section
variable {X:Cx}
end
end L3
namespace CY
open PySem L2 L3
end CY
namespace L3
open PySem L2
section
variable {X:Cx}
def cn:kB:=fun ps S Q=>match ps with
 |[.int i]=>i.natAbs.log2 < 1920/\Q (.str (toString i)) S
 |[.str z]=>(reprText z).length<=sizeLine/\Q (.str (reprText z)) S
 |ps=>jp ps S Q
def dq(hu:X.A.units+150 < cLine)(hg:X.A.guards=some []):dH X (.builtin "repr") cn:=⟨fun pins s σ H xs us Q I r ⟨ps,S,Q3,rp,rS,q,k⟩=>by
 unfold cn at q
 split at q
 ·rename_i i
  cases rp with
  |cons a rr=>
   cases rr
   cases r with
   |cons r1 r2=>
    cases r2;cases a
    obtain⟨t,rfl⟩:=r1
    exact P.repr_of_int q.1 ⟨.str _,H,I.kept (t':=s.toks+1) (h':=s.heap) (fun _ _ e=>e),⟨_,rfl⟩,k _ S _ H q.2 (.str _) rS .refl⟩
 ·rename_i z
  cases rp with
  |cons a rr=>
   cases rr
   cases r with
   |cons r1 r2=>
    cases r2;cases a
    obtain⟨t,rfl⟩:=r1
    exact P.repr_of_str ⟨.str _,H,I.kept (t':=s.toks+1) (h':=s.heap) (fun _ _ e=>e),⟨_,rfl⟩,k _ S _ H q.2 (.str _) rS .refl⟩ q.1
 ·exact(p4 hu hg).ok pins s σ H xs us Q I r ⟨ps,S,Q3,rp,rS,q,k⟩⟩
end
end L3
namespace L2
open PySem PySem.Spec PyProof.Rows
section
variable {X:Cx}
def kj(hc:X.calm=true):d4 X (.builtin "max") (fun xs H Q=>∃(p:Addr) (ns:Vu),xs=[.ref p]/\SqL X.K H p (ns.map V.int)/\0 < ns.length/\∀M,M∈ns->(∀a∈ns,a<=M)->Q (.int M) H):=by
 intro pins s σ H xs us Q I r h
 obtain⟨p,ns,rfl,hp,hn,q⟩:=h
 obtain⟨u,rfl,rx⟩:=gP r
 cases rx
 obtain⟨its,rv,pl,hz⟩:=I.list hp
 have hi:IntsAre its ns:=d6 rv
 obtain⟨xs,e⟩:=hi.allInts.items
 have hns:ns=xs.toList.map (·.1):=by rw[<-hi.numsOf,<-nums_intItems,<-e]
 have hsz:0 < xs.size:=by have h3:=hn;rw[hns,List.length_map,Array.length_toList]at h3;exact h3
 have hl:=pl.isList
 rw[e]at hl
 refine max_intList (I.ok.hd hc) hl hsz fun v h' tk hv hk=>?_
 obtain⟨t,rfl⟩:=intItems_at hv
 obtain⟨h1,h2⟩:=argBest_gt (numAt xs) (xs.size - 1)
 refine⟨.int _,H,(I.kept (t':=tk) (h':=h') hk),⟨_,rfl⟩,q _ ?_ fun a ha=>?_⟩
 ·rw[hns,numAt_eq];exact getD_mem (by rw[List.length_map,Array.length_toList];omega)
 ·rw[hns]at ha
  obtain⟨j,hj,rfl⟩:=mem_getD ha
  rw[List.length_map,Array.length_toList]at hj
  rw[<-numAt_eq];exact h2 j (by omega)
end
end L2
namespace L3
open PySem L2
section
variable {X:Cx}
def jx:kB:=fun ps S Q=>match ps with
 |[.ref a]=>(match S a with|some (.lst xs)=>(match b4 xs with|some ns=>0 < ns.length/\∀M,M∈ns->(∀a∈ns,a<=M)->Q (.int M) S|none=>False)|_=>False)
 |_=>False
def qB(hc:X.calm=true):dH X (.builtin "max") jx:=⟨fun pins s σ H xs us Q I r ⟨ps,S,Q3,rp,rS,q,k⟩=>by
 unfold jx at q
 split at q
 ·cases rp with
  |cons a rr=>
   cases rr;cases a
   split at q
   ·rename_i e
    split at q
    ·rename_i eb
     obtain⟨vs,hv,rs⟩:=rS _ _ e
     have e2:=dl rs eb
     subst e2
     exact kj hc pins s σ H _ us Q I r ⟨_,_,rfl,SqL.of hv,q.1,fun M h1 h2=>k _ S _ H (q.2 M h1 h2) (.int _) rS .refl⟩
    ·exact q.elim
   ·exact q.elim
 ·exact q.elim⟩
end
end L3
namespace L2
open PySem PySem.Spec PyProof.Rows
section
variable {X:Cx}
end
end L2
namespace L3
open PySem L2
section
variable {X:Cx}
end
end L3
namespace Md
open PySem PySem.Spec PyProof.Rows
noncomputable def sG(P:Nat->Value->Prop)(bt:Nat->Nat->Bool):Nat->Array Value->Prop
 |0,l=>l=#[]
 |j+1,l=>∃v,l=#[v,v]/\P (argBest bt j) v
def iY{prog:Program}{w:World}{A:Around}{E:Vq}{s:Shared}{id:String}{b:Builtin}{us:Vv}{kw:List (Str×Value)}{Q:Vq}(hk:builtinKind id=none)(hp:plainId id=true)(hb:entryFor table id=some b)(ha:argsOk id ⟨us,kw⟩)
  (hc:wpAny (model prog w) A.in1 (b ⟨us,kw⟩) (fun fin s'=>match fin with
   | .done f=>(match (Except.ok f:Result)with | .ok (.ret v)=>Q v s' | .ok _=>False | .error e=>E e s')
   | .again c'=>c'.quiet=true/\codeAny (model prog w) A c' (fun r s'=>match r with | .ok (.ret v)=>Q v s' | .ok _=>False | .error e=>E e s') s') E s):wpAny (model prog w) A (call (.builtin id) us kw) Q E s:=by
 refine wpAny_call (codeAny_call_builtin hp hb ?_)
 simp only[checkBuiltinCall,hk]
 cases hs:Manifest.signature? id with
 |none=>exact wpAny_pure hc
 |some sig=>
  have h2:Bind.checkArgs id sig ⟨us,kw⟩=pure ():=by simpa only [argsOk,hs]using ha
  simp only[h2]
  exact wpAny_pure hc
def eY(P:Nat->Value->Prop)(bt:Nat->Nat->Bool)(n:Nat)(d v:Value):Prop:=(n=0/\v=d)\/(0 < n/\P (argBest bt (n - 1)) v)
section
variable {prog:Program} {w:World} {A:Around} {R:Result->Shared->Prop} {I:Addr} {fp wr:List Addr} {n:Nat} {P:Nat->Value->Prop} {St:Nat->Heap->Prop}
def kl(a d:Value):argsOk "max" ⟨[a],[("default",d)]⟩:=by unfold argsOk;kernel_rfl
def l8(W:Walks prog w A.in1 I fp wr n P St)(bt:Nat->Nat->Bool)(hcmp:CmpOf prog w A.in1 .Gt P bt)(S:Addr)(hSf:S ∉ fp)(d:Value):∀(k j:Nat) (s:Shared) (its:Vw) (c:Nat),
  n - j=k->j<=n->St j s.heap->sG P bt j its->s.heap.get? S=some { cls:=.type "list",dict:=none,data:=.seq its c,slots:=#[] }->
  (∀v h' tk,eY P bt n d v->(∀b o,b ∉ wr->b≠S->s.heap.get? b=some o->h'.get? b=some o)->R (.ok (.ret v)) { s with heap:=h',toks:=tk })->
  codeAny (model prog w) A (.builtin "max.loop" ⟨[.ref I,.none,.ref S],[("default",d)]⟩) R s:=by
 have nw:S ∉ wr:=fun h=>hSf (W.sub _ h)
 have nm:(toString "max" ++ toString ".loop":String) = "max.loop":=by decide
 intro k
 induction k with
 |zero=>
  intro j s its c hk hj hst hb hS hR
  obtain rfl:j=n:=by omega
  refine codeAny_builtin F.entry_max_loop ?_
  rw[Around.under_plainId F.plain_max_loop _]
  show wpAny _ A.in1 (seqItems? (.ref S) >>= _) _ _ s
  refine wpAny_bind (wpAny_seqItems hS rfl (show wpAny _ A.in1 (tryCatch (pyNext (.ref I)) _ >>= _) _ _ s from ?_))
  refine wpAny_bind (wpAny_tryCatch (W.done s _ _ hst fun h1 tk kk=>?_))
  cases j with
  |zero=>
   have e:its=#[]:=hb
   subst e
   show wpAny _ A.in1 (rule _ >>= _) _ _ _
   refine wpAny_bind (wpAny_rule (wpAny_pure (hR d h1 tk (.inl ⟨rfl,rfl⟩) fun b o hw _ e=>kk b o hw e)))
  |succ i=>
   obtain⟨v,rfl,hv⟩:=hb
   show wpAny _ A.in1 (updateSeq S (fun _=>#[]) >>= _) _ _ _
   refine wpAny_bind (wpAny_updateSeq (kk S _ nw hS) rfl (wpAny_bind (wpAny_letGo (wpAny_pure ?_))))
   exact hR v _ tk (.inr ⟨Nat.succ_pos _,hv⟩) fun b o hw yv e=>(Heap.get?_update_other _ _ (Ne.symm yv)).trans (kk b o hw e)
 |succ k ih=>
  intro j s its c hk hj hst hb hS hR
  have hlt:j < n:=by omega
  refine codeAny_builtin F.entry_max_loop ?_
  rw[Around.under_plainId F.plain_max_loop _]
  show wpAny _ A.in1 (seqItems? (.ref S) >>= _) _ _ s
  refine wpAny_bind (wpAny_seqItems hS rfl (show wpAny _ A.in1 (tryCatch (pyNext (.ref I)) _ >>= _) _ _ s from ?_))
  refine wpAny_bind (wpAny_tryCatch (W.item j s _ _ hlt hst fun v h1 tk hP yI kk=>?_))
  have hS1:=kk S _ nw hS
  -- the new one is kept
  have new:∀h2:Heap,h2=h1.update S (Obj.mapSeq fun _=>#[v,v])->sG P bt (j+1) #[v,v]->codeAny (model prog w) A (.builtin "max.loop" ⟨[.ref I,.none,.ref S],[("default",d)]⟩) R { s with heap:=h2,toks:=tk }:=fun h2 e2 hb2=>by
   refine ih (j+1) _ #[v,v] _ (by omega) hlt (W.frame _ h1 _ yI fun b Aw o e=>?_) hb2 (by rw[e2];exact Heap.get?_update_self (Obj.mapSeq fun _=>#[v,v]) hS1 rfl) fun v' h3 zH hE k3=>?_
   ·rw[e2];exact(Heap.get?_update_other _ _ (fun h:S=b=>hSf (by rw[h];exact Aw))).trans e
   ·exact hR v' h3 zH hE fun b o hw yv e=>k3 b o hw yv (by rw[e2];exact(Heap.get?_update_other _ _ (Ne.symm yv)).trans (kk b o hw e))
  cases j with
  |zero=>
   have e:its=#[]:=hb
   subst e
   show wpAny _ A.in1 (updateSeq S (fun _=>#[v,v]) >>= _) _ _ _
   refine wpAny_bind (wpAny_updateSeq hS1 rfl ?_)
   rw[nm]
   exact wpAny_pure ⟨plainId_quiet F.plain_max_loop _,new _ rfl ⟨v,rfl,hP⟩⟩
  |succ i=>
   obtain⟨u,rfl,hu⟩:=hb
   show wpAny _ A.in1 (tryCatch (holding [v,v] (richCompare .Gt v u >>= _)) _ >>= _) _ _ _
   refine wpAny_bind (wpAny_tryCatch (wpAny_holding (wpAny_bind (hcmp (i+1) (argBest bt i) v u _ _ _ hP hu ?_))))
   refine wpAny_bind (wpAny_holding (wpAny_truthy_bool (wpAny_bind (wpAny_letGo (wpAny_pure ?_)))))
   cases hy:bt (i+1) (argBest bt i)with
   |true=>
    simp only[if_true]
    refine wpAny_bind (wpAny_updateSeq hS1 rfl (wpAny_bind (wpAny_letGo ?_)))
    rw[nm]
    exact wpAny_pure ⟨plainId_quiet F.plain_max_loop _,new _ rfl ⟨v,rfl,by simp only[argBest,hy,if_true];exact hP⟩⟩
   |false=>
    simp only[Bool.false_eq_true,if_false]
    refine wpAny_bind (wpAny_letGo ?_)
    rw[nm]
    refine wpAny_pure ⟨plainId_quiet F.plain_max_loop _,ih (i+2) _ _ c (by omega) hlt yI ⟨u,rfl,by simp only[argBest,hy,Bool.false_eq_true,if_false];exact hu⟩ hS1 fun v' h3 zH hE k3=>?_⟩
    exact hR v' h3 zH hE fun b o hw yv e=>k3 b o hw yv (kk b o hw e)
end
section
variable {prog:Program} {w:World} {A:Around} {E:Vq} {s:Shared}
def km{x d:Value}{Q:Vq}
  (h:wpAny (model prog w) A.in1 (pyIter x) (fun it s1=>∃I fp wr n P St bt,it = .ref I/\Walks prog w A.in1 I fp wr n P St/\St 0 s1.heap/\(∀b∈fp,b < s1.heap.objs.size)/\CmpOf prog w A.in1 .Gt P bt/\
   ∀v h' tk,eY P bt n d v->(∀b o,b ∉ wr->s1.heap.get? b=some o->h'.get? b=some o)->Q v { s1 with heap:=h',toks:=tk }) E s) :
  wpAny (model prog w) A (call (.builtin "max") [x] [("default",d)]) Q E s:=by
 have nm:(toString "max" ++ toString ".loop":String) = "max.loop":=by decide
 refine iY F.kind_max F.plain_max F.entry_max (kl _ _) ?_
 show wpAny _ A.in1 (Builtin.Builtins.bindParams "max" ["key","default"] 0 ⟨[],[("default",d)]⟩ >>= _) _ _ s
 refine wpAny_bind (wpAny_of_eq (show Builtin.Builtins.bindParams "max" ["key","default"] 0 ⟨[],[("default",d)]⟩=pure [none,some d] from rfl) (wpAny_bind (wpAny_pure ?_)))
 refine wpAny_bind (wpAny_mono h (fun it s1 h1=>?_) fun _ _ e=>e)
 obtain⟨I,fp,wr,n,P,St,bt,rfl,W,hst,hfp,hcmp,hQ⟩:=h1
 refine wpAny_bind (wpAny_newObj_type ?_)
 have nf:s1.heap.objs.size ∉ fp:=fun hm=>Nat.lt_irrefl _ (hfp _ hm)
 rw[nm]
 refine wpAny_pure ⟨plainId_quiet F.plain_max_loop _,l8 W bt hcmp s1.heap.objs.size nf d _ 0 _ #[] 0 rfl (Nat.zero_le _) (W.frame _ _ _ hst fun b _ o e=>Heap.get?_push_of_some _ e) rfl (Heap.get?_push_size _ rfl) fun v h' tk hE kk=>?_⟩
 exact hQ v h' tk hE fun b o hw e=>kk b o hw (Nat.ne_of_lt (Heap.lt_size e)) (Heap.get?_push_of_some _ e)
end
section
variable {prog:Program} {w:World} {A:Around} {R:Result->Shared->Prop} {I:Addr} {fp wr:List Addr} {n:Nat} {P:Nat->Value->Prop} {St:Nat->Heap->Prop}
end
section
variable {prog:Program} {w:World} {A:Around} {E:Vq} {s:Shared}
end
end Md
namespace L2
open PySem PySem.Spec PyProof.Rows
def xv(ns:Vu)(d M:Int):Prop:=(ns=[]/\M=d)\/(M∈ns/\∀a∈ns,a<=M)
section
variable {X:Cx}
def kn{id:String}{x:Str}{r:R2}{e ed:Expr}{ta td:TE}{p pos kp:Pos}(hc:cZ X (fun v u=>call (.builtin id) [v] [("default",u)]) r)(hg:Gl X x)(hm:X.mg x=none)(hv:bootBuiltins x=some (.builtin id))(ha:PE X e ta)(hd:PE X ed td)
  (hs:starEach [e] X.env=[(false,eval e X.env)]) (hn:x ≠ "__name__":=by decide) (hdb:(x == ("__debug__":Str))=false:=by decide):PE X (.Call (.Name x p) [e] [⟨some "default",ed,kp⟩] pos) (rn r ta td):=by
 intro pins s σ H Q I h
 refine wpAny_Call_Name_kw (bS I hg hm hv ?_ hn hdb)
 refine PyProof.Rows.callWith_kw ?_ (by rw[hs];rfl) (by rw[hs];rfl) rfl rfl
 rw[hs]
 refine Calls.spliced_cons (va (ha pins s σ H _ I h) fun v s1 ⟨x1,H1,I1,r1,q1⟩=>Calls.spliced_nil ?_)
 refine va ((mT (nm:=some "default") (kpos:=kp) hd pB) pos pins s1 σ H1 (fun zs H2=>match zs with|[y]=>r x1 y H2 Q|_=>False) I1 q1) fun ws s2 ⟨zs,H2,I2,rz,q2⟩=>?_
 cases rz with
 |nil=>exact q2.elim
 |cons a b=>
  cases b with
  |cons _ _=>exact q2.elim
  |nil=>exact hc pins s2 σ H2 _ _ _ _ Q I2 r1 a q2
def nZ(hc:X.calm=true):cZ X (fun v u=>call (.builtin "max") [v] [("default",u)]) (fun x y H Q=>∃(p:Addr) (ns:Vu) (d:Int),x = .ref p/\y = .int d/\SqL X.K H p (ns.map V.int)/\∀M,xv ns d M->Q (.int M) H):=by
 intro pins s σ H x y v u Q I r1 r2 h
 obtain⟨p,ns,d,rfl,rfl,hp,q⟩:=h
 cases r1
 obtain⟨t,rfl⟩:=r2
 obtain⟨its,rv,pl,hz⟩:=I.list hp
 have hi:IntsAre its ns:=d6 rv
 obtain⟨xs,e⟩:=hi.allInts.items
 have hns:ns=xs.toList.map (·.1):=by rw[<-hi.numsOf,<-nums_intItems,<-e]
 have hl:=pl.isList
 rw[e]at hl
 refine Md.km (iter_intList hl fun s1 e1 st hfp hne=>?_)
 subst e1
 refine⟨_,_,_,_,_,_,_,rfl,Walks.list (A:=X.A.in1) (I.ok.hd hc) _ p hne (intItems xs),st,hfp,CmpOf.ints_gt (numAt xs) (fun _ _=>intItems_at),fun v h' tk hE hk=>?_⟩
 have hsz:(intItems xs).size=xs.size:=by simp[intItems]
 rw[hsz]at hE
 have hlen:ns.length=xs.size:=by rw[hns,List.length_map,Array.length_toList]
 have hk':∀b o,s.heap.get? b=some o->h'.get? b=some o:=fun b o e=>hk b o (fun hm=>by
  rcases List.mem_cons.mp hm with e1|hm
  ·exact absurd (e1▸Heap.lt_size e) (Nat.lt_irrefl _)
  ·cases hm) (Heap.get?_push_of_some _ e)
 rcases hE with⟨h0,rfl⟩|⟨h0,hv⟩
 ·exact⟨.int d,H,(I.kept (t':=tk) (h':=h') hk'),⟨_,rfl⟩,q _ (.inl ⟨List.eq_nil_of_length_eq_zero (by omega),rfl⟩)⟩
 ·obtain⟨t,rfl⟩:=intItems_at hv
  obtain⟨h1,h2⟩:=argBest_gt (numAt xs) (xs.size - 1)
  refine⟨.int _,H,(I.kept (t':=tk) (h':=h') hk'),⟨_,rfl⟩,q _ (.inr ⟨?_,fun a ha=>?_⟩)⟩
  ·rw[hns,numAt_eq];exact getD_mem (by rw[List.length_map,Array.length_toList];omega)
  ·rw[hns]at ha
   obtain⟨j,hj,rfl⟩:=mem_getD ha
   rw[List.length_map,Array.length_toList]at hj
   rw[<-numAt_eq];exact h2 j (by omega)
end
end L2
namespace L3
open PySem L2
section
variable {X:Cx} {e ed:Expr} {te td:ax} {x:Str} {p pos kp:Pos}
def jy:R3:=fun x y S Q=>match x,y with
 | .ref a,.int d=>(match S a with|some (.lst xs)=>(match b4 xs with|some ns=>∀M,xv ns d M->Q (.int M) S|none=>False)|_=>False)
 |_,_=>False
def qC(hc:X.calm=true):dG X (fun v u=>call (.builtin "max") [v] [("default",u)]) jy:=⟨fun pins s σ H x y v u Q I rx ry ⟨px,py,S,Q3,r1,r2,rS,q,k⟩=>by
 unfold jy at q
 split at q
 ·cases r1;cases r2
  split at q
  ·rename_i e
   split at q
   ·rename_i eb
    obtain⟨vs,hv,rs⟩:=rS _ _ e
    have e2:=dl rs eb
    subst e2
    exact nZ hc pins s σ H _ _ v u Q I rx ry ⟨_,_,_,rfl,rfl,SqL.of hv,fun M h=>k _ S _ H (q M h) (.int _) rS .refl⟩
   ·exact q.elim
  ·exact q.elim
 ·exact q.elim⟩
def uX{id:String}{r:R3}(hc:dG X (fun v u=>call (.builtin id) [v] [("default",u)]) r)(hm:X.mg x=none)(ha:aI X e te)(hd:aI X ed td)(hg:Gl X x:=by rfl)(hv:bootBuiltins x=some (.builtin id):=by decide +kernel)(hs:starEach [e] X.env=[(false,eval e X.env)]:=by rfl)
  (hnn:x ≠ "__name__":=by decide) (hdb:(x == ("__debug__":Str))=false:=by decide):aI X (.Call (.Name x p) [e] [⟨some "default",ed,kp⟩] pos) (ap r te td):=
 ⟨ay (kn hc.ok hg hm hv ha.ok hd.ok hs hnn hdb) fun _ _ _=>dW⟩
end
end L3
namespace Sa
open PySem PyProof.Rows
def jz(t:SetTable)(j:Nat):(t.put j).1.led=t.led:=by unfold SetTable.put;dsimp only
def n6(t:SetTable)(es:Array (Int×Value))(h:Int)(x:Value):(layNew t es h x).2.1.led=t.led:=by
 unfold layNew
 split
 ·dsimp only
  unfold SetTable.orStandIn
  split
  ·exact jz t _
  ·rename_i j wd he hn
   exact jz t j
 ·rfl
def ko(t:SetTable)(es:Array (Int×Value))(n:Nat):(relayAll t es n).2.1.led=t.led:=by
 unfold relayAll
 split
 ·rename_i t' order e
  dsimp only
  split
  ·unfold SetTable.relaid SetTable.laid at e
   cases hl:SetTable.layClean (SetTable.sizeAbove n - 1) (es.map (·.1))with
   |none=>rw[hl]at e;cases e
   |some o=>rw[hl]at e;cases e;rfl
  ·rfl
 ·rfl
def ij(t:SetTable)(es:Array (Int×Value))(n:Nat)(h:t.plain=false):(relayAll t es n).2.1.plain=false:=by
 unfold relayAll
 split
 ·rename_i t' order e
  dsimp only
  split
  ·unfold SetTable.relaid SetTable.laid at e
   cases hl:SetTable.layClean (SetTable.sizeAbove n - 1) (es.map (·.1))with
   |none=>rw[hl]at e;cases e
   |some o=>rw[hl]at e;cases e;exact h
  ·rfl
 ·rfl
section
variable {prog:Program} {w:World} {A:Around} {E:Vq} {s:Shared}
def v8(prog:Program)(w:World)(h:Heap)(a:Addr)(ld:Bool)(ss:Vs):Prop:=
 ∃o es ep t,h.get? a=some o/\o.ExactSet/\o.data = .set es ep t/\ElemsOf (strKind prog w) es.toList/\(∀k,k∈ss↔∃e∈es.toList,(strKind prog w).is k e.2=true)/\es.size=ss.length/\ss.Nodup/\t.fits es.size=true/\t.led=ld/\(ss≠[]->t.plain=false)
def oQ{a:Addr}{o:Obj}{es es':Array (Int×Value)}{ep:Nat}{t t':SetTable}{ld:Bool}{ss:Vs}{h:Heap}(ho:h.get? a=some o)(hx:o.ExactSet)(hd:o.data = .set es ep t)(e1:ElemsOf (strKind prog w) es'.toList)(e2:∀k,k∈ss↔∃e∈es'.toList,(strKind prog w).is k e.2=true)(e3:es'.size=ss.length)(e4:ss.Nodup)(e5:t'.fits es'.size=true)(e6:t'.led=ld)(e7:ss≠[]->t'.plain=false) :
  ∃o',(h.update a (Obj.putSet es' t')).get? a=some o'/\o'.ExactSet/\o'.data = .set es' (ep+1) t'/\v8 prog w (h.update a (Obj.putSet es' t')) a ld ss:=by
 have g:=Heap.get?_update_self (Obj.putSet es' t') ho (by rw[putSet_of es' t' hd];rfl)
 rw[putSet_of es' t' hd]at g
 exact⟨_,g,hx,rfl,_,es',ep+1,t',g,hx,rfl,e1,e2,e3,e4,e5,e6,e7⟩
def sH{a:Addr}{ld:Bool}{ss:Vs}{k:Str}{tk:Tok}{Q:Bool->Shared->Prop}(hS:v8 prog w s.heap a ld ss)(hl:ss.length < 60)
  (q:∀g b,Heap.SameBut a s.heap g->v8 prog w g a ld (if k∈ss then ss else ss++[k])->Q b { s with heap:=g }):wpAny (model prog w) A (setAddHashed a (.str k tk) (hashStr w k)) Q E s:=by
 obtain⟨o,es,ep,t,ho,hx,hd,hel,hm,hn,hnd,hf,wI,hpl⟩:=hS
 have hkey:(strKind prog w).is k (.str k tk)=true:=strKind_is prog w k tk
 have yJ:es.size < scanBound:=by rw[hn];unfold scanBound;omega
 have hid:s={ s with heap:=s.heap }:=by cases s;rfl
 unfold setAddHashed setAddHashedIn
 refine wpAny_holding (wpAny_bind (wpAny_setState_of ho hd hf ?_))
 dsimp only
 rw[byScan_of (knd:=strKind prog w) (x:=.str k tk) rfl yJ hel]
 simp only[↓reduceIte]
 unfold setAddByScan
 refine wpAny_bind (wpAny_bind (wpAny_rule (wpAny_bind ?_)))
 refine wpAny_setScan_of (knd:=strKind prog w) hkey ho hd hf hel ?_
 cases hr:List.findIdx? (fun e=>(strKind prog w).is k e.2) es.toList with
 |some j=>
  dsimp only
  obtain⟨hj,hp,_⟩:=List.findIdx?_eq_some_iff_getElem.mp hr
  have hin:k∈ss:=(hm k).mpr ⟨_,List.getElem_mem hj,hp⟩
  rw[if_pos hin]at q
  refine wpAny_pure (wpAny_pure ?_)
  rw[hid]
  exact q s.heap _ (Heap.SameBut.refl a s.heap) ⟨o,es,ep,t,ho,hx,hd,hel,hm,hn,hnd,hf,wI,hpl⟩
 |none=>
  dsimp only
  have hout:k ∉ ss:=fun hin=>by
   obtain⟨e,he,hp⟩:=(hm k).mp hin
   have:=List.findIdx?_eq_none_iff.mp hr e he
   rw[hp]at this;cases this
  rw[if_neg hout]at q
  have p1:=layNew_perm t es (hashStr w k) (.str k tk)
  have p2:=layNew_fits t es (hashStr w k) (.str k tk)
  have p3:=n6 t es (hashStr w k) (.str k tk)
  generalize layNew t es (hashStr w k) (.str k tk)=L at p1 p2 p3 ⊢
  obtain⟨es1,t1,wd,gv⟩:=L
  dsimp only at p1 p2 p3 ⊢
  rw[Array.toList_push]at p1
  have hel1:ElemsOf (strKind prog w) es1.toList:=(ElemsOf.push hel hkey rfl).perm p1
  have hm1:∀k',k'∈ss++[k]↔∃e∈es1.toList,(strKind prog w).is k' e.2=true:=fun k'=>by
   rw[List.mem_append,List.mem_singleton,hm k']
   constructor
   ·rintro(⟨e,he,hp⟩|rfl)
    ·exact⟨e,p1.mem_iff.mpr (List.mem_append_left _ he),hp⟩
    ·exact⟨_,p1.mem_iff.mpr (List.mem_append_right _ (List.mem_singleton.mpr rfl)),hkey⟩
   ·rintro⟨e,he,hp⟩
    rcases List.mem_append.mp (p1.mem_iff.mp he)with he|he
    ·exact .inl ⟨e,he,hp⟩
    ·rw[List.mem_singleton.mp he]at hp
     exact .inr ((strKind prog w).inj _ _ _ hp hkey)
  have hn1:es1.size=(ss++[k]).length:=by rw[<-Array.length_toList,p1.length_eq,List.length_append,List.length_append,Array.length_toList,hn];rfl
  have yK:(ss++[k]).Nodup:=List.nodup_append.mpr ⟨hnd,by simp,fun a ha b hb e=>hout (by rw[<-List.mem_singleton.mp hb,<-e];exact ha)⟩
  have fin:∀(t2:SetTable),t2.fits es1.size=true->t2.led=ld->t2.plain=false->∀(g:Bool->Sem Unit),(∀(b:Bool) (s1:Shared) (Q':Unit->Shared->Prop),Q' () s1->wpAny (model prog w) A (g b) Q' E s1)->∀R:Option Bool->Shared->Prop,(∀g' ,Heap.SameBut a s.heap g'->v8 prog w g' a ld (ss++[k])->R (some true) { s with heap:=g' })->
    wpAny (model prog w) A (do
     storeSet a es1 t2
     if (!wd&&t2.tooFull)=true then do
       g (relayAll t2 es1 (SetTable.grown es1.size)).2.2
       storeSet a (relayAll t2 es1 (SetTable.grown es1.size)).1 (relayAll t2 es1 (SetTable.grown es1.size)).2.1
       pure (some true)
      else pure (some true)) R E s:=by
   intro t2 f2 l2 b2 g hg R hR
   have z1:es1.size<=sizeLine:=fits_of_scanBound (by rw[hn1,List.length_append];unfold scanBound;simp;omega)
   refine wpAny_bind (wpAny_storeSet_of ho hd ?_ z1)
   obtain⟨o1,g1,x1,d1,P1⟩:=oQ (prog:=prog) (w:=w) (ss:=ss++[k]) ho hx hd hel1 hm1 hn1 yK f2 l2 (fun _=>b2)
   have z7:=Heap.SameBut.update s.heap a (Obj.putSet es1 t2)
   split
   ·have r1:=relayAll_perm t2 es1 (SetTable.grown es1.size)
    have r2:=relayAll_fits t2 es1 (SetTable.grown es1.size)
    have r3:=ko t2 es1 (SetTable.grown es1.size)
    have r4:=ij t2 es1 (SetTable.grown es1.size) b2
    generalize relayAll t2 es1 (SetTable.grown es1.size)=W at r1 r2 r3 r4 ⊢
    obtain⟨Ax,t3,g3⟩:=W
    dsimp only at r1 r2 r3 r4 ⊢
    have hs2:Ax.size=es1.size:=by rw[<-Array.length_toList,r1.length_eq,Array.length_toList]
    refine wpAny_bind (hg _ _ _ ?_)
    refine wpAny_bind (wpAny_storeSet_of g1 d1 ?_ (by rw[hs2];exact z1))
    obtain⟨_,_,_,_,P2⟩:=oQ (prog:=prog) (w:=w) (ss:=ss++[k]) g1 x1 d1 (hel1.perm r1) (fun k'=>(hm1 k').trans ⟨fun⟨e,he,hp⟩=>⟨e,r1.mem_iff.mpr he,hp⟩,fun⟨e,he,hp⟩=>⟨e,r1.mem_iff.mp he,hp⟩⟩) (by rw[hs2];exact hn1) yK r2 (r3.trans l2) (fun _=>r4)
    exact wpAny_pure (hR _ (z7.trans (Heap.SameBut.update _ a _)) P2)
   ·exact wpAny_pure (hR _ z7 P1)
  have gw:∀(b:Bool) (s1:Shared) (Q':Unit->Shared->Prop),Q' () s1->wpAny (model prog w) A (match b with|true=>rule "set.scan.the-table-gave-way" | false=>pure ()) Q' E s1:=fun b s1 Q' h=>by cases b<;>first|exact wpAny_pure h|exact wpAny_rule h
  refine wpAny_bind (gw _ _ _ ?_)
  split
  ·refine wpAny_bind ?_
   rw[hashByValue_scannable 8 (x:=.str k tk) rfl]
   refine wpAny_pure ?_
   have e0:plainKind (.str k tk)=false:=rfl
   rw[e0]
   simp only[Bool.false_eq_true,if_false]
   exact fin _ (SetTable.fits_plain_off p2) (p3.trans wI) rfl _ gw _ fun g' yJ P=>wpAny_pure (q g' _ yJ P)
  ·rename_i Ay
   refine wpAny_bind (wpAny_pure ?_)
   simp only[↓reduceIte]
   exact fin _ p2 (p3.trans wI) (by simpa using Ay) _ gw _ fun g' yJ P=>wpAny_pure (q g' _ yJ P)
end
noncomputable def dd(l:Vs):List Str:=l.foldl (fun ss k=>if k∈ss then ss else ss++[k]) []
def n9(l:Vs)(k:Str):dd (l++[k])=if k∈dd l then dd l else dd l++[k]:=by unfold dd;rw[List.foldl_append];rfl
def gB(l:Vs):(dd l).length<=l.length:=by
 have:∀(l ss:Vs),(l.foldl (fun ss k=>if k∈ss then ss else ss++[k]) ss).length<=ss.length+l.length:=fun l=>by
  induction l with
  |nil=>intro ss;simp
  |cons k l ih=>
   intro ss
   rw[List.foldl_cons]
   have h:=ih (if k∈ss then ss else ss++[k])
   have e:(if k∈ss then ss else ss++[k]).length<=ss.length+1:=by split<;>simp
   rw[List.length_cons]
   omega
 unfold dd
 simpa using this l []
def n_(l m:Vs):(dd l).length<=(dd (l++m)).length:=by
 have:∀(m ss:Vs),ss.length<=(m.foldl (fun ss k=>if k∈ss then ss else ss++[k]) ss).length:=fun m=>by
  induction m with
  |nil=>intro ss;simp
  |cons k m ih=>
   intro ss
   rw[List.foldl_cons]
   have h:=ih (if k∈ss then ss else ss++[k])
   have e:ss.length<=(if k∈ss then ss else ss++[k]).length:=by split<;>simp
   omega
 unfold dd
 rw[List.foldl_append]
 exact this m _
def iZ(l:Vs)(k:Str):k∈dd l↔k∈l:=by
 have:∀(l ss:Vs),k∈l.foldl (fun ss k=>if k∈ss then ss else ss++[k]) ss↔k∈ss\/k∈l:=fun l=>by
  induction l with
  |nil=>intro ss;simp
  |cons x l ih=>
   intro ss
   rw[List.foldl_cons,ih,List.mem_cons]
   by_cases h:x∈ss
   ·rw[if_pos h]
    constructor
    ·rintro(a|a)
     ·exact .inl a
     ·exact .inr (.inr a)
    ·rintro(a|rfl|a)
     ·exact .inl a
     ·exact .inl h
     ·exact .inr a
   ·rw[if_neg h,List.mem_append,List.mem_singleton,or_assoc]
 unfold dd
 simpa using this l []
def v8.at_{prog:Program}{w:World}{h h':Heap}{a:Addr}{ld:Bool}{ss:Vs}(x:v8 prog w h a ld ss)(e:∀o,h.get? a=some o->h'.get? a=some o):v8 prog w h' a ld ss:=by
 obtain⟨o,es,ep,t,ho,r⟩:=x
 exact⟨o,es,ep,t,e o ho,r⟩
section
variable {prog:Program} {w:World} {A:Around} {R:Result->Shared->Prop} {I:Addr} {fp wr:List Addr} {G:Array GenState->Array GenState->Prop} {n:Nat} {P:Nat->Value->Prop} {St:Nat->Shared->Prop}
def qD(W:WalksS prog w A.in1 I fp wr G n P St)(a:Addr)(ha:a ∉ fp)(ns:Vs)(hns:ns.length=n)(hP:∀i v,P i v->∃k t,ns[i]?=some k/\v = .str k t)(hn:(dd ns).length < 60)(ld:Bool) :
  ∀(r i:Nat) (s:Shared),n - i=r->i<=n->St i s->v8 prog w s.heap a ld (dd (ns.take i))->(∀s',Moved (a::wr) G s s'->v8 prog w s'.heap a ld (dd ns)->R (.ok (.ret .none)) s')->
   codeAny (model prog w) A (.builtin "set.update.loop" ⟨[.ref a,.ref I],[]⟩) R s:=by
 have aw:a ∉ wr:=fun h=>ha (W.sub _ h)
 have up:∀b∈wr,b∈a::wr:=fun b hb=>List.mem_cons_of_mem _ hb
 intro r
 induction r with
 |zero=>
  intro i s hr hi st hS q
  obtain rfl:i=n:=by omega
  refine codeAny_builtin F.entry_set_update_loop ?_
  rw[Around.under_plainId F.plain_set_update_loop _]
  show wpAny _ A.in1 (pyNext (.ref I) >>= _) _ _ s
  refine wpAny_bind (W.done s _ _ st fun s' mv=>?_)
  rw[List.take_of_length_le (by omega)]at hS
  exact wpAny_pure (q s' (mv.mono up) (hS.at_ fun o e=>mv.heap a o aw e))
 |succ r ih=>
  intro i s hr hi st hS q
  refine codeAny_builtin F.entry_set_update_loop ?_
  rw[Around.under_plainId F.plain_set_update_loop _]
  show wpAny _ A.in1 (pyNext (.ref I) >>= _) _ _ s
  refine wpAny_bind (W.item i s _ _ (by omega) st fun v s' hv st' mv=>?_)
  obtain⟨k,t,hk,rfl⟩:=hP i v hv
  have hS':=hS.at_ fun o e=>mv.heap a o aw e
  show wpAny _ A.in1 (holding [Value.str k t] (setAdd a (.str k t)) >>= _) _ _ s'
  refine wpAny_bind (wpAny_holding ?_)
  unfold setAdd
  refine wpAny_holding (wpAny_bind ((strKind prog w).pyHash (k:=k) (strKind_is prog w k t) ?_))
  have hl:=n_ (ns.take i) (ns.drop i)
  rw[List.take_append_drop]at hl
  refine sH (s:={ s' with toks:=s'.toks+1 }) (ss:=dd (ns.take i)) hS' (by omega) fun g b sb hS2=>?_
  have et:ns.take (i+1)=ns.take i++[k]:=by rw[List.take_add_one,hk];rfl
  rw[<-n9,<-et]at hS2
  refine wpAny_pure ⟨plainId_quiet F.plain_set_update_loop _,ih (i+1) _ (by omega) (by omega) (W.frame _ s' _ _ st' (Nat.le_succ _) fun c hc o e=>?_) hS2 fun s2 Az y6=>?_⟩
  ·rw[sb.2 c (fun h=>ha (h▸hc))];exact e
  ·refine q s2 (Moved.trans W.gtrans ((mv.mono up).then_heap (Nat.le_succ _) fun c o hc e=>?_) Az) y6
   rw[sb.2 c (fun h=>hc (h▸List.mem_cons_self))];exact e
end
theorem jA:∀{vs:Vv} {ns:Vs},StrsAre vs ns->∀(i:Nat) (v:Value),vs[i]?=some v->∃k t,ns[i]?=some k/\v=Value.str k t
 |_,_,.nil,i,v,h=>by simp at h
 |_,_,.cons y t r,0,v,h=>by simp at h;exact⟨y,t,rfl,h.symm⟩
 |_,_,.cons y t r,i+1,v,h=>by simpa using jA r i v (by simpa using h)
noncomputable abbrev nw(ld:Bool):Obj:={ cls:=.type "set",dict:=none,data:=.set #[] 0 (.fresh 0 0 ld) }
section
variable {prog:Program} {w:World} {A:Around} {E:Vq} {s:Shared}
noncomputable abbrev bQ(w:World):Bool:=!(w.params.followText "set-order")
def sI(x:Value){Q:Vq}(q:Q (.ref s.heap.objs.size) { s with heap:=s.heap.push (nw (bQ w)) }) :
  codeAny (model prog w) A (.call (.builtin "set.__new__") ⟨[.type "set",x],[]⟩) (wants Q E) s:=by
 refine codeAny_of_tree ?_
 show wpAny _ A.in1 (checkBuiltinCall "set.__new__" ⟨[.type "set",x],[]⟩ >>= fun _=>again (.builtin "set.__new__" ⟨[.type "set",x],[]⟩)) _ _ s
 refine wpAny_bind (wpAny_of_eq (F.newCall_set_1 x) (wpAny_pure ⟨plainId_quiet F.plain_set_new _,codeAny_builtin F.entry_set_new ?_⟩))
 rw[Around.under_plainId F.plain_set_new _]
 unfold Builtin.«set.__new__» Builtin.Frozenset.newClass
 have hs:=sub_set_self
 obtain⟨hp,g,d,tk,os⟩:=s
 dsimp only
 wp_walk
 refine wpAny_askSetting (wpAny_pure ?_)
 dsimp only
 simp only[newObj]
 refine wpAny_bind (wpAny_alloc (wpAny_pure ?_))
 exact wpAny_pure q
def og(h:Heap)(ld:Bool):v8 prog w (h.push (nw ld)) h.objs.size ld []:=
 ⟨nw ld,#[],0,_,Heap.get?_push_size _ rfl,⟨rfl,rfl,rfl⟩,rfl,fun e he=>by simp at he,fun k=>by simp,rfl,List.nodup_nil,by rfl,rfl,fun h=>absurd rfl h⟩
def l9{l:Addr}{its:Vw}{ns:Vs}{Q:Vq}(hh:A.handled=none)(hl:s.heap.IsList l its)(hi:StrsAre its.toList ns)(hn:(dd ns).length < 60)
  (q:∀(g:Heap) (tk:Nat),v8 prog w g s.heap.objs.size (bQ w) (dd ns)->(∀b o,b < s.heap.objs.size->s.heap.get? b=some o->g.get? b=some o)->Q (.ref s.heap.objs.size) { s with heap:=g,toks:=tk }) :
  wpAny (model prog w) A (call (.type "set") [.ref l]) Q E s:=by
 obtain⟨c,tl,AA⟩:=F.called_set.mro
 have hmade:=F.called_set.made
 have hsub:=F.called_set.sub
 refine wpAny_call (codeAny_of_tree ?_)
 show wpAny _ _ (callAny (.type "set") _) _ _ _
 refine wpAny_pure ⟨Code.quiet_builtin _ (by decide +kernel),codeAny_builtin F.entry_type_call ?_⟩
 rw[Around.under_plain (weight_type_call_type "set" [.ref l] []) rfl]
 have h1:=F.called_set.notType
 have h2:=F.called_set.canCreate
 have hct:=F.typeCall_set_1 (.ref l)
 repeat (any_goals (first|assumption|wp_step))
 refine codeAny_mono (sI (.ref l) (E:=E) (Q:=fun v s1=>v = .ref s.heap.objs.size/\s1={ s with heap:=s.heap.push (nw (bQ w)) }) ⟨rfl,rfl⟩) fun r s1 hr=>?_
 match r,hr with
 | .error e,hr=>exact hr
 | .ok (.ret v),hr=>
  obtain⟨rfl,rfl⟩:=hr
  have hS:(s.heap.push (nw (bQ w))).get? s.heap.objs.size=some (nw (bQ w)):=Heap.get?_push_size _ rfl
  have hT:Shared.TypeIs { s with heap:=s.heap.push (nw (bQ w)) } (.ref s.heap.objs.size) "set":=⟨_,hS,rfl⟩
  have hli:=F.called_set.init.lookup
  have hbi:=F.called_set.init.bind (.ref s.heap.objs.size)
  repeat (any_goals (first|assumption|wp_step))
  refine codeAny_mono (codeAny_call_builtin (R:=wants (fun v s2=>v = .none/\∃g tk,s2={ s with heap:=g,toks:=tk }/\v8 prog w g s.heap.objs.size (bQ w) (dd ns)/\∀b o,b < s.heap.objs.size->s.heap.get? b=some o->g.get? b=some o) E) F.called_set.init.plain F.entry_set_init (check_set_init_1 hT ?_)) fun r2 s2 hr2=>?_
  ·obtain⟨ol,hol,hcl,nl,hdl⟩:=hl
   obtain⟨oc,od,oa,os'⟩:=ol
   simp only at hcl hdl
   subst hcl;subst hdl
   have zI:(s.heap.push (nw (bQ w))).get? l=some { cls:=.type "list",dict:=od,data:=.seq its nl,slots:=os' }:=Heap.get?_push_of_some _ hol
   have AB:=F.sub_list_set
   have AC:=F.sub_list_frozenset
   have hne:(Value.type "list" == Value.type "dict")=false:=by decide
   have hl1:(s.heap.push (nw (bQ w))).IsList l its:=⟨_,zI,rfl,nl,rfl⟩
   unfold Builtin.«set.__init__» noKeywords Builtin.Frozenset.updateFrom
   generalize AD:pyIter=PI
   wp_walk
   subst AD
   refine wpAny_pyIter_list hl1 ?_
   refine wpAny_bind (wpAny_runValue ?_)
   have lt:l < s.heap.objs.size:=Heap.lt_size hol
   have AE:A.in1.in1.in1.handled=none:=by simp[hh]
   have sz:(s.heap.push (nw (bQ w))).objs.size=s.heap.objs.size+1:=Heap.size_push _ _
   have zJ:l≠(s.heap.push (nw (bQ w))).objs.size:=by rw[sz];exact Nat.ne_of_lt (Nat.lt_succ_of_lt lt)
   have hSf:s.heap.objs.size ∉ [(s.heap.push (nw (bQ w))).objs.size,l]:=by
    rw[sz]
    intro h
    simp only[List.mem_cons,List.not_mem_nil,or_false]at h
    rcases h with h|h
    ·exact absurd h (Nat.ne_of_lt (Nat.lt_succ_self _))
    ·exact absurd h (Nat.ne_of_gt lt)
   have ln:ns.length=its.size:=by rw[<-hi.strs,List.length_map,Array.length_toList]
   have val:∀(i:Nat) (v:Value),its[i]?=some v->∃k t,ns[i]?=some k/\v = .str k t:=fun i v hv=>by
    exact jA hi i v (by rw[Array.getElem?_toList];exact hv)
   refine qD ((Walks.list AE _ l zJ its).toS) s.heap.objs.size hSf ns ln val hn (bQ w) (its.size - 0) 0 _ (by omega) (Nat.zero_le _) ⟨⟨_,Heap.get?_push_size _ rfl,rfl,rfl⟩,hl1.push _⟩ ?_ ?_
   ·exact(og s.heap (bQ w)).at_ fun o e=>Heap.get?_push_of_some _ e
   ·intro s' mv hS'
    obtain⟨g,g',d',tk',os2⟩:=s'
    have eg:g'=s.gens:=mv.gens
    have ed:d'=s.drawn:=mv.drawn
    have eo:os2=s.os:=mv.os
    subst eg;subst ed;subst eo
    show wpAny _ _ _ _ _ _
    refine wpAny_pure ?_
    show wpAny _ _ (ret Value.none) _ _ _
    refine wpAny_pure ⟨rfl,g,tk',rfl,hS',fun b o hb e=>?_⟩
    refine mv.heap b o (fun h=>?_) (Heap.get?_push_of_some _ (Heap.get?_push_of_some _ e))
    simp only[List.mem_cons,List.not_mem_nil,or_false]at h
    rcases h with h|h
    ·exact absurd h (Nat.ne_of_lt hb)
    ·rw[sz]at h;exact absurd h (Nat.ne_of_lt (Nat.lt_succ_of_lt hb))
  ·match r2,hr2 with
   | .error e,hr2=>exact hr2
   | .ok (.ret v),hr2=>
    obtain⟨rfl,g,tk,rfl,hS',hk⟩:=hr2
    repeat (any_goals (first|assumption|wp_step))
    exact q _ _ hS' hk
end
def ik:Manifest.owners.lookup (String.ofList ['r','o','t','a','r','e','t','i','_','t','e','s'].reverse)=some Manifest.sig_set_iterator:=by kernel_rfl
def u9:Slot "set_iterator" "__next__" "set_iterator.__next__" :=
 .of (owner:="set_iterator") (n:="__next__") (by rw[typeLookup_type,builtinLookup_eq_fast];kernel_rfl) (by decide +kernel) (by decide +kernel) (by decide +kernel)
  (by first|exact .inl (by decide +kernel)|exact .inr (by decide +kernel)) (by rw[isSubtype_type];kernel_rfl)
def cT:Slot "set_iterator" "__iter__" "set_iterator.__iter__" :=
 .of (owner:="set_iterator") (n:="__iter__") (by rw[typeLookup_type,builtinLookup_eq_fast];kernel_rfl) (by decide +kernel) (by decide +kernel) (by decide +kernel)
  (by first|exact .inl (by decide +kernel)|exact .inr (by decide +kernel)) (by rw[isSubtype_type];kernel_rfl)
def bw:entryFor table "set_iterator.__next__" = some Builtin.«set_iterator.__next__»:=entryFor_of_tree (by kernel_rfl)
def fg:entryFor table "set_iterator.__iter__" = some Builtin.«dict_keyiterator.__iter__»:=
 entryFor_alias (id':="dict_keyiterator.__iter__") (by kernel_rfl) rfl (by decide +kernel) (by kernel_rfl)
def eO:entryFor table "set.__iter__" = some Builtin.«frozenset.__iter__»:=
 entryFor_alias (id':="frozenset.__iter__") (by kernel_rfl) rfl (by decide +kernel) (by kernel_rfl)
def bG(a:Value):argsOk "set_iterator.__next__" ⟨[a],[]⟩:=by
 unfold argsOk;rw[signature?_of (id:="set_iterator.__next__") (n:=['_','_','t','x','e','n','_','_']) (o:=['r','o','t','a','r','e','t','i','_','t','e','s']) (by kernel_rfl) ik];kernel_rfl
def gC(a:Value):argsOk "set_iterator.__iter__" ⟨[a],[]⟩:=by
 unfold argsOk;rw[signature?_of (id:="set_iterator.__iter__") (n:=['_','_','r','e','t','i','_','_']) (o:=['r','o','t','a','r','e','t','i','_','t','e','s']) (by kernel_rfl) ik];kernel_rfl
theorem cC{α:Type}:∀(xs:List α) (i:Nat) (h:i < xs.length),(xs[i]::xs.eraseIdx i).Perm xs
 |x::xs,0,h=>List.Perm.refl _
 |x::xs,i+1,h=>by
  have:=cC xs i (by simpa using h)
  exact(List.Perm.swap _ _ _).trans (List.Perm.cons x this)
section
variable {prog:Program} {w:World} {A:Around} {E:Vq} {s:Shared}
def i0{src:Source}{n:Nat}{Q:Nat->Shared->Prop}(hn:n≠0)(q:∀i,i < n->Q i { s with drawn:=s.drawn.bump src }):wpAny (model prog w) A (choose src n) Q E s:=fun Γ p hΓ=>by
 unfold choose
 rw[Sem.wp_choose]
 exact⟨hn,q _ (Nat.mod_lt _ (Nat.pos_of_ne_zero hn))⟩
theorem il{α:Type}:∀(n:Nat) (xs:List α) (s:Shared) {Q:List α->Shared->Prop},xs.length=n->(∀ys d,ys.Perm xs->Q ys { s with drawn:=d })->wpAny (model prog w) A (drawOrder n xs) Q E s
 |0,xs,s,Q,h,q=>by
  have:xs=[]:=List.length_eq_zero_iff.mp h
  subst this
  unfold drawOrder
  exact wpAny_pure (q [] s.drawn (List.Perm.refl _))
 |n+1,x::xs,s,Q,h,q=>by
  unfold drawOrder
  refine wpAny_bind (i0 (by simp) fun i hi=>?_)
  have hg:(x::xs)[i]?=some (x::xs)[i]:=List.getElem?_eq_getElem hi
  rw[hg]
  refine wpAny_bind (il n _ _ (by rw[List.length_eraseIdx,if_pos hi];simpa using h) fun ys d hp=>?_)
  exact wpAny_pure (q _ d ((List.Perm.cons _ hp).trans (cC _ i hi)))
theorem jB{α:Type}(next:Nat->Nat):∀(f k:Nat) (l:List α) (out:Array α),l.length=f->∃m:List α,m.Perm l/\pickOrder.go next f k l out=out++m.toArray
 |0,k,l,out,h=>by
  have:l=[]:=List.length_eq_zero_iff.mp h
  subst this
  exact⟨[],List.Perm.refl _,by simp[pickOrder.go]⟩
 |f+1,k,l,out,h=>by
  have hi:next k % l.length < l.length:=Nat.mod_lt _ (by omega)
  unfold pickOrder.go
  rw[List.getElem?_eq_getElem hi]
  dsimp only
  obtain⟨m,hm,e⟩:=jB next f (k+1) (l.eraseIdx (next k % l.length)) (out.push l[next k % l.length]) (by rw[List.length_eraseIdx,if_pos hi];omega)
  exact⟨l[next k % l.length]::m,(List.Perm.cons _ hm).trans (cC _ _ hi),by rw[e];simp⟩
def dt{α:Type}(next:Nat->Nat)(xs:Array α):(pickOrder next xs).toList.Perm xs.toList:=by
 obtain⟨m,hm,e⟩:=jB next xs.size 0 xs.toList #[] (by simp)
 unfold pickOrder
 rw[e]
 simpa using hm
def vo(h:Heap)(a:Addr)(es:Array (Int×Value))(ep:Nat)(t:SetTable):Prop:=∃o,h.get? a=some o/\o.ExactSet/\o.data = .set es ep t
def vk(h:Heap)(I a:Addr)(first:Value)(i n ep:Nat):Prop:=
 ∃o,h.get? I=some o/\o.cls = .type "set_iterator"/\o.data = .fields #[first,.int i 0,.ref a,.int n 0,.int ep 0]
def vo.at_{h h':Heap}{a es ep t}(x:vo h a es ep t)(e:∀o,h.get? a=some o->h'.get? a=some o):vo h' a es ep t:=let ⟨o,ho,r⟩:=x;⟨o,e _ ho,r⟩
def vk.at_{h h':Heap}{I a f i n ep}(x:vk h I a f i n ep)(e:∀o,h.get? I=some o->h'.get? I=some o):vk h' I a f i n ep:=let ⟨o,ho,r⟩:=x;⟨o,e _ ho,r⟩
def vk.typeIs{I a f i n ep}(x:vk s.heap I a f i n ep):s.TypeIs (.ref I) "set_iterator":=let ⟨o,ho,hc,_⟩:=x;⟨o,ho,hc⟩
def i3{I a:Addr}{f:Value}{i n ep:Nat}{Q:Vq}(hit:vk s.heap I a f i n ep)(h:Q (.ref I) s):wpAny (model prog w) A (pyIter (.ref I)) Q E s:=by
 refine wpAny_pyIter_slot hit.typeIs cT (wpAny_call_entry cT hit.typeIs fg ?_ (gC _))
 show wpAny _ _ (ret (.ref I)) _ _ s
 exact wpAny_pure ⟨_,rfl,"set_iterator",_,hit.typeIs,u9.lookup,h⟩
def qE{I a tp:Addr}{i n ep p:Nat}{es:Array (Int×Value)}{t:SetTable}{ps:Vw}{pn:Nat}{ot:Obj}{e:Int×Value}{Q:Option Value->Shared->Prop}(hit:vk s.heap I a (.ref tp) i n ep)(ha:vo s.heap a es ep t)(hf:t.fits es.size=true)(hn:es.size=n)
  (ht:s.heap.get? tp=some ot) (htd:ot.data = .seq ps pn) (hp:ps[i]?=some (rawInt p)) (he:es[p]?=some e)
  (q:∀h',vk h' I a (.ref tp) (i+1) n ep->Heap.SameBut I s.heap h'->Q (some e.2) { s with heap:=h' }):wpAny (model prog w) A (pyNext (.ref I)) Q E s:=by
 obtain⟨o,ho,hc,hd⟩:=id hit
 obtain⟨oa,hoa,hx,hda⟩:=id ha
 unfold pyNext
 refine wpAny_bind (wpAny_attempt (wpAny_callSpecial?_slot (name:=Str.ofString "__next__") hit.typeIs u9 (wpAny_call_entry u9 hit.typeIs bw ?_ (bG _))))
 unfold Builtin.«set_iterator.__next__»
 refine wpAny_bind (wpAny_pure ?_)
 refine wpAny_bind (wpAny_fieldsOf ho hd ?_)
 dsimp only
 refine wpAny_bind (m:=setEntries a) (wpAny_bind (wpAny_setState_of hoa hda hf (wpAny_pure ?_)))
 rw[if_neg (by rw[hn];simp)]
 refine wpAny_bind (wpAny_seqItems ht htd ?_)
 dsimp only
 rw[show(Int.toNat (i:Int))=i from rfl,hp]
 simp only[rawInt]
 refine wpAny_bind (m:=setNextDrawn a _ _) ?_
 unfold setNextDrawn
 refine wpAny_bind (wpAny_setState_of hoa hda hf ?_)
 dsimp only
 rw[if_neg (by simp)]
 simp only[Int.toNat_natCast,he]
 refine wpAny_pure ?_
 refine wpAny_bind (wpAny_setField ho hd (by simp) ?_)
 have hit':vk (s.heap.update I (Obj.mapFields (·.setIfInBounds 1 (rawInt ((i:Int)+1))))) I a (.ref tp) (i+1) n ep:=
  ⟨_,Heap.get?_update_self _ ho (Obj.isFreed_of_fields (Obj.data_mapFields hd _)),(Obj.cls_mapFields ..).trans hc,by rw[Obj.data_mapFields hd];simp[rawInt]⟩
 exact wpAny_pure ⟨_,rfl,wpAny_pure (q _ hit' (Heap.SameBut.update ..))⟩
end
section
variable {prog:Program} {w:World} {A:Around} {E:Vq} {s:Shared} {a:Addr} {es:Array (Int×Value)} {ep:Nat} {t:SetTable}
def dZ{Q:Bool->Shared->Prop}(q:Q (w.params.followText "set-order") s):wpAny (model prog w) A setsByText Q E s:=by
 unfold setsByText
 exact wpAny_bind (wpAny_askSetting (wpAny_pure q))
def sJ{given slot:Nat}{Q:Option (Value×Nat)->Shared->Prop}(ha:vo s.heap a es ep t)(hf:t.fits es.size=true)(hb:w.params.followText "set-order" = true)
  (q:Q (((pickOrder (w.params.setOrder a ep) es)[given]?).map fun e=>(e.2,slot)) s):wpAny (model prog w) A (setNext a slot given ep) Q E s:=by
 obtain⟨oa,hoa,hx,hda⟩:=id ha
 unfold setNext
 refine wpAny_bind (wpAny_setState_of hoa hda hf ?_)
 dsimp only
 refine wpAny_bind (dZ ?_)
 rw[if_pos hb,if_neg (by simp)]
 refine wpAny_bind (m:=setWalk a) ?_
 unfold setWalk
 refine wpAny_bind (wpAny_setState_of hoa hda hf ?_)
 dsimp only
 refine wpAny_bind (dZ ?_)
 rw[if_pos hb]
 exact wpAny_bind (wpAny_askSetting (wpAny_pure (wpAny_pure q)))
def sK{given slot:Nat}{Q:Option (Value×Nat)->Shared->Prop}(ha:vo s.heap a es ep t)(hf:t.fits es.size=true)(hb:w.params.followText "set-order" = false)(h1:es.size<=1)(hl:t.led=true)
  (q:Q (match es[SetTable.below t.place slot]?,t.place[SetTable.below t.place slot]? with
   |some (_,x),some j=>some (x,j+1)
   |_,_=>none) s):wpAny (model prog w) A (setNext a slot given ep) Q E s:=by
 obtain⟨oa,hoa,hx,hda⟩:=id ha
 unfold setNext
 refine wpAny_bind (wpAny_setState_of hoa hda hf ?_)
 dsimp only
 refine wpAny_bind (dZ ?_)
 rw[if_neg (by rw[hb];simp)]
 show wpAny _ _ (if (!t.plain&&decide (es.size > 1))=true then _ else _) _ _ _
 rw[if_neg (by simp;omega)]
 refine wpAny_bind (wpAny_of_eq (a:=()) (show(if (!t.led&&!es.isEmpty)=true then unsupported "set:maker-not-led" else pure ())=pure () by rw[hl];rfl) ?_)
 exact wpAny_pure q
def gD{I:Addr}{i n slot:Nat}{r:Option (Value×Nat)}{Q:Option Value->Shared->Prop}(hh:A.handled=none)(hit:vk s.heap I a (.int slot 0) i n ep)(ha:vo s.heap a es ep t)(hf:t.fits es.size=true)(hn:es.size=n)
  (hs:∀{B:Around} {E':Vq} {R:Option (Value×Nat)->Shared->Prop},R r s->wpAny (model prog w) B (setNext a slot i ep) R E' s)
  (q1:∀x j h',r=some (x,j)->vk h' I a (.int j 0) (i+1) n ep->Heap.ExtBut I s.heap h'->Q (some x) { s with heap:=h' })
  (q2:∀h',r=none->Heap.ExtBut I s.heap h'->Q none { s with heap:=h' }):wpAny (model prog w) A (pyNext (.ref I)) Q E s:=by
 obtain⟨o,ho,hc,hd⟩:=id hit
 obtain⟨oa,hoa,hx,hda⟩:=id ha
 unfold pyNext
 refine wpAny_bind (wpAny_attempt (wpAny_callSpecial?_slot (name:=Str.ofString "__next__") hit.typeIs u9 (wpAny_call_entry u9 hit.typeIs bw ?_ (bG _))))
 unfold Builtin.«set_iterator.__next__»
 refine wpAny_bind (wpAny_pure ?_)
 refine wpAny_bind (wpAny_fieldsOf ho hd ?_)
 dsimp only
 refine wpAny_bind (m:=setEntries a) (wpAny_bind (wpAny_setState_of hoa hda hf (wpAny_pure ?_)))
 rw[if_neg (by rw[hn];simp)]
 simp only[Int.toNat_natCast]
 refine wpAny_bind (hs ?_)
 match r,q1,q2 with
 |some (x,j),q1,_=>
  dsimp only
  refine wpAny_bind (wpAny_setField ho hd (by simp) ?_)
  have g1:=Heap.get?_update_self (Obj.mapFields (·.setIfInBounds 0 (rawInt j))) ho (Obj.isFreed_of_fields (Obj.data_mapFields hd _))
  have d1:=Obj.data_mapFields hd (·.setIfInBounds 0 (rawInt j))
  refine wpAny_bind (wpAny_setField g1 d1 (by simp) ?_)
  have hit':vk ((s.heap.update I (Obj.mapFields (·.setIfInBounds 0 (rawInt j)))).update I (Obj.mapFields (·.setIfInBounds 1 (rawInt ((i:Int)+1))))) I a (.int j 0) (i+1) n ep:=
   ⟨_,Heap.get?_update_self _ g1 (Obj.isFreed_of_fields (Obj.data_mapFields d1 _)),(Obj.cls_mapFields ..).trans ((Obj.cls_mapFields ..).trans hc),by rw[Obj.data_mapFields d1];simp[rawInt]⟩
  exact wpAny_pure ⟨_,rfl,wpAny_pure (q1 x j _ rfl hit' fun b o hb e=>(Heap.SameBut.update ..).extBut b o hb ((Heap.SameBut.update ..).extBut b o hb e))⟩
 |none,_,q2=>
  dsimp only
  refine wpAny_bind (wpAny_setField ho hd (by simp) ?_)
  show wpAny _ _ (newExc (.type "StopIteration") [] >>= _) _ _ _
  refine wpAny_bind ?_
  simp only[newExc,newTuple]
  refine wpAny_bind (wpAny_newObj_type ?_ (by size_fits))
  refine wpAny_bind (m:=firstArgMember _ _) (wpAny_of_eq (a:=Value.none) (by first|rfl|(simp only[firstArgMember];rfl)) ?_)
  refine wpAny_newObj_type ?_ (by size_fits)
  simp only[raiseNew]
  refine wpAny_bind (wpAny_handled ?_)
  rw[show A.in1.handled=none from hh]
  refine wpAny_bind (wpAny_pure (wpAny_throw ?_))
  refine wpAny_bind (wpAny_isInstance (T:="StopIteration") (b:=true) ⟨_,Heap.get?_push_size _ rfl,rfl⟩ isSubtype_stop ?_)
  exact wpAny_pure (q2 _ rfl (((Heap.SameBut.update ..).extBut.push _).push _))
def sL{I tp:Addr}{i n:Nat}{ps:Vw}{pn:Nat}{ot:Obj}{Q:Option Value->Shared->Prop}(hh:A.handled=none)(hit:vk s.heap I a (.ref tp) i n ep)(ha:vo s.heap a es ep t)(hf:t.fits es.size=true)(hn:es.size=n)
  (ht:s.heap.get? tp=some ot) (htd:ot.data = .seq ps pn) (hp:ps[i]?=none)
  (q:∀h',Heap.ExtBut I s.heap h'->Q none { s with heap:=h' }):wpAny (model prog w) A (pyNext (.ref I)) Q E s:=by
 obtain⟨o,ho,hc,hd⟩:=id hit
 obtain⟨oa,hoa,hx,hda⟩:=id ha
 unfold pyNext
 refine wpAny_bind (wpAny_attempt (wpAny_callSpecial?_slot (name:=Str.ofString "__next__") hit.typeIs u9 (wpAny_call_entry u9 hit.typeIs bw ?_ (bG _))))
 unfold Builtin.«set_iterator.__next__»
 refine wpAny_bind (wpAny_pure ?_)
 refine wpAny_bind (wpAny_fieldsOf ho hd ?_)
 dsimp only
 refine wpAny_bind (m:=setEntries a) (wpAny_bind (wpAny_setState_of hoa hda hf (wpAny_pure ?_)))
 rw[if_neg (by rw[hn];simp)]
 refine wpAny_bind (wpAny_seqItems ht htd ?_)
 dsimp only
 rw[show(Int.toNat (i:Int))=i from rfl,hp]
 dsimp only
 refine wpAny_bind (wpAny_setField ho hd (by simp) ?_)
 have g1:=Heap.get?_update_self (Obj.mapFields (·.setIfInBounds 0 (rawInt 0))) ho (Obj.isFreed_of_fields (Obj.data_mapFields hd _))
 have d1:=Obj.data_mapFields hd (·.setIfInBounds 0 (rawInt 0))
 refine wpAny_bind (wpAny_setField g1 d1 (by simp) ?_)
 show wpAny _ _ (newExc (.type "StopIteration") [] >>= _) _ _ _
 refine wpAny_bind ?_
 simp only[newExc,newTuple]
 refine wpAny_bind (wpAny_newObj_type ?_ (by size_fits))
 refine wpAny_bind (m:=firstArgMember _ _) (wpAny_of_eq (a:=Value.none) (by first|rfl|(simp only[firstArgMember];rfl)) ?_)
 refine wpAny_newObj_type ?_ (by size_fits)
 simp only[raiseNew]
 refine wpAny_bind (wpAny_handled ?_)
 rw[show A.in1.handled=none from hh]
 refine wpAny_bind (wpAny_pure (wpAny_throw ?_))
 refine wpAny_bind (wpAny_isInstance (T:="StopIteration") (b:=true) ⟨_,Heap.get?_push_size _ rfl,rfl⟩ isSubtype_stop ?_)
 refine wpAny_pure (q _ (Heap.ExtBut.push (Heap.ExtBut.push (fun b o hb e=>(Heap.SameBut.update ..).extBut b o hb ((Heap.SameBut.update ..).extBut b o hb e)) _) _))
end
section
variable {prog:Program} {w:World} {A:Around} {E:Vq} {s:Shared} {a:Addr} {es:Array (Int×Value)} {ep:Nat} {t:SetTable}
def du{I:Addr}{h h':Heap}(hs:Heap.ExtBut I h h'):∀b o,b ∉ [I]->h.get? b=some o->h'.get? b=some o:=fun b o hb e=>hs b o (fun x=>hb (by simp[x])) e
def oh(hh:A.handled=none)(I:Addr)(hne:a≠I)(hf:t.fits es.size=true)(hb:w.params.followText "set-order" = true) :
  Walks prog w A I [I,a] [I] es.size (fun i v=>((pickOrder (w.params.setOrder a ep) es).toList.map (·.2))[i]?=some v) (fun i h=>vk h I a (.int 0 0) i es.size ep/\vo h a es ep t) where
 sub:=fun b hb=>by simp at hb;simp[hb]
 frame:=fun _ _ _ st hk=>⟨st.1.at_ fun o e=>hk I (by simp) o e,st.2.at_ fun o e=>hk a (by simp) o e⟩
 item:=fun i s Q E hi st hQ=>by
  refine gD hh st.1 st.2 hf rfl (fun q=>sJ st.2 hf hb q) (fun x j h' e hit hs=>?_) fun h' e hs=>?_
  ·obtain⟨p,hp,e⟩:=Option.map_eq_some_iff.mp e
   cases e
   exact hQ _ h' s.toks (by rw[List.getElem?_map,Array.getElem?_toList,hp];rfl) ⟨hit,st.2.at_ fun o e=>hs a o hne e⟩ (du hs)
  ·have hl:=(dt (w.params.setOrder a ep) es).length_eq
   simp only[Array.length_toList]at hl
   rw[Option.map_eq_none_iff,Array.getElem?_eq_none_iff]at e
   omega
 done:=fun s Q E st hQ=>by
  refine gD hh st.1 st.2 hf rfl (fun q=>sJ st.2 hf hb q) (fun x j h' e hit hs=>?_) fun h' e hs=>hQ h' s.toks (du hs)
  have hl:=(dt (w.params.setOrder a ep) es).length_eq
  simp only[Array.length_toList]at hl
  rw[Array.getElem?_eq_none (by omega)]at e
  cases e
 self:=fun _ _ _ _ st hQ=>i3 st.1 hQ
def l_(p:Nat):SetTable.below #[p] 0=0:=by simp[SetTable.below,SetTable.below.go]
def qF(p:Nat):SetTable.below #[p] (p+1)=1:=by simp[SetTable.below,SetTable.below.go]
def qG{α:Type}{x:Array α}(h:x.size=1):∃e,x=#[e]:=by
 obtain⟨l⟩:=x
 match l,h with
 |[e],_=>exact⟨e,rfl⟩
def oi(hh:A.handled=none)(I:Addr)(hne:a≠I)(hf:t.fits es.size=true)(hb:w.params.followText "set-order" = false)(h1:es.size<=1)(hl:t.led=true) :
  Walks prog w A I [I,a] [I] es.size (fun i v=>(es.toList.map (·.2))[i]?=some v) (fun i h=>vk h I a (.int (if i=0 then 0 else t.place.getD 0 0+1:Nat) 0) i es.size ep/\vo h a es ep t) where
 sub:=fun b hb=>by simp at hb;simp[hb]
 frame:=fun _ _ _ st hk=>⟨st.1.at_ fun o e=>hk I (by simp) o e,st.2.at_ fun o e=>hk a (by simp) o e⟩
 item:=fun i s Q E hi st hQ=>by
  have hs1:es.size=1:=by omega
  have hi0:i=0:=by omega
  subst hi0
  have hp:t.place.size=1:=by simp only[SetTable.fits,Bool.and_eq_true,beq_iff_eq]at hf;omega
  obtain⟨p,hp⟩:∃p,t.place=#[p]:=qG hp
  obtain⟨e,he⟩:∃e,es=#[e]:=qG hs1
  refine gD hh st.1 st.2 hf rfl (fun q=>sK st.2 hf hb h1 hl q) (fun x j h' e' hit hs=>?_) fun h' e' hs=>?_
  ·simp only[if_true,hp,l_]at e'
   rw[he]at e'
   simp at e'
   obtain⟨rfl,rfl⟩:=e'
   exact hQ _ h' s.toks (by rw[he];rfl) ⟨by simpa [hp]using hit,st.2.at_ fun o e=>hs a o hne e⟩ (du hs)
  ·simp only[if_true,hp,l_]at e'
   rw[he]at e'
   simp at e'
 done:=fun s Q E st hQ=>by
  refine gD hh st.1 st.2 hf rfl (fun q=>sK st.2 hf hb h1 hl q) (fun x j h' e' hit hs=>?_) fun h' e hs=>hQ h' s.toks (du hs)
  have hps:t.place.size=es.size:=by simp only[SetTable.fits,Bool.and_eq_true,beq_iff_eq]at hf;exact hf.1
  by_cases h0:es.size=0
  ·have he:es=#[]:=Array.eq_empty_of_size_eq_zero h0
   rw[he]at e'
   simp at e'
  ·have hs1:es.size=1:=by omega
   obtain⟨p,hp⟩:∃p,t.place=#[p]:=qG (by omega)
   rw[hs1]at e'
   simp only[Nat.one_ne_zero,if_false,hp,show(#[p]:Array Nat).getD 0 0=p from rfl,qF]at e'
   rw[show es[1]?=none from Array.getElem?_eq_none (by omega)]at e'
   cases e'
 self:=fun _ _ _ _ st hQ=>i3 st.1 hQ
def oj(hh:A.handled=none)(I tp:Addr)(hne:a≠I)(hnt:tp≠I)(hf:t.fits es.size=true)(ps:List Nat)(hps:ps.Perm (List.range es.size)) :
  Walks prog w A I [I,a,tp] [I] es.size (fun i v=>(ps.map fun p=>((es[p]?.map (·.2)).getD .none))[i]?=some v) (fun i h=>vk h I a (.ref tp) i es.size ep/\vo h a es ep t/\∃ot pn,h.get? tp=some ot/\ot.data = .seq (ps.map fun(p:Nat)=>rawInt p).toArray pn) where
 sub:=fun b hb=>by simp at hb;simp[hb]
 frame:=fun _ _ _ st hk=>⟨st.1.at_ fun o e=>hk I (by simp) o e,st.2.1.at_ fun o e=>hk a (by simp) o e,let ⟨ot,pn,h1,h2⟩:=st.2.2;⟨ot,pn,hk tp (by simp) ot h1,h2⟩⟩
 item:=fun i s Q E hi st hQ=>by
  obtain⟨st1,st2,ot,pn,h1,h2⟩:=st
  have hl:ps.length=es.size:=by rw[hps.length_eq];simp
  have hi':i < ps.length:=by omega
  have hm:ps[i] < es.size:=List.mem_range.mp (hps.mem_iff.mp (List.getElem_mem hi'))
  refine qE (p:=ps[i]) (e:=es[ps[i]]) st1 st2 hf rfl h1 h2 (by simp[hi']) (by simp[hm]) fun h' hit hs=>?_
  exact hQ _ h' s.toks (by simp[hi',hm]) ⟨hit,st2.at_ fun o e=>hs.extBut a o hne e,ot,pn,hs.extBut tp ot hnt h1,h2⟩ (du hs.extBut)
 done:=fun s Q E st hQ=>by
  obtain⟨st1,st2,ot,pn,h1,h2⟩:=st
  have hl:ps.length=es.size:=by rw[hps.length_eq];simp
  exact sL hh st1 st2 hf rfl h1 h2 (by simp[hl]) fun h' hs=>hQ h' s.toks (du hs)
 self:=fun _ _ _ _ st hQ=>i3 st.1 hQ
end
section
variable {prog:Program} {w:World} {A:Around} {E:Vq} {s:Shared} {a:Addr} {es:Array (Int×Value)} {ep:Nat} {t:SetTable}
def kq{Q:Bool->Shared->Prop}(ha:vo s.heap a es ep t)(hf:t.fits es.size=true)(q:Q (!(w.params.followText "set-order")&&(!t.plain&&decide (es.size > 1))) s):wpAny (model prog w) A (setDrawn a) Q E s:=by
 obtain⟨oa,hoa,hx,hda⟩:=id ha
 unfold setDrawn
 refine wpAny_bind (wpAny_setState_of hoa hda hf ?_)
 dsimp only
 refine wpAny_bind (dZ ?_)
 exact wpAny_pure q
def Wk(prog:Program)(w:World)(I:Addr)(fp:List Addr)(es:Array (Int×Value))(ord:Vv)(St:Nat->Heap->Prop):Prop:=
 ord.Perm (es.toList.map (·.2))/\I∈fp/\∀(B:Around),B.handled=none->Walks prog w B I fp [I] es.size (fun i v=>ord[i]?=some v) St
def kr(es:Array (Int×Value)):((List.range es.size).map fun p=>((es[p]?.map (·.2)).getD .none))=es.toList.map (·.2):=by
 refine List.ext_getElem (by simp) fun i h1 h2=>?_
 have hi:i < es.size:=by simpa using h1
 simp[hi]
def qH{Q:Vq}(ha:vo s.heap a es ep t)(hf:t.fits es.size=true)(wI:t.led=bQ w)(hpl:1 < es.size->t.plain=false)(y7:es.size<=60)
  (q:∀I fp ord St g d,s.heap.objs.size<=I->Wk prog w I fp es ord St->St 0 g->(∀b∈fp,b < g.objs.size/\(b=a\/s.heap.objs.size<=b))->(∀b o,s.heap.get? b=some o->g.get? b=some o)->Q (.ref I) { s with heap:=g,drawn:=d }) :
  wpAny (model prog w) A (pyIter (.ref a)) Q E s:=by
 obtain⟨oa,hoa,hx,hda⟩:=id ha
 have hT:s.TypeIs (.ref a) "set":=⟨oa,hoa,hx.1⟩
 have xT:=Heap.lt_size hoa
 refine wpAny_pyIter_slot hT F.slot_set_iter (wpAny_call_entry F.slot_set_iter hT eO ?_ (F.args_set_iter_1 _))
 unfold Builtin.«frozenset.__iter__»
 refine wpAny_bind (m:=Builtin.Frozenset.slot0 _ _) (wpAny_pure ?_)
 refine wpAny_bind (m:=Builtin.Frozenset.sizeOf a) ?_
 unfold Builtin.Frozenset.sizeOf setEntries
 refine wpAny_bind (wpAny_bind (wpAny_setState_of hoa hda hf (wpAny_pure (wpAny_pure ?_))))
 dsimp only
 refine wpAny_bind (kq ha hf ?_)
 by_cases hb:w.params.followText "set-order" = true
 ·rw[if_neg (by simp[hb])]
  refine wpAny_bind (wpAny_pure ?_)
  refine wpAny_bind (wpAny_setEpoch_of hoa hda hf ?_)
  refine wpAny_bind (m:=newFields _ _) (wpAny_newObj_type (wpAny_pure ⟨_,rfl,"set_iterator",_,⟨_,Heap.get?_push_size _ rfl,rfl⟩,u9.lookup,?_⟩))
  have hne:a≠s.heap.objs.size:=Nat.ne_of_lt xT
  refine q s.heap.objs.size [s.heap.objs.size,a] _ _ _ s.drawn (Nat.le_refl _) ⟨(dt (w.params.setOrder a ep) es).map (·.2),by simp,fun B hB=>oh (t:=t) hB _ hne hf hb⟩ ⟨⟨_,Heap.get?_push_size _ rfl,rfl,by simp[rawInt]⟩,ha.at_ fun o e=>Heap.get?_push_of_some _ e⟩ (fun b hb=>?_) fun b o e=>Heap.get?_push_of_some _ e
  rw[Heap.size_push]
  simp at hb
  rcases hb with rfl|rfl
  ·exact⟨Nat.lt_succ_self _,.inr (Nat.le_refl _)⟩
  ·exact⟨Nat.lt_succ_of_lt xT,.inl rfl⟩
 ·have hb':w.params.followText "set-order" = false:=by simpa using hb
  by_cases h1:1 < es.size
  ·rw[if_pos (by simp[hb',hpl h1,h1])]
   refine wpAny_bind (il es.size (List.range es.size) _ (by simp) fun ps d hp=>?_)
   have AF:ps.length<=60:=by rw[hp.length_eq];simpa using y7
   refine wpAny_bind (wpAny_newTuple ?_ (by rw[List.length_map];exact Nat.le_trans AF (by rw[sizeLine_eq];omega)))
   have e1:(s.heap.push { cls:=.type "tuple",data:=.seq (ps.map fun(p:Nat)=>rawInt p).toArray }).get? a=some oa:=Heap.get?_push_of_some _ hoa
   refine wpAny_bind (wpAny_setEpoch_of e1 hda hf ?_)
   refine wpAny_bind (m:=newFields _ _) (wpAny_newObj_type (wpAny_pure ⟨_,rfl,"set_iterator",_,⟨_,Heap.get?_push_size _ rfl,rfl⟩,u9.lookup,?_⟩))
   dsimp only
   generalize hH:s.heap.push { cls:=.type "tuple",data:=.seq (ps.map fun(p:Nat)=>rawInt p).toArray }=H at e1 ⊢
   have hsz:H.objs.size=s.heap.objs.size+1:=by rw[<-hH,Heap.size_push]
   have hne:a≠H.objs.size:=by rw[hsz];exact Nat.ne_of_lt (Nat.lt_succ_of_lt xT)
   have hnt:s.heap.objs.size≠H.objs.size:=by rw[hsz];exact Nat.ne_of_lt (Nat.lt_succ_self _)
   have gt:H.get? s.heap.objs.size=some { cls:=.type "tuple",data:=.seq (ps.map fun(p:Nat)=>rawInt p).toArray }:=by rw[<-hH];exact Heap.get?_push_size _ rfl
   refine q H.objs.size [H.objs.size,a,s.heap.objs.size] _ _ _ d (by rw[hsz];exact Nat.le_succ _) ⟨?_,by simp,fun B hB=>oj (t:=t) hB _ s.heap.objs.size hne hnt hf ps hp⟩ ⟨⟨_,Heap.get?_push_size _ rfl,rfl,by simp[rawInt]⟩,⟨oa,Heap.get?_push_of_some _ e1,hx,hda⟩,_,_,Heap.get?_push_of_some _ gt,rfl⟩ (fun b hb=>?_) fun b o e=>Heap.get?_push_of_some _ (hH▸Heap.get?_push_of_some _ e)
   ·rw[<-kr];exact hp.map _
   ·rw[Heap.size_push,hsz]
    simp at hb
    rcases hb with rfl|rfl|rfl
    ·rw[hsz];exact⟨Nat.lt_succ_self _,.inr (Nat.le_succ _)⟩
    ·exact⟨Nat.lt_succ_of_lt (Nat.lt_succ_of_lt xT),.inl rfl⟩
    ·exact⟨Nat.lt_succ_of_lt (Nat.lt_succ_self _),.inr (Nat.le_refl _)⟩
  ·rw[if_neg (by simp[h1])]
   refine wpAny_bind (wpAny_pure ?_)
   refine wpAny_bind (wpAny_setEpoch_of hoa hda hf ?_)
   refine wpAny_bind (m:=newFields _ _) (wpAny_newObj_type (wpAny_pure ⟨_,rfl,"set_iterator",_,⟨_,Heap.get?_push_size _ rfl,rfl⟩,u9.lookup,?_⟩))
   have hne:a≠s.heap.objs.size:=Nat.ne_of_lt xT
   refine q s.heap.objs.size [s.heap.objs.size,a] _ _ _ s.drawn (Nat.le_refl _) ⟨List.Perm.refl _,by simp,fun B hB=>oi (t:=t) (ep:=ep) hB _ hne hf hb' (by omega) (by rw[wI];simp[bQ,hb'])⟩ ⟨⟨_,Heap.get?_push_size _ rfl,rfl,by simp[rawInt]⟩,ha.at_ fun o e=>Heap.get?_push_of_some _ e⟩ (fun b hb=>?_) fun b o e=>Heap.get?_push_of_some _ e
   rw[Heap.size_push]
   simp at hb
   rcases hb with rfl|rfl
   ·exact⟨Nat.lt_succ_self _,.inr (Nat.le_refl _)⟩
   ·exact⟨Nat.lt_succ_of_lt xT,.inl rfl⟩
end
section
variable {prog:Program} {w:World} {A:Around} {E:Vq} {s:Shared} {a:Addr} {es:Array (Int×Value)} {ep:Nat} {t:SetTable}
def eP:typeLookup (.type "set") "__len__" = pure (some (.builtin "set.__len__")):=F.slot_set_len.lookup
def ma{Q:Bool->Shared->Prop}(hT:s.TypeIs (.ref a) "set")(q:Q false s):wpAny (model prog w) A (Builtin.List.listLengthHint (.ref a)) Q E s:=by
 unfold Builtin.List.listLengthHint
 refine wpAny_bind (wpAny_specialOf hT eP ?_)
 dsimp only
 rw[show splitId "set.__len__" = some ("set","__len__") by decide +kernel]
 dsimp only
 refine wpAny_bind (wpAny_isInstance hT sub_set_self ?_)
 rw[if_neg (by simp)]
 rw[if_pos (by decide +kernel)]
 refine wpAny_bind (wpAny_typeOf hT ?_)
 exact wpAny_pure q
def md{ord:Vv}{acc:Vw}{n:Nat}(hl:ord.length=n)(h:ItemsOf (fun i v=>ord[i]?=some v) acc n):acc.toList=ord:=by
 refine List.ext_getElem (by rw[Array.length_toList,h.1,hl]) fun i h1 h2=>?_
 have hi:i < acc.size:=by simpa using h1
 have:=h.2 i acc[i] (by simp[hi])
 dsimp only at this
 rw[List.getElem?_eq_getElem h2]at this
 simpa using(Option.some.inj this).symm
def kx{Q:List Value->Shared->Prop}(hh:A.handled=none)(ha:vo s.heap a es ep t)(hf:t.fits es.size=true)(wI:t.led=bQ w)(hpl:1 < es.size->t.plain=false)(y7:es.size<=60)
  (q:∀ord g d tk,ord.Perm (es.toList.map (·.2))->s.heap.objs.size<=g.objs.size->(∀b o,s.heap.get? b=some o->g.get? b=some o)->Q ord { s with heap:=g,drawn:=d,toks:=tk }):wpAny (model prog w) A (collect (.ref a)) Q E s:=by
 obtain⟨oa,hoa,hx,hda⟩:=id ha
 have xT:=Heap.lt_size hoa
 unfold collect
 refine wpAny_bind (wpAny_runValue (codeAny_builtin F.entry_proto_collect ?_))
 rw[Around.under_plainId F.plain_proto_collect _]
 show wpAny _ A.in1 (newList [] >>= fun l=>again (.builtin "list.__iadd__" ⟨[l,.ref a],[]⟩)) _ _ s
 refine wpAny_bind (wpAny_newObj_type ?_)
 refine wpAny_pure ⟨plainId_quiet F.plain_list_iadd _,codeAny_builtin F.entry_list_iadd ?_⟩
 rw[Around.under_plainId F.plain_list_iadd _]
 show wpAny _ A.in1 (Builtin.List.listExtendWith (.ref s.heap.objs.size) (.ref a) (.ref s.heap.objs.size)) _ _ _
 generalize hH:s.heap.push { cls:=.type "list",data:=.seq ([]:Vv).toArray }=H
 have hS1:H.get? s.heap.objs.size=some { cls:=.type "list",data:=.seq ([]:Vv).toArray }:=by rw[<-hH];exact Heap.get?_push_size _ rfl
 have ha1:vo H a es ep t:=ha.at_ fun o e=>by rw[<-hH];exact Heap.get?_push_of_some _ e
 have old:∀b o,s.heap.get? b=some o->H.get? b=some o:=fun b o e=>by rw[<-hH];exact Heap.get?_push_of_some _ e
 have hT:Shared.TypeIs { s with heap:=H } (.ref a) "set":=⟨oa,old _ _ hoa,hx.1⟩
 unfold Builtin.List.listExtendWith
 refine wpAny_bind (wpAny_typeOf hT ?_)
 have h1:Builtin.List.listSameRef (.ref s.heap.objs.size) (.ref a)=false:=by simp[Builtin.List.listSameRef];exact(Nat.ne_of_gt xT)
 have h2:(Value.type "set" == Value.type "list")=false:=by decide
 have h3:(Value.type "set" == Value.type "tuple")=false:=by decide
 simp only[h1,h2,h3,Bool.or_false,Bool.false_eq_true,if_false]
 refine wpAny_bind (qH (s:={ s with heap:=H }) ha1 hf wI hpl y7 fun I fp ord St g d hI W zv hfp ext=>?_)
 dsimp only at ext
 have z8:=ext _ _ hS1
 have AG:Shared.TypeIs { s with heap:=g,drawn:=d } (.ref a) "set":=⟨oa,ext _ _ (old _ _ hoa),hx.1⟩
 refine wpAny_bind (wpAny_holding (ma AG ?_))
 rw[if_pos (by decide +kernel)]
 refine wpAny_bind (wpAny_rule ?_)
 have yL:H.objs.size=s.heap.objs.size+1:=by rw[<-hH,Heap.size_push]
 have hSf:s.heap.objs.size ∉ fp:=fun hm=>by
  rcases(hfp _ hm).2 with h|h
  ·exact absurd h (Nat.ne_of_gt xT)
  ·dsimp only at h;rw[yL]at h;omega
 refine wpAny_bind ?_
 show wpAny _ A.in1 (updateSeq s.heap.objs.size (·.push .none) >>= fun _=>updateSeq s.heap.objs.size (·.pop)) _ _ _
 refine wpAny_bind (wpAny_updateSeq z8 rfl ?_)
 have yW:=Heap.get?_update_self (Obj.mapSeq (·.push Value.none)) z8 rfl
 refine wpAny_updateSeq yW rfl ?_
 have AH:=Heap.get?_update_self (Obj.mapSeq (·.pop)) yW rfl
 have yH:∀b o,b≠s.heap.objs.size->g.get? b=some o->((g.update s.heap.objs.size (Obj.mapSeq (·.push Value.none))).update s.heap.objs.size (Obj.mapSeq (·.pop))).get? b=some o:=
  fun b o hb e=>(Heap.get?_update_other _ _ (Ne.symm hb)).trans ((Heap.get?_update_other _ _ (Ne.symm hb)).trans e)
 have hlen:ord.length=es.size:=by rw[W.1.length_eq];simp
 have WS:=(W.2.2 A.in1 (by simp[hh])).toS
 refine wpAny_pure ⟨plainId_quiet F.plain_extend_loop _,codeAny_extend_loopS WS (Nat.le_trans y7 (by rw[sizeLine_eq];omega)) _ hSf _ es.size 0 _ _ _ rfl (Nat.zero_le _)
  ((W.2.2 A.in1 (by simp[hh])).frame 0 g _ zv (fun b hb o e=>yH b o (fun h=>hSf (h▸hb)) e)) AH (ItemsOf.nil _) fun s' acc' c' hm hS' hacc=>?_⟩
 show wpAny _ A (load s.heap.objs.size >>= _) _ _ s'
 refine wpAny_bind (wpAny_load hS' ?_)
 refine wpAny_pure ?_
 obtain⟨g',gn,d',tk',os2⟩:=s'
 have eg:gn=s.gens:=hm.gens
 have ed:d'=d:=hm.drawn
 have eo:os2=s.os:=hm.os
 subst eg;subst ed;subst eo
 show Q acc'.toList _
 rw[md hlen hacc]
 refine q ord g' d' tk' W.1 (Nat.le_of_lt (Heap.lt_size hS')) fun b o e=>?_
 have lb:=Heap.lt_size e
 dsimp only at hI
 rw[yL]at hI
 refine hm.heap b o (fun h=>?_) (yH b o (Nat.ne_of_lt lb) (ext _ _ (old _ _ e)))
 simp only[List.mem_cons,List.not_mem_nil,or_false]at h
 rcases h with h|h
 ·exact absurd h (Nat.ne_of_lt lb)
 ·rw[h]at lb;exact absurd (Nat.lt_trans lb hI) (Nat.lt_irrefl _)
end
theorem dJ{α:Type} [DecidableEq α]:∀(l m:List α),l.Nodup->l.length=m.length->(∀x∈l,x∈m)->l.Perm m
 |[],m,_,h,_=>by rw[List.length_eq_zero_iff.mp h.symm]
 |x::l,m,hn,h,hs=>by
  have hx:x∈m:=hs x (by simp)
  have hp:m.Perm (x::m.erase x):=List.perm_cons_erase hx
  have hn':=List.nodup_cons.mp hn
  refine(List.Perm.cons x (dJ l (m.erase x) hn'.2 ?_ fun y hy=>?_)).trans hp.symm
  ·rw[List.length_erase_of_mem hx,<-h];simp
  ·have:y∈x::m.erase x:=hp.mem_iff.mp (hs y (by simp[hy]))
   rcases List.mem_cons.mp this with e|e
   ·exact absurd (e▸hy) hn'.1
   ·exact e
section
variable {prog:Program} {w:World} {A:Around} {E:Vq} {s:Shared} {a:Addr}
def gf{es:Array (Int×Value)}{ss:Vs}(hel:ElemsOf (PySem.strKind prog w) es.toList)(hm:∀k,k∈ss↔∃e∈es.toList,(PySem.strKind prog w).is k e.2=true)(hn:es.size=ss.length)(hnd:ss.Nodup){ord:Vv}(hp:ord.Perm (es.toList.map (·.2))) :
  StrsAre ord (ord.map strOf)/\(ord.map strOf).Perm ss:=by
 have hall:∀v,v∈ord->∃x t,v = .str x t:=fun v hv=>by
  obtain⟨e,he,rfl⟩:=List.mem_map.mp (hp.mem_iff.mp hv)
  obtain⟨⟨k,hk,_⟩,_⟩:=hel e he
  obtain⟨t,ht⟩:=Value.isStrOf_shape hk
  exact⟨k,t,ht⟩
 refine⟨strsAre_map ord hall,(dJ ss _ hnd ?_ fun k hk=>?_).symm⟩
 ·rw[List.length_map,hp.length_eq,<-hn];simp
 ·obtain⟨e,he,hk⟩:=(hm k).mp hk
  obtain⟨t,ht⟩:=Value.isStrOf_shape hk
  exact List.mem_map.mpr ⟨e.2,hp.mem_iff.mpr (List.mem_map.mpr ⟨e,he,rfl⟩),by rw[ht];rfl⟩
def i4{ss:Vs}{Q:Vq}(hh:A.handled=none)(hS:v8 prog w s.heap a (bQ w) ss)(hn:ss.length < 60)
  (q:∀l out ss' e g d tk,g.get? l=some (seqObj "list" out e)->StrsAre out.toList ss'->ss'.Perm ss->sortedS ss'=true->s.heap.objs.size<=l->(∀b o,s.heap.get? b=some o->g.get? b=some o)->Q (.ref l) { s with heap:=g,drawn:=d,toks:=tk }) :
  wpAny (model prog w) A (call (.builtin "sorted") [.ref a]) Q E s:=by
 obtain⟨o,es,ep,t,ho,hx,hd,hel,hm,hsz,hnd,hf,wI,hpl⟩:=hS
 refine Calls.call_function_entry kind_sorted plain_sorted entry_sorted (args_sorted1 _) ?_
 unfold Builtin.«sorted»
 refine wpAny_bind (m:=checkCount "sorted" 1 1 _) (wpAny_pure ?_)
 refine wpAny_bind (kx (by simp[hh]) ⟨o,ho,hx,hd⟩ hf wI (fun h=>hpl fun e=>by rw[e,List.length_nil]at hsz;omega) (by omega) fun ord g d tk hp hle ext=>?_)
 obtain⟨hS,z9⟩:=gf hel hm hsz hnd hp
 have hlen:ord.length < 60:=by rw[<-List.length_map (as:=ord) strOf,z9.length_eq];exact hn
 refine wpAny_bind (wpAny_newList ?_)
 have yB:(g.push (seqObj "list" ord.toArray 0)).get? g.objs.size=some (seqObj "list" ord.toArray 0):=Heap.get?_push_size _ rfl
 refine wpAny_bind (wpAny_holding (wpAny_call_entry slot_list_sort ⟨_,yB,rfl⟩ entry_list_sort (list_sort_treeK strKind_oneLt yB hS.keysOf (fun v₁ v₂ rest e=>keyKind_strs (by rw[<-e];exact hS)) (by omega) fun st' a1 a2=>⟨_,rfl,?_⟩) (args_list_sort _)))
 obtain⟨ss',h1,h2,h3⟩:=sorted_out_str hS a1 a2
 obtain⟨e,he⟩:=sortedHeap_at (out:=(arrOf st').map (·.2)) yB
 refine wpAny_pure ⟨_,rfl,q _ _ ss' e _ d tk he h1 (h2.trans z9) h3 hle fun b o' eb=>?_⟩
 have lb:=Heap.lt_size (ext _ _ eb)
 rw[sortedHeap_old (Nat.ne_of_lt lb) (by rw[Heap.size_push];exact Nat.lt_succ_of_lt lb)]
 exact Heap.get?_push_of_some _ (ext _ _ eb)
end
end Sa
namespace L2
open PySem PySem.Spec PyProof.Rows
section
variable {X:Cx} {pins:Va} {σ:List (Option V)} {H:Hp} {s:Shared}
def Inv.dr(I:Inv X pins σ H s)(d:Drawn):Inv X pins σ H { s with drawn:=d }:=⟨I.ok,I.os,I.bare,I.base,I.loc,I.cell,I.free,I.vI,I.pin,I.hok,I.len⟩
theorem eQ:∀{ns:Vs} {us:Vv},Vals (ns.map V.str) us->StrsAre us ns
 |[],_,h=>by cases h;exact .nil
 |n::ns,_,h=>by
  cases h with
  |cons r rs=>obtain⟨t,rfl⟩:=r;exact .cons n t (eQ rs)
theorem fN:∀{us:Vv} {ns:Vs},StrsAre us ns->Vals (ns.map V.str) us
 |_,_,.nil=>.nil
 |_,_,.cons y t r=>.cons ⟨t,rfl⟩ (fN r)
def uY(K:Vo)(t:TE):TE:=fun σ H Q=>t σ H fun x H1=>∃(p:Addr) (ns:Vs),x = .ref p/\SqL K H1 p (ns.map V.str)/\(Sa.dd ns).length < 60/\∀l ss,H1 l=none->ss.Perm (Sa.dd ns)->sortedS ss=true->Q (.ref l) (upd H1 l (.lst (ss.map V.str)))
variable {e:Expr} {te:TE} {p p2 pos pos2:Pos}
def om(hc:X.calm=true)(hg:Gl X "sorted")(hm:X.mg "sorted" = none)(ym:Gl X "set")(hm2:X.mg "set" = none)(ha:PE X e te)
  (hs1:starEach [.Call (.Name "set" p2) [e] [] pos2] X.env=[(false,eval (.Call (.Name "set" p2) [e] [] pos2) X.env)]:=by rfl) (hs2:starEach [e] X.env=[(false,eval e X.env)]:=by rfl) :
  PE X (.Call (.Name "sorted" p) [.Call (.Name "set" p2) [e] [] pos2] [] pos) (uY X.K te):=by
 intro pins s σ H Q I h
 have hh:=I.ok.hd hc
 refine wpAny_Call_Name_kw (bS I hg hm (by rfl) ?_ (by decide) (by decide))
 refine PyProof.Rows.callWith_builtin1 (id:="sorted") ?_ hs1 (by rfl)
 rw[hs1]
 refine Calls.spliced_cons ?_
 refine wpAny_Call_Name_kw (bS I ym hm2 (by rfl) ?_ (by decide) (by decide))
 refine PyProof.Rows.callWith_type1 (T:="set") ?_ hs2 (by rfl)
 rw[hs2]
 refine Calls.spliced_cons (va (ha pins s σ H _ I h) fun u s1 ⟨x,H1,I1,r1,q1⟩=>Calls.spliced_nil ?_)
 obtain⟨a,ns,rfl,hl,hn,q⟩:=q1
 cases r1
 obtain⟨its,rv,pl,hz⟩:=I1.list hl
 have hS:StrsAre its ns:=eQ rv
 refine Sa.l9 hh pl.isList (by simpa using hS) hn fun g tk yM keep=>Calls.spliced_nil ?_
 refine Sa.i4 hh yM hn fun l out ss e g2 d AI hl2 ho hp hso hnew ext=>?_
 have lt:s1.heap.objs.size < g.objs.size:=by obtain⟨o,_,_,_,ho,_⟩:=yM;exact Heap.lt_size ho
 have hle:s1.heap.objs.size<=l:=Nat.le_trans (Nat.le_of_lt lt) hnew
 have k:∀b u,s1.heap.get? b=some u->g2.get? b=some u:=fun b u e=>ext b u (keep b u (Heap.lt_size e) e)
 refine⟨.ref l,upd H1 l (.lst (ss.map V.str)),((I1.laid (t':=AI) (o:=.lst (ss.map V.str)) k hle ?_).dr d),rfl,q l ss (I1.hok.fresh hle) hp hso⟩
 have hlen2:ss.length<=60:=by rw[hp.length_eq];exact Nat.le_of_lt hn
 exact⟨by rw[List.length_map];exact Nat.le_trans hlen2 (by rw[sizeLine_eq];omega),out.toList,e,fN ho,by rw[hl2]⟩
end
end L2
namespace L3
open PySem L2
section
variable {X:Cx} {e:Expr} {te:ax} {p p2 pos pos2:Pos}
def eR(te:ax):ax:=fun σ S Q E=>te σ S (fun v S1=>match v with
 | .ref a=>(match S1 a with|some (.lst xs)=>(match texts xs with|some ns=>(Sa.dd ns).length < 60/\∀l ss,S1 l=none->ss.Perm (Sa.dd ns)->PyProof.Rows.sortedS ss=true->Q (.ref l) (u6 S1 l (.lst (ss.map PV.str)))|none=>False)|_=>False)
 |_=>False) E
theorem fO{K:Vo}{H:Hp}:∀cs:List Str,Reps K H (cs.map V.str) (cs.map PV.str)
 |[]=>.nil
 |c::r=>.cons (.str _) (fO r)
def i5(hc:X.calm=true)(hg:Gl X "sorted")(hm:X.mg "sorted" = none)(ym:Gl X "set")(hm2:X.mg "set" = none)(ha:aI X e te)
  (hs1:starEach [.Call (.Name "set" p2) [e] [] pos2] X.env=[(false,eval (.Call (.Name "set" p2) [e] [] pos2) X.env)]:=by rfl) (hs2:starEach [e] X.env=[(false,eval e X.env)]:=by rfl) :
  aI X (.Call (.Name "sorted" p) [.Call (.Name "set" p2) [e] [] pos2] [] pos) (eR te):=
 ⟨ay (om hc hg hm ym hm2 ha.ok hs1 hs2) fun σ H Q ⟨σ3,S,Q3,E3,rσ,rS,h,xo,k⟩=>⟨σ3,S,_,E3,rσ,rS,h,xo,fun v S1 v' H1 h1 rv vf g1=>by
  dsimp only at h1
  split at h1
  ·cases rv
   split at h1
   ·rename_i ea
    split at h1
    ·rename_i eb
     obtain⟨vs,hv,rs⟩:=vf _ _ ea
     have e2:=cw rs eb
     subst e2
     refine⟨_,_,rfl,SqL.of hv,h1.1,fun l ss hl hp hso=>k _ _ _ _ (h1.2 l ss (vf.free hl) hp hso) (.ref l) (vf.new hl ⟨_,ak,fO ss⟩) (g1.trans (.new hl))⟩
    ·exact h1.elim
   ·exact h1.elim
  ·exact h1.elim⟩⟩
end
end L3
namespace L2
open PySem PySem.Spec PyProof.Rows
section
variable {X:Cx}
end
end L2
namespace L3
open PySem L2
section
variable {X:Cx}
end
end L3
namespace Sa
open PySem PyProof.Rows
def kC(a b:Str):Prop:=¬(b.cps.toList < a.cps.toList)
def ky{a b c:Str}(h1:kC a b)(h2:kC b c):kC a c:=by
 unfold kC at *
 rw[List.not_lt]at *
 exact List.le_trans h1 h2
def me{a b:Str}(h1:kC a b)(h2:kC b a):a=b:=by
 unfold kC at *
 rw[List.not_lt]at *
 have h:=List.le_antisymm h1 h2
 obtain⟨⟨x⟩⟩:=a
 obtain⟨⟨y⟩⟩:=b
 simp at h
 subst h
 rfl
theorem eS:∀(l:Vs) (p:Str),risingS p l=true->(p::l).Pairwise kC
 |[],p,_=>by simp
 |x::r,p,h=>by
  unfold risingS at h
  rw[Bool.and_eq_true]at h
  have hx:kC p x:=by
   have:=h.1
   rw[ltCps_eq]at this
   unfold kC
   simpa using this
  have ih:=eS r x h.2
  refine List.pairwise_cons.mpr ⟨fun y hy=>?_,ih⟩
  rcases List.mem_cons.mp hy with rfl|hy
  ·exact hx
  ·exact ky hx ((List.pairwise_cons.mp ih).1 y hy)
theorem fP:∀{l:Vs},sortedS l=true->l.Pairwise kC
 |[],_=>List.Pairwise.nil
 |x::r,h=>eS r x h
def i6{l m:Vs}(hl:sortedS l=true)(hm:sortedS m=true)(h:l.Perm m):l=m:=
 h.eq_of_pairwise (le:=kC) (fun a b _ _ h1 h2=>me h1 h2) (fP hl) (fP hm)
end Sa
namespace C
open PySem L2 L3 Wd
def jC{x:PV}{S:aj}{Q:bP}{t c:String}(h:j4 S x=some t)(hc:cN c=true)(q:Q (.bl (ff t c)) S):dg [x,.ty c] S Q:=by
 show(match j4 S x with|some t=>cN c=true/\Q (.bl (ff t c)) S|none=>False)
 rw[h];exact⟨hc,q⟩
theorem aV{α:Type}{g:Tg}{tc:dS}{te:ax}{σ':aZ}{keep:aj->Prop}{fin:List PV->aj->Prop}{S:aj}(enc f:α->PV)(c:α->Bool)(hk:keep S):∀(xs:List α) (ys:List PV),
  (∀x∈xs,∃σ2,g.put (enc x) σ'=some σ2/\(∀K:Bool->aj->Prop,K (c x) S->tc σ2 S K di)/\(c x=true->∀Q:bP,Q (f x) S->te σ2 S Q di))->ys.length+xs.length<=sizeLine->fin (ys++(xs.filter c).map f) S->bo g tc te σ' keep fin (xs.map enc) ys S
 |[],ys,_,hl,hf=>⟨hk,by simpa using hl,by simpa using hf⟩
 |x::r,ys,h,hl,hf=>by
  obtain⟨σ2,e,h1,h2⟩:=h x (by simp)
  refine⟨hk,by simp at hl;omega,?_⟩
  rw[e]
  refine h1 _ ?_
  by_cases hc:c x=true
  ·rw[if_pos hc]
   refine h2 hc _ (aV enc f c hk r (ys++[f x]) (fun y hy=>h y (by simp[hy])) (by simp at hl ⊢;omega) ?_)
   rw[List.filter_cons_of_pos hc]at hf
   simpa using hf
  ·rw[if_neg hc]
   refine aV enc f c hk r ys (fun y hy=>h y (by simp[hy])) (by simp at hl;omega) ?_
   rw[List.filter_cons_of_neg hc]at hf
   exact hf
end C
namespace G06
open PySem L2 L3
noncomputable def bR(i:Nat):Stmt:=PySem.Challenge.pw_dueworth_k06_parts_of_bodies.main.body.getD i (.Pass ⟨0,0,0,0⟩)
structure Txt (P:Program) (w:World) (K:Vo) (mg:Vr):Prop where
 o_sides_of:bv K mg "sides_of" (bR 2) ["body"]
 o_parts_in:bv K mg "parts_in" (bR 3) ["body"]
 o_parts:bv K mg "parts" (bR 4) ["body"]
 o_within:bv K mg "within" (bR 5) ["body"]
 o_names_in:bv K mg "names_in" (bR 6) ["body","heads"]
 o_jars_in:bv K mg "jars_in" (bR 7) ["body"]
 o_uses_in:bv K mg "uses_in" (bR 8) ["body"]
 o__law_deal:bv K mg "_law_deal" (bR 10) ["_law_script","_law_base"]
 o__law_draw:bv K mg "_law_draw" (bR 11) ["_law_deal_here","_law_many"]
 o__law_low:bv K mg "_law_low" (bR 12) ["_law_top","_law_bottom"]
 o__law_kept:bv K mg "_law_kept" (bR 13) []
 o__law_name:bv K mg "_law_name" (bR 14) ["_law_deal_here"]
 o__law_any_leaf:bv K mg "_law_any_leaf" (bR 15) ["_law_deal_here","_law_words"]
 o__law_any_body:bv K mg "_law_any_body" (bR 16) ["_law_deal_here","_law_words","_law_room","_law_down"]
 o__law_inner:bv K mg "_law_inner" (bR 17) ["_law_body"]
 o__law_all:bv K mg "_law_all" (bR 18) ["_law_body"]
 o__law_right:bv K mg "_law_right" (bR 19) ["_law_body"]
 v1:mg "isinstance" = none
 wq:mg "len" = none
 yp:mg "list" = none
 xm:mg "max" = none
 wn:mg "range" = none
 v9:mg "repr" = none
 w_:mg "reversed" = none
 xI:mg "set" = none
 wt:mg "sorted" = none
 yN:mg "str" = none
 xU:mg "tuple" = none
 wJ:∃a,mg "SIDES_FROM" = some (.ref a)/\KD P w K a (C.k_SIDES_FROM.map fun kv=>(kv.1,V.int kv.2))
section
variable {P:Program} {w:World} {K:Vo} {mg:Vr} {base:Heap}
def uk:(["side"]:Vs).Nodup:=by decide +kernel
def ul:(["part","heads"]:Vs).Nodup:=by decide +kernel
def qI:(["_law_one"]:Vs).Nodup:=by decide +kernel
def um:(["_law_k","_law_deal_here","_law_letters"]:Vs).Nodup:=by decide +kernel
def uo:(["_law_other","_law_down"]:Vs).Nodup:=by decide +kernel
def kz:(["_law_one","_law_down"]:Vs).Nodup:=by decide +kernel
def uq:(["_law_j","_law_deal_here"]:Vs).Nodup:=by decide +kernel
def bH:aH:=bu 1 C.cz
def dL(T:Txt P w K mg):wc P w K mg base 1 "sides_of" 1 bH:=ig ["body"] T.o_sides_of (fun _ _ _ _ _ _ _ hr nd=>(av (aF (dX (ai 0) (eh (uW hr T.wJ (mB hr (ai 0)) (cB er T.wq (l1 (ai 0))))) iR)))) rfl
noncomputable def bI:Nat->aH
 |0=>sE
 |n+1=>bu 3 (C.cA bH (bI n))
def cD:aH:=bI 12
def dM(T:Txt P w K mg):wc P w K mg base 13 "parts_in" 1 cD:=nW (b:=1) (r:=bI) T.o_parts_in (fun n R0=>ig ["body","found","side"] T.o_parts_in (fun _ _ _ _ _ _ _ hr nd=>(ae (s4 1 nd (ck (l1 (ai 0))))
  (ae (ju PassesOwn.never rfl (bY (c4 (dL T) hr (l1 (ai 0)))) (gn 2 nd) (av (eA (sF fM g_ (ai 1) (l1 (c4 R0 hr (l1 (ai 2))))))))
  (av (aF (ai 1)))))) rfl) rfl rfl 12
def gE:aH:=bu 1 (C.gy cD)
def mf(T:Txt P w K mg):wc P w K mg base 14 "parts" 1 gE:=ig ["body"] T.o_parts (fun _ _ _ _ _ _ _ hr nd=>(av (aF (cB er T.wq (l1 (c4 (dM T) hr (l1 (ai 0)))))))) rfl
def eT(vS s0:aH):a_:=(aL (ap a6 (c3 (.int 1)) (ap jy (aG (aM (ad vS [(v3 0)])) (.n 0) cQ (ad s0 [(v3 0)]) 1 []) (c3 (.int 0)))))
noncomputable def cU:Nat->aH
 |0=>sE
 |n+1=>bu 1 (eT bH (cU n))
def im:aH:=cU 12
def kA(T:Txt P w K mg):wc P w K mg base 13 "within" 1 im:=nW (b:=1) (r:=cU) T.o_within (fun n R0=>ig ["body"] T.o_within (fun _ _ _ _ _ _ _ hr nd=>(av (aF (aA aS ab (uX (qC rfl) T.xm (nY [] 1 [] ["side"] (bY (c4 (dL T) hr (l1 (ai 0)))) (fun _=>(gn 0 uk)) (fun _=>fG) (fun _=>(c4 R0 hr (l1 (ai 0))))) ab))))) rfl) rfl rfl 12
def cE(vT:aH):a_:=(aL (eR (aG (aM (ad vT [(v3 0)])) (.n 0) (bi (ap (ny false) (ap aE (v3 0) (c3 (.int 0))) (v3 1))) (ap aE (v3 0) (c3 (.int 1))) 1 [1])))
def bJ:aH:=bu 2 (cE cD)
def dN(T:Txt P w K mg):wc P w K mg base 14 "names_in" 2 bJ:=ig ["body","heads"] T.o_names_in (fun _ _ _ _ _ _ _ hr nd=>(av (aF (i5 rfl rfl T.wt rfl T.xI (nY ["heads"] 1 [1] ["part","heads"] (bY (c4 (dM T) hr (l1 (ai 0)))) (fun _=>(gn 0 ul)) (fun _=>(hU (bf (lD (lT hr)) (mB hr (ai 0)) (ai 1) rfl))) (fun _=>(mB hr (ai 0)))) rfl cb)))) rfl
def dv(vU:aH):a_:=(aL (ad vU [(v3 0),(ba [(c3 (.str "put")),(c3 (.str "take"))])]))
def fQ:aH:=bu 1 (dv bJ)
def i7(T:Txt P w K mg):wc P w K mg base 15 "jars_in" 1 fQ:=ig ["body"] T.o_jars_in (fun _ _ _ _ _ _ _ hr nd=>(av (aF (c4 (dN T) hr (lc (ai 0) (l1 (bm (lc ag (l1 ag))))))))) rfl
def dy(vU:aH):a_:=(aL (ad vU [(v3 0),(ba [(c3 (.str "use"))])]))
def fR:aH:=bu 1 (dy bJ)
def i8(T:Txt P w K mg):wc P w K mg base 15 "uses_in" 1 fR:=ig ["body"] T.o_uses_in (fun _ _ _ _ _ _ _ hr nd=>(av (aF (c4 (dN T) hr (lc (ai 0) (l1 (bm (l1 ag)))))))) rfl
def dO:aH:=bu 5 C.b5
def gF(T:Txt P w K mg):wc P w K mg base 1 "_law_deal" 2 dO:=ig ["_law_script","_law_base","_law_one","_law_some","_law_number"] T.o__law_deal (fun _ _ _ _ _ _ _ hr nd=>(ae (uE [] 1 [] ["_law_one"] 3 nd (bY (dX (ai 0) (eh (ai 1)) (eh ab))) (fun _=>(gn 0 qI)) (fun _=>fG) (fun _=>(cB (lH rfl) T.xm (lc (ai 0) (l1 (aA bZ ab (ai 0)))))))
  (ae (s4 4 nd (aA aS ab (ai 1)))
  (ae (ju PassesOwn.never rfl (bY (ai 3)) (gn 2 nd) (av (s4 4 nd (aA cR (aA aS (aA df (ai 4) ab) (aA cR (ai 2) ab)) ab))))
  (av (aF (qf (gx ag (ai 4) (gx ag ab (gx ag (qh cb rfl (nY [] 1 [] ["_law_one"] (bY (ai 3)) (fun _=>(gn 0 qI)) (fun _=>(hU (bf ud (ai 0) (aA sB ab ab) (aY _)))) (fun _=>(ai 0))) rfl T.yp rfl T.w_) qe)))))))))) rfl
def w__law_draw:aH:=bu 5 C.b6
def af(T:Txt P w K mg):wc P w K mg base 1 "_law_draw" 2 w__law_draw:=ig ["_law_deal_here","_law_many","_law_number","_law_one","_law_other"] T.o__law_draw (fun _ _ _ _ _ _ _ hr nd=>(ae (gr PassesOwn.never (r6 (oK (qX hr (jw hr (ai 0) ag) ab) (lB (bf nR (cB er T.wq (l1 (jw hr (ai 0) ag))) ab (aY _))))) (av (lO (qW hr) (qA l5 oN (jw hr (ai 0) ag)) (ai 0) ag)))
  (ae (s4 2 nd (jw hr (ai 0) ag))
  (ae (eB (bf nR (ai 2) ab (aY _)) (ae (lO (qW hr) (aA iV (ai 2) (ai 1)) (ai 0) ag)
  (av (aF (aA cR (ai 2) (ai 1))))) bW)
  (ae (s4 3 nd (aA cR (aA aS (aA df (jw hr (ai 0) ag) ab) ab) ab))
  (ae (lO (qW hr) (aA cR (aA aS (aA df (ai 3) ab) ab) ab) (ai 0) ag)
  (ae (s4 4 nd (aA cR (aA df (jw hr (ai 0) ag) (jw hr (ai 0) ag)) ab))
  (av (aF (aA cR (aA aS (aA df (aA cR (aA df (ai 3) (ai 3)) ab) ab) (ai 4)) (ai 1))))))))))) rfl
def cF:aH:=bu 4 C.cy
def io(T:Txt P w K mg):wc P w K mg base 1 "_law_low" 2 cF:=ig ["_law_top","_law_bottom","_law_one","_law_other"] T.o__law_low (fun _ _ _ _ _ _ _ hr nd=>(ae (oO (i:=2) (j:=3) rfl nd rfl rfl (by decide) rfl rfl (lc (cB (lH rfl) T.xm (lc (ai 0) (l1 (aA bZ ab (ai 0))))) (l1 (ai 1))))
  (ae (gr PassesOwn.never (bf nR (ai 3) ab (aY _)) (av (oO (i:=2) (j:=3) rfl nd rfl rfl (by decide) rfl rfl (lc (ai 3) (l1 (aA cR (ai 2) (ai 3)))))))
  (av (aF (bm (lc (aA iV (ai 0) (ai 2)) (l1 (aA iV (ai 1) (ai 2)))))))))) rfl
def b8:a_:=(aL (ci [(c3 (.str "jars")),(c3 (.str "deed")),(c3 (.str "rest")),(c3 (.str "pay")),(c3 (.str "put")),(c3 (.str "then")),(c3 (.str "either")),(c3 (.str "take")),(c3 (.str "often")),(c3 (.str "use"))]))
def dP:aH:=bu 0 b8
def gG(T:Txt P w K mg):wc P w K mg base 1 "_law_kept" 0 dP:=ig [] T.o__law_kept (fun _ _ _ _ _ _ _ hr nd=>(av (aF (ck (lc ag (lc ag (lc ag (lc ag (lc ag (lc ag (lc ag (lc ag (lc ag (l1 ag)))))))))))))) rfl
def b9(u7 wV:aH):a_:=(ah (aJ 1 (c3 (.str "abcdefghijklmnopqrstuvwxyz")))
  (ah (aJ 2 (fD "str" jr (c3 (.str "")) [(aG (eC (ap a6 (c3 (.int 1)) (ad u7 [(v3 0),(c3 (.int 6))]))) (.n 0) cQ (ap aE (v3 2) (ad u7 [(v3 1),(c3 (.int 26))])) 1 [0,1])]))
  (ah (fE (bi (ap (eX false) (ad u7 [(v3 0),(c3 (.int 8))]) (c3 (.int 0)))) (ah (aJ 3 (ci [(c3 (.str "jar")),(c3 (.str "deeds")),(c3 (.str "rests")),(c3 (.str "pays")),(c3 (.str "putt")),(c3 (.str "the")),(c3 (.str "eithe")),(c3 (.str "taken")),(c3 (.str "ofte")),(c3 (.str "user")),(c3 (.str "a"))]))
  (aJ 2 (ap aE (v3 3) (ad u7 [(v3 0),(c3 (.int 11))])))) cx)
  (ah (fE (bi (ap (ny false) (v3 2) (ad wV []))) (aL (ap a6 (bq (v3 2) nB (lF (qT j1 (c3 (.int 1))))) (c3 (.str "z")))) cx)
  (aL (v3 2))))))
def dQ:aH:=bu 4 (b9 w__law_draw dP)
def gH(T:Txt P w K mg):wc P w K mg base 2 "_law_name" 1 dQ:=ig ["_law_deal_here","_law_letters","_law_word","_law_near"] T.o__law_name (fun _ _ _ _ _ _ _ hr nd=>(ae (s4 1 nd ag)
  (ae (s4 2 nd (sF nX p7 ag (l1 (nY ["_law_letters","_law_deal_here"] 1 [0,1] ["_law_k","_law_deal_here","_law_letters"] (cP rfl rfl T.wn (l1 (aA aS ab (c4 (af T) hr (lc (ai 0) (l1 ab)))))) (fun _=>(gn 0 um)) (fun _=>fG) (fun _=>(jw hr (ai 2) (c4 (af T) hr (lc (ai 1) (l1 ab)))))))))
  (ae (eB (qX hr (c4 (af T) hr (lc (ai 0) (l1 ab))) ab) (ae (s4 3 nd (ck (lc ag (lc ag (lc ag (lc ag (lc ag (lc ag (lc ag (lc ag (lc ag (lc ag (l1 ag)))))))))))))
  (av (s4 2 nd (jw hr (ai 3) (c4 (af T) hr (lc (ai 0) (l1 ab))))))) bW)
  (ae (eB (bf (lD (lT hr)) (ai 2) (uV (gG T) hr) rfl) (av (aF (aA aS (dX (ai 2) iR (eh (t8 pW ab))) ag))) bW)
  (av (aF (ai 2)))))))) rfl
def a7(u7 xa:aH):a_:=(ah (aJ 2 (ap aE (v3 1) (ad u7 [(v3 0),(ao cv [(v3 1)])])))
  (ah (aJ 3 (ad u7 [(v3 0),(c3 (.int 4))]))
  (ah (fE (bi (ap (eX false) (v3 3) (c3 (.int 0)))) (aL (ba [(c3 (.str "rest"))])) cx)
  (ah (fE (bi (ap (eX false) (v3 3) (c3 (.int 1)))) (aL (ba [(c3 (.str "pay")),(ad xa [(ad u7 [(v3 0),(ap aE (ci [(c3 (.int 4)),(c3 (.int 1000))]) (ad u7 [(v3 0),(c3 (.int 2))]))]),(ap a6 (c3 (.int 1)) (ad u7 [(v3 0),(c3 (.int 9))]))])])) cx)
  (aL (ap aE (ci [(ba [(c3 (.str "put")),(v3 2),(ap a6 (c3 (.int 1)) (ad u7 [(v3 0),(c3 (.int 9))]))]),(ba [(c3 (.str "use")),(v3 2)])]) (ap bg (v3 3) (c3 (.int 2)))))))))
def a8:aH:=bu 4 (a7 w__law_draw cF)
def dz(T:Txt P w K mg):wc P w K mg base 2 "_law_any_leaf" 2 a8:=ig ["_law_deal_here","_law_words","_law_word","_law_form"] T.o__law_any_leaf (fun _ _ _ _ _ _ _ hr nd=>(ae (s4 2 nd (jw hr (ai 1) (c4 (af T) hr (lc (ai 0) (l1 (cB er T.wq (l1 (ai 1))))))))
  (ae (s4 3 nd (c4 (af T) hr (lc (ai 0) (l1 ab))))
  (ae (eB (qX hr (ai 3) ab) (av (aF (bm (l1 ag)))) bW)
  (ae (eB (qX hr (ai 3) ab) (av (aF (bm (lc ag (l1 (c4 (io T) hr (lc (c4 (af T) hr (lc (ai 0) (l1 (jw hr (ck (lc ab (l1 ab))) (c4 (af T) hr (lc (ai 0) (l1 ab))))))) (l1 (aA aS ab (c4 (af T) hr (lc (ai 0) (l1 ab)))))))))))) bW)
  (av (aF (jw hr (ck (lc (bm (lc ag (lc (ai 2) (l1 (aA aS ab (c4 (af T) hr (lc (ai 0) (l1 ab)))))))) (l1 (bm (lc ag (l1 (ai 2))))))) (aA bZ (ai 3) ab))))))))) rfl
def a9(u7 we s0:aH):a_:=(ah (aJ 4 (ad u7 [(v3 0),(c3 (.int 8))]))
  (ah (fE (nq (bi (ap nP (v3 2) (c3 (.int 2)))) (nq (bi (ap nP (v3 3) (c3 (.int 2)))) (bi (ap (eX false) (v3 4) (c3 (.int 0)))))) (aL (ad we [(v3 0),(v3 1)])) cx)
  (ah (fE (nq (bi (ap nP (v3 2) (c3 (.int 3)))) (bi (ap nP (v3 4) (c3 (.int 3))))) (aL (ba [(c3 (.str "often")),(ad s0 [(v3 0),(v3 1),(ap bg (v3 2) (c3 (.int 1))),(ap bg (v3 3) (c3 (.int 1)))])])) cx)
  (ah (aJ 5 (ap a6 (c3 (.int 1)) (ad u7 [(v3 0),(ap bg (v3 2) (c3 (.int 2)))])))
  (ah (aJ 6 (ad s0 [(v3 0),(v3 1),(v3 5),(ap bg (v3 3) (c3 (.int 1)))]))
  (ah (aJ 7 (ad s0 [(v3 0),(v3 1),(ap bg (ap bg (v3 2) (c3 (.int 1))) (v3 5)),(ap bg (v3 3) (c3 (.int 1)))]))
  (ah (fE (bi (ap nP (v3 4) (c3 (.int 6)))) (aL (ba [(ap aE (ci [(c3 (.str "then")),(c3 (.str "then")),(c3 (.str "either"))]) (ap bg (v3 4) (c3 (.int 3)))),(v3 6),(v3 7)])) cx)
  (aL (ba [(c3 (.str "take")),(ap aE (v3 1) (ad u7 [(v3 0),(ao cv [(v3 1)])])),(ap a6 (c3 (.int 1)) (ad u7 [(v3 0),(c3 (.int 9))])),(v3 6),(v3 7)])))))))))
noncomputable def aR:Nat->aH
 |0=>sE
 |n+1=>bu 8 (a9 w__law_draw a8 (aR n))
def bO:aH:=aR 12
def dA(T:Txt P w K mg):wc P w K mg base 14 "_law_any_body" 4 bO:=nW (b:=2) (r:=aR) T.o__law_any_body (fun n R0=>ig ["_law_deal_here","_law_words","_law_room","_law_down","_law_form","_law_left","_law_one","_law_other"] T.o__law_any_body (fun _ _ _ _ _ _ _ hr nd=>(ae (s4 4 nd (c4 (af T) hr (lc (ai 0) (l1 ab))))
  (ae (eB (r6 (nr (bf lS (ai 2) ab (aY _)) (nr (bf lS (ai 3) ab (aY _)) (lC (qX hr (ai 4) ab))))) (av (aF (c4 (dz T) hr (lc (ai 0) (l1 (ai 1)))))) bW)
  (ae (eB (r6 (nr (bf lS (ai 2) ab (aY _)) (lC (bf lS (ai 4) ab (aY _))))) (av (aF (bm (lc ag (l1 (c4 R0 hr (lc (ai 0) (lc (ai 1) (lc (aA bZ (ai 2) ab) (l1 (aA bZ (ai 3) ab))))))))))) bW)
  (ae (s4 5 nd (aA aS ab (c4 (af T) hr (lc (ai 0) (l1 (aA bZ (ai 2) ab))))))
  (ae (s4 6 nd (c4 R0 hr (lc (ai 0) (lc (ai 1) (lc (ai 5) (l1 (aA bZ (ai 3) ab)))))))
  (ae (s4 7 nd (c4 R0 hr (lc (ai 0) (lc (ai 1) (lc (aA bZ (aA bZ (ai 2) ab) (ai 5)) (l1 (aA bZ (ai 3) ab)))))))
  (ae (eB (bf lS (ai 4) ab (aY _)) (av (aF (bm (lc (jw hr (ck (lc ag (lc ag (l1 ag)))) (aA bZ (ai 4) ab)) (lc (ai 6) (l1 (ai 7))))))) bW)
  (av (aF (bm (lc ag (lc (jw hr (ai 1) (c4 (af T) hr (lc (ai 0) (l1 (cB er T.wq (l1 (ai 1))))))) (lc (aA aS ab (c4 (af T) hr (lc (ai 0) (l1 ab)))) (lc (ai 6) (l1 (ai 7))))))))))))))))) rfl) rfl rfl 12
def bK:a_:=(aL (aG (aM (bq (v3 0) (lF (c3 (.int 1))) nB)) (.n 0) (gY (bi (ao dg [(v3 0),(c3 (.ty "tuple"))])) (bi (ao dg [(ap aE (v3 0) (c3 (.int 0))),(c3 (.ty "str"))]))) (v3 0) 1 []))
def cV:aH:=bu 1 bK
def fh(T:Txt P w K mg):wc P w K mg base 1 "_law_inner" 1 cV:=ig ["_law_body"] T.o__law_inner (fun _ _ _ _ _ _ _ hr nd=>(av (aF (nY [] 1 [] ["_law_one"] (bY (dX (ai 0) (eh ab) iR)) (fun _=>(gn 0 qI)) (fun _=>(hU (r6 (oK (lA (cB oM T.v1 (lc (ai 0) (l1 (uF T.xU))))) (lB (lA (cB oM T.v1 (lc (mB hr (ai 0)) (l1 (uF T.yN)))))))))) (fun _=>(ai 0)))))) rfl
def cG(wK:aH):a_:=(ah (aJ 1 (ci []))
  (ah (aJ 2 (ci [(ba [(v3 0),(c3 (.int 1))])]))
  (ah (gq (bi (ap nQ (ao cv [(v3 2)]) (c3 (.int 0)))) (ah (j6 (fD "list" hG (v3 2) []) (.tp (.cons (.n 3) (.cons (.n 4) .nil))))
  (ah (bA (fD "list" bb (v3 1) [(ba [(v3 3),(v3 4)])]))
  (bA (fD "list" bn (v3 2) [(aG (aM (ad wK [(v3 3)])) (.n 0) cQ (ba [(v3 0),(ap a6 (v3 1) (c3 (.int 1)))]) 1 [4])])))))
  (aL (v3 1)))))
def eU:aH:=bu 5 (cG cV)
def ip(T:Txt P w K mg):wc P w K mg base 2 "_law_all" 1 eU:=ig ["_law_body","_law_found","_law_left","_law_one","_law_down"] T.o__law_all (fun _ _ _ _ _ _ _ hr nd=>(ae (s4 1 nd (ck oJ))
  (ae (s4 2 nd (ck (l1 (bm (lc (ai 0) (l1 ab))))))
  (ae (gr PassesOwn.never (bf nR (cB er T.wq (l1 (ai 2))) ab (aY _)) (ae (sx (qA l5 oN (ai 2)) (tq rfl (bX (gn 3 nd) (bX (gn 4 nd) jt))))
  (ae (eA (sF fL g7 (ai 1) (l1 (bm (lc (ai 3) (l1 (ai 4)))))))
  (av (eA (sF fM g_ (ai 2) (l1 (nY ["_law_down"] 1 [4] ["_law_other","_law_down"] (bY (c4 (fh T) hr (l1 (ai 3)))) (fun _=>(gn 0 uo)) (fun _=>fG) (fun _=>(bm (lc (ai 0) (l1 (aA aS (ai 1) ab)))))))))))))
  (av (aF (ai 1))))))) rfl
def bL(xb xV xJ xw xx:aH):a_:=(ah (aJ 1 (ad xb [(v3 0)]))
  (ah (aJ 2 (eR (aG (aM (v3 1)) (.tp (.cons (.n 0) (.cons (.n 1) .nil))) (bi (ap (ny false) (ap aE (v3 0) (c3 (.int 0))) (ba [(c3 (.str "put")),(c3 (.str "take"))]))) (ap aE (v3 0) (c3 (.int 1))) 2 [])))
  (ah (aJ 3 (eR (aG (aM (v3 1)) (.tp (.cons (.n 0) (.cons (.n 1) .nil))) (bi (ap (eX false) (ap aE (v3 0) (c3 (.int 0))) (c3 (.str "use")))) (ap aE (v3 0) (c3 (.int 1))) 2 [])))
  (ah (fE (nq (bi (ap (eX true) (ao cn [(ad xV [(v3 0)])]) (ao cn [(ao cv [(v3 1)])]))) (bi (ap (eX true) (ao cn [(ad xJ [(v3 0)])]) (ao cn [(ao jx [(aG (aM (v3 1)) (.tp (.cons (.n 0) (.cons (.n 1) .nil))) cQ (v3 1) 2 [])])])))) (aL (c3 (.bl false))) cx)
  (ah (eE (eC (c3 (.int 2))) (.n 4) (ah (aJ 5 (ci [(ad xw [(v3 0)]),(ad xx [(v3 0)])]))
  (ah (fE (bi (ap (eX true) (ao cn [(v3 5)]) (ao cn [(ci [(v3 2),(v3 3)])]))) (aL (c3 (.bl false))) cx)
  (ah (bA (fD "list" gk (ap aE (v3 5) (c3 (.int 0))) []))
  (bA (fD "list" bb (ap aE (v3 5) (c3 (.int 1))) [(c3 (.str "z"))]))))))
  (aL (c3 (.bl true))))))))
def bM:aH:=bu 6 (bL eU gE im fQ fR)
def fi(T:Txt P w K mg):wc P w K mg base 16 "_law_right" 1 bM:=ig ["_law_body","_law_some","_law_jars","_law_uses","_law_turn","_law_found"] T.o__law_right (fun _ _ _ _ _ _ _ hr nd=>(ae (s4 1 nd (c4 (ip T) hr (l1 (ai 0))))
  (ae (s4 2 nd (i5 rfl rfl T.wt rfl T.xI (nY [] 2 [] ["_law_one","_law_down"] (bY (ai 1)) (fun _=>(tq rfl (bX (gn 0 kz) (bX (gn 1 kz) jt)))) (fun _=>(hU (bf (lD (lT hr)) (mB hr (ai 0)) (bm (lc ag (l1 ag))) rfl))) (fun _=>(mB hr (ai 0)))) rfl cb))
  (ae (s4 3 nd (i5 rfl rfl T.wt rfl T.xI (nY [] 2 [] ["_law_one","_law_down"] (bY (ai 1)) (fun _=>(tq rfl (bX (gn 0 kz) (bX (gn 1 kz) jt)))) (fun _=>(hU (qX hr (mB hr (ai 0)) ag))) (fun _=>(mB hr (ai 0)))) rfl cb))
  (ae (eB (r6 (nr (uh hr (cB (dq (dI hr) hr.gd) T.v9 (l1 (c4 (mf T) hr (l1 (ai 0))))) (cB (dq (dI hr) hr.gd) T.v9 (l1 (cB er T.wq (l1 (ai 1)))))) (lC (uh hr (cB (dq (dI hr) hr.gd) T.v9 (l1 (c4 (kA T) hr (l1 (ai 0))))) (cB (dq (dI hr) hr.gd) T.v9 (l1 (cB (qB rfl) T.xm (l1 (nY [] 2 [] ["_law_one","_law_down"] (bY (ai 1)) (fun _=>(tq rfl (bX (gn 0 kz) (bX (gn 1 kz) jt)))) (fun _=>fG) (fun _=>(ai 1))))))))))) (av (aF lv)) bW)
  (ae (ju PassesOwn.never rfl (cP rfl rfl T.wn (l1 ab)) (gn 4 nd) (ae (s4 5 nd (ck (lc (c4 (i7 T) hr (l1 (ai 0))) (l1 (c4 (i8 T) hr (l1 (ai 0)))))))
  (ae (eB (uh hr (cB (dq (dI hr) hr.gd) T.v9 (l1 (ai 5))) (cB (dq (dI hr) hr.gd) T.v9 (l1 (ck (lc (ai 2) (l1 (ai 3))))))) (av (aF lv)) bW)
  (ae (eA (qA l7 nI (mB hr (ai 5))))
  (av (eA (sF fL g7 (mB hr (ai 5)) (l1 ag))))))))
  (av (aF lv)))))))) rfl
def mh(wW u7 wX wL wf:aH):a_:=(ah (aJ 1 (ad wW [(v3 0),(c3 (.int 0))]))
  (ah (eE (eC (c3 (.int 8))) (.n 2) (ah (aJ 3 (aG (eC (ap a6 (c3 (.int 1)) (ad u7 [(v3 1),(c3 (.int 5))]))) (.n 0) cQ (ad wX [(v3 1)]) 1 [1]))
  (fE (j0 (bi (ad wL [(ad wf [(v3 1),(v3 3),(ap a6 (c3 (.int 1)) (ad u7 [(v3 1),(c3 (.int 20))])),(c3 (.int 6))])]))) (aL (c3 (.bl false))) cx)))
  (aL (c3 (.bl true)))))
def iq:aH:=bu 4 (mh dO w__law_draw dQ bM bO)
def qJ(T:Txt P w K mg){f:Addr}{fd:FuncData}(O:tu K mg "law" (bR 20) ["_law_script"] f fd):x8 P w K mg base 17 f fd ["_law_script"] iq:=uU ["_law_script","_law_deal_here","_law_k","_law_words"] O (fun _ _ _ _ _ _ _ hr nd=>(ae (s4 1 nd (c4 (gF T) hr (lc (ai 0) (l1 ab))))
  (ae (ju PassesOwn.never rfl (cP rfl rfl T.wn (l1 ab)) (gn 2 nd) (ae (uE ["_law_deal_here"] 1 [1] ["_law_j","_law_deal_here"] 3 nd (cP rfl rfl T.wn (l1 (aA aS ab (c4 (af T) hr (lc (ai 1) (l1 ab)))))) (fun _=>(gn 0 uq)) (fun _=>fG) (fun _=>(c4 (gH T) hr (l1 (ai 1)))))
  (av (eB (r9 (lA (c4 (fi T) hr (l1 (c4 (dA T) hr (lc (ai 1) (lc (ai 3) (lc (aA aS ab (c4 (af T) hr (lc (ai 1) (l1 ab)))) (l1 ab))))))))) (av (aF lv)) bW))))
  (av (aF lv))))) rfl
end
end G06
namespace G06
open PySem L2 L3 Wd
open C
noncomputable def on(z:Str):Bool:=!z.cps.toList.isEmpty&&decide (z.cps.toList.length<=6)&&z.cps.toList.all fun c=>decide (97<=c)&&decide (c<=122)
def mi{z:Str}(h:on z=true):IsW z:=by
 unfold on at h
 simp only[Bool.and_eq_true,decide_eq_true_eq,List.all_eq_true,Bool.not_eq_true',List.isEmpty_eq_false_iff]at h
 exact⟨h.1.1,h.1.2,h.2⟩
def qK:∀z∈wo,on (Txt.slice z none (some (-1)) ++ "z")=true/\(Txt.slice z none (some (-1))).length+(("z":String):Str).length<=100/\z.length<=100:=by decide +kernel
noncomputable def xq:List Str:=["jar","deeds","rests","pays","putt","the","eithe","taken","ofte","user","a"]
def qL:∀z∈xq,on z=true:=by decide +kernel
abbrev ir(w:aH):Prop:=∀{S:aj} {Q:bP} {E:cr},(∀p,S p=none->Q (.ref p) (u6 S p (.lst (wo.map PV.str))))->w [] S Q E
def wM:ir (bu 0 b8):=by
 intro S Q E k
 unfold b8
 refine iW ?_
 walk_at "x"
 exact k
abbrev iu(w:aH):Prop:=∀{S:aj} {d l:Addr} {Q:bP} {E:cr},vm S d l->(∀z S',IsW z->vm S' d l->vZ d l S S'->Q (.str z) S')->w [.ref d] S Q E
def wN{x0 x1:aH}(u8:bh x0)(wM:ir x1):iu (bu 4 (b9 x0 x1)):=by
 intro S d l Q E D k
 unfold b9
 refine iW ?_
 rw[show az 4 [PV.ref d]=[some (.ref d),none,none,none] from rfl]
 refine aN fun N hN=>?_
 walk_at "x"
 refine hN _ _ (aN fun N hN=>?_)
 walk_at "x"
 refine⟨trivial,u8 D (by decide) (by decide) fun n S1 n0 n1 D1 O1=>⟨by omega,by omega,?_⟩⟩
 refine iX u8 D1 (by omega) rfl rfl ⟨_,rfl⟩ fun cs S2 hl hc D2 O2 pj hj=>?_
 simp only[jr,aa,bC]
 refine⟨kf (by omega),?_⟩
 rw[show Txt.join (Str.ofString "") (cs.map iz)=⟨cs.toArray⟩from iN cs]
 have wz:IsW (⟨cs.toArray⟩:Str):=⟨fun e=>by have e':cs=[]:=e;rw[e']at hl;simp at hl;omega,by show cs.length<=6;omega,hc⟩
 generalize (⟨cs.toArray⟩:Str)=z at wz
 have OB:vZ d l S (u6 S2 pj (.lst ((cs.map iz).map PV.str))):=O1.trans (O2.trans (.new hj))
 have DB:=D2.new (o:=.lst ((cs.map iz).map PV.str)) hj
 generalize u6 S2 pj (.lst ((cs.map iz).map PV.str))=S3 at OB DB
 refine hN _ _ (aN fun N hN=>?_)
 -- what comes behind
 have tail:∀(z:Str) (S':aj) (x3:Option PV),IsW z->vm S' d l->vZ d l S S'->N [some (.ref d),some (.str abc),some (.str z),x3] S':=by
  intro z S' x3 wz D' O'
  refine hN _ _ (aN fun N hN=>?_)
  simp only[fE,bi,ap,v3,lk,ad,au]
  refine wM fun p hp=>?_
  refine nT aa (lY wz) nU ?_
  have O2:vZ d l S (u6 S' p (.lst (wo.map PV.str))):=O'.trans (.new hp)
  have D2:=D'.new (o:=.lst (wo.map PV.str)) hp
  generalize u6 S' p (.lst (wo.map PV.str))=S4 at O2 D2
  by_cases h:z∈wo
  ·simp only[h,decide_true,Bool.false_bne,if_true]
   obtain⟨h1,h2,h3⟩:=qK z h
   simp only[aL,ap,bq,v3,lk,nB,lF,qT,j1,c3,g6,a6]
   exact⟨aK (by omega),aK (by omega),k _ _ (mi h1) D2 O2⟩
  ·simp only[h,decide_false,Bool.false_bne,Bool.false_eq_true,if_false]
   refine hN _ _ ?_
   walk_at "x"
   exact k _ _ wz D2 O2
 simp only[fE,bi,ap,v3,lk,ad,au,c3]
 refine u8 DB (by decide) (by decide) fun r S4 r0 r1 D4 O4=>?_
 simp only[eX,Bool.false_bne,decide_eq_true_eq]
 split
 ·refine aN fun N2 xy=>?_
  walk_at "x"
  intro p hp
  have dp:=D4.free hp
  refine xy _ _ ?_
  walk_at "x"
  refine u8 (D4.new hp) (by decide) (by decide) fun r2 S5 a0 a1 D5 O5=>?_
  have e5:=O5 _ _ (aa (S:=S4) (o:=.lst (xq.map PV.str))) dp.1 dp.2
  simp only[e5]
  obtain⟨v,hv,yw⟩:=gA (xs:=xq.map PV.str) a0 (by simpa [xq]using a1)
  rw[hv]
  obtain⟨y,hy,rfl⟩:=List.mem_map.mp yw
  exact tail y S5 _ (mi (qL y hy)) D5 (OB.trans (O4.trans ((vZ.new hp).trans O5)))
 ·exact tail z S4 _ wz D4 (OB.trans O4)
abbrev dB(w:aH):Prop:=∀{S:aj} {d l pw:Addr} {ws:Vs} {Q:bP} {E:cr},vm S d l->S pw=some (.lst (ws.map PV.str))->pw≠d->pw≠l->1<=ws.length->ws.length<=100->(∀(t:Bd) S',t.good ws ws->t.dep=1->t.size=1->vm S' d l->vZ d l S S'->Q t.pv S')->w [.ref d,.ref pw] S Q E
def jD{ws:Vs}{r:Int}(h0:0<=r)(h1:r < (ws.length:Int)):∃z∈ws,vK (ws.map PV.str) r=some (.str z):=by
 obtain⟨v,hv,yw⟩:=gA (xs:=ws.map PV.str) h0 (by simpa using h1)
 obtain⟨y,hy,rfl⟩:=List.mem_map.mp yw
 exact⟨y,hy,hv⟩
def mj{x0 x1:aH}(u8:bh x0)(w9:gz x1):dB (bu 4 (a7 x0 x1)):=by
 intro S d l pw ws Q E D hw wd wl h1 h2 k
 unfold a7
 refine iW ?_
 rw[show az 4 [PV.ref d,PV.ref pw]=[some (.ref d),some (.ref pw),none,none] from rfl]
 refine aN fun N hN=>?_
 walk_at "x"
 simp only[hw,List.length_map]
 refine u8 D (by omega) (by omega) fun r S1 r0 r1 D1 O1=>?_
 have hw1:=O1 _ _ hw wd wl
 obtain⟨z,hz,ez⟩:=jD r0 r1
 simp only[hw1,ez]
 refine hN _ _ (aN fun N hN=>?_)
 walk_at "x"
 refine u8 D1 (by decide) (by decide) fun f S2 f0 f1 D2 O2=>?_
 have zK:=O1.trans O2
 refine hN _ _ (aN fun N hN=>?_)
 walk_at "x"
 simp only[Bool.false_bne,decide_eq_true_eq]
 split
 ·exact k .rest S2 trivial rfl rfl D2 zK
 refine hN _ _ (aN fun N hN=>?_)
 walk_at "x"
 simp only[Bool.false_bne,decide_eq_true_eq]
 split
 ·intro p hp
  have dp:=D2.free hp
  refine u8 (D2.new hp) (by decide) (by decide) fun a S3 a0 a1 D3 O3=>?_
  have e3:=O3 _ _ (aa (S:=S2) (o:=.lst [.int 4,.int 1000])) dp.1 dp.2
  simp only[e3]
  obtain⟨v,hv,yw⟩:=gA (xs:=[PV.int 4,.int 1000]) a0 (by simpa using a1)
  rw[hv]
  obtain⟨g,rfl,AJ,yX⟩:∃g:Int,v = .int g/\0 < g/\g<=1000:=by
   simp only[List.mem_cons,List.not_mem_nil,or_false]at yw
   rcases yw with rfl|rfl
   ·exact⟨4,rfl,by omega,by omega⟩
   ·exact⟨1000,rfl,by omega,by omega⟩
  refine u8 D3 AJ (by omega) fun r2 S4 b0 b1 D4 O4=>u8 D4 (by decide) (by decide) fun r3 S5 c0 c1 D5 O5=>?_
  refine w9 (by omega) (j_ (by omega)) ?_
  have zz:=M3.lp (t:=r2) (b:=1+r3) (T:=999) (B:=9) (by omega) (by omega) (by omega) (by omega) (by omega) (by decide) (by decide)
  refine k (.pay _ _) S5 ⟨M3.jl (by omega),?_,zz.2.1,zz.2.2.2⟩ rfl rfl D5 (zK.trans ((vZ.new hp).trans (O3.trans (O4.trans O5))))
  unfold M3.gg
  rw[if_neg (by omega)]
  exact Int.ediv_nonneg b0 (by omega)
 refine hN _ _ ?_
 walk_at "x"
 refine u8 D2 (by decide) (by decide) fun m S3 m0 m1 D3 O3=>?_
 intro p hp
 have e3:(u6 S3 p (.lst [.tup [.str "put",.str z,.int (1+m)],.tup [.str "use",.str z]])) p=_:=aa
 simp only[e3]
 have O4:=zK.trans (O3.trans (vZ.new (o:=.lst [.tup [.str "put",.str z,.int (1+m)],.tup [.str "use",.str z]]) hp))
 have D4:=D3.new (o:=.lst [.tup [.str "put",.str z,.int (1+m)],.tup [.str "use",.str z]]) hp
 obtain rfl|rfl:f=2\/f=3:=by omega
 ·exact k (.put z (1+m)) _ ⟨hz,by omega,by omega⟩ rfl rfl D4 O4
 ·exact k (.use z) _ hz rfl rfl D4 O4
abbrev cf(n:Nat)(w:aH):Prop:=∀{S:aj} {d l pw:Addr} {ws:Vs} {room down:Int} {Q:bP} {E:cr},vm S d l->S pw=some (.lst (ws.map PV.str))->pw≠d->pw≠l->1<=ws.length->ws.length<=100->1<=room->room<=1000->1<=down->down<=n->(∀(t:Bd) S',t.good ws ws->(t.dep:Int)<=down->(t.size:Int)<=room->vm S' d l->vZ d l S S'->Q t.pv S')->w [.ref d,.ref pw,.int room,.int down] S Q E
def ml{x0 x1 s0:aH}(u8:bh x0)(xW:dB x1)(n:Nat)(ih:cf n s0):cf (n+1) (bu 8 (a9 x0 x1 s0)):=by
 intro S d l pw ws room down Q E D hw wd wl h1 h2 r1 r2 d1 d2 k
 unfold a9
 refine iW ?_
 rw[show az 8 [PV.ref d,PV.ref pw,PV.int room,PV.int down]=[some (.ref d),some (.ref pw),some (.int room),some (.int down),none,none,none,none] from rfl]
 refine aN fun N hN=>?_
 walk_at "x"
 refine u8 D (by decide) (by decide) fun f S1 f0 f1 D1 O1=>?_
 have hw1:=O1 _ _ hw wd wl
 refine hN _ _ (aN fun N hN=>?_)
 walk_at "x"
 simp only[Bool.false_bne,decide_eq_true_eq]
 have lf:x1 [.ref d,.ref pw] S1 Q di:=xW D1 hw1 wd wl h1 h2 fun t S2 g t1 t2 D2 O2=>k t S2 g (by omega) (by omega) D2 (O1.trans O2)
 split
 ·rw[if_pos trivial];exact lf
 split
 ·rw[if_pos trivial];exact lf
 split
 ·exact lf
 refine hN _ _ (aN fun N hN=>?_)
 walk_at "x"
 simp only[Bool.false_bne,decide_eq_true_eq]
 have of:s0 [.ref d,.ref pw,.int (room - 1),.int (down - 1)] S1 (fun v S'=>Q (.tup [.str "often",v]) S') di:=ih D1 hw1 wd wl h1 h2 (by omega) (by omega) (by omega) (by omega) fun t S2 g t1 t2 D2 O2=>k (.wA t) S2 g (by simp only[Bd.dep];omega) (by simp only[Bd.size];omega) D2 (O1.trans O2)
 split
 ·rw[if_pos trivial];exact of
 split
 ·exact of
 refine hN _ _ (aN fun N hN=>?_)
 walk_at "x"
 refine u8 D1 (by omega) (by omega) fun a S2 a0 a1 D2 O2=>?_
 have z_:=O2 _ _ hw1 wd wl
 refine hN _ _ (aN fun N hN=>?_)
 walk_at "x"
 refine ih D2 z_ wd wl h1 h2 (by omega) (by omega) (by omega) (by omega) fun ta S3 ga da sa D3 O3=>?_
 have Aa:=O3 _ _ z_ wd wl
 refine hN _ _ (aN fun N hN=>?_)
 walk_at "x"
 refine ih D3 Aa wd wl h1 h2 (by omega) (by omega) (by omega) (by omega) fun tb S4 gb db sb D4 O4=>?_
 have Ab:=O4 _ _ Aa wd wl
 have Ac:=O1.trans (O2.trans (O3.trans O4))
 refine hN _ _ (aN fun N hN=>?_)
 walk_at "x"
 simp only[decide_eq_true_eq]
 split
 ·intro p hp
  have e3:(u6 S4 p (.lst [.str "then",.str "then",.str "either"])) p=_:=aa
  simp only[e3]
  have O5:=Ac.trans (vZ.new (o:=.lst [.str "then",.str "then",.str "either"]) hp)
  have D5:=D4.new (o:=.lst [.str "then",.str "then",.str "either"]) hp
  obtain rfl|rfl|rfl:f=3\/f=4\/f=5:=by omega
  ·exact k (.va ta tb) _ ⟨ga,gb⟩ (by simp only[Bd.dep];omega) (by simp only[Bd.size];omega) D5 O5
  ·exact k (.va ta tb) _ ⟨ga,gb⟩ (by simp only[Bd.dep];omega) (by simp only[Bd.size];omega) D5 O5
  ·exact k (.wH ta tb) _ ⟨ga,gb⟩ (by simp only[Bd.dep];omega) (by simp only[Bd.size];omega) D5 O5
 refine hN _ _ ?_
 walk_at "x"
 simp only[Ab,List.length_map]
 refine u8 D4 (by omega) (by omega) fun r S5 q0 q1 D5 O5=>?_
 have y8:=O5 _ _ Ab wd wl
 obtain⟨z,hz,ez⟩:=jD q0 q1
 simp only[y8,ez]
 refine u8 D5 (by decide) (by decide) fun m S6 m0 m1 D6 O6=>?_
 exact k (.wB z (1+m) ta tb) S6 ⟨hz,by omega,by omega,ga,gb⟩ (by simp only[Bd.dep];omega) (by simp only[Bd.size];omega) D6 (Ac.trans (O5.trans O6))
theorem xv.dep(t:Bd){M:Int}(h:L2.xv (t.sides.map fun s=>(s.dep:Int)) 0 M):1+M=(t.dep:Int):=by
 unfold L2.xv at h
 cases t with
 |wA a=>
  simp only[Bd.sides,List.map_cons,List.map_nil,List.mem_cons,List.not_mem_nil,or_false]at h
  rcases h with⟨h,_⟩|⟨rfl,_⟩
  ·cases h
  ·simp only[Bd.dep];omega
 |rest=>simp[Bd.sides]at h;subst h;rfl
 |pay x y=>simp[Bd.sides]at h;subst h;rfl
 |put z m=>simp[Bd.sides]at h;subst h;rfl
 |use z=>simp[Bd.sides]at h;subst h;rfl
 |va a b=>
  simp only[Bd.sides,List.map_cons,List.map_nil,List.mem_cons,List.not_mem_nil,or_false,forall_eq_or_imp,forall_eq]at h
  simp only[Bd.dep]
  rcases h with⟨h,_⟩|⟨h,h2⟩
  ·cases h
  ·omega
 |wH a b=>
  simp only[Bd.sides,List.map_cons,List.map_nil,List.mem_cons,List.not_mem_nil,or_false,forall_eq_or_imp,forall_eq]at h
  simp only[Bd.dep]
  rcases h with⟨h,_⟩|⟨h,h2⟩
  ·cases h
  ·omega
 |wB z m a b=>
  simp only[Bd.sides,List.map_cons,List.map_nil,List.mem_cons,List.not_mem_nil,or_false,forall_eq_or_imp,forall_eq]at h
  simp only[Bd.dep]
  rcases h with⟨h,_⟩|⟨h,h2⟩
  ·cases h
  ·omega
abbrev bN(n:Nat)(w:aH):Prop:=∀{S:aj} {t:Bd} {Q:bP} {E:cr},t.dep<=n->t.size<=900->(∀S',Ext S S'->Q (.int (t.dep:Int)) S')->w [t.pv] S Q E
def v_{xs s0:aH}(vL:ce xs)(n:Nat)(ih:bN n s0):bN (n+1) (bu 1 (eT xs s0)):=by
 intro S t Q E hd hs k
 unfold eT
 refine iW ?_
 rw[show az 1 [t.pv]=[some t.pv] from rfl]
 simp only[aL,ap,c3,aG,aM,ad,au,v3,lk]
 refine vL ?_
 simp only[bB]
 have hsl:t.sides.length<=2:=by cases t<;>simp[Bd.sides]
 refine eL (fun done ys S'=>done.length<=t.sides.length/\ys=((t.sides.take done.length).map fun s=>(s.dep:Int)).map PV.int/\Ext S S') ⟨Nat.zero_le _,rfl,.refl⟩ ?_ ?_ ?_
 ·rintro done ys S' ⟨hl,rfl,_⟩
  exact⟨trivial,aK (by rw[List.length_map,List.length_map,List.length_take];omega)⟩
 ·rintro done x rest ys S' K e ⟨hl,rfl,X⟩ hK
  have hget:(t.sides.map Bd.pv)[done.length]?=some x:=by rw[e];simp
  obtain⟨s,hs1,rfl⟩:∃s,t.sides[done.length]?=some s/\s.pv=x:=by rw[List.getElem?_map]at hget;exact Option.map_eq_some_iff.mp hget
  have hr:s∈t.sides:=List.mem_of_getElem? hs1
  have hrd:=Bd.wU hr
  have hlt:done.length < t.sides.length:=(List.getElem?_eq_some_iff.mp hs1).1
  simp only[Tg.put,br,List.reduceReplicate,List.map_nil,List.append_nil,List.set_cons_zero,cQ,if_true,lk]
  refine ih (by omega) (by omega) fun S2 X2=>hK _ _ ⟨by rw[List.length_append];exact hlt,?_,X.trans X2⟩
  rw[List.length_append,List.length_singleton,List.take_succ,hs1]
  simp
 ·rintro ys S' ⟨_,rfl,X⟩ p hp
  rw[List.length_map,List.take_length]
  simp only[jy,aa,eI]
  intro M hM
  simp only[a6]
  rw[xv.dep t hM]
  exact k _ (X.trans (.new hp))
noncomputable def oo:Bd->Str
 | .put z _=>z
 | .wB z _ _ _=>z
 | .use z=>z
 |_=>""
noncomputable def d0(hs:Vs)(ps:List Bd):List Str:=(ps.filter fun t=>decide (t.hd∈hs)).map oo
def i9{t:Bd}{hs:Vs}(h3:∀h∈hs,h∈(["put","take","use"]:Vs))(h:t.hd∈hs):vK (.str t.hd::t.tl) 1=some (.str (oo t)):=by
 have:=h3 _ h
 cases t<;>first|rfl|(simp[Bd.hd,aW]at this)
def jE{ws:Vs}{t:Bd}(g:t.good ws ws)(h:t.hd∈(["put","take","use"]:Vs)):oo t∈ws:=by
 cases t<;>first|exact g.1|exact g|(simp[Bd.hd,aW]at h)
def eV{ws:Vs}:∀(t:Bd),t.good ws ws->∀u∈t.parts,u.good ws ws:=by
 intro t
 induction t with
 |rest=>intro g u h;rw[List.mem_singleton.mp h];exact g
 |pay x y=>intro g u h;rw[List.mem_singleton.mp h];exact g
 |put z m=>intro g u h;rw[List.mem_singleton.mp h];exact g
 |use z=>intro g u h;rw[List.mem_singleton.mp h];exact g
 |wA a ih=>intro g u h;rcases List.mem_cons.mp h with rfl|h;exact g;exact ih g u h
 |va a b wY wZ=>intro g u h;rcases List.mem_cons.mp h with rfl|h;exact g;exact(List.mem_append.mp h).elim (wY g.1 u) (wZ g.2 u)
 |wH a b wY wZ=>intro g u h;rcases List.mem_cons.mp h with rfl|h;exact g;exact(List.mem_append.mp h).elim (wY g.1 u) (wZ g.2 u)
 |wB z m a b wY wZ=>intro g u h;rcases List.mem_cons.mp h with rfl|h;exact g;exact(List.mem_append.mp h).elim (wY g.2.2.2.1 u) (wZ g.2.2.2.2 u)
def xK(ns ss:Vs):Prop:=ss.Perm (Sa.dd ns)/\PyProof.Rows.sortedS ss=true
def iw(l:Vs):(Sa.dd l).Nodup:=by
 unfold Sa.dd
 have:∀(l ss:Vs),ss.Nodup->(l.foldl (fun ss k=>if k∈ss then ss else ss++[k]) ss).Nodup:=fun l=>by
  induction l with
  |nil=>intro ss h;exact h
  |cons k l ih=>
   intro ss h
   rw[List.foldl_cons]
   refine ih _ ?_
   split
   ·exact h
   ·rename_i hk
    exact List.nodup_append.mpr ⟨h,by simp,fun a ha b hb e=>hk (by rw[<-List.mem_singleton.mp hb,<-e];exact ha)⟩
 exact this l [] List.nodup_nil
def xK.one{ns ms ss rs:Vs}(h:xK ns ss)(g:xK ms rs)(e:∀z,z∈ns↔z∈ms):ss=rs:=by
 refine Sa.i6 h.2 g.2 (h.1.trans (List.Perm.trans ?_ g.1.symm))
 refine(List.perm_ext_iff_of_nodup (iw _) (iw _)).mpr fun z=>?_
 rw[Sa.iZ,Sa.iZ]
 exact e z
def xK.mem{ns ss:Vs}(h:xK ns ss){z:Str}(hz:z∈ss):z∈ns:=(Sa.iZ _ _).mp (h.1.mem_iff.mp hz)
def xK.len{ns ss:Vs}(h:xK ns ss):ss.length<=ns.length:=by rw[h.1.length_eq];exact Sa.gB _
abbrev cg(w:aH):Prop:=∀{S:aj} {t:Bd} {hs:Vs} {Q:bP} {E:cr},t.dep<=12->t.size<=50->(∀h∈hs,h∈(["put","take","use"]:Vs))->(∀p ss S',S p=none->Ext S S'->S' p=some (.lst (ss.map PV.str))->xK (d0 hs t.parts) ss->Q (.ref p) S')->w [t.pv,.tup (hs.map PV.str)] S Q E
def qM:∀z∈(["put","take","use"]:Vs),PyData.strOk z=true:=by decide +kernel
def gI(hs:Vs)(ps:List Bd):(d0 hs ps).length<=ps.length:=by unfold d0;rw[List.length_map];exact List.length_filter_le _ _
def vM{xp:aH}(vn:aX 12 xp):cg (bu 2 (cE xp)):=by
 intro S t hs Q E hd hz h3 k
 unfold cE
 refine iW ?_
 rw[show az 2 [t.pv,.tup (hs.map PV.str)]=[some t.pv,some (.tup (hs.map PV.str))] from rfl]
 have hpl:=t.vc
 simp only[aL,eR,aG,aM,ad,au,v3,lk]
 refine vn hd (by omega) fun p S1 hp X1 f1=>?_
 simp only[bB,f1]
 refine aV Bd.pv (fun u=>.str (oo u)) (fun u=>decide (u.hd∈hs)) f1 t.parts [] (fun u hu=>⟨_,rfl,fun K hK=>?_,fun hc Q' q=>?_⟩) (aK (by simp;omega)) ?_
 ·simp only[bi,ap,v3,lk,c3,aE,br,List.reduceReplicate,List.map_cons,List.map_nil,List.cons_append,List.nil_append,List.set_cons_succ,List.set_cons_zero,Bd.v0,oP]
  refine ie u.x9 (fun z hz=>qM z (h3 z hz)) ?_
  rw[Bool.false_bne]
  exact hK
 ·simp only[ap,v3,lk,c3,aE,br,List.reduceReplicate,List.map_cons,List.map_nil,List.cons_append,List.nil_append,List.set_cons_succ,List.set_cons_zero,Bd.v0,i9 h3 (of_decide_eq_true hc)]
  exact q
 ·intro q hq
  have en:((t.parts.filter fun u=>decide (u.hd∈hs)).map fun u=>PV.str (oo u))=(d0 hs t.parts).map PV.str:=by unfold d0;rw[List.map_map];rfl
  rw[List.nil_append,en]
  simp only[aa,bC]
  have l1:=gI hs t.parts
  have l2:=Sa.gB (d0 hs t.parts)
  refine⟨by omega,fun l ss hl hp2 ho=>?_⟩
  exact k l ss _ (X1.free ((Ext.new hq).free hl)) (X1.trans ((Ext.new hq).trans (.new hl))) aa ⟨hp2,ho⟩
abbrev cW(hs:Vs)(w:aH):Prop:=∀{S:aj} {t:Bd} {Q:bP} {E:cr},t.dep<=12->t.size<=50->(∀p ss S',S p=none->Ext S S'->S' p=some (.lst (ss.map PV.str))->xK (d0 hs t.parts) ss->Q (.ref p) S')->w [t.pv] S Q E
def wO{xn:aH}(vM:cg xn):cW ["put","take"] (bu 1 (dv xn)):=by
 intro S t Q E hd hz k
 unfold dv
 refine iW ?_
 rw[show az 1 [t.pv]=[some t.pv] from rfl]
 simp only[aL,ad,au,ba,v3,lk,c3]
 exact vM (hs:=["put","take"]) hd hz (by decide) k
def wP{xn:aH}(vM:cg xn):cW ["use"] (bu 1 (dy xn)):=by
 intro S t Q E hd hz k
 unfold dy
 refine iW ?_
 rw[show az 1 [t.pv]=[some t.pv] from rfl]
 simp only[aL,ad,au,ba,v3,lk,c3]
 exact vM (hs:=["use"]) hd hz (by decide) k
noncomputable def dC:PV->Bool
 | .tup (.str _::_)=>true
 |_=>false
def ur(a:Bd):dC a.pv=true:=by rw[Bd.v0];rfl
def ut(z:Str):dC (.str z)=false:=rfl
def uu(i:Int):dC (.int i)=false:=rfl
def uv(i:Int)(y:PV):dC (.tup [.int i,y])=false:=rfl
def mm(t:Bd):t.tl.filter dC=t.sides.map Bd.pv:=by cases t<;>simp[Bd.tl,Bd.sides,ur,ut,uu,uv]
def oq{t:Bd}{x:PV}(h:x∈t.tl):(∃z,x = .str z)\/(∃i,x = .int i)\/(∃i y,x = .tup [.int i,y])\/∃z y,x = .tup (.str z::y):=by
 have b:∀a:Bd,(∃z,a.pv = .str z)\/(∃i,a.pv = .int i)\/(∃i y,a.pv = .tup [.int i,y])\/∃z y,a.pv = .tup (.str z::y):=fun a=>.inr (.inr (.inr ⟨_,_,Bd.v0 _⟩))
 cases t with
 |rest=>cases h
 |pay i j=>rw[List.mem_singleton.mp h];exact .inr (.inr (.inl ⟨_,_,rfl⟩))
 |put z m=>rcases List.mem_cons.mp h with rfl|h;exact .inl ⟨_,rfl⟩;rw[List.mem_singleton.mp h];exact .inr (.inl ⟨_,rfl⟩)
 |use z=>rw[List.mem_singleton.mp h];exact .inl ⟨_,rfl⟩
 |wA a=>rw[List.mem_singleton.mp h];exact b a
 |va a c=>rcases List.mem_cons.mp h with rfl|h;exact b a;rw[List.mem_singleton.mp h];exact b c
 |wH a c=>rcases List.mem_cons.mp h with rfl|h;exact b a;rw[List.mem_singleton.mp h];exact b c
 |wB z m a c=>
  simp only[Bd.tl,List.mem_cons,List.not_mem_nil,or_false]at h
  rcases h with rfl|rfl|rfl|rfl
  ·exact .inl ⟨_,rfl⟩
  ·exact .inr (.inl ⟨_,rfl⟩)
  ·exact b a
  ·exact b c
abbrev fS(w:aH):Prop:=∀{S:aj} {t:Bd} {Q:bP} {E:cr},(∀p,S p=none->Q (.ref p) (u6 S p (.lst (t.sides.map Bd.pv))))->w [t.pv] S Q E
def wv:fS (bu 1 bK):=by
 intro S t Q E k
 unfold bK
 refine iW ?_
 rw[show az 1 [t.pv]=[some t.pv] from rfl,Bd.v0]
 simp only[aL,aG,aM,bq,v3,lk,nB,lF,c3,g6,bB]
 rw[show cu (PV.str t.hd::t.tl) (some 1) none=t.tl from qw (n:=1) (by simp)]
 have htl:t.tl.length<=4:=by cases t<;>simp[Bd.tl]
 have key:=aV (g:=Tg.n 0) (tc:=gY (bi (ao dg [v3 0,c3 (.ty "tuple")])) (bi (ao dg [ap aE (v3 0) (c3 (.int 0)),c3 (.ty "str")]))) (te:=v3 0) (σ':=br 1 [] [some (.tup (.str t.hd::t.tl))]) (keep:=fun _=>True) (fin:=fun ys S2=>∀p,S2 p=none->Q (.ref p) (u6 S2 p (.lst ys))) (S:=S) id id dC trivial t.tl [] (fun x hx=>⟨_,rfl,fun K hK=>?_,fun _ Q' q=>q⟩) (aK (by simp;omega)) (by rw[List.nil_append,List.map_id,mm];exact k)
 ·rw[List.map_id]at key;exact key
 ·simp only[id,br,List.reduceReplicate,List.map_nil,List.append_nil,List.set_cons_zero,gY,bi,ao,au,ap,v3,lk,c3,aE]
  rcases oq hx with⟨z,rfl⟩|⟨i,rfl⟩|⟨i,y,rfl⟩|⟨z,y,rfl⟩
  ·rw[qy];simp only[Bool.false_eq_true,if_false];exact hK
  ·rw[qx];simp only[Bool.false_eq_true,if_false];exact hK
  ·rw[lZ];simp only[if_true,oP]
   refine jC (t:="int") (by simp[j4]) rfl ?_
   exact hK
  ·rw[lZ];simp only[if_true,oP]
   refine jC (t:="str") (by simp[j4]) rfl ?_
   exact hK
noncomputable def pd:Bd->Nat->List (Bd×Nat)
 | .wA a,k=>(.wA a,k)::pd a (k+1)
 | .va a b,k=>(.va a b,k)::(pd a (k+1)++pd b (k+1))
 | .wH a b,k=>(.wH a b,k)::(pd a (k+1)++pd b (k+1))
 | .wB z m a b,k=>(.wB z m a b,k)::(pd a (k+1)++pd b (k+1))
 |t,k=>[(t,k)]
def sM(t:Bd)(k:Nat):pd t k=(t,k)::(t.sides.map fun s=>(s,k+1)).flatMap fun p=>pd p.1 p.2:=by cases t<;>simp[pd,Bd.sides]
def ix(t:Bd):∀k,(pd t k).map Prod.fst=t.parts:=by
 induction t with
 |wA a ih=>intro k;simp[pd,Bd.parts,ih]
 |va a b wY wZ=>intro k;simp[pd,Bd.parts,wY,wZ]
 |wH a b wY wZ=>intro k;simp[pd,Bd.parts,wY,wZ]
 |wB z m a b wY wZ=>intro k;simp[pd,Bd.parts,wY,wZ]
 |_=>intro k;rfl
def i_(t:Bd)(k:Nat):(pd t k).length=t.size:=by rw[<-List.length_map (f:=Prod.fst),ix,Bd.vc]
def qN(t:Bd):∀k,(∀p∈pd t k,p.2+1<=k+t.dep)/\∃p∈pd t k,p.2+1=k+t.dep:=by
 have leaf:∀(t:Bd) (k:Nat),t.dep=1->(∀p∈[(t,k)],p.2+1<=k+t.dep)/\∃p∈[(t,k)],p.2+1=k+t.dep:=fun t k h=>⟨fun p hp=>by rw[List.mem_singleton.mp hp,h];exact Nat.le_refl _,(t,k),by simp,by rw[h]⟩
 have two:∀(t a b:Bd) (k:Nat),t.dep=max a.dep b.dep+1->((∀p∈pd a (k+1),p.2+1<=k+1+a.dep)/\∃p∈pd a (k+1),p.2+1=k+1+a.dep)->((∀p∈pd b (k+1),p.2+1<=k+1+b.dep)/\∃p∈pd b (k+1),p.2+1=k+1+b.dep)->(∀p∈(t,k)::(pd a (k+1)++pd b (k+1)),p.2+1<=k+t.dep)/\∃p∈(t,k)::(pd a (k+1)++pd b (k+1)),p.2+1=k+t.dep:=fun t a b k h ⟨a1,pa,a2,a3⟩ ⟨b1,pb,b2,b3⟩=>by
  refine⟨fun p hp=>?_,?_⟩
  ·rcases List.mem_cons.mp hp with rfl|hp
   ·show k+1<=_;omega
   ·rcases List.mem_append.mp hp with hp|hp
    ·have:=a1 p hp;omega
    ·have:=b1 p hp;omega
  ·by_cases hab:a.dep<=b.dep
   ·exact⟨pb,by simp[b2],by rw[b3,h,Nat.max_eq_right hab];omega⟩
   ·exact⟨pa,by simp[a2],by rw[a3,h,Nat.max_eq_left (by omega)];omega⟩
 induction t with
 |wA a ih=>
  intro k
  obtain⟨a1,pa,a2,a3⟩:=ih (k+1)
  refine⟨fun p hp=>?_,pa,by simp[pd,a2],by rw[a3];simp only[Bd.dep];omega⟩
  rcases List.mem_cons.mp (show p∈(Bd.wA a,k)::pd a (k+1)from hp)with rfl|hp
  ·show k+1<=k+(a.dep+1);omega
  ·have:=a1 p hp;simp only[Bd.dep];omega
 |va a b wY wZ=>intro k;exact two _ a b k rfl (wY _) (wZ _)
 |wH a b wY wZ=>intro k;exact two _ a b k rfl (wY _) (wZ _)
 |wB z m a b wY wZ=>intro k;exact two _ a b k rfl (wY _) (wZ _)
 |_=>intro k;exact leaf _ k rfl
def mn(ls:List (Bd×Nat)):ls.length<=(ls.flatMap fun p=>pd p.1 p.2).length:=by
 induction ls with
 |nil=>simp
 |cons p r ih=>rw[List.flatMap_cons,List.length_append,i_,List.length_cons];have:=p.1.vg;have:=p.1.wm;omega
noncomputable def encD(p:Bd×Nat):PV:=.tup [p.1.pv,.int (p.2:Int)]
abbrev jF(w:aH):Prop:=∀{S:aj} {t:Bd} {Q:bP} {E:cr},t.size<=500->(∀p (fs:List (Bd×Nat)) S',S p=none->Ext S S'->S' p=some (.lst (fs.map encD))->fs.Perm (pd t 1)->Q (.ref p) S')->w [t.pv] S Q E
def xc{xi:aH}(wv:fS xi):jF (bu 5 (cG xi)):=by
 intro S t Q E hz k
 unfold cG
 refine iW ?_
 rw[show az 5 [t.pv]=[some t.pv,none,none,none,none] from rfl]
 refine aN fun N hN=>?_
 walk_at "x"
 intro pf hpf
 refine hN _ _ (aN fun N hN=>?_)
 walk_at "x"
 intro pl hpl
 have y9:pf≠pl:=fun e=>by rw[<-e,aa]at hpl;cases hpl
 have yO:S pl=none:=(Ext.new hpf).free hpl
 have X0:Ext S (u6 (u6 S pf (.lst [])) pl (.lst [.tup [t.pv,.int 1]])):=(Ext.new hpf).trans (.new hpl)
 have f0:(u6 (u6 S pf (.lst [])) pl (.lst [.tup [t.pv,.int 1]])) pf=some (.lst (([]:List (Bd×Nat)).map encD)):=by rw[ac y9,aa];rfl
 have l0:(u6 (u6 S pf (.lst [])) pl (.lst [.tup [t.pv,.int 1]])) pl=some (.lst ([(t,1)].map encD)):=aa
 generalize u6 (u6 S pf (.lst [])) pl (.lst [.tup [t.pv,.int 1]])=S0 at X0 f0 l0
 refine hN _ _ (aN fun N hN=>?_)
 refine⟨fun m σ S'=>∃(fs ls:List (Bd×Nat)) (x3 x4:Option PV),σ=[some t.pv,some (.ref pf),some (.ref pl),x3,x4]/\Ext S S'/\S' pf=some (.lst (fs.map encD))/\S' pl=some (.lst (ls.map encD))/\(fs++ls.flatMap fun p=>pd p.1 p.2).Perm (pd t 1)/\(ls.flatMap fun p=>pd p.1 p.2).length=m,⟨_,[],[(t,1)],_,_,rfl,X0,f0,l0,by simp,rfl⟩,?_⟩
 rintro m σ S1 ⟨fs,ls,x3,x4,rfl,X1,f1,l1,hp,rfl⟩
 have hlen:=hp.length_eq
 rw[i_,List.length_append]at hlen
 simp only[bi,ap,ao,au,v3,lk,c3,cv,l1,nQ,cM,List.length_map,decide_eq_true_eq]
 have Ad:=mn ls
 split
 ·rename_i h0
  obtain⟨ls',⟨u,ku⟩,rfl⟩:∃l' y,ls=l'++[y]:=⟨ls.dropLast,ls.getLast (by rintro rfl;simp at h0),(List.dropLast_concat_getLast _).symm⟩
  have ep:(ls'++[(u,ku)]).flatMap (fun p=>pd p.1 p.2)=ls'.flatMap (fun p=>pd p.1 p.2)++((u,ku)::(u.sides.map fun s=>(s,ku+1)).flatMap fun p=>pd p.1 p.2):=by
   rw[List.flatMap_append]
   simp only[List.flatMap_cons,List.flatMap_nil,List.append_nil]
   rw[<-sM]
  rw[ep]at hp hlen Ad ⊢
  refine⟨fun σ' S'=>∃(fs ls:List (Bd×Nat)) (x3 x4:Option PV),σ'=[some t.pv,some (.ref pf),some (.ref pl),x3,x4]/\Ext S S'/\S' pf=some (.lst (fs.map encD))/\S' pl=some (.lst (ls.map encD))/\(fs++ls.flatMap fun p=>pd p.1 p.2).Perm (pd t 1)/\(ls.flatMap fun p=>pd p.1 p.2).length < (ls'.flatMap (fun p=>pd p.1 p.2)++((u,ku)::(u.sides.map fun s=>(s,ku+1)).flatMap fun p=>pd p.1 p.2)).length,?_,?_⟩
  ·rintro σ' S' ⟨fs,ls,y3,y4,rfl,a1,a2,a3,a4,a5⟩
   exact⟨_,a5,fs,ls,y3,y4,rfl,a1,a2,a3,a4,rfl⟩
  ·refine aN fun N2 xy=>?_
   have eg:((ls'++[(u,ku)]).map encD)[((ls'++[(u,ku)]).map encD).length - 1]?=some (encD (u,ku)):=by simp
   have ed:((ls'++[(u,ku)]).map encD).dropLast=ls'.map encD:=by simp
   simp only[j6,fD,lL,au,v3,lk,l1,true_and,hG,eg,ed]
   simp only[encD,Tg.put,Tg.vC,List.set_cons_succ,List.set_cons_zero]
   have Xa:Ext S (u6 S1 pl (.lst (ls'.map encD))):=X1.put yO
   have fa:(u6 S1 pl (.lst (ls'.map encD))) pf=some (.lst (fs.map encD)):=by rw[ac y9];exact f1
   have la:(u6 S1 pl (.lst (ls'.map encD))) pl=some (.lst (ls'.map encD)):=aa
   generalize u6 S1 pl (.lst (ls'.map encD))=Sa at Xa fa la
   simp only[List.length_append,List.length_cons]at hlen Ad
   refine xy _ _ (aN fun N2 xy=>?_)
   simp only[bA,fD,lL,au,ba,v3,lk,fa,true_and,bb]
   refine⟨bc (by rw[List.length_map];omega),xy _ _ ?_⟩
   have Xb:Ext S (u6 Sa pf (.lst (fs.map encD++[.tup [u.pv,.int (ku:Int)]]))):=Xa.put hpf
   have fb:(u6 Sa pf (.lst (fs.map encD++[.tup [u.pv,.int (ku:Int)]]))) pf=some (.lst ((fs++[(u,ku)]).map encD)):=by rw[aa,List.map_append];rfl
   have lb:(u6 Sa pf (.lst (fs.map encD++[.tup [u.pv,.int (ku:Int)]]))) pl=some (.lst (ls'.map encD)):=by rw[ac (Ne.symm y9)];exact la
   generalize u6 Sa pf (.lst (fs.map encD++[.tup [u.pv,.int (ku:Int)]]))=Sb at Xb fb lb
   simp only[bA,fD,lL,au,aG,aM,ad,v3,lk,lb,true_and]
   refine wv fun pi zL=>?_
   have hsl:u.sides.length<=2:=by cases u<;>simp[Bd.sides]
   have lc:(u6 Sb pi (.lst (u.sides.map Bd.pv))) pl=some (.lst (ls'.map encD)):=by rw[ac (fun h=>by rw[h,zL]at lb;cases lb)];exact lb
   have fc:(u6 Sb pi (.lst (u.sides.map Bd.pv))) pf=some (.lst ((fs++[(u,ku)]).map encD)):=by rw[ac (fun h=>by rw[h,zL]at fb;cases fb)];exact fb
   have ic:(u6 Sb pi (.lst (u.sides.map Bd.pv))) pi=some (.lst (u.sides.map Bd.pv)):=aa
   have Xc:Ext S (u6 Sb pi (.lst (u.sides.map Bd.pv))):=Xb.trans (.new zL)
   generalize u6 Sb pi (.lst (u.sides.map Bd.pv))=Sc at lc fc ic Xc
   simp only[bB,ic]
   refine dn Bd.pv (fun s=>.tup [s.pv,.int ((ku:Int)+1)]) ic u.sides [] (fun s hs=>⟨_,rfl,fun Q' q=>?_⟩) (aK (by simp;omega)) ?_
   ·simp only[br,List.reduceReplicate,List.map_cons,List.map_nil,List.cons_append,List.nil_append,List.set_cons_zero,ba,au,ap,v3,lk,c3,a6]
    exact q
   ·intro px hpx
    have lx:(u6 Sc px (.lst ([]++u.sides.map fun s=>PV.tup [s.pv,.int ((ku:Int)+1)]))) pl=some (.lst (ls'.map encD)):=by rw[ac (fun h=>by rw[h,hpx]at lc;cases lc)];exact lc
    simp only[bn,lx,aa]
    refine⟨aK (by simp only[List.length_map,List.length_append,List.length_nil];have:=mn ls';omega),?_⟩
    refine⟨fs++[(u,ku)],ls'++u.sides.map fun s=>(s,ku+1),_,_,rfl,(Xc.trans (.new hpx)).put yO,?_,?_,?_,?_⟩
    ·rw[ac y9,ac (fun h=>by rw[h,hpx]at fc;cases fc)];exact fc
    ·rw[List.map_append,List.map_map,List.nil_append];rfl
    ·refine List.Perm.trans ?_ hp
     rw[List.flatMap_append,List.append_assoc]
     refine List.Perm.append_left fs ?_
     rw[List.singleton_append]
     exact List.perm_middle.symm
    ·rw[List.flatMap_append,List.length_append,List.length_append,List.length_cons];omega
 ·rename_i h0
  have e0:ls=[]:=List.eq_nil_of_length_eq_zero (by omega)
  subst e0
  refine hN _ _ ?_
  walk_at "x"
  exact k pf fs S1 hpf X1 f1 (by simpa using hp)
def Sh.l6{S:aj}{a:Addr}{n k:Nat}{vs:List PV}{ds:List PyData}(h:S a=some (.lst vs))(b:w5 S vs ds n k):Sh S (.ref a) (.list ds) (n+3) (k+1):=
 ⟨.ref h b.dat,by simp[PyData.canLay0,b.lay],by simp[PyData.showable,b.yo],by simp only[PyData.depth];exact Nat.succ_le_succ b.dep,by
  rw[PyData.shown_list,strLen_append,strLen_append]
  have e1:((("[":String):Str)).length=1:=rfl
  have e3:((("]":String):Str)).length=1:=rfl
  have q:=b.len
  rcases ds with _|⟨d,ds⟩
  ·have:(Str.join ", " (PyData.shownAll [])).length=0:=by simp[PyData.shownAll];rfl
   omega
  ·have:=join_length_add (PyData.shownAll (d::ds)) (by simp[PyData.shownAll])
   omega⟩
def iy{S:aj}{p a b:Addr}{xs ys:Vs}{Q:bP}(hp:S p=some (.lst [.ref a,.ref b]))(ha:S a=some (.lst (xs.map PV.str)))(hb:S b=some (.lst (ys.map PV.str)))(hx:∀z∈xs,IsW z)(hy:∀z∈ys,IsW z)(lx:xs.length<=100)(ly:ys.length<=100)
  (q:Q (.str (PyData.list [.list (xs.map PyData.str),.list (ys.map PyData.str)]).shown) S):cn [.ref p] S Q:=by
 have A:Sh S (.ref a) (.list (xs.map PyData.str)) 10000 2:=(Sh.l6 ha (w5.map PV.str PyData.str (n:=62) (k:=0) fun z hz=>Sh.w (hx z hz))).le (by omega) (by decide)
 have B:Sh S (.ref b) (.list (ys.map PyData.str)) 10000 2:=(Sh.l6 hb (w5.map PV.str PyData.str (n:=62) (k:=0) fun z hz=>Sh.w (hy z hz))).le (by omega) (by decide)
 have C:=Sh.l6 hp (A.cons (B.cons (.zG 2)))
 show jp [.ref p] S Q
 exact⟨_,C.dat,C.yo,C.dict,Nat.le_trans C.dep (by decide),Nat.le_trans (Nat.le_trans C.len (by decide)) qv,q⟩
def sN:([PV.str "put",PV.str "take"]:List PV)=(["put","take"]:Vs).map PV.str:=rfl
def sO:∀z∈(["put","take"]:Vs),PyData.strOk z=true:=by decide +kernel
abbrev dD(w:aH):Prop:=∀{S:aj} {t:Bd} {ws:Vs} {Q:bP} {E:cr},t.dep<=12->t.size<=50->t.good ws ws->(∀z∈ws,IsW z)->(∀S',Ext S S'->Q (.bl true) S')->w [t.pv] S Q E
def ww{x0 x1 x2 x3 x4:aH}(xc:jF x0)(vn:dm 12 x1)(v_:bN 12 x2)(wO:cW ["put","take"] x3)(wP:cW ["use"] x4):dD (bu 6 (bL x0 x1 x2 x3 x4)):=by
 intro S t ws Q E hd hz hg hw k
 unfold bL
 refine iW ?_
 rw[show az 6 [t.pv]=[some t.pv,none,none,none,none,none] from rfl]
 refine aN fun N hN=>?_
 simp only[aJ,ad,au,v3,lk]
 refine xc (by omega) fun pa fs S1 hpa X1 f1 hp=>?_
 have hfl:fs.length=t.size:=by rw[hp.length_eq,i_]
 have zM:(fs.map Prod.fst).Perm t.parts:=by rw[<-ix t 1];exact hp.map _
 simp only[List.set_cons_succ,List.set_cons_zero]
 refine hN _ _ (aN fun N hN=>?_)
 simp only[aJ,eR,aG,aM,v3,lk,bB,f1]
 refine aV encD (fun u=>.str (oo u.1)) (fun u=>decide (u.1.hd∈(["put","take"]:Vs))) f1 fs [] (fun u hu=>⟨_,rfl,fun K hK=>?_,fun hc Q' q=>?_⟩) (aK (by simp;omega)) ?_
 ·simp only[bi,ap,ba,au,v3,lk,c3,aE,br,List.reduceReplicate,List.map_nil,List.append_nil,List.set_cons_succ,List.set_cons_zero,Bd.v0,oP,sN]
  refine ie u.1.x9 sO ?_
  rw[Bool.false_bne]
  exact hK
 ·simp only[ap,v3,lk,c3,aE,br,List.reduceReplicate,List.map_nil,List.append_nil,List.set_cons_succ,List.set_cons_zero,Bd.v0,i9 (t:=u.1) (hs:=["put","take"]) (by decide) (of_decide_eq_true hc)]
  exact q
 intro q2 hq2
 have en:((fs.filter fun u=>decide (u.1.hd∈(["put","take"]:Vs))).map fun u=>PV.str (oo u.1))=(d0 ["put","take"] (fs.map Prod.fst)).map PV.str:=by
  unfold d0;rw[List.filter_map,List.map_map,List.map_map];rfl
 rw[List.nil_append,en]
 simp only[aa,bC]
 have l1:=gI ["put","take"] (fs.map Prod.fst)
 have l2:=Sa.gB (d0 ["put","take"] (fs.map Prod.fst))
 rw[List.length_map]at l1
 refine⟨by omega,fun pj sj AK AL AM=>?_⟩
 have R1:xK (d0 ["put","take"] (fs.map Prod.fst)) sj:=⟨AL,AM⟩
 have XA:Ext S1 (u6 (u6 S1 q2 (.lst ((d0 ["put","take"] (fs.map Prod.fst)).map PV.str))) pj (.lst (sj.map PV.str))):=(Ext.new hq2).trans (.new AK)
 have j2:(u6 (u6 S1 q2 (.lst ((d0 ["put","take"] (fs.map Prod.fst)).map PV.str))) pj (.lst (sj.map PV.str))) pj=some (.lst (sj.map PV.str)):=aa
 generalize u6 (u6 S1 q2 (.lst ((d0 ["put","take"] (fs.map Prod.fst)).map PV.str))) pj (.lst (sj.map PV.str))=S2 at XA j2
 have f2:=XA _ _ f1
 have X2:Ext S S2:=X1.trans XA
 refine hN _ _ (aN fun N hN=>?_)
 simp only[aJ,eR,aG,aM,v3,lk,bB,f2,List.set_cons_succ,List.set_cons_zero]
 refine aV encD (fun u=>.str (oo u.1)) (fun u=>decide (u.1.hd∈(["use"]:Vs))) f2 fs [] (fun u hu=>⟨_,rfl,fun K hK=>?_,fun hc Q' q=>?_⟩) (aK (by simp;omega)) ?_
 ·simp only[bi,ap,ba,au,v3,lk,c3,aE,br,List.reduceReplicate,List.map_nil,List.append_nil,List.set_cons_succ,List.set_cons_zero,Bd.v0,oP,eX,Bool.false_bne]
  simp only[List.mem_singleton]at hK
  exact hK
 ·simp only[ap,v3,lk,c3,aE,br,List.reduceReplicate,List.map_nil,List.append_nil,List.set_cons_succ,List.set_cons_zero,Bd.v0,i9 (t:=u.1) (hs:=["use"]) (by decide) (of_decide_eq_true hc)]
  exact q
 intro q3 AN
 have AO:((fs.filter fun u=>decide (u.1.hd∈(["use"]:Vs))).map fun u=>PV.str (oo u.1))=(d0 ["use"] (fs.map Prod.fst)).map PV.str:=by
  unfold d0;rw[List.filter_map,List.map_map,List.map_map];rfl
 rw[List.nil_append,AO]
 simp only[aa,bC]
 have l3:=gI ["use"] (fs.map Prod.fst)
 have l4:=Sa.gB (d0 ["use"] (fs.map Prod.fst))
 rw[List.length_map]at l3
 refine⟨by omega,fun pu su AQ AR AS=>?_⟩
 have R2:xK (d0 ["use"] (fs.map Prod.fst)) su:=⟨AR,AS⟩
 have XB:Ext S2 (u6 (u6 S2 q3 (.lst ((d0 ["use"] (fs.map Prod.fst)).map PV.str))) pu (.lst (su.map PV.str))):=(Ext.new AN).trans (.new AQ)
 have u3:(u6 (u6 S2 q3 (.lst ((d0 ["use"] (fs.map Prod.fst)).map PV.str))) pu (.lst (su.map PV.str))) pu=some (.lst (su.map PV.str)):=aa
 generalize u6 (u6 S2 q3 (.lst ((d0 ["use"] (fs.map Prod.fst)).map PV.str))) pu (.lst (su.map PV.str))=S3 at XB u3
 have f3:=XB _ _ f2
 have j3:=XB _ _ j2
 have X3:Ext S S3:=X2.trans XB
 refine hN _ _ (aN fun N hN=>?_)
 have small:∀n:Nat,n<=1000->((n:Int).natAbs.log2 < 1920):=fun n hn=>kg (by omega)
 simp only[fE,nq,bi,ap,ao,ad,au,v3,lk,List.set_cons_succ,List.set_cons_zero]
 refine vn hd (by omega) fun S4 X4=>?_
 simp only[cn]
 refine⟨small _ (by omega),?_⟩
 simp only[cv,X4 _ _ f3,List.length_map,hfl]
 refine⟨small _ (by omega),?_⟩
 simp only[eX,decide_true,bne_self_eq_false,Bool.false_eq_true,if_false]
 refine v_ hd (by omega) fun S5 X5=>?_
 have f5:=X5 _ _ (X4 _ _ f3)
 refine⟨small _ (by omega),?_⟩
 simp only[aG,aM,v3,lk,bB,f5]
 refine dn encD (fun u=>.int (u.2:Int)) f5 fs [] (fun u hu=>⟨_,rfl,fun Q' q=>?_⟩) (aK (by simp;omega)) ?_
 ·simp only[v3,lk,br,List.reduceReplicate,List.map_nil,List.append_nil,List.set_cons_succ,List.set_cons_zero]
  exact q
 intro q5 AT
 have em:(fs.map fun u=>PV.int (u.2:Int))=(fs.map fun u=>(u.2:Int)).map PV.int:=by rw[List.map_map];rfl
 rw[List.nil_append,em]
 simp only[jx,aa,eI]
 obtain⟨m1,pm,m2,m3⟩:=qN t 1
 refine⟨by rw[List.length_map,hfl];have:=t.vg;have:=t.wm;omega,fun M AU AV=>?_⟩
 have hM:M=(t.dep:Int):=by
  obtain⟨u,hu,rfl⟩:=List.mem_map.mp AU
  have a:=m1 u (hp.mem_iff.mp hu)
  have b:=AV (pm.2:Int) (List.mem_map.mpr ⟨pm,hp.mem_iff.mpr m2,rfl⟩)
  omega
 rw[hM]
 refine⟨small _ (by omega),?_⟩
 simp only[decide_true,bne_self_eq_false,Bool.false_eq_true,if_false]
 have X6:Ext S3 (u6 S5 q5 (.lst ((fs.map fun u=>(u.2:Int)).map PV.int))):=X4.trans (X5.trans (.new AT))
 generalize u6 S5 q5 (.lst ((fs.map fun u=>(u.2:Int)).map PV.int))=S6 at X6
 refine hN _ _ (aN fun N hN=>?_)
 have wj:∀z∈sj,IsW z:=fun z hz=>by
  obtain⟨u,hu,rfl⟩:=List.mem_map.mp (R1.mem hz)
  obtain⟨h1,h2⟩:=List.mem_filter.mp hu
  refine hw _ (jE (eV t hg u (zM.mem_iff.mp h1)) ?_)
  have:=of_decide_eq_true h2
  simp only[List.mem_cons,List.not_mem_nil,or_false]at this ⊢
  rcases this with h|h<;>simp[h]
 have wu:∀z∈su,IsW z:=fun z hz=>by
  obtain⟨u,hu,rfl⟩:=List.mem_map.mp (R2.mem hz)
  obtain⟨h1,h2⟩:=List.mem_filter.mp hu
  refine hw _ (jE (eV t hg u (zM.mem_iff.mp h1)) ?_)
  have:=of_decide_eq_true h2
  simp only[List.mem_cons,List.not_mem_nil,or_false]at this ⊢
  simp[this]
 have same:∀(hs:Vs) (z:Str),z∈d0 hs t.parts↔z∈d0 hs (fs.map Prod.fst):=fun hs z=>by
  unfold d0
  exact((zM.symm.filter _).map _).mem_iff
 simp only[eE,eC,c3]
 refine⟨by decide,by decide,?_⟩
 refine dY (fun done σ S'=>∃(x4 x5:Option PV),σ=[some t.pv,some (.ref pa),some (.ref pj),some (.ref pu),x4,x5]/\Ext S3 S') ⟨_,_,rfl,X6⟩ (fun _ _ _ _=>trivial) ?_ ?_
 ·rintro done x rest σ S7 K e ⟨x4,x5,rfl,X7⟩ hK
  simp only[Tg.put,List.set_cons_succ,List.set_cons_zero]
  refine aN fun N2 xy=>?_
  simp only[aJ,ci,au,ad,v3,lk]
  refine wO hd hz fun a1 s1 S8 ha1 X8 e1 Ra=>?_
  refine wP hd hz fun a2 s2 S9 ha2 X9 e2 Rb=>?_
  obtain rfl:s1=sj:=Ra.one R1 (same _)
  obtain rfl:s2=su:=Rb.one R2 (same _)
  intro p5 y_
  simp only[List.set_cons_succ,List.set_cons_zero]
  have n1:a1≠p5:=fun h=>by have:=X9 _ _ e1;rw[h,y_]at this;cases this
  have n2:a2≠p5:=fun h=>by rw[h,y_]at e2;cases e2
  have AW:a1≠a2:=fun h=>by have:=e1;rw[h,ha2]at this;cases this
  have h1:(u6 S9 p5 (.lst [.ref a1,.ref a2])) a1=some (.lst (s1.map PV.str)):=by rw[ac n1];exact X9 _ _ e1
  have h2:(u6 S9 p5 (.lst [.ref a1,.ref a2])) a2=some (.lst (s2.map PV.str)):=by rw[ac n2];exact e2
  have h5:(u6 S9 p5 (.lst [.ref a1,.ref a2])) p5=some (.lst [.ref a1,.ref a2]):=aa
  have yx:Ext S3 (u6 S9 p5 (.lst [.ref a1,.ref a2])):=X7.trans (X8.trans (X9.trans (.new y_)))
  have hf5:S3 p5=none:=(X7.trans (X8.trans X9)).free y_
  generalize u6 S9 p5 (.lst [.ref a1,.ref a2])=yP at h1 h2 h5 yx
  have hf1:S3 a1=none:=X7.free ha1
  have hf2:S3 a2=none:=(X7.trans X8).free ha2
  have lj:s1.length<=100:=by have:=R1.len;omega
  have lu:s2.length<=100:=by have:=R2.len;omega
  refine xy _ _ (aN fun N2 xy=>?_)
  simp only[fE,bi,ap,ao,au,v3,lk]
  refine iy h5 h1 h2 wj wu lj lu ?_
  simp only[ci,au,v3,lk]
  intro p6 zN
  have k1:(u6 yP p6 (.lst [.ref pj,.ref pu])) pj=some (.lst (s1.map PV.str)):=by rw[ac (fun h=>by have:=yx _ _ j3;rw[h,zN]at this;cases this)];exact yx _ _ j3
  have k2:(u6 yP p6 (.lst [.ref pj,.ref pu])) pu=some (.lst (s2.map PV.str)):=by rw[ac (fun h=>by have:=yx _ _ u3;rw[h,zN]at this;cases this)];exact yx _ _ u3
  refine iy aa k1 k2 wj wu lj lu ?_
  simp only[eX,decide_true,bne_self_eq_false,Bool.false_eq_true,if_false]
  have yQ:Ext yP (u6 yP p6 (.lst [.ref pj,.ref pu])):=.new zN
  generalize u6 yP p6 (.lst [.ref pj,.ref pu])=Ae at yQ
  have Af:=yQ _ _ h5
  have h1':=yQ _ _ h1
  have h2':=yQ _ _ h2
  refine xy _ _ (aN fun N2 xy=>?_)
  simp only[bA,fD,lL,au,ap,v3,lk,c3,aE,Af,oP,h1',true_and,gk]
  refine xy _ _ ?_
  have zO:(u6 Ae a1 (.lst [])) p5=some (.lst [.ref a1,.ref a2]):=by rw[ac (Ne.symm n1)];exact Af
  have zP:(u6 Ae a1 (.lst [])) a2=some (.lst (s2.map PV.str)):=by rw[ac (Ne.symm AW)];exact h2'
  simp only[bA,fD,lL,au,ap,v3,lk,c3,aE,zO,uD,zP,true_and,bb]
  refine⟨bc (by rw[List.length_map];omega),hK _ _ ⟨_,_,rfl,?_⟩⟩
  exact((yx.trans yQ).put hf1).put hf2
 ·rintro σ S7 ⟨x4,x5,rfl,X7⟩
  refine hN _ _ ?_
  walk_at "x"
  exact k S7 (X3.trans X7)
abbrev ou(w:aH):Prop:=∀{ns:Vu} {S:aj} {Q:bP} {E:cr},ns.length<=63->(∀S',Q (.bl true) S')->w [.cl (ns.map PV.int)] S Q E
def qO{x0 x1 x2 x3 x4:aH}(wG:ib x0)(u8:bh x1)(wN:iu x2)(ww:dD x3)(xX:cf 12 x4):ou (bu 4 (mh x0 x1 x2 x3 x4)):=by
 intro ns S Q E hl k
 unfold mh
 refine iW ?_
 rw[show az 4 [PV.cl (ns.map PV.int)]=[some (.cl (ns.map PV.int)),none,none,none] from rfl]
 refine aN fun N hN=>?_
 simp only[aJ,ad,au,v3,lk,c3]
 refine wG hl (by decide) (by decide) fun d l S1 _ _ D1 _=>?_
 simp only[List.set_cons_succ,List.set_cons_zero]
 refine hN _ _ (aN fun N hN=>?_)
 simp only[eE,eC,c3]
 refine⟨by decide,by decide,?_⟩
 refine dY (fun done σ S'=>∃(x2 x3:Option PV),σ=[some (.cl (ns.map PV.int)),some (.ref d),x2,x3]/\vm S' d l) ⟨_,_,rfl,D1⟩ (fun _ _ _ _=>trivial) ?_ ?_
 ·rintro done x rest σ S2 K e ⟨x2,x3,rfl,D2⟩ hK
  simp only[Tg.put,List.set_cons_succ,List.set_cons_zero]
  refine aN fun N2 xy=>?_
  simp only[aJ,aG,eC,ap,ad,au,v3,lk,c3]
  refine u8 D2 (by decide) (by decide) fun r S3 r0 r1 D3 O3=>?_
  simp only[a6]
  refine⟨by omega,by omega,?_⟩
  refine eL (fun done ys S'=>∃ws:List Str,ys=ws.map PV.str/\ws.length=done.length/\done.length<=(1+r).toNat/\(∀z∈ws,IsW z)/\vm S' d l) ⟨[],rfl,rfl,Nat.zero_le _,(fun z hz=>by cases hz),D3⟩ ?_ ?_ ?_
  ·rintro done ys S' ⟨ws,rfl,e,hd,_⟩
   exact⟨trivial,aK (by rw[List.length_map,e];omega)⟩
  ·rintro done x rest ys S' K e ⟨ws,rfl,e2,hd,hw,D'⟩ hK
   obtain⟨rfl,hi⟩:=nV e
   simp only[Tg.put,br,List.reduceReplicate,List.map_cons,List.map_nil,List.cons_append,List.nil_append,List.set_cons_zero,cQ,if_true,lk]
   refine wN D' fun z S4 hz D4 O4=>hK _ _ ⟨ws++[z],by simp,by simp[e2],by rw[List.length_append];exact hi,fun y hy=>?_,D4⟩
   rcases List.mem_append.mp hy with hy|hy
   ·exact hw y hy
   ·rw[List.mem_singleton.mp hy];exact hz
  ·rintro ys S4 ⟨ws,rfl,e2,_,hw,D4⟩ pw Ag
   rw[cS]at e2
   have dw:=D4.free Ag
   have y8:(u6 S4 pw (.lst (ws.map PV.str))) pw=some (.lst (ws.map PV.str)):=aa
   have D5:=D4.new (o:=.lst (ws.map PV.str)) Ag
   generalize u6 S4 pw (.lst (ws.map PV.str))=S5 at y8 D5
   simp only[List.set_cons_succ,List.set_cons_zero]
   refine xy _ _ ?_
   simp only[fE,j0,bi,ad,au,ap,v3,lk,c3]
   refine u8 D5 (by decide) (by decide) fun r2 S6 a0 a1 D6 O6=>?_
   simp only[a6]
   refine xX D6 (O6 _ _ y8 dw.1 dw.2) dw.1 dw.2 (by omega) (by omega) (by omega) (by omega) (by decide) (by decide) fun t S7 g td ts D7 O7=>?_
   refine ww (by omega) (by omega) g hw fun S8 X8=>?_
   simp only[Bool.not_true,Bool.false_eq_true,if_false]
   exact hK _ _ ⟨_,_,rfl,D7.ext X8⟩
 ·rintro σ S2 ⟨x2,x3,rfl,D2⟩
  refine hN _ _ ?_
  walk_at "x"
  exact k S2
def gJ:bh w__law_draw:=u8
def sP:gz cF:=w9
def jG:ce bH:=vL
theorem gK:∀n,aX n (bI n)
 |0=>fun h _ _=>absurd h (by have:=Bd.wm;exact Nat.not_le.mpr (this _))
 |n+1=>vn jG n (gK n)
def mo:dm 12 gE:=ki 12 (gK 12)
theorem fT:∀n,bN n (cU n)
 |0=>fun h _ _=>absurd h (by have:=Bd.wm;exact Nat.not_le.mpr (this _))
 |n+1=>v_ jG n (fT n)
def jH:cg bJ:=vM (gK 12)
def qP:dB a8:=mj gJ sP
theorem mq:∀n,cf n (aR n)
 |0=>fun _ _ _ _ _ _ _ _ h0 h1 _=>by omega
 |n+1=>ml gJ qP n (mq n)
def ow:dD bM:=ww (xc wv) mo (fT 12) (wO jH) (wP jH)
def mr:∀ns:List Int,ns.length<=63->iq [.cl (ns.map PV.int)] (fun _=>none) (fun v _=>v = .bl true) di:=fun ns h=>qO wG gJ (wN gJ wM) ow (mq 12) h fun _=>rfl
end G06
namespace L3
open PySem L2 Xc
def mw{P:List Value->Prop}(h:∀a,P [a])(us:Vv)(hl:us.length=1):P us:=match us,hl with|[_],_=>h _
def sQ{P:List Value->Prop}(h:∀a b,P [a,b])(us:Vv)(hl:us.length=2):P us:=match us,hl with|[_,_],_=>h _ _
def uZ{P:List Value->Prop}(h:∀a b c d,P [a,b,c,d])(us:Vv)(hl:us.length=4):P us:=match us,hl with|[_,_,_,_],_=>h _ _ _ _
section
variable {K:Vo} {h:Heap} {mg:Vr} {x c m q:Str} {st:Stmt} {ps fl:Vs}
noncomputable def oy:Option (Option Value)->Bool
 |some none=>true
 |_=>false
def oz{o:Option (Option Value)}(h:oy o=true):o=some none:=by
 unfold oy at h;split at h
 ·rfl
 ·cases h
def FnAt(K:Vo)(f:Addr)(m q:Str)(st:Stmt):Prop:=∃(oc kV doc pm cdv ct:Value) (od an:Option Addr) (osl:Array (Option Value)),
 K.lookup f=some ⟨oc,od,.func (PySem.W.fnOf m q (bj st) (aQ st) (ar st) .none kV doc pm an cdv ct),osl⟩/\PySem.W.codeIn K cdv q=true/\PySem.W.keepIn K (.ref f)=true
abbrev mx(m q:Str)(st:Stmt)(ps:Vs):Prop:=∀(kV doc pm:Value) (an:Option Addr) (cdv ct:Value) (us:Vv),us.length=ps.length->bindArgs (PySem.W.fnOf m q (bj st) (aQ st) (ar st) .none kV doc pm an cdv ct) ⟨us,[]⟩=pure (ps.zip us)
def FnAt.mk{f:Addr}(a:FnAt K f m q st)(hb:mx m q st ps):∃fd,xZ K m q st f fd/\Binds K fd ps []/\PySem.W.keepIn K (.ref f)=true:=by
 obtain⟨oc,kV,doc,pm,cdv,ct,od,an,osl,l,cc,k⟩:=a
 exact⟨_,f9 l cc k,(f9 l cc k).binds hb,k⟩
def wx(K:Vo)(x:Str)(st:Stmt):Prop:=∃f,PySem.W.nsIn K mainGlobals x=some (some (.ref f))/\FnAt K f x x st
def wx.own(X:K.In h)(G:h.Ns mainGlobals mg)(a:wx K x st)(hb:mx x x st ps):bv K mg x st ps:=by
 obtain⟨f,n,a⟩:=a
 obtain⟨fd,F,b,k⟩:=a.mk hb
 exact⟨f,fd,F,b,k,PySem.W.mg_of X G n⟩
def wx.law{fa:Addr}(X:K.In h)(G:h.Ns mainGlobals mg)(a:wx K x st)(hfa:mg x=some (.ref fa))(hb:mx x x st ps):∃kV doc pm an cdv ct,tu K mg x st ps fa (PySem.W.fnOf x x (bj st) (aQ st) (ar st) .none kV doc pm an cdv ct):=by
 obtain⟨f,n,oc,kV,doc,pm,cdv,ct,od,an,osl,l,cc,k⟩:=a
 cases hfa.symm.trans (PySem.W.mg_of X G n)
 exact⟨kV,doc,pm,an,cdv,ct,f9 l cc k,(f9 l cc k).binds hb,k,hfa⟩
def za(P:Program)(w:World)(K:Vo)(x:Str)(kvs:List (aC×V)):Prop:=∃a o,PySem.W.nsIn K mainGlobals x=some (some (.ref a))/\K.lookup a=some o/\(a == sysModules)=false/\∃vs,KV kvs vs/\Obj.IsDictOf (aq P w) o vs
def za.kd{P:Program}{w:World}{kvs:List (aC×V)}(X:K.In h)(G:h.Ns mainGlobals mg)(a:za P w K x kvs):∃a,mg x=some (.ref a)/\KD P w K a kvs:=by
 obtain⟨a,o,n,l,s,vs,h1,h2⟩:=a
 exact⟨a,PySem.W.mg_of X G n,s,o,vs,l,h1,h2⟩
def eW(X:K.In h)(G:h.Ns mainGlobals mg){l:Vs}(a:(l.all fun x=>oy (PySem.W.nsIn K mainGlobals x))=true)(hx:x∈l:=by decide):mg x=none:=PySem.W.mg_none_of X G (oz (List.all_eq_true.mp a x hx))
section
variable {f C:Addr} {oc kV doc pm cdv ct:Value} {od an:Option Addr} {osl:Array (Option Value)}
def u4(n:PySem.W.nsIn K mainGlobals x=some (some (.ref f)))(l:K.lookup f=some ⟨oc,od,.func (PySem.W.fnOf x x (bj st) (aQ st) (ar st) .none kV doc pm an cdv ct),osl⟩)(cc:PySem.W.codeIn K cdv x=true)(k:PySem.W.keepIn K (.ref f)=true):wx K x st:=⟨f,n,oc,kV,doc,pm,cdv,ct,od,an,osl,l,cc,k⟩
def u5{P:Program}{w:World}{kvs:List (aC×V)}{o:Obj}(n:PySem.W.nsIn K mainGlobals x=some (some (.ref f)))(l:K.lookup f=some o)(s:(f == sysModules)=false)(v:∃vs,KV kvs vs/\Obj.IsDictOf (aq P w) o vs):za P w K x kvs:=⟨f,o,n,l,s,v⟩
end
end
section
variable {K:Vo} {h:Heap} {mg:Vr} {x:Str} {st:Stmt} {ps:Vs}
end
end L3
namespace G06
open PySem L2 L3
def qQ{l:PySem.W.OpenLaw}{w:World}{K:Vo}{h:Heap}{mg:Vr}{fa:Addr}(X:K.In h)(G:h.Ns mainGlobals mg)(hfa:mg "law" = some (.ref fa))
  (vD:wx K "sides_of" (bR 2))
  (vE:wx K "parts_in" (bR 3))
  (wa:wx K "parts" (bR 4))
  (vV:wx K "within" (bR 5))
  (vF:wx K "names_in" (bR 6))
  (vN:wx K "jars_in" (bR 7))
  (vO:wx K "uses_in" (bR 8))
  (vv:wx K "_law_deal" (bR 10))
  (vx:wx K "_law_draw" (bR 11))
  (vG:wx K "_law_low" (bR 12))
  (vy:wx K "_law_kept" (bR 13))
  (vz:wx K "_law_name" (bR 14))
  (vh:wx K "_law_any_leaf" (bR 15))
  (vi:wx K "_law_any_body" (bR 16))
  (vp:wx K "_law_inner" (bR 17))
  (vH:wx K "_law_all" (bR 18))
  (vq:wx K "_law_right" (bR 19))
  (vt:za l.prog w K "SIDES_FROM" (C.k_SIDES_FROM.map fun kv=>(kv.1,V.int kv.2)))
  (xz:((["isinstance","len","list","max","range","repr","reversed","set","sorted","str","tuple"]:Vs).all fun x=>oy (PySem.W.nsIn K mainGlobals x))=true)
  (xL:wx K "law" (bR 20))
  : ∃fd:FuncData,(∀(s:Shared) (v:Value),BindsTo s fd ⟨[v],[]⟩ [("_law_script",v)])/\∀base:Heap,K.In base->base.Ns mainGlobals mg->eZ l.prog w K mg base oG 17 fa fd ["_law_script"] (sy K 1 iq):=by
 obtain⟨kV,doc,pm,an,cdv,ct,O⟩:=xL.law X G hfa (ps:=["_law_script"]) (fun _ _ _ _ _ _=>mw fun _=>rfl)
 exact⟨_,fun s v=>.of_eq rfl,fun base _ _=>(qJ (P:=l.prog) (w:=w) (base:=base) ⟨vD.own X G (fun _ _ _ _ _ _=>mw fun _=>rfl),
  vE.own X G (fun _ _ _ _ _ _=>mw fun _=>rfl),
  wa.own X G (fun _ _ _ _ _ _=>mw fun _=>rfl),
  vV.own X G (fun _ _ _ _ _ _=>mw fun _=>rfl),
  vF.own X G (fun _ _ _ _ _ _=>sQ fun _ _=>rfl),
  vN.own X G (fun _ _ _ _ _ _=>mw fun _=>rfl),
  vO.own X G (fun _ _ _ _ _ _=>mw fun _=>rfl),
  vv.own X G (fun _ _ _ _ _ _=>sQ fun _ _=>rfl),
  vx.own X G (fun _ _ _ _ _ _=>sQ fun _ _=>rfl),
  vG.own X G (fun _ _ _ _ _ _=>sQ fun _ _=>rfl),
  vy.own X G (fun _ _ _ _ _ _ us hl=>match us,hl with|[],_=>rfl),
  vz.own X G (fun _ _ _ _ _ _=>mw fun _=>rfl),
  vh.own X G (fun _ _ _ _ _ _=>sQ fun _ _=>rfl),
  vi.own X G (fun _ _ _ _ _ _=>uZ fun _ _ _ _=>rfl),
  vp.own X G (fun _ _ _ _ _ _=>mw fun _=>rfl),
  vH.own X G (fun _ _ _ _ _ _=>mw fun _=>rfl),
  vq.own X G (fun _ _ _ _ _ _=>mw fun _=>rfl),
  eW (x:="isinstance") X G xz,
  eW (x:="len") X G xz,
  eW (x:="list") X G xz,
  eW (x:="max") X G xz,
  eW (x:="range") X G xz,
  eW (x:="repr") X G xz,
  eW (x:="reversed") X G xz,
  eW (x:="set") X G xz,
  eW (x:="sorted") X G xz,
  eW (x:="str") X G xz,
  eW (x:="tuple") X G xz,
  vt.kd X G⟩ O).ok⟩
def uw{l:PySem.W.OpenLaw}{q:Program}{loose:Vs}{XP:(Vr)->Heap->Prop}{YP:World->Heap->Prop}{d:DefRec}{K:Params->PySem.W.Frag}(hn:l.most=some 63)(hdf:d.params.defaults=[])
  (hY:∀(w:World) (h:Heap),YP w h->(K w.params).In h)
  (F:∀(w:World) (mg:Vr) (fa:Addr) (h:Heap),(K w.params).In h->h.Ns mainGlobals mg->mg d.name=some (.ref fa)->
   ∃fd:FuncData,(∀(s:Shared) (u:Value),BindsTo s fd ⟨[u],[]⟩ [("_law_script",u)])/\∀base:Heap,(K w.params).In base->base.Ns mainGlobals mg->eZ l.prog w (K w.params) mg base oG 17 fa fd ["_law_script"] (sy (K w.params) 1 iq)) :
  PySem.W.WalkO q loose XP YP l.row.toRowW d [] (fun f vs=>PySem.call f vs):=
 L2.m_ (n:=63) (k:=17) (x:="_law_script") (CX:=fun _=>oG) (sp:=fun w=>sy (K w.params) 1 iq) hn (by decide) hdf ⟨rfl,by decide,by decide,rfl⟩ hY F (fun _ _ a ns hl hO hS=>ue hO hS (mr ns hl)) fun _ _ _ _ _ z=>z
end G06
local macro_rules | `(tactic| walk_at "k")=>`(tactic| (apply L3.u4; k_is; k_is; k_is; k_is))
open PySem PySem.W PyProof.Rows
set_option maxRecDepth 100000 in
set_option maxHeartbeats 0 in
theorem PySem.Challenge.cw_dueworth_k06_parts_of_bodies_holds : PySem.Challenge.rw_dueworth_k06_parts_of_bodies.Holds := by
 w_on; refine holds_law E06.said fun said => ?_
 refine holds_open (q := E06.vw) (loose := ["SIDES_FROM"]) (Xt := fun s => (xlAt E06.vw [] s && recOk (RowW.records E06.rr) s)) (XP := XL E06.vw []) (N := 1334)
  (Yf := Hook.obs E06.hk) (Ya := Hook.val E06.hk) (YP := Hook.says (kHook E06.early.heap_1 E06.as E06.ux)) E06.left (Hook.of E06.hk) (Hook.keeps E06.hk) (fun s e => xl_of s (Bool.and_eq_true_iff.mp e).1)
  XL.keeps rfl rfl rfl (fun s e => recFacts_of (Bool.and_eq_true_iff.mp e).2) rfl (by assumption)
  (by decide +kernel) ⟨rfl, rfl, rfl, rfl, rfl, by decide +kernel⟩ ?hw ?hc
 (case hw => w_witness2)
 k_fill
 refine G06.uw (l := PySem.Challenge.rw_dueworth_k06_parts_of_bodies) rfl rfl (fun w h Y => PySem.W.kIn_of Y) ?F
 case F =>
  intro w mg fa h KX G hmg
  refine' G06.qQ KX G hmg ?vD ?vE ?wa ?vV ?vF ?vN ?vO ?vv ?vx ?vG ?vy ?vz ?vh ?vi ?vp ?vH ?vq ?vt ?xz ?xL
  (case vD => walk_at "k")
  (case vE => walk_at "k")
  (case wa => walk_at "k")
  (case vV => walk_at "k")
  (case vF => walk_at "k")
  (case vN => walk_at "k")
  (case vO => walk_at "k")
  (case vv => walk_at "k")
  (case vx => walk_at "k")
  (case vG => walk_at "k")
  (case vy => walk_at "k")
  (case vz => walk_at "k")
  (case vh => walk_at "k")
  (case vi => walk_at "k")
  (case vp => walk_at "k")
  (case vH => walk_at "k")
  (case vq => walk_at "k")
  (case vt => apply L3.u5; k_is; k_is; rfl; exact L2.pQ _ w [("then", 1, _, _), ("either", 1, _, _), ("take", 3, _, _), ("often", 1, _, _)] _ (by decide +kernel))
  (case xz => kernel_rfl)
  (case xL => walk_at "k")
#print axioms PySem.Challenge.cw_dueworth_k06_parts_of_bodies_holds
