import PyProof.Rows.All
import Wide.All
import OpenK.AllK
import Wide.FinOn
import Lean
import PyProof.EqAt
import PyProof.EqKinds
import PyProof.TupleCall
import PySem.Challenge.RW_dueworth_k02_refusals
import Open.Tree
import Open.Head
section
set_option Elab.async false
set_option linter.all false
set_option maxRecDepth 100000
set_option maxHeartbeats 0
abbrev zo:=@PySem.wpAny_bind
abbrev zp:=@PySem.Heap.get?_push_of_some
abbrev zq:=@PySem.wpAny_pure
abbrev zu:=@PySem.Heap.lt_size
abbrev zv:=@Nat.lt_of_lt_of_le
abbrev zw:=@Nat.le_refl
abbrev zx:=@List.size_toArray
abbrev zy:=@List.length_cons
abbrev zz:=@PySem.Heap.get?_push_size
abbrev zA:=@Bool.false_ne_true
abbrev zB:=@PySem.Heap.get?_update_other
abbrev zC:=@List.length_map
abbrev zD:=@Nat.ne_of_lt
abbrev zE:=@List.mem_cons
abbrev zF:=@List.map_cons
abbrev zG:=@PySem.wpAny_with_toks
abbrev zH:=@Nat.le_trans
abbrev zI:=@PyProof.Rows.slot_tuple_getitem
abbrev zJ:=@List.mem_append_right
abbrev zK:=@Option.some.inj
abbrev zL:=@PySem.wpAny_mono
abbrev zM:=@congrArg
abbrev zN:=@List.length_append
abbrev zO:=@Bool.false_eq_true
abbrev zP:=@Nat.lt_irrefl
abbrev zQ:=@List.getElem?_append_left
abbrev zR:=@List.length_replicate
abbrev zS:=@PySem.Heap.get?_update_self
abbrev zT:=@Nat.le_of_ble_eq_true
abbrev zU:=@decide_eq_false
abbrev zV:=@List.append_nil
abbrev zW:=@PySem.wpAny_Call_Name_kw
abbrev zX:=@List.mem_cons_of_mem
abbrev zY:=@PyProof.Rows.callWith_type1
abbrev zZ:=@PySem.wpAny_holding
abbrev z0:=@Option.map_eq_some_iff
abbrev z3:=@List.getElem?_map
abbrev z4:=@PySem.wpAny_newObj_type
abbrev z5:=@List.replicate_succ
abbrev z6:=@List.getElem?_eq_some_iff
abbrev z7:=@List.getElem?_eq_none
abbrev z8:=@Bool.and_eq_true
abbrev z9:=@List.mem_singleton
abbrev Aa:=@PySem.Heap.size_push
abbrev Ab:=@PySem.wpAny_field
abbrev Ac:=@List.getElem?_replicate
abbrev Ad:=@PySem.wpAny_loadPart_at
abbrev Ae:=@beq_eq_false_iff_ne
abbrev Af:=@PySem.mem_of_lookup
abbrev Ag:=@if_false
abbrev Ah:=@List.getElem?_append_right
abbrev Ai:=@Bool.false_bne
abbrev Aj:=@PySem.wpAny_passesOwn
abbrev Ak:=@Nat.le_of_lt
abbrev Al:=@Ne.symm
abbrev Am:=@List.mem_append_left
abbrev An:=@List.flatten_cons
abbrev Ao:=@List.lookup_cons
abbrev Aq:=@List.not_mem_nil
abbrev Ar:=@List.mem_cons_self
abbrev As:=@List.zip_cons_cons
abbrev Au:=@PySem.wpAny_standAt
abbrev Av:=@Bool.not_true
abbrev Aw:=@Bool.and_eq_true_iff
abbrev Ax:=@Nat.zero_le
abbrev Ay:=@beq_iff_eq
abbrev Az:=@PySem.F.excBase_ValueError
abbrev AA:=@decide_true
abbrev AB:=@PySem.codeAny_mono
abbrev AD:=@if_true
abbrev AE:=@List.length_drop
abbrev AF:=@PySem.F.args_tuple_add_2
abbrev AG:=@PySem.W.mg_of
abbrev AH:=@List.mem_append
abbrev AI:=@PySem.wpAny_execs_nil
abbrev AJ:=@List.length_set
abbrev AK:=@List.length_nil
abbrev AL:=@PySem.PassesOwn.never
abbrev AM:=@PySem.wpAny_call
abbrev AN:=@PySem.Code.quiet_builtin
abbrev AO:=@List.contains_cons
abbrev AQ:=@PySem.F.entry_tuple_add
abbrev AR:=@PySem.wpAny_callSpecial?_slot
abbrev AS:=@Nat.le_succ
abbrev AU:=@Nat.ne_of_gt
abbrev AV:=@PySem.F.slot_tuple_add
abbrev AW:=@List.reverse_cons
abbrev AX:=@List.map_nil
abbrev AY:=@decide_false
abbrev AZ:=@List.eraseIdxIfInBounds_toArray
abbrev A0:=@Nat.succ_le_succ
abbrev A1:=@List.length_take
abbrev A2:=@List.all_eq_true
abbrev A3:=@List.any_cons
abbrev A4:=@List.getElem?_set_ne
abbrev A5:=@PySem.codeAny_call_builtin
abbrev A6:=@Bool.eq_iff_iff
abbrev A7:=@List.nodup_cons
abbrev A8:=@List.filterMap_cons
abbrev A9:=@PySem.W.looks_findIn
abbrev Ba:=@List.mem_map
abbrev Bb:=@PySem.W.callWith_K
abbrev Bc:=@PySem.wpAny_loadPart
abbrev Bd:=@PySem.sizeLine_eq
abbrev Be:=@List.getElem?_set
abbrev Bf:=@bne_self_eq_false
abbrev Bg:=@Nat.lt_succ_self
abbrev Bh:=@Int.le_of_lt
abbrev Bj:=@or_false
namespace ET
open PySem PySem.W PyProof.Rows
def b6(tb:String→Option Builtin)(p:Program)(w:World)(n₀:Nat)(ann:Option Value):Nat→SharedT→Thread→Option SharedT
 |0,_,_=>none
 |n+1,s,t=>match through t with
  |true=>some s
  |false=>match stepOk n₀ ann t with
   |false=>none
   |true=>match stepT (denote tb) p w s t with
    |some x=>b6 tb p w n₀ ann n x.1 x.2
    |none=>none
theorem ef{tb:String→Option Builtin}{p:Program}{w:World}{n₀:Nat}{ann:Option Value}:∀{n:Nat} {s s':SharedT} {t:Thread},b6 tb p w n₀ ann n s t=some s'→topRun tb p w n₀ ann n s.abs t=some s'.abs
 |0,_,_,_,h=>by cases h
 |n+1,s,s',t,h=>by
  unfold b6 at h
  unfold topRun
  cases he:through t with
  |true=>rw[he]at h;cases h;rfl
  |false=>
   rw[he]at h
   cases hk:stepOk n₀ ann t with
   |false=>rw[hk]at h;cases h
   |true=>
    rw[hk]at h
    cases hs:stepT (denote tb) p w s t with
    |none=>rw[hs]at h;cases h
    |some r=>rw[hs]at h;rw[stepT_spec hs];exact ef h
def oZ:List Obj→BT→Nat→Option (BT×Nat)
 |[],t,n=>some (t,n)
 |o::os,t,n=>match ((t.ins n o).get n).isSome with
  |true=>oZ os (t.ins n o) (n+1)
  |false=>none
theorem gW{life:Life}:∀{os:List Obj} {t t':BT} {n n':Nat},oZ os t n=some (t',n')→absHeap t' n' life=⟨(absHeap t n life).objs++os.toArray,life⟩
 |[],t,t',n,n',h=>by cases h;simp[absHeap]
 |o::os,t,t',n,n',h=>by
  unfold oZ at h
  cases g:((t.ins n o).get n).isSome with
  |false=>rw[g]at h;cases h
  |true=>
   rw[g]at h
   rw[gW h,absHeap_ins g]
   simp[Heap.push]
def b7(tb:String→Option Builtin)(p:Program)(w:World)(N:Nat)(s₀:Shared):Option Shared:=
 match s₀.heap.isNs mainGlobals&&s₀.gens.size == 0 with
 |true=>match oZ s₀.heap.objs.toList .nil 0 with
  |some x=>match b6 tb p w x.2 (s₀.heap.nsMap mainGlobals "__annotations__") N ⟨x.1,x.2,s₀.heap.life,s₀.gens,s₀.drawn,s₀.toks,s₀.os⟩ (topStub p)with
   |some s=>match staticsOk (importedModules p.main.body) s₀.heap s.abs.heap&&namesBound p s.abs.heap&&gensDone s.abs&&laidKept s₀.heap s.abs.heap with
    |true=>some s.abs
    |false=>none
   |none=>none
  |none=>none
 |false=>none
theorem gy{tb:String→Option Builtin}{p:Program}{w:World}{N:Nat}{s₀ s:Shared}(h:b7 tb p w N s₀=some s):topFrom tb p w N s₀=some s:=by
 unfold b7 at h
 unfold topFrom
 cases h1:s₀.heap.isNs mainGlobals&&s₀.gens.size == 0 with
 |false=>rw[h1]at h;cases h
 |true=>
  rw[h1]at h
  dsimp only at h ⊢
  cases h2:oZ s₀.heap.objs.toList .nil 0 with
  |none=>rw[h2]at h;cases h
  |some x=>
   rw[h2]at h
   dsimp only at h
   have e:=gW (life:=s₀.heap.life) h2
   have e':absHeap x.1 x.2 s₀.heap.life=s₀.heap:=by
    rw[e]
    simp[absHeap,BT.list]
   have n':x.2=s₀.heap.objs.size:=by rw[←e',absHeap_size]
   cases h3:b6 tb p w x.2 (s₀.heap.nsMap mainGlobals "__annotations__") N ⟨x.1,x.2,s₀.heap.life,s₀.gens,s₀.drawn,s₀.toks,s₀.os⟩ (topStub p)with
   |none=>rw[h3]at h;cases h
   |some r=>
    rw[h3]at h
    dsimp only at h
    have ea:SharedT.abs ⟨x.1,x.2,s₀.heap.life,s₀.gens,s₀.drawn,s₀.toks,s₀.os⟩=s₀:=by
     unfold SharedT.abs
     rw[e']
    have:=ef h3
    rw[ea,n']at this
    rw[this]
    exact h
theorem gz{tb:String→Option Builtin}{p:Program}{w:World}{N:Nat}{s₀:Shared}{α:Type}{f:Shared→α}{a:α}(h:Option.map f (b7 tb p w N s₀)=some a):Option.map f (topFrom tb p w N s₀)=some a:=by
 obtain⟨s,h1,h2⟩:=z0.mp h
 rw[gy h1]
 exact zM some h2
def seenT(p q:Program)(loose:List Str)(Xt:Shared→Bool){α:Type}(Yf:Shared→α)(N:Nat)(u u':World):=
 Option.map (fun c=>Option.map (fun s=>(openSeen q loose (importedModules p.main.body) Xt true s,Yf s)) (b7 treeTable p u' N c)) (fencedOpening treeTable p u N)
lay_quick seenT
theorem kF{p q:Program}{loose:List Str}{Xt:Shared→Bool}{α:Type}{Yf:Shared→α}{N:Nat}{u u':World}{r}(h:PySem.W.Fast.tw2787559817927863336 p q loose Xt Yf N u u'=r):seenT p q loose Xt Yf N u u'=r:=by
 rw[PySem.W.Fast.te2787559817927863336]
 exact h
theorem kG{p q:Program}{loose:List Str}{Xt:Shared→Bool}{α:Type}{Yf:Shared→α}{Ya:World→α}{N:Nat}
  (h:∀u:World,seenT p q loose Xt Yf N u u=some (some (openGood q loose,Ya u))):LeftO p q loose Xt Yf Ya N:=fun u=>by
 obtain⟨c,a,b⟩:=z0.mp (h u)
 unfold openEnds
 rw[a]
 exact gz b
theorem o0{p q:Program}{loose:List Str}{Xt:Shared→Bool}{α:Type}{Yf:Shared→α}{Ya:World→α}{N:Nat}(row:String)
  (h0:∀u:World,seenT p q loose Xt Yf N u (u.withFollow row false)=some (some (openGood q loose,Ya (u.withFollow row false))))
  (h1:∀u:World,seenT p q loose Xt Yf N u (u.withFollow row true)=some (some (openGood q loose,Ya (u.withFollow row true)))):LeftO p q loose Xt Yf Ya N:=fun u=>by
 obtain⟨c,a,b⟩:=z0.mp (h0 u)
 obtain⟨c',a',b'⟩:=z0.mp (h1 u)
 have hc:c'=c:=by rw[a]at a';cases a';rfl
 subst hc
 have b:=gz b
 have b':=gz b'
 have hu:=World.withFollow_self u row
 unfold openEnds
 rw[a]
 cases hb:u.params.followText row<;>rw[hb]at hu
 ·rw[hu]at b
  exact b
 ·rw[hu]at b'
  exact b'
end ET
namespace E02
open PySem PySem.W PyProof.Rows
abbrev tp(i:Nat):Stmt:=PySem.Challenge.pw_dueworth_k02_refusals.main.body.getD i (.Pass ⟨0,0,0,0⟩)
/-- the text without what says nothing -/
def vw:Program:={ PySem.Challenge.pw_dueworth_k02_refusals with main:={ PySem.Challenge.pw_dueworth_k02_refusals.main with body:=[tp 1,tp 2,tp 3,tp 4,tp 5,tp 6,tp 7,tp 8,tp 10,tp 11,tp 12,tp 13,tp 14,tp 15,tp 16,tp 17] } }
abbrev rr:RowW:=OpenRow.toRowW (OpenLaw.row PySem.Challenge.rw_dueworth_k02_refusals)
local macro_rules | `(tactic| o_head $H)=>`(tactic|
 refine holds_open (q:=vw) (loose:=[]) (Xt:=fun s=>(xlAt vw [] s&&recOk (RowW.records rr) s)) (XP:=XL vw []) (N:=4254)
  (Yf:=Hook.obs $H) (Ya:=Hook.val $H) (YP:=Hook.says $H) ?hl (Hook.of $H) (Hook.keeps $H) (fun s e=>xl_of s (Aw.mp e).1)
  XL.keeps rfl rfl rfl (fun s e=>recFacts_of (Aw.mp e).2) rfl (by assumption)
  (by decide +kernel) ⟨rfl,rfl,rfl,rfl,rfl,by decide +kernel⟩ ?hw ?hc)
/-- the law is well said: by the quick twin of the look,with no twin of the program -/
theorem said:OpenLaw.wellSaid PySem.Challenge.rw_dueworth_k02_refusals=true:=(congrFun PySem.W.Fast.te9446332074065402090 _).trans (by kernel_rfl)
/-- says nothing; what lies in the heap is written down by the way -/
theorem early(h:∀P:Prop,P):PySem.Challenge.rw_dueworth_k02_refusals.Holds:=by
 w_on;refine holds_law said fun said=>?_;k_head
 all_goals exact h _
abbrev as:List Addr:=[2,3,6,15,22,23,24,25,28,35,37,38,40,41,42,43,44,47,54,56,57,59,60,61,62,63,66,73,75,76,78,79,80,81,82,85,92,94,95,97,98,99,100,101,104,111,112,113,116,123,124,125,128,135,136,137,140,143,144,145,147,148,150,151,152,155,156,157,159,160,162,163,164,167,168,169,171,172,174,175,176,178,179,181,182,183,185,186,188,189]
theorem sh(P:Params):as=(early.heap_1 P).map (·.1):=by kernel_rfl
noncomputable abbrev hk:Hook:=kHook early.heap_1 as sh
theorem o4(u:World):ET.seenT (OpenLaw.row PySem.Challenge.rw_dueworth_k02_refusals).prog vw [] (fun s=>(xlAt vw [] s&&recOk (RowW.records rr) s)) (Hook.obs hk) 4254 u u=some (some (openGood vw [],Hook.val hk u)):=ET.kF (by kernel_rfl)
theorem left:LeftO (OpenLaw.row PySem.Challenge.rw_dueworth_k02_refusals).prog vw [] (fun s=>(xlAt vw [] s&&recOk (RowW.records rr) s)) (Hook.obs hk) (Hook.val hk) 4254:=ET.kG o4
end E02
end
open PySem in
abbrev Vq:=Value->Shared->Prop
open PySem in
abbrev Va:=List (Addr×Obj)
open PySem in
abbrev Vo:=PySem.W.Frag
open PySem in
abbrev Vr:=Str->Option Value
open PySem in
abbrev Vs:=List Str
open PySem in
abbrev Vu:=List Int
open PySem in
abbrev Vv:=List Value
open PySem in
abbrev Vw:=Array Value
set_option Elab.async false
set_option linter.all false
set_option maxRecDepth 100000
namespace L2
open PySem PySem.Spec PyProof.Rows
abbrev aA:=Sum Int Str
noncomputable def dh:aA->Value->Bool
 | .inl k,v=>Value.isInt k v
 | .inr x,v=>Value.isStrOf x v
noncomputable def qU(w:World):aA->Int
 | .inl k=>hashInt k
 | .inr x=>hashStr w x
theorem ar:∀{k:aA} {v:Value},dh k v=true->(∃i t,k=Sum.inl i/\v=Value.int i t)\/(∃x t,k=Sum.inr x/\v=Value.str x t)
 | .inl i,v,h=>by
  obtain⟨t,e⟩:=Value.isInt_shape (k:=i) (v:=v) h
  exact .inl ⟨i,t,rfl,e⟩
 | .inr x,v,h=>by
  obtain⟨t,e⟩:=Value.isStrOf_shape (x:=x) (v:=v) h
  exact .inr ⟨x,t,rfl,e⟩
def iz(i:Int)(t:Tok):dh (.inl i) (.int i t)=true:=by simp[dh,Value.isInt]
def iA(x:Str)(t:Tok):dh (.inr x) (.str x t)=true:=by simp[dh,Value.isStrOf]
def ml(a b:Int):decide ((Sum.inl a:aA)=Sum.inl b)=(a == b):=by
 by_cases e:a=b
 ·subst e;simp
 ·have h:¬(Sum.inl a:aA)=Sum.inl b:=fun q=>e (Sum.inl.inj q)
  rw[zU h]
  exact(Ae.mpr e).symm
def mm(a b:Str):decide ((Sum.inr a:aA)=Sum.inr b)=decide (a=b):=by
 by_cases e:a=b
 ·subst e;simp
 ·have h:¬(Sum.inr a:aA)=Sum.inr b:=fun q=>e (Sum.inr.inj q)
  rw[zU h,zU e]
def mn(a:Int)(b:Str):decide ((Sum.inl a:aA)=Sum.inr b)=false:=zU (fun q=>nomatch q)
def mo(a:Str)(b:Int):decide ((Sum.inr a:aA)=Sum.inl b)=false:=zU (fun q=>nomatch q)
noncomputable def aw(prog:Program)(w:World):PySem.KeyKind prog w aA where
 is:=dh
 hash:=qU w
 inj:=fun v a b ha hb=>by
  rcases ar ha with⟨i,t,rfl,rfl⟩|⟨x,t,rfl,rfl⟩
  ·rcases ar hb with⟨j,u,rfl,e⟩|⟨y,u,rfl,e⟩
   ·injection e with e1 _;rw[e1]
   ·exact nomatch e
  ·rcases ar hb with⟨j,u,rfl,e⟩|⟨y,u,rfl,e⟩
   ·exact nomatch e
   ·injection e with e1 _;rw[e1]
 byValue:=fun k v h=>by
  rcases ar h with⟨i,t,rfl,rfl⟩|⟨x,t,rfl,rfl⟩<;>rfl
 pyHash:=fun hv h=>by
  rcases ar hv with⟨i,t,rfl,rfl⟩|⟨x,t,rfl,rfl⟩
  ·exact wpAny_pyHash_int h
  ·exact wpAny_pyHash_str h
 eqBool:=fun hu hv h=>by
  rcases ar hu with⟨i,t,rfl,rfl⟩|⟨x,t,rfl,rfl⟩
  ·rcases ar hv with⟨j,u,rfl,rfl⟩|⟨y,u,rfl,rfl⟩
   ·rw[ml]at h;exact wpAny_eqBool_int h
   ·rw[mn]at h;exact SeqAt.EqAt.int_str i t y u _ _ _ _ h
  ·rcases ar hv with⟨j,u,rfl,rfl⟩|⟨y,u,rfl,rfl⟩
   ·rw[mo]at h;exact SeqAt.EqAt.str_int x t j u _ _ _ _ h
   ·rw[mm]at h;exact wpAny_eqBool_str h
 «strs»:=fun k x t v h=>by
  rcases ar h with⟨i,u,rfl,e⟩|⟨y,u,rfl,e⟩
  ·exact nomatch e
  ·injection e with e1 _
   subst e1
   cases v<;>rfl
def fB(prog:Program)(w:World)(i:Int)(t:Tok):(aw prog w).is (.inl i) (.int i t)=true:=iz i t
def fD(prog:Program)(w:World)(x:Str)(t:Tok):(aw prog w).is (.inr x) (.str x t)=true:=iA x t
inductive V where
 |non|bl (b:Bool)|int (i:Int)|str (x:Str)|vJ (b:Array UInt8)|wY (b:UInt64)|ref (a:Addr)|ty (n:String)
 deriving DecidableEq
noncomputable def RelV:V->Value->Prop
 | .non,u=>u=Value.none
 | .bl b,u=>u=Value.bool b
 | .int i,u=>∃t,u=Value.int i t
 | .str x,u=>∃t,u=Value.str x t
 | .vJ b,u=>∃t,u=Value.bytes b t
 | .wY b,u=>∃t,u=Value.float b t
 | .ref a,u=>u=Value.ref a
 | .ty n,u=>u=Value.type n
noncomputable abbrev Vals:List V->List Value->Prop:=Paired RelV
theorem Vals.length{xs:List V}{us:Vv}(r:Vals xs us):xs.length=us.length:=Paired.length r
theorem Vals.get:∀{xs:List V} {us:Vv} {i:Nat} {x:V},Vals xs us->xs[i]?=some x->∃u,us[i]?=some u/\RelV x u
 |_,_,_,_,.nil,e=>by simp at e
 |_,_,0,_,.cons r _,e=>by simp at e;subst e;exact⟨_,rfl,r⟩
 |_,_,i+1,x,.cons _ t,e=>by
  obtain⟨u,h1,h2⟩:=Vals.get (i:=i) (x:=x) t (by simpa using e)
  exact⟨u,by simpa using h1,h2⟩
theorem Vals.set{x:V}{u:Value}(r:RelV x u):∀{xs:List V} {us:Vv} (i:Nat),Vals xs us->Vals (xs.set i x) (us.set i u)
 |_,_,_,.nil=>.nil
 |_,_,0,.cons _ t=>.cons r t
 |_,_,i+1,.cons q t=>.cons q (Vals.set r i t)
theorem Vals.append:∀{xs ys:List V} {us ws:Vv},Vals xs us->Vals ys ws->Vals (xs++ys) (us++ws)
 |_,_,_,_,.nil,s=>s
 |_,_,_,_,.cons r t,s=>.cons r (Vals.append t s)
theorem Vals.take:∀{xs:List V} {us:Vv} (n:Nat),Vals xs us->Vals (xs.take n) (us.take n)
 |_,_,0,_=>.nil
 |_,_,_+1,.nil=>.nil
 |_,_,n+1,.cons r t=>.cons r (Vals.take n t)
theorem Vals.drop:∀{xs:List V} {us:Vv} (n:Nat),Vals xs us->Vals (xs.drop n) (us.drop n)
 |_,_,0,r=>r
 |_,_,_+1,.nil=>.nil
 |_,_,n+1,.cons _ t=>Vals.drop n t
noncomputable def uq:Option V->Option Value->Prop
 |some v,some u=>RelV v u
 |none,none=>True
 |_,_=>False
noncomputable def KV{κ:Type}:List (κ×V)->List (κ×Value)->Prop:=Paired fun(p:κ×V) (q:κ×Value)=>p.1=q.1/\RelV p.2 q.2
noncomputable def kV:aA->V
 | .inl i=>.int i
 | .inr x=>.str x
inductive HO where
 /-- a list -/
 |lst (xs:List V)
 /-- a tuple (never changes) -/
 |tup (xs:List V)
 /-- a dict whose keys are ints and texts; one whose keys are tuples of ints and texts (the empty one is both) -/
 |dK (kvs:List (aA×V))|dT (kvs:List (List aA×V))
 /-- a set of ints: its members,its size -/
 |set (S:Int->Bool) (n:Nat)
 /-- an instance of the class at C,its dict at dx,its attributes -/
 |ins (C dx:Addr) (fs:List (Str×V))
 /-- the dict of the instance at x -/
 |own (x:Addr)
 /-- the dict of an exception -/
 |xd (fs:List (Str×V))
 /-- a bound method,f of x -/
 |met (f x:Addr)
 /-- a range object lo,lo + 1,.. below hi -/
 |xn (lo hi:Int)
 /-- a thing that is known to the object (the script; a dict while a loop walks it): read,never written while it is so -/
 |frz (o:Obj) (u:HO)
 /-- a code object's table -/
 |wm (ps:Vw)
 /-- any other thing,by what is true of its one object (a def of xX own: yB a S n:=HO.ext fun h=>..) -/
 |ext (φ:Heap->Prop)
abbrev Hp:=Addr->Option HO
noncomputable def upd(H:Hp)(a:Addr)(o:HO):Hp:=fun b=>if b=a then some o else H b
def ad{H:Hp}{a:Addr}{o:HO}:upd H a o a=some o:=by unfold upd;rw[if_pos rfl]
def ac{H:Hp}{a b:Addr}{o:HO}(h:b≠a):upd H a o b=H b:=by unfold upd;rw[if_neg h]
def eX{H:Hp}{a:Addr}{o u:HO}:upd (upd H a o) a u=upd H a u:=by
 funext b;unfold upd;split<;>rfl
def o5{H:Hp}{a b:Addr}{o u:HO}(h:H a=some o)(h':H b=some u)(d:o≠u):a≠b:=by
 intro e;subst e;rw[h]at h';exact d (zK h')
def au{H:Hp}{a b:Addr}{o:HO}(h:H a=some o)(h':H b=none):a≠b:=by
 intro e;subst e;rw[h]at h';cases h'
def up(h:Heap)(a:Addr)(its:Vw):Prop:=∃o,h.get? a=some o/\o.dict=none/\o.cls = .type "tuple"/\∃n,o.data = .seq its n
def up.tup{h:Heap}{a:Addr}{its:Vw}(x:up h a its):IsTup h a its:=let ⟨o,e,_,c,d⟩:=x;⟨o,e,c,d⟩
def up.new(h:Heap)(its:Vw):up (h.push { cls:=.type "tuple",data:=.seq its }) h.objs.size its:=⟨_,zz _ rfl,rfl,rfl,_,rfl⟩
section
variable (P:Program) (w:World)
noncomputable def ObjOk(H:Hp)(h:Heap)(a:Addr):HO->Prop
 | .lst xs=>xs.length<=sizeLine/\∃(its:Vv) (n:Nat),Vals xs its/\h.get? a=some { cls:=.type "list",data:=.seq its.toArray n }
 | .tup xs=>xs.length<=sizeLine/\∃its:List Value,Vals xs its/\up h a its.toArray
 | .dK kvs=>kvs.length<=sizeLine/\(a == sysModules)=false/\∃vs,KV kvs vs/\h.DictOf (aw P w) a vs
 | .dT kvs=>kvs.length<=sizeLine/\(a == sysModules)=false/\∃xs:List (List aA×Addr×Value),
   Paired (fun(p:List aA×V) (q:List aA×Addr×Value)=>p.1=q.1/\H q.2.1=some (.tup (p.1.map kV))/\RelV p.2 q.2.2) kvs xs/\
   ∃o es ep,h.get? a=some o/\o.ExactDict/\o.data = .dict es ep/\es.toList=xs.map (entryOfKey (tupleKind (aw P w)))/\(xs.map (·.1)).Nodup
 | .set S n=>h.SetOf (intKind P w) a S n
 | .ins C dx fs=>H dx=some (.own a)/\fs.length<=1000/\dx≠a/\h.get? a=some (PySem.W.instObj C dx)/\
   ∃mA,h.Ns1 dx mA/\(∀f,uq (fs.lookup f) (mA f))/\PySem.Within mA (fs.map (·.1))
 | .own _=>∃o,h.get? a=some o
 | .xd fs=>∃mA,h.Ns1 a mA/\∀f,uq (fs.lookup f) (mA f)
 | .xn lo hi=>∃t u v,h.get? a=some { cls:=.type "range",data:=.fields #[.int lo t,.int hi u,.int 1 v] }
 | .frz o u=>h.get? a=some o/\ObjOk H h a u
 | .wm ps=>h.get? a=some { cls:=.none,data:=.fields ps }
 | .met f x=>h.get? a=some (PySem.W.methodObj (.ref f) (.ref x))
 | .ext φ=>φ h/\(∃o,h.get? a=some o)/\∀h1 h2:Heap,φ h1->(∀o,h1.get? a=some o->h2.get? a=some o)->φ h2
def ua(H:Hp)(h:Heap):Prop:=∀a o,H a=some o->ObjOk P w H h a o
end
section
variable {P:Program} {w:World} {H H':Hp} {h h':Heap} {a:Addr} {o:HO}
theorem ObjOk.lt(x:ObjOk P w H h a o):a < h.objs.size:=by
 cases o with
 |lst xs=>obtain⟨_,_,_,_,e⟩:=x;exact zu e
 |tup xs=>obtain⟨_,_,_,p⟩:=x;exact p.tup.lt
 |dK kvs=>obtain⟨_,_,_,_,o,_,_,e,_⟩:=x;exact zu e
 |dT kvs=>obtain⟨_,_,_,_,o,_,_,e,_⟩:=x;exact zu e
 |set S n=>obtain⟨o,_,_,_,e,_⟩:=x;exact zu e
 |ins C dx fs=>obtain⟨_,_,_,e,_⟩:=x;exact zu e
 |own y=>obtain⟨_,e⟩:=x;exact zu e
 |xd fs=>obtain⟨_,⟨_,_,_,e,_⟩,_⟩:=x;exact zu e
 |xn lo hi=>obtain⟨_,_,_,e⟩:=x;exact zu e
 |frz ob u=>obtain⟨e,_⟩:=x;exact zu e
 |wm ps=>exact zu (show h.get? a=some _ from x)
 |met f y=>exact zu (show h.get? a=some _ from x)
 |ext φ=>obtain⟨_,⟨_,e⟩,_⟩:=x;exact zu e
theorem Paired.wo{α β:Type}{F G:α->β->Prop}:∀{l₁:List α} {l₂:List β},Paired F l₁ l₂->(∀a b,F a b->G a b)->Paired G l₁ l₂
 |_,_,.nil,_=>.nil
 |_,_,.cons r t,f=>.cons (f _ _ r) (Paired.wo t f)
def ObjOk.stay(x:ObjOk P w H h a o)(k:∀b u,(b=a\/H b=some (.own a))->h.get? b=some u->h'.get? b=some u)
  (ho:∀b,H b=some (.own a)->H' b=some (.own a)) (ht:∀b xs,H b=some (.tup xs)->H' b=some (.tup xs)):ObjOk P w H' h' a o:=by
 induction o with
 |lst xs=>obtain⟨z,its,n,r,e⟩:=x;exact⟨z,its,n,r,k _ _ (.inl rfl) e⟩
 |tup xs=>obtain⟨z,its,r,ob,e,c⟩:=x;exact⟨z,its,r,ob,k _ _ (.inl rfl) e,c⟩
 |dK kvs=>obtain⟨z,y,vs,r,ob,es,ep,e,c⟩:=x;exact⟨z,y,vs,r,ob,es,ep,k _ _ (.inl rfl) e,c⟩
 |dT kvs=>
  obtain⟨z,y,xs,r,ob,es,ep,e,c⟩:=x
  exact⟨z,y,xs,Paired.wo r fun p q z=>⟨z.1,ht _ _ z.2.1,z.2.2⟩,ob,es,ep,k _ _ (.inl rfl) e,c⟩
 |set S n=>obtain⟨ob,es,ep,t,e,c⟩:=x;exact⟨ob,es,ep,t,k _ _ (.inl rfl) e,c⟩
 |ins C dx fs=>
  obtain⟨d,z,ne,e,mA,⟨od,es,ep,e2,c⟩,r⟩:=x
  exact⟨ho _ d,z,ne,k _ _ (.inl rfl) e,mA,⟨od,es,ep,k _ _ (.inr d) e2,c⟩,r⟩
 |own y=>obtain⟨ob,e⟩:=x;exact⟨ob,k _ _ (.inl rfl) e⟩
 |xd fs=>obtain⟨mA,⟨od,es,ep,e,c⟩,r⟩:=x;exact⟨mA,⟨od,es,ep,k _ _ (.inl rfl) e,c⟩,r⟩
 |xn lo hi=>obtain⟨t,u,v,e⟩:=x;exact⟨t,u,v,k _ _ (.inl rfl) e⟩
 |frz ob u ih=>obtain⟨e,q⟩:=x;exact⟨k _ _ (.inl rfl) e,ih q⟩
 |wm ps=>
  have e:h.get? a=some { cls:=.none,data:=.fields ps }:=x
  show h'.get? a=some { cls:=.none,data:=.fields ps }
  exact k a _ (.inl rfl) e
 |met f y=>
  have e:h.get? a=some (PySem.W.methodObj (.ref f) (.ref y)):=x
  show h'.get? a=some (PySem.W.methodObj (.ref f) (.ref y))
  exact k a _ (.inl rfl) e
 |ext φ=>obtain⟨p,⟨o,e⟩,st⟩:=x;exact⟨st _ _ p fun o q=>k _ _ (.inl rfl) q,⟨o,k _ _ (.inl rfl) e⟩,st⟩
theorem ua.lt(x:ua P w H h)(e:H a=some o):a < h.objs.size:=(x a o e).lt
def ua.fresh(x:ua P w H h)(e:h.objs.size<=a):H a=none:=by
 cases q:H a with
 |none=>rfl
 |some u=>exact absurd (zv (x.lt q) e) (zP _)
def ua.kept(x:ua P w H h)(k:∀b u,h.get? b=some u->h'.get? b=some u):ua P w H h':=fun a o e=>
 (x a o e).stay (fun b u _ q=>k b u q) (fun _ q=>q) fun _ _ q=>q
def ua.laid(x:ua P w H h)(k:∀b u,h.get? b=some u->h'.get? b=some u)(hp:h.objs.size<=a)(new:ObjOk P w (upd H a o) h' a o):ua P w (upd H a o) h':=fun b u e=>by
 have hn:=x.fresh hp
 by_cases hb:b=a
 ·subst hb;rw[ad]at e;cases e;exact new
 ·rw[ac hb]at e
  exact(x b u e).stay (fun c v _ q=>k c v q) (fun c q=>by rw[ac (au q hn)];exact q) fun c xs q=>by rw[ac (au q hn)];exact q
end
def Rd(H:Hp)(a:Addr)(u:HO):Prop:=H a=some u\/∃o,H a=some (.frz o u)
def Rd.ok{P:Program}{w:World}{H:Hp}{h:Heap}{a:Addr}{u:HO}(r:Rd H a u)(x:ua P w H h):ObjOk P w H h a u:=by
 rcases r with r|⟨o,r⟩
 ·exact x a u r
 ·obtain⟨_,q⟩:=x a _ r
  exact q
noncomputable def o6:Option HO->Prop
 |some (.lst _)=>True
 |some (.dK _)=>True
 |some (.dT _)=>True
 |some (.set _ _)=>True
 |some (.ins _ _ _)=>True
 |some (.ext _)=>True
 |_=>False
section
variable {P:Program} {w:World} {H:Hp} {h h':Heap} {x e:Addr} {o':HO}
def ua.write(ok:ua P w H h)(mu:o6 (H x))(he:e=x\/H e=some (.own x))(k:∀b u,b≠e->h.get? b=some u->h'.get? b=some u)(wB:∃u,h'.get? e=some u)
  (new:ObjOk P w (upd H x o') h' x o'):ua P w (upd H x o') h':=fun b u q=>by
 have wE:∀c y,H c=some (.own y)->c≠x:=fun c y r z=>by subst z;rw[r]at mu;exact mu
 have xp:∀c xs,H c=some (.tup xs)->c≠x:=fun c xs r z=>by subst z;rw[r]at mu;exact mu
 by_cases hb:b=x
 ·subst hb;rw[ad]at q;cases q;exact new
 ·rw[ac hb]at q
  by_cases vz:b=e
  ·have q':H b=some (.own x):=by
    rcases he with z|z
    ·exact absurd (vz.trans z) hb
    ·rw[vz];exact z
   rw[q]at q';cases q'
   obtain⟨v,hv⟩:=wB
   exact⟨v,by rw[vz];exact hv⟩
  ·refine(ok b u q).stay (fun c v hc r=>k c v ?_ r) (fun c r=>by rw[ac (wE c b r)];exact r) fun c xs r=>by rw[ac (xp c xs r)];exact r
   rcases hc with rfl|hc
   ·exact vz
   ·rintro rfl
    rcases he with z|z
    ·exact wE c b hc z
    ·rw[hc]at z;cases z;exact hb rfl
end
structure Un (fs ex:List Addr) (H H':Hp) (h h':Heap):Prop where
 keep:∀b o,h.get? b=some o->H b=none->b ∉ fs->b ∉ ex->h'.get? b=some o
 slot:∀b o,h.get? b=some o->H b=none->b∈fs->b ∉ ex->∃sl,h'.get? b=some { o with slots:=sl }
 free:∀b o,h.get? b=some o->H b=none->b ∉ ex->H' b=none
 there:∀b o,h.get? b=some o->b ∉ ex->∃o',h'.get? b=some o'
 tups:∀b xs,H b=some (.tup xs)->H' b=some (.tup xs)
 ur:∀b o u,H b=some (.frz o u)->H' b=some (.frz o u)
 uG:∀b ps,H b=some (.wm ps)->∃more,H' b=some (.wm (ps++more))
section
variable {fs fs' ex ex':List Addr} {H H1 H2:Hp} {h h1 h2 h':Heap} {a x e:Addr} {o:HO}
def Un.any(u:Un fs ex H H1 h h1){b:Addr}{ob:Obj}(q:h.get? b=some ob)(n:H b=none)(hx:b ∉ ex):∃sl,h1.get? b=some { ob with slots:=sl }:=by
 by_cases hb:b∈fs
 ·exact u.slot b ob q n hb hx
 ·exact⟨ob.slots,u.keep b ob q n hb hx⟩
def Un.kept(k:∀b u,h.get? b=some u->h'.get? b=some u):Un fs ex H H h h':=
 ⟨fun b ob q _ _ _=>k b ob q,fun b ob q _ _ _=>⟨ob.slots,k b ob q⟩,fun _ _ _ n _=>n,fun b ob q _=>⟨ob,k b ob q⟩,fun _ _ q=>q,fun _ _ _ q=>q,fun _ ps q=>⟨#[],by rw[q];simp⟩⟩
def Un.refl:Un fs ex H H h h:=Un.kept fun _ _ q=>q
def Un.laid(k:∀b u,h.get? b=some u->h'.get? b=some u)(hp:h.objs.size<=a)(hn:H a=none):Un fs ex H (upd H a o) h h' where
 keep:=fun b u q _ _ _=>k b u q
 slot:=fun b u q _ _ _=>⟨u.slots,k b u q⟩
 free:=fun b u q n _=>by rw[ac (zD (zv (zu q) hp))];exact n
 there:=fun b u q _=>⟨u,k b u q⟩
 tups:=fun b xs q=>by rw[ac (au q hn)];exact q
 ur:=fun b u xs q=>by rw[ac (au q hn)];exact q
 uG:=fun b ps q=>⟨#[],by rw[ac (au q hn),q];simp⟩
def Un.write(mu:o6 (H x))(he:e=x\/H e=some (.own x))(k:∀b u,b≠e->h.get? b=some u->h'.get? b=some u)(wB:∃u,h'.get? e=some u):Un fs ex H (upd H x o) h h':=by
 have hx:∀b,H b=none->b≠x:=fun b n z=>by subst z;rw[n]at mu;exact mu
 have hb:∀b,H b=none->b≠e:=fun b n z=>by
  subst z
  rcases he with r|r
  ·exact hx b n r
  ·rw[n]at r;cases r
 have hm:∀b u,H b=some u->¬o6 (some u)->b≠x:=fun b u q nm z=>by subst z;rw[q]at mu;exact nm mu
 refine⟨fun b u q n _ _=>k b u (hb b n) q,fun b u q n _ _=>⟨u.slots,k b u (hb b n) q⟩,fun b u q n _=>by rw[ac (hx b n)];exact n,fun b u q _=>?_,
  fun b xs q=>by rw[ac (hm b _ q fun z=>z)];exact q,fun b u xs q=>by rw[ac (hm b _ q fun z=>z)];exact q,fun b ps q=>⟨#[],by rw[ac (hm b _ q fun z=>z),q];simp⟩⟩
 by_cases vz:b=e
 ·subst vz;exact wB
 ·exact⟨u,k b u vz q⟩
end
noncomputable def qI(h:Heap)(H:Hp):List Addr:=(List.range h.objs.size).filter fun a=>(H a).isSome
noncomputable def eY(h:Heap)(H:Hp):Heap:=PySem.W.hideAll h (qI h H)
def iB(h:Heap)(H:Hp):(eY h H).objs.size=h.objs.size:=PySem.W.hideAll_size _ _
def jf{h:Heap}{H:Hp}{b:Addr}{o:Obj}(e:h.get? b=some o)(n:H b=none):(eY h H).get? b=some o:=
 PySem.W.hideAll_get _ e fun hm=>by
  have q:(H b).isSome=true:=(List.mem_filter.mp hm).2
  rw[n]at q;simp at q
def kH{h:Heap}{H:Hp}{b:Addr}{o:Obj}(e:(eY h H).get? b=some o):h.get? b=some o/\H b=none:=by
 have e':h.get? b=some o:=PySem.W.of_hideAll (qI h H) e
 refine⟨e',?_⟩
 cases q:H b with
 |none=>rfl
 |some x=>
  have hm:b∈qI h H:=List.mem_filter.mpr ⟨List.mem_range.mpr (zu e'),by simp[q]⟩
  have z:(eY h H).get? b=none:=PySem.W.hideAll_none (qI h H) hm
  rw[z]at e;cases e
structure Mod (K:Vo) (mg:Vr) (base:Heap):Prop where
 wF:K.In base
 glob:base.Ns mainGlobals mg
 blt:∃mb,base.Ns builtinsNs mb/\∀x:Str,x ≠ "__name__"->mb x=bootBuiltins x
 nolimit:base.NoLimit
structure Cx where
 prog:Program
 w:World
 K:Vo
 mg:Vr
 base:Heap
 A:Around
 N:List Str
 s₀:Shared
 H₀:Hp
 env:Env
 outer:List Env
 stack:List Env
 ex:List Addr
 fn:Str->Bool
 calm:Bool
 pn:Va
 xe:Value->Shared->Prop
 fr:Bool:=true
noncomputable def frs(l:List Env):List Addr:=l.filterMap (·.frame)
noncomputable abbrev Cx.fs(X:Cx):List Addr:=frs X.outer
def o7(sc:Scope)(x:Str):Prop:=sc.names.lookup x=some .local\/sc.names.lookup x=some .cell\/sc.names.lookup x=some .free
def lZ(sc:Scope)(x:Str):Prop:=sc.names.lookup x=some .local\/sc.names.lookup x=some .cell
def qV(env:Env)(h:Heap)(m:Vr)(x:Str)(u:Value):Prop:=
 (env.kindOf x=some .local/\m x=some u)\/((env.kindOf x=some .cell\/env.kindOf x=some .free)/\∃c,env.cells.lookup x=some c/\h.IsCell c (some u))
def HX(A:Around)(H:Hp):Prop:=A.handled=none\/∃h oe hs,A.handled=some (.ref h)/\H h=some (.frz oe (.ext fun _=>True))/\oe.data = .fields hs/\hs[2]?=some .none
def HX.mono{A A':Around}{H H':Hp}(x:HX A H)(e:A'.handled=A.handled)(g:∀b o u,H b=some (.frz o u)->H' b=some (.frz o u)):HX A' H':=by
 rcases x with x|⟨h,oe,hs,h1,h2,h3,h4⟩
 ·exact .inl (e.trans x)
 ·exact .inr ⟨h,oe,hs,e.trans h1,g _ _ _ h2,h3,h4⟩
structure Cx.Ok (X:Cx):Prop where
 mod:Mod X.K X.mg X.base
 kind:X.env.scope.kind = .function
 glob:X.env.globals=mainGlobals
 blt:X.env.builtins=builtinsNs
 above:X.s₀.heap.objs.size<=X.env.locals
 inj:∀x y c,X.env.cells.lookup x=some c->X.env.cells.lookup y=some c->x=y
 has:∀x,(X.env.kindOf x=some .cell\/X.env.kindOf x=some .free)->∃c,X.env.cells.lookup x=some c
 vP:∀x c,X.fn x=true->X.env.cells.lookup x=some c->X.s₀.heap.objs.size<=c
 hd:X.calm=true->X.A.handled=none
 frames:X.A.frames=some X.stack
 stk:X.stack=X.outer\/(X.stack=X.env::X.outer/\X.env.frame=some X.env.locals)
 wf:∀b∈X.ex,b≠X.env.locals/\∀x c,X.env.cells.lookup x=some c->c≠b
 bs:∀b o,X.base.get? b=some o->X.s₀.heap.get? b=some o/\X.H₀ b=none
 vf:X.base.objs.size<=X.s₀.heap.objs.size
 uH:∀b o,X.base.get? b=some o->b ∉ X.ex
 uT:∀b∈X.ex,b ∉ X.fs
 t9:X.s₀.heap.FunFrames X.base X.outer
 vA:∀b∈X.fs,X.H₀ b=none
 hx:HX X.A X.H₀
structure Inv (X:Cx) (pins:Va) (σ:List (Option V)) (H:Hp) (s:Shared):Prop where
 ok:X.Ok
 os:s.os=X.s₀.os
 bare:AllBare s.gens
 base:Un X.fs X.ex X.H₀ H X.s₀.heap s.heap
 loc:∃m,s.heap.Ns X.env.locals m/\∀(i:Nat) (x:Str) (v:V),X.N[i]?=some x->σ[i]?=some (some v)->o7 X.env.scope x->∃u,RelV v u/\qV X.env s.heap m x u
 cell:∀x c,X.env.cells.lookup x=some c->∃v,s.heap.IsCell c v
 free:H X.env.locals=none
 tI:∀x c,X.env.cells.lookup x=some c->H c=none
 pin:∀p∈X.pn++pins,s.heap.get? p.1=some p.2/\H p.1=none/\p.1≠X.env.locals/\p.1 ∉ X.fs/\∀v,p.2.data ≠ .cell v
 hok:ua X.prog X.w H s.heap
 len:σ.length=X.N.length
 tk:1<=s.toks
end L2
local macro_rules | `(tactic| walk_at "t")=>`(tactic| first | omega | assumption | exact L2.Inv.tk ‹L2.Inv _ _ _ _ _› | (have:=L2.Inv.tk ‹L2.Inv _ _ _ _ _›; omega))
namespace L2
open PySem PySem.Spec PyProof.Rows
section
variable {X:Cx} {pins:Va} {σ:List (Option V)} {H H':Hp} {s:Shared} {h':Heap}
def Cx.Ok.xq(ok:X.Ok){b:Addr}{o:Obj}(e:X.base.get? b=some o):b ∉ X.fs:=fun hb=>by
 have:=(ok.t9.mem hb).1
 rw[e]at this;cases this
theorem Inv.bs(I:Inv X pins σ H s):∀b o,X.base.get? b=some o->s.heap.get? b=some o/\H b=none:=fun b o e=>
 ⟨I.base.keep b o (I.ok.bs b o e).1 (I.ok.bs b o e).2 (I.ok.xq e) (I.ok.uH b o e),I.base.free b o (I.ok.bs b o e).1 (I.ok.bs b o e).2 (I.ok.uH b o e)⟩
def Inv.bk(I:Inv X pins σ H s):∀b o,X.base.get? b=some o->s.heap.get? b=some o:=fun b o e=>(I.bs b o e).1
theorem Inv.mod(I:Inv X pins σ H s):Mod X.K X.mg X.base:=I.ok.mod
def Inv.uR(I:Inv X pins σ H s):X.K.In s.heap:=I.ok.mod.wF.keeps I.bk
theorem Inv.lt(I:Inv X pins σ H s):X.env.locals < s.heap.objs.size:=let ⟨_,hn,_⟩:=I.loc;hn.lt
def Inv.sz(I:Inv X pins σ H s):X.s₀.heap.objs.size<=s.heap.objs.size:=zH I.ok.above (Ak I.lt)
def Inv.wG(I:Inv X pins σ H s){a:Addr}(h:s.heap.objs.size<=a):a ∉ X.fs:=fun hb=>by
 obtain⟨_,o,ho,_⟩:=I.ok.t9.mem hb
 exact absurd (zv (zu ho) (zH I.sz h)) (zP _)
def Inv.vQ(I:Inv X pins σ H s):∀x c,X.env.cells.lookup x=some c->c≠X.env.locals:=fun x c e z=>by
 obtain⟨v,o,ho,hd⟩:=I.cell x c e
 obtain⟨m,⟨o',es,ep,ho',hd',_⟩,_⟩:=I.loc
 rw[z,ho']at ho;cases ho;rw[hd']at hd;cases hd
theorem Inv.t9(I:Inv X pins σ H s):s.heap.FunFrames X.base X.outer:=by
 have all:∀(l:List Env),(∀b∈frs l,b∈X.fs)->X.s₀.heap.FunFrames X.base l->s.heap.FunFrames X.base l:=by
  intro l
  induction l with
  |nil=>intro _ _;trivial
  |cons env r ih=>
   intro hs hl
   obtain⟨hk,⟨L,o,hf,hn,ho,hd⟩,hr⟩:=hl
   have hL:L∈X.fs:=hs L (by unfold frs;rw[A8,hf];exact Ar)
   obtain⟨sl,e⟩:=I.base.slot L o ho (I.ok.vA L hL) hL fun z=>I.ok.uT L z hL
   exact⟨hk,⟨L,_,hf,hn,e,hd⟩,ih (fun b hb=>hs b (by unfold frs;rw[A8,hf];exact zX _ hb)) hr⟩
 exact all X.outer (fun _ hb=>hb) I.ok.t9
theorem Inv.stack(I:Inv X pins σ H s):s.heap.FunFrames X.base X.stack:=by
 rcases I.ok.stk with e|⟨e,hf⟩
 ·rw[e];exact I.t9
 ·rw[e]
  obtain⟨m,hn,_⟩:=I.loc
  refine .cons (by rw[I.ok.kind];decide) hf hn ?_ I.t9
  exact Heap.get?_none_of_le (zH I.ok.vf I.ok.above)
def Inv.ux(I:Inv X pins σ H s):∀b∈frs X.stack,b∈X.env.locals::X.fs:=fun b hb=>by
 rcases I.ok.stk with e|⟨e,hf⟩
 ·rw[e]at hb;exact zX _ hb
 ·rw[e]at hb
  unfold frs at hb
  rw[A8,hf]at hb
  exact hb
def Inv.u4(I:Inv X pins σ H s):∀b∈frs X.stack,H b=none:=fun b hb=>by
 rcases zE.mp (I.ux b hb)with e|hb
 ·rw[e];exact I.free
 ·obtain⟨_,o,ho,_⟩:=I.ok.t9.mem hb
  exact I.base.free b o ho (I.ok.vA b hb) fun z=>I.ok.uT b z hb
def Inv.step{g':Array GenState}{t':Nat}{d':Drawn}{ch:List Addr}(I:Inv X pins σ H s)
  (hch:∀b∈ch,(b∈X.ex\/X.s₀.heap.objs.size<=b)/\b≠X.env.locals/\(∀x c,X.env.cells.lookup x=some c->c≠b)/\∀p∈X.pn++pins,p.1≠b)
  (keep:∀b o,b≠X.env.locals->b ∉ X.fs->b ∉ ch->s.heap.get? b=some o->H b=none->h'.get? b=some o)
  (slot:∀b o,b≠X.env.locals->b∈X.fs->b ∉ ch->s.heap.get? b=some o->H b=none->∃sl,h'.get? b=some { o with slots:=sl }) (free:∀b o,b ∉ ch->s.heap.get? b=some o->H b=none->H' b=none)
  (there:∀b o,b ∉ ch->s.heap.get? b=some o->∃o',h'.get? b=some o')
  (tups:∀b xs,H b=some (.tup xs)->H' b=some (.tup xs)) (ur:∀b o u,H b=some (.frz o u)->H' b=some (.frz o u)) (uG:∀b ps,H b=some (.wm ps)->∃more,H' b=some (.wm (ps++more)))
  (ns:∀m,s.heap.Ns X.env.locals m->h'.Ns X.env.locals m) (hok:ua X.prog X.w H' h') (hg:AllBare g') (ht:1<=t':=by walk_at "t") :
  Inv X pins σ H' { s with heap:=h',gens:=g',drawn:=d',toks:=t' }:=by
 have xY:∀b o,X.s₀.heap.get? b=some o->b≠X.env.locals:=fun b o e=>zD (zv (zu e) I.ok.above)
 have wZ:∀b o,X.s₀.heap.get? b=some o->b ∉ X.ex->b ∉ ch:=fun b o e hx hb=>by
  rcases(hch b hb).1 with z|z
  ·exact hx z
  ·exact absurd (zv (zu e) z) (zP _)
 have cellK:∀x c,X.env.cells.lookup x=some c->∀v,s.heap.IsCell c v->h'.IsCell c v:=fun x c e v ⟨o,ho,hd⟩=>by
  have wH:c ∉ ch:=fun z=>(hch c z).2.2.1 x c e rfl
  by_cases hc:c∈X.fs
  ·obtain⟨sl,q⟩:=slot c o (I.vQ x c e) hc wH ho (I.tI x c e)
   exact⟨_,q,hd⟩
  ·exact⟨o,keep c o (I.vQ x c e) hc wH ho (I.tI x c e),hd⟩
 refine⟨I.ok,I.os,hg,⟨fun b o e n hb hx=>?_,fun b o e n hb hx=>?_,fun b o e n hx=>?_,fun b o e hx=>?_,fun b xs e=>tups b xs (I.base.tups b xs e),fun b o xs e=>ur b o xs (I.base.ur b o xs e),fun b ps e=>?_⟩,?_,fun x c e=>?_,?_,fun x c e=>?_,fun p hp=>?_,hok,I.len,ht⟩
 ·exact keep b o (xY b o e) hb (wZ b o e hx) (I.base.keep b o e n hb hx) (I.base.free b o e n hx)
 ·obtain⟨sl,e1⟩:=I.base.slot b o e n hb hx
  obtain⟨sl',e2⟩:=slot b _ (xY b o e) hb (wZ b o e hx) e1 (I.base.free b o e n hx)
  exact⟨sl',e2⟩
 ·obtain⟨o',e1⟩:=I.base.there b o e hx
  exact free b o' (wZ b o e hx) e1 (I.base.free b o e n hx)
 ·obtain⟨o',e1⟩:=I.base.there b o e hx
  exact there b o' (wZ b o e hx) e1
 ·obtain⟨m1,e1⟩:=I.base.uG b ps e
  obtain⟨m2,e2⟩:=uG b _ e1
  exact⟨m1++m2,by rw[e2,Array.append_assoc]⟩
 ·obtain⟨m,hn,hl⟩:=I.loc
  refine⟨m,ns m hn,fun i x v e1 e2 e3=>?_⟩
  obtain⟨u,r,l⟩:=hl i x v e1 e2 e3
  refine⟨u,r,?_⟩
  rcases l with l|⟨k,c,e,z⟩
  ·exact .inl l
  ·exact .inr ⟨k,c,e,cellK x c e _ z⟩
 ·obtain⟨v,z⟩:=I.cell x c e
  exact⟨v,cellK x c e v z⟩
 ·obtain⟨m,⟨o,_,_,ho,_⟩,_⟩:=I.loc
  exact free _ o (fun z=>(hch _ z).2.1 rfl) ho I.free
 ·obtain⟨v,o,ho,hd⟩:=I.cell x c e
  exact free c o (fun z=>(hch c z).2.2.1 x c e rfl) ho (I.tI x c e)
 ·obtain⟨e,n,ne,nf,d⟩:=I.pin p hp
  have wH:p.1 ∉ ch:=fun z=>(hch p.1 z).2.2.2 p hp rfl
  exact⟨keep p.1 p.2 ne nf wH e n,free p.1 p.2 wH e n,ne,nf,d⟩
def Inv.un{t':Nat}(I:Inv X pins σ H s)(u:Un X.fs [] H H' s.heap h')(hok:ua X.prog X.w H' h')(ht:1<=t':=by walk_at "t"):Inv X pins σ H' { s with heap:=h',toks:=t' }:=by
 obtain⟨m,⟨o,es,ep,ho,r⟩,_⟩:=id I.loc
 obtain⟨sl,hL⟩:=u.any ho I.free (by simp)
 exact I.step (g':=s.gens) (d':=s.drawn) (ch:=[]) (fun _ z=>nomatch z) (fun b o _ hb _ e n=>u.keep b o e n hb (by simp)) (fun b o _ hb _ e n=>u.slot b o e n hb (by simp)) (fun b o _ e n=>u.free b o e n (by simp)) (fun b o _ e=>u.there b o e (by simp)) u.tups u.ur u.uG (fun m' hm=>by
  obtain⟨o',es',xr,ho',r'⟩:=hm
  rw[ho]at ho';cases ho'
  exact⟨_,es',xr,hL,r'⟩) hok I.bare
def Inv.call{g':Array GenState}{t':Nat}{d':Drawn}{ch:List Addr}(I:Inv X pins σ H s)(u:Un (frs X.stack) ch H H' s.heap h')(hok:ua X.prog X.w H' h')(hg:AllBare g')
  (hch:∀b∈ch,(b∈X.ex\/X.s₀.heap.objs.size<=b)/\b≠X.env.locals/\(∀x c,X.env.cells.lookup x=some c->c≠b)/\∀p∈X.pn++pins,p.1≠b) (ht:1<=t':=by walk_at "t") :
  Inv X pins σ H' { s with heap:=h',gens:=g',drawn:=d',toks:=t' }:=by
 obtain⟨m,⟨o,es,ep,ho,r⟩,_⟩:=id I.loc
 obtain⟨sl,hL⟩:=u.any ho I.free fun z=>(hch _ z).2.1 rfl
 exact I.step (ch:=ch) hch (fun b o hL hb hc e n=>u.keep b o e n (fun z=>(zE.mp (I.ux b z)).elim hL hb) hc) (fun b o _ _ hc e n=>u.any e n hc) (fun b o hc e n=>u.free b o e n hc) (fun b o hc e=>u.there b o e hc) u.tups u.ur u.uG (fun m' hm=>by
  obtain⟨o',es',xr,ho',r'⟩:=hm
  rw[ho]at ho';cases ho'
  exact⟨_,es',xr,hL,r'⟩) hok hg
def Inv.turned{t':Nat}{it:Addr}(I:Inv X pins σ H s)(k:∀b o,b≠it->s.heap.get? b=some o->h'.get? b=some o)(hn:H it=none)(hL:it≠X.env.locals)
  (h1:it∈X.ex\/X.s₀.heap.objs.size<=it) (h2:∀x c,X.env.cells.lookup x=some c->c≠it) (h3:∀p∈X.pn++pins,p.1≠it) (ht:1<=t':=by walk_at "t"):Inv X pins σ H { s with heap:=h',toks:=t' }:=by
 have xZ:∀b u,H b=some u->b≠it:=fun b u e z=>by rw[z,hn]at e;cases e
 refine I.step (g':=s.gens) (d':=s.drawn) (ch:=[it]) (fun b hb=>?_) (fun b o _ _ hc e _=>k b o (fun z=>hc (by simp[z])) e) (fun b o _ _ hc e _=>⟨o.slots,k b o (fun z=>hc (by simp[z])) e⟩) (fun _ _ _ _ n=>n)
  (fun b o hc e=>⟨o,k b o (fun z=>hc (by simp[z])) e⟩) (fun _ _ e=>e) (fun _ _ _ e=>e) (fun b ps e=>⟨#[],by rw[e];simp⟩) (fun m hm=>?_) (fun b u e=>?_) I.bare
 ·have e:b=it:=by simpa using hb
  subst e
  exact⟨h1,hL,h2,h3⟩
 ·obtain⟨o,es,ep,ho,r⟩:=hm
  exact⟨o,es,ep,k _ o (Al hL) ho,r⟩
 ·refine(I.hok b u e).stay (fun c v hc q=>k c v ?_ q) (fun _ q=>q) fun _ _ q=>q
  rcases hc with z|z
  ·rw[z];exact xZ b u e
  ·exact xZ c _ z
def Inv.tok(I:Inv X pins σ H s)(t:Nat)(ht:1<=t:=by walk_at "t"):Inv X pins σ H { s with toks:=t }:=I.un (h':=s.heap) (t':=t) Un.refl I.hok
theorem Inv.kept{t':Nat}(I:Inv X pins σ H s)(k:∀b u,s.heap.get? b=some u->h'.get? b=some u)(ht:1<=t':=by walk_at "t"):Inv X pins σ H { s with heap:=h',toks:=t' }:=I.un (Un.kept k) (I.hok.kept k)
theorem Inv.laid{a:Addr}{o:HO}{t':Nat}(I:Inv X pins σ H s)(k:∀b u,s.heap.get? b=some u->h'.get? b=some u)(hp:s.heap.objs.size<=a)(new:ObjOk X.prog X.w (upd H a o) h' a o)(ht:1<=t':=by walk_at "t") :
  Inv X pins σ (upd H a o) { s with heap:=h',toks:=t' }:=I.un (Un.laid k hp (I.hok.fresh hp)) (I.hok.laid k hp new)
theorem Inv.write{x e:Addr}{o:HO}{t':Nat}(I:Inv X pins σ H s)(mu:o6 (H x))(he:e=x\/H e=some (.own x))(k:∀b u,b≠e->s.heap.get? b=some u->h'.get? b=some u)(wB:∃u,h'.get? e=some u)
  (new:ObjOk X.prog X.w (upd H x o) h' x o) (ht:1<=t':=by walk_at "t"):Inv X pins σ (upd H x o) { s with heap:=h',toks:=t' }:=I.un (Un.write mu he k wB) (I.hok.write mu he k wB new)
def Inv.weak{σ':List (Option V)}(I:Inv X pins σ H s)(hl:σ'.length=σ.length)(w:∀(i:Nat) v,σ'[i]?=some (some v)->σ[i]?=some (some v)):Inv X pins σ' H s:=
 ⟨I.ok,I.os,I.bare,I.base,let ⟨m,hn,hl'⟩:=I.loc;⟨m,hn,fun i x v e1 e2 e3=>hl' i x v e1 (w i v e2) e3⟩,I.cell,I.free,I.tI,I.pin,I.hok,hl.trans I.len,I.tk⟩
def Inv.uK{pins':Va}(I:Inv X pins σ H s)(h:∀p∈pins',s.heap.get? p.1=some p.2/\H p.1=none/\p.1≠X.env.locals/\p.1 ∉ X.fs/\∀v,p.2.data ≠ .cell v):Inv X pins' σ H s:=
 ⟨I.ok,I.os,I.bare,I.base,I.loc,I.cell,I.free,I.tI,fun p hp=>(AH.mp hp).elim (fun z=>I.pin p (Am _ z)) (h p),I.hok,I.len,I.tk⟩
def di{N:Vs}(hN:N.Nodup){i j:Nat}{x:Str}(a:N[i]?=some x)(b:N[j]?=some x):i=j:=by
 obtain⟨h1,e1⟩:=z6.mp a
 obtain⟨h2,e2⟩:=z6.mp b
 exact(List.getElem_inj hN).mp (e1.trans e2.symm)
def cu {M : Model} {A : Around} {E : Value -> Shared -> Prop} {i : Nat} {x : Str} {v : V} {u : Value} {Q : Unit -> Shared -> Prop} (I : Inv X pins σ H s) (hN : X.N.Nodup) (hi : X.N[i]? = some x) (hx : lZ X.env.scope x) (r : RelV v u)
  (h : ∀ s', Inv X pins (σ.set i (some v)) H s' -> (∃ a, Heap.SameBut a s.heap s'.heap /\ (a = X.env.locals \/ X.env.cells.lookup x = some a)) -> Q () s') (hf : X.fn x = true \/ X.env.scope.names.lookup x = some .local := by first | exact .inl rfl | exact .inr rfl | assumption) : wpAny M A (storeName X.env x u) Q E s := by
 obtain ⟨m, hn, hl⟩ := id I.loc
 have hcls : (X.env.scope.kind == .class || (X.env.scope.kind == .module && X.env.locals != X.env.globals)) = false := by rw [I.ok.kind]; rfl
 have x6 : i < σ.length := by rw [I.len]; exact (z6.mp hi).1
 have vQ := I.vQ
 have tracked : ∀ {a : Addr} {h' : Heap}, (∃ o, s.heap.get? a = some o /\ H a = none) -> Heap.SameBut a s.heap h' -> ua X.prog X.w H h' := fun {a h'} ha hs b ob e => by
  obtain ⟨_, _, hfree⟩ := ha
  refine (I.hok b ob e).stay (fun c w' hc q => (hs.2 c ?_).trans q) (fun _ q => q) fun _ _ q => q
  rintro rfl
  rcases hc with rfl | hc
  ·rw [hfree] at e; cases e
  ·rw [hfree] at hc; cases hc
 rcases hx with hk | hk
 ·refine wpAny_storeName_local hk hn (fun h' hn' hs => ?_) hcls
  obtain ⟨oL, _, _, yC, _⟩ := id hn
  refine h _ ⟨I.ok, I.os, I.bare, ⟨fun b o e n hb hx => ?_, fun b o e n hb hx => ?_, I.base.free, fun b o e hx => ?_, I.base.tups, I.base.ur, I.base.uG⟩, ⟨_, hn', fun j y v' e1 e2 e3 => ?_⟩, fun y c e => ?_, I.free, I.tI, fun p hp => ?_, tracked ⟨oL, yC, I.free⟩ hs, by simpa using I.len, A0 (Ax _)⟩ ⟨_, hs, .inl rfl⟩
  ·exact (hs.2 b (zD (zv (zu e) I.ok.above))).trans (I.base.keep b o e n hb hx)
  ·obtain ⟨sl, e1⟩ := I.base.slot b o e n hb hx
   exact ⟨sl, (hs.2 b (zD (zv (zu e) I.ok.above))).trans e1⟩
  ·obtain ⟨o', e1⟩ := I.base.there b o e hx
   exact ⟨o', (hs.2 b (zD (zv (zu e) I.ok.above))).trans e1⟩
  ·by_cases hj : j = i
   ·subst hj
    rw [hi] at e1; cases e1
    rw [List.getElem?_set_self x6] at e2
    cases e2
    exact ⟨u, r, .inl ⟨hk, by simp⟩⟩
   ·rw [A4 (Al hj)] at e2
    obtain ⟨u', r', q⟩ := hl j y v' e1 e2 e3
    refine ⟨u', r', ?_⟩
    rcases q with ⟨k, e⟩ | ⟨k, c, e, z⟩
    ·refine .inl ⟨k, ?_⟩
     have : y ≠ x := fun e => hj (di hN e1 (e ▸ hi))
     simp [this, e]
    ·exact .inr ⟨k, c, e, z.sameBut hs (vQ y c e)⟩
  ·obtain ⟨w', z⟩ := I.cell y c e
   exact ⟨w', z.sameBut hs (vQ y c e)⟩
  ·obtain ⟨e, n, ne, nf, d⟩ := I.pin p hp
   exact ⟨(hs.2 p.1 ne).trans e, n, ne, nf, d⟩
 ·have hfn : X.fn x = true := by
   rcases hf with z | z
   ·exact z
   ·rw [z] at hk; cases hk
  obtain ⟨c, hc⟩ := I.ok.has x (.inl hk)
  obtain ⟨w', z⟩ := I.cell x c hc
  refine wpAny_storeName_cell I.ok.kind hk hc z (fun h' hc' hs => ?_)
  obtain ⟨oc, hoc, xt⟩ := id z
  refine h { s with heap := h' } ⟨I.ok, I.os, I.bare, ⟨fun b o e n hb hx => ?_, fun b o e n hb hx => ?_, I.base.free, fun b o e hx => ?_, I.base.tups, I.base.ur, I.base.uG⟩, ⟨m, hn.sameBut hs (Al (vQ x c hc)), fun j y v' e1 e2 e3 => ?_⟩, fun y c' e => ?_, I.free, I.tI, fun p hp => ?_, tracked ⟨oc, hoc, I.tI x c hc⟩ hs, by simpa using I.len, I.tk⟩ ⟨c, hs, .inr hc⟩
  ·exact (hs.2 b (zD (zv (zu e) (I.ok.vP x c hfn hc)))).trans (I.base.keep b o e n hb hx)
  ·obtain ⟨sl, e1⟩ := I.base.slot b o e n hb hx
   exact ⟨sl, (hs.2 b (zD (zv (zu e) (I.ok.vP x c hfn hc)))).trans e1⟩
  ·obtain ⟨o', e1⟩ := I.base.there b o e hx
   exact ⟨o', (hs.2 b (zD (zv (zu e) (I.ok.vP x c hfn hc)))).trans e1⟩
  ·by_cases hj : j = i
   ·subst hj
    rw [hi] at e1; cases e1
    rw [List.getElem?_set_self x6] at e2
    cases e2
    exact ⟨u, r, .inr ⟨.inl hk, c, hc, hc'⟩⟩
   ·rw [A4 (Al hj)] at e2
    obtain ⟨u', r', q⟩ := hl j y v' e1 e2 e3
    refine ⟨u', r', ?_⟩
    rcases q with q | ⟨k, c', e, z'⟩
    ·exact .inl q
    ·refine .inr ⟨k, c', e, z'.sameBut hs ?_⟩
     rintro rfl
     exact hj (di hN e1 (I.ok.inj _ _ _ e hc ▸ hi))
  ·by_cases hcc : c' = c
   ·subst hcc; exact ⟨_, hc'⟩
   ·obtain ⟨w2, z2⟩ := I.cell y c' e
    exact ⟨w2, z2.sameBut hs hcc⟩
  ·obtain ⟨e, n, ne, nf, d⟩ := I.pin p hp
   refine ⟨(hs.2 p.1 ?_).trans e, n, ne, nf, d⟩
   intro q
   rw [q, hoc] at e
   have q' : oc = p.2 := zK e
   exact d w' (by rw [<- q']; exact xt)
def fE{M:Model}{A:Around}{E:Vq}{i:Nat}{x:Str}{v:V}{u:Value}{Q:Unit->Shared->Prop}(I:Inv X pins σ H s)(hN:X.N.Nodup)(hi:X.N[i]?=some x)(hx:lZ X.env.scope x)(r:RelV v u)
  (h:∀s',Inv X pins (σ.set i (some v)) H s'->Q () s') (hf:X.fn x=true\/X.env.scope.names.lookup x=some .local:=by first|exact .inl rfl|exact .inr rfl|assumption):wpAny M A (storeName X.env x u) Q E s:=
 cu I hN hi hx r (fun s' I' _=>h s' I') hf
def Inv.wg{s':Shared}{ch:List Addr}(I:Inv X pins σ H s)(ho:s'.os=s.os)(u:Un (frs X.stack) ch H H' s.heap s'.heap)(hok:ua X.prog X.w H' s'.heap)(hg:AllBare s'.gens)(ht:1<=s'.toks)
  (hch:∀b∈ch,(b∈X.ex\/X.s₀.heap.objs.size<=b)/\b≠X.env.locals/\(∀x c,X.env.cells.lookup x=some c->c≠b)/\∀p∈X.pn++pins,p.1≠b):Inv X pins σ H' s':=by
 obtain⟨h',g',d',t',o'⟩:=s'
 have e:o'=s.os:=ho
 subst e
 exact I.call (g':=g') (t':=t') (d':=d') u hok hg hch
end
abbrev XK:=Value->Option Addr->Hp->Prop
abbrev St:=List (Option V)
abbrev VK:=V->Hp->Prop
abbrev TE:=St->Hp->VK->Prop
abbrev TT:=St->Hp->(Bool->Hp->Prop)->Prop
abbrev TA:=St->Hp->(List V->Hp->Prop)->Prop
structure cv where
 nx:St->Hp->Prop
 rt:VK
 bk:St->Hp->Prop:=fun _ _=>False
 ct:St->Hp->Prop:=fun _ _=>False
abbrev TS:=cv->St->Hp->Prop
def EP(X:Cx)(pins:Va)(σ:St)(Q:VK)(u:Value)(s':Shared):Prop:=∃v H',Inv X pins σ H' s'/\RelV v u/\Q v H'
def TP(X:Cx)(pins:Va)(σ:St)(Q:Bool->Hp->Prop)(b:Bool)(s':Shared):Prop:=∃H',Inv X pins σ H' s'/\Q b H'
def AP(X:Cx)(pins:Va)(σ:St)(Q:List V->Hp->Prop)(us:Vv)(s':Shared):Prop:=∃vs H',Inv X pins σ H' s'/\Vals vs us/\Q vs H'
def SP(X:Cx)(pins:Va)(D:cv)(f:Flow)(s':Shared):Prop:=
 match f with
 | .next=>∃σ' H',Inv X pins σ' H' s'/\D.nx σ' H'
 | .brk=>∃σ' H',Inv X pins σ' H' s'/\D.bk σ' H'
 | .cont=>∃σ' H',Inv X pins σ' H' s'/\D.ct σ' H'
 | .ret u=>∃v σ' H',Inv X pins σ' H' s'/\RelV v u/\D.rt v H'
def PE(X:Cx)(e:Expr)(t:TE):Prop:=
 ∀(pins:Va) (s:Shared) (σ:St) (H:Hp) (Q:VK),Inv X pins σ H s->t σ H Q->wpAny (model X.prog X.w) X.A (eval e X.env) (EP X pins σ Q) X.xe s
def PT(X:Cx)(e:Expr)(t:TT):Prop:=
 ∀(pins:Va) (s:Shared) (σ:St) (H:Hp) (Q:Bool->Hp->Prop),Inv X pins σ H s->t σ H Q->wpAny (model X.prog X.w) X.A (isTrue e X.env (eval e X.env)) (TP X pins σ Q) X.xe s
def PW(X:Cx)(e:Expr)(t:TT):Prop:=
 ∀(whole:Sem Value) (pins:Va) (s:Shared) (σ:St) (H:Hp) (Q:Bool->Hp->Prop),Inv X pins σ H s->t σ H Q->wpAny (model X.prog X.w) X.A (isTrue e X.env whole) (TP X pins σ Q) X.xe s
def PW.pt{X:Cx}{e:Expr}{t:TT}(h:PW X e t):PT X e t:=h _
def PA(X:Cx)(es:List Expr)(t:TA):Prop:=
 ∀(pos:Pos) (pins:Va) (s:Shared) (σ:St) (H:Hp) (Q:List V->Hp->Prop),Inv X pins σ H s->t σ H Q->wpAny (model X.prog X.w) X.A (spliced (backTo pos (starEach es X.env))) (AP X pins σ Q) X.xe s
def PS(X:Cx)(st:Stmt)(t:TS):Prop:=
 ∀(pins:Va) (s:Shared) (σ:St) (H:Hp) (D:cv),Inv X pins σ H s->t D σ H->wpAny (model X.prog X.w) X.A (exec st X.env) (SP X pins D) X.xe s
def uS(X:Cx)(st:List Stmt)(t:TS):Prop:=
 ∀(pins:Va) (s:Shared) (σ:St) (H:Hp) (D:cv),Inv X pins σ H s->t D σ H->wpAny (model X.prog X.w) X.A (execs st X.env) (SP X pins D) X.xe s
def aB{α:Type}{t:Sem α}{Q Q':α->Shared->Prop}{M:Model}{A:Around}{E:Vq}{s:Shared}(h:wpAny M A t Q E s)(hQ:∀a s,Q a s->Q' a s):wpAny M A t Q' E s:=zL h hQ fun _ _ x=>x
section
variable {X:Cx}
def b8(i:Nat):TE:=fun σ H Q=>∃v,σ[i]?=some (some v)/\Q v H
def tC(v:V):TE:=fun _ H Q=>Q v H
def jg{i:Nat}{x:Str}{pos:Pos}(hN:X.N[i]?=some x)(hv:o7 X.env.scope x)(hd:(x == ("__debug__":Str))=false:=by decide)(hcd:(x == ("__classdict__":Str))=false:=by decide):PE X (.Name x pos) (b8 i):=by
 intro pins s σ H Q I h
 obtain⟨v,e,h⟩:=h
 obtain⟨m,hn,hl⟩:=I.loc
 obtain⟨u,r,l⟩:=hl i x v hN e hv
 have fin:EP X pins σ Q u s:=⟨v,H,I,r,h⟩
 rcases l with⟨hk,hm⟩|⟨hk,c,hc,hcell⟩
 ·exact wpAny_Name (wpAny_loadName_local I.ok.kind hk hn hm fin) hd
 ·rcases hk with hk|hk
  ·exact wpAny_Name (wpAny_loadName_cell I.ok.kind hk hc hcell fin) hd
  ·exact wpAny_Name (wpAny_loadName_free I.ok.kind hk hc hcell fin hcd) hd
def mq{i j pos}:PE X (.Constant (.int i) j pos) (tC (.int i)):=fun _ _ _ H _ I h=>wpAny_Constant_int ⟨.int i,H,I.tok _,⟨_,rfl⟩,h⟩
def o8{b j pos}:PE X (.Constant (.bool b) j pos) (tC (.bl b)):=fun _ _ _ H _ I h=>Constant_bool ⟨.bl b,H,I,rfl,h⟩
def mr{x j pos}:PE X (.Constant (.str x) j pos) (tC (.str x)):=fun _ _ _ H _ I h=>Calls.Constant_str ⟨.str x,H,I.tok _,⟨_,rfl⟩,h⟩
def Gl(X:Cx)(x:Str):Prop:=X.env.kindOf x=some .globalImplicit
def bO{E:Vq}{pins:Va}{s:Shared}{σ:St}{H:Hp}{x:Str}{u:Value}{pos:Pos}{Q:Vq}(I:Inv X pins σ H s)(hg:Gl X x)(hm:X.mg x=some u)(h:Q u s)
  (hd:(x == ("__debug__":Str))=false:=by decide):wpAny (model X.prog X.w) X.A (eval (.Name x pos) X.env) Q E s:=
 Calls.Name_function_global I.ok.kind hg (Calls.loadGlobal_global (by rw[I.ok.glob];exact I.mod.glob.keeps I.bk) hm h) hd
def bW{E:Vq}{pins:Va}{s:Shared}{σ:St}{H:Hp}{x:Str}{u:Value}{pos:Pos}{Q:Vq}(I:Inv X pins σ H s)(hg:Gl X x)(hm:X.mg x=none)(hv:bootBuiltins x=some u)(h:Q u s)
  (hn:x ≠ "__name__":=by decide) (hd:(x == ("__debug__":Str))=false:=by decide):wpAny (model X.prog X.w) X.A (eval (.Name x pos) X.env) Q E s:=by
 obtain⟨mb,h1,h2⟩:=I.mod.blt
 exact Calls.Name_function_global I.ok.kind hg (Calls.loadGlobal_builtin (by rw[I.ok.glob];exact I.mod.glob.keeps I.bk) hm (by rw[I.ok.blt];exact h1.keeps I.bk) ((h2 x hn).trans hv) h) hd
def kI{x:Str}{v:V}{u:Value}{pos:Pos}(hg:Gl X x)(hm:X.mg x=some u)(r:RelV v u)(hd:(x == ("__debug__":Str))=false:=by decide):PE X (.Name x pos) (tC v):=
 fun _ _ _ H _ I h=>bO I hg hm ⟨v,H,I,r,h⟩ hd
def kJ{x:Str}{v:V}{u:Value}{pos:Pos}(hg:Gl X x)(hm:X.mg x=none)(hv:bootBuiltins x=some u)(r:RelV v u)(hn:x ≠ "__name__":=by decide)(hd:(x == ("__debug__":Str))=false:=by decide):PE X (.Name x pos) (tC v):=
 fun _ _ _ H _ I h=>bW I hg hm hv ⟨v,H,I,r,h⟩ hn hd
variable {a b:Expr} {ta tb:TE} {pos:Pos}
def tB(t:TE):TT:=fun σ H Q=>t σ H fun x H1=>∃c,x = .bl c/\Q c H1
def ms{e:Expr}{t:TE}(h:PE X e t)(he:∀whole,isTrue e X.env whole=(do let v <-whole;standAt e.pos;holding [v] (truthy v)):=by intro _;rfl):PT X e (tB t):=by
 intro pins s σ H Q I hw
 refine isTrue_plain (aB (h pins s σ H _ I hw) fun v s1 ⟨x,H1,I1,r1,q1⟩=>?_) (he _)
 obtain⟨d,rfl,q⟩:=q1
 cases r1
 exact wpAny_truthy_bool ⟨H1,I1,q⟩
variable {tA w4:TT} {rest:List Expr}
def qW(t u:TT):TT:=fun σ H Q=>t σ H fun c H1=>if c=true then u σ H1 Q else Q false H1
def sx(t u:TT):TT:=fun σ H Q=>t σ H fun c H1=>if c=true then Q true H1 else u σ H1 Q
def kK(ha:PT X a tA):PW X (.BoolOp .And [a] pos) tA:=by
 intro wh pins s σ H Q I h
 refine isTrue_and (aB (ha pins s σ H Q I h) fun c s1 e=>?_)
 cases c with
 |true=>exact isTrue_and_nil e
 |false=>exact e
def mv(ha:PT X a tA):PW X (.BoolOp .Or [a] pos) tA:=by
 intro wh pins s σ H Q I h
 refine isTrue_or (aB (ha pins s σ H Q I h) fun c s1 e=>?_)
 cases c with
 |false=>exact isTrue_or_nil e
 |true=>exact e
def mw(ha:PT X a tA)(hb:PW X (.BoolOp .And (b::rest) pos) w4):PW X (.BoolOp .And (a::b::rest) pos) (qW tA w4):=by
 intro wh pins s σ H Q I h
 refine isTrue_and (aB (ha pins s σ H _ I h) fun c s1 ⟨H1,I1,q1⟩=>?_)
 cases c with
 |true=>exact hb wh pins s1 σ H1 Q I1 q1
 |false=>exact⟨H1,I1,q1⟩
def o9(ha:PT X a tA)(hb:PW X (.BoolOp .Or (b::rest) pos) w4):PW X (.BoolOp .Or (a::b::rest) pos) (sx tA w4):=by
 intro wh pins s σ H Q I h
 refine isTrue_or (aB (ha pins s σ H _ I h) fun c s1 ⟨H1,I1,q1⟩=>?_)
 cases c with
 |true=>exact⟨H1,I1,q1⟩
 |false=>exact hb wh pins s1 σ H1 Q I1 q1
def o_(ta tb:TE):TE:=fun σ H Q=>ta σ H fun x H1=>∃c,x = .bl c/\if c=true then tb σ H1 Q else Q (.bl false) H1
def mx{op}{t:TE}(h:PE X a t):PE X (.BoolOp op [a] pos) t:=fun pins s σ H Q I hw=>BoolOp_one (h pins s σ H Q I hw)
def my(ha:PE X a ta)(hb:PE X (.BoolOp .And (b::rest) pos) tb):PE X (.BoolOp .And (a::b::rest) pos) (o_ ta tb):=by
 intro pins s σ H Q I h
 refine BoolOp_and (aB (ha pins s σ H _ I h) fun v s1 ⟨x,H1,I1,r1,q1⟩=>?_)
 obtain⟨c,rfl,q1⟩:=q1
 cases r1
 refine wpAny_truthy_bool ?_
 cases c with
 |true=>exact hb pins s1 σ H1 Q I1 q1
 |false=>exact⟨.bl false,H1,I1,rfl,q1⟩
end
def SqL(K:Vo)(H:Hp)(a:Addr)(xs:List V):Prop:=
 Rd H a (.lst xs) \/
  ∃(o:Obj) (its:Vw) (n:Nat),K.lookup a=some o/\o.cls = .type "list"/\o.dict=none/\o.data = .seq its n/\its.size<=sizeLine/\Vals xs its.toList
def uy(K:Vo)(H:Hp)(a:Addr)(xs:List V):Prop:=
 Rd H a (.tup xs) \/
  ∃(o:Obj) (its:Vw) (n:Nat),K.lookup a=some o/\o.cls = .type "tuple"/\o.dict=none/\o.data = .seq its n/\its.size<=sizeLine/\Vals xs its.toList
noncomputable def qX:Value->Option V
 | .none=>some .non
 | .bool b=>some (.bl b)
 | .int i _=>some (.int i)
 | .str x _=>some (.str x)
 | .bytes b _=>some (.vJ b)
 | .float b _=>some (.wY b)
 | .ref a=>some (.ref a)
 | .type n=>some (.ty n)
 |_=>none
def RelV.abs{x:V}{u:Value}(r:RelV x u):qX u=some x:=by
 cases x with
 |non=>cases r;rfl
 |bl _=>cases r;rfl
 |int _=>obtain⟨t,rfl⟩:=r;rfl
 |str _=>obtain⟨t,rfl⟩:=r;rfl
 |vJ _=>obtain⟨t,rfl⟩:=r;rfl
 |wY _=>obtain⟨t,rfl⟩:=r;rfl
 |ref _=>cases r;rfl
 |ty _=>cases r;rfl
theorem RelV.inj{x y:V}{u:Value}(r:RelV x u)(q:RelV y u):x=y:=zK (r.abs.symm.trans q.abs)
theorem Vals.inj:∀{xs ys:List V} {us:Vv},Vals xs us->Vals ys us->xs=ys
 |_,_,_,.nil,.nil=>rfl
 |_,_,_,.cons r t,.cons r' t'=>by rw[r.inj r',Vals.inj t t']
section
variable {X:Cx} {pins:Va} {σ:St} {H:Hp} {s:Shared} {a:Addr} {xs ys:List V}
def SqL.of{K:Vo}(h:H a=some (.lst xs)):SqL K H a xs:=.inl (.inl h)
def uy.of{K:Vo}(h:H a=some (.tup xs)):uy K H a xs:=.inl (.inl h)
def Inv.list(I:Inv X pins σ H s)(h:SqL X.K H a xs):∃its:List Value,Vals xs its/\PlainL s.heap a its.toArray/\xs.length<=sizeLine:=by
 rcases h with h|⟨o,its,n,hk,hc,hd,hs,hz,r⟩
 ·obtain⟨z,its,n,r,e⟩:=h.ok I.hok
  exact⟨its,r,⟨_,n,e,rfl,rfl,rfl⟩,z⟩
 ·refine⟨its.toList,r,⟨o,n,I.uR a o hk,hc,hd,by simpa using hs⟩,?_⟩
  have e:=r.length
  simp only[Array.length_toList]at e
  omega
def Inv.tuple(I:Inv X pins σ H s)(h:uy X.K H a xs):∃its:List Value,Vals xs its/\IsTup s.heap a its.toArray/\xs.length<=sizeLine:=by
 rcases h with h|⟨o,its,n,hk,hc,_,hs,hz,r⟩
 ·obtain⟨z,its,r,p⟩:=h.ok I.hok
  exact⟨its,r,p.tup,z⟩
 ·refine⟨its.toList,r,⟨o,I.uR a o hk,hc,n,by simpa using hs⟩,?_⟩
  have e:=r.length
  simp only[Array.length_toList]at e
  omega
def Inv.vR(I:Inv X pins σ H s)(h:SqL X.K H a xs)(h':SqL X.K H a ys):xs=ys:=by
 obtain⟨its,r,⟨o,n,e,_,_,d⟩,_⟩:=I.list h
 obtain⟨its',r',⟨o',n',e',_,_,d'⟩,_⟩:=I.list h'
 rw[e]at e';cases e'
 rw[d]at d'
 injection d' with d1 _
 have:its=its':=by simpa using zM Array.toList d1
 subst this
 exact r.inj r'
def Inv.vB(I:Inv X pins σ H s)(h:uy X.K H a xs)(h':uy X.K H a ys):xs=ys:=by
 obtain⟨its,r,⟨o,e,_,n,d⟩,_⟩:=I.tuple h
 obtain⟨its',r',⟨o',e',_,n',d'⟩,_⟩:=I.tuple h'
 rw[e]at e';cases e'
 rw[d]at d'
 injection d' with d1 _
 have:its=its':=by simpa using zM Array.toList d1
 subst this
 exact r.inj r'
end
noncomputable abbrev Cx.wish(X:Cx)(E:Vq):Cx:={ X with xe:=E }
noncomputable abbrev Cx.v7(X:Cx):Cx:=X.wish fun _ _=>False
theorem Cx.Ok.wish{X:Cx}(ok:X.Ok)(E:Vq):(X.wish E).Ok:=
 ⟨ok.mod,ok.kind,ok.glob,ok.blt,ok.above,ok.inj,ok.has,ok.vP,ok.hd,ok.frames,ok.stk,ok.wf,ok.bs,ok.vf,ok.uH,ok.uT,ok.t9,ok.vA,ok.hx⟩
def Cx.Ok.tZ{X:Cx}{E:Vq}(ok:(X.wish E).Ok):X.Ok:=
 ⟨ok.mod,ok.kind,ok.glob,ok.blt,ok.above,ok.inj,ok.has,ok.vP,ok.hd,ok.frames,ok.stk,ok.wf,ok.bs,ok.vf,ok.uH,ok.uT,ok.t9,ok.vA,ok.hx⟩
section
variable {X:Cx} {pins:Va} {σ:St} {H:Hp} {s:Shared} {E:Vq}
theorem Inv.wish(I:Inv X pins σ H s)(E:Vq):Inv (X.wish E) pins σ H s:=⟨I.ok.wish E,I.os,I.bare,I.base,I.loc,I.cell,I.free,I.tI,I.pin,I.hok,I.len,I.tk⟩
theorem Inv.tZ(I:Inv (X.wish E) pins σ H s):Inv X pins σ H s:=⟨I.ok.tZ,I.os,I.bare,I.base,I.loc,I.cell,I.free,I.tI,I.pin,I.hok,I.len,I.tk⟩
theorem SP.tZ{D:cv}{f:Flow}{s':Shared}(h:SP (X.wish E) pins D f s'):SP X pins D f s':=by
 cases f with
 |next=>obtain⟨σ',H',I,q⟩:=h;exact⟨σ',H',I.tZ,q⟩
 |brk=>obtain⟨σ',H',I,q⟩:=h;exact⟨σ',H',I.tZ,q⟩
 |cont=>obtain⟨σ',H',I,q⟩:=h;exact⟨σ',H',I.tZ,q⟩
 |ret u=>obtain⟨v,σ',H',I,r,q⟩:=h;exact⟨v,σ',H',I.tZ,r,q⟩
theorem uS.v7{st:List Stmt}{t:TS}(h:uS X.v7 st t):uS X st t:=fun pins s σ H D I hw=>
 zL (h pins s σ H D (I.wish _) hw) (fun _ _ q=>q.tZ) fun _ _ z=>False.elim z
end
section
variable {X:Cx} {st:Stmt} {rest:List Stmt} {t u:TS} {e:Expr} {te:TE} {pos:Pos}
def pd:TS:=fun D σ H=>D.nx σ H
def mz(t u:TS):TS:=fun D σ H=>t { D with nx:=u D } σ H
def kL:uS X [] pd:=fun _ _ σ H _ I h=>AI ⟨σ,H,I,h⟩
def fF(h1:PS X st t)(h2:uS X rest u):uS X (st::rest) (mz t u):=by
 intro pins s σ H D I h
 refine wpAny_execs_cons (aB (h1 pins s σ H { D with nx:=u D } I h) fun f s1 q=>?_)
 cases f with
 |next=>
  obtain⟨σ',H',I',q⟩:=q
  exact h2 pins s1 σ' H' D I' q
 |ret v=>exact q
 |brk=>exact q
 |cont=>exact q
def b9(h1:PS X st t):uS X [st] t:=by
 intro pins s σ H D I h
 refine wpAny_execs_cons (aB (h1 pins s σ H D I h) fun f s1 q=>?_)
 cases f with
 |next=>exact AI q
 |ret v=>exact q
 |brk=>exact q
 |cont=>exact q
def Inv.quiet{pins:Va}{σ:St}{H:Hp}{s:Shared}(I:Inv X pins σ H s):interactive X.env=false:=by simp[interactive,I.ok.kind]
def pe(te:TE):TS:=fun D σ H=>te σ H fun _ H1=>D.nx σ H1
def kM(he:PE X e te)(hs:swapsWith e none pos.line X.env=pure false:=by rfl):PS X (.Expr e pos) (pe te):=by
 intro pins s σ H D I h
 exact wpAny_Expr_any (aB (he pins s σ H _ I h) fun v s1 ⟨x,H1,I1,r1,q1⟩=>⟨σ,H1,I1,q1⟩) I.quiet hs
def qY(te:TE):TS:=fun D σ H=>te σ H D.rt
def mB(he:PE X e te):PS X (.Return (some e) pos) (qY te):=by
 intro pins s σ H D I h
 exact wpAny_Return_some (aB (he pins s σ H _ I h) fun v s1 ⟨x,H1,I1,r1,q1⟩=>⟨x,σ,H1,I1,r1,q1⟩)
def qZ(c:TT)(t u:TS):TS:=fun D σ H=>c σ H fun b H1=>if b=true then t D σ H1 else u D σ H1
def pf{c:Expr}{a b:List Stmt}{tc:TT}(hc:PT X c tc)(ha:uS X a t)(hb:uS X b u):PS X (.If c a b pos) (qZ tc t u):=by
 intro pins s σ H D I h
 refine wpAny_If (aB (hc pins s σ H _ I h) fun d s1 ⟨H1,I1,q1⟩=>?_)
 cases d with
 |true=>exact ha pins s1 σ H1 D I1 q1
 |false=>exact hb pins s1 σ H1 D I1 q1
end
abbrev TG:=V->St->Hp->(St->Hp->Prop)->Prop
abbrev l0:=List V->St->Hp->(St->Hp->Prop)->Prop
def PG(X:Cx)(target:Expr)(t:TG):Prop:=
 ∀(pins:Va) (s:Shared) (σ:St) (H:Hp) (v:V) (u:Value) (Q:St->Hp->Prop),Inv X pins σ H s->RelV v u->t v σ H Q->
  wpAny (model X.prog X.w) X.A (assign target X.env u) (fun _ s'=>∃σ' H',Inv X pins σ' H' s'/\Q σ' H') X.xe s
def pg(X:Cx)(ts:List Expr)(t:l0):Prop:=
 ∀(pins:Va) (s:Shared) (σ:St) (H:Hp) (vs:List V) (us:Vv) (Q:St->Hp->Prop),Inv X pins σ H s->Vals vs us->t vs σ H Q->
  wpAny (model X.prog X.w) X.A (assignInOrder ((assignEach ts X.env).map (·.2)) us) (fun _ s'=>∃σ' H',Inv X pins σ' H' s'/\Q σ' H') X.xe s
abbrev mC:=V->V->V->Hp->(Hp->Prop)->Prop
def kN(X:Cx)(t:mC):Prop:=
 ∀(pins:Va) (s:Shared) (σ:St) (H:Hp) (o i v:V) (ov iv u:Value) (Q:Hp->Prop),Inv X pins σ H s->RelV o ov->RelV i iv->RelV v u->t o i v H Q->
  wpAny (model X.prog X.w) X.A (setItem ov iv u) (fun _ s'=>∃H',Inv X pins σ H' s'/\Q H') X.xe s
section
variable {X:Cx} {pos:Pos}
def fG(i:Nat):TG:=fun v σ H Q=>Q (σ.set i (some v)) H
def kO{i:Nat}{x:Str}(hN:X.N.Nodup)(hi:X.N[i]?=some x)(hx:lZ X.env.scope x)(hf:X.fn x=true\/X.env.scope.names.lookup x=some .local:=by first|exact .inl rfl|exact .inr rfl|assumption):PG X (.Name x pos) (fG i):=by
 intro pins s σ H v u Q I r h
 exact wpAny_assign_Name (fE I hN hi hx r (fun s' I'=>⟨_,H,I',h⟩) hf)
noncomputable def ph:l0:=fun vs σ H Q=>vs=[]/\Q σ H
noncomputable def l2(t:TG)(u:l0):l0:=fun vs σ H Q=>∃v r,vs=v::r/\t v σ H fun σ' H'=>u r σ' H' Q
def kP:pg X [] ph:=by
 intro pins s σ H vs us Q I r h
 obtain⟨e,h⟩:=h
 subst e
 cases r
 exact assignInOrder_nil ⟨σ,H,I,h⟩
def jh{e:Expr}{es:List Expr}{t:TG}{u:l0}(h1:PG X e t)(h2:pg X es u)
  (hs:(assignEach (e::es) X.env).map (·.2)=assign e X.env::(assignEach es X.env).map (·.2):=by rfl):pg X (e::es) (l2 t u):=by
 intro pins s σ H vs us Q I r h
 obtain⟨v,vr,e1,h⟩:=h
 subst e1
 cases r with
 |cons r rr=>
  rw[hs]
  refine assignInOrder_cons (aB (h1 pins s σ H _ _ _ I r h) fun _ s1 ⟨σ1,H1,I1,q1⟩=>?_)
  exact h2 pins s1 σ1 H1 _ _ Q I1 rr q1
def pk(K:Vo)(n:Nat)(t:l0):TG:=fun v σ H Q=>∃a xs,v = .ref a/\uy K H a xs/\xs.length=n/\t xs σ H Q
def mD{es:List Expr}{k:Nat}{t:l0}{n:Nat}(hc:X.calm=true)(h:pg X es t)
  (hn:(assignEach es X.env).length=n:=by rfl) (hst:(assignEach es X.env).findIdx? (·.1)=none:=by rfl):PG X (.Tuple es k pos) (pk X.K n t):=by
 intro pins s σ H v u Q I r hw
 obtain⟨a,xs,e1,hq,hl,hw⟩:=hw
 subst e1
 cases r
 obtain⟨its,rv,ht,hz⟩:=I.tuple hq
 refine assign_Tuple_tuple (I.ok.hd hc) ht (by simp[hn,<-hl,rv.length]) hst fun h' hx=>?_
 have I1:Inv X pins σ H { s with heap:=h' }:=I.kept (t':=s.toks) fun b o e=>hx b o (zD (zu e)) e
 exact h pins _ σ H xs _ Q I1 (by simpa using rv) hw
def q0(to ti:TE)(t:mC):TG:=fun v σ H Q=>to σ H fun o H1=>ti σ H1 fun i H2=>t o i v H2 fun H3=>Q σ H3
def mE{o i:Expr}{to ti:TE}{t:mC}(ho:PE X o to)(hi:PE X i ti)(hs:kN X t)
  (ha:∀v,assign (.Subscript o i pos) X.env v=(do
   let ov <-holding [v] (eval o X.env)
   let iv <-holding [v,ov] (eval i X.env)
   standAt pos
   holding [v,ov,iv] (setItem ov iv v)
   release [v,ov,iv] []):=by intro _;rfl):PG X (.Subscript o i pos) (q0 to ti t):=by
 intro pins s σ H v u Q I r h
 rw[ha]
 refine zo (zZ (aB (ho pins s σ H _ I h) fun ov s1 ⟨x,H1,I1,r1,q1⟩=>?_))
 refine zo (zZ (aB (hi pins s1 σ H1 _ I1 q1) fun iv s2 ⟨y,H2,I2,r2,q2⟩=>?_))
 refine zo (Au (zo (zZ (aB (hs pins s2 σ H2 x y v ov iv u _ I2 r1 r2 r q2) fun _ s3 ⟨H3,I3,q3⟩=>?_))))
 exact wpAny_release ⟨σ,H3,I3,q3⟩
def kQ(te:TE)(g:TG):TS:=fun D σ H=>te σ H fun x H1=>g x σ H1 D.nx
def ji{tg e:Expr}{te:TE}{g:TG}(he:PE X e te)(hg:PG X tg g)(hs:swapsWithSole [tg] e pos.line X.env=pure false:=by rfl)(hw:swappedStores [tg] e X.env=pure none:=by rfl)
  (h1:(assignEach [tg] X.env).map (·.2)=[assign tg X.env]:=by rfl):PS X (.Assign [tg] e pos) (kQ te g):=by
 intro pins s σ H D I h
 refine wpAny_Assign_stores (aB (he pins s σ H _ I h) fun v s1 ⟨x,H1,I1,r1,q1⟩=>?_) hs hw
 rw[h1]
 exact aB (hg pins s1 σ H1 x v _ I1 r1 q1) fun _ s2 q=>q
def mF{i:Nat}{x:Str}{e:Expr}{te:TE}{pos':Pos}(hN:X.N.Nodup)(hi:X.N[i]?=some x)(hx:lZ X.env.scope x)(he:PE X e te)(hs:swapsWith e (some (.Name x pos')) pos.line X.env=pure false:=by rfl)(hf:X.fn x=true\/X.env.scope.names.lookup x=some .local:=by first|exact .inl rfl|exact .inr rfl|assumption) :
  PS X (.Assign [.Name x pos'] e pos) (kQ te (fG i)):=by
 intro pins s σ H D I h
 refine wpAny_Assign_Name (aB (he pins s σ H _ I h) fun v s1 ⟨y,H1,I1,r1,q1⟩=>?_) hs
 exact fE I1 hN hi hx r1 (fun s2 I2=>⟨_,H1,I2,q1⟩) hf
end
section
variable {X:Cx} {pos:Pos}
def mG(c:TT)(tb:TS):TS:=fun D σ H=>∃W:Nat->St->Hp->Prop,(∃m,W m σ H)/\∀m σ H,W m σ H->
 c σ H fun b H1=>if b=true then ∃N:St->Hp->Prop,(∀σ' H',N σ' H'->∃m',m' < m/\W m' σ' H')/\tb { D with nx:=N,ct:=N,bk:=D.nx } σ H1 else D.nx σ H1
def jj{c:Expr}{body:List Stmt}{tc:TT}{tb:TS}(hp:PassesOwn (model X.prog X.w) X.A X.env X.xe)(hc:PT X c tc)(hb:uS X body tb):PS X (.While c body [] pos) (mG tc tb):=by
 intro pins s σ H D I h
 obtain⟨W,⟨m0,w0⟩,turn⟩:=h
 refine wpAny_While (codeAny_whileLoop (fun n s'=>∃σ' H',Inv X pins σ' H' s'/\W n σ' H') ?_ m0 ⟨σ,H,I,w0⟩)
 rintro n s1 ⟨σ1,H1,I1,w1⟩
 refine Aj hp (aB (hc pins s1 σ1 H1 _ I1 (turn n σ1 H1 w1)) fun b s2 ⟨H2,I2,q2⟩=>?_)
 cases b with
 |true=>
  obtain⟨N,hN,q2⟩:=q2
  rw[if_pos rfl]
  refine Aj hp (aB (hb pins s2 σ1 H2 _ I2 q2) fun f s3 q3=>?_)
  cases f with
  |next=>
   obtain⟨σ3,H3,I3,n3⟩:=q3
   obtain⟨m',hm,w3⟩:=hN σ3 H3 n3
   exact⟨m',hm,σ3,H3,I3,w3⟩
  |cont=>
   obtain⟨σ3,H3,I3,n3⟩:=q3
   obtain⟨m',hm,w3⟩:=hN σ3 H3 n3
   exact⟨m',hm,σ3,H3,I3,w3⟩
  |brk=>exact q3
  |ret v=>exact q3
 |false=>
  rw[if_neg zA]
  exact AI ⟨σ1,H2,I2,q2⟩
end
structure It where
 go:Nat->Hp->Prop
 w5:Nat->Hp->V->Hp->Prop
 stop:Nat->Hp->Prop
def tF(X:Cx)(pins:Va)(H:Hp)(b:Addr):Prop:=
 H b=none/\b≠X.env.locals/\b ∉ X.fs/\(b∈X.ex\/X.s₀.heap.objs.size<=b)/\(∀x c,X.env.cells.lookup x=some c->c≠b)/\∀p∈X.pn++pins,p.1≠b
def Inv.ut{X:Cx}{pins:Va}{σ:St}{H H':Hp}{s:Shared}{b:Addr}(I:Inv X pins σ H s)(hb:s.heap.objs.size<=b)(hn:H' b=none):tF X pins H' b:=by
 refine⟨hn,AU (zv I.lt hb),I.wG hb,.inr (zH I.sz hb),fun x c e z=>?_,fun p hp z=>?_⟩
 ·obtain⟨v,q⟩:=I.cell x c e
  exact absurd (zv q.lt (by rw[z];exact hb)) (zP _)
 ·exact absurd (zv (zu (I.pin p hp).1) (by rw[z];exact hb)) (zP _)
structure fH (Cc:Cx->Prop) (P:Program) (w:World) (K:Vo) (tg:Expr) (J:It) (fp:List Addr) (it:Addr) (tn:Nat->Heap->Prop):Prop where
 mem:it∈fp
 obj:∀i h,tn i h->∀b∈fp,∃o,h.get? b=some o/\∀v,o.data ≠ .cell v
 keep:∀i h h',tn i h->(∀b∈fp,∀o,h.get? b=some o->h'.get? b=some o)->tn i h'
 item:∀(X:Cx),X.prog=P->X.w=w->X.K=K->Cc X->∀(i:Nat) (pins:Va) (s:Shared) (σ:St) (H:Hp) (E:Vq),Inv X pins σ H s->(∀b∈fp,tF X pins H b)->tn i s.heap->J.go i H->
  wpAny (model P w) X.A (pyNext (.ref it)) (fun r s1=>∃u,r=some u/\
   wpAny (model P w) X.A (letOwnedTupleGo tg (.ref it) u) (fun _ s2=>∃x H',Inv X pins σ H' s2/\RelV x u/\J.w5 i H x H'/\tn (i+1) s2.heap/\∀b∈fp,H' b=none) E s1) E s
 done:∀(X:Cx),X.prog=P->X.w=w->X.K=K->Cc X->∀(i:Nat) (pins:Va) (s:Shared) (σ:St) (H:Hp) (E:Vq),Inv X pins σ H s->(∀b∈fp,tF X pins H b)->tn i s.heap->J.stop i H->
  wpAny (model P w) X.A (pyNext (.ref it)) (fun r s1=>r=none/\Inv X pins σ H s1) E s
 self:∀(A:Around) (i:Nat) (s:Shared) (Q:Vq) (E:Vq),tn i s.heap->Q (.ref it) s->wpAny (model P w) A (pyIter (.ref it)) Q E s
abbrev Cx.w9(X:Cx):Prop:=X.calm=true
abbrev jk:=fH Cx.w9
abbrev TI:=St->Hp->(It->Hp->Prop)->Prop
def mH(Cc:Cx->Prop)(X:Cx)(pins:Va)(σ:St)(tg:Expr)(R:It->Hp->Prop)(itv:Value)(s2:Shared):Prop:=
 ∃(it:Addr) (fp:List Addr) (tn:Nat->Heap->Prop) (J:It) (H':Hp),itv = .ref it/\Inv X pins σ H' s2/\fH Cc X.prog X.w X.K tg J fp it tn/\tn 0 s2.heap/\(∀b∈fp,tF X pins H' b)/\R J H'
abbrev si:=mH Cx.w9
def oN(Cc:Cx->Prop)(X:Cx)(tg iter:Expr)(wi:TI):Prop:=
 ∀(pins:Va) (s:Shared) (σ:St) (H:Hp) (R:It->Hp->Prop),Inv X pins σ H s->wi σ H R->
  wpAny (model X.prog X.w) X.A (eval iter X.env) (fun v s1=>wpAny (model X.prog X.w) X.A (pyIter v) (mH Cc X pins σ tg R) X.xe s1) X.xe s
abbrev PI:=oN Cx.w9
def eg {M : Model} {A : Around} {E : Value -> Shared -> Prop} {s : Shared} {tg : Expr} {it : Addr} {u : Value} {o : Obj} {n : String} {vs : Array Value} {Q : Unit -> Shared -> Prop} (ho : s.heap.get? it = some o) (hc : o.cls = .type n) (hd : o.data = .fields vs)
    (hn : ["enumerate", "zip", "dict_itemiterator", "dict_reverseitemiterator", "odict_iterator", "itertools.zip_longest", "itertools.pairwise"].contains n = false) (hQ : Q () s) : wpAny M A (letOwnedTupleGo tg (.ref it) u) Q E s := by
  unfold letOwnedTupleGo
  cases tg <;> first
    | exact zq hQ
    | (cases u <;> first
        | exact zq hQ
        | (refine zo (wpAny_load ho ?_)
           rw [hc, hd]
           show wpAny M A (if (["enumerate", "zip", "dict_itemiterator", "dict_reverseitemiterator", "odict_iterator", "itertools.zip_longest", "itertools.pairwise"].contains n && vs[0]? == some (rawInt _)) = true then _ else _) Q E s
           rw [if_neg (by intro h; rw [hn, Bool.false_and] at h; cases h)]
           exact zq hQ))
noncomputable def qJ(K:Vo)(a:Addr):It:=
 ⟨fun i H=>∃xs x,SqL K H a xs/\xs[i]?=some x,fun i H x H'=>H'=H/\∀xs,SqL K H a xs->xs[i]?=some x,fun i H=>∃xs,SqL K H a xs/\xs.length<=i⟩
noncomputable def q5(K:Vo)(a:Addr):It:=
 ⟨fun i H=>∃xs x,uy K H a xs/\xs[i]?=some x,fun i H x H'=>H'=H/\∀xs,uy K H a xs->xs[i]?=some x,fun i H=>∃xs,uy K H a xs/\xs.length<=i⟩
noncomputable def oO(lo:Int)(n:Nat):It:=⟨fun i _=>i < n,fun i H x H'=>H'=H/\x = .int (lo+i),fun i _=>n<=i⟩
def iC{P:Program}{w:World}{K:Vo}{tg:Expr}(a it:Addr):jk P w K tg (qJ K a) [it] it (fun i h=>h.IsListIter it a i) where
 mem:=by simp
 obj:=fun i h st b hb=>by
  have e:b=it:=by simpa using hb
  subst e
  obtain⟨o,e,c,d⟩:=st
  exact⟨o,e,fun v z=>by rw[d]at z;cases z⟩
 keep:=fun i h h' st k=>st.at fun o e=>k it (by simp) o e
 item:=by
  intro X hP hw hK hc i pins s σ H E I hf st hg
  subst hP hw hK
  obtain⟨xs,x,hq,hx⟩:=hg
  obtain⟨its,rv,p,hz⟩:=I.list hq
  obtain⟨u,hu,ru⟩:=rv.get hx
  obtain⟨f0,f1,f2,f3,f4,f5⟩:=hf it (by simp)
  refine wpAny_pyNext_list_item st p.isList (x:=u) (by simpa using hu) fun h' st' sb=>?_
  have I1:Inv X pins σ H { s with heap:=h' }:=I.turned (t':=s.toks) (fun b o hb e=>(sb.2 b hb).trans e) f0 f1 f3 f4 f5
  obtain⟨o,e,c,d⟩:=id st'
  exact⟨u,rfl,eg (s:={ s with heap:=h' }) e c d (by decide) ⟨x,H,I1,ru,⟨rfl,fun ys hy=>by rw[I.vR hy hq];exact hx⟩,st',fun b hb=>(hf b hb).1⟩⟩
 done:=by
  intro X hP hw hK hc i pins s σ H E I hf st hg
  subst hP hw hK
  obtain⟨xs,hq,hx⟩:=hg
  obtain⟨its,rv,p,hz⟩:=I.list hq
  obtain⟨f0,f1,f2,f3,f4,f5⟩:=hf it (by simp)
  have hl:=rv.length
  exact wpAny_pyNext_list_end (I.ok.hd hc) st p.isList (by simp;omega) fun h' eb=>⟨rfl,I.turned (t':=s.toks) (fun b o hb e=>eb b o hb e) f0 f1 f3 f4 f5⟩
 self:=fun _ _ _ _ _ st h=>wpAny_pyIter_listiter st h
def gA{P:Program}{w:World}{K:Vo}{tg:Expr}(a it:Addr):jk P w K tg (q5 K a) [it] it (fun i h=>h.IsTupleIter it a i) where
 mem:=by simp
 obj:=fun i h st b hb=>by
  have e:b=it:=by simpa using hb
  subst e
  obtain⟨o,e,c,d⟩:=st
  exact⟨o,e,fun v z=>by rw[d]at z;cases z⟩
 keep:=fun i h h' st k=>st.at fun o e=>k it (by simp) o e
 item:=by
  intro X hP hw hK hc i pins s σ H E I hf st hg
  subst hP hw hK
  obtain⟨xs,x,hq,hx⟩:=hg
  obtain⟨its,rv,p,hz⟩:=I.tuple hq
  obtain⟨u,hu,ru⟩:=rv.get hx
  obtain⟨f0,f1,f2,f3,f4,f5⟩:=hf it (by simp)
  refine wpAny_pyNext_tuple_item st (show s.heap.IsTuple a its.toArray from p) (x:=u) (by simpa using hu) fun h' st' sb=>?_
  have I1:Inv X pins σ H { s with heap:=h' }:=I.turned (t':=s.toks) (fun b o hb e=>(sb.2 b hb).trans e) f0 f1 f3 f4 f5
  obtain⟨o,e,c,d⟩:=id st'
  exact⟨u,rfl,eg (s:={ s with heap:=h' }) e c d (by decide) ⟨x,H,I1,ru,⟨rfl,fun ys hy=>by rw[I.vB hy hq];exact hx⟩,st',fun b hb=>(hf b hb).1⟩⟩
 done:=by
  intro X hP hw hK hc i pins s σ H E I hf st hg
  subst hP hw hK
  obtain⟨xs,hq,hx⟩:=hg
  obtain⟨its,rv,p,hz⟩:=I.tuple hq
  obtain⟨f0,f1,f2,f3,f4,f5⟩:=hf it (by simp)
  have hl:=rv.length
  exact wpAny_pyNext_tuple_end (I.ok.hd hc) st (show s.heap.IsTuple a its.toArray from p) (by simp;omega) fun h' eb=>⟨rfl,I.turned (t':=s.toks) (fun b o hb e=>eb b o hb e) f0 f1 f3 f4 f5⟩
 self:=fun _ _ _ _ _ st h=>wpAny_pyIter_tupleiter st h
def gB{P:Program}{w:World}{K:Vo}{tg:Expr}(it:Addr)(lo:Int)(n:Nat):jk P w K tg (oO lo n) [it] it (fun i h=>IsRangeIter h it (lo+(i:Nat) * 1) ((n:Int) - (i:Nat)) 1) where
 mem:=by simp
 obj:=fun i h st b hb=>by
  have e:b=it:=by simpa using hb
  subst e
  exact⟨_,st,fun v z=>by
   have z':Data.fields _=Data.cell v:=z
   cases z'⟩
 keep:=fun i h h' st k=>k it (by simp) _ st
 item:=by
  intro X hP hw hK hc i pins s σ H E I hf st hg
  subst hP hw hK
  obtain⟨f0,f1,f2,f3,f4,f5⟩:=hf it (by simp)
  have W:=Walks.range (prog:=X.prog) (w:=X.w) (I.ok.hd hc) it lo 1 n
  refine zG I.tk (W.item i s _ _ hg st fun v h' tk hv st' kk ht=>?_)
  obtain⟨t,rfl⟩:=hv
  have I1:Inv X pins σ H { s with heap:=h',toks:=tk }:=I.turned (fun b o hb e=>kk b o (by simpa using hb) e) f0 f1 f3 f4 f5
  refine⟨_,rfl,eg (s:={ s with heap:=h',toks:=tk }) (n:="range_iterator") st' rfl rfl (by decide) ⟨.int (lo+i),H,I1,⟨t,?_⟩,⟨rfl,rfl⟩,st',fun b hb=>(hf b hb).1⟩⟩
  rw[Int.mul_one]
 done:=by
  intro X hP hw hK hc i pins s σ H E I hf st hg
  subst hP hw hK
  obtain⟨f0,f1,f2,f3,f4,f5⟩:=hf it (by simp)
  exact wpAny_pyNext_range_end (I.ok.hd hc) st (by have:n<=i:=hg;omega) fun h' eb=>⟨rfl,I.turned (t':=s.toks) (fun b o hb e=>eb b o hb e) f0 f1 f3 f4 f5⟩
 self:=fun _ _ _ _ _ st h=>wpAny_pyIter_rangeiter st h
section
variable {X:Cx} {tg:Expr}
def jl{pins:Va}{σ:St}{H:Hp}{s:Shared}{R:It->Hp->Prop}{E:Vq}{lo hi:Int}{t u v:Tok}{tk:Nat}(I:Inv X pins σ H s)(ht:1<=tk)(h1:-(2 ^ 62)<=lo)(h2:lo < 2 ^ 62)(h3:-(2 ^ 62)<=hi)(h4:hi < 2 ^ 62)
  (q:R (oO lo (hi - lo).toNat) H):wpAny (model X.prog X.w) X.A (pyIter (.ref s.heap.objs.size)) (si X pins σ tg R) E { s with heap:=s.heap.push { cls:=.type "range",data:=.fields #[.int lo t,.int hi u,.int 1 v] },toks:=tk }:=by
 refine wpAny_pyIter_range (IsRange.new ..) (small_one h1 h2 h3 h4) ?_
 have I1:Inv X pins σ H { s with heap:=s.heap.push { cls:=.type "range",data:=.fields #[.int lo t,.int hi u,.int 1 v] },toks:=tk }:=I.kept fun b o e=>zp _ e
 refine⟨(s.heap.push { cls:=.type "range",data:=.fields #[.int lo t,.int hi u,.int 1 v] }).objs.size,[(s.heap.push { cls:=.type "range",data:=.fields #[.int lo t,.int hi u,.int 1 v] }).objs.size],_,_,H,rfl,
  I1.kept (t':=tk) fun b o e=>zp _ e,gB _ lo (hi - lo).toNat,?_,fun b hb=>?_,q⟩
 ·have e1:lo+((0:Nat):Int) * 1=lo:=by simp
  have e2:(((hi - lo).toNat:Nat):Int) - ((0:Nat):Int)=Builtin.Range.rangeSize lo hi 1:=by rw[rangeSize_one];split<;>omega
  show IsRangeIter _ _ (lo+((0:Nat):Int) * 1) ((((hi - lo).toNat:Nat):Int) - ((0:Nat):Int)) 1
  rw[e1,e2]
  exact zz _ rfl
 ·have e:b=(s.heap.push { cls:=.type "range",data:=.fields #[.int lo t,.int hi u,.int 1 v] }).objs.size:=by simpa using hb
  subst e
  exact I1.ut (zw _) (I1.hok.fresh (zw _))
def l3(ta:TA):TI:=fun σ H R=>ta σ H fun vs H1=>∃j:Int,vs=[.int j]/\-(2 ^ 62)<=j/\j < 2 ^ 62/\R (oO 0 j.toNat) H1
def iD{a:Expr}{ta:TA}{p pos:Pos}(hg:Gl X "range")(hm:X.mg "range" = none)(ha:PA X [a] ta)(hs:starEach [a] X.env=[(false,eval a X.env)]:=by rfl):PI X tg (.Call (.Name "range" p) [a] [] pos) (l3 ta):=by
 intro pins s σ H R I h
 refine Call_ (bW I hg hm boot_range (zY (aB (ha pos pins s σ H _ I h) fun us s1 ⟨vs,H1,I1,r1,q1⟩=>?_) hs rfl))
 obtain⟨j,e,q1,q2,q⟩:=q1
 subst e
 cases r1 with
 |cons r rr=>
  cases rr
  obtain⟨t,rfl⟩:=r
  exact call_range_1 (jl I1 (by walk_at "t") (by omega) (by omega) q1 q2 (by simpa using q))
def q8(wi:TI)(g:TG)(tb:TS):TS:=fun D σ H=>wi σ H fun J H1=>∃W:Nat->Nat->St->Hp->Prop,(∃m,W 0 m σ H1)/\∀i m σ H,W i m σ H->
 (J.stop i H/\D.nx σ H)\/(J.go i H/\∃N:St->Hp->Prop,(∀σ' H',N σ' H'->∃m',m' < m/\W (i+1) m' σ' H')/\∀x H',J.w5 i H x H'->g x σ H' fun σ2 H2=>tb { D with nx:=N,ct:=N,bk:=D.nx } σ2 H2)
noncomputable def dj(fp:List Addr)(h:Heap):List (Addr×Obj):=fp.filterMap fun b=>(h.get? b).map fun o=>(b,o)
def bX{fp:List Addr}{h:Heap}{b:Addr}{o:Obj}(hb:b∈fp)(e:h.get? b=some o):(b,o)∈dj fp h:=List.mem_filterMap.mpr ⟨b,hb,by rw[e];rfl⟩
def iE{fp:List Addr}{h:Heap}{p:Addr×Obj}(hp:p∈dj fp h):p.1∈fp/\h.get? p.1=some p.2:=by
 obtain⟨b,hb,e⟩:=List.mem_filterMap.mp hp
 cases q:h.get? b with
 |none=>rw[q]at e;cases e
 |some o=>
  rw[q]at e
  have e':(b,o)=p:=zK e
  subst e'
  exact⟨hb,q⟩
def Inv.pinned{pins:Va}{σ:St}{H:Hp}{s:Shared}{fp:List Addr}(I:Inv X pins σ H s)(hf:∀b∈fp,tF X pins H b)(ho:∀b∈fp,∃o,s.heap.get? b=some o/\∀v,o.data ≠ .cell v):Inv X (pins++dj fp s.heap) σ H s:=
 I.uK fun p hp=>(AH.mp hp).elim (fun z=>I.pin p (zJ _ z)) fun z=>by
  obtain⟨hb,e⟩:=iE z
  obtain⟨f0,f1,f2,_⟩:=hf p.1 hb
  obtain⟨o,e',d⟩:=ho p.1 hb
  rw[e]at e';cases e'
  exact⟨e,f0,f1,f2,d⟩
def Inv.uu{pins pl:Va}{σ:St}{H:Hp}{s:Shared}(I:Inv X (pins++pl) σ H s):Inv X pins σ H s:=I.uK fun p hp=>I.pin p (zJ _ (Am _ hp))
def mI{iter:Expr}{body:List Stmt}{wi:TI}{g:TG}{tb:TS}{pos:Pos}(hp:PassesOwn (model X.prog X.w) X.A X.env X.xe)(hc:X.calm=true)(hi:PI X tg iter wi)(hg:PG X tg g)(hb:uS X body tb)
  (hs:∀x,foldedSetIterable iter X.env x=pure x:=by intro _;rfl):PS X (.For tg iter body [] pos) (q8 wi g tb):=by
 intro pins s σ H D I h
 refine wpAny_For (aB (hi pins s σ H _ I h) fun v s1 h1=>aB h1 fun itv s2 h2=>?_) hs
 obtain⟨it,fp,tn,J,H2,e,I2,T,st2,f2,W,⟨m0,w0⟩,turn⟩:=h2
 subst e
 -- what stays true of the iterator's objects through the loop
 have stat:∀{H':Hp},(∀b∈fp,H' b=none)->∀b∈fp,tF X pins H' b:=fun hn b hb=>⟨hn b hb,(f2 b hb).2⟩
 refine codeAny_forLoop_any (fun n s'=>∃i σ' H',Inv X pins σ' H' s'/\tn i s'.heap/\(∀b∈fp,H' b=none)/\W i n σ' H') ?_ m0 ⟨0,σ,H2,I2,st2,fun b hb=>(f2 b hb).1,w0⟩
 rintro n s3 ⟨i,σ3,H3,I3,st3,x8,w3⟩
 rcases turn i n σ3 H3 w3 with⟨stop,qn⟩|⟨go,N,hN,step⟩
 ·refine Aj hp (aB (T.done X rfl rfl rfl hc i pins s3 σ3 H3 X.xe I3 (stat x8) st3 stop) fun r s4 ⟨hr,I4⟩=>?_)
  subst hr
  exact AI ⟨σ3,H3,I4,qn⟩
 ·refine Aj hp (aB (T.item X rfl rfl rfl hc i pins s3 σ3 H3 X.xe I3 (stat x8) st3 go) fun r s4 ⟨u,hr,h4⟩=>?_)
  subst hr
  refine Aj hp (aB h4 fun _ s5 ⟨x,H5,I5,r5,y5,v8,xu⟩=>?_)
  have xv:=I5.pinned (stat xu) (T.obj _ _ v8)
  refine Aj hp (aB (hg _ s5 σ3 H5 x u _ xv r5 (step x H5 y5)) fun _ s6 ⟨σ6,H6,I6,q6⟩=>?_)
  refine Aj hp (aB (hb _ s6 σ6 H6 _ I6 q6) fun f s7 q7=>?_)
  have again:∀{σ7:St} {H7:Hp},Inv X (pins++dj fp s5.heap) σ7 H7 s7->N σ7 H7->∃m,m < n/\∃i σ' H',Inv X pins σ' H' s7/\tn i s7.heap/\(∀b∈fp,H' b=none)/\W i m σ' H':=fun{σ7 H7} I7 n7=>by
   obtain⟨m',hm,w7⟩:=hN σ7 H7 n7
   refine⟨m',hm,i+1,σ7,H7,I7.uu,T.keep _ _ _ v8 fun b hb o e=>(I7.pin (b,o) (zJ _ (zJ _ (bX hb e)))).1,fun b hb=>?_,w7⟩
   obtain⟨o,e,d⟩:=T.obj _ _ v8 b hb
   exact(I7.pin (b,o) (zJ _ (zJ _ (bX hb e)))).2.1
  cases f with
  |next=>obtain⟨σ7,H7,I7,n7⟩:=q7;exact again I7 n7
  |cont=>obtain⟨σ7,H7,I7,n7⟩:=q7;exact again I7 n7
  |brk=>obtain⟨σ7,H7,I7,q7⟩:=q7;exact⟨σ7,H7,I7.uu,q7⟩
  |ret v=>obtain⟨x7,σ7,H7,I7,r7,q7⟩:=q7;exact⟨x7,σ7,H7,I7.uu,r7,q7⟩
end
abbrev R2:=V->V->Hp->VK->Prop
def dc(X:Cx)(f:Value->Value->Sem Value)(r:R2):Prop:=
 ∀(pins:Va) (s:Shared) (σ:St) (H:Hp) (x y:V) (v u:Value) (Q:VK),Inv X pins σ H s->RelV x v->RelV y u->r x y H Q->
  wpAny (model X.prog X.w) X.A (f v u) (EP X pins σ Q) X.xe s
def cL(X:Cx)(f:Value)(r:List V->Hp->VK->Prop):Prop:=
 ∀(pins:Va) (s:Shared) (σ:St) (H:Hp) (xs:List V) (us:Vv) (Q:VK),Inv X pins σ H s->Vals xs us->r xs H Q->
  wpAny (model X.prog X.w) X.A (call f us) (EP X pins σ Q) X.xe s
def pp(r:R2)(ta tb:TE):TE:=fun σ H Q=>ta σ H fun x H1=>tb σ H1 fun y H2=>r x y H2 Q
def rI(C:Int->Int->Prop)(g:Int->Int->V):R2:=fun x y H Q=>∃i j,x = .int i/\y = .int j/\C i j/\Q (g i j) H
def l4(g:Int->Int->V):R2:=fun x y H Q=>∃i j,x = .int i/\y = .int j/\Q (g i j) H
section
variable {X:Cx} {a b c:Expr} {ta tb tc:TE} {pos:Pos}
def mJ(ha:PE X a ta)(hb:PE X b tb){pins:Va}{s:Shared}{σ:St}{H:Hp}{R:V->V->Hp->Prop}(I:Inv X pins σ H s)
  (h:ta σ H fun x H1=>tb σ H1 fun y H2=>R x y H2) {Q:Vq} {f:Value->Value->Sem Value}
  (hf:∀v u s2 x y H2,Inv X pins σ H2 s2->RelV x v->RelV y u->R x y H2->wpAny (model X.prog X.w) X.A (f v u) Q X.xe s2) :
  wpAny (model X.prog X.w) X.A (eval a X.env) (fun v s₁=>wpAny (model X.prog X.w) X.A (eval b X.env) (fun u s₂=>wpAny (model X.prog X.w) X.A (f v u) Q X.xe s₂) X.xe s₁) X.xe s:=by
 refine aB (ha pins s σ H _ I h) fun v s1 ⟨x,H1,I1,r1,q1⟩=>?_
 refine aB (hb pins s1 σ H1 _ I1 q1) fun u s2 ⟨y,H2,I2,r2,q2⟩=>?_
 exact hf v u s2 x y H2 I2 r1 r2 q2
def pq{op:Operator}{r:R2}(ho:dc X (binaryOp op) r)(ha:PE X a ta)(hb:PE X b tb):PE X (.BinOp a op b pos) (pp r ta tb):=by
 intro pins s σ H Q I h
 exact wpAny_BinOp (mJ ha hb I h fun v u s2 x y H2 I2 rx ry q=>ho pins s2 σ H2 x y v u Q I2 rx ry q)
def qK{f:Value->Value->Sem Value}{C:Int->Int->Prop}{g:Int->Int->Int}
  (rule:∀(i j:Int) (t u:Tok) (s:Shared) (Q:Vq) (E:Vq),C i j->Q (.int (g i j) s.toks) { s with toks:=s.toks+1 }->wpAny (model X.prog X.w) X.A (f (.int i t) (.int j u)) Q E s) :
  dc X f (rI C fun i j=>.int (g i j)):=by
 intro pins s σ H x y v u Q I rx ry h
 obtain⟨i,j,rfl,rfl,hc,q⟩:=h
 obtain⟨t,rfl⟩:=rx
 obtain⟨t',rfl⟩:=ry
 exact rule i j t t' s _ _ hc ⟨.int (g i j),H,I.tok _,⟨_,rfl⟩,q⟩
def pr{f:Value->Value->Sem Value}{g:Int->Int->Int}
  (rule:∀(i j:Int) (t u:Tok) (s:Shared) (Q:Vq) (E:Vq),Q (.int (g i j) s.toks) { s with toks:=s.toks+1 }->wpAny (model X.prog X.w) X.A (f (.int i t) (.int j u)) Q E s) :
  dc X f (l4 fun i j=>.int (g i j)):=by
 intro pins s σ H x y v u Q I rx ry h
 obtain⟨i,j,rfl,rfl,q⟩:=h
 obtain⟨t,rfl⟩:=rx
 obtain⟨t',rfl⟩:=ry
 exact rule i j t t' s _ _ ⟨.int (g i j),H,I.tok _,⟨_,rfl⟩,q⟩
def pw{f:Value->Value->Sem Value}{g:Int->Int->Bool}
  (rule:∀(i j:Int) (t u:Tok) (s:Shared) (Q:Vq) (E:Vq),Q (.bool (g i j)) s->wpAny (model X.prog X.w) X.A (f (.int i t) (.int j u)) Q E s) :
  dc X f (l4 fun i j=>.bl (g i j)):=by
 intro pins s σ H x y v u Q I rx ry h
 obtain⟨i,j,rfl,rfl,q⟩:=h
 obtain⟨t,rfl⟩:=rx
 obtain⟨t',rfl⟩:=ry
 exact rule i j t t' s _ _ ⟨.bl (g i j),H,I,rfl,q⟩
def mK(i j:Int):Prop:=0<=j/\j<=1000000/\i.natAbs < 2 ^ 64
def v9(i j:Int):Prop:=(-(2 ^ 64) < i/\i < 2 ^ 64)\/(-(2 ^ 64) < j/\j < 2 ^ 64)
def v9.ok{i j:Int}(h:v9 i j):IntMulOk i j:=by
 rcases h with⟨h1,h2⟩|⟨h1,h2⟩
 ·exact .of_left (intBits_le_64 h1 h2)
 ·exact .of_right (intBits_le_64 h1 h2)
def mL:dc X (binaryOp .Add) (l4 fun i j=>.int (i+j)):=pr fun _ _ _ _ _ _ _ q=>add_int q
def mM:dc X (binaryOp .Sub) (l4 fun i j=>.int (i - j)):=pr fun _ _ _ _ _ _ _ q=>sub_int q
def kR:dc X (binaryOp .Mod) (rI (fun _ j=>j≠0) fun i j=>.int (i.fmod j)):=qK fun _ _ _ _ _ _ _ hc q=>mod_int' hc q
def mN:dc X (binaryOp .Pow) (rI mK fun i j=>.int (i ^ j.toNat)):=qK fun _ _ _ _ _ _ _ hc q=>pow_int_small hc.1 hc.2.1 hc.2.2 q
end
noncomputable def pz:V->V->Bool
 | .non,.non=>true | .non,.int _=>true | .int _,.non=>true | .non,.bl _=>true | .bl _,.non=>true | .non,.str _=>true | .str _,.non=>true
 | .int _,.int _=>true | .bl _,.bl _=>true | .str _,.str _=>true | .vJ _,.vJ _=>true
 | .int _,.str _=>true | .str _,.int _=>true | .bl _,.str _=>true | .str _,.bl _=>true
 |_,_=>false
def sy:R2:=fun x y H Q=>pz x y=true/\Q (.bl (decide (x=y))) H
def sA:R2:=fun x y H Q=>pz x y=true/\Q (.bl (!decide (x=y))) H
def gX{i j:Int}:decide (V.int i=V.int j)=(i == j):=by
 rw[A6]
 simp
def jm{i j:Bool}:decide (V.bl i=V.bl j)=(i == j):=by
 rw[A6]
 simp
def gY{i j:Str}:decide (V.str i=V.str j)=(i == j):=by
 rw[A6]
 simp
def gZ{i j:Array UInt8}:decide (V.vJ i=V.vJ j)=(i.toList == j.toList):=by
 rw[A6]
 cases i
 cases j
 simp
section
variable {X:Cx} {a b c:Expr} {ta tb tc:TE} {pos:Pos}
def ak{pins:Va}{σ:St}{H:Hp}{s:Shared}{Q:VK}{k k':Bool}(I:Inv X pins σ H s)(q:Q (.bl k) H)(e:k=k'):EP X pins σ Q (.bool k') s:=by
 subst e
 exact⟨.bl k,H,I,rfl,q⟩
def jn:dc X (compareOp .Eq) sy:=by
 intro pins s σ H x y v u Q I rx ry h
 obtain⟨hs,q⟩:=h
 cases x with
 |non=>
  cases rx
  cases y with
  |non=>cases ry;exact PySem.EqNone.eq_none_none (ak I q (by simp))
  |bl j=>cases ry;exact PySem.EqNone.eq_none_bool (ak I q (by simp))
  |int j=>obtain⟨t',rfl⟩:=ry;exact PySem.EqNone.eq_none_int (ak I q (by simp))
  |str j=>obtain⟨t',rfl⟩:=ry;exact PySem.EqNone.eq_none_str (ak I q (by simp))
  |_=>exact absurd (show false=true from hs) zA
 |bl i=>
  cases rx
  cases y with
  |non=>cases ry;exact PySem.EqNone.eq_bool_none (ak I q (by simp))
  |bl j=>cases ry;exact eq_bool (ak I q jm)
  |str j=>obtain⟨t',rfl⟩:=ry;exact PySem.EqMixed.eq_bool_str (ak I q (by simp))
  |_=>exact absurd (show false=true from hs) zA
 |int i=>
  obtain⟨t,rfl⟩:=rx
  cases y with
  |non=>cases ry;exact PySem.EqNone.eq_int_none (ak I q (by simp))
  |int j=>obtain⟨t',rfl⟩:=ry;exact eq_int (ak I q gX)
  |str j=>obtain⟨t',rfl⟩:=ry;exact PySem.EqMixed.eq_int_str (ak I q (by simp))
  |_=>exact absurd (show false=true from hs) zA
 |str i=>
  obtain⟨t,rfl⟩:=rx
  cases y with
  |non=>cases ry;exact PySem.EqNone.eq_str_none (ak I q (by simp))
  |bl j=>cases ry;exact PySem.EqMixed.eq_str_bool (ak I q (by simp))
  |int j=>obtain⟨t',rfl⟩:=ry;exact PySem.EqMixed.eq_str_int (ak I q (by simp))
  |str j=>obtain⟨t',rfl⟩:=ry;exact eq_str (ak I q gY)
  |_=>exact absurd (show false=true from hs) zA
 |vJ i=>
  obtain⟨t,rfl⟩:=rx
  cases y with
  |vJ j=>obtain⟨t',rfl⟩:=ry;exact PySem.W.eq_bytes (ak I q gZ)
  |_=>exact absurd (show false=true from hs) zA
 |_=>cases y<;>exact absurd (show false=true from hs) zA
def jo:dc X (compareOp .NotEq) sA:=by
 intro pins s σ H x y v u Q I rx ry h
 obtain⟨hs,q⟩:=h
 cases x with
 |non=>
  cases rx
  cases y with
  |non=>cases ry;exact PySem.EqNone.ne_none_none (ak I q (by simp))
  |bl j=>cases ry;exact PySem.EqNone.ne_none_bool (ak I q (by simp))
  |int j=>obtain⟨t',rfl⟩:=ry;exact PySem.EqNone.ne_none_int (ak I q (by simp))
  |str j=>obtain⟨t',rfl⟩:=ry;exact PySem.EqNone.ne_none_str (ak I q (by simp))
  |_=>exact absurd (show false=true from hs) zA
 |bl i=>
  cases rx
  cases y with
  |non=>cases ry;exact PySem.EqNone.ne_bool_none (ak I q (by simp))
  |bl j=>cases ry;exact ne_bool (ak I q (zM not jm))
  |str j=>obtain⟨t',rfl⟩:=ry;exact PySem.EqMixed.ne_bool_str (ak I q (by simp))
  |_=>exact absurd (show false=true from hs) zA
 |int i=>
  obtain⟨t,rfl⟩:=rx
  cases y with
  |non=>cases ry;exact PySem.EqNone.ne_int_none (ak I q (by simp))
  |int j=>obtain⟨t',rfl⟩:=ry;exact ne_int (ak I q (zM not gX))
  |str j=>obtain⟨t',rfl⟩:=ry;exact PySem.EqMixed.ne_int_str (ak I q (by simp))
  |_=>exact absurd (show false=true from hs) zA
 |str i=>
  obtain⟨t,rfl⟩:=rx
  cases y with
  |non=>cases ry;exact PySem.EqNone.ne_str_none (ak I q (by simp))
  |bl j=>cases ry;exact PySem.EqMixed.ne_str_bool (ak I q (by simp))
  |int j=>obtain⟨t',rfl⟩:=ry;exact PySem.EqMixed.ne_str_int (ak I q (by simp))
  |str j=>obtain⟨t',rfl⟩:=ry;exact ne_str (ak I q (zM not gY))
  |_=>exact absurd (show false=true from hs) zA
 |vJ i=>
  obtain⟨t,rfl⟩:=rx
  cases y with
  |vJ j=>obtain⟨t',rfl⟩:=ry;exact PySem.W.ne_bytes (ak I q (zM not gZ))
  |_=>exact absurd (show false=true from hs) zA
 |_=>cases y<;>exact absurd (show false=true from hs) zA
def pA:dc X (compareOp .Gt) (l4 fun i j=>.bl (decide (j < i))):=pw fun _ _ _ _ _ _ _ q=>gt_int q
def pB:dc X (compareOp .GtE) (l4 fun i j=>.bl (decide (j<=i))):=pw fun _ _ _ _ _ _ _ q=>ge_int q
def cw(b:Expr){op:CmpOp}(h:op ≠ .In:=by decide)(h2:op ≠ .NotIn:=by decide):behindInMarks op b=false:=by
 have e1:(op == CmpOp.In)=false:=by cases op<;>first|rfl|exact absurd rfl h
 have e2:(op == CmpOp.NotIn)=false:=by cases op<;>first|rfl|exact absurd rfl h2
 cases b<;>simp[behindInMarks,e1,e2]
def kS{op:CmpOp}{r:R2}(ho:dc X (compareOp op) r)(ha:PE X a ta)(hb:PE X b tb)(hm:behindInMarks op b=false):PE X (.Compare a [op] [b] pos) (pp r ta tb):=by
 intro pins s σ H Q I h
 exact wpAny_Compare1 (mJ ha hb I h fun v u s2 x y H2 I2 rx ry q=>ho pins s2 σ H2 x y v u Q I2 rx ry q) hm
def pC(t:TE):TT:=fun σ H Q=>t σ H fun x H'=>∃k,x = .bl k/\Q k H'
def kT{op:CmpOp}{r:R2}(ho:dc X (compareOp op) r)(ha:PE X a ta)(hb:PE X b tb)(hm:behindInMarks op b=false):PT X (.Compare a [op] [b] pos) (pC (pp r ta tb)):=by
 intro pins s σ H Q I h
 refine wpAny_isTrue_Compare1 (aB (ha pins s σ H _ I h) fun v s1 ⟨x,H1,I1,r1,q1⟩=>aB (hb pins s1 σ H1 _ I1 q1) fun u s2 ⟨y,H2,I2,r2,q2⟩=>
  aB (ho pins s2 σ H2 x y v u _ I2 r1 r2 q2) fun c s3 ⟨z,H3,I3,r3,k,e,q3⟩=>?_) hm
 subst e
 cases r3
 exact wpAny_truthy_bool ⟨H3,I3,q3⟩
def cx:(sizeLine:Nat) < 2 ^ 63:=by rw[Bd];decide
def gC:dc X (binaryOp .Add) (fun x y H Q=>∃i j,x = .str i/\y = .str j/\i.length+j.length<=sizeLine/\Q (.str (i++j)) H):=by
 intro pins s σ H x y v u Q I rx ry h
 obtain⟨i,j,rfl,rfl,hz,q⟩:=h
 obtain⟨t,rfl⟩:=rx
 obtain⟨t',rfl⟩:=ry
 exact zG I.tk (add_str (fun t' tk ht=>⟨.str (i++j),H,I.tok _,⟨_,rfl⟩,q⟩) hz)
def eh{x:V}{us:Vv}(r:Vals [x] us):∃u,us=[u]/\RelV x u:=by
 cases r with
 |cons r1 r2=>cases r2;exact⟨_,rfl,r1⟩
def pD{x y:V}{us:Vv}(r:Vals [x,y] us):∃u w',us=[u,w']/\RelV x u/\RelV y w':=by
 cases r with
 |cons r1 r2=>
  cases r2 with
  |cons r3 r4=>cases r4;exact⟨_,_,rfl,r1,r3⟩
def iF(hc:X.calm=true):cL X (.builtin "max") (fun xs H Q=>∃i j,xs=[.int i,.int j]/\Q (.int (if j > i then j else i)) H):=by
 intro pins s σ H xs us Q I r h
 obtain⟨i,j,rfl,q⟩:=h
 obtain⟨u,w',rfl,⟨t,rfl⟩,⟨t',rfl⟩⟩:=pD r
 refine zG I.tk (max_two_ints (I.ok.hd hc) fun h' tk k ht=>⟨_,H,I.kept k,?_,q⟩)
 by_cases hj:j > i
 ·rw[if_pos hj,if_pos hj];exact⟨_,rfl⟩
 ·rw[if_neg hj,if_neg hj];exact⟨_,rfl⟩
def ei:cL X (.type "int") (fun xs H Q=>(∃i,xs=[.int i]/\Q (.int i) H)\/∃k,xs=[.bl k]/\Q (.int (if k then 1 else 0)) H):=by
 intro pins s σ H xs us Q I r h
 rcases h with⟨i,rfl,q⟩|⟨k,rfl,q⟩
 ·obtain⟨u,rfl,t,rfl⟩:=eh r
  exact call_int_int ⟨.int i,H,I,⟨_,rfl⟩,q⟩
 ·obtain⟨u,rfl,r1⟩:=eh r
  cases r1
  exact call_int_bool ⟨.int (if k then 1 else 0),H,I.tok _,⟨_,rfl⟩,q⟩
end
def em{h:Heap}{dx:Addr}{mA:Vr}(n:h.Ns1 dx mA):∃od,h.get? dx=some od/\∀name,PySem.W.lookIn name od=some (mA name):=by
 obtain⟨o,es,ep,ho,hd,hk,_,hm⟩:=n
 refine⟨o,ho,fun name=>?_⟩
 have e:=hm name
 unfold nsFind findBy at e
 rw[<-Array.find?_toList]at e
 unfold PySem.W.lookIn
 rw[hd]
 dsimp only
 split
 ·rename_i y q
  rw[q]at e
  exact zM some e
 ·rename_i q
  rw[q]at e
  have a:es.toList.any (·.refKey)=false:=by
   rw[List.any_eq_false]
   intro y hy
   obtain⟨z,t,hkey⟩:=hk y (Array.mem_toList_iff.mp hy)
   simp[DictEntry.refKey,hkey]
  have a':¬es.toList.any (·.refKey)=true:=by rw[a];exact zA
  rw[if_neg a']
  exact zM some e
noncomputable def b_(f:Str)(v:V):List (Str×V)->List (Str×V)
 |[]=>[(f,v)]
 |(g,x)::r=>if g=f then (g,v)::r else (g,x)::b_ f v r
theorem cM(f g:Str)(v:V):∀fs:List (Str×V),(b_ f v fs).lookup g=if g=f then some v else fs.lookup g
 |[]=>by
  show List.lookup g [(f,v)]=_
  by_cases h:g=f
  ·have hb:(g == f)=true:=Ay.mpr h
   simp only[List.lookup,hb,if_pos h]
  ·have hb:(g == f)=false:=Ae.mpr h
   simp only[List.lookup,hb,if_neg h]
 |(k,x)::r=>by
  have ih:=cM f g v r
  rw[show b_ f v ((k,x)::r)=(if k=f then (k,v)::r else (k,x)::b_ f v r)from rfl]
  by_cases hk:k=f
  ·rw[if_pos hk]
   by_cases h:g=k
   ·have hb:(g == k)=true:=Ay.mpr h
    simp only[List.lookup,hb,if_pos (h.trans hk)]
   ·have hb:(g == k)=false:=Ae.mpr h
    simp only[List.lookup,hb,if_neg (fun e:g=f=>h (e.trans hk.symm))]
  ·rw[if_neg hk]
   by_cases h:g=k
   ·have hb:(g == k)=true:=Ay.mpr h
    simp only[List.lookup,hb,if_neg (fun e:g=f=>hk (h.symm.trans e))]
   ·have hb:(g == k)=false:=Ae.mpr h
    simp only[List.lookup,hb]
    exact ih
theorem cy(f:Str)(v:V):∀fs:List (Str×V),f∈(b_ f v fs).map (·.1)/\∀g,g∈fs.map (·.1)->g∈(b_ f v fs).map (·.1)
 |[]=>⟨by simp[b_],fun g h=>by simp at h⟩
 |(k,x)::r=>by
  obtain⟨i1,i2⟩:=cy f v r
  rw[show b_ f v ((k,x)::r)=(if k=f then (k,v)::r else (k,x)::b_ f v r)from rfl]
  by_cases hk:k=f
  ·rw[if_pos hk]
   subst hk
   exact⟨by simp,fun g h=>by simpa using h⟩
  ·rw[if_neg hk]
   refine⟨?_,fun g h=>?_⟩
   ·rw[zF]
    exact zX _ i1
   ·rw[zF]at h ⊢
    rcases zE.mp h with e|e
    ·exact zE.mpr (.inl e)
    ·exact zX _ (i2 g e)
def uq.some_of{v:V}{o:Option Value}(r:uq (some v) o):∃u,o=some u/\RelV v u:=by
 cases o with
 |none=>exact(show False from r).elim
 |some u=>exact⟨u,rfl,r⟩
def iG{v:V}{u:Value}(r:RelV v u):PySem.W.handedIn u=true:=by
 cases v with
 |non=>cases (show u=Value.none from r);rfl
 |bl b=>cases (show u=Value.bool b from r);rfl
 |int i=>obtain⟨t,e⟩:=(show ∃t,u=Value.int i t from r);cases e;rfl
 |str x=>obtain⟨t,e⟩:=(show ∃t,u=Value.str x t from r);cases e;rfl
 |vJ b=>obtain⟨t,e⟩:=(show ∃t,u=Value.bytes b t from r);cases e;rfl
 |wY b=>obtain⟨t,e⟩:=(show ∃t,u=Value.float b t from r);cases e;rfl
 |ref a=>cases (show u=Value.ref a from r);rfl
 |ty n=>cases (show u=Value.type n from r);rfl
def NoAttr(K:Vo)(C:Addr)(f:Str):Prop:=PySem.W.findIn K (.ref C) f=some none
def NoAttr.wj{K:Vo}{C:Addr}{f:Str}(n:NoAttr K C f):PySem.W.takerIn K C f=some none:=by
 unfold PySem.W.takerIn
 rw[show PySem.W.findIn K (.ref C) f=some none from n]
 rfl
section
variable {X:Cx} {pins:Va} {σ:St} {H:Hp} {s:Shared} {a C dx:Addr} {fs:List (Str×V)} {f:Str} {v:V} {A:Around} {E:Vq}
def kU{prog:Program}{w:World}{env:Env}{e:Expr}{f:Str}{pos:Pos}{s:Shared}{Q:Vq}(hb:attributeBase e f env (eval e env)=eval e env)
  (h:wpAny (model prog w) A (eval e env) (fun o s₁=>wpAny (model prog w) A (getAttr o f true) Q E s₁) E s):wpAny (model prog w) A (eval (.Attribute e f pos) env) Q E s:=
 Attribute_any_ h (by rw[arm_eval_Attribute,hb])
end
structure RoomG (cm:Bool) (k:Nat) (A:Around):Prop where
 hd:cm=true->A.handled=none
 dp:A.depth+3 * k+5 < recursionLimit
 un:A.units+16 * k+200 < cLine
 gd:A.guards=some []
abbrev cz:=RoomG true
abbrev pE:=RoomG false
section
variable {cm:Bool}
def RoomG.mono{j k:Nat}{A:Around}(r:RoomG cm k A)(h:j<=k):RoomG cm j A:=⟨r.hd,by have:=r.dp;omega,by have:=r.un;omega,r.gd⟩
theorem RoomG.deeper{k:Nat}{A:Around}(r:RoomG cm (k+1) A)(env:Env):RoomG cm k (A.deeper env):=
 ⟨r.hd,by have:=r.dp;show A.depth+1+3 * k+5 < _;omega,by have:=r.un;show A.units+3+16 * k+200 < _;omega,r.gd⟩
def gD{A:Around}{C:Addr}{us:Vv}{kw:List (Str×Value)}:(A.under (.builtin "type.__call__" ⟨.ref C::us,kw⟩)).depth=A.depth+1:=by
 first|rfl|simp[Around.under,Code.weight,Code.isCreation,Code.isGuard,Code.isCaller,Code.frames,Code.isFrame,guardIds]
def gE{A:Around}{C:Addr}{us:Vv}{kw:List (Str×Value)}:(A.under (.builtin "type.__call__" ⟨.ref C::us,kw⟩)).units=A.units+1:=by
 first|rfl|simp[Around.under,Code.cUnits,Code.frames,Code.isFrame]
def fI{A:Around}{C:Addr}{us:Vv}{kw:List (Str×Value)}:(A.under (.builtin "type.__call__" ⟨.ref C::us,kw⟩)).guards=A.guards:=by
 first|rfl|(cases h:A.guards<;>simp[Around.under,Code.guards,Code.isGuard,guardIds,pushGuards,h])
def RoomG.make{k:Nat}{A:Around}(r:RoomG cm (k+1) A)(C:Addr)(us:Vv)(kw:List (Str×Value)):RoomG cm k (A.under (.builtin "type.__call__" ⟨.ref C::us,kw⟩)):=
 ⟨r.hd,by have:=r.dp;rw[gD];omega,by have:=r.un;rw[gE];omega,by rw[fI];exact r.gd⟩
theorem RoomG.depth{k:Nat}{A:Around}(r:RoomG cm k A):A.depth < recursionLimit:=by have:=r.dp;omega
end
def pF:TA:=fun _ H Q=>Q [] H
def l5(ta:TE)(tr:TA):TA:=fun σ H Q=>ta σ H fun x H1=>tr σ H1 fun xs H2=>Q (x::xs) H2
section
variable {X:Cx} {e:Expr} {es:List Expr} {te:TE} {t:TA} {pos:Pos}
def mO:PA X [] pF:=fun _ _ _ _ H Q I h=>Calls.spliced_nil ⟨[],H,I,.nil,h⟩
def kW(ha:PE X e te)(hr:PA X es t)(hs:starEach (e::es) X.env=(false,eval e X.env)::starEach es X.env:=by rfl):PA X (e::es) (l5 te t):=by
 intro pos pins s σ H Q I h
 rw[hs]
 show wpAny _ _ (spliced ((false,eval e X.env)::backTo pos (starEach es X.env))) _ _ s
 refine Calls.spliced_cons (aB (ha pins s σ H _ I h) fun u s1 ⟨x,H1,I1,r1,q1⟩=>?_)
 exact aB (hr pos pins s1 σ H1 _ I1 q1) fun us s2 ⟨xs,H2,I2,r2,q2⟩=>⟨x::xs,H2,I2,.cons r1 r2,q2⟩
def q9(t:TA):TE:=fun σ H Q=>t σ H fun xs H1=>xs.length<=sizeLine/\∀p,H1 p=none->Q (.ref p) (upd H1 p (.tup xs))
def q_(t:TA):TE:=fun σ H Q=>t σ H fun xs H1=>xs.length<=sizeLine/\∀p,H1 p=none->Q (.ref p) (upd H1 p (.lst xs))
def mP{x1}(h:PA X es t):PE X (.Tuple es x1 pos) (q9 t):=by
 intro pins s σ H Q I hq
 refine wpAny_Tuple_spliced (aB (h pos pins s σ H _ I hq) fun us s1 ⟨xs,H1,I1,r,z,q⟩=>⟨by rw[<-r.length];exact z,?_⟩)
 have hf:H1 s1.heap.objs.size=none:=I1.hok.fresh (zw _)
 refine⟨.ref s1.heap.objs.size,upd H1 s1.heap.objs.size (.tup xs),I1.laid (t':=s1.toks) (fun b u e=>zp _ e) (zw _) ?_,rfl,q _ hf⟩
 exact⟨z,us,r,⟨_,zz _ rfl,rfl,rfl,_,rfl⟩⟩
def mQ(h:PA X es t):PE X (.List es pos) (q_ t):=by
 intro pins s σ H Q I hq
 refine wpAny_List_spliced (aB (h pos pins s σ H _ I hq) fun us s1 ⟨xs,H1,I1,r,z,q⟩=>⟨by rw[<-r.length];exact z,?_⟩)
 have hf:H1 s1.heap.objs.size=none:=I1.hok.fresh (zw _)
 refine⟨.ref s1.heap.objs.size,upd H1 s1.heap.objs.size (.lst xs),I1.laid (t':=s1.toks) (fun b u e=>zp _ e) (zw _) ?_,rfl,q _ hf⟩
 exact⟨z,us,0,r,zz _ rfl⟩
end
abbrev Sp:=List V->Hp->VK->XK->Prop
abbrev jp:=List Env->Hp->Shared->XK->Value->Shared->Prop
structure vg (P:Program) (w:World) (K:Vo) (mg:Vr) (base:Heap) (A:Around) (outer:List Env) (s:Shared) (H:Hp):Prop where
 frames:A.frames=some outer
 mod:Mod K mg base
 bs:∀b o,base.get? b=some o->s.heap.get? b=some o/\H b=none
 vf:base.objs.size<=s.heap.objs.size
 t9:s.heap.FunFrames base outer
 vA:∀b∈frs outer,H b=none
 hok:ua P w H s.heap
 bare:AllBare s.gens
 hx:HX A H
def CE(outer:List Env)(P:Program)(w:World)(H:Hp)(s:Shared)(Q:VK)(u:Value)(s':Shared):Prop:=
 ∃v H',s'.os=s.os/\AllBare s'.gens/\Un (frs outer) [] H H' s.heap s'.heap/\ua P w H' s'.heap/\RelV v u/\Q v H'
def CR(CX:jp)(outer:List Env)(P:Program)(w:World)(H:Hp)(s:Shared)(Q:VK)(E:XK)(r:Result)(s':Shared):Prop:=
 match r with
 | .ok (.ret u)=>CE outer P w H s Q u s'
 | .ok _=>False
 | .error e=>CX outer H s E e s'
noncomputable def FL(fd:FuncData):List Str->Prop
 |n::_=>fd.scope.names.lookup n=some .local
 |[]=>False
structure bz (cm:Bool) (P:Program) (w:World) (K:Vo) (mg:Vr) (base:Heap) (CX:jp) (k:Nat) (f:Addr) (fd:FuncData) (ps:Vs) (sp:Sp):Prop where
 len:∀vs H Q E,sp vs H Q E->vs.length=ps.length
 run:∀(A:Around) (outer:List Env) (s:Shared) (H:Hp) (args:Args) (us:Vv) (vs:List V) (Q:VK) (E:XK),RoomG cm k A->(1<=s.toks\/FL fd ps)->vg P w K mg base A outer s H->BindsTo s fd args (ps.zip us)->Vals vs us->sp vs H Q E->
  codeAny (model P w) A (.call (.ref f) args) (CR CX outer P w H s Q E) s
abbrev eZ:=bz true
def vg.make{P:Program}{w:World}{K:Vo}{mg:Vr}{base:Heap}{A:Around}{outer:List Env}{s:Shared}{H:Hp}(e:vg P w K mg base A outer s H)(C:Addr)(us:Vv)(kw:List (Str×Value)) :
  vg P w K mg base (A.under (.builtin "type.__call__" ⟨.ref C::us,kw⟩)) outer s H:=⟨by first|exact e.frames|(simpa [Around.under,Code.envs,Code.isFrame,pushEnvs]using e.frames),e.mod,e.bs,e.vf,e.t9,e.vA,e.hok,e.bare,e.hx.mono (by first|rfl|simp[Around.under,Code.handled]) fun _ _ _ z=>z⟩
section
variable {X:Cx} {pins:Va} {σ:St} {H:Hp} {s s':Shared}
theorem Inv.hx(I:Inv X pins σ H s):HX X.A H:=I.ok.hx.mono rfl I.base.ur
def Inv.wq(I:Inv X pins σ H s):vg X.prog X.w X.K X.mg X.base X.A X.stack s H:=
 ⟨I.ok.frames,I.ok.mod,I.bs,zH I.ok.vf I.sz,I.stack,I.u4,I.hok,I.bare,I.hx⟩
def Inv.after{Q:VK}{u:Value}(I:Inv X pins σ H s)(ht:1<=s'.toks)(h:CE X.stack X.prog X.w H s Q u s'):EP X pins σ Q u s':=by
 obtain⟨v,H',os,bare,un,hok,r,q⟩:=h
 obtain⟨hh,g,d,t,os'⟩:=s'
 obtain rfl:os'=s.os:=os
 exact⟨v,H',I.call (h':=hh) (g':=g) (d':=d) (t':=t) (ch:=[]) un hok bare (fun b z=>absurd z (by simp)),r,q⟩
end
def pG(sp:Sp)(dvs:List V)(E:XK)(t:TA):TE:=fun σ H Q=>t σ H fun vs H1=>sp (vs++dvs) H1 Q E
def Binds(K:Vo)(fd:FuncData)(ps:Vs)(ds:Vv):Prop:=
 ∀(s:Shared) (us:Vv),K.In s.heap->(us++ds).length=ps.length->BindsTo s fd ⟨us,[]⟩ (ps.zip (us++ds))
def Binds.all{K:Vo}{fd:FuncData}{ps:Vs}(h:∀us:List Value,us.length=ps.length->bindArgs fd ⟨us,[]⟩=pure (ps.zip us)):Binds K fd ps []:=fun s us _ hl=>by
 rw[zV]at hl ⊢
 exact .of_eq (h us hl)
def gF(CX:jp)(X:Cx)(E:XK):Prop:=∀(pins:Va) (σ:St) (H:Hp) (s:Shared) (e:Value) (s':Shared),Inv X pins σ H s->1<=s'.toks->CX X.stack H s E e s'->X.xe e s'
section
variable {X:Cx} {CX:jp} {k:Nat} {f C:Addr} {fd:FuncData} {ps:Vs} {sp:Sp} {dvs:List V} {ds:Vv} {E:XK} {x m:Str} {p pos apos:Pos} {e o:Expr} {es:List Expr} {ta:TE} {t:TA}
def mR{cm:Bool}{pins:Va}{σ:St}{H:Hp}{s:Shared}{Q:VK}{us:Vv}{vs:List V}(F:bz cm X.prog X.w X.K X.mg X.base CX k f fd ps sp)(hr:RoomG cm k X.A)(hb:Binds X.K fd ps ds)(hd:Vals dvs ds)(hx:gF CX X E)
  (I:Inv X pins σ H s) (r:Vals vs us) (h:sp (vs++dvs) H Q E):wpAny (model X.prog X.w) X.A (call (.ref f) us) (EP X pins σ Q) X.xe s:=by
 have r2:Vals (vs++dvs) (us++ds):=r.append hd
 have hl:(us++ds).length=ps.length:=by rw[<-r2.length];exact F.len _ _ _ _ h
 refine AM (AB (codeAny_toks_of (Inv.tk ‹_›) (F.run X.A X.stack s H ⟨us,[]⟩ (us++ds) (vs++dvs) Q E hr (.inl I.tk) I.wq (hb s us I.uR hl) r2 h)) fun r s' ⟨ht,hq⟩=>?_)
 cases r with
 |error e=>exact hx pins σ H s e s' I ht hq
 |ok fl=>
  cases fl with
  |ret u=>exact I.after ht hq
  |next=>exact False.elim hq
  |brk=>exact False.elim hq
  |cont=>exact False.elim hq
def kX{cm:Bool}(F:bz cm X.prog X.w X.K X.mg X.base CX k f fd ps sp)(hr:RoomG cm k X.A)(hg:Gl X x)(hm:X.mg x=some (.ref f))(hk:PySem.W.keepIn X.K (.ref f)=true)(hb:Binds X.K fd ps ds)(hd:Vals dvs ds)(hx:gF CX X E)
  (ha:PA X (e::es) t) (hdb:(x == ("__debug__":Str))=false:=by decide) (he:starEach (e::es) X.env=(false,eval e X.env)::starEach es X.env:=by rfl) (hpl:(backTo pos (starEach es X.env)).any (·.1)=false:=by rfl) :
  PE X (.Call (.Name x p) (e::es) [] pos) (pG sp dvs E t):=by
 intro pins s σ H Q I h
 refine zW (bO I hg hm ?_ hdb)
 refine Bb (h₀:=X.base) I.ok.mod.wF hk (aB (ha pos pins s σ H _ I h) fun us s1 ⟨vs,H1,I1,r,q⟩=>⟨I1.uR,?_⟩) he hpl
 exact mR F hr hb hd hx I1 r q
end
structure aJ (N P:Vs) (sc:Scope):Prop where
 kind:sc.kind = .function
 co:sc.isCoroutine=false
 gen:sc.isGenerator=false
 nd:N.Nodup
 pre:N.take P.length=P
 par:∀x∈P,sc.names.lookup x=some .local\/sc.names.lookup x=some .cell
 wt:∀y∈sc.names,y.2 ≠ .free
theorem eo{kindOf:Str->Option NameKind}{x:Str}:∀{binds:List (Str×Value)} {m:Vr},(∀v,(x,v) ∉ binds)->bindL kindOf binds m x=m x
 |[],_,_=>rfl
 |(n,v)::r,m,h=>by
  unfold bindL
  rw[eo fun w hw=>h w (zX _ hw)]
  split
  ·have:x≠n:=by rintro rfl;exact h v Ar
   simp[this]
  ·rfl
theorem er{kindOf:Str->Option NameKind}{x:Str}:∀{binds:List (Str×Value)} {m:Vr},(∀v,(x,v) ∉ binds)->bindC kindOf binds m x=m x
 |[],_,_=>rfl
 |(n,v)::r,m,h=>by
  unfold bindC
  rw[er fun w hw=>h w (zX _ hw)]
  split
  ·rfl
  ·have:x≠n:=by rintro rfl;exact h v Ar
   simp[this]
theorem eu{kindOf:Str->Option NameKind}{x:Str}{v:Value}:∀{P:Vs} {vs:Vv} {i:Nat} {m:Vr},P.Nodup->P[i]?=some x->vs[i]?=some v->kindOf x=some .local->
  bindL kindOf (P.zip vs) m x=some v
 |[],_,_,_,_,h,_,_=>by simp at h
 |_::_,[],_,_,_,_,h,_=>by simp at h
 |p::P,w::vs,0,m,nd,h1,h2,hk=>by
  simp at h1 h2;subst h1;subst h2
  show bindL kindOf ((p,w)::P.zip vs) m p=_
  unfold bindL
  rw[eo fun v hv=>(A7.mp nd).1 (List.of_mem_zip hv).1,if_pos hk]
  simp
 |p::P,w::vs,i+1,m,nd,h1,h2,hk=>by
  show bindL kindOf ((p,w)::P.zip vs) m x=_
  unfold bindL
  exact eu (i:=i) (A7.mp nd).2 (by simpa using h1) (by simpa using h2) hk
theorem ez{kindOf:Str->Option NameKind}{x:Str}{v:Value}:∀{P:Vs} {vs:Vv} {i:Nat} {m:Vr},P.Nodup->P[i]?=some x->vs[i]?=some v->kindOf x≠some .local->
  bindC kindOf (P.zip vs) m x=some v
 |[],_,_,_,_,h,_,_=>by simp at h
 |_::_,[],_,_,_,_,h,_=>by simp at h
 |p::P,w::vs,0,m,nd,h1,h2,hk=>by
  simp at h1 h2;subst h1;subst h2
  show bindC kindOf ((p,w)::P.zip vs) m p=_
  unfold bindC
  rw[er fun v hv=>(A7.mp nd).1 (List.of_mem_zip hv).1,if_neg hk]
  simp
 |p::P,w::vs,i+1,m,nd,h1,h2,hk=>by
  show bindC kindOf ((p,w)::P.zip vs) m x=_
  unfold bindC
  exact ez (i:=i) (A7.mp nd).2 (by simpa using h1) (by simpa using h2) hk
noncomputable def bA(N:Vs)(vs:List V):St:=vs.map some++List.replicate (N.length - vs.length) none
noncomputable def bQ(cm:Bool)(CX:jp)(P:Program)(w:World)(K:Vo)(mg:Vr)(base:Heap)(N:Vs)(qual:Str)(scope:Scope)(f:Addr)(cd:Value)(A:Around)(outer:List Env)(s:Shared)(H:Hp)(E:XK):Cx where
 prog:=P
 w:=w
 K:=K
 mg:=mg
 base:=base
 A:=A.deeper (envOfC qual scope s.heap.objs.size f cd)
 N:=N
 s₀:=s
 H₀:=H
 env:=envOfC qual scope s.heap.objs.size f cd
 outer:=outer
 stack:=envOfC qual scope s.heap.objs.size f cd::outer
 ex:=[]
 calm:=cm
 fn:=fun _=>true
 pn:=[]
 xe:=fun e s'=>wpAny (model P w) (A.deeper (envOfC qual scope s.heap.objs.size f cd)) (leaving (envOfC qual scope s.heap.objs.size f cd) e) (fun _ s''=>CX outer H s E e s'') (fun e' s''=>CX outer H s E e' s'') s'
noncomputable abbrev fJ:=bQ true
def fK{sc:Scope}{n:Nat}{x:Str}(h:sc.names.lookup x=some .cell):∃c,(cellsFrom n sc.names []).lookup x=some c:=by
 have q:=PySem.W.cellsFrom_some sc.names n [] (.inl h)
 exact Option.isSome_iff_exists.mp q
def iH{cm:Bool}{CX:jp}{P:Program}{w:World}{K:Vo}{mg:Vr}{base:Heap}{N ps:Vs}{qual:Str}{scope:Scope}{f:Addr}{cd:Value}{A:Around}{outer:List Env}{s s1:Shared}{H:Hp}{E:XK}{us:Vv}{vs:List V}(ht:1<=s1.toks)
  (S:aJ N ps scope) (hd:cm=true->A.handled=none) (e0:vg P w K mg base A outer s H) (hl:vs.length=ps.length) (r:Vals vs us)
  (x:InCallC s s.heap.objs.size (bindL (envOfC qual scope s.heap.objs.size f cd).kindOf (ps.zip us) fun _=>none) (cellsFrom (s.heap.objs.size+1) scope.names []) (bindC (envOfC qual scope s.heap.objs.size f cd).kindOf (ps.zip us) fun _=>none) s1) :
  Inv (bQ cm CX P w K mg base N qual scope f cd A outer s H E) [] (bA N vs) H s1:=by
 have hpl:ps.length<=N.length:=by have:=zM List.length S.pre;rw[A1]at this;omega
 obtain⟨h1,tk,rfl,hk⟩:=x.done
 have wI:∀b:Addr,b ∉ (bQ cm CX P w K mg base N qual scope f cd A outer s H E).ex:=fun b z=>absurd (show b∈([]:List Addr)from z) (by simp)
 refine⟨⟨e0.mod,S.kind,rfl,rfl,zw _,fun y z c h1 h2=>?_,fun y hy=>?_,fun y c _ h=>?_,hd,Around.frames_deeper e0.frames,.inr ⟨rfl,rfl⟩,fun b z=>absurd z (wI b),e0.bs,e0.vf,fun b _ _=>wI b,fun b z=>absurd z (wI b),e0.t9,e0.vA,e0.hx.mono rfl fun _ _ _ z=>z⟩,
  rfl,e0.bare,Un.kept hk,⟨_,x.toInCall.ns,fun i y v h1 h2 h3=>?_⟩,fun y c h=>⟨_,x.cell y c h⟩,e0.hok.fresh (zw _),fun y c h=>?_,fun p hp=>absurd (show p∈([]:Va)from hp) (by simp),e0.hok.kept hk,?_,ht⟩
 ·exact name_of_addr x.apart (Af h1) (Af h2)
 ·have hy:scope.names.lookup y=some .cell\/scope.names.lookup y=some .free:=hy
  rcases hy with hy|hy
  ·exact fK hy
  ·exact absurd rfl (S.wt _ (Af hy))
 ·exact Ak (x.above y c (Af h))
 ·have hi:i < vs.length:=by
   unfold bA at h2
   by_cases hi:i < vs.length
   ·exact hi
   ·rw[Ah (by simpa using hi)]at h2
    rw[Ac]at h2
    split at h2<;>cases h2
  have ha:vs[i]?=some v:=by
   unfold bA at h2
   rw[zQ (by simpa using hi),z3]at h2
   cases e:vs[i]? with
   |none=>rw[e]at h2;cases h2
   |some a=>rw[e]at h2;cases h2;rfl
  obtain⟨u,hu,rv⟩:=r.get ha
  have hp:ps[i]?=some y:=by
   rw[<-S.pre,List.getElem?_take_of_lt (by omega)];exact h1
  have x9:ps.Nodup:=by rw[<-S.pre];exact S.nd.sublist (List.take_sublist _ _)
  refine⟨u,rv,?_⟩
  rcases S.par y (List.mem_of_getElem? hp)with k|k
  ·exact .inl ⟨k,eu x9 hp hu k⟩
  ·obtain⟨c,e⟩:=fK (n:=s.heap.objs.size+1) k
   refine .inr ⟨.inl k,c,e,?_⟩
   have q:=x.cell y c e
   rw[ez x9 hp hu (by show scope.names.lookup y≠_;rw[k];decide)]at q
   exact q
 ·exact e0.hok.fresh (Ak (x.above y c (Af h)))
 ·unfold bA
  show _=N.length
  rw[zN,zC,zR]
  omega
def jq{fd:FuncData}{ps:Vs}{us:Vv}(h:FL fd ps)(hl:us.length=ps.length):∃n v r,ps.zip us=(n,v)::r/\fd.scope.names.lookup n=some .local:=by
 cases ps with
 |nil=>exact h.elim
 |cons n r=>cases us with
  |nil=>cases hl
  |cons v us=>exact⟨n,v,_,rfl,h⟩
def ra{M:Model}{A:Around}{E:Vq}{s₀ s:Shared}{m cm:Vr}{env:Env}{n:Str}{v:Value}{Q:Unit->Shared->Prop}(x:InCallC s₀ env.locals m env.cells cm s)(hk:env.scope.kind = .function)(hl:env.kindOf n=some .local)
  (h:∀s',InCallC s₀ env.locals (fun y=>if y=n then some v else m y) env.cells cm s'->1<=s'.toks->Q () s'):wpAny M A (storeName env n v) Q E s:=by
 refine wpAny_storeName_local hl x.toInCall.ns (fun h' hn' hs'=>h _ ⟨⟨?_,hn',fun b o e=>?_,x.toInCall.fresh⟩,fun k c hc=>?_,x.apart,x.above⟩ (A0 (Ax _))) (by rw[hk];rfl)
 ·obtain⟨h₁,tk,rfl⟩:=x.toInCall.same
  exact⟨h',_,rfl⟩
 ·exact hs'.extBut b o (zD (zv (zu e) x.toInCall.fresh)) (x.toInCall.keep b o e)
 ·exact(x.cell k c hc).sameBut hs' (AU (x.above k c (mem_of_lookup hc)))
def jr{M:Model}{A:Around}{E:Vq}{s:Shared}{scope:Scope}{globals:Addr}{binds:List (Str×Value)}{qual:Str}{func:Option Addr}{code:Value}{builtins:Addr}{Q:Env->Shared->Prop}
  (ht:1<=s.toks\/∃n v r,binds=(n,v)::r/\scope.names.lookup n=some .local) (hk:scope.kind = .function)
  (hkind:∀x∈binds,scope.names.lookup x.1=some .local\/(scope.names.lookup x.1=some .cell/\((cellsFrom (s.heap.objs.size+1) scope.names []).lookup x.1).isSome=true))
  (hQ:∀env,env=newEnv scope s.heap.objs.size globals (cellsFrom (s.heap.objs.size+1) scope.names []) qual func code none builtins->
   ∀s',InCallC s env.locals (bindL env.kindOf binds fun _=>none) env.cells (bindC env.kindOf binds fun _=>none) s'->1<=s'.toks->Q env s') :
  wpAny M A (newFunctionEnv scope globals [] binds qual func code none builtins) Q E s:=by
 rcases ht with ht|⟨n,v,r,rfl,hl⟩
 ·exact zG ht (wpAny_newFunctionEnv_cells hk hkind fun env he s' x ht=>hQ env he s' x ht)
 ·simp only[newFunctionEnv,Option.isSome_none,zO,Ag]
  refine zo (wpAny_alloc ?_)
  refine zo (wpAny_layCells _ (fun name kind cells=>by cases hkc:kind == NameKind.cell<;>simp[hkc]) _ _ _ _ ?_)
  have ok:=cellsFrom_ok scope.names (s.heap.push { cls:=.type "frame",data:=.dict #[] }) (s.heap.objs.size+1) [] ⟨fun _ _ hm=>(nomatch hm),List.Pairwise.nil⟩ (by rw[Aa];exact zw _)
  rw[Aa]at ok
  rw[show({ s with heap:=s.heap.push { cls:=.type "frame",data:=.dict #[] } }:Shared).heap.objs.size=s.heap.objs.size+1 from Aa ..]
  rw[List.forIn_cons]
  refine zo (zo (zo (ra (s₀:=s) (env:=newEnv scope s.heap.objs.size globals (cellsFrom (s.heap.objs.size+1) scope.names []) qual func code none builtins)
   ⟨⟨⟨_,_,rfl⟩,(Heap.Ns.new s.heap (.type "frame")).keeps (pushCells_keeps _ _),fun b o e=>pushCells_keeps _ _ b o (zp _ e),zw _⟩,
   fun n c hc=>(ok.empty n c (mem_of_lookup hc)).1,ok.apart,fun n c hm=>(ok.empty n c hm).2⟩ hk hl fun s' x' ht=>zq ?_)))
  refine zG ht (wpAny_bindParams (s₀:=s) (env:=newEnv scope s.heap.objs.size globals (cellsFrom (s.heap.objs.size+1) scope.names []) qual func code none builtins) _ (fun _ _ _=>rfl) hk r _ _ s' _ x' (fun y hy=>hkind y (zX _ hy)) fun s'' x'' ht=>zq (hQ _ rfl s'' ?_ ht))
  have hl':(newEnv scope s.heap.objs.size globals (cellsFrom (s.heap.objs.size+1) scope.names []) qual func code none builtins).kindOf n=some .local:=hl
  unfold bindL bindC
  rw[if_pos hl',if_pos hl']
  exact x''
def l6{cm:Bool}{CX:jp}{P:Program}{w:World}{K:Vo}{mg:Vr}{base:Heap}{k:Nat}{f:Addr}{name qual:Str}{params:Arguments}{body:List Stmt}{scope:Scope}{dV kV doc pm cdv ct oc:Value}{an od:Option Addr}
  {osl:Array (Option Value)} {N ps:Vs} {sp:Sp} (lk:K.lookup f=some ⟨oc,od,.func (PySem.W.fnOf name qual params body scope dV kV doc pm an cdv ct),osl⟩) (hcd:PySem.W.codeIn K cdv qual=true) (S:aJ N ps scope)
  (len:∀vs H Q E,sp vs H Q E->vs.length=ps.length)
  (hbody:∀(A:Around) (outer:List Env) (s:Shared) (H:Hp) (vs:List V) (Q:VK) (E:XK),RoomG cm k (A.deeper (envOfC qual scope s.heap.objs.size f cdv))->sp vs H Q E->
   ∃t,uS (bQ cm CX P w K mg base N qual scope f cdv A outer s H E) body t/\t { nx:=fun _ H'=>Q .non H',rt:=Q } (bA N vs) H) :
  bz cm P w K mg base CX (k+1) f (PySem.W.fnOf name qual params body scope dV kV doc pm an cdv ct) ps sp:=by
 refine⟨len,fun A outer s H args us vs Q E hr ht0 e0 hb r wk=>?_⟩
 have hl:=len _ _ _ _ wk
 have KX:K.In s.heap:=e0.mod.wF.keeps fun b o e=>(e0.bs b o e).1
 have lim:s.heap.NoLimit:=e0.mod.nolimit.keeps fun b o e=>(e0.bs b o e).1
 have hkind:∀y∈ps.zip us,scope.names.lookup y.1=some .local\/(scope.names.lookup y.1=some .cell/\((cellsFrom (s.heap.objs.size+1) scope.names []).lookup y.1).isSome=true):=fun⟨n,v⟩ hy=>by
  rcases S.par n (List.of_mem_zip hy).1 with q|q
  ·exact .inl q
  ·exact .inr ⟨q,PySem.W.cellsFrom_some _ _ _ (.inl q)⟩
 refine codeAny_call_function hr.depth (KX _ _ lk) rfl S.co S.gen rfl (PySem.W.codeRec_of KX hcd) (hb _ _ _ _ ?_)
 refine jr (ht0.imp id fun z=>jq z (by rw[<-r.length,hl])) S.kind hkind fun env he s1 x htk=>?_
 subst he
 refine⟨lim.keeps x.toInCall.keep,codeAny_func ?_⟩
 obtain⟨t,ht,hq⟩:=hbody A outer s H vs Q E (hr.deeper _) wk
 have I:Inv (bQ cm CX P w K mg base N qual scope f cdv A outer s H E) [] (bA N vs) H s1:=iH htk S hr.hd e0 hl r x
 refine zL (ht [] s1 (bA N vs) H _ I hq) (fun fl s' hs=>?_) fun e s' hs=>hs
 have fin:∀{σ':St} {H':Hp} {v:V} {u:Value},Inv (bQ cm CX P w K mg base N qual scope f cdv A outer s H E) [] σ' H' s'->RelV v u->Q v H'->CE outer P w H s Q u s':=
  fun{σ' H' v u} J rv q=>⟨v,H',J.os,J.bare,J.base,J.hok,rv,q⟩
 cases fl with
 |ret u=>
  obtain⟨v,σ',H',J,rv,q⟩:=hs
  exact fin J rv q
 |next=>
  obtain⟨σ',H',J,q⟩:=hs
  exact fin (v:=V.non) (u:=Value.none) J rfl q
 |brk=>
  obtain⟨_,_,_,q⟩:=hs
  exact False.elim q
 |cont=>
  obtain⟨_,_,_,q⟩:=hs
  exact False.elim q
section
variable {X:Cx} {x:Str} {p pos:Pos} {e:Expr} {es:List Expr} {t:TA} {id T:String} {r:List V->Hp->VK->Prop}
def sj(r:List V->Hp->VK->Prop)(t:TA):TE:=fun σ H Q=>t σ H fun vs H1=>r vs H1 Q
def js(hc:cL X (.builtin id) r)(hg:Gl X x)(hm:X.mg x=none)(hv:bootBuiltins x=some (.builtin id))(ha:PA X (e::es) t)(hn:x ≠ "__name__":=by decide)(hdb:(x == ("__debug__":Str))=false:=by decide)
  (he:starEach (e::es) X.env=(false,eval e X.env)::starEach es X.env:=by rfl) (hpl:(backTo pos (starEach es X.env)).any (·.1)=false:=by rfl):PE X (.Call (.Name x p) (e::es) [] pos) (sj r t):=by
 intro pins s σ H Q I h
 refine zW (bW I hg hm hv ?_ hn hdb)
 exact PyProof.Rows.callWith_builtin1 (aB (ha pos pins s σ H _ I h) fun us s1 ⟨vs,H1,I1,r1,q1⟩=>hc pins s1 σ H1 vs us Q I1 r1 q1) he hpl
def iI(hc:cL X (.type T) r)(hg:Gl X x)(hm:X.mg x=none)(hv:bootBuiltins x=some (.type T))(ha:PA X (e::es) t)(hn:x ≠ "__name__":=by decide)(hdb:(x == ("__debug__":Str))=false:=by decide)
  (he:starEach (e::es) X.env=(false,eval e X.env)::starEach es X.env:=by rfl) (hpl:(backTo pos (starEach es X.env)).any (·.1)=false:=by rfl):PE X (.Call (.Name x p) (e::es) [] pos) (sj r t):=by
 intro pins s σ H Q I h
 refine zW (bW I hg hm hv ?_ hn hdb)
 exact zY (aB (ha pos pins s σ H _ I h) fun us s1 ⟨vs,H1,I1,r1,q1⟩=>hc pins s1 σ H1 vs us Q I1 r1 q1) he hpl
end
end L2
namespace HT
open PySem PyProof.Rows
section
open PySem.SeqAt
open PySem.AutoSeq1 (wpAny_loadPart')
open PySem.MeetsSeq PySem.MeetsSeq2 PySem.MeetsSeq3
end
section
variable {prog:Program} {w:World} {A:Around} {E:Vq} {s:Shared}
def kY{t b:Addr}{vs ws:Vv}{Q:Vq}(ht:IsTup s.heap t vs.toArray)(hb:IsTup s.heap b ws.toArray)(hv:vs≠[])
  (h1:ws=[]->Q (.ref t) s) (h2:ws≠[]->Q (.ref s.heap.objs.size) { s with heap:=s.heap.push { cls:=.type "tuple",data:=.seq (vs++ws).toArray } })
  (hsz:vs.length+ws.length<=sizeLine):wpAny (model prog w) A (binaryOp .Add (.ref t) (.ref b)) Q E s:=by
 obtain⟨⟨cls,dd,data,sl⟩,ho,hc,n,hd⟩:=id ht
 obtain⟨⟨xw,dd2,data2,sl2⟩,ho2,hc2,n2,hd2⟩:=id hb
 simp only at hc hd hc2 hd2
 subst hc hd hc2 hd2
 have e:vs.toArray++ws.toArray=(vs++ws).toArray:=by simp
 by_cases hw:ws=[]
 ·exact concat_meets ⟨_,ho,rfl⟩ ⟨_,ho2,rfl⟩ noFill_tuple_add seq_tuple_add AV AQ (AF _ _)
   (tuple_addW1 t b vs.toArray ws.toArray n n2 dd dd2 sl sl2 (by simpa using hv) (by simp[hw])) ⟨ho,ho2,h1 hw⟩
 ·refine concat_meets ⟨_,ho,rfl⟩ ⟨_,ho2,rfl⟩ noFill_tuple_add seq_tuple_add AV AQ (AF _ _)
   (tuple_addW2 t b vs.toArray ws.toArray n n2 dd dd2 sl sl2 (by simpa using hv) (by simpa using hw) (by rw[zx,zx];exact hsz)) ⟨ho,ho2,?_⟩
  rw[e]
  exact h2 hw
noncomputable def tD(n d:Nat):Option Int->Nat
 |none=>d
 |some v=>if v < 0 then (v+(n:Int)).toNat else min v.toNat n
def mS(n d:Nat)(hd:d<=n)(o:Option Int):tD n d o<=n:=by
 cases o with
 |none=>exact hd
 |some v=>
  show(if v < 0 then (v+(n:Int)).toNat else min v.toNat n)<=n
  by_cases hv:v < 0
  ·rw[if_pos hv];omega
  ·rw[if_neg hv];exact Nat.min_le_right _ _
def g_(v:Int)(n d:Nat):(if v < 0 then max (v+(n:Int)) 0 else min v (n:Int))=((tD n d (some v):Nat):Int):=by
 show(if v < 0 then max (v+(n:Int)) 0 else min v (n:Int))=(((if v < 0 then (v+(n:Int)).toNat else min v.toNat n):Nat):Int)
 by_cases hv:v < 0
 ·simp only[if_pos hv];omega
 ·simp only[if_neg hv];omega
def gG(lo hi:Option Int)(n:Nat):Builtin.Slice.sliceAdjust lo hi 1 (n:Int)=(((tD n 0 lo:Nat):Int),((tD n n hi:Nat):Int)):=by
 have h1:¬((1:Int) < 0):=by omega
 unfold Builtin.Slice.sliceAdjust
 simp only[h1,Ag]
 refine Prod.ext ?_ ?_
 ·cases lo with
  |none=>rfl
  |some v=>exact g_ v n 0
 ·cases hi with
  |none=>rfl
  |some v=>exact g_ v n n
def gH(i j:Nat):Builtin.Slice.slicePlaces (i:Int) (j:Int) 1=j - i:=by
 unfold Builtin.Slice.slicePlaces
 have h1:(1:Int) > 0:=by omega
 simp only[h1,AD,Int.ediv_one]
 split<;>omega
def dk{v:Value}{o:Option Int}{Q:Option Int->Shared->Prop}(p:IsPart v o)(h:Q o s):wpAny (model prog w) A (Builtin.Slice.slicePartIndex v) Q E s:=by
 cases p with
 |none=>exact slicePart_none h
 |int i t=>exact slicePart_int h
def bf{sl:Addr}{vl vu:Value}{lo hi:Option Int}{n:Nat}{Q:Int×Int×Nat->Shared->Prop}(hs:s.heap.IsSliceOf sl vl vu .none)(pl:IsPart vl lo)(pu:IsPart vu hi)
  (h:Q (((tD n 0 lo:Nat):Int),1,tD n n hi - tD n 0 lo) s):wpAny (model prog w) A (Builtin.Slice.sliceApplied (.ref sl) (pure (n:Int))) Q E s:=by
 obtain⟨os,hos,hcs,hds⟩:=id hs
 unfold Builtin.Slice.sliceApplied Builtin.Slice.sliceFields
 refine zo (zo (Ab hos hds (x:=vl) rfl (zo (Ab hos hds (x:=vu) rfl (zo (Ab hos hds (x:=.none) rfl (zq ?_)))))))
 refine zo (slicePart_none ?_)
 show wpAny _ _ (if ((1:Int) == 0)=true then _ else _) _ _ s
 rw[if_neg (by decide)]
 refine zo (dk pl (zo (dk pu (zo (zq ?_)))))
 show wpAny _ _ (match Builtin.Slice.sliceAdjust lo hi 1 (n:Int)with|(lo,hi)=>pure (lo,(1:Int),Builtin.Slice.slicePlaces lo hi 1)) _ _ s
 rw[gG lo hi n]
 show wpAny _ _ (pure (((tD n 0 lo:Nat):Int),(1:Int),Builtin.Slice.slicePlaces ((tD n 0 lo:Nat):Int) ((tD n n hi:Nat):Int) 1)) _ _ s
 rw[gH]
 exact zq h
def jt(xs:Vw)(i k:Nat):((List.range k).filterMap fun(m:Nat)=>xs[((i:Int)+(m:Int) * 1).toNat]?).toArray=((xs.toList.drop i).take k).toArray:=by
 have e:(fun(m:Nat)=>xs[((i:Int)+(m:Int) * 1).toNat]?)=fun m=>xs[i+m]?:=by
  funext m
  have:((i:Int)+(m:Int) * 1).toNat=i+m:=by omega
  rw[this]
 rw[e]
 have:=pick_run xs i k
 rw[List.filterMap_map]at this
 have e2:((fun x=>xs[x]?) ∘ fun x=>i+x)=fun m=>xs[i+m]?:=rfl
 rw[e2]at this
 rw[this]
def cb{t sl:Addr}{items:Vw}{vl vu:Value}{lo hi:Option Int}{Q:Vq}(ht:IsTup s.heap t items)(hs:s.heap.IsSliceOf sl vl vu .none)(pl:IsPart vl lo)(pu:IsPart vu hi)
  (hw:¬(tD items.size 0 lo=0/\tD items.size items.size hi=items.size))
  (h:Q (.ref s.heap.objs.size) { s with heap:=s.heap.push { cls:=.type "tuple",data:=.seq ((items.toList.drop (tD items.size 0 lo)).take (tD items.size items.size hi - tD items.size 0 lo)).toArray } })
  (hsz:items.size<=sizeLine):wpAny (model prog w) A (getItem (.ref t) (.ref sl)) Q E s:=by
 have vo:sizeOk (.seq ((items.toList.drop (tD items.size 0 lo)).take (tD items.size items.size hi - tD items.size 0 lo)).toArray):=by
  show((items.toList.drop (tD items.size 0 lo)).take (tD items.size items.size hi - tD items.size 0 lo)).toArray.size<=sizeLine
  rw[zx,A1,AE,Array.length_toList]
  omega
 have hj:tD items.size items.size hi<=items.size:=mS _ _ (zw _) hi
 obtain⟨os,hos,hcs,hds⟩:=id hs
 have xx:s.TypeIs (.ref sl) "slice":=⟨os,hos,hcs⟩
 unfold getItem
 try with_reducible refine zZ ?_
 first|refine zo (zq ?_)|skip
 refine zo (wpAny_sequenceKey ht.typeIs (by decide) ?_)
 refine zo (AR (name:=Str.ofString "__getitem__") ht.typeIs zI
  (wpAny_call_entry zI ht.typeIs entry_tuple_getitem ?_ (args_tuple_getitem _ _)))
 show wpAny _ _ (Builtin.Tuple.tupleItemsOf (.ref t) >>= _) _ _ s
 refine zo (tupleItemsOf_ ht ?_)
 refine zo (wpAny_typeOf xx ?_)
 rw[if_pos (by decide)]
 refine zo (bf hs pl pu ?_)
 have hno:¬((((tD items.size 0 lo:Nat):Int) == 0&&(1:Int) == 1&&(tD items.size items.size hi - tD items.size 0 lo) == items.size)=true):=by
  intro q
  rw[z8,z8]at q
  have q1:((tD items.size 0 lo:Nat):Int)=0:=eq_of_beq q.1.1
  have q2:tD items.size items.size hi - tD items.size 0 lo=items.size:=eq_of_beq q.2
  exact hw ⟨by omega,by omega⟩
 show wpAny _ _ (if (((tD items.size 0 lo:Nat):Int) == 0&&(1:Int) == 1&&(tD items.size items.size hi - tD items.size 0 lo) == items.size)=true then _ else _) _ _ s
 rw[if_neg hno,jt]
 first
  |exact zo (m:=Builtin.Tuple.tupleExact _) (z4 (zq ⟨_,rfl,zq h⟩) vo)
  |exact zo (m:=Builtin.Tuple.tupleExact _) (z4 (zo (zq (zq ⟨_,rfl,zq h⟩))) vo)
  |exact zo (zo (m:=Builtin.Tuple.tupleExact _) (z4 (zq (zq ⟨_,rfl,zq h⟩)) vo))
  |exact zo (zo (m:=Builtin.Tuple.tupleExact _) (z4 (zq ⟨_,rfl,zq h⟩) vo))
end
end HT
namespace L2
open PySem PySem.Spec PyProof.Rows
abbrev TO:=St->Hp->(Option Int->Hp->Prop)->Prop
def PO(X:Cx)(e:Option Expr)(t:TO):Prop:=
 ∀(pins:Va) (s:Shared) (σ:St) (H:Hp) (Q:Option Int->Hp->Prop),Inv X pins σ H s->t σ H Q->
  wpAny (model X.prog X.w) X.A (evalPart e X.env) (fun u s'=>∃o H',Inv X pins σ H' s'/\IsPart u o/\Q o H') X.xe s
noncomputable def kZ:TO:=fun _ H Q=>Q none H
noncomputable def pH(t:TE):TO:=fun σ H Q=>t σ H fun x H1=>∃i,x = .int i/\Q (some i) H1
section
variable {X:Cx} {e:Expr} {te:TE} {lo hi:Option Expr} {tl th:TO} {pos p2:Pos}
def k4:PO X none kZ:=by
 intro pins s σ H Q I h
 rw[evalPart_none]
 exact zq ⟨none,H,I,.none,h⟩
def k6(h:PE X e te):PO X (some e) (pH te):=by
 intro pins s σ H Q I hw
 rw[evalPart_some]
 refine aB (h pins s σ H _ I hw) fun u s1 ⟨x,H1,I1,r1,q1⟩=>?_
 obtain⟨i,rfl,q⟩:=q1
 obtain⟨t,rfl⟩:=r1
 exact⟨some i,H1,I1,.int i t,q⟩
def oP(X:Cx)(r:V->Option Int->Option Int->Hp->VK->Prop):Prop:=
 ∀(pins:Va) (s:Shared) (σ:St) (H:Hp) (x:V) (v vl vu:Value) (lo hi:Option Int) (sl:Addr) (Q:VK),Inv X pins σ H s->RelV x v->s.heap.IsSliceOf sl vl vu .none->IsPart vl lo->IsPart vu hi->r x lo hi H Q->
  ∃T id,typeLookup (.type T) "__getitem__" = pure (some (.builtin id))/\s.TypeIs v T/\wpAny (model X.prog X.w) X.A (getItem v (.ref sl)) (EP X pins σ Q) X.xe s
def sB(r:V->Option Int->Option Int->Hp->VK->Prop)(te:TE)(tl th:TO):TE:=fun σ H Q=>te σ H fun x H1=>tl σ H1 fun l H2=>th σ H2 fun u H3=>r x l u H3 Q
def ju{r:V->Option Int->Option Int->Hp->VK->Prop}(hr:oP X r)(he:PE X e te)(hl:PO X lo tl)(hu:PO X hi th):PE X (.Subscript e (.Slice lo hi none p2) pos) (sB r te tl th):=by
 intro pins s σ H Q I h
 refine Subscript_ (aB (he pins s σ H _ I h) fun v s1 ⟨x,H1,I1,r1,q1⟩=>?_)
 refine wpAny_Slice (aB (hl pins s1 σ H1 _ I1 q1) fun vl s2 ⟨l,H2,I2,pl,q2⟩=>aB (hu pins s2 σ H2 _ I2 q2) fun vu s3 ⟨u,H3,I3,pu,q3⟩=>?_)
 rw[evalPart_none]
 refine zq ?_
 have I4:Inv X pins σ H3 { s3 with heap:=s3.heap.push { cls:=.type "slice",data:=.fields #[vl,vu,.none] } }:=I3.kept (t':=s3.toks) fun b ob q=>zp _ q
 obtain⟨T,id,hT,ht,hg⟩:=hr pins { s3 with heap:=s3.heap.push { cls:=.type "slice",data:=.fields #[vl,vu,.none] } } σ H3 x v vl vu l u s3.heap.objs.size Q I4 r1 (Heap.IsSliceOf.new ..) pl pu q3
 show wpAny (model X.prog X.w) X.A (subscriptTail e (.Slice lo hi none p2) v (.ref s3.heap.objs.size)) (EP X pins σ Q) X.xe { s3 with heap:=s3.heap.push { cls:=.type "slice",data:=.fields #[vl,vu,.none] } }
 exact tail_any (ops:=[.ref s3.heap.objs.size,v]) ht hT hg (by with_unfolding_all rfl)
noncomputable def dl(xs:List V)(lo hi:Option Int):List V:=(xs.drop (HT.tD xs.length 0 lo)).take (HT.tD xs.length xs.length hi - HT.tD xs.length 0 lo)
def cN(xs:List V)(lo hi:Option Int):(dl xs lo hi).length<=xs.length:=by
 unfold dl
 rw[A1,AE]
 omega
noncomputable def rb(K:Vo):V->Option Int->Option Int->Hp->VK->Prop:=fun x lo hi H Q=>∃a xs,x = .ref a/\uy K H a xs/\
 ¬(HT.tD xs.length 0 lo=0/\HT.tD xs.length xs.length hi=xs.length)/\∀p,H p=none->Q (.ref p) (upd H p (.tup (dl xs lo hi)))
def mT:oP X (rb X.K):=by
 intro pins s σ H x v vl vu lo hi sl Q I rx hs pl pu h
 obtain⟨a,xs,rfl,hx,hw,q⟩:=h
 cases rx
 obtain⟨its,r,ht,hz⟩:=I.tuple hx
 have hlen:its.toArray.size=xs.length:=by rw[zx];exact r.length.symm
 refine⟨"tuple",_,zI.lookup,ht.typeIs,?_⟩
 refine HT.cb ht hs pl pu (by rw[hlen];exact hw) ?_ (by rw[hlen];exact hz)
 rw[hlen]
 refine⟨.ref s.heap.objs.size,_,I.laid (t':=s.toks) (o:=.tup (dl xs lo hi)) (fun b ob q=>zp _ q) (zw _) ?_,rfl,q _ (I.hok.fresh (zw _))⟩
 exact⟨zH (cN xs lo hi) hz,_,(r.drop (HT.tD xs.length 0 lo)).take (HT.tD xs.length xs.length hi - HT.tD xs.length 0 lo),up.new _ _⟩
def pI(K:Vo):R2:=fun x y H Q=>∃a b xs ys,x = .ref a/\y = .ref b/\uy K H a xs/\uy K H b ys/\xs≠[]/\xs.length+ys.length<=sizeLine/\
 (ys=[]->Q (.ref a) H)/\(ys≠[]->∀p,H p=none->Q (.ref p) (upd H p (.tup (xs++ys))))
def Vals.u5{xs:List V}{us:Vv}(r:Vals xs us):us=[]↔xs=[]:=by
 cases r with
 |nil=>simp
 |cons _ _=>simp
def k7:dc X (binaryOp .Add) (pI X.K):=by
 intro pins s σ H x y v u Q I rx ry h
 obtain⟨a,b,xs,ys,rfl,rfl,ha,hb,hx,hz,q1,q2⟩:=h
 cases rx
 cases ry
 obtain⟨its,r1,p1,_⟩:=I.tuple ha
 obtain⟨its2,r2,p2,_⟩:=I.tuple hb
 refine HT.kY p1 p2 (fun z=>hx (r1.u5.mp z)) (fun z=>⟨.ref a,H,I,rfl,q1 (r2.u5.mp z)⟩) (fun z=>?_) (by rw[<-r1.length,<-r2.length];exact hz)
 refine⟨.ref s.heap.objs.size,_,I.laid (t':=s.toks) (o:=.tup (xs++ys)) (fun b ob q=>zp _ q) (zw _) ?_,rfl,q2 (fun w=>z (r2.u5.mpr w)) _ (I.hok.fresh (zw _))⟩
 exact⟨by rw[zN];exact hz,_,r1.append r2,up.new _ _⟩
end
noncomputable def k8(n:Nat)(i:Int):Option Nat:=if 0<=i then (if i < n then some i.toNat else none) else if -(n:Int)<=i then some (i+n).toNat else none
noncomputable def ul{α:Type}(xs:List α)(i:Int):Option α:=(k8 xs.length i).bind fun j=>xs[j]?
def hG{n:Nat}{i:Int}{j:Nat}(h:k8 n i=some j):seqIndex? i n=some j/\j < n/\-(n:Int)<=i/\i < n:=by
 unfold k8 at h
 by_cases h0:0<=i
 ·rw[if_pos h0]at h
  by_cases h1:i < n
  ·rw[if_pos h1]at h
   have e:i.toNat=j:=zK h
   exact⟨by rw[seqIndex_of h0 h1,e],by omega,by omega,h1⟩
  ·rw[if_neg h1]at h;cases h
 ·rw[if_neg h0]at h
  by_cases h1:-(n:Int)<=i
  ·rw[if_pos h1]at h
   have e:(i+n).toNat=j:=zK h
   exact⟨by rw[seqIndex_neg (by omega) h1,e],by omega,h1,by omega⟩
  ·rw[if_neg h1]at h;cases h
def e9{α:Type}{xs:List α}{i:Int}{v:α}(h:ul xs i=some v):∃j,seqIndex? i xs.length=some j/\xs[j]?=some v/\j < xs.length/\-(xs.length:Int)<=i/\i < xs.length:=by
 unfold ul at h
 cases e:k8 xs.length i with
 |none=>rw[e]at h;cases h
 |some j=>
  rw[e]at h
  obtain⟨h1,h2,h3,h4⟩:=hG e
  exact⟨j,h1,h,h2,h3,h4⟩
def hJ{α:Type}{xs:List α}{j:Nat}{v:α}(h:xs[j]?=some v):ul xs (j:Int)=some v:=by
 have hj:j < xs.length:=(z6.mp h).1
 have e:k8 xs.length (j:Int)=some j:=by
  unfold k8
  rw[if_pos (by omega),if_pos (by omega)];simp
 unfold ul;rw[e];exact h
def e_(b:Expr):Prop:=∀o i,subscripted b false o i=operate [o,i] (getItem o i)
def oQ(X:Cx)(r:R2):Prop:=
 ∀(value slice:Expr) (pins:Va) (s:Shared) (σ:St) (H:Hp) (x y:V) (v u:Value) (Q:VK),Inv X pins σ H s->RelV x v->RelV y u->r x y H Q->
  subscripted slice false v u=operate [v,u] (getItem v u)->wpAny (model X.prog X.w) X.A (subscriptTail value slice v u) (EP X pins σ Q) X.xe s
def qL(X:Cx)(id:String)(r:V->List V->Hp->VK->Prop):Prop:=
 ∀(pins:Va) (s:Shared) (σ:St) (H:Hp) (x:V) (xs:List V) (v:Value) (us:Vv) (Q:VK),Inv X pins σ H s->RelV x v->Vals xs us->r x xs H Q->
  wpAny (model X.prog X.w) X.A (call (.builtin id) (v::us)) (EP X pins σ Q) X.xe s
section
variable {X:Cx} {a b:Expr} {ta tb:TE} {pos:Pos}
def pJ{r:R2}(hr:oQ X r)(ha:PE X a ta)(hb:PE X b tb)(hs:e_ b):PE X (.Subscript a b pos) (pp r ta tb):=by
 intro pins s σ H Q I h
 exact Subscript_ (mJ ha hb I h fun v u s2 x y H2 I2 rx ry q=>hr a b pins s2 σ H2 x y v u Q I2 rx ry q (hs _ _))
def rc(K:Vo):R2:=fun x y H Q=>∃p xs i v,x = .ref p/\y = .int i/\SqL K H p xs/\ul xs i=some v/\Q v H
def rd(K:Vo):R2:=fun x y H Q=>∃p xs i v,x = .ref p/\y = .int i/\uy K H p xs/\ul xs i=some v/\Q v H
def re:R2:=fun x y H Q=>∃z i c,x = .str z/\y = .int i/\z.length<=sizeLine/\ul z.cps.toList i=some c/\Q (.str ⟨#[c]⟩) H
def hU:oQ X (rc X.K):=by
 intro value slice pins s σ H x y v u Q I rx ry h hs
 obtain⟨p,xs,i,z,rfl,rfl,hq,he,q⟩:=h
 cases rx
 obtain⟨t,rfl⟩:=ry
 obtain⟨its,r,pl,hz⟩:=I.list hq
 obtain⟨j,h1,h2,h3,h4,h5⟩:=e9 he
 obtain⟨w,ew,rw'⟩:=r.get h2
 have hl:=r.length
 have hn:=cx
 have fin:EP X pins σ Q w s:=⟨z,H,I,rw',q⟩
 by_cases h0:0<=i
 ·have hj:i.toNat=j:=by
   rw[seqIndex_of h0 h5]at h1
   exact zK h1
  exact item_listR pl.isList h0 (by omega) (by rw[hj];simpa using ew) fin hs
 ·have hj:(i+(its.toArray.size:Int)).toNat=j:=by
   rw[seqIndex_neg (by omega) h4]at h1
   rw[zx,<-hl]
   exact zK h1
  exact subscriptTail_builtinR (x:=w) pl.isList.typeIs slot_list_getitem.lookup
   (wpAny_getItem_list_neg (Q:=fun r s'=>r=w/\EP X pins σ Q r s') pl.isList (by omega) (by rw[zx]<;>omega) (by omega) (by rw[hj];simpa using ew) ⟨rfl,fin⟩) hs
def mU:oQ X (rd X.K):=by
 intro value slice pins s σ H x y v u Q I rx ry h hs
 obtain⟨p,xs,i,z,rfl,rfl,hq,he,q⟩:=h
 cases rx
 obtain⟨t,rfl⟩:=ry
 obtain⟨its,r,pl,hz⟩:=I.tuple hq
 obtain⟨j,h1,h2,h3,h4,h5⟩:=e9 he
 obtain⟨w,ew,rw'⟩:=r.get h2
 have hl:=r.length
 have hn:=cx
 have fin:EP X pins σ Q w s:=⟨z,H,I,rw',q⟩
 exact subscriptTail_builtinR (x:=w) pl.typeIs slot_tuple_getitem.lookup
  (getItem_tuple (j:=j) (Q:=fun r s'=>r=w/\EP X pins σ Q r s') pl (by omega) (by omega) (by rw[zx,<-hl];exact h1) (by simpa using ew) ⟨rfl,fin⟩) hs
def mV:oQ X re:=by
 intro value slice pins s σ H x y v u Q I rx ry h hs
 obtain⟨z,i,c,rfl,rfl,hz,he,q⟩:=h
 obtain⟨t,rfl⟩:=rx
 obtain⟨t',rfl⟩:=ry
 obtain⟨j,h1,h2,h3,h4,h5⟩:=e9 he
 have hl:z.cps.toList.length=z.length:=by simp[Str.length]
 rw[hl]at h1 h4 h5
 have hn:=cx
 exact tail_any (typeIs_str s z t) slot_str_getitem.lookup (getItem_str (c:=c) (by
  have e1:decide (i < -(2 ^ 63:Int))=false:=zU (by omega)
  have e2:decide (i>=2 ^ 63)=false:=zU (by omega)
  rw[e1,e2,Bool.or_false]) (by rw[h1];simpa using h2) ⟨.str ⟨#[c]⟩,H,I.tok _,⟨_,rfl⟩,q⟩) hs
def gI(its:Vv)(n j:Nat)(u:Value):Obj.mapSeq (·.setIfInBounds j u) { cls:=.type "list",data:=.seq its.toArray n }={ cls:=.type "list",data:=.seq (its.set j u).toArray n }:=by
 simp[Obj.mapSeq]
theorem Inv.lst{pins:Va}{σ:St}{H:Hp}{s:Shared}{p:Addr}{xs:List V}(I:Inv X pins σ H s)(h:H p=some (.lst xs)) :
  ∃(its:Vv) (n:Nat),Vals xs its/\s.heap.get? p=some { cls:=.type "list",data:=.seq its.toArray n }/\xs.length<=sizeLine:=by
 obtain⟨z,its,n,r,e⟩:=I.hok p _ h
 exact⟨its,n,r,e,z⟩
def Inv.wu{pins:Va}{σ:St}{H:Hp}{s:Shared}{p:Addr}{xs ys:List V}{its its':Vv}{n n':Nat}{f:Obj->Obj}(I:Inv X pins σ H s)(h:H p=some (.lst xs))
  (ho:s.heap.get? p=some { cls:=.type "list",data:=.seq its.toArray n }) (hf:f { cls:=.type "list",data:=.seq its.toArray n }={ cls:=.type "list",data:=.seq its'.toArray n' }) (r:Vals ys its') (hz:ys.length<=sizeLine) (t:Nat) (ht:1<=t:=by walk_at "t") :
  Inv X pins σ (upd H p (.lst ys)) { s with heap:=s.heap.update p f,toks:=t }:=by
 have e:(s.heap.update p f).get? p=some { cls:=.type "list",data:=.seq its'.toArray n' }:=by
  rw[zS f ho (by rw[hf]<;>rfl),hf]
 refine I.write (x:=p) (e:=p) (by rw[h];trivial) (.inl rfl) (fun b u hb q=>(zB _ _ (Al hb)).trans q) ⟨_,e⟩ ?_
 exact⟨hz,its',n',r,e⟩
noncomputable def pK:V->V->V->Hp->(Hp->Prop)->Prop:=fun o i v H Q=>∃p xs k j,o = .ref p/\i = .int k/\H p=some (.lst xs)/\k8 xs.length k=some j/\Q (upd H p (.lst (xs.set j v)))
def jv:kN X pK:=by
 intro pins s σ H o i v ov iv u Q I ro ri rv h
 obtain⟨p,xs,k,j,rfl,rfl,hp,hj,q⟩:=h
 cases ro
 obtain⟨t,rfl⟩:=ri
 obtain⟨its,n,r,ho,hz⟩:=I.lst hp
 obtain⟨h1,h2,h3,h4⟩:=hG hj
 have hl:=r.length
 have hn:=cx
 have I':Inv X pins σ (upd H p (.lst (xs.set j v))) { s with heap:=s.heap.update p (Obj.mapSeq (·.setIfInBounds j u)) }:=
  I.wu hp ho (gI its n j u) (r.set rv j) (by rw[AJ];exact hz) s.toks
 by_cases h0:0<=k
 ·have hk:k.toNat=j:=by
   rw[seqIndex_of h0 h4]at h1
   exact zK h1
  exact PySem.W.ki_setAt ho h0 (by omega) (by rw[zx,<-hl];exact h4) (by rw[hk];exact⟨_,I',q⟩)
 ·have hk:(k+(its.toArray.size:Int)).toNat=j:=by
   rw[seqIndex_neg (by omega) h3]at h1
   rw[zx,<-hl]
   exact zK h1
  exact PySem.W.ki_setBack ho (by omega) (by rw[zx,<-hl];exact h3) (by omega) (by rw[hk];exact⟨_,I',q⟩)
def fc(lo hi:Option Int)(n:Nat):(sliceBounds lo hi none n).1=((HT.tD n 0 lo:Nat):Int)/\(sliceBounds lo hi none n).2.1=((HT.tD n n hi:Nat):Int)/\(sliceBounds lo hi none n).2.2=1:=by
 refine⟨?_,?_,rfl⟩
 ·cases lo with
  |none=>simp[sliceBounds,HT.tD]
  |some i=>
   simp only[sliceBounds,HT.tD,Option.getD_none,show(1:Int) > 0 by decide,AD]
   by_cases h:i < 0
   ·simp only[h,AD]<;>omega
   ·simp only[h,Ag]<;>omega
 ·cases hi with
  |none=>simp[sliceBounds,HT.tD]
  |some i=>
   simp only[sliceBounds,HT.tD,Option.getD_none,show(1:Int) > 0 by decide,AD]
   by_cases h:i < 0
   ·simp only[h,AD]<;>omega
   ·simp only[h,Ag]<;>omega
def d3(its:Vv)(lo hi:Option Int):slicePick its.toArray lo hi none=((its.drop (HT.tD its.length 0 lo)).take (HT.tD its.length its.length hi - HT.tD its.length 0 lo)).toArray:=by
 obtain⟨h1,h2,h3⟩:=fc lo hi its.toArray.size
 unfold slicePick
 rw[h1,h2,h3]
 simp only[sliceRange_one,pick_run,zx]<;>rfl
noncomputable def rf(K:Vo):V->Option Int->Option Int->Hp->VK->Prop:=fun x lo hi H Q=>∃a xs,x = .ref a/\SqL K H a xs/\∀p,H p=none->Q (.ref p) (upd H p (.lst (dl xs lo hi)))
def hV:oP X (rf X.K):=by
 intro pins s σ H x v vl vu lo hi sl Q I rx hs pl pu h
 obtain⟨a,xs,rfl,hx,q⟩:=h
 cases rx
 obtain⟨its,r,ht,hz⟩:=I.list hx
 have hlen:=r.length
 refine⟨"list",_,slot_list_getitem.lookup,ht.isList.typeIs,?_⟩
 refine wpAny_getItem_list_slice ht.isList hs pl pu .none (by simp) ?_ (by rw[zx]<;>omega)
 rw[d3,<-hlen]
 refine⟨.ref s.heap.objs.size,_,I.laid (t':=s.toks) (o:=.lst (dl xs lo hi)) (fun b ob q=>zp _ q) (zw _) ?_,rfl,q _ (I.hok.fresh (zw _))⟩
 exact⟨zH (cN xs lo hi) hz,_,0,(r.drop (HT.tD xs.length 0 lo)).take (HT.tD xs.length xs.length hi - HT.tD xs.length 0 lo),zz _ rfl⟩
def bp:cL X (.builtin "len") (fun xs H Q=>∃p ys,xs=[.ref p]/\(SqL X.K H p ys\/uy X.K H p ys)/\Q (.int ys.length) H):=by
 intro pins s σ H xs us Q I r h
 obtain⟨p,ys,rfl,hq,q⟩:=h
 obtain⟨u,rfl,rx⟩:=eh r
 cases rx
 have hn:=cx
 rcases hq with hq|hq
 ·obtain⟨its,r',pl,hz⟩:=I.list hq
  have hlen:=r'.length
  exact Calls.call_len_list pl.isList (by simp only[zx]<;>omega) ⟨.int ys.length,H,I.tok _,⟨s.toks+1,by rw[zx,hlen]⟩,q⟩
 ·obtain⟨its,r',pl,hz⟩:=I.tuple hq
  have hlen:=r'.length
  exact len_tuple pl (by simp only[zx]<;>omega) ⟨.int ys.length,H,I.tok _,⟨s.toks+1,by rw[zx,hlen]⟩,q⟩
def fe:cL X (.builtin "len") (fun xs H Q=>∃z,xs=[.str z]/\z.length<=sizeLine/\Q (.int z.length) H):=by
 intro pins s σ H xs us Q I r h
 obtain⟨z,rfl,hz,q⟩:=h
 obtain⟨u,rfl,t,rfl⟩:=eh r
 have hn:=cx
 exact len_str (by omega) ⟨.int z.length,H,I.tok _,⟨_,rfl⟩,q⟩
def qM(K:Vo)(T:String)(x:V)(H:Hp):Prop:=match x with
 | .str _=>T = "str"
 | .int _=>T = "int"
 | .ref p=>(T = "list"/\∃xs,SqL K H p xs)\/(T = "tuple"/\∃o,K.lookup p=some o/\o.cls = .type "tuple"/\o.dict=none) \/
   (T = "dict"/\((∃kvs,H p=some (.dK kvs))\/∃kvs,H p=some (.dT kvs)))\/(T = "set"/\∃S n,H p=some (.set S n))
 |_=>False
def jw{pins:Va}{σ:St}{H:Hp}{s:Shared}{T:String}{x:V}{v:Value}(I:Inv X pins σ H s)(r:RelV x v)(ty:qM X.K T x H) :
  s.TypeIs v T/\∀a,v = .ref a->∃ob,s.heap.get? a=some ob/\ob.dict=none:=by
 cases x with
 |str z=>
  obtain⟨t,rfl⟩:=r
  cases (show T = "str" from ty)
  exact⟨typeIs_str s z t,fun _ e=>nomatch e⟩
 |int i=>
  obtain⟨t,rfl⟩:=r
  cases (show T = "int" from ty)
  exact⟨typeIs_int s i t,fun _ e=>nomatch e⟩
 |ref p=>
  cases r
  rcases ty with⟨rfl,xs,hq⟩|⟨rfl,o,hk,hc,hd⟩|⟨rfl,hk⟩|⟨rfl,S,n,hk⟩
  ·obtain⟨its,_,pl,_⟩:=I.list hq
   refine⟨pl.isList.typeIs,fun a e=>?_⟩
   cases e
   obtain⟨o,n,e,c,hd,_⟩:=pl
   exact⟨o,e,hd⟩
  ·refine⟨⟨o,I.uR p o hk,hc⟩,fun a e=>?_⟩
   cases e
   exact⟨o,I.uR _ o hk,hd⟩
  ·have z:∃o,s.heap.get? p=some o/\o.ExactDict:=by
    rcases hk with⟨kvs,hk⟩|⟨kvs,hk⟩
    ·obtain⟨_,_,_,_,o,_,_,e,ex,_⟩:=I.hok p _ hk
     exact⟨o,e,ex⟩
    ·obtain⟨_,_,_,_,o,_,_,e,ex,_⟩:=I.hok p _ hk
     exact⟨o,e,ex⟩
   obtain⟨o,e,ex⟩:=z
   refine⟨⟨o,e,ex.1⟩,fun a e2=>?_⟩
   cases e2
   exact⟨o,e,ex.2.1⟩
  ·obtain⟨o,_,_,_,e,ex,_⟩:=I.hok p _ hk
   refine⟨⟨o,e,ex.1⟩,fun a e2=>?_⟩
   cases e2
   exact⟨o,e,ex.2.1⟩
 |_=>exact False.elim ty
def rg(K:Vo)(T:String)(r:V->List V->Hp->VK->Prop)(to:TE):TE:=fun σ H Q=>to σ H fun x H1=>qM K T x H1/\r x [] H1 Q
def sC(K:Vo)(T:String)(r:V->List V->Hp->VK->Prop)(to:TE)(t:TA):TE:=fun σ H Q=>to σ H fun x H1=>qM K T x H1/\t σ H1 fun xs H2=>r x xs H2 Q
variable {o e:Expr} {es:List Expr} {to:TE} {t:TA} {name:Str} {apos cpos:Pos} {T id:String} {r:V->List V->Hp->VK->Prop}
def mW(pa:PlainAttrs T)(slot:Slot T name id)(hty:typeOf (.builtin id)=pure (.type "method_descriptor"))(hm:qL X id r)(ho:PE X o to)
  (hbase:attributeBase o name X.env (eval o X.env)=eval o X.env:=by rfl) (hline:(apos.endLine == cpos.line)=true:=by rfl):PE X (.Call (.Attribute o name apos) [] [] cpos) (rg X.K T r to):=by
 intro pins s σ H Q I h
 refine wpAny_Call_method0_late hbase hline (aB (ho pins s σ H _ I h) fun v s1 ⟨x,H1,I1,r1,ty,q1⟩=>?_)
 obtain⟨h1,h2⟩:=jw I1 r1 ty
 exact⟨T,id,pa,slot,hty,h1,h2,Calls.callWith_builtin rfl (PySem.evalArgs_none (hm pins s1 σ H1 x [] v [] Q I1 r1 .nil q1))⟩
def pL(pa:PlainAttrs T)(slot:Slot T name id)(hty:typeOf (.builtin id)=pure (.type "method_descriptor"))(hm:qL X id r)(ho:PE X o to)(ha:PA X (e::es) t)
  (hbase:attributeBase o name X.env (eval o X.env)=eval o X.env:=by rfl)
  (hfew:((backTo cpos (starEach (e::es) X.env)).all (fun x=>!x.1)&&(backToKw cpos (keywordEach [] X.env)).all (fun x=>x.1.isSome)
   && decide ((e::es).length+([]:List Keyword).length+(if ([]:List Keyword).isEmpty then 0 else 1) < 30))=true:=by rfl)
  (hline:(apos.endLine == cpos.line)=true:=by rfl) (hs:starEach (e::es) X.env=(false,eval e X.env)::starEach es X.env:=by rfl) (hplain:(backTo cpos (starEach es X.env)).any (·.1)=false:=by rfl) :
  PE X (.Call (.Attribute o name apos) (e::es) [] cpos) (sC X.K T r to t):=by
 intro pins s σ H Q I h
 refine wpAny_Call_method_late hbase hfew hline rfl (aB (ho pins s σ H _ I h) fun v s1 ⟨x,H1,I1,r1,ty,q1⟩=>?_)
 obtain⟨h1,h2⟩:=jw I1 r1 ty
 refine⟨T,id,pa,slot,hty,h1,h2,?_⟩
 have hA:=ha cpos pins s1 σ H1 _ I1 q1
 rw[hs]at hA ⊢
 refine Calls.callWith_builtin (by show(false || (backTo cpos (starEach es X.env)).any (·.1))=false;rw[hplain]<;>rfl) (Calls.evalArgs_plain ?_)
 exact aB hA fun us s2 ⟨vs,H2,I2,r2,q2⟩=>hm pins s2 σ H2 x vs v us Q I2 r1 r2 q2
end
def sk(X:Cx)(id:String)(r:V->List V->Hp->VK->Prop):Prop:=
 ∀(pins:Va) (s:Shared) (σ:St) (H:Hp) (x:V) (xs:List V) (v:Value) (us:Vv) (Q:VK),Inv X pins σ H s->RelV x v->Vals xs us->r x xs H Q->
  wpAny (model X.prog X.w) X.A (call (.builtin id) (v::us)) (EP X pins σ Q) X.xe s
theorem Vals.one:∀{x:V} {us:Vv},Vals [x] us->∃u,us=[u]/\RelV x u
 |_,_,.cons r .nil=>⟨_,rfl,r⟩
theorem Vals.zero:∀{us:Vv},Vals [] us->us=[]
 |_,.nil=>rfl
theorem Vals.dropLast{xs:List V}{us:Vv}(h:Vals xs us):Vals xs.dropLast us.dropLast:=by
 induction h with
 |nil=>exact .nil
 |cons r t ih=>
  cases t with
  |nil=>exact .nil
  |cons q t'=>exact .cons r ih
theorem Vals.eraseIdx:∀{xs:List V} {us:Vv} (i:Nat),Vals xs us->Vals (xs.eraseIdx i) (us.eraseIdx i)
 |_,_,_,.nil=>.nil
 |_,_,0,.cons _ t=>t
 |_,_,i+1,.cons r t=>.cons r (Vals.eraseIdx i t)
theorem Vals.reverse{xs:List V}{us:Vv}(h:Vals xs us):Vals xs.reverse us.reverse:=by
 induction h with
 |nil=>exact .nil
 |cons r t ih=>rw[AW,AW];exact Vals.append ih (.cons r .nil)
theorem Vals.rep{xs:List V}{us:Vv}(h:Vals xs us):∀k:Nat,Vals (List.replicate k xs).flatten (List.replicate k us).flatten
 |0=>.nil
 |k+1=>by
  rw[z5,z5,An,An]
  exact Vals.append h (Vals.rep h k)
def gJ{α:Type}(l:List α):l.eraseIdx (l.length - 1)=l.dropLast:=by
 induction l with
 |nil=>rfl
 |cons a r ih=>
  cases r with
  |nil=>rfl
  |cons b r=>
   have e:(a::b::r).length - 1=((b::r).length - 1)+1:=by
    have h1:(a::b::r).length=r.length+2:=rfl
    have h2:(b::r).length=r.length+1:=rfl
    omega
   rw[e,List.eraseIdx_cons_succ,ih]
   all_goals rfl
theorem eA{α:Type}:∀(l:List α) (i:Nat),(l.eraseIdx i).length<=l.length
 |[],_=>zw _
 |_::_,0=>AS _
 |_::r,i+1=>A0 (eA r i)
theorem eB(its:Vv):∀(k:Nat) (acc:Vv),
  List.foldl (fun x1 x2=>x1++x2) acc.toArray (List.replicate k its.toArray)=(acc++(List.replicate k its).flatten).toArray
 |0,acc=>by simp
 |k+1,acc=>by
  have e:acc.toArray++its.toArray=(acc++its).toArray:=by simp
  have e2:(acc++its)++(List.replicate k its).flatten=acc++(List.replicate (k+1) its).flatten:=by
   rw[z5,An,List.append_assoc]
  rw[<-e2,<-eB its k (acc++its),<-e,z5,List.foldl_cons]
section
variable {X:Cx} {pins:Va} {σ:St} {H:Hp} {s:Shared} {l b:Addr} {xs ys zs:List V}
def Inv.wJ{its its':Vv}{n:Nat}{f:Array Value->Array Value}{t':Nat}(I:Inv X pins σ H s)(hH:H l=some (.lst xs))
  (e:s.heap.get? l=some { cls:=.type "list",data:=.seq its.toArray n }) (hf:f its.toArray=its'.toArray) (hv:Vals ys its') (hz:ys.length<=sizeLine) (ht:1<=t':=by walk_at "t") :
  Inv X pins σ (upd H l (.lst ys)) { s with heap:=s.heap.update l (Obj.mapSeq f),toks:=t' }:=by
 have q:=PySem.IsL.update e f
 rw[hf]at q
 refine I.write (x:=l) (e:=l) (by rw[hH];exact trivial) (.inl rfl) (fun b' u hb hu=>(zB s.heap (Obj.mapSeq f) (Al hb)).trans hu) ⟨_,q⟩ ?_
 exact⟨hz,its',_,hv,q⟩
def Inv.wK{its:Vv}{t':Nat}(I:Inv X pins σ H s)(hv:Vals ys its)(hz:ys.length<=sizeLine)(ht:1<=t':=by walk_at "t") :
  Inv X pins σ (upd H s.heap.objs.size (.lst ys)) { s with heap:=s.heap.push { cls:=.type "list",data:=.seq its.toArray },toks:=t' }:=
 I.laid (fun _ _ q=>zp _ q) (zw _) ⟨hz,its,0,hv,zz _ rfl⟩
theorem Inv.fresh(I:Inv X pins σ H s):H s.heap.objs.size=none:=I.hok.fresh (zw _)
def Inv.vS(I:Inv X pins σ H s)(hH:H l=some (.lst xs)):xs.length<=sizeLine/\∃(its:Vv) (n:Nat),Vals xs its/\xs.length=its.length/\s.heap.get? l=some { cls:=.type "list",data:=.seq its.toArray n }:=by
 obtain⟨z,its,n,r,e⟩:=I.hok l _ hH
 exact⟨z,its,n,r,r.length,e⟩
def jx{n:Nat}(h:n<=sizeLine):Builtin.List.listTooLong n=false:=by
 unfold Builtin.List.listTooLong
 exact zU (by omega)
end
section
variable {X:Cx}
noncomputable def rh:V->List V->Hp->VK->Prop:=fun x vs H Q=>∃l xs y,x = .ref l/\vs=[]/\H l=some (.lst xs)/\xs[xs.length - 1]?=some y/\Q y (upd H l (.lst xs.dropLast))
def mX:sk X "list.pop" rh:=by
 intro pins s σ H x vs v us Q I rx rv h
 obtain⟨l,xs,y,rfl,rfl,hH,hy,q⟩:=h
 cases rx
 have yD:=rv.zero
 subst yD
 obtain⟨z,its,n,r,hl,e⟩:=I.vS hH
 obtain⟨u,hu,ru⟩:=r.get hy
 have hy':its.toArray[its.toArray.size - 1]?=some u:=by
  show its.toArray[its.length - 1]?=some u
  rw[<-Array.getElem?_toList,<-hl]
  exact hu
 refine call_meets F.slot_list_pop ⟨_,e,rfl⟩ F.entry_list_pop (F.args_list_pop_1 _) (MeetsSeq.list_pop_last l its.toArray n u hy' (by rw[zx];omega)) ⟨e,?_⟩
 refine⟨y,_,I.wJ (its':=its.dropLast) hH e ?_ r.dropLast ?_,ru,q⟩
 ·show its.toArray.eraseIdxIfInBounds (its.toArray.size - 1)=its.dropLast.toArray
  rw[zx,AZ,gJ]
 ·rw[List.length_dropLast]
  omega
noncomputable def mY:V->List V->Hp->VK->Prop:=fun x vs H Q=>∃l xs i k y,x = .ref l/\vs=[.int i]/\H l=some (.lst xs)/\-(2 ^ 63)<=i/\i < 2 ^ 63/\seqIndex? i xs.length=some k/\xs[k]?=some y/\Q y (upd H l (.lst (xs.eraseIdx k)))
def jy:sk X "list.pop" mY:=by
 intro pins s σ H x vs v us Q I rx rv h
 obtain⟨l,xs,i,k,y,rfl,rfl,hH,h1,h2,hk,hy,q⟩:=h
 cases rx
 obtain⟨u,rfl,ru⟩:=rv.one
 obtain⟨t,rfl⟩:=ru
 obtain⟨z,its,n,r,hl,e⟩:=I.vS hH
 obtain⟨w,hw,rw'⟩:=r.get hy
 refine call_meets F.slot_list_pop ⟨_,e,rfl⟩ F.entry_list_pop (F.args_list_pop_2 _ _)
  (MeetsSeq.list_pop_at l its.toArray n i t k w (fitsIndex_both h1 h2) (by rw[zx,<-hl];exact hk) (by rw[<-Array.getElem?_toList];exact hw) (by rw[zx];omega)) ⟨e,?_⟩
 refine⟨y,_,I.wJ (its':=its.eraseIdx k) hH e ?_ (r.eraseIdx k) ?_,rw',q⟩
 ·show its.toArray.eraseIdxIfInBounds k=(its.eraseIdx k).toArray
  rw[AZ]
 ·have:=eA xs k
  omega
def rj:R2:=fun x y H Q=>∃l b xs zs,x = .ref l/\y = .ref b/\H l=some (.lst xs)/\H b=some (.lst zs)/\xs.length+zs.length<=sizeLine/\∀p,H p=none->Q (.ref p) (upd H p (.lst (xs++zs)))
def mZ:dc X (binaryOp .Add) rj:=by
 intro pins s σ H x y v u Q I rx ry h
 obtain⟨l,b,xs,zs,rfl,rfl,hH,hB,hz,q⟩:=h
 cases rx
 cases ry
 obtain⟨z,its,n,r,hl,e⟩:=I.vS hH
 obtain⟨z2,its2,n2,r2,hl2,e2⟩:=I.vS hB
 refine PySem.P.add_list e e2 ?_ (by rw[zx,zx];omega)
 have ea:its.toArray++its2.toArray=(its++its2).toArray:=by simp
 rw[ea]
 exact⟨.ref _,_,I.wK (t':=s.toks) (r.append r2) (by rw[zN];omega),rfl,q _ I.fresh⟩
def rm:R2:=fun x y H Q=>∃l k xs,x = .ref l/\y = .int k/\H l=some (.lst xs)/\-(2 ^ 63)<=k/\k < 2 ^ 63/\xs.length * k.toNat<=sizeLine/\
 ∀p,H p=none->Q (.ref p) (upd H p (.lst (List.replicate k.toNat xs).flatten))
def k9{α:Type}(xs:List α)(k:Nat):(List.replicate k xs).flatten.length=k * xs.length:=by
 induction k with
 |zero=>simp
 |succ k ih=>rw[z5,An,zN,ih,Nat.succ_mul,Nat.add_comm]
def m4:dc X (binaryOp .Mult) rm:=by
 intro pins s σ H x y v u Q I rx ry h
 obtain⟨l,k,xs,rfl,rfl,hH,h1,h2,hz,q⟩:=h
 cases rx
 obtain⟨t,rfl⟩:=ry
 obtain⟨z,its,n,r,hl,e⟩:=I.vS hH
 have hlen:its.toArray.size * k.toNat<=sizeLine:=by rw[zx,<-hl];exact hz
 have hcap:¬its.toArray.size * k.toNat > (2 ^ 63 - 1) / 8:=by
  have:(sizeLine:Nat)<=(2 ^ 63 - 1) / 8:=by decide
  omega
 have hfit:¬(!Builtin.List.listFitsIndex k)=true:=by
  rw[fitsIndex_both h1 h2]
  exact zA
 have wL:¬Builtin.List.listTooLong (its.toArray.size * k.toNat)=true:=by
  rw[jx hlen]
  exact zA
 have hnew:List.foldl (fun x1 x2=>x1++x2) #[] (List.replicate (if its.toArray.isEmpty=true then 0 else k.toNat) its.toArray)=(List.replicate k.toNat its).flatten.toArray:=by
  have f0:∀m:Nat,List.foldl (fun x1 x2=>x1++x2) #[] (List.replicate m its.toArray)=(List.replicate m its).flatten.toArray:=fun m=>by
   have:=eB its m []
   rw[List.nil_append]at this
   exact this
  rw[f0]
  cases its with
  |nil=>simp
  |cons a r'=>rw[if_neg (by simp)]
 refine wpAny_binaryOp_repeat_ref (T:="list") (U:="int") (by decide) ⟨_,e,rfl⟩ (fun s'=>typeIs_int s' k t) noFill_list_mul F.fills_int_mul F.slot_int_rmul repeat_list F.slot_int_index.lookup
  (call_meets F.slot_int_rmul (typeIs_int s k t) F.entry_int_rmul (F.args_int_rmul_2 _ _) (int___rmul___int_list k t l its.toArray n)
   ⟨e,rfl,⟨_,e,rfl⟩,call_meets F.slot_list_mul ⟨_,e,rfl⟩ F.entry_list_mul (F.args_list_mul_2 _ _) (AutoListH.list___mul___list_int_3 l its.toArray n k t hfit hcap wL) ⟨e,?_⟩⟩)
 rw[hnew]
 exact⟨.ref _,_,I.wK (t':=s.toks) (r.rep k.toNat) (by rw[k9,Nat.mul_comm];exact hz),rfl,q _ I.fresh⟩
end
section
variable {κ:Type} [DecidableEq κ]
noncomputable def bY(kvs:List (κ×V))(k:κ):Option V:=(kvs.find? fun kv=>decide (kv.1=k)).map (·.2)
noncomputable def bB(kvs:List (κ×V))(k:κ)(v:V):List (κ×V):=
 if (kvs.any fun kv=>decide (kv.1=k))=true then kvs.map (fun kv=>if kv.1=k then (kv.1,v) else kv) else kvs++[(k,v)]
def ub{p:κ×V}{r:List (κ×V)}{k:κ}(e:p.1=k):bY (p::r) k=some p.2:=by simp[bY,List.find?_cons,e]
def uc{p:κ×V}{r:List (κ×V)}{k:κ}(e:¬p.1=k):bY (p::r) k=bY r k:=by simp[bY,List.find?_cons,e]
theorem dm(k:κ):∀kvs:List (κ×V),(kvs.any fun kv=>decide (kv.1=k))=(bY kvs k).isSome
 |[]=>rfl
 |p::r=>by
  rw[A3]
  by_cases e:p.1=k
  ·simp only[ub e,decide_eq_true e,Bool.true_or,Option.isSome_some]
  ·rw[uc e,zU e,Bool.false_or];exact dm k r
def bC(kvs:List (κ×V))(k:κ)(v:V):(bB kvs k v).length<=kvs.length+1:=by
 unfold bB
 split
 ·rw[zC];omega
 ·rw[zN,zy,AK];omega
def uq.vC{o:Option V}{u:Option Value}(r:uq o u):o.isSome=u.isSome:=by
 cases o with
 |none=>cases u with
  |none=>rfl
  |some _=>exact(show False from r).elim
 |some _=>cases u with
  |none=>exact(show False from r).elim
  |some _=>rfl
def KV.val{kvs:List (κ×V)}{vs:List (κ×Value)}(r:KV kvs vs)(k:κ):uq (bY kvs k) (valueAt vs k):=by
 unfold KV at r
 induction r with
 |nil=>exact True.intro
 |@cons p q ps qs h t ih=>
  obtain⟨h1,h2⟩:=h
  by_cases e:p.1=k
  ·have e':q.1=k:=h1.symm.trans e
   have b:valueAt (q::qs) k=some q.2:=by simp[valueAt,List.find?_cons,e']
   rw[ub e,b];exact h2
  ·have e':¬q.1=k:=fun z=>e (h1.trans z)
   have b:valueAt (q::qs) k=valueAt qs k:=by simp[valueAt,List.find?_cons,e']
   rw[uc e,b];exact ih
theorem KV.any{kvs:List (κ×V)}{vs:List (κ×Value)}(r:KV kvs vs)(k:κ):(kvs.any fun kv=>decide (kv.1=k))=vs.any fun kv=>decide (kv.1=k):=by
 unfold KV at r
 induction r with
 |nil=>rfl
 |cons h t ih=>rw[A3,A3,ih,h.1]
def KV.repl{kvs:List (κ×V)}{vs:List (κ×Value)}(r:KV kvs vs)(k:κ){y:V}{u:Value}(ry:RelV y u) :
  KV (kvs.map fun kv=>if kv.1=k then (kv.1,y) else kv) (vs.map fun kv=>if kv.1=k then (kv.1,u) else kv):=by
 unfold KV at r ⊢
 induction r with
 |nil=>exact .nil
 |@cons p q ps qs h t ih=>
  rw[zF,zF]
  refine .cons ?_ ih
  obtain⟨h1,h2⟩:=h
  by_cases e:p.1=k
  ·rw[if_pos e,if_pos (h1.symm.trans e)];exact⟨h1,ry⟩
  ·rw[if_neg e,if_neg (fun z=>e (h1.trans z))];exact⟨h1,h2⟩
def KV.put{kvs:List (κ×V)}{vs:List (κ×Value)}(r:KV kvs vs)(k:κ){y:V}{u:Value}(ry:RelV y u):KV (bB kvs k y) (stored vs k u):=by
 unfold bB stored
 rw[r.any k]
 by_cases e:(vs.any fun kv=>decide (kv.1=k))=true
 ·rw[if_pos e,if_pos e];exact r.repl k ry
 ·rw[if_neg e,if_neg e];exact Paired.snoc r ⟨rfl,ry⟩
theorem KV.length{kvs:List (κ×V)}{vs:List (κ×Value)}(r:KV kvs vs):kvs.length=vs.length:=Paired.length r
end
def hW{P:Program}{w:World}{k:aA}{u:Value}(r:RelV (kV k) u):(aw P w).is k u=true:=by
 cases k with
 |inl i=>obtain⟨t,e⟩:=(show ∃t,u=Value.int i t from r);subst e;exact fB P w i t
 |inr x=>obtain⟨t,e⟩:=(show ∃t,u=Value.str x t from r);subst e;exact fD P w x t
theorem eC{P:Program}{w:World}:∀{ks:List aA} {us:Vv},Vals (ks.map kV) us->ItemsAre (aw P w) ks us
 |[],_,r=>by rw[AX]at r;cases r;exact .nil
 |k::ks,_,r=>by
  rw[zF]at r
  cases r with
  |cons h t=>exact .cons (hW h) (eC t)
noncomputable abbrev KT(H:Hp):List (List aA×V)->List (List aA×Addr×Value)->Prop:=Paired fun p q=>p.1=q.1/\H q.2.1=some (.tup (p.1.map kV))/\RelV p.2 q.2.2
def KT.val{H:Hp}{kvs:List (List aA×V)}{xs:List (List aA×Addr×Value)}(r:KT H kvs xs)(k:List aA):uq (bY kvs k) ((atKey xs k).map (·.2)):=by
 induction r with
 |nil=>exact True.intro
 |@cons p q ps qs h t ih=>
  obtain⟨h1,_,h2⟩:=h
  by_cases e:p.1=k
  ·have e':q.1=k:=h1.symm.trans e
   have b:atKey (q::qs) k=some q.2:=by simp[atKey,List.find?_cons,e']
   rw[ub e,b];exact h2
  ·have e':¬q.1=k:=fun z=>e (h1.trans z)
   have b:atKey (q::qs) k=atKey qs k:=by simp[atKey,List.find?_cons,e']
   rw[uc e,b];exact ih
def KT.repl{H:Hp}{kvs:List (List aA×V)}{xs:List (List aA×Addr×Value)}(r:KT H kvs xs)(k:List aA){y:V}{u:Value}(ry:RelV y u) :
  KT H (kvs.map fun kv=>if kv.1=k then (kv.1,y) else kv) (xs.map (putAt k u)):=by
 induction r with
 |nil=>exact .nil
 |@cons p q ps qs h t ih=>
  rw[zF,zF]
  refine .cons ?_ ih
  obtain⟨h1,h2,h3⟩:=h
  unfold putAt
  by_cases e:p.1=k
  ·rw[if_pos e,if_pos (h1.symm.trans e)];exact⟨h1,h2,ry⟩
  ·rw[if_neg e,if_neg (fun z=>e (h1.trans z))];exact⟨h1,h2,h3⟩
def KT.put{H:Hp}{kvs:List (List aA×V)}{xs:List (List aA×Addr×Value)}(r:KT H kvs xs)(k:List aA){b:Addr}{y:V}{u:Value}(hb:H b=some (.tup (k.map kV)))(ry:RelV y u) :
  KT H (bB kvs k y) (storedH xs k b u):=by
 have e:(kvs.any fun kv=>decide (kv.1=k))=(atKey xs k).isSome:=by
  rw[dm,(r.val k).vC,Option.isSome_map]
 unfold bB storedH
 rw[e]
 by_cases q:(atKey xs k).isSome=true
 ·rw[if_pos q,if_pos q];exact r.repl k ry
 ·rw[if_neg q,if_neg q];exact Paired.snoc r ⟨rfl,hb,ry⟩
def KT.keeps{H H':Hp}{kvs:List (List aA×V)}{xs:List (List aA×Addr×Value)}(r:KT H kvs xs)(ht:∀b ys,H b=some (.tup ys)->H' b=some (.tup ys)):KT H' kvs xs:=
 Paired.wo r fun _ _ z=>⟨z.1,ht _ _ z.2.1,z.2.2⟩
section
variable {P:Program} {w:World} {H:Hp} {h:Heap} {a:Addr}
def l7{u:HO}(ok:ua P w H h)(e:Rd H a u):ObjOk P w H h a u:=e.ok ok
def hZ{kvs:List (aA×V)}(ok:ua P w H h)(e:Rd H a (.dK kvs)):kvs.length<=sizeLine/\(a == sysModules)=false/\∃vs,KV kvs vs/\h.DictOf (aw P w) a vs:=
 show ObjOk P w H h a (.dK kvs)from l7 ok e
def jz{kvs:List (aA×V)}(ok:ua P w H h)(e:H a=some (.dK kvs)):kvs.length<=sizeLine/\(a == sysModules)=false/\∃vs,KV kvs vs/\h.DictOf (aw P w) a vs:=hZ ok (.inl e)
def bZ{ks:List aA}(ok:ua P w H h)(e:H a=some (.tup (ks.map kV))):(tupleKind (aw P w)).is h ks a:=by
 obtain⟨_,its,r,o,h1,_,h2,n,h3⟩:=(show ObjOk P w H h a (.tup (ks.map kV))from ok a _ e)
 exact⟨o,its.toArray,n,h1,h2,h3,by simpa using eC r⟩
def jA{kvs:List (List aA×V)}(ok:ua P w H h)(e:Rd H a (.dT kvs)):kvs.length<=sizeLine/\(a == sysModules)=false/\
  ∃xs,KT H kvs xs/\h.DictOfH (tupleKind (aw P w)) a xs:=by
 obtain⟨z,y,xs,r,o,es,ep,h1,h2,h3,h4,h5⟩:=(show ObjOk P w H h a (.dT kvs)from l7 ok e)
 refine⟨z,y,xs,r,o,es,ep,h1,h2,h3,h4,fun x hx=>?_,h5⟩
 have all:∀{l:List (List aA×V)} {m:List (List aA×Addr×Value)},KT H l m->∀x∈m,(tupleKind (aw P w)).is h x.1 x.2.1:=by
  intro l m q
  induction q with
  |nil=>intro x hx;exact nomatch hx
  |@cons p q ps qs hq t ih=>
   intro x hx
   rcases zE.mp hx with e|hx
   ·subst e
    exact bZ ok (by rw[<-hq.1];exact hq.2.1)
   ·exact ih x hx
 exact all r x hx
def pM{kvs:List (List aA×V)}(ok:ua P w H h)(e:H a=some (.dT kvs)):kvs.length<=sizeLine/\(a == sysModules)=false/\
  ∃xs,KT H kvs xs/\h.DictOfH (tupleKind (aw P w)) a xs:=jA ok (.inl e)
end
def DGet(H:Hp)(a:Addr)(y:V)(r:Option V):Prop:=
 (∃kvs k,Rd H a (.dK kvs)/\y=kV k/\r=bY kvs k)\/∃kvs k b,Rd H a (.dT kvs)/\y = .ref b/\H b=some (.tup (k.map kV))/\r=bY kvs k
def vT(H:Hp)(a:Addr)(y v:V)(H':Hp):Prop:=
 (∃kvs k,H a=some (.dK kvs)/\y=kV k/\kvs.length < sizeLine/\H'=upd H a (.dK (bB kvs k v))) \/
 ∃kvs k b,H a=some (.dT kvs)/\y = .ref b/\H b=some (.tup (k.map kV))/\kvs.length < sizeLine/\H'=upd H a (.dT (bB kvs k v))
theorem DGet.k{H:Hp}{a:Addr}{kvs:List (aA×V)}{k:aA}(e:H a=some (.dK kvs)):DGet H a (kV k) (bY kvs k):=.inl ⟨kvs,k,.inl e,rfl,rfl⟩
theorem vT.k{H:Hp}{a:Addr}{kvs:List (aA×V)}{k:aA}{v:V}(e:H a=some (.dK kvs))(hl:kvs.length < sizeLine):vT H a (kV k) v (upd H a (.dK (bB kvs k v))):=.inl ⟨kvs,k,e,rfl,hl,rfl⟩
section
variable {X:Cx} {pins:Va} {σ:St} {H:Hp} {s:Shared} {a:Addr} {y v:V} {u r:Value} {o:Option V} {A:Around} {E:Vq}
def Inv.big(I:Inv X pins σ H s):sysModules < s.heap.objs.size:=by
 have h:mainGlobals < s.heap.objs.size:=(I.mod.glob.keeps I.bk).lt
 exact Nat.lt_trans (by decide) h
def eE{Q:Vq}(hu:A.units+1 < cLine)(I:Inv X pins σ H s)(g:DGet H a y (some v))(ry:RelV y u)(h:∀w' s',Inv X pins σ H s'->RelV v w'->Q w' s') :
  wpAny (model X.prog X.w) A (getItem (.ref a) u) Q E s:=by
 rcases g with⟨kvs,k,e,ey,l⟩|⟨kvs,k,b,e,ey,eb,l⟩
 ·subst ey
  obtain⟨z,hd,vs,rel,dd⟩:=hZ I.hok e
  obtain⟨w',hw,rw'⟩:=uq.some_of (v:=v) (o:=valueAt vs k) (by rw[l];exact rel.val k)
  exact wpAny_getItem_of (hW ry) dd.mapOf hw (h w' _ (I.tok _) rw')
 ·subst ey
  cases (show u=Value.ref b from ry)
  obtain⟨z,hd,xs,rel,dd⟩:=jA I.hok e
  obtain⟨w',hw,rw'⟩:=uq.some_of (v:=v) (o:=(atKey xs k).map (·.2)) (by rw[l];exact rel.val k)
  obtain⟨p,hp,hp2⟩:=z0.mp hw
  refine wpAny_getItem_heap (tupleKind_room_in1 hu) (bZ I.hok eb) dd hp ?_
  rw[hp2]
  exact h w' _ (I.tok _) rw'
def fg{h':Heap}{t':Nat}{ob:HO}(I:Inv X pins σ H s)(mu:o6 (H a))(hs:Heap.SameBut a s.heap h')(he:∃q,h'.get? a=some q)(new:ObjOk X.prog X.w (upd H a ob) h' a ob)(ht:1<=t':=by walk_at "t") :
  Inv X pins σ (upd H a ob) { s with heap:=h',toks:=t' }:=
 I.write (x:=a) (e:=a) mu (.inl rfl) (fun b q hb z=>(hs.2 b hb).trans z) he new
def jB{P:Program}{w:World}{H':Hp}{h':Heap}{kvs:List (aA×V)}{vs:List (aA×Value)}(z:kvs.length<=sizeLine)(hd:(a == sysModules)=false)(rel:KV kvs vs)(dd:h'.DictOf (aw P w) a vs) :
  ObjOk P w H' h' a (.dK kvs):=⟨z,hd,vs,rel,dd⟩
def iJ{H':Hp}{Q:Unit->Shared->Prop}(hu:A.units+1 < cLine)(I:Inv X pins σ H s)(g:vT H a y v H')(ry:RelV y u)(rv:RelV v r)(h:∀s',Inv X pins σ H' s'->Q () s') :
  wpAny (model X.prog X.w) A (setItem (.ref a) u r) Q E s:=by
 rcases g with⟨kvs,k,e,ey,l,eH⟩|⟨kvs,k,b,e,ey,eb,l,eH⟩
 ·subst ey eH
  obtain⟨z,hd,vs,rel,dd⟩:=jz I.hok e
  have hz:vs.length<=sizeLine:=by rw[<-rel.length];exact z
  have hl:(bB kvs k v).length<=sizeLine:=by have:=bC kvs k v;omega
  refine wpAny_setItem_pairs (hsz:=hz) (hW ry) dd fun h' wv hs=>h _ ?_
  have he:∃q,h'.get? a=some q:=let ⟨q,_,_,hq,_⟩:=wv;⟨q,hq⟩
  exact fg I (by rw[e];exact True.intro) hs he (jB hl hd (rel.put k rv) wv)
 ·subst ey eH
  cases (show u=Value.ref b from ry)
  obtain⟨z,hd,xs,rel,dd⟩:=pM I.hok e
  have hz:xs.length<=sizeLine:=by rw[<-Paired.length rel];exact z
  have hl:(bB kvs k v).length<=sizeLine:=by have:=bC kvs k v;omega
  refine wpAny_setItem_heap (hsz:=hz) (tupleKind_room_in1 hu) (bZ I.hok eb) dd fun h' wv hs=>h _ ?_
  obtain⟨q,es,ep,hq,h2,h3,h4,_,h5⟩:=wv
  refine fg I (by rw[e];exact True.intro) hs ⟨q,hq⟩ ⟨hl,hd,_,(rel.put k eb rv).keeps fun c ys ec=>?_,q,es,ep,hq,h2,h3,h4,h5⟩
  rw[ac (o5 ec e (fun z=>nomatch z))]
  exact ec
end
section
variable {X:Cx} {pins:Va} {σ:St} {H:Hp} {s:Shared} {a:Addr} {kvs:List (aA×V)} {k:aA} {u:Value} {A:Around} {E:Vq}
def pN{Q:Vq}(I:Inv X pins σ H s)(e:Rd H a (.dK kvs))(h:∀t s',Inv X pins σ H s'->Q (.int kvs.length t) s'):wpAny (model X.prog X.w) A (call (.builtin "len") [.ref a]) Q E s:=by
 obtain⟨z,hd,vs,rel,dd⟩:=hZ I.hok e
 refine call_len_dict hd dd (by rw[<-rel.length];rw[Bd]at z;omega) ?_
 rw[<-rel.length]
 exact h _ _ (I.tok _)
end
def m5(i:Expr):Prop:=∀ov iv,subscripted i false ov iv=operate [ov,iv] (getItem ov iv)
def k_{prog:Program}{w:World}{A:Around}{E:Vq}{s:Shared}{env:Env}{value slice:Expr}{pos:Pos}{T id:String}{Q:Vq}
  (hl:typeLookup (.type T) "__getitem__" = pure (some (.builtin id))) (hs:m5 slice)
  (h:wpAny (model prog w) A (eval value env) (fun o s₁=>wpAny (model prog w) A (eval slice env) (fun i s₂=>s₂.TypeIs o T/\wpAny (model prog w) A (getItem o i) Q E s₂) E s₁) E s) :
  wpAny (model prog w) A (eval (.Subscript value slice pos) env) Q E s:=by
 refine Subscript_ (zL h (fun o s₁ h₁=>zL h₁ (fun i s₂ h₂=>?_) fun _ _ x=>x) fun _ _ x=>x)
 obtain⟨hT,h₂⟩:=h₂
 unfold subscriptTail
 refine zo ?_
 rw[getitemInPython_of_ne hT.not_modules]
 refine zo (wpAny_specialOf hT hl ?_)
 have fin:wpAny (model prog w) A (subscripted slice false o i) (fun r s₃=>wpAny (model prog w) A (letTemporaryGo value o r >>= fun _=>pure r) Q E s₃) E s₂:=by
  rw[hs o i]
  exact wpAny_operating (zL h₂ (fun r s₃ h₃=>zo (wpAny_letTemporaryGo (zq h₃))) fun _ _ x=>x)
 first
  |exact zq (zo fin)
  |exact zo (zq (zo fin))
  |exact zo fin
def cO{X:Cx}{pins:Va}{σ:St}{H:Hp}{s:Shared}{a:Addr}{y:V}{o:Option V}(I:Inv X pins σ H s)(g:DGet H a y o):s.TypeIs (.ref a) "dict":=by
 rcases g with⟨kvs,k,e,_,_⟩|⟨kvs,k,b,e,_,_,_⟩
 ·obtain⟨_,_,vs,_,dd⟩:=hZ I.hok e
  exact dd.typeIs
 ·obtain⟨_,_,xs,_,dd⟩:=jA I.hok e
  exact dd.typeIs
def pO(td ty:TE):TE:=fun σ H Q=>td σ H fun x H1=>ty σ H1 fun y H2=>∃a v,x = .ref a/\DGet H2 a y (some v)/\Q v H2
section
variable {X:Cx} {o i e value:Expr} {pos pos' tpos:Pos} {td ty tv:TE}
def la(hu:X.A.units+1 < cLine)(ho:PE X o td)(hi:PE X i ty)(hs:m5 i):PE X (.Subscript o i pos) (pO td ty):=by
 intro pins s σ H Q I h
 refine k_ PySem.F.slot_dict_getitem.lookup hs (aB (ho pins s σ H _ I h) fun u s1 ⟨x,H1,I1,rx,q1⟩=>aB (hi pins s1 σ H1 _ I1 q1) fun iv s2 ⟨y,H2,I2,ry,a,v,ex,g,q2⟩=>?_)
 subst ex
 obtain rfl:u=Value.ref a:=rx
 exact⟨cO I2 g,eE hu I2 g ry fun w' s3 I3 rw'=>⟨v,H2,I3,rw',q2⟩⟩
end
def fL{P:Program}{w:World}{H:Hp}(h:Heap)(hb:sysModules < h.objs.size):ObjOk P w H (h.push { cls:=.type "dict",data:=.dict #[] }) h.objs.size (.dK []):=
 ⟨Ax _,Ae.mpr (Al (zD hb)),[],.nil,Heap.DictOf.new h⟩
def m6:TE:=fun _ H Q=>∀p,H p=none->Q (.ref p) (upd H p (.dK []))
section
variable {X:Cx} {pos:Pos}
def jC:PE X (.Dict [] [] pos) m6:=fun pins s σ H Q I h=>
 wpAny_Dict_empty ⟨.ref s.heap.objs.size,_,I.laid (a:=s.heap.objs.size) (o:=.dK []) (t':=s.toks) (fun _ _ q=>zp _ q) (zw _) (fL s.heap I.big),rfl,h _ (I.hok.fresh (zw _))⟩
end
noncomputable def fh:List (TE×TE)->St->Hp->(List (V×V)->Hp->Prop)->Prop
 |[],_,H,Q=>Q [] H
 |(tk,tv)::r,σ,H,Q=>tk σ H fun x H1=>tv σ H1 fun y H2=>fh r σ H2 fun ps H3=>Q ((x,y)::ps) H3
noncomputable abbrev VV:List (V×V)->List (Value×Value)->Prop:=Paired fun p q=>RelV p.1 q.1/\RelV p.2 q.2
def pP(X:Cx)(pos:Pos)(keys:List (Option Expr))(values:List Expr)(uL:List (TE×TE)):Prop:=
 ∀(pins:Va) (s:Shared) (σ:St) (H:Hp) (Q:List (V×V)->Hp->Prop),Inv X pins σ H s->fh uL σ H Q->
  wpAny (model X.prog X.w) X.A (evalPairs (pairTrees keys values X.env pos)) (fun vs s'=>∃ps H',Inv X pins σ H' s'/\VV ps vs/\Q ps H') X.xe s
def lb{X:Cx}{pos:Pos}:pP X pos [] [] []:=fun pins s σ H Q I h=>pairTrees_nil_walk ⟨[],H,I,.nil,h⟩
def jD{X:Cx}{pos:Pos}{k v:Expr}{ks:List (Option Expr)}{vs:List Expr}{tk tv:TE}{uL:List (TE×TE)}(hk:PE X k tk)(hv:PE X v tv)(hr:pP X pos ks vs uL) :
  pP X pos (some k::ks) (v::vs) ((tk,tv)::uL):=fun pins s σ H Q I h=>
 pairTrees_cons_walk (aB (hk pins s σ H _ I h) fun u s1 ⟨x,H1,I1,rx,q1⟩=>aB (hv pins s1 σ H1 _ I1 q1) fun w2 s2 ⟨y,H2,I2,ry,q2⟩=>
  aB (hr pins s2 σ H2 _ I2 q2) fun ws s3 ⟨ps,H3,I3,rel,q3⟩=>⟨(x,y)::ps,H3,I3,.cons ⟨rx,ry⟩ rel,q3⟩)
noncomputable def cA(kvs more:List (aA×V)):List (aA×V):=more.foldl (fun acc kv=>bB acc kv.1 kv.2) kvs
def KV.merge:∀{more:List (aA×V)} {rs:List (aA×Value)} {kvs:List (aA×V)} {vs:List (aA×Value)},KV more rs->KV kvs vs->KV (cA kvs more) (merged vs rs):=by
 intro more rs kvs vs r
 unfold KV at r
 induction r generalizing kvs vs with
 |nil=>intro q;exact q
 |@cons p q ps qs h t ih=>
  intro r0
  have e:KV (bB kvs p.1 p.2) (stored vs q.1 q.2):=by
   have:=r0.put p.1 h.2
   rw[<-h.1];exact this
  exact ih e
theorem bR:∀(more kvs:List (aA×V)),(cA kvs more).length<=kvs.length+more.length
 |[],kvs=>by show kvs.length<=kvs.length+0;omega
 |p::r,kvs=>by
  have h1:=bR r (bB kvs p.1 p.2)
  have h2:=bC kvs p.1 p.2
  show(cA (bB kvs p.1 p.2) r).length<=_
  rw[zy];omega
theorem dn{P:Program}{w:World}:∀{kvs:List (aA×V)} {ws:List (Value×Value)},VV (kvs.map fun kv=>(kV kv.1,kv.2)) ws->∃rs,Carries (aw P w) ws rs/\KV kvs rs
 |[],_,r=>by rw[AX]at r;cases r;exact⟨[],True.intro,.nil⟩
 |p::kvs,_,r=>by
  rw[zF]at r
  cases r with
  |@cons a b as bs h t=>
   obtain⟨rs,c,q⟩:=dn (P:=P) (w:=w) t
   obtain⟨b1,b2⟩:=b
   exact⟨(p.1,b2)::rs,⟨hW h.1,rfl,c⟩,.cons ⟨rfl,h.2⟩ q⟩
def pQ(uL:List (TE×TE)):TE:=fun σ H Q=>∀p,H p=none->fh uL σ (upd H p (.dK [])) fun ps H2=>H2 p=some (.dK [])/\∃kvs:List (aA×V),ps=kvs.map (fun kv=>(kV kv.1,kv.2))/\kvs.length<=15/\Q (.ref p) (upd H2 p (.dK (cA [] kvs)))
def lg{X:Cx}{pos:Pos}{keys:List (Option Expr)}{values:List Expr}{uL:List (TE×TE)}(h:pP X pos keys values uL)(hall:keys.all (·.isSome)=true)(hl:keys.length=values.length)(h0:keys≠[])
  (xy:keys.length<=15):PE X (.Dict keys values pos) (pQ uL):=by
 intro pins s σ H Q I q
 have hn:=I.hok.fresh (zw s.heap.objs.size)
 have I1:=I.laid (a:=s.heap.objs.size) (o:=.dK []) (h':=s.heap.push { cls:=.type "dict",data:=.dict #[] }) (t':=s.toks) (fun _ _ q=>zp _ q) (zw _) (fL s.heap I.big)
 refine wpAny_Dict_walk (knd:=aw X.prog X.w) hall hl h0 xy (aB (h pins _ σ _ _ I1 (q _ hn)) fun ws s2 ⟨ps,H2,I2,rel,e,kvs,ep,lk,q2⟩=>?_)
 subst ep
 obtain⟨rs,c,rk⟩:=dn (P:=X.prog) (w:=X.w) rel
 obtain⟨z,hd,vs0,r0,dd⟩:=jz I2.hok e
 cases r0
 refine⟨rs,c,dd,fun h' wv hs=>⟨.ref s.heap.objs.size,_,?_,rfl,q2⟩⟩
 have hz:(cA [] kvs).length<=sizeLine:=by
  have h1:=bR kvs []
  rw[AK]at h1
  rw[Bd];omega
 have he:∃q,h'.get? s.heap.objs.size=some q:=let ⟨q,_,_,hq,_⟩:=wv;⟨q,hq⟩
 exact fg I2 (by rw[e];exact True.intro) hs he (jB hz hd (rk.merge .nil) wv)
end L2
namespace Att
open PySem PySem.W PySem.Calls PyProof.Rows
def cV{P:Params}{h:Heap}:∀(ns:Vu) (vs:Vv),WellAll P h vs (ns.map WData.int)->IntsAre vs ns:=by
 intro ns
 induction ns with
 |nil=>
  intro vs w
  rw[AX]at w
  cases w
  exact .nil
 |cons n ns ih=>
  intro vs w
  rw[zF]at w
  cases w with
  |cons a b=>
   cases a
   exact .cons _ _ (ih _ b)
def iK{l:OpenLaw}{n:Nat}(hn:l.most=some n){P:Params}{h:Heap}{args:List WData}{vals:Vv}
  (hpre:l.row.toRowW.claim.pre args=true) (hwl:WellAll P h vals args) :
  ∃a vs ns,vals=[Value.ref a]/\args=[WData.list (ns.map WData.int)]/\h.get? a=some { cls:=.type "list",data:=.seq vs.toArray }/\IntsAre vs ns/\ns.length<=n:=by
 have hsh:WShape.hasAll [] args [.list .int]=true:=(pre_splitW hpre).1
 have hc:l.pre.holds [] { args:=args }=true:=(pre_splitW hpre).2
 obtain⟨d,r,rfl,h1,h2⟩:=hasAllW_cons hsh
 obtain rfl:=hasAllW_nil h2
 obtain⟨xs,rfl,h3⟩:=hasW_list h1
 obtain⟨ns,rfl⟩:=items_int h3
 have hlen:ns.length<=n:=by
  unfold OpenLaw.pre at hc
  have h4:(WTm.not (.lt (.lit (.int (n:Int))) (.len (.arg 0)))).holds [] { args:=[.list (ns.map .int)] }=true:=by
   have h4:=(holds_andW hc).1
   rw[hn]at h4
   exact h4
  have h5:=condW_of h4 (w_not (w_lt w_lit (w_len_list (w_arg rfl))))
  rw[zC]at h5
  refine Nat.le_of_not_lt fun q=>?_
  have q':(n:Int) < ((ns.length:Nat):Int):=by omega
  first
   |(rw[decide_eq_true q']at h5;exact absurd h5 (by decide))
   |(simp at h5;omega)
 cases hwl with
 |cons w1 w2=>
  cases w2
  cases w1 with
  |list ho hall=>exact⟨_,_,ns,rfl,rfl,ho,cV ns _ hall,hlen⟩
def iL(l:OpenLaw)(args:List WData):l.row.toRowW.claim.post args (.bool true) args=true:=
 postW_of (r:=l.row.toRowW) (X:=(true == true))
  (show WShape.has [] (.bool true) .bool=true by first|rfl|decide|simp[WShape.has,WShape.arms,WShape.armsAll])
  (show(WTm.eq .res (.lit (.bool true))).value [] { args:=args,res:=some (.bool true),after:=args }=some (.bool (true == true))from w_eq_bool (w_res rfl) w_lit) rfl
def fM{l:OpenLaw}{n:Nat}{q:Program}{loose:Vs}{XP:(Vr)->Heap->Prop}{YP:World->Heap->Prop}{d:DefRec}
  (hn:l.most=some n) (hdf:d.params.defaults=[])
  (call:∀(w:World) (s₀ s₁:Shared) (mg mb:Vr) (fa:Addr) (o:Obj) (pm cd doc:Value) (a:Addr) (vs:Vv) (ns:Vu),
   Ground q loose [] XP w s₀ mg mb s₁.heap->YP w s₁.heap->
   s₁.heap.get? fa=some o->o.data = .func (docDef d.name d.params d.body d.scope pm cd doc)->s₁.heap.CodeRec cd d.name->mg d.name=some (.ref fa)->
   s₁.heap.get? a=some { cls:=.type "list",data:=.seq vs.toArray }->IntsAre vs ns->ns.length<=n->s₁.gens=#[]->
   codeAny (model l.prog w) callerA (.call (.ref fa) ⟨[.ref a],[]⟩) (fun r s'=>r = .ok (.ret (.bool true))/\OldK s₁.heap s'.heap/\s'.os=s₁.os/\AllBare s'.gens) s₁) :
  WalkO q loose XP YP l.row.toRowW d [] (fun f vs=>PySem.call f vs):=by
 intro w s₀ s₁ mg mb G Y fa o pm cd doc dV kV ho hd hcd hD hmg hg args vals as hpre hlay hrd hwl hlo
 obtain rfl:dV = .none:=Dflts.none hD hdf
 obtain rfl:kV = .none:=Dflts.noKw hD
 obtain⟨a,vs,ns,rfl,rfl,hobj,hints,hlen⟩:=iK hn hpre hwl
 refine enter_call (AB (call w s₀ s₁ mg mb fa o pm cd doc a vs ns G Y ho (fd_plain hd) hcd hmg hobj hints hlen hg) fun r s' hq=>?_)
 obtain⟨rfl,h2,h3,h4⟩:=hq
 exact⟨.inl ⟨.bool true,.bool true,[],rfl,fun _=>rfl,.bool true,iL l _,fun _=>⟨List.Pairwise.nil,fun _ hm=>(nomatch hm)⟩⟩,h2,h3,h4⟩
end Att
namespace L2
open PySem PySem.Spec PyProof.Rows
theorem eF:∀{vs:Vv} {ns:Vu},IntsAre vs ns->Vals (ns.map V.int) vs
 |_,_,.nil=>.nil
 |_,_,.cons n t h=>.cons ⟨t,rfl⟩ (eF h)
def lh(H:Hp):Prop:=∀b,H b=none\/∃o xs,H b=some (.frz o (.lst xs))
def jE{P:Program}{w:World}{K:Vo}{mg mb:Vr}{CX:jp}{k:Nat}{fa a:Addr}{fd:FuncData}{x:Str}{sp:Sp}{s₁:Shared}{vs:Vv}{ns:Vu}
  (KX:K.In s₁.heap) (hns:s₁.heap.Ns mainGlobals mg) (hb:s₁.heap.Ns builtinsNs mb) (yE:∀x:Str,x ≠ "__name__"->mb x=bootBuiltins x) (hlim:s₁.heap.NoLimit) (hg:s₁.gens=#[])
  (ha:s₁.heap.get? a=some { cls:=.type "list",data:=.seq vs.toArray }) (hi:IntsAre vs ns) (hl:ns.length<=sizeLine) (hr:cz k callerA)
  (F:∀base:Heap,K.In base->base.Ns mainGlobals mg->eZ P w K mg base CX k fa fd [x] sp) (hbind:∀(s:Shared) (u:Value),BindsTo s fd ⟨[u],[]⟩ [(x,u)]) (hfl:FL fd [x])
  (wk:∀H:Hp,lh H->SqL K H a (ns.map V.int)->sp [.ref a] H (fun v _=>v = .bl true) fun _ _ _=>False)
  (xz:∀H e s',CX [] H s₁ (fun _ _ _=>False) e s'->False) :
  codeAny (model P w) callerA (.call (.ref fa) ⟨[.ref a],[]⟩) (fun r s'=>r = .ok (.ret (.bool true))/\OldK s₁.heap s'.heap/\s'.os=s₁.os/\AllBare s'.gens) s₁:=by
 have rv:=eF hi
 have xA:=hi.length
 -- from an abstract heap in which nothing but the script may be tracked
 have core:∀H:Hp,lh H->SqL K H a (ns.map V.int)->ua P w H s₁.heap->(∀b,H b≠none->b=a)->(H a≠none->K.lookup a=none)->
   codeAny (model P w) callerA (.call (.ref fa) ⟨[.ref a],[]⟩) (fun r s'=>r = .ok (.ret (.bool true))/\OldK s₁.heap s'.heap/\s'.os=s₁.os/\AllBare s'.gens) s₁:=by
  intro H hO hS hok hA hK
  have vp:∀{b:Addr} {o:Obj},s₁.heap.get? b=some o->H b=none->(eY s₁.heap H).get? b=some o:=fun e n=>jf e n
  have wI:∀{b:Addr} {o:Obj} {es:Array DictEntry} {ep:Nat},s₁.heap.get? b=some o->o.data = .dict es ep->H b=none:=fun{b o es ep} e d=>by
   cases q:H b with
   |none=>rfl
   |some u=>
    have e':b=a:=hA b (by rw[q];simp)
    subst e'
    rw[ha]at e;cases e
    have d':Data.seq vs.toArray _=Data.dict es ep:=d
    cases d'
  have w_:∀{b:Addr} {m:Vr},s₁.heap.Ns b m->(eY s₁.heap H).Ns b m:=fun{b m} ⟨o,es,ep,e,d,r⟩=>⟨o,es,ep,vp e (wI e d),d,r⟩
  have x_:K.In (eY s₁.heap H):=fun b o e=>vp (KX b o e) (by
   cases q:H b with
   |none=>rfl
   |some u=>
    have e':b=a:=hA b (by rw[q];simp)
    subst e'
    rw[hK (by rw[q];simp)]at e;cases e)
  have hM:Mod K mg (eY s₁.heap H):=⟨x_,w_ hns,⟨mb,w_ hb,yE⟩,let ⟨mc,h1,h2⟩:=hlim;⟨mc,w_ h1,h2⟩⟩
  have e0:vg P w K mg (eY s₁.heap H) callerA [] s₁ H:=⟨rfl,hM,fun b o e=>kH e,Nat.le_of_eq (iB _ _),trivial,fun b hb=>absurd (show b∈([]:List Addr)from hb) (by simp),hok,.of_eq hg,.inl rfl⟩
  refine AB ((F _ x_ (w_ hns)).run callerA [] s₁ H ⟨[.ref a],[]⟩ [.ref a] [.ref a] _ _ hr (.inr hfl) e0 (hbind s₁ (.ref a)) (.cons rfl .nil) (wk H hO hS)) fun r s' h=>?_
  cases r with
  |error e=>exact(xz H e s' h).elim
  |ok fl=>
   cases fl with
   |next=>exact False.elim h
   |brk=>exact False.elim h
   |cont=>exact False.elim h
   |ret u=>
    obtain⟨v,H',os,bare,un,xB,r',q⟩:=h
    have q':v = .bl true:=q
    subst q'
    obtain rfl:u=Value.bool true:=r'
    refine⟨rfl,OldK.of_keep fun b o e=>?_,os,bare⟩
    cases q:H b with
    |none=>exact un.keep b o e q (by intro z;exact absurd (show b∈([]:List Addr)from z) (by simp)) (by simp)
    |some u=>
     rcases hO b with z|⟨ob,xs,z⟩
     ·rw[q]at z;cases z
     ·have z2:=un.ur b ob _ z
      obtain⟨e1,_⟩:=hok b _ z
      obtain⟨e2,_⟩:=xB b _ z2
      rw[e]at e1;cases e1
      exact e2
 cases hk:K.lookup a with
 |some o=>
  -- the script is one of the module's own objects
  have e:=KX a o hk
  rw[ha]at e
  cases e
  refine core (fun _=>none) (fun _=>.inl rfl) (.inr ⟨_,vs.toArray,_,hk,rfl,rfl,rfl,by rw[zx,xA];exact hl,by simpa using rv⟩) (fun b u z=>by have z':(none:Option HO)=some u:=z;cases z') (fun b z=>absurd rfl z) fun z=>absurd rfl z
 |none=>
  refine core (fun b=>if b=a then some (.frz { cls:=.type "list",data:=.seq vs.toArray } (.lst (ns.map V.int))) else none) (fun b=>?_) (.inl (.inr ⟨{ cls:=.type "list",data:=.seq vs.toArray },if_pos rfl⟩)) (fun b u z=>?_) (fun b z=>?_) fun _=>hk
  ·by_cases hb:b=a
   ·exact .inr ⟨_,_,if_pos hb⟩
   ·exact .inl (if_neg hb)
  ·by_cases hb:b=a
   ·have z':=(if_pos hb).symm.trans z
    cases z'
    subst hb
    exact⟨ha,by rw[zC];exact hl,vs,_,rv,ha⟩
   ·have z':=(if_neg hb).symm.trans z
    cases z'
  ·by_cases hb:b=a
   ·exact hb
   ·exact absurd (if_neg hb) z
def li{l:PySem.W.OpenLaw}{n k:Nat}{q:Program}{loose:Vs}{XP:(Vr)->Heap->Prop}{YP:World->Heap->Prop}{d:DefRec}{K:Params->PySem.W.Frag}{CX:World->jp}{sp:World->Sp}{x:Str}
  (hn:l.most=some n) (hn2:n<=sizeLine) (hdf:d.params.defaults=[]) (hr:cz k callerA)
  (hY:∀(w:World) (h:Heap),YP w h->(K w.params).In h)
  (F:∀(w:World) (mg:Vr) (fa:Addr) (h:Heap),(K w.params).In h->h.Ns mainGlobals mg->mg d.name=some (.ref fa)->
   ∃fd:FuncData,FL fd [x]/\(∀(s:Shared) (u:Value),BindsTo s fd ⟨[u],[]⟩ [(x,u)])/\
    ∀base:Heap,(K w.params).In base->base.Ns mainGlobals mg->eZ l.prog w (K w.params) mg base (CX w) k fa fd [x] (sp w))
  (wk:∀(w:World) (H:Hp) (a:Addr) (ns:Vu),ns.length<=n->lh H->SqL (K w.params) H a (ns.map V.int)->sp w [.ref a] H (fun v _=>v = .bl true) fun _ _ _=>False)
  (xz:∀(w:World) (H:Hp) (s:Shared) (e:Value) (s':Shared),CX w [] H s (fun _ _ _=>False) e s'->False) :
  PySem.W.WalkO q loose XP YP l.row.toRowW d [] (fun f vs=>PySem.call f vs):=by
 refine Att.fM hn hdf fun w s₀ s₁ mg mb fa o pm cd doc a vs ns G Y ho hd hcd hmg hobj hints hlen hg=>?_
 have KX:=hY w _ Y
 obtain⟨fd,hfl,hb,hF⟩:=F w mg fa _ KX G.T.g hmg
 exact jE KX G.T.g G.T.b G.T.builtins G.T.nolimit hg hobj hints (zH hlen hn2) hr hF hb hfl (fun H hO hS=>wk w H a ns hlen hO hS) fun H e s'=>xz w H s₁ e s'
noncomputable def aT(s:Stmt):Arguments:=match s with
 | .FunctionDef _ a _ _ _ _ _ _ _ _=>a
 |_=>{ posonlyargs:=[],args:=[],vararg:=none,kwonlyargs:=[],kw_defaults:=[],kwarg:=none,defaults:=[] }
noncomputable def aq(s:Stmt):List Stmt:=match s with
 | .FunctionDef _ _ b _ _ _ _ _ _ _=>b
 |_=>[]
noncomputable def ae(s:Stmt):Scope:=match s with
 | .FunctionDef _ _ _ _ _ _ sc _ _ _=>sc
 |_=>{ kind:=.function,names:=[],isGenerator:=false,isCoroutine:=false }
noncomputable abbrev fi:jp:=fun _ _ _ _ _ _=>False
noncomputable abbrev E0:XK:=fun _ _ _=>False
def pR{X:Cx}:gF fi X E0:=fun _ _ _ _ _ _ _ _ h=>h.elim
structure vK (K:Vo) (x qual:Str) (st:Stmt) (f:Addr) (fd:FuncData):Prop where
 ex:∃(oc:Value) (od:Option Addr) (kV doc pm:Value) (an:Option Addr) (cdv ct:Value) (osl:Array (Option Value)),
  fd=PySem.W.fnOf x qual (aT st) (aq st) (ae st) .none kV doc pm an cdv ct/\K.lookup f=some ⟨oc,od,.func fd,osl⟩/\PySem.W.codeIn K cdv qual=true
 kp:PySem.W.keepIn K (.ref f)=true
section
variable {P:Program} {w:World} {K:Vo} {mg:Vr} {base:Heap}
def vK.ok{cm:Bool}{x qual:Str}{st:Stmt}{f:Addr}{fd:FuncData}{N ps:Vs}{k:Nat}{sp:Sp}(F:vK K x qual st f fd)(S:aJ N ps (ae st))(len:∀vs H Q E,sp vs H Q E->vs.length=ps.length)
  (hbody:∀(cdv:Value) (A:Around) (outer:List Env) (s:Shared) (H:Hp) (vs:List V) (Q:VK) (E:XK),RoomG cm k (A.deeper (envOfC qual (ae st) s.heap.objs.size f cdv))->sp vs H Q E->
   ∃t,uS (bQ cm fi P w K mg base N qual (ae st) f cdv A outer s H E).v7 (aq st) t/\t { nx:=fun _ H'=>Q .non H',rt:=Q } (bA N vs) H):bz cm P w K mg base fi (k+1) f fd ps sp:=by
 obtain⟨oc,od,kV,doc,pm,an,cdv,ct,osl,rfl,lk,hcd⟩:=F.ex
 refine l6 lk hcd S len fun A outer s H vs Q E hr wk=>?_
 obtain⟨t,h,q⟩:=hbody cdv A outer s H vs Q E hr wk
 exact⟨t,h.v7,q⟩
def vK.binds{x qual:Str}{st:Stmt}{f:Addr}{fd:FuncData}{ps:Vs}(F:vK K x qual st f fd)
  (h:∀(kV doc pm:Value) (an:Option Addr) (cdv ct:Value) (us:Vv),us.length=ps.length->bindArgs (PySem.W.fnOf x qual (aT st) (aq st) (ae st) .none kV doc pm an cdv ct) ⟨us,[]⟩=pure (ps.zip us)):Binds K fd ps []:=by
 obtain⟨oc,od,kV,doc,pm,an,cdv,ct,osl,rfl,lk,hcd⟩:=F.ex
 exact .all (h kV doc pm an cdv ct)
def fj{x qual:Str}{st:Stmt}{f:Addr}{oc:Value}{od an:Option Addr}{osl:Array (Option Value)}{kV doc pm cdv ct:Value}(l:K.lookup f=some ⟨oc,od,.func (PySem.W.fnOf x qual (aT st) (aq st) (ae st) .none kV doc pm an cdv ct),osl⟩)
  (c:PySem.W.codeIn K cdv qual=true) (k:PySem.W.keepIn K (.ref f)=true):vK K x qual st f (PySem.W.fnOf x qual (aT st) (aq st) (ae st) .none kV doc pm an cdv ct):=⟨⟨oc,od,kV,doc,pm,an,cdv,ct,osl,rfl,l,c⟩,k⟩
end
def bg{n:Nat}(h:n<=1000):n < sizeLine:=Nat.lt_of_le_of_lt h (by decide)
section
variable {X:Cx}
def pv(i:Nat){x:Str}{pos:Pos}(hN:X.N[i]?=some x:=by rfl)(hv:o7 X.env.scope x:=by first|exact Or.inl rfl|exact Or.inr (Or.inl rfl)|exact Or.inr (Or.inr rfl))(hd:(x == ("__debug__":Str))=false:=by decide)
  (hcd:(x == ("__classdict__":Str))=false:=by decide):PE X (.Name x pos) (b8 i):=jg hN hv hd hcd
def iM:cL X (.builtin "len") (fun xs H Q=>∃a kvs,xs=[V.ref a]/\H a=some (.dK kvs)/\Q (.int kvs.length) H):=by
 intro pins s σ H xs us Q I r h
 obtain⟨a,kvs,rfl,ha,q⟩:=h
 obtain⟨u,rfl,ru⟩:=eh r
 cases ru
 exact pN I (.inl ha) fun t s' I'=>⟨.int kvs.length,H,I',⟨t,rfl⟩,q⟩
end
end L2
set_option maxHeartbeats 4000000
namespace L2
open PySem PySem.Spec PyProof.Rows
def d4{prog:Program}{w:World}{A:Around}{R:Result->Shared->Prop}{s:Shared}{elt target iter:Expr}{ifs:List Expr}{scope:Scope}{pos:Pos}{it acc:Value}{env:Env}(I:Nat->Shared->Prop)
  (turn:∀n s,I n s->wpAny (model prog w) A (pyNext it) (fun r s₁=>match r with
   |none=>R (.ok .next) s₁
   |some v=>wpAny (model prog w) A (letOwnedTupleGo target it v) (fun _ s₁'=>wpAny (model prog w) A (assign target env v) (fun _ s₂=>
     wpAny (model prog w) A (forIn ifs true fun c r=>if r=true then do let ok <-isTrue c env (eval c env);pure (ForInStep.yield ok) else pure (ForInStep.yield r)) (fun ok s₃=>
      if ok=true then wpAny (model prog w) A (eval elt env) (fun x s₄=>
       wpAny (model prog w) A (call (.builtin "list.append") [acc,x]) (fun _ s₅=>∃m,m < n/\I m s₅) (fun _ _=>False) s₄) (notedBy (model prog w) A env fun x s'=>R (.error x) s') s₃
      else ∃m,m < n/\I m s₃) (fun _ _=>False) s₂) (fun _ _=>False) s₁') (fun _ _=>False) s₁) (fun _ _=>False) s)
  (n:Nat) (h:I n s) :
  codeAny (model prog w) A (.compLoop (.ListComp elt [⟨target,iter,ifs,0⟩] scope pos) 0 it acc env) R s:=by
 refine codeAny_loop rfl I (fun n s hI=>?_) n h
 show wpAny _ A ((compTurn (.ListComp elt [⟨target,iter,ifs,0⟩] scope pos) 0 it acc env).onRaise (fun x=>do noteFrame x env;theTreesLotGoes x)) _ _ s
 refine wpAny_noted ?_
 rw[compTurn_list]
 refine zo (Au (zo (zL (turn n s hI) (fun r s₁ h₁=>?_) fun _ _ h'=>h'.elim)))
 cases r with
 |none=>exact zq h₁
 |some v=>
  refine zo (zL h₁ (fun _ s₁' h₁'=>?_) fun _ _ h'=>h'.elim)
  refine zo (zL h₁' (fun _ s₂ h₂=>zo (zL h₂ (fun ok s₃ h₃=>?_) fun _ _ h'=>h'.elim)) fun _ _ h'=>h'.elim)
  cases ok with
  |false=>exact zq ⟨rfl,h₃⟩
  |true=>
   exact zo (zo (zL h₃ (fun x s₄ h₄=>zo (zL h₄ (fun _ s₅ h₅=>zq (zq ⟨rfl,h₅⟩)) fun _ _ h'=>h'.elim)) fun _ _ h'=>h'))
structure Bk where
 C:Addr
 s:Shared
 H:Hp
 fp:List Addr
 pn:Va
noncomputable def aC(env:Env)(fs:Vs):List (Str×Addr):=fs.map fun x=>(x,(env.cells.lookup x).getD 0)
noncomputable abbrev Cx.tT(X:Cx)(N:Vs)(scope:Scope)(fs:Vs)(B:Bk):Cx:=
 { X with N:=N,s₀:=B.s,H₀:=B.H,env:=compEnvC scope (aC X.env fs) B.C X.env,outer:=X.stack,ex:=B.fp,fn:=fun _=>false,pn:=B.pn,xe:=fun _ _=>False }
noncomputable def aD(env:Env):List Str->Prop
 |[]=>True
 |x::r=>(∃c,env.cells.lookup x=some c)/\aD env r
theorem cP{env:Env}:∀{fs:Vs},aD env fs->∀{x:Str} {c:Addr},(aC env fs).lookup x=some c->env.cells.lookup x=some c
 |[],_,x,c,h=>by cases h
 |y::r,k,x,c,h=>by
  obtain⟨⟨d,hd⟩,k⟩:=k
  have h':List.lookup x ((y,(env.cells.lookup y).getD 0)::aC env r)=some c:=h
  rw[Ao]at h'
  cases e:x == y with
  |true=>
   rw[e]at h'
   have e':x=y:=by simpa using e
   subst e'
   rw[hd]at h'
   rw[hd]
   exact h'
  |false=>
   rw[e]at h'
   exact cP k h'
noncomputable def hasB(names:List (Str×NameKind))(cl:List (Str×Addr)):Bool:=names.all fun y=>(y.2 != .cell&&y.2 != .free) || (cl.lookup y.1).isSome
def jF{names:List (Str×NameKind)}{cl:List (Str×Addr)}{x:Str}{k:NameKind}(h:hasB names cl=true)(e:names.lookup x=some k)(hk:k = .cell\/k = .free):∃c,cl.lookup x=some c:=by
 have hm:(x,k)∈names:=Af e
 have q:=A2.mp h _ hm
 have z:(cl.lookup x).isSome=true:=by
  rcases hk with rfl|rfl
  ·simpa using q
  ·simpa using q
 exact Option.isSome_iff_exists.mp z
noncomputable def tH(env:Env)(scope:Scope)(cl:List (Str×Addr)):List Str->Prop
 |[]=>True
 |x::r=>((env.scope.names.lookup x=some .cell\/env.scope.names.lookup x=some .free)/\((relabel scope env).names.lookup x=some .cell\/(relabel scope env).names.lookup x=some .free)/\cl.lookup x=env.cells.lookup x)/\tH env scope cl r
theorem tH.mem{env:Env}{scope:Scope}{cl:List (Str×Addr)}:∀{l:Vs},tH env scope cl l->∀x∈l,
  (env.scope.names.lookup x=some .cell\/env.scope.names.lookup x=some .free)/\((relabel scope env).names.lookup x=some .cell\/(relabel scope env).names.lookup x=some .free)/\cl.lookup x=env.cells.lookup x
 |[],_,x,h=>nomatch h
 |y::r,k,x,h=>by
  rcases zE.mp h with rfl|h
  ·exact k.1
  ·exact tH.mem k.2 x h
noncomputable def aZ(own:Nat)(fr:List Nat)(σ:St):St:=List.replicate own none++fr.map fun j=>(σ[j]?).getD none
noncomputable abbrev cC(us:Vv):Obj:={ cls:=.type "list",data:=.seq us.toArray us.length }
def iN(us:Vv)(u:Value):({ cls:=.type "list",data:=.seq (us.toArray.push u) (us.length+1) }:Obj)=cC (us++[u]):=by
 show({ cls:=.type "list",data:=.seq (us.toArray.push u) (us.length+1) }:Obj)={ cls:=.type "list",data:=.seq (us++[u]).toArray (us++[u]).length }
 rw[zN,List.length_singleton,List.push_toArray]
section
variable {X:Cx} {pins:Va} {σ:St} {H:Hp} {s:Shared}
def Inv.wM{D:Addr}{us:Vv}{n:Nat}{ys:List V}(I:Inv X pins σ H s)(f:tF X pins H D)(e:s.heap.get? D=some { cls:=.type "list",data:=.seq us.toArray n })(r:Vals ys us)(hz:ys.length<=sizeLine) :
  Inv X pins σ (upd H D (.lst ys)) s:=by
 obtain⟨f0,f1,f2,f3,f4,f5⟩:=f
 have nD:∀b u,H b=some u->b≠D:=fun b u q=>au q f0
 have hok:ua X.prog X.w (upd H D (.lst ys)) s.heap:=fun b u q=>by
  by_cases hb:b=D
  ·subst hb
   rw[ad]at q
   cases q
   exact⟨hz,us,n,r,e⟩
  ·rw[ac hb]at q
   exact(I.hok b u q).stay (fun _ _ _ z=>z) (fun c z=>by rw[ac (nD c _ z)];exact z) fun c xs z=>by rw[ac (nD c _ z)];exact z
 exact I.step (H':=upd H D (.lst ys)) (h':=s.heap) (g':=s.gens) (t':=s.toks) (d':=s.drawn) (ch:=[D])
  (fun b hb=>by
   have z:b=D:=by simpa using hb
   subst z
   exact⟨f3,f1,f4,f5⟩)
  (fun _ _ _ _ _ q _=>q) (fun _ o _ _ _ q _=>⟨o.slots,q⟩)
  (fun b o hb _ n=>by rw[ac (fun z=>hb (by simp[z]))];exact n)
  (fun _ o _ q=>⟨o,q⟩) (fun b xs q=>by rw[ac (nD b _ q)];exact q) (fun b o u q=>by rw[ac (nD b _ q)];exact q)
  (fun b ps q=>⟨#[],by rw[ac (nD b _ q),q];simp⟩) (fun _ q=>q) hok I.bare
def m7{N:Vs}{scope:Scope}{fs:Vs}{C:Addr}{fp:List Addr}(I:Inv X pins σ H s)(hkind:scope.kind = .function)(hC:s.heap.objs.size<=C)(hcl:aD X.env fs)
  (hhas:hasB (relabel scope X.env).names (aC X.env fs)=true) (hf:∀b∈fp,tF X pins H b) (hlt:∀b∈fp,b < s.heap.objs.size):(X.tT N scope fs ⟨C,s,H,fp,X.pn++pins⟩).Ok where
 mod:=I.ok.mod
 kind:=hkind
 glob:=I.ok.glob
 blt:=I.ok.blt
 above:=hC
 inj:=fun x y c h1 h2=>I.ok.inj x y c (cP hcl h1) (cP hcl h2)
 has:=fun x hx=>by
  rcases hx with e|e
  ·exact jF hhas e (.inl rfl)
  ·exact jF hhas e (.inr rfl)
 vP:=fun x c h=>by cases h
 hd:=I.ok.hd
 frames:=I.ok.frames
 stk:=.inl rfl
 wf:=fun b hb=>⟨zD (zv (hlt b hb) hC),fun x c e=>(hf b hb).2.2.2.2.1 x c (cP hcl e)⟩
 bs:=I.bs
 vf:=zH I.ok.vf I.sz
 uH:=fun b o e hb=>(hf b hb).2.2.2.1.elim (fun z=>I.ok.uH b o e z) fun z=>absurd (zv (zu e) (zH I.ok.vf z)) (zP _)
 uT:=fun b hb z=>(zE.mp (I.ux b z)).elim (hf b hb).2.1 (hf b hb).2.2.1
 t9:=I.stack
 vA:=I.u4
 hx:=I.hx
def lj{N:Vs}{scope:Scope}{fs:Vs}{C D:Addr}{fp:List Addr}{own:Nat}{fr:List Nat}{h₁:Heap}{m0:Vr}{t':Nat}(I:Inv X pins σ H s)
  (ok:(X.tT N scope fs ⟨C,s,H,fp,X.pn++pins⟩).Ok) (hC:s.heap.objs.size<=C) (hD:s.heap.objs.size<=D) (hDC:D≠C) (hcl:aD X.env fs)
  (old:∀b o,s.heap.get? b=some o->h₁.get? b=some o) (hns:h₁.Ns C m0) (hacc:h₁.get? D=some (cC [])) (hlen:N.length=own+fr.length) (hN:(N.drop own).map some=fr.map fun j=>X.N[j]?)
  (hF:tH X.env scope (aC X.env fs) (N.drop own)) (ht:1<=t':=by walk_at "t") :
  Inv (X.tT N scope fs ⟨C,s,H,fp,X.pn++pins⟩) [(D,cC [])] (aZ own fr σ) H { s with heap:=h₁,toks:=t' }:=by
 refine⟨ok,rfl,I.bare,Un.kept old,⟨m0,hns,fun i x v e1 e2 e3=>?_⟩,fun x c e=>?_,I.hok.fresh hC,fun x c e=>I.tI x c (cP hcl e),fun p hp=>?_,I.hok.kept old,?_,ht⟩
 ·have e1:N[i]?=some x:=e1
  by_cases hi:i < own
  ·unfold aZ at e2
   rw[zQ (by rw[zR];exact hi),Ac,if_pos hi]at e2
   cases e2
  ·obtain⟨k,rfl⟩:∃k,i=own+k:=⟨i - own,by omega⟩
   have e1':(N.drop own)[k]?=some x:=by rw[List.getElem?_drop];exact e1
   have q:=zM (fun l=>l[k]?) hN
   simp only[z3,e1',Option.map_some]at q
   unfold aZ at e2
   rw[Ah (by rw[zR];omega),zR,Nat.add_sub_cancel_left,z3]at e2
   cases hj:fr[k]? with
   |none=>rw[hj]at e2;cases e2
   |some j=>
    rw[hj]at e2 q
    simp only[Option.map_some,Option.some.injEq]at e2 q
    have hσ:σ[j]?=some (some v):=by
     cases z:σ[j]? with
     |none=>rw[z]at e2;cases e2
     |some w=>rw[z]at e2;simp only[Option.getD_some]at e2;rw[e2]
    obtain⟨k1,k2,k3⟩:=hF.mem x (List.mem_of_getElem? e1')
    obtain⟨m,hn,hl⟩:=I.loc
    have vis:o7 X.env.scope x:=by
     rcases k1 with z|z
     ·exact .inr (.inl z)
     ·exact .inr (.inr z)
    obtain⟨u,ru,l⟩:=hl j x v q.symm hσ vis
    rcases l with⟨hk,_⟩|⟨_,c,hc,o,ho,hd⟩
    ·have hk':X.env.scope.names.lookup x=some .local:=hk
     rcases k1 with z|z
     ·rw[z]at hk';cases hk'
     ·rw[z]at hk';cases hk'
    ·exact⟨u,ru,.inr ⟨k2,c,k3.trans hc,o,old _ _ ho,hd⟩⟩
 ·obtain⟨v,o,ho,hd⟩:=I.cell x c (cP hcl e)
  exact⟨v,o,old _ _ ho,hd⟩
 ·rcases AH.mp hp with z|z
  ·obtain⟨e,n,ne,nf,d⟩:=I.pin p z
   exact⟨old _ _ e,n,zD (zv (zu e) hC),fun q=>(zE.mp (I.ux _ q)).elim ne nf,d⟩
  ·have z':p=(D,cC []):=by simpa using z
   subst z'
   exact⟨hacc,I.hok.fresh hD,hDC,fun q=>(zE.mp (I.ux _ q)).elim (fun e=>absurd e (AU (zv I.lt hD))) (I.wG hD),fun v z=>by cases z⟩
 ·show(aZ own fr σ).length=N.length
  unfold aZ
  rw[zN,zR,zC,hlen]
end
def PF(X:Cx)(ifs:List Expr)(t:TT):Prop:=
 ∀(pins:Va) (s:Shared) (σ:St) (H:Hp) (Q:Bool->Hp->Prop),Inv X pins σ H s->t σ H Q->
  wpAny (model X.prog X.w) X.A (forIn ifs true fun c r=>if r=true then do let ok <-isTrue c X.env (eval c X.env);pure (ForInStep.yield ok) else pure (ForInStep.yield r)) (TP X pins σ Q) X.xe s
def rn:TT:=fun _ H Q=>Q true H
def m8{X:Cx}:PF X [] rn:=fun _ _ _ H _ I h=>wpAny_tests_nil ⟨H,I,h⟩
def m9{X:Cx}{c:Expr}{t:TT}(h:PT X c t):PF X [c] t:=fun pins s σ H Q I q=>wpAny_tests_one (h pins s σ H Q I q)
def jG(J:It)(g:TG)(tc:TT)(te:TE)(own:Nat)(σ':St)(fin:List V->Hp->Prop)(H1:Hp):Prop:=
 ∃W:Nat->Nat->List V->Hp->Prop,(∃m,W 0 m [] H1)/\∀i m ys H,W i m ys H->
  (J.stop i H/\ys.length<=sizeLine/\fin ys H) \/
  (J.go i H/\ys.length<=sizeLine/\∃Nx:List V->Hp->Prop,(∀ys' H',Nx ys' H'->∃m',m' < m/\W (i+1) m' ys' H')/\∀x H',J.w5 i H x H'->g x σ' H' fun σ2 H2=>σ2.drop own=σ'.drop own/\tc σ2 H2 fun b H3=>
   if b=true then te σ2 H3 fun y H4=>Nx (ys++[y]) H4 else Nx ys H3)
section
variable {X:Cx} {pins:Va} {σ:St} {H:Hp} {s:Shared}
variable {elt iter tg:Expr} {ifs:List Expr} {scope:Scope} {pos:Pos} {N:Vs} {own:Nat} {fr:List Nat} {fs:Vs} {g:TG} {tc:TT} {te:TE}
def fN{te:Bk->TE}{Fe:Bk->Value->Shared->Prop}{J:It}{fp:List Addr}{it:Addr}{tn:Nat->Heap->Prop}{fin:List V->Hp->Prop}{E:Vq}{RR:Value->Addr->Result->Shared->Prop}
  {Cc:Cx->Prop} (hc:∀B,Cc (X.tT N scope fs B)) (hcell:∀y∈scope.names,y.2 ≠ .cell) (hkind:scope.kind = .function) (hcl:aD X.env fs) (hhas:hasB (relabel scope X.env).names (aC X.env fs)=true)
  (hlen:N.length=own+fr.length) (hN:(N.drop own).map some=fr.map fun j=>X.N[j]?) (hF:tH X.env scope (aC X.env fs) (N.drop own))
  (hg:∀B,PG (X.tT N scope fs B) tg g) (hf:∀B,PF (X.tT N scope fs B) ifs tc) (he:∀B,PE ((X.tT N scope fs B).wish (Fe B)) elt (te B))
  (I:Inv X pins σ H s) (T:fH Cc X.prog X.w X.K tg J fp it tn) (st:tn 0 s.heap) (f:∀b∈fp,tF X pins H b) (W:∀B,jG J g tc (te B) own (aZ own fr σ) fin H)
  (hRR:∀D C s' ys H' m',Inv X pins σ (upd H' D (.lst ys)) s'->H' D=none->s'.heap.Ns C m'->tF X pins (upd H' D (.lst ys)) C->fin ys H'->RR (.ref D) C (.ok .next) s')
  (yF:∀D C e s',s.heap.objs.size<=C->(∀p∈X.pn++pins,p.1≠C)->Fe ⟨C,s,H,fp,X.pn++pins⟩ e s'->notedBy (model X.prog X.w) X.A (compEnvC scope (aC X.env fs) C X.env) (fun x s''=>RR (.ref D) C (.error x) s'') e s') :
  wpAny (model X.prog X.w) X.A (newList []) (fun acc s₃=>wpAny (model X.prog X.w) X.A (newFunctionEnv scope X.env.globals (aC X.env fs) [] X.env.qual none .none (some X.env)) (fun cenv s₄=>
   codeAny (model X.prog X.w) X.A (.compStart (.ListComp elt [⟨tg,iter,ifs,0⟩] scope pos) 0 (.ref it) acc { cenv with scope:=relabel scope X.env }) (RR acc cenv.locals) s₄) E s₃) E s:=by
 refine z4 (wpAny_newFunctionEnv hcell (by intro y hy;simp at hy) (fun h₁ ww v_=>?_) hkind)
 dsimp only at ww v_ ⊢
 generalize xC:s.heap.push { cls:=.type "list",dict:=none,data:=.seq ([]:Vv).toArray }=H2 at ww v_ ⊢
 have hC:H2.objs.size=s.heap.objs.size+1:=by rw[<-xC,Aa]
 have wa:s.heap.objs.size<=H2.objs.size:=by rw[hC];exact AS _
 have hDC:s.heap.objs.size≠H2.objs.size:=by rw[hC];exact zD (Bg _)
 have below:∀b,b < s.heap.objs.size->b≠H2.objs.size/\b≠s.heap.objs.size:=fun b hb=>⟨by rw[hC];exact zD (Nat.lt_succ_of_lt hb),zD hb⟩
 have old:∀b o,s.heap.get? b=some o->h₁.get? b=some o:=fun b o e=>v_.extBut b o (below b (zu e)).1 (zp _ (xC▸zp _ e))
 have hacc:h₁.get? s.heap.objs.size=some (cC []):=v_.extBut _ _ hDC (zp _ (xC▸zz _ rfl))
 have hlt:∀b∈fp,b < s.heap.objs.size:=fun b hb=>by
  obtain⟨o,e,_⟩:=T.obj 0 _ st b hb
  exact zu e
 obtain⟨Wv,⟨m0,w0⟩,turn⟩:=W ⟨H2.objs.size,s,H,fp,X.pn++pins⟩
 have ok:=m7 (N:=N) I hkind wa hcl hhas f hlt
 have loop:∀s₃:Shared,s₃={ s with heap:=h₁,toks:=s.toks+([]:List (Str×Value)).length }->
   codeAny (model X.prog X.w) X.A (.compLoop (.ListComp elt [⟨tg,iter,ifs,0⟩] scope pos) 0 (.ref it) (.ref s.heap.objs.size) (compEnvC scope (aC X.env fs) H2.objs.size X.env))
    (RR (.ref s.heap.objs.size) H2.objs.size) s₃:=by
  rintro s₃ rfl
  have I0:=lj (own:=own) (fr:=fr) (t':=s.toks+([]:List (Str×Value)).length) I ok wa (zw _) hDC hcl old ww hacc hlen hN hF
  have yG:tn 0 h₁:=T.keep 0 _ _ st fun b _ o e=>old b o e
  have stat:∀{us:Vv} {H':Hp},(∀b∈fp,H' b=none)->∀b∈fp,tF (X.tT N scope fs ⟨H2.objs.size,s,H,fp,X.pn++pins⟩) [(s.heap.objs.size,cC us)] H' b:=fun{us H'} hn b hb=>by
   obtain⟨f0,f1,f2,f3,f4,f5⟩:=f b hb
   refine⟨hn b hb,(below b (hlt b hb)).1,fun z=>(zE.mp (I.ux b z)).elim f1 f2,.inl hb,fun x c e=>f4 x c (cP hcl e),fun p hp=>?_⟩
   rcases AH.mp hp with z|z
   ·exact f5 p z
   ·have z':p=(s.heap.objs.size,cC us):=by simpa using z
    subst z'
    exact Al (below b (hlt b hb)).2
  have wN:∀p∈X.pn++pins,p.1 < s.heap.objs.size:=fun p hp=>zu (I.pin p hp).1
  refine d4 (fun k s'=>∃i ys us H',Inv (X.tT N scope fs ⟨H2.objs.size,s,H,fp,X.pn++pins⟩) [(s.heap.objs.size,cC us)] (aZ own fr σ) H' s'/\Vals ys us/\tn i s'.heap/\(∀b∈fp,H' b=none)/\Wv i k ys H') ?_ m0
   ⟨0,[],[],H,I0,.nil,yG,fun b hb=>(f b hb).1,w0⟩
  rintro n s' ⟨i,ys,us,H',I',rv,st',ya,w'⟩
  rcases turn i n ys H' w' with⟨stop,hz,xD⟩|⟨go,hz,Nx,yb,step⟩
  ·refine aB (T.done (X.tT N scope fs ⟨H2.objs.size,s,H,fp,X.pn++pins⟩) rfl rfl rfl (hc _) i _ s' _ H' (fun _ _=>False) I' (stat ya) st' stop) (fun r s1 ⟨hr,I1⟩=>?_)
   subst hr
   show RR _ _ (.ok .next) s1
   have IX:Inv X pins σ H' s1:=I.wg I1.os I1.base I1.hok I1.bare I1.tk fun b hb=>by
    obtain⟨f0,f1,f2,f3,f4,f5⟩:=f b hb
    exact⟨f3,f1,f4,f5⟩
   obtain⟨eD,nD,_⟩:=I1.pin (s.heap.objs.size,cC us) (by simp)
   have IT:=IX.wM (I.ut (H':=H') (zw _) nD) eD rv hz
   obtain⟨m',hn',_⟩:=I1.loc
   exact hRR _ _ s1 ys H' m' IT nD hn' (I.ut wa (by rw[ac (Al hDC)];exact I1.free)) xD
  ·refine aB (T.item (X.tT N scope fs ⟨H2.objs.size,s,H,fp,X.pn++pins⟩) rfl rfl rfl (hc _) i _ s' _ H' (fun _ _=>False) I' (stat ya) st' go) (fun r s1 ⟨u,hr,h1⟩=>?_)
   subst hr
   show wpAny _ _ (letOwnedTupleGo tg (.ref it) u) _ _ s1
   refine aB h1 (fun _ s5 ⟨x,H5,I5,r5,y5,v8,xu⟩=>?_)
   have xv:=I5.pinned (stat xu) (T.obj _ _ v8)
   refine aB (hg _ _ s5 _ H5 x u _ xv r5 (step x H5 y5)) (fun _ s6 ⟨σ6,H6,I6,yH,q6⟩=>?_)
   refine aB (hf _ _ s6 σ6 H6 _ I6 q6) (fun b s7 ⟨H7,I7,q7⟩=>?_)
   -- wx the turn's own names
   have forget:∀{H8:Hp} {s8:Shared} {pl:Va},Inv (X.tT N scope fs ⟨H2.objs.size,s,H,fp,X.pn++pins⟩) pl σ6 H8 s8->Inv (X.tT N scope fs ⟨H2.objs.size,s,H,fp,X.pn++pins⟩) pl (aZ own fr σ) H8 s8:=fun{H8 s8 pl} I8=>by
    refine I8.weak (I0.len.trans I8.len.symm) fun j v e=>?_
    by_cases hj:j < own
    ·unfold aZ at e
     rw[zQ (by rw[zR];exact hj),Ac,if_pos hj]at e
     cases e
    ·obtain⟨k,rfl⟩:∃k,j=own+k:=⟨j - own,by omega⟩
     rw[<-List.getElem?_drop]at e ⊢
     rw[yH]
     exact e
   have xb:∀{H8:Hp} {s8:Shared},Inv (X.tT N scope fs ⟨H2.objs.size,s,H,fp,X.pn++pins⟩) ([(s.heap.objs.size,cC us)]++dj fp s5.heap) σ6 H8 s8->∀b∈fp,∀o,s5.heap.get? b=some o->s8.heap.get? b=some o/\H8 b=none:=fun I8 b hb o e=>
    let z:=I8.pin (b,o) (zJ _ (zJ _ (bX hb e)))
    ⟨z.1,z.2.1⟩
   cases b with
   |false=>
    show ∃m,m < n/\_
    obtain⟨m',hm,w7⟩:=yb _ _ (show Nx ys H7 from q7)
    refine⟨m',hm,i+1,ys,us,H7,(forget I7).uu,rv,T.keep _ _ _ v8 fun b hb o e=>(xb I7 b hb o e).1,fun b hb=>?_,w7⟩
    obtain⟨o,e,_⟩:=T.obj _ _ v8 b hb
    exact(xb I7 b hb o e).2
   |true=>
    show wpAny _ _ (eval elt _) _ _ s7
    have yI:te ⟨H2.objs.size,s,H,fp,X.pn++pins⟩ σ6 H7 fun y H4=>Nx (ys++[y]) H4:=q7
    refine zL (he ⟨H2.objs.size,s,H,fp,X.pn++pins⟩ _ s7 σ6 H7 _ (I7.wish _) yI) (fun v s8 ⟨y,H8,yJ,r8,n8⟩=>?_) (fun e s8 hF=>yF _ _ e s8 wa (fun p hp=>(below p.1 (wN p hp)).1) hF)
    have I8:=yJ.tZ
    obtain⟨m',hm,w8⟩:=yb _ _ n8
    obtain⟨eD,nD,yc,yK,_⟩:=I8.pin (s.heap.objs.size,cC us) (zJ _ (Am _ (by simp)))
    refine append_at (hsz:=by show us.toArray.size<=sizeLine;rw[zx,<-rv.length];exact hz) eD fun h9 yd yL=>?_
    have J0:Inv (X.tT N scope fs ⟨H2.objs.size,s,H,fp,X.pn++pins⟩) [] σ6 H8 s8:=I8.uK fun p hp=>nomatch hp
    have J1:Inv (X.tT N scope fs ⟨H2.objs.size,s,H,fp,X.pn++pins⟩) [] σ6 H8 { s8 with heap:=h9 }:=J0.turned (t':=s8.toks) (it:=s.heap.objs.size) (fun b o hb e=>(yd.2 b hb).trans e) nD yc (.inr (zw _))
     (fun x c e z=>by
      obtain⟨v',q⟩:=I.cell x c (cP hcl e)
      exact absurd (zv q.lt (by rw[z];exact zw _)) (zP _))
     (fun p hp=>by
      rw[zV]at hp
      exact zD (wN p hp))
    have J2:Inv (X.tT N scope fs ⟨H2.objs.size,s,H,fp,X.pn++pins⟩) [(s.heap.objs.size,cC (us++[v]))] σ6 H8 { s8 with heap:=h9 }:=J1.uK fun p hp=>by
     have z':p=(s.heap.objs.size,cC (us++[v])):=by simpa using hp
     subst z'
     exact⟨yL.trans (zM some (iN us v)),nD,yc,yK,fun v z=>by cases z⟩
    refine⟨m',hm,i+1,ys++[y],us++[v],H8,forget J2,Vals.append rv (.cons r8 .nil),T.keep _ _ _ v8 fun b hb o e=>(yd.2 b (below b (hlt b hb)).2).trans (xb I8 b hb o e).1,fun b hb=>?_,w8⟩
    obtain⟨o,e,_⟩:=T.obj _ _ v8 b hb
    exact(xb I8 b hb o e).2
 exact codeAny_compStart_list (loop _ rfl) (T.self _ 0 _ _ _ (T.keep 0 _ _ st fun b _ o e=>old b o e) (loop _ rfl))
def dq{J:It}{fp:List Addr}{it:Addr}{tn:Nat->Heap->Prop}{fin:List V->Hp->Prop}{E:Vq}{RR:Value->Addr->Result->Shared->Prop}
  {Cc:Cx->Prop} (hc:∀B,Cc (X.tT N scope fs B)) (hcell:∀y∈scope.names,y.2 ≠ .cell) (hkind:scope.kind = .function) (hcl:aD X.env fs) (hhas:hasB (relabel scope X.env).names (aC X.env fs)=true)
  (hlen:N.length=own+fr.length) (hN:(N.drop own).map some=fr.map fun j=>X.N[j]?) (hF:tH X.env scope (aC X.env fs) (N.drop own))
  (hg:∀B,PG (X.tT N scope fs B) tg g) (hf:∀B,PF (X.tT N scope fs B) ifs tc) (he:∀B,PE (X.tT N scope fs B) elt te)
  (I:Inv X pins σ H s) (T:fH Cc X.prog X.w X.K tg J fp it tn) (st:tn 0 s.heap) (f:∀b∈fp,tF X pins H b) (W:jG J g tc te own (aZ own fr σ) fin H)
  (hRR:∀D C s' ys H' m',Inv X pins σ (upd H' D (.lst ys)) s'->H' D=none->s'.heap.Ns C m'->tF X pins (upd H' D (.lst ys)) C->fin ys H'->RR (.ref D) C (.ok .next) s') :
  wpAny (model X.prog X.w) X.A (newList []) (fun acc s₃=>wpAny (model X.prog X.w) X.A (newFunctionEnv scope X.env.globals (aC X.env fs) [] X.env.qual none .none (some X.env)) (fun cenv s₄=>
   codeAny (model X.prog X.w) X.A (.compStart (.ListComp elt [⟨tg,iter,ifs,0⟩] scope pos) 0 (.ref it) acc { cenv with scope:=relabel scope X.env }) (RR acc cenv.locals) s₄) E s₃) E s:=
 fN (te:=fun _=>te) (Fe:=fun _ _ _=>False) hc hcell hkind hcl hhas hlen hN hF hg hf (fun B=>he B) I T st f (fun _=>W) hRR fun _ _ _ _ _ _ z=>z.elim
def jH(wi:TI)(g:TG)(tc:TT)(te:TE)(own:Nat)(fr:List Nat):TE:=fun σ H Q=>wi σ H fun J H1=>
 jG J g tc te own (aZ own fr σ) (fun ys H2=>∀D,H2 D=none->Q (.ref D) (upd H2 D (.lst ys))) H1
def h_(fs:Vs)(own:Nat)(fr:List Nat)(N:Vs){wi:TI}{Cc:Cx->Prop}(hc:∀B,Cc (X.tT N scope fs B))(hclos:closureFor scope X.env=pure (aC X.env fs))(hcell:∀y∈scope.names,y.2 ≠ .cell)(hkind:scope.kind = .function)
  (hnames:∀x∈scope.names,x.2 = .local->scope.names.lookup x.1=some .local) (hcl:aD X.env fs) (hhas:hasB (relabel scope X.env).names (aC X.env fs)=true)
  (hlen:N.length=own+fr.length) (hN:(N.drop own).map some=fr.map fun j=>X.N[j]?) (hF:tH X.env scope (aC X.env fs) (N.drop own))
  (hi:oN Cc X tg iter wi) (hg:∀B,PG (X.tT N scope fs B) tg g) (hf:∀B,PF (X.tT N scope fs B) ifs tc) (he:∀B,PE (X.tT N scope fs B) elt te)
  (hs:∀x,foldedSetIterable iter X.env x=pure x:=by intro _;rfl):PE X (.ListComp elt [⟨tg,iter,ifs,0⟩] scope pos) (jH wi g tc te own fr):=by
 intro pins s σ H Q I h
 rw[eval_ListComp]
 refine wpAny_comprehension_free (use:=none) (g:=⟨tg,iter,ifs,0⟩) (gs:=[]) rfl hs hclos hkind hnames (aB (hi pins s σ H _ I h) fun v s1 h1=>aB h1 fun itv s2 h2=>?_)
 obtain⟨it,fp,tn,J,H2,e,I2,T,st2,f2,W⟩:=h2
 subst e
 refine dq (RR:=fun acc C=>compPost (model X.prog X.w) X.A X.xe none (EP X pins σ Q) acc C) hc hcell hkind hcl hhas hlen hN hF hg hf he I2 T st2 f2 W ?_
 intro D C s' ys H' m' I' nD hn fC fin
 exact⟨m',hn,fun h' hs'=>⟨.ref D,_,I'.turned (t':=s'.toks) (fun b o hb e=>(hs'.2 b hb).trans e) fC.1 fC.2.1 fC.2.2.2.1 fC.2.2.2.2.1 fC.2.2.2.2.2,rfl,fin D nD⟩⟩
def ll(fs:Vs)(own:Nat)(fr:List Nat)(N:Vs){wi:TI}{i:Nat}{y:Str}{py spos:Pos}(hX:X.N.Nodup)(hix:X.N[i]?=some y)(hy:X.env.scope.names.lookup y=some .local)
  (hsw:swapsWith (.ListComp elt [⟨tg,iter,ifs,0⟩] scope pos) (some (.Name y py)) spos.line X.env=pure true)
  (hc:X.calm=true) (hclos:closureFor scope X.env=pure (aC X.env fs)) (hcell:∀y∈scope.names,y.2 ≠ .cell) (hkind:scope.kind = .function)
  (hnames:∀x∈scope.names,x.2 = .local->scope.names.lookup x.1=some .local) (hcl:aD X.env fs) (hhas:hasB (relabel scope X.env).names (aC X.env fs)=true)
  (hlen:N.length=own+fr.length) (hN:(N.drop own).map some=fr.map fun j=>X.N[j]?) (hF:tH X.env scope (aC X.env fs) (N.drop own))
  (hi:PI X tg iter wi) (hg:∀B,PG (X.tT N scope fs B) tg g) (hf:∀B,PF (X.tT N scope fs B) ifs tc) (he:∀B,PE (X.tT N scope fs B) elt te)
  (hs:∀x,foldedSetIterable iter X.env x=pure x:=by intro _;rfl):PS X (.Assign [.Name y py] (.ListComp elt [⟨tg,iter,ifs,0⟩] scope pos) spos) (kQ (jH wi g tc te own fr) (fG i)):=by
 intro pins s σ H D I h
 rw[exec_Assign_Name_used _ _ _ _ hsw]
 refine zo (Au (zo ?_))
 show wpAny _ X.A (do let _ <-comprehension (.ListComp elt [⟨tg,iter,ifs,0⟩] scope pos) scope X.env _ (newList []) false (eval iter X.env) (some (assign (.Name y py) X.env))) _ _ s
 refine zo (zL (wpAny_comprehension_free (use:=some (assign (.Name y py) X.env)) (Q:=fun _ s'=>SP X pins D .next s') (g:=⟨tg,iter,ifs,0⟩) (gs:=[]) rfl hs hclos hkind hnames
  (aB (hi pins s σ H _ I h) fun v s1 h1=>aB h1 fun itv s2 h2=>?_)) (fun _ s' hq=>zq (zq hq)) fun _ _ e=>e)
 obtain⟨it,fp,tn,J,H2,e,I2,T,st2,f2,W⟩:=h2
 subst e
 refine dq (RR:=fun acc C=>compPost (model X.prog X.w) X.A X.xe (some (assign (.Name y py) X.env)) (fun _ s'=>SP X pins D .next s') acc C) (fun _=>hc) hcell hkind hcl hhas hlen hN hF hg hf he I2 T st2 f2 W ?_
 intro Da C s' ys H' m' I' nD hn fC fin
 show wpAny _ X.A (assign (.Name y py) X.env (.ref Da)) _ _ s'
 refine wpAny_assign_Name (cu (v:=.ref Da) I' hX hix (.inl hy) rfl (fun s2 I3 ⟨a,sb,ha⟩=>?_) (.inr hy))
 have ca:C≠a:=by
  rcases ha with z|z
  ·rw[z];exact fC.2.1
  ·exact Al (fC.2.2.2.2.1 _ _ z)
 exact⟨m',hn.sameBut sb ca,fun h' hs'=>⟨_,_,I3.turned (t':=s2.toks) (fun b o hb e=>(hs'.2 b hb).trans e) fC.1 fC.2.1 fC.2.2.2.1 fC.2.2.2.2.1 fC.2.2.2.2.2,fin Da nD⟩⟩
end
end L2
namespace PySem
open Sem (wp)
namespace F
def iO:typeLookup (.type "list_reverseiterator") "__len__" = pure none:=by rw[typeLookup_type,builtinLookup_eq_fast];kernel_rfl
def jI:typeLookup (.type "list_reverseiterator") "__length_hint__" = pure (some (.builtin "list_reverseiterator.__length_hint__")):=by rw[typeLookup_type,builtinLookup_eq_fast];kernel_rfl
end F
section
variable {prog:Program} {w:World} {A:Around} {s:Shared} {R:Result->Shared->Prop}
variable {I:Addr} {fp wr:List Addr} {G:Array GenState->Array GenState->Prop} {n:Nat} {P:Nat->Value->Prop} {St:Nat->Shared->Prop}
def gK(W:WalksS prog w A.in1 I fp wr G n P St)(hT:∀i s,St i s->s.TypeIs (.ref I) "list_reverseiterator")(S:Addr)(res:Value)(c₀:Nat)(hst:St 0 s)(hSf:S ∉ fp)(hI:I∈fp)
  (hS:s.heap.get? S=some { cls:=.type "list",data:=.seq #[] c₀ })
  (hR:∀s' acc' c',Moved (S::wr) G s s'->s'.heap.get? S=some { cls:=.type "list",dict:=none,data:=.seq acc' c',slots:=#[] }->ItemsOf P acc' n->R (.ok (.ret res)) s') (hn:n<=sizeLine) :
  wpAny (model prog w) A.in1 (Builtin.List.listExtendWith (.ref S) (.ref I) res)
   (fun fin s'=>match fin with | .done f=>R (.ok f) s' | .again c'=>c'.quiet=true/\codeAny (model prog w) A c' R s') (fun e s'=>R (.error e) s') s:=by
 have hSI:S≠I:=fun e=>hSf (e▸hI)
 have h1:Builtin.List.listSameRef (.ref S) (.ref I)=false:=by simp[Builtin.List.listSameRef,hSI]
 unfold Builtin.List.listExtendWith
 refine zo (wpAny_typeOf (hT 0 _ hst) ?_)
 rw[if_neg (by rw[h1];decide)]
 refine zo (W.self 0 _ _ _ hst ?_)
 refine zo (zZ ?_)
 unfold Builtin.List.listLengthHint
 refine zo (wpAny_specialOf (hT 0 _ hst) F.iO ?_)
 show wpAny _ A.in1 (specialOf (Value.ref I) (Str.ofString "__length_hint__") >>= _) _ _ _
 refine zo (wpAny_specialOf (hT 0 _ hst) F.jI ?_)
 (generalize hid:("list_reverseiterator.__length_hint__":String)=yM;wp_delta;rw[show splitId yM=some ("list_reverseiterator","__length_hint__")from by subst hid;decide +kernel];subst hid)
 refine zo (wpAny_isInstance (b:=true) (hT 0 _ hst) (by rw[isSubtype_type];kernel_rfl) ?_)
 refine zq ?_
 rw[if_neg (by decide)]
 exact zq ⟨plainId_quiet F.plain_extend_loop _,codeAny_extend_loopS W hn _ hSf _ n 0 _ _ _ rfl (Ax _) hst hS (ItemsOf.nil P) fun s' acc' c' hm hS' hacc=>hR s' acc' c' hm hS' hacc⟩
def d5(W:WalksS prog w A.in1 I fp wr G n P St)(hT:∀i s,St i s->s.TypeIs (.ref I) "list_reverseiterator")(S:Addr)(hst:St 0 s)(hSf:S ∉ fp)(hI:I∈fp)
  (hS:s.heap.get? S=some { cls:=.type "list",data:=.seq #[] })
  (hR:∀s' acc' c',Moved (S::wr) G s s'->s'.heap.get? S=some { cls:=.type "list",dict:=none,data:=.seq acc' c',slots:=#[] }->ItemsOf P acc' n->R (.ok (.ret .none)) s') (hn:n<=sizeLine) :
  wpAny (model prog w) A.in1 (Builtin.«list.__init__» ⟨[.ref S,.ref I],[]⟩)
   (fun fin s'=>match fin with | .done f=>R (.ok f) s' | .again c'=>c'.quiet=true/\codeAny (model prog w) A c' R s') (fun e s'=>R (.error e) s') s:=by
 show wpAny _ A.in1 (do let old <-Builtin.List.listItems (.ref S);Builtin.List.listUpdate (.ref S) (fun _=>#[]);letGo old.toList.reverse;Builtin.List.listExtendWith (.ref S) (.ref I) .none) _ _ s
 refine zo ?_
 unfold Builtin.List.listItems
 refine zo (wpAny_seqItems hS rfl (zq ?_))
 show wpAny _ A.in1 (updateSeq S (fun _=>#[]) >>= fun _=>letGo (#[]:Vw).toList.reverse >>= fun _=>Builtin.List.listExtendWith (.ref S) (.ref I) .none) _ _ s
 refine zo (wpAny_updateSeq hS rfl ?_)
 have yN:=zS (Obj.mapSeq (fun _=>(#[]:Vw))) hS rfl
 have ye:∀b o,b≠S->s.heap.get? b=some o->(s.heap.update S (Obj.mapSeq (fun _=>(#[]:Vw)))).get? b=some o:=
  fun b o hb e=>(zB _ _ (Al hb)).trans e
 refine zo (wpAny_letGo ?_)
 refine gK (hn:=hn) W hT S .none _ (W.frame 0 s _ s.toks hst (zw _) fun b hb o e=>ye b o (fun h=>hSf (h▸hb)) e) hSf hI yN fun s' acc' c' hm hS' hacc=>?_
 exact hR s' acc' c' (Moved.trans W.gtrans ((Moved.refl W.grefl).then_heap (zw _) fun b o hb e=>ye b o (fun h=>hb (h▸Ar)) e) hm) hS' hacc
end
section
variable {prog:Program} {w:World} {A:Around} {E:Vq} {s:Shared}
def d6{I l:Addr}{items:Vw}{Q:Vq}(hh:A.handled=none)(hl:s.heap.IsList l items)(hit:s.heap.IsRevIter I l ((items.size:Int) - 1))(hne:l≠I)(hn:items.size<=sizeLine)
  (hQ:∀h' tk acc' c',(∀b o,b≠I->s.heap.get? b=some o->h'.get? b=some o)->h'.get? s.heap.objs.size=some { cls:=.type "list",dict:=none,data:=.seq acc' c',slots:=#[] }->
   acc'.toList=items.toList.reverse->Q (.ref s.heap.objs.size) { s with heap:=h',toks:=tk }) :
  wpAny (model prog w) A (call (.type "list") [.ref I]) Q E s:=by
 have W:=(Walks.listRev (prog:=prog) (w:=w) (A:=A.in1.in1) hh I l hne items).toS
 have xE:I < s.heap.objs.size:=by obtain⟨o,ho,_⟩:=hit;exact zu ho
 have xF:l < s.heap.objs.size:=by obtain⟨o,ho,_⟩:=hl;exact zu ho
 have hfp:∀b∈[I,l],b < s.heap.objs.size:=fun b hb=>by
  rcases zE.mp hb with rfl|hb
  ·exact xE
  ·rw[z9.mp hb];exact xF
 have hSf:s.heap.objs.size ∉ [I,l]:=fun hm=>zP _ (hfp _ hm)
 have hst:(fun i (s:Shared)=>i<=items.size/\s.heap.IsRevIter I l ((items.size:Int) - 1 - (i:Int))/\s.heap.IsList l items) 0 s:=⟨Ax _,by simpa using hit,hl⟩
 refine callType_codes (Q₁:=fun obj s₁=>obj = .ref s.heap.objs.size/\s₁={ s with heap:=s.heap.push { cls:=.type "list",data:=.seq #[] } }) F.called_list (F.typeCall_list_1 _) F.entry_list_init
  (code_list_new _ ⟨rfl,rfl⟩) fun obj s₁ h₁=>?_
 obtain⟨rfl,rfl⟩:=h₁
 have hS:(s.heap.push { cls:=.type "list",data:=.seq #[] }).get? s.heap.objs.size=some { cls:=.type "list",data:=.seq #[] }:=zz _ rfl
 refine⟨⟨_,hS,rfl⟩,F.args_list_init_2 _ _,d5 (hn:=hn) W (fun i s st=>st.2.1.typeIs) _ (W.frame 0 s _ s.toks hst (zw _) fun b _ o e=>zp _ e) hSf (Ar ..) hS fun s' acc' c' hm hS' hacc=>?_⟩
 refine⟨rfl,?_⟩
 rw[hm.eq_with]
 refine hQ s'.heap s'.toks acc' c' (fun b o hb e=>hm.heap b o (fun z=>?_) (zp _ e)) hS' ?_
 ·rcases zE.mp z with z|z
  ·exact absurd (zu e) (by rw[z];exact zP _)
  ·exact hb (z9.mp z)
 ·obtain⟨hsz,hP⟩:=hacc
  apply List.ext_getElem?
  intro j
  by_cases hj:j < items.size
  ·have hj':j < acc'.size:=by rw[hsz];exact hj
   have q:=hP j acc'[j] (by simp[hj'])
   have e1:acc'.toList[j]?=some acc'[j]:=by simp[hj']
   rw[e1,List.getElem?_reverse (by simpa using hj)]
   simpa using q.symm
  ·rw[z7 (by simpa [hsz]using hj),z7 (by simpa using hj)]
end
end PySem
namespace L2
open PySem PySem.Spec PyProof.Rows
section
variable {X:Cx}
def jJ(K:Vo)(te:TE):TE:=fun σ H Q=>te σ H fun x H1=>∃a xs,x = .ref a/\SqL K H1 a xs/\∀q,H1 q=none->Q (.ref q) (upd H1 q (.lst xs.reverse))
def gL{e:Expr}{te:TE}{p1 p2 q1 q2:Pos}(hc:X.calm=true)(he:PE X e te)(xG:Gl X "list")(hm1:X.mg "list" = none)(xH:Gl X "reversed")(hm2:X.mg "reversed" = none)
  (hs:starEach [e] X.env=[(false,eval e X.env)]:=by rfl) (hs2:starEach [.Call (.Name "reversed" p2) [e] [] q2] X.env=[(false,eval (.Call (.Name "reversed" p2) [e] [] q2) X.env)]:=by rfl) :
  PE X (.Call (.Name "list" p1) [.Call (.Name "reversed" p2) [e] [] q2] [] q1) (jJ X.K te):=by
 intro pins s σ H Q I h
 refine zW (bW I xG hm1 (u:=.type "list") (by decide +kernel) ?_)
 refine zY ?_ hs2 rfl
 rw[hs2]
 show wpAny _ _ (spliced ((false,eval (.Call (.Name "reversed" p2) [e] [] q2) X.env)::backTo q1 [])) _ _ s
 refine Calls.spliced_cons ?_
 refine zW (bW I xH hm2 (u:=.type "reversed") boot_reversed ?_)
 refine zY ?_ hs rfl
 rw[hs]
 show wpAny _ _ (spliced ((false,eval e X.env)::backTo q2 [])) _ _ s
 refine Calls.spliced_cons (aB (he pins s σ H _ I h) fun u s1 ⟨x,H1,I1,r1,a,xs,ex,hx,q⟩=>?_)
 subst ex
 cases r1
 obtain⟨its,rv,p,hz⟩:=I1.list hx
 have hl:=rv.length
 have hal:a < s1.heap.objs.size:=by obtain⟨o,ho,_⟩:=p.isList;exact zu ho
 refine Calls.spliced_nil (call_reversed_list p.isList ?_)
 refine Calls.spliced_nil ?_
 refine zG (show 1<=s1.toks from I1.tk) (d6 (I.ok.hd hc) (p.isList.push _) ⟨_,zz _ rfl,rfl,rfl⟩ (zD hal) (by rw[zx,<-hl];exact hz) fun h' tk acc c hk hS ha ht=>?_)
 have hsz:(s1.heap.push (revObj a ((its.toArray.size:Int) - 1))).objs.size=s1.heap.objs.size+1:=Aa _ _
 have hle:s1.heap.objs.size<=(s1.heap.push (revObj a ((its.toArray.size:Int) - 1))).objs.size:=by rw[hsz];exact AS _
 refine⟨.ref _,_,I1.laid (a:=(s1.heap.push (revObj a ((its.toArray.size:Int) - 1))).objs.size) (o:=.lst xs.reverse) (h':=h') (t':=tk) (fun b u e=>hk b u (zD (zu e)) (zp _ e)) hle ?_,rfl,q _ (I1.hok.fresh hle)⟩
 refine⟨by rw[List.length_reverse];exact hz,its.reverse,c,Vals.reverse rv,?_⟩
 rw[hS]
 have e:acc=its.reverse.toArray:=by
  apply Array.toList_inj.mp
  rw[ha]
 rw[e]
end
section
variable {X:Cx}
noncomputable abbrev gw(c:Nat):Str:=⟨#[c]⟩
noncomputable def rq(z:Str):It:=⟨fun i _=>i < z.cps.size,fun i H x H'=>H'=H/\∃c,z.cps[i]?=some c/\x = .str (gw c),fun i _=>z.cps.size<=i⟩
def jK{P:Program}{w:World}{K:Vo}{tg:Expr}{ty:String}(hty:ty = "str_ascii_iterator" \/ ty = "str_iterator")(it:Addr)(z:Str)(t:Tok):jk P w K tg (rq z) [it] it (fun i h=>i<=z.cps.size/\h.IsStrIter it ty z t i):=by
 have W:∀A':Around,A'.handled=none->Walks P w A' it [it] [it] z.cps.size (SignAt z) (fun i h=>h.IsStrIter it ty z t i):=fun A' hA=>by
  rcases hty with rfl|rfl
  ·exact Walks.strAscii hA it z t
  ·exact Walks.strWide hA it z t
 have nt:(["enumerate","zip","dict_itemiterator","dict_reverseitemiterator","odict_iterator","itertools.zip_longest","itertools.pairwise"].contains ty)=false:=by
  rcases hty with rfl|rfl<;>decide
 refine⟨by simp,fun i h st b hb=>?_,fun i h h' st k=>?_,?_,?_,?_⟩
 ·have e:b=it:=by simpa using hb
  subst e
  obtain⟨_,o,e,c,d⟩:=st
  exact⟨o,e,fun v q=>by rw[d]at q;cases q⟩
 ·obtain⟨hi,o,e,r⟩:=st
  exact⟨hi,o,k it (by simp) o e,r⟩
 ·intro X hP hw hK hc i pins s σ H E I hf st hg
  subst hP hw hK
  obtain⟨f0,f1,f2,f3,f4,f5⟩:=hf it (by simp)
  refine zG I.tk ((W X.A (I.ok.hd hc)).item i s _ _ hg st.2 fun v h' tk hv st' kk ht=>?_)
  obtain⟨c,u,hcp,rfl⟩:=hv
  have I1:Inv X pins σ H { s with heap:=h',toks:=tk }:=I.turned (fun b o hb e=>kk b o (by simpa using hb) e) f0 f1 f3 f4 f5
  obtain⟨o,e,co,d⟩:=id st'
  exact⟨_,rfl,eg (s:={ s with heap:=h',toks:=tk }) e co d nt ⟨.str (gw c),H,I1,⟨u,rfl⟩,⟨rfl,c,hcp,rfl⟩,⟨hg,st'⟩,fun b hb=>(hf b hb).1⟩⟩
 ·intro X hP hw hK hc i pins s σ H E I hf st hg
  subst hP hw hK
  obtain⟨f0,f1,f2,f3,f4,f5⟩:=hf it (by simp)
  have e:i=z.cps.size:=Nat.le_antisymm st.1 hg
  subst e
  exact zG I.tk ((W X.A (I.ok.hd hc)).done s _ _ st.2 fun h' tk kk ht=>⟨rfl,I.turned (fun b o hb e=>kk b o (by simpa using hb) e) f0 f1 f3 f4 f5⟩)
 ·intro A i s Q E st h
  rcases hty with rfl|rfl
  ·exact wpAny_pyIter_striter_ascii st.2 h
  ·exact wpAny_pyIter_striter_wide st.2 h
def lm{ys:Vs}:∀{us:Vv},Vals (ys.map V.str) us->StrsAre us ys:=by
 induction ys with
 |nil=>intro us r;rw[AX]at r;cases r;exact .nil
 |cons n ns ih=>
  intro us r
  rw[zF]at r
  cases r with
  |cons r1 r2=>
   obtain⟨t,e⟩:=r1
   subst e
   exact .cons n t (ih r2)
noncomputable def pS(K:Vo):V->List V->Hp->VK->Prop:=fun x vs H Q=>∃sep p ys,x = .str sep/\vs=[.ref p]/\SqL K H p (ys.map V.str)/\(ys.map (·.length)).sum+ys.length * sep.length<=1000000/\Q (.str (Txt.join sep ys)) H
def lp:qL X "str.join" (pS X.K):=by
 intro pins s σ H x vs v us Q I rx rv h
 obtain⟨sep,p,ys,rfl,rfl,hp,hz,q⟩:=h
 obtain⟨t,rfl⟩:=rx
 obtain⟨u,rfl,ru⟩:=eh rv
 cases ru
 obtain⟨its,r,pl,_⟩:=I.list hp
 exact zG I.tk (join_list pl.isList (by simpa using lm r) (by omega) fun t' k ht=>⟨.str _,H,I.tok k ht,⟨t',rfl⟩,q⟩)
end
section
variable {X:Cx}
noncomputable def rA:V->Option Int->Option Int->Hp->VK->Prop:=fun x lo hi H Q=>∃z,x = .str z/\z.length<=sizeLine/\Q (.str (Txt.slice z lo hi)) H
def m_:oP X rA:=by
 intro pins s σ H x v vl vu lo hi sl Q I rx hs pl pu h
 obtain⟨z,rfl,hz,q⟩:=h
 obtain⟨t,rfl⟩:=rx
 refine⟨"str",_,F.slot_str_getitem.lookup,typeIs_str _ _ _,?_⟩
 obtain⟨o,e,c,d⟩:=hs
 have fin:∀l u:Option (Int×Tok),(vl=partValue l/\lo=l.map (·.1))->(vu=partValue u/\hi=u.map (·.1))->wpAny (model X.prog X.w) X.A (getItem (.str z t) (.ref sl)) (EP X pins σ Q) X.xe s:=by
  rintro l u ⟨rfl,rfl⟩ ⟨rfl,rfl⟩
  exact zG I.tk (wpAny_getItem_str_slice (l:=l) (u:=u) (st:=none) ⟨o,e,c,d⟩ rfl (post_val_or_str ⟨zH (Txt.slice_le z _ _) hz,fun t' k ht=>⟨.str _,H,I.tok k,⟨t',rfl⟩,q⟩⟩))
 cases pl with
 |none=>
  cases pu with
  |none=>exact fin none none ⟨rfl,rfl⟩ ⟨rfl,rfl⟩
  |int j uj=>exact fin none (some (j,uj)) ⟨rfl,rfl⟩ ⟨rfl,rfl⟩
 |int i ui=>
  cases pu with
  |none=>exact fin (some (i,ui)) none ⟨rfl,rfl⟩ ⟨rfl,rfl⟩
  |int j uj=>exact fin (some (i,ui)) (some (j,uj)) ⟨rfl,rfl⟩ ⟨rfl,rfl⟩
end
end L2
namespace Zt
open PySem
open Sem (wp)
end Zt
namespace L2
open PySem PySem.Spec PyProof.Rows
section
variable {env:Env} {rest:List Expr} {pos:Pos}
def iP{a:Expr}{gs:List Comprehension}{sc:Scope}:starEach (.ListComp a gs sc pos::rest) env=(false,eval (.ListComp a gs sc pos) env)::starEach rest env:=rfl
end
end L2
namespace Et
open PySem
open Sem (wp)
open AutoSeq1 (wpAny_loadPart')
end Et
namespace L2
open PySem PySem.Spec PyProof.Rows
end L2
namespace Wd
open PySem L2 PyProof.Rows
noncomputable def abc:Str:="abcdefghijklmnopqrstuvwxyz"
def ng:∀i,i < 26->abc.cps.toList[i]?=some (97+i):=by decide +kernel
def lq:abc.length<=sizeLine/\abc.cps.toList.length=26:=by decide +kernel
structure sD (z:Str):Prop where
 ne:z.cps.toList≠[]
 le:z.cps.toList.length<=6
 sm:∀c∈z.cps.toList,97<=c/\c<=122
def ni(i:Nat):ul abc.cps.toList ((i % 26:Nat):Int)=some (97+i % 26):=hJ (ng _ (Nat.mod_lt _ (by decide)))
def gM(cs:List Nat):Txt.join "" (cs.map gw)=⟨cs.toArray⟩:=by
 have q:=join_nil_signs ⟨cs.toArray⟩
 have e:Txt.join "" (cs.map gw)=Str.join ⟨#[]⟩ (cs.map gw):=StrLaws.glued_eq_join _ _
 rw[e]
 exact q
def lr(cs:List Nat):((cs.map gw).map (·.length)).sum=cs.length:=by
 induction cs with
 |nil=>rfl
 |cons c r ih=>rw[zF,zF,List.sum_cons,ih,zy];show 1+r.length=_;omega
end Wd
namespace M3
end M3
namespace Xc
open PySem PySem.W PySem.Calls PyProof.Rows Builtin Builtin.ObjectAttr
noncomputable abbrev nj:List Value:=[.type "ValueError",.type "Exception",.type "BaseException",.type "object"]
noncomputable def bD(K:Frag)(C:Addr):Bool:=match K.lookup C with
 |some ⟨.type "type",_,.cls cd,sl⟩=>(match cd.mro,sl.toList with
  | .ref C'::bm,[_,_,_,_,some (.builtin n),_]=>C' == C&&n == "ValueError.__new__" && !cd.hasDel&&cd.hasDict&&tailIn K nj bm
  |_,_=>false)
 |_=>false
def fk{K:Frag}{h:Heap}{C:Addr}(X:K.In h)(q:bD K C=true):∃nm qn N bs bm sn sub ab col dd k0 k1 k2 k3 k5,
  K.lookup C=some (excClassObj nm qn C N bs bm true sn sub ab col dd k0 k1 k2 k3 k5 "ValueError.__new__")/\OwnTail h nj bm:=by
 unfold bD at q
 split at q
 ·rename_i dd cd sl ho
  split at q
  ·rename_i C' bm k0 k1 k2 k3 n k5 hm hs
   simp only[z8,Ay,Bool.not_eq_true']at q
   obtain⟨⟨⟨⟨rfl,rfl⟩,wO⟩,hdct⟩,ht⟩:=q
   obtain⟨nm,bs,mro,ns,qn,hd,sn,sub,ab,col,del⟩:=cd
   dsimp only at hm wO hdct
   subst hm wO hdct
   have hsl:sl=#[k0,k1,k2,k3,some (.builtin "ValueError.__new__"),k5]:=by
    obtain⟨l⟩:=sl
    simp only at hs
    rw[hs]
   subst hsl
   exact⟨nm,qn,ns,bs,bm,sn,sub,ab,col,dd,k0,k1,k2,k3,k5,ho,tail_of_in X ht⟩
  ·cases q
 ·cases q
noncomputable abbrev aQ(rest:Vv):Obj:={ cls:=.type "tuple",data:=.seq rest.toArray }
noncomputable abbrev aH(C:Addr)(t:Addr):Obj:={ cls:=.ref C,data:=.fields #[.ref t,.none,.none,.none,.bool false,.none] }
section
variable {prog:Program} {w:World} {A:Around} {K:Frag} {C f:Addr} {R:Result->Shared->Prop} {h:Heap} {g:Array GenState} {d:Drawn} {t:Nat} {os:OsState}
def jL{rest:Vv}(X:K.In h)(q:bD K C=true)(hi:findIn K (.ref C) "__init__" = some (some (.ref f)))(hf:typeIn K (.ref f)=some (.type "function"))(hrest:rest.length<=sizeLine)
  (hq:codeAny (model prog w) (A.under (.builtin "type.__call__" ⟨.ref C::rest,[]⟩)) (.call (.ref f) ⟨.ref (h.objs.size+1)::rest,[]⟩) (InitBack (h.objs.size+1) R) ⟨(h.push (aQ rest)).push (aH C h.objs.size),g,d,t,os⟩) :
  codeAny (model prog w) A (.call (.ref C) ⟨rest,[]⟩) R ⟨h,g,d,t,os⟩:=by
 obtain⟨nm,qn,N,bs,bm,sn,sub,ab,col,dd,k0,k1,k2,k3,k5,hK,T⟩:=fk X q
 have hC:=X _ _ hK
 have F0:=Az
 have f1:=tc_lookup
 have f2:=tc_bind (.ref C)
 have hT:(⟨h,g,d,t,os⟩:Shared).TypeIs (.ref C) "type":=⟨_,hC,rfl⟩
 refine codeAny_of_tree ?_
 show wpAny _ _ (callAny (.ref C) _) _ _ _
 repeat (any_goals (first|assumption|with_reducible refine Ad hC ?_|wp_step))
 refine⟨rfl,?_⟩
 refine codeAny_call_builtin_at (AN _ (by decide +kernel)) entry_typeCall (wpAny_check_type_call_sub hC ?_)
 repeat (first|with_reducible refine Ad hC ?_|with_reducible refine wpAny_madeBy_exc hC ?_|wp_step)
 refine codeAny_call_builtin_code (AN _ F0.quiet) (wpAny_check_new_subU F0 F0.hasB T hC ?_)
 refine codeAny_exc_new_subU F0 F0.hasB F0 T hC ?_ hrest
 show wpAny _ _ _ _ _ _
 have k:∀b o,h.get? b=some o->((h.push (aQ rest)).push (aH C h.objs.size)).get? b=some o:=fun b o e=>zp _ (zp _ e)
 have hx:((h.push (aQ rest)).push (aH C h.objs.size)).get? (h.objs.size+1)=some (aH C h.objs.size):=by heap_get
 have t1:Looks (model prog w) ((h.push (aQ rest)).push (aH C h.objs.size)) (typeOf (.ref (h.objs.size+1))) (.ref C):=(Looks.ld hx).andThen .now
 have xI:=k _ _ hC
 have hcC:(Value.ref C::bm).contains (.ref C)=true:=by simp
 have i1:=(A9 (M:=model prog w) X hi).keeps k
 have b1:=(bind_fn (M:=model prog w) X (.ref (h.objs.size+1)) hf).keeps k
 show wpAny (model prog w) (A.under (.builtin "type.__call__" ⟨.ref C::rest,[]⟩)) _ _ _ ⟨(h.push (aQ rest)).push (aH C h.objs.size),g,d,t,os⟩
 unfold isInstance callSpecial? specialOf
 repeat (first|with_reducible refine AM ?_|simp only[hcC,Av,zO,Ag]|lk)
 refine AB hq fun r s' z=>?_
 rcases r with e|(v|_|_|_)<;>first|exact z|exact z.elim|skip
 obtain⟨rfl,z⟩:=z
 exact zq (zq z)
end
structure iQ (h:Heap) (e:Addr) (oe:Obj) (vs:Vw):Prop where
 at_:h.get? e=some oe
 dat:oe.data = .fields vs
 tb:vs[1]?=some .none\/∃T oT ts,vs[1]?=some (.ref T)/\T≠e/\h.get? T=some oT/\oT.data = .fields ts/\3 < ts.size
section
variable {M:Model} {A:Around} {E:Vq} {s:Shared}
noncomputable abbrev pT(l:List Env):List Addr:=l.filterMap (·.frame)
structure eG (l:List Env) (e:Addr) (oe:Obj) (old:Addr->Prop) (h h':Heap):Prop where
 lies:∃vL vs' T oT ts,h'.get? e=some vL/\vL.cls=oe.cls/\vL.dict=oe.dict/\vL.data = .fields vs'/\vs'[1]?=some (.ref T)/\(h.objs.size<=T\/old T)/\T≠e/\h'.get? T=some oT/\oT.data = .fields ts/\3 < ts.size/\∀ws,oe.data = .fields ws->vs'[2]?=ws[2]?
 keep:∀b o,b≠e->¬old b->b ∉ pT l->h.get? b=some o->h'.get? b=some o
 slot:∀b o,b∈pT l->h.get? b=some o->∃sl,h'.get? b=some { o with slots:=sl }
def dr{base:Heap}{env:Env}{outer:List Env}{L e:Addr}{oe:Obj}{vs:Vw}{head:Value}{hadNext:Bool}{Q:Unit->Shared->Prop}
  (hfr:A.frames=some (env::outer)) (hl:s.heap.FunFrames base (env::outer)) (hf:env.frame=some L) (he:s.heap.get? e=some oe) (hd:oe.data = .fields vs) (hsz:1 < vs.size)
  (h:∀h',eG (env::outer) e oe (fun _=>False) s.heap h'->Q () { s with heap:=h' }) :
  wpAny M A (do let a <-frameOf env;let pl <-entryPlaceOf L hadNext;let b <-EntryCells.newEntry head a .none (rawInt L) .none pl;setField (.ref e) 1 b) Q E s:=by
 have wP:e ∉ (env::outer).filterMap (·.frame):=fun hm=>by
  obtain⟨_,o,ho,hnf⟩:=hl.mem hm
  rw[he]at ho;injection ho with ho;subst ho;exact hnf vs hd
 refine zo (wpAny_frameOf_fun hfr hl hf fun h₁ hs₁=>?_)
 refine zo (wpAny_entryPlaceOf fun pl hpl=>?_)
 unfold EntryCells.newEntry newFields
 refine zo (z4 ?_ (hpl.sizeOk5 _ _ _ _ _))
 have yf:h₁.get? e=some oe:=(hs₁.2.1 e wP).trans he
 have yg:=zp (h:=h₁) { cls:=.type "traceback",dict:=none,data:=.fields ([head,.ref L,.none,rawInt L,.none]++(if pl.isEmpty then List.replicate 6 Value.none else pl)).toArray } yf
 refine wpAny_setField yg hd hsz ?_
 have wQ:h₁.objs.size≠e:=AU (zu yf)
 have hd₃:=Obj.data_mapFields hd (·.setIfInBounds 1 (Value.ref h₁.objs.size))
 have yO:=zS (Obj.mapFields (·.setIfInBounds 1 (Value.ref h₁.objs.size))) yg (Obj.isFreed_of_fields hd₃)
 have yP:=(zB (h₁.push { cls:=.type "traceback",dict:=none,data:=.fields ([head,.ref L,.none,rawInt L,.none]++(if pl.isEmpty then List.replicate 6 Value.none else pl)).toArray })
  (Obj.mapFields (·.setIfInBounds 1 (Value.ref h₁.objs.size))) (Al wQ)).trans (zz h₁ rfl)
 refine h _ ?_
 have keep:∀b o,b≠e->h₁.get? b=some o->
   ((h₁.push { cls:=.type "traceback",dict:=none,data:=.fields ([head,.ref L,.none,rawInt L,.none]++(if pl.isEmpty then List.replicate 6 Value.none else pl)).toArray }).update e (Obj.mapFields (·.setIfInBounds 1 (Value.ref h₁.objs.size)))).get? b=some o:=fun b o vz hb=>by
  rw[zB _ _ (Al vz)]
  exact zp _ hb
 refine⟨⟨_,_,h₁.objs.size,_,_,yO,Obj.cls_mapFields _ _,?_,hd₃,by simp[hsz],.inl (Nat.le_of_eq hs₁.1.symm),wQ,yP,rfl,by simp only[zx,zN,List.length_cons,List.length_nil];omega,fun ws hw=>by rw[hd]at hw;cases hw;simp⟩,fun b o vz _ vh hb=>keep b o vz ((hs₁.2.1 b vh).trans hb),fun b o vh hb=>?_⟩
 ·obtain⟨c,dd,da,sl⟩:=oe;cases hd;rfl
 ·obtain⟨sl,hs⟩:=hs₁.2.2 b o hb
  exact⟨sl,keep b _ (fun z=>wP (z▸vh)) hs⟩
def bv(vs:Vw)(b:Addr):Prop:=vs[1]?=some (.ref b)
def jM{base:Heap}{env:Env}{outer:List Env}{L e:Addr}{oe:Obj}{vs:Vw}{Q:Unit->Shared->Prop}
  (hfr:A.frames=some (env::outer)) (hl:s.heap.FunFrames base (env::outer)) (hf:env.frame=some L) (x:iQ s.heap e oe vs)
  (h:∀h',eG (env::outer) e oe (bv vs) s.heap h'->Q () { s with heap:=h' }):wpAny M A (noteFrame (.ref e) env) Q E s:=by
 obtain⟨he,hd,h1|⟨T,oT,ts,h1,wQ,hT,wR,h3⟩⟩:=x
 ·unfold noteFrame
  simp only[hf]
  refine zo (Ab he hd h1 ?_)
  rw[if_neg (by decide)]
  refine dr hfr hl hf he hd (Array.getElem?_eq_some_iff.mp h1).1 fun h' n=>h h' ⟨(by obtain⟨vL,vs',T',xf,ts',a1,a2,a3,a4,a5,a6,a7⟩:=n.lies;exact⟨vL,vs',T',xf,ts',a1,a2,a3,a4,a5,.inl (a6.resolve_right id),a7⟩),fun b o hb _=>n.keep b o hb id,n.slot⟩
 ·unfold noteFrame
  simp only[hf]
  refine zo (Ab he hd h1 ?_)
  rw[if_pos (show(Value.ref T != Value.none)=true from by simp)]
  obtain⟨x3,yQ⟩:∃x3,ts[3]?=some x3:=⟨ts[3],Array.getElem?_eq_getElem h3⟩
  refine zo (Ab hT wR yQ ?_)
  by_cases yh:(x3 == rawInt L)=true
  ·rw[if_pos yh]
   refine zq (h s.heap ⟨⟨oe,vs,T,oT,ts,he,rfl,rfl,hd,h1,.inr h1,wQ,hT,wR,h3,fun ws hw=>by rw[hd]at hw;cases hw;rfl⟩,fun b o _ _ _ q=>q,fun b o _ q=>⟨o.slots,q⟩⟩)
  rw[if_neg yh]
  refine zo (wpAny_setField hT wR h3 ?_)
  have other:∀b,b≠T->(s.heap.update T (Obj.mapFields (·.setIfInBounds 3 Value.none))).get? b=s.heap.get? b:=fun b hb=>zB _ _ (Al hb)
  have vU:∀b o,s.heap.get? b=some o->(∀vs,o.data ≠ .fields vs)->b≠T:=fun b o hb hnf q=>by
   rw[q,hT]at hb;injection hb with hb;subst hb;exact hnf ts wR
  refine dr hfr (hl.of_keeps fun b o hb hnf=>⟨o,(other b (vU b o hb hnf)).trans hb,rfl⟩) hf ((other e (Al wQ)).trans he) hd (Array.getElem?_eq_some_iff.mp h1).1 fun h' n=>h h' ⟨?_,fun b o hb ho vh q=>n.keep b o hb id vh ((other b fun z=>ho (by rw[z];exact h1)).trans q),fun b o vh q=>n.slot b o vh ((other b fun z=>?_).trans q)⟩
  ·obtain⟨vL,vs',T',xf,ts',a1,a2,a3,a4,a5,a6,a7⟩:=n.lies
   exact⟨vL,vs',T',xf,ts',a1,a2,a3,a4,a5,.inl (by simpa [Heap.size_after_update]using a6.resolve_right id),a7⟩
  ·obtain⟨_,o',ho',hnf⟩:=hl.mem vh
   rw[z,hT]at ho';injection ho' with ho';subst ho';exact hnf ts wR
def ia{base:Heap}{env:Env}{outer:List Env}{L e:Addr}{oe:Obj}{vs:Vw}{Q:Unit->Shared->Prop}
  (hfr:A.frames=some (env::outer)) (hl:s.heap.FunFrames base (env::outer)) (hf:env.frame=some L) (x:iQ s.heap e oe vs)
  (h:∀h',eG (env::outer) e oe (bv vs) s.heap h'->Q () { s with heap:=h' }) :
  wpAny M A (noteFrame (.ref e) env) (fun _ s'=>wpAny M A (setFlight (.ref e) none) Q E s') E s:=by
 refine jM hfr hl hf x fun h1 n=>?_
 obtain⟨vL,vs',T,oT,ts,a1,a2,a3,a4,a5,a6,a7,a8,a9,xg,xJ⟩:=n.lies
 have tf:∀b o,s.heap.get? b=some o->b∈pT (env::outer)->b≠T:=fun b o q vh z=>by
  rcases a6 with a6|a6
  ·exact absurd (zv (zu q) (z▸a6)) (zP _)
  ·obtain⟨he,hd,h1|⟨T',xf,ts',g1,g2,g3,g4,g5⟩⟩:=x
   ·rw[bv,h1]at a6;cases a6
   ·rw[bv,g1]at a6;cases a6
    obtain⟨_,o',ho',hnf⟩:=hl.mem vh
    rw[z,g3]at ho';injection ho' with ho';subst ho';exact hnf ts' g4
 refine wpAny_setFlight_none a1 a4 a5 a8 a9 xg (h _ ⟨⟨vL,vs',T,_,_,(zB _ _ a7).trans a1,a2,a3,a4,a5,a6,a7,zS _ a8 (Obj.isFreed_of_fields (Obj.data_mapFields a9 _)),Obj.data_mapFields a9 _,by simpa using xg,xJ⟩,fun b o hb ho vh q=>(zB _ _ fun z=>?_).trans (n.keep b o hb ho vh q),fun b o vh q=>?_⟩)
 ·rcases a6 with a6|a6
  ·exact absurd (zv (zu q) (z▸a6)) (zP _)
  ·exact ho (z▸a6)
 ·obtain⟨sl,q'⟩:=n.slot b o vh q
  exact⟨sl,(zB _ _ (Al (tf b o q vh))).trans q'⟩
def jN{base:Heap}{env:Env}{outer:List Env}{L e:Addr}{oe:Obj}{vs:Vw}{Q:Unit->Shared->Prop}
  (hfr:A.frames=some (env::outer)) (hl:s.heap.FunFrames base (env::outer)) (hf:env.frame=some L) (x:iQ s.heap e oe vs)
  (h:∀h',eG (env::outer) e oe (bv vs) s.heap h'->Q () { s with heap:=h' }):wpAny M A (leaving env (.ref e)) Q E s:=by
 unfold leaving
 exact zo (ia hfr hl hf x h)
end
section
variable {M:Model} {A:Around} {E:Vq} {env:Env} {K:Frag} {C:Addr}
def eI{s:Shared}{x:Sem Value}{Q:Flow->Shared->Prop}(q:bD K C=true)(hh:A.handled=none)
  (h:wpAny M A x (fun v s₁=>∃e oe vs,v = .ref e/\K.In s₁.heap/\s₁.heap.get? e=some oe/\oe.cls = .ref C/\oe.data = .fields vs/\vs[1]?=some .none/\E (.ref e) s₁) E s) :
  wpAny M A (raiseStmt env (some x) none) Q E s:=by
 unfold raiseStmt
 refine zo (zL h (fun v s₁ h₁=>?_) fun _ _ x=>x)
 obtain⟨e,oe,vs,rfl,X,he,hc,hd,h1,hE⟩:=h₁
 obtain⟨nm,qn,N,bs,bm,sn,sub,ab,col,dd,k0,k1,k2,k3,k5,hK,T⟩:=fk X q
 have hC:=X _ _ hK
 obtain⟨hp,g,d,tk,os⟩:=s₁
 have yR:(Value.ref C::bm).contains (.type "BaseException")=true:=by rw[AO,T.hasType Az.hasBase];rfl
 have yS:(Value.ref C::bm).contains (.type "type")=false:=by rw[AO,T.hasType (b:=false) (by decide +kernel)];rfl
 repeat (first|(with_reducible refine Ad he ?_;rw[hc])|with_reducible refine Ad hC ?_|(with_reducible refine wpAny_isSubtype_exc hC ?_;first|rw[yR]|rw[yS])|with_reducible refine Ab he hd h1 ?_|wp_step)
 exact wpAny_raiseNew_none hh hE
end
structure ExcK (K:Frag) (C:Addr):Prop where
 ok:bD K C=true
 sa:findIn K (.ref C) "__setattr__" = some (some (.builtin "object.__setattr__"))
 ga:findIn K (.ref C) "__getattribute__" = some (some (.builtin "BaseException.__getattribute__"))
 gh:findIn K (.ref C) "__getattr__" = some none
 be:mroIn K C (.type "BaseException")=some true
 ob:mroIn K C (.type "object")=some true
 cl:findIn K (.ref C) "__class__" = some (some (.builtin "object.__class__"))
 cg:specialIn K (.builtin "object.__class__") "__get__" = some (some (.builtin "getset_descriptor.__get__"))
 ct:takesIn K (.builtin "object.__class__")=some true
def ExcK.dict{K:Frag}{C:Addr}(k:ExcK K C):hasDictIn K C=true:=by
 have q:=k.ok
 unfold bD at q
 unfold hasDictIn clsIn
 split at q
 ·rename_i dd cd sl ho
  rw[ho]
  split at q
  ·simp only[z8]at q
   exact q.1.2
  ·cases q
 ·cases q
section
variable {prog:Program} {w:World} {A:Around} {E:Vq} {s:Shared} {K:Frag} {x C:Addr} {ox:Obj} {od:Option Obj} {name:Str} {expr:Bool} {Q:Vq}
def jO{M:Model}{nameV:Value}{Q:Unit->Shared->Prop}(X:K.In s.heap)(I:InstAt s.heap x ox C od)(k:ExcK K C)(hq:Q () s) :
  wpAny M A (checkBuiltinCall "BaseException.__getattribute__" ⟨[.ref x,nameV],[]⟩) Q E s:=
 @check_slot M A E s "BaseException.__getattribute__" "BaseException" "__getattribute__" (.ref x) [nameV] [] Q (by decide +kernel) (by decide +kernel) (I.type.andThen (looks_mroIn X k.be)) (F.args_bexc_ga (.ref x) nameV) hq
def jP{nameV:Value}{fill:Bool}(X:K.In s.heap)(I:InstAt s.heap x ox C od)(k:ExcK K C)
  (h:codeAny (model prog w) A (.call (.builtin "BaseException.__getattribute__") ⟨[.ref x,nameV],[]⟩) (fun r s'=>match r with | .ok (.ret v)=>wpAny (model prog w) A (handedOut v) Q E s'|_=>False) s) :
  wpAny (model prog w) A (getAttrBy (.ref x) nameV fill expr) Q E s:=by
 obtain⟨hh,g,d,t,os⟩:=s
 have L0:=I.type (M:=model prog w)
 have L1:=A9 (M:=model prog w) X k.ga
 have L2:=A9 (M:=model prog w) X k.gh
 have f3:=F.attr_ValueError.ga.bind (.ref x)
 have yT:(expr&&onTheHeap (Value.builtin "BaseException.__getattribute__"))=false:=by cases expr<;>rfl
 have yU:(Value.builtin "BaseException.__getattribute__" == Value.builtin "object.__getattribute__")=false:=by decide +kernel
 have yV:(onTheHeap (Value.ref C)&&Value.builtin "BaseException.__getattribute__" == Value.builtin "object.__getattribute__")=false:=by rw[yU];rfl
 unfold getAttrBy
 refine zZ (zo (L0.at (zo (L1.at ?_))))
 dsimp only
 rw[if_neg (by rw[yV];decide)]
 unfold getAttrByItsOwn hookBefore
 refine zo ?_
 show wpAny _ _ (typeLookup (.ref C) "__getattr__") _ _ _
 refine L2.at (zo (wpAny_attempt (zZ ?_)))
 unfold callGetattribute
 rw[if_neg (by rw[yT];decide)]
 unfold boundAndCalled
 rw[f3]
 refine zo (zq (AM (AB h fun r s' z=>?_)))
 rcases r with e|(v|_|_|_)<;>first|exact z.elim|exact z
def jQ{nameV:Value}{R:Result->Shared->Prop}(X:K.In s.heap)(I:InstAt s.heap x ox C od)(k:ExcK K C)
  (h:wpAny (model prog w) A.in1 (Builtin.«object.__getattribute__» ⟨[.ref x,nameV],[]⟩) (fun fin s'=>match fin with | .done f=>R (.ok f) s' | .again c'=>c'.quiet=true/\codeAny (model prog w) A c' R s') (fun e s'=>R (.error e) s') s) :
  codeAny (model prog w) A (.call (.builtin "BaseException.__getattribute__") ⟨[.ref x,nameV],[]⟩) R s:=
 A5 F.attr_ValueError.ga.plain F.entry_bexc_ga (jO X I k h)
def ls{v:Value}(X:K.In s.heap)(I:InstAt s.heap x ox C od)(k:ExcK K C)(hf:findObj K C od name=some (.value v))(hh:handedIn v=true)(h:Q v { s with toks:=s.toks+1 }) :
  wpAny (model prog w) A (getAttr (.ref x) name expr) Q E s:=by
 unfold getAttr
 refine zo (wpAny_mkText ?_)
 refine jP (s:={ s with toks:=s.toks+1 }) X I k (jQ (s:={ s with toks:=s.toks+1 }) X I k ?_)
 obtain⟨hh',g,d,t,os⟩:=s
 have L0:=I.type (M:=model prog w)
 have L1:=looks_find (M:=model prog w) X I hf
 unfold Builtin.«object.__getattribute__»
 refine zo (zq (zo (zq (zo (L0.at (zo (L1.at ?_)))))))
 refine zq ?_
 show wpAny _ _ (handedOut v) _ _ _
 rw[handedOut_of hh];exact zq h
def iR{Q:Option Value->Shared->Prop}(X:K.In s.heap)(I:InstAt s.heap x ox C od)(k:ExcK K C)(h:Q (some (.ref C)) { s with toks:=s.toks+1 }) :
  wpAny (model prog w) A (getAttr? (.ref x) "__class__") Q E s:=by
 have hf:findObj K C od "__class__" = some (.bind (.builtin "getset_descriptor.__get__") (.builtin "object.__class__")):=by
  obtain⟨cd,hc,_⟩:=any_some k.dict
  unfold findObj
  rw[hc,Option.bind_some,k.cl,Option.bind_some]
  simp[k.cg,k.ct]
 unfold getAttr? getAttrBy?
 refine zo (wpAny_mkText (zo (wpAny_attempt ?_)))
 refine jP (s:={ s with toks:=s.toks+1 }) X I k (jQ (s:={ s with toks:=s.toks+1 }) X I k ?_)
 obtain⟨hh',g,d,t,os⟩:=s
 have L0:=I.type (M:=model prog w)
 have L1:=looks_find (M:=model prog w) X I hf
 unfold Builtin.«object.__getattribute__»
 refine zo (zq (zo (zq (zo (L0.at (zo (L1.at ?_)))))))
 show wpAny _ _ (holding [Value.builtin "object.__class__"] (call (.builtin "getset_descriptor.__get__") [.builtin "object.__class__",.ref x,.ref C]) >>= ret) _ _ _
 refine zo (zZ (AM (class_get (s:=⟨hh',g,d,t+1,os⟩) (ox:=ox) (od:=od) X I k.ob ?_)))
 refine zq ?_
 show wpAny _ _ (handedOut (.ref C)) _ _ _
 rw[handedOut_of rfl];exact zq (zq h)
end
def dt{K:Frag}{x C:Addr}{ox:Obj}{od:Option Obj}(k:ExcK K C):KitX K (.ref x) (.ref C) (fun h=>InstAt h x ox C od) where
 ty:=fun _ _ _ I=>I.type
 it:=fun _ _ X _=>by
  obtain⟨cdD,vi,_⟩:=any_some k.dict
  unfold clsIn at vi
  split at vi
  ·rename_i c' d' yi sl' ho
   intro A' Q' E' s' k q
   unfold isType loadHead
   exact zo (Bc (k _ _ (X _ _ ho)) (zq q))
  ·cases vi
 ne:=fun h tp dd its n sl X htp=>by
  obtain⟨cdD,vi,_⟩:=any_some k.dict
  refine Bool.eq_false_iff.mpr fun q=>?_
  have e:C=tp:=Value.ref.inj (Ay.mp q)
  subst e
  unfold clsIn at vi
  split at vi
  ·rename_i c' d' yi sl' ho
   have z:=(X _ _ ho).symm.trans htp
   cases z
  ·cases vi
 ca:=fun X I q=>iR X I k q
def fO(self:Value){h:Heap}{l:Vv}(T:OwnTail h nj l):refuseLoop self "__setattr__" l=pure ():=by
 induction T with
 |base=>exact PySem.F.store_ValueError.passes self
 |own _ _ _ _ ih=>rw[refuseLoop_ref];exact ih
section
variable {prog:Program} {w:World} {A:Around} {E:Vq} {s:Shared} {K:Frag} {x C:Addr} {ox:Obj} {od:Option Obj} {name:Str} {v:Value} {R:Result->Shared->Prop}
def ib{tk:Tok}{r:Option Value}(X:K.In s.heap)(I:InstAt s.heap x ox C od)(k:ExcK K C)(ht:takerIn K C name=some r)
  (h:∀b,wpAny (model prog w) A.in1 (match r with|some a=>setByDescriptor a (.ref x) v|none=>storeInOwnDict (.ref x) (.ref C) (.str name tk) name v b)
   (fun fin s'=>match fin with | .done f=>R (.ok f) s' | .again c'=>c'.quiet=true/\codeAny (model prog w) A c' R s') (fun e s'=>R (.error e) s') s) :
  codeAny (model prog w) A (.call (.builtin "object.__setattr__") ⟨[.ref x,.str name tk,v],[]⟩) R s:=by
 have SF:=PySem.F.store_object
 obtain⟨nm,qn,N,bs,bm,sn,sub,ab,col,dd,k0,k1,k2,k3,k5,hK,T⟩:=fk X k.ok
 have hc:clsIn K C=some { name:=nm,bases:=bs,mro:=.ref C::bm,ns:=N,qualname:=qn,hasDict:=true,slotNames:=sn,subclasses:=sub,abstract:=ab,collection:=col,hasDel:=false }:=by unfold clsIn;rw[hK]
 have sub:Looks (model prog w) s.heap (isInstance (.ref x) (.type "object")) true:=I.type.andThen (looks_mroIn X k.ob)
 refine A5 SF.slot.plain SF.entry (@check_slot (model prog w) _ _ s "object.__setattr__" "object" "__setattr__" (.ref x) [.str name tk,v] [] _ SF.kind SF.split sub (SF.args (.ref x) (.str name tk) v) ?_)
 obtain⟨attr,ha,hr⟩:=Option.bind_eq_some_iff.mp ht
 have hm:Looks (model prog w) s.heap (mroOf (.ref C)) (.ref C::bm):=(looks_clsIn X hc).andThen .now
 have L3:Looks (model prog w) s.heap (storeTaker? attr) r:=by
  cases attr with
  |none=>cases hr;exact .now
  |some a=>
   obtain⟨b,hb,rfl⟩:=z0.mp hr
   refine(looks_takesIn X hb).andThen ?_
   cases b<;>exact .now
 rw[osa_eq,refuse_eq]
 refine zo (zo (I.type.here (zo (hm.here ?_))))
 rw[refuseLoop_ref,fO _ T]
 refine zq (zo (I.type.here (zo ((A9 X ha).here (zo (L3.here ?_))))))
 exact h _
def jR{Q:Unit->Shared->Prop}(X:K.In s.heap)(hx:s.heap.get? x=some ox)(hcl:ox.cls = .ref C)(hno:∀c,ox.data ≠ .cls c)(hd:ox.dict=none)(k:ExcK K C)(ht:takerIn K C name=some none)
  (h:∀h',h'.Ns1 s.heap.objs.size (fun y=>if y=name then some v else none)->h'.get? x=some { ox with dict:=some s.heap.objs.size }->(∀b o,b≠x->s.heap.get? b=some o->h'.get? b=some o)->Q () { s with heap:=h',toks:=s.toks+2 }) :
  wpAny (model prog w) A (setAttr (.ref x) name v) Q E s:=by
 have I:InstAt s.heap x ox C none:=⟨hx,hcl,by obtain⟨a,b,c,d⟩:=ox;cases c<;>first|rfl|exact absurd rfl (hno _),by rw[hd];trivial⟩
 refine set_plain X I k.sa (ib (s:={ s with toks:=s.toks+1 }) X I k ht fun b=>?_)
 obtain⟨cd,hc,hd'⟩:=any_some k.dict
 obtain⟨oc,odd,xh,osl⟩:=ox
 dsimp only at hcl hd hno
 subst hcl hd
 obtain⟨hp,g,d,t,os⟩:=s
 unfold storeInOwnDict ownDictForStores instanceDict
 refine zo (zq (zo (zo (Bc hx (zo (Looks.here (s:=⟨hp,g,d,t+1,os⟩) (looks_clsIn X hc) ?_))))))
 rw[hd']
 simp only[Av,zO,Ag]
 rw[if_neg (by simp[typeHasDict])]
 have yj:(hp.push { cls:=.type "dict",data:=.dict #[] }).get? x=some { cls:=Value.ref C,data:=xh,slots:=osl }:=zp _ hx
 have hxs:x≠hp.objs.size:=zD (zu hx)
 refine zo (wpAny_alloc' ?_)
 refine zo (wpAny_update' yj ?_)
 refine zq ?_
 have hgd:((hp.push { cls:=.type "dict",data:=.dict #[] }).update x fun o=>{ cls:=o.cls,dict:=some hp.objs.size,data:=o.data,slots:=o.slots }).get? hp.objs.size=some { cls:=.type "dict",data:=.dict #[] }:=
  (Heap.get?_update_ne _ _ _ _ hxs.symm).trans (Heap.get?_push_at rfl rfl)
 have hnd:((hp.push { cls:=.type "dict",data:=.dict #[] }).update x fun o=>{ cls:=o.cls,dict:=some hp.objs.size,data:=o.data,slots:=o.slots }).Ns hp.objs.size (fun _=>none):=
  ⟨_,#[],_,hgd,rfl,fun e he=>absurd he (by simp),fun _=>rfl⟩
 show wpAny _ _ (storeInDict hp.objs.size (.str name t) name v) _ _ _
 unfold storeInDict newKeyGuard
 refine zo (zq (zo (wpAny_nsSet1 (Heap.Ns1.of_empty hnd) fun h' hn' hs=>?_)))
 obtain⟨oD,esD,yW,xK,xL,vi⟩:=hn'.count (Within.cons name v Within.nil)
 refine zo (wpAny_lookBehind xK (by rw[xL];exact pastItsLine_dict (zH vi (by rw[zy,AK,Bd];omega))) ?_)
 refine zq (h h' hn' ?_ fun b o hb q=>(hs.2 b (zD (zu q))).trans ((Heap.get?_update_ne _ _ _ _ hb).trans (zp _ q)))
 refine(hs.2 x hxs).trans (zS _ yj ?_)
 have hfr:=(Heap.get?_some_iff.mp hx).2
 cases xh<;>first|rfl|exact hfr
def jS{dx:Addr}{mA:Vr}{ns:Vs}{Q:Unit->Shared->Prop}(X:K.In s.heap)(hx:s.heap.get? x=some ox)(hcl:ox.cls = .ref C)(hno:∀c,ox.data ≠ .cls c)(hd:ox.dict=some dx)(hn:s.heap.Ns1 dx mA)(k:ExcK K C)(ht:takerIn K C name=some none)
  (hw:PySem.Within mA ns) (hsz:ns.length<=sizeLine)
  (h:∀h',h'.Ns1 dx (fun y=>if y=name then some v else mA y)->Heap.SameBut dx s.heap h'->Q () { s with heap:=h',toks:=s.toks+2 }) :
  wpAny (model prog w) A (setAttr (.ref x) name v) Q E s:=by
 obtain⟨od,ho,hl⟩:=L2.em hn
 have I:InstAt s.heap x ox C (some od):=⟨hx,hcl,by obtain⟨a,b,c,d⟩:=ox;cases c<;>first|rfl|exact absurd rfl (hno _),by rw[hd];exact ho⟩
 refine set_plain X I k.sa (ib (s:={ s with toks:=s.toks+1 }) X I k ht fun b=>?_)
 obtain⟨cd,hc,hd'⟩:=any_some k.dict
 obtain⟨oc,odd,xh,osl⟩:=ox
 dsimp only at hcl hd hno
 subst hcl hd
 refine zo (zq (zo (zo (Bc hx (zo (Looks.here (s:={ s with toks:=s.toks+1 }) (looks_clsIn X hc) ?_))))))
 rw[hd']
 refine zq (a:=some dx) (zo (zq (zo ?_)))
 refine wpAny_nsSet1 (s:={ s with toks:=s.toks+1 }) hn fun h' hn2 hs2=>?_
 obtain⟨oD,esD,yW,xK,xL,vi⟩:=hn2.count (PySem.Within.cons name v hw)
 refine zo (wpAny_lookBehind xK (by rw[xL];exact pastItsLine_dict (zH vi (by rw[zy];omega))) ?_)
 exact zq (h _ hn2 hs2)
end
def fP{M:Model}{A:Around}{E:Vq}{s:Shared}{K:Frag}{x C D:Addr}{ox:Obj}{b:Bool}{Q:Bool->Shared->Prop}(X:K.In s.heap)(hx:s.heap.get? x=some ox)(hcl:ox.cls = .ref C)(hb:mroIn K C (.ref D)=some b)
  (hD:typeIn K (.ref D)=some (.type "type")) (vi:(clsIn K D).isSome=true) (vz:mroIn K D (.type "BaseException")=some true) (h:Q b s):wpAny M A (excMatches (.ref x) (.ref D)) Q E s:=by
 obtain⟨hp,g,d,t,os⟩:=s
 have t1:Looks M hp (typeOf (.ref x)) (.ref C):=by rw[<-hcl];exact(Looks.ld hx).andThen .now
 have t2:Looks M hp (typeOf (.ref D)) (.type "type"):=looks_typeIn X hD
 have t3:Looks M hp (isType (.ref D)) true:=by
  unfold clsIn at vi
  split at vi
  ·rename_i c' d' yi sl' ho
   intro A' Q' E' s' k q
   unfold isType loadHead
   exact zo (Bc (k _ _ (X _ _ ho)) (zq q))
  ·cases vi
 have i1:Looks M hp (isInstance (.ref D) (.type "tuple")) false:=t2.andThen (Looks.of_pure tc_notTuple)
 have i2:Looks M hp (isExcClass (.ref D)) true:=by
  unfold isExcClass
  refine t3.andThen ?_
  exact looks_mroIn X vz
 have i3:Looks M hp (isSubtype (.ref C) (.ref D)) b:=looks_mroIn X hb
 unfold excMatches
 refine zo (m:=isInstance (.ref D) (.type "tuple")) (i1.at ?_)
 simp only[zO,Ag]
 refine zo (zq ?_)
 rw[List.forIn_cons]
 refine zo (zo (zo (i2.at ?_)))
 simp only[Av,zO,Ag]
 refine zq (zq (zo (t1.at ?_)))
 rw[List.forIn_cons]
 refine zo (zo (zo (i3.at ?_)))
 cases b with
 |true=>exact zq (zq (zq h))
 |false=>exact zq (zq (zq h))
end Xc
namespace L2
open PySem PySem.Spec PyProof.Rows Xc
def oR(X:Cx)(pins:Va)(H:Hp)(h:Heap)(a C:Addr)(dx:Option Addr):Prop:=
 ∃oe vs,iQ h a oe vs/\oe.cls = .ref C/\oe.dict=dx/\tF X pins H a/\(∀T,vs[1]?=some (.ref T)->tF X pins H T)/\(X.fr=true->vs[2]?=some .none)
def pU(fr:Bool)(n:Nat)(H:Hp)(h:Heap)(a C:Addr)(dx:Option Addr):Prop:=
 ∃oe vs,iQ h a oe vs/\oe.cls = .ref C/\oe.dict=dx/\H a=none/\n<=a/\(∀T,vs[1]?=some (.ref T)->H T=none/\n<=T)/\(fr=true->vs[2]?=some .none)
noncomputable def kC(fr:Bool)(P:Program)(w:World):jp:=fun outer H s E e s'=>
 ∃a C dx H',e = .ref a/\s'.os=s.os/\AllBare s'.gens/\Un (frs outer) [] H H' s.heap s'.heap/\ua P w H' s'.heap/\pU fr s.heap.objs.size H' s'.heap a C dx/\E (.ref C) dx H'
section
variable {X:Cx} {pins:Va} {σ:St} {H H':Hp} {s s':Shared} {a C:Addr} {dx:Option Addr}
def Inv.noted{oe:Obj}{vs:Vw}{h':Heap}(I:Inv X pins σ H s)(n:eG X.stack a oe (bv vs) s.heap h')(x:iQ s.heap a oe vs)(hc:oe.cls = .ref C)(hd:oe.dict=dx)(f:tF X pins H a)(fT:∀T,vs[1]?=some (.ref T)->tF X pins H T)(fx:X.fr=true->vs[2]?=some .none) :
  Inv X pins σ H { s with heap:=h' }/\oR X pins H h' a C dx:=by
 have tr:∀b u,H b=some u->b≠a/\¬bv vs b/\b ∉ pT X.stack:=fun b u e=>⟨fun z=>(by rw[z,f.1]at e;cases e),fun z=>(by rw[(fT b z).1]at e;cases e),fun z=>(by rw[I.u4 b z]at e;cases e)⟩
 have ff:∀b,(b=a\/bv vs b)->tF X pins H b:=fun b hb=>by
  rcases hb with rfl|hb
  ·exact f
  ·exact fT b hb
 have hok:ua X.prog X.w H h':=fun b u e=>(I.hok b u e).stay (fun c v hc q=>by
  rcases hc with rfl|hc
  ·obtain⟨t1,t2,t3⟩:=tr c u e;exact n.keep c v t1 t2 t3 q
  ·obtain⟨t1,t2,t3⟩:=tr c _ hc;exact n.keep c v t1 t2 t3 q) (fun _ z=>z) fun _ _ z=>z
 have yX:∀b o,s.heap.get? b=some o->b≠a->¬bv vs b->∃o',h'.get? b=some o':=fun b o e h1 h2=>by
  by_cases hb:b∈pT X.stack
  ·obtain⟨sl,q⟩:=n.slot b o hb e;exact⟨_,q⟩
  ·exact⟨o,n.keep b o h1 h2 hb e⟩
 have go:∀ch:List Addr,(∀b,b∈ch↔(b=a\/bv vs b))->Inv X pins σ H { s with heap:=h' }:=fun ch hch=>by
  refine I.call (g':=s.gens) (t':=s.toks) (d':=s.drawn) (ch:=ch) ⟨fun b o e n1 n2 n3=>?_,fun b o e _ n2 _=>n.slot b o n2 e,fun _ _ _ z _=>z,fun b o e n1=>?_,fun _ _ z=>z,fun _ _ _ z=>z,fun _ ps z=>⟨#[],by rw[z];simp⟩⟩ hok I.bare fun b hb=>?_
  ·exact n.keep b o (fun z=>n3 ((hch b).mpr (.inl z))) (fun z=>n3 ((hch b).mpr (.inr z))) n2 e
  ·exact yX b o e (fun z=>n1 ((hch b).mpr (.inl z))) (fun z=>n1 ((hch b).mpr (.inr z)))
  ·obtain⟨f0,f1,f2,f3,f4,f5⟩:=ff b ((hch b).mp hb)
   exact⟨f3,f1,f4,f5⟩
 refine⟨?_,?_⟩
 ·rcases x.tb with h1|⟨T,oT,ts,h1,_⟩
  ·refine go [a] fun b=>⟨fun z=>.inl (by simpa using z),fun z=>?_⟩
   rcases z with z|z
   ·simp[z]
   ·unfold bv at z;rw[h1]at z;cases z
  ·refine go [a,T] fun b=>⟨fun z=>?_,fun z=>?_⟩
   ·simp only[zE,Aq,Bj]at z
    rcases z with z|z
    ·exact .inl z
    ·exact .inr (by rw[z];exact h1)
   ·rcases z with z|z
    ·simp[z]
    ·unfold bv at z;rw[h1]at z;cases z;simp
 ·obtain⟨vL,vs',T,oT,ts,a1,a2,a3,a4,a5,a6,a7,a8,a9,xg,xJ⟩:=n.lies
  refine⟨vL,vs',⟨a1,a4,.inr ⟨T,oT,ts,a5,a7,a8,a9,xg⟩⟩,a2.trans hc,a3.trans hd,f,fun T' hT'=>?_,fun z=>(xJ _ x.dat).trans (fx z)⟩
  rw[a5]at hT'
  cases hT'
  rcases a6 with a6|a6
  ·exact I.ut a6 (I.hok.fresh a6)
  ·exact fT T a6
def Inv.raised{fr:Bool}{E:XK}{e:Value}(I:Inv X pins σ H s)(ht:1<=s'.toks)(hfr:X.fr=true->fr=true)(h:kC fr X.prog X.w X.stack H s E e s'):∃a C dx H',e = .ref a/\Inv X pins σ H' s'/\oR X pins H' s'.heap a C dx/\E (.ref C) dx H':=by
 obtain⟨a,C,dx,H',rfl,os,bare,un,hok,⟨oe,vs,x,hc,hd,h0,hn,hT,hx⟩,hE⟩:=h
 refine⟨a,C,dx,H',rfl,I.wg (ch:=[]) os un hok bare ht (fun b z=>absurd z (by simp)),⟨oe,vs,x,hc,hd,I.ut hn h0,fun T z=>I.ut (hT T z).2 (hT T z).1,fun z=>hx (hfr z)⟩,hE⟩
end
noncomputable abbrev Cx.fb(X:Cx)(b:Bool):Cx:={ X with fr:=b }
def iS{fb:Bool}{P:Program}{w:World}{K:Vo}{mg:Vr}{base:Heap}{N:Vs}{qual:Str}{scope:Scope}{f:Addr}{cd:Value}{A:Around}{outer:List Env}{s s':Shared}{H H':Hp}{E:XK}{pins:Va}{σ:St}{a C:Addr}{dx:Option Addr}
  (I:Inv ((fJ (kC fb P w) P w K mg base N qual scope f cd A outer s H E).fb fb) pins σ H' s') (x:oR ((fJ (kC fb P w) P w K mg base N qual scope f cd A outer s H E).fb fb) pins H' s'.heap a C dx) (hE:E (.ref C) dx H') :
  (fJ (kC fb P w) P w K mg base N qual scope f cd A outer s H E).xe (.ref a) s':=by
 obtain⟨oe,vs,x,hc,hd,fa,fT,fx⟩:=x
 have hfr:(fJ (kC fb P w) P w K mg base N qual scope f cd A outer s H E).A.frames=some (envOfC qual scope s.heap.objs.size f cd::outer):=I.ok.frames
 have hl:=I.stack
 refine jN (s:=s') (env:=envOfC qual scope s.heap.objs.size f cd) (outer:=outer) hfr hl rfl x fun h' n=>?_
 obtain⟨I2,x2⟩:=I.noted (h':=h') n x hc hd fa fT fx
 obtain⟨vD,vM,x2,hc2,hd2,wC,xi,xM⟩:=x2
 have lt:∀b,tF ((fJ (kC fb P w) P w K mg base N qual scope f cd A outer s H E).fb fb) pins H' b->s.heap.objs.size<=b:=fun b q=>by
  rcases q.2.2.2.1 with z|z
  ·exact absurd (show b∈([]:List Addr)from z) (by simp)
  ·exact z
 exact⟨a,C,dx,H',rfl,I2.os,I2.bare,I2.base,I2.hok,⟨vD,vM,x2,hc2,hd2,wC.1,lt a wC,fun T z=>⟨(xi T z).1,lt T (xi T z)⟩,xM⟩,hE⟩
section
variable {X:Cx} {k:Nat} {f C:Addr} {fd:FuncData} {ps:Vs} {sp:Sp} {x m:Str} {p pos apos:Pos} {e o:Expr} {es:List Expr} {ta:TE} {t:TA}
noncomputable def EX(X:Cx)(pins:Va)(σ:St):XK:=fun c d H'=>∀s' a C dx,c = .ref C->d=dx->Inv X pins σ H' s'->oR X pins H' s'.heap a C dx->X.xe (.ref a) s'
def lu{fr:Bool}{pins:Va}{σ:St}{H:Hp}{s:Shared}{Q:VK}{E:XK}{us:Vv}{vs:List V}(F:eZ X.prog X.w X.K X.mg X.base (kC fr X.prog X.w) k f fd ps sp)(hfr:X.fr=true->fr=true)(hr:cz k X.A)(hb:Binds X.K fd ps [])
  (hE:∀c d H',E c d H'->EX X pins σ c d H') (I:Inv X pins σ H s) (r:Vals vs us) (h:sp vs H Q E):wpAny (model X.prog X.w) X.A (call (.ref f) us) (EP X pins σ Q) X.xe s:=by
 have hl:(us++[]).length=ps.length:=by rw[zV,<-r.length];exact F.len _ _ _ _ h
 have hb':=hb s us I.uR hl
 rw[zV]at hb'
 refine AM (AB (codeAny_toks_of I.tk (F.run X.A X.stack s H ⟨us,[]⟩ us vs Q E hr (.inl I.tk) I.wq hb' r h)) fun r s' ⟨ht,hq⟩=>?_)
 cases r with
 |error e=>
  obtain⟨a,C,dx,H',rfl,I',xa,he⟩:=I.raised ht hfr hq
  exact hE _ _ _ he s' a C dx rfl rfl I' xa
 |ok fl=>
  cases fl with
  |ret u=>exact I.after ht hq
  |next=>exact False.elim hq
  |brk=>exact False.elim hq
  |cont=>exact False.elim hq
def nk(X:Cx)(sp:Sp)(t:TA):TE:=fun σ H Q=>t σ H fun vs H1=>∃E,sp vs H1 Q E/\∀pins c d H',E c d H'->EX X pins σ c d H'
def jT{fr:Bool}(F:eZ X.prog X.w X.K X.mg X.base (kC fr X.prog X.w) k f fd ps sp)(hfr:X.fr=true->fr=true)(hr:cz k X.A)(hg:Gl X x)(hm:X.mg x=some (.ref f))(hk:PySem.W.keepIn X.K (.ref f)=true)(hb:Binds X.K fd ps [])
  (ha:PA X (e::es) t) (hdb:(x == ("__debug__":Str))=false:=by decide) (he:starEach (e::es) X.env=(false,eval e X.env)::starEach es X.env:=by rfl) (hpl:(backTo pos (starEach es X.env)).any (·.1)=false:=by rfl) :
  PE X (.Call (.Name x p) (e::es) [] pos) (nk X sp t):=by
 intro pins s σ H Q I h
 refine zW (bO I hg hm ?_ hdb)
 refine Bb (h₀:=X.base) I.ok.mod.wF hk (aB (ha pos pins s σ H _ I h) fun us s1 ⟨vs,H1,I1,r,E,q,hE⟩=>⟨I1.uR,?_⟩) he hpl
 exact lu F hfr hr hb (hE pins) I1 r q
end
def XO(a C:Addr)(d:Option Addr)(h:Heap):Prop:=∃oe vs,h.get? a=some oe/\oe.cls = .ref C/\oe.dict=d/\oe.data = .fields vs/\vs[1]?=some .none/\vs[2]?=some .none/\4 < vs.size
def XD(dx:Addr)(fs:List (Str×V))(h:Heap):Prop:=∃mA,h.Ns1 dx mA/\(∀f,uq (fs.lookup f) (mA f))/\PySem.Within mA (fs.map (·.1))
def XO.stay{a C:Addr}{d:Option Addr}{h1 h2:Heap}(x:XO a C d h1)(k:∀o,h1.get? a=some o->h2.get? a=some o):XO a C d h2:=let ⟨oe,vs,e,r⟩:=x;⟨oe,vs,k oe e,r⟩
def XD.stay{dx:Addr}{fs:List (Str×V)}{h1 h2:Heap}(x:XD dx fs h1)(k:∀o,h1.get? dx=some o->h2.get? dx=some o):XD dx fs h2:=let ⟨mA,⟨o,es,ep,e,r⟩,q⟩:=x;⟨mA,⟨o,es,ep,k o e,r⟩,q⟩
def XO.ok{P:Program}{w:World}{H:Hp}{h:Heap}{a C:Addr}{d:Option Addr}(x:XO a C d h):ObjOk P w H h a (.ext (XO a C d)):=⟨x,let ⟨oe,_,e,_⟩:=x;⟨oe,e⟩,fun _ _ y k=>y.stay k⟩
def XD.ok{P:Program}{w:World}{H:Hp}{h:Heap}{dx:Addr}{fs:List (Str×V)}(x:XD dx fs h):ObjOk P w H h dx (.ext (XD dx fs)):=⟨x,let ⟨_,⟨o,_,_,e,_⟩,_⟩:=x;⟨o,e⟩,fun _ _ y k=>y.stay k⟩
def XO.of{P:Program}{w:World}{H:Hp}{h:Heap}{a C:Addr}{d:Option Addr}(hok:ua P w H h)(e:H a=some (.ext (XO a C d))):XO a C d h:=(show ObjOk P w H h a (.ext (XO a C d))from hok a _ e).1
def XD.of{P:Program}{w:World}{H:Hp}{h:Heap}{a:Addr}{fs:List (Str×V)}(hok:ua P w H h)(e:H a=some (.ext (XD a fs))):XD a fs h:=(show ObjOk P w H h a (.ext (XD a fs))from hok a _ e).1
section
variable {X:Cx} {pins:Va} {σ:St} {H:Hp} {s:Shared}
def Inv.u6{D:Addr}{o:HO}(I:Inv X pins σ H s)(f:tF X pins H D)(n:ObjOk X.prog X.w (upd H D o) s.heap D o):Inv X pins σ (upd H D o) s:=by
 obtain⟨f0,f1,f2,f3,f4,f5⟩:=f
 have nD:∀b u,H b=some u->b≠D:=fun b u q=>au q f0
 have hok:ua X.prog X.w (upd H D o) s.heap:=fun b u q=>by
  by_cases hb:b=D
  ·subst hb
   rw[ad]at q
   cases q
   exact n
  ·rw[ac hb]at q
   exact(I.hok b u q).stay (fun _ _ _ z=>z) (fun c z=>by rw[ac (nD c _ z)];exact z) fun c xs z=>by rw[ac (nD c _ z)];exact z
 exact I.step (H':=upd H D o) (h':=s.heap) (g':=s.gens) (t':=s.toks) (d':=s.drawn) (ch:=[D])
  (fun b hb=>by
   have z:b=D:=by simpa using hb
   subst z
   exact⟨f3,f1,f4,f5⟩)
  (fun _ _ _ _ _ q _=>q) (fun _ o _ _ _ q _=>⟨o.slots,q⟩)
  (fun b o hb _ n=>by rw[ac (fun z=>hb (by simp[z]))];exact n)
  (fun _ o _ q=>⟨o,q⟩) (fun b xs q=>by rw[ac (nD b _ q)];exact q) (fun b o u q=>by rw[ac (nD b _ q)];exact q)
  (fun b ps q=>⟨#[],by rw[ac (nD b _ q),q];simp⟩) (fun _ q=>q) hok I.bare
def Inv.forget{H':Hp}{D:Addr}{φ:Heap->Prop}(I:Inv X pins σ H s)(e:H D=some (.ext φ))(h1:H' D=none)(h2:∀b,b≠D->H' b=H b):Inv X pins σ H' s:=by
 have ne:∀b u,H b=some u->u ≠ .ext φ->b≠D:=fun b u q z y=>by rw[y,e]at q;exact z (zK q).symm
 refine I.un (h':=s.heap) (t':=s.toks) ⟨fun _ _ q _ _ _=>q,fun _ o q _ _ _=>⟨o.slots,q⟩,fun b o q n _=>?_,fun _ o q _=>⟨o,q⟩,fun b xs q=>?_,fun b o u q=>?_,fun b ps q=>?_⟩ fun b u q=>?_
 ·by_cases z:b=D
  ·rw[z];exact h1
  ·rw[h2 b z];exact n
 ·rw[h2 b (ne b _ q fun z=>nomatch z)];exact q
 ·rw[h2 b (ne b _ q fun z=>nomatch z)];exact q
 ·exact⟨#[],by rw[h2 b (ne b _ q fun z=>nomatch z),q];simp⟩
 ·have hb:b≠D:=fun z=>by rw[z,h1]at q;cases q
  rw[h2 b hb]at q
  exact(I.hok b u q).stay (fun _ _ _ z=>z) (fun c z=>by rw[h2 c (ne c _ z fun y=>nomatch y)];exact z) fun c xs z=>by rw[h2 c (ne c _ z fun y=>nomatch y)];exact z
end
def jU(K:Vo)(ta tv:TE)(f:Str):TS:=fun D σ H=>tv σ H fun y H1=>ta σ H1 fun x H2=>∃a C,x = .ref a/\H2 a=some (.ext (XO a C none))/\ExcK K C/\NoAttr K C f/\
 ∀dx,H2 dx=none->dx≠a->D.nx σ (upd (upd H2 a (.ext (XO a C (some dx)))) dx (.ext (XD dx [(f,y)])))
def nl(K:Vo)(ta tv:TE)(f:Str):TS:=fun D σ H=>tv σ H fun y H1=>ta σ H1 fun x H2=>∃a C dx fs,x = .ref a/\H2 a=some (.ext (XO a C (some dx)))/\H2 dx=some (.ext (XD dx fs))/\a≠dx/\ExcK K C/\NoAttr K C f/\fs.length < 1000/\
 D.nx σ (upd H2 dx (.ext (XD dx (b_ f y fs))))
section
variable {X:Cx} {o value:Expr} {f:Str} {pos pos':Pos} {ta tv:TE}
def fm(ha:PE X o ta)(hv:PE X value tv)(hs:swapsWith value (some (.Attribute o f pos')) pos.line X.env=pure false):PS X (.Assign [.Attribute o f pos'] value pos) (jU X.K ta tv f):=by
 intro pins s σ H D I h
 refine plainObj_wpAny_Assign_Attribute (aB (hv pins s σ H _ I h) fun u s1 ⟨y,H1,I1,ry,q⟩=>aB (ha pins s1 σ H1 _ I1 q) fun ov s2 ⟨x,H2,I2,rx,a,C,ex,ea,k,n,q2⟩=>?_) hs
 subst ex
 obtain rfl:ov=Value.ref a:=rx
 obtain⟨oe,vs,g1,g2,g3,g4,g5⟩:=XO.of I2.hok ea
 have ne:s2.heap.objs.size≠a:=AU (zu g1)
 refine jR I2.uR g1 g2 (fun c z=>by rw[g4]at z;cases z) g3 k n.wj fun h' n1 n2 n3=>?_
 have J1:Inv X pins σ (upd H2 a (.ext (XO a C (some s2.heap.objs.size)))) { s2 with heap:=h',toks:=s2.toks+2 }:=
  I2.write (x:=a) (e:=a) (by rw[ea];exact True.intro) (.inl rfl) (fun b u hb z=>n3 b u hb z) ⟨_,n2⟩ (XO.ok ⟨_,vs,n2,g2,rfl,g4,g5⟩)
 have f0:H2 s2.heap.objs.size=none:=I2.hok.fresh (zw _)
 have f1:tF X pins (upd H2 a (.ext (XO a C (some s2.heap.objs.size)))) s2.heap.objs.size:=I2.ut (zw _) (by rw[ac ne];exact f0)
 have xd:XD s2.heap.objs.size [(f,y)] h':=⟨_,n1,fun g=>by
  show uq (List.lookup g [(f,y)]) (if g=f then some u else none)
  by_cases q:g=f
  ·subst q;rw[if_pos rfl];simp;exact ry
  ·rw[if_neg q,Ao,Ae.mpr q];exact True.intro,fun g hg=>by
  by_cases q:g=f
  ·simp[q]
  ·exact absurd (show(if g=f then some u else none)=none by rw[if_neg q]) hg⟩
 exact⟨σ,_,J1.u6 f1 xd.ok,q2 _ f0 ne⟩
def nn(ha:PE X o ta)(hv:PE X value tv)(hs:swapsWith value (some (.Attribute o f pos')) pos.line X.env=pure false):PS X (.Assign [.Attribute o f pos'] value pos) (nl X.K ta tv f):=by
 intro pins s σ H D I h
 refine plainObj_wpAny_Assign_Attribute (aB (hv pins s σ H _ I h) fun u s1 ⟨y,H1,I1,ry,q⟩=>aB (ha pins s1 σ H1 _ I1 q) fun ov s2 ⟨x,H2,I2,rx,a,C,dx,fs,ex,ea,ed,ne,k,n,l,q2⟩=>?_) hs
 subst ex
 obtain rfl:ov=Value.ref a:=rx
 obtain⟨oe,vs,g1,g2,g3,g4,g5⟩:=XO.of I2.hok ea
 obtain⟨mA,m1,m2,m3⟩:=XD.of I2.hok ed
 have hz:(fs.map (·.1)).length<=sizeLine:=by rw[zC,Bd];omega
 refine jS I2.uR g1 g2 (fun c z=>by rw[g4]at z;cases z) g3 m1 k n.wj m3 hz fun h' n1 sb=>?_
 have hd:∃o,h'.get? dx=some o:=let ⟨o,_,_,e',_⟩:=n1;⟨o,e'⟩
 have xd:XD dx (b_ f y fs) h':=⟨_,n1,fun g=>by
  show uq ((b_ f y fs).lookup g) (if g=f then some u else mA g)
  rw[cM]
  by_cases q:g=f
  ·rw[if_pos q,if_pos q];exact ry
  ·rw[if_neg q,if_neg q];exact m2 g,fun g hg=>by
  by_cases q:g=f
  ·rw[q];exact(cy f y fs).1
  ·refine(cy f y fs).2 g (m3 g fun z=>hg ?_)
   show(if g=f then some u else mA g)=none
   rw[if_neg q];exact z⟩
 exact⟨σ,_,I2.write (x:=dx) (e:=dx) (by rw[ed];exact True.intro) (.inl rfl) (fun b u hb z=>(sb.2 b hb).trans z) hd xd.ok,q2⟩
end
noncomputable def b0(K:Vo)(C:Addr)(ks:Vs):Sp:=fun vs H Q _=>∃a rest,vs = .ref a::rest/\rest.length=ks.length/\H a=some (.ext (XO a C none))/\ExcK K C/\(∀k∈ks,NoAttr K C k)/\
 ∀dx,H dx=none->dx≠a->Q .non (upd (upd H a (.ext (XO a C (some dx)))) dx (.ext (XD dx (ks.zip rest))))
section
variable {P:Program} {w:World} {K:Vo} {mg:Vr} {base:Heap}
def pV{cm:Bool}{qual:Str}{st:Stmt}{f C:Addr}{fd:FuncData}{N ps:Vs}{k1:Str}(F:vK K "__init__" qual st f fd)(S:aJ N ps (ae st))(hp:ps.length=2)
  (hbody:∀(cdv:Value) (A:Around) (outer:List Env) (s:Shared) (H:Hp) (E:XK),uS (bQ cm fi P w K mg base N qual (ae st) f cdv A outer s H E).v7 (aq st) (jU K (b8 0) (b8 1) k1)) :
  bz cm P w K mg base fi 1 f fd ps (b0 K C [k1]):=
 F.ok S (fun vs H Q E ⟨a,rest,e,l,_⟩=>by rw[e,zy,l,hp];rfl) fun cdv A outer s H vs Q E hr ⟨a,rest,e,l,ea,ek,en,q⟩=>by
  obtain⟨x,rfl⟩:=List.length_eq_one_iff.mp l
  subst e
  refine⟨_,hbody cdv A outer s H E,?_⟩
  exact⟨x,rfl,.ref a,rfl,a,C,rfl,ea,ek,en k1 (by simp),fun dx h1 h2=>q dx h1 h2⟩
def pW{cm:Bool}{qual:Str}{st:Stmt}{f C:Addr}{fd:FuncData}{N ps:Vs}{k1 k2:Str}(F:vK K "__init__" qual st f fd)(S:aJ N ps (ae st))(hp:ps.length=3)(hk:k1≠k2)
  (hbody:∀(cdv:Value) (A:Around) (outer:List Env) (s:Shared) (H:Hp) (E:XK),uS (bQ cm fi P w K mg base N qual (ae st) f cdv A outer s H E).v7 (aq st) (mz (jU K (b8 0) (b8 1) k1) (nl K (b8 0) (b8 2) k2))) :
  bz cm P w K mg base fi 1 f fd ps (b0 K C [k1,k2]):=
 F.ok S (fun vs H Q E ⟨a,rest,e,l,_⟩=>by rw[e,zy,l,hp];rfl) fun cdv A outer s H vs Q E hr ⟨a,rest,e,l,ea,ek,en,q⟩=>by
  obtain⟨x,y,rfl⟩:∃x y,rest=[x,y]:=match rest,l with|[x,y],_=>⟨x,y,rfl⟩
  subst e
  refine⟨_,hbody cdv A outer s H E,?_⟩
  refine⟨x,rfl,.ref a,rfl,a,C,rfl,ea,ek,en k1 (by simp),fun dx h1 h2=>⟨y,rfl,.ref a,rfl,a,C,dx,[(k1,x)],rfl,?_,ad,h2.symm,ek,en k2 (by simp),by show 1 < 1000;decide,?_⟩⟩
  ·rw[ac h2.symm,ad]
  ·have e1:b_ k2 y [(k1,x)]=[(k1,x),(k2,y)]:=by unfold b_;rw[if_neg hk];rfl
   show Q _ _
   rw[e1,eX]
   exact q dx h1 h2
end
section
variable {cm:Bool} {X:Cx} {f C:Addr} {fd:FuncData} {ps ks:Vs} {x:Str} {p cpos pos:Pos} {e:Expr} {es:List Expr} {t:TA}
def nq(X:Cx)(C:Addr)(ks:Vs)(t:TA):TS:=fun D σ H=>t σ H fun vs H1=>vs.length=ks.length/\∀pins dx od,H1 dx=none->EX X pins σ (.ref C) (some dx) (upd H1 dx (.frz od (.ext (XD dx (ks.zip vs)))))
def fQ{pins:Va}{s:Shared}{σ:St}{H:Hp}{Z:List V->Hp->Prop}{R:Vq}(F:bz cm X.prog X.w X.K X.mg X.base fi 1 f fd ps (b0 X.K C ks))(hps:ps.length=ks.length+1)(hks:ks.length<=1000)(ek:ExcK X.K C)(en:∀k∈ks,NoAttr X.K C k)(hi:PySem.W.findIn X.K (.ref C) "__init__" = some (some (.ref f)))(hf:PySem.W.isFn X.K (.ref f)=true)(hkp:PySem.W.keepIn X.K (.ref C)=true)
  (hr:RoomG cm 2 X.A) (hg:Gl X x) (hm:X.mg x=some (.ref C)) (hb:Binds X.K fd ps []) (ha:PA X (e::es) t) (hdb:(x == ("__debug__":Str))=false) (he:starEach (e::es) X.env=(false,eval e X.env)::starEach es X.env) (hpl:(backTo cpos (starEach es X.env)).any (·.1)=false)
  (I:Inv X pins σ H s) (h:t σ H fun vs H1=>vs.length=ks.length/\Z vs H1)
  (q:∀a oe ws vs H1 dx od s',Z vs H1->H1 dx=none->s'.heap.get? a=some oe->oe.cls = .ref C->oe.dict=some dx->oe.data = .fields ws->ws[1]?=some .none->ws[2]?=some .none->4 < ws.size->
   Inv X pins σ (upd H1 dx (.frz od (.ext (XD dx (ks.zip vs))))) s'->tF X pins (upd H1 dx (.frz od (.ext (XD dx (ks.zip vs))))) a->R (.ref a) s') :
  wpAny (model X.prog X.w) X.A (eval (.Call (.Name x p) (e::es) [] cpos) X.env) R X.xe s:=by
 refine zW (bO I hg hm ?_ hdb)
 refine Bb (h₀:=X.base) I.ok.mod.wF hkp (aB (ha cpos pins s σ H _ I h) fun us s1 ⟨vs,H1,I1,r,hl,hz⟩=>⟨I1.uR,?_⟩) he hpl
 have yk:us.length=ks.length:=by rw[<-r.length];exact hl
 obtain⟨hp,g,d,tk,os⟩:=s1
 have e1:(hp.push (aQ us)).objs.size=hp.objs.size+1:=Aa _ _
 have yY:Inv X pins σ H1 ⟨hp.push (aQ us),g,d,tk,os⟩:=I1.kept (t':=tk) fun b o q=>zp _ q
 have ex:((hp.push (aQ us)).push (aH C hp.objs.size)).get? (hp.objs.size+1)=some (aH C hp.objs.size):=by heap_get
 have I2:Inv X pins σ (upd H1 (hp.objs.size+1) (.ext (XO (hp.objs.size+1) C none))) ⟨(hp.push (aQ us)).push (aH C hp.objs.size),g,d,tk,os⟩:=
  yY.laid (a:=hp.objs.size+1) (t':=tk) (fun b o q=>zp _ q) (Nat.le_of_eq e1) (XO.ok ⟨_,_,ex,rfl,rfl,rfl,rfl,rfl,zT rfl⟩)
 have n0:H1 (hp.objs.size+1)=none:=I1.hok.fresh (AS _)
 have r2:Vals (V.ref (hp.objs.size+1)::vs) (Value.ref (hp.objs.size+1)::us):=.cons rfl r
 have vE:(Value.ref (hp.objs.size+1)::us++[]).length=ps.length:=by rw[zV,zy,yk,hps]
 have hb':=hb _ (Value.ref (hp.objs.size+1)::us) I2.uR vE
 rw[zV]at hb'
 refine AM (jL (f:=f) I1.uR ek.ok hi (Ay.mp hf) (by rw[List.nil_append,yk];exact Ak (bg hks)) (AB (codeAny_toks_of I2.tk (F.run _ X.stack _ _ ⟨Value.ref (hp.objs.size+1)::us,[]⟩ (Value.ref (hp.objs.size+1)::us) _
  (fun v H2=>v = .non/\∃dx,H1 dx=none/\dx≠hp.objs.size+1/\H2=upd (upd (upd H1 (hp.objs.size+1) (.ext (XO (hp.objs.size+1) C none))) (hp.objs.size+1) (.ext (XO (hp.objs.size+1) C (some dx)))) dx (.ext (XD dx (ks.zip vs)))) (fun _ _ _=>False) (hr.make C us []) (.inl I2.tk)
  (I2.wq.make C us []) hb' r2 ⟨_,vs,rfl,hl,ad,ek,en,fun dx h1 h2=>⟨rfl,dx,by rw[ac h2]at h1;exact h1,h2,rfl⟩⟩)) fun r s' ⟨ht,hq'⟩=>?_))
 cases r with
 |error e=>exact hq'.elim
 |ok fl=>
  cases fl with
  |ret u=>
   obtain⟨v,H',I3,rv,ev,dx,d1,d2,rfl⟩:=I2.after ht hq'
   subst ev
   refine⟨rv,?_⟩
   obtain⟨oe,ws,g1,g2,g3,g4,g5,g6,g7⟩:=XO.of (a:=hp.objs.size+1) (C:=C) (d:=some dx) I3.hok (by rw[ac d2.symm,ad])
   have xd:XD dx (ks.zip vs) s'.heap:=XD.of I3.hok ad
   obtain⟨od,hod⟩:∃o,s'.heap.get? dx=some o:=let ⟨_,⟨o,_,_,e,_⟩,_⟩:=xd;⟨o,e⟩
   have I4:Inv X pins σ (upd (upd (upd (upd H1 (hp.objs.size+1) (.ext (XO (hp.objs.size+1) C none))) (hp.objs.size+1) (.ext (XO (hp.objs.size+1) C (some dx)))) dx (.ext (XD dx (ks.zip vs)))) dx (.frz od (.ext (XD dx (ks.zip vs))))) s':=by
    have J:=I3.write (x:=dx) (e:=dx) (o:=.frz od (.ext (XD dx (ks.zip vs)))) (h':=s'.heap) (t':=s'.toks) (by rw[ad];exact True.intro) (.inl rfl) (fun _ _ _ z=>z) ⟨od,hod⟩ ⟨hod,xd.ok⟩
    exact J
   have I5:Inv X pins σ (upd H1 dx (.frz od (.ext (XD dx (ks.zip vs))))) s':=I4.forget (D:=hp.objs.size+1) (φ:=XO (hp.objs.size+1) C (some dx)) (by rw[eX,ac d2.symm,ad]) (by rw[ac d2.symm];exact n0) fun b hb=>by
    by_cases z:b=dx
    ·rw[z,ad,ad]
    ·rw[ac z,ac z,ac z,ac hb,ac hb]
   exact q _ oe ws vs H1 dx od s' hz d1 g1 g2 g3 g4 g5 g6 g7 I5 (I1.ut (AS _) (by rw[ac d2.symm];exact n0))
  |next=>exact hq'.elim
  |brk=>exact hq'.elim
  |cont=>exact hq'.elim
def jV(F:bz cm X.prog X.w X.K X.mg X.base fi 1 f fd ps (b0 X.K C ks))(hps:ps.length=ks.length+1)(hks:ks.length<=1000)(ek:ExcK X.K C)(en:∀k∈ks,NoAttr X.K C k)(hi:PySem.W.findIn X.K (.ref C) "__init__" = some (some (.ref f)))(hf:PySem.W.isFn X.K (.ref f)=true)(hkp:PySem.W.keepIn X.K (.ref C)=true)
  (hr:RoomG cm 2 X.A) (uv:X.calm=true) (hg:Gl X x) (hm:X.mg x=some (.ref C)) (hb:Binds X.K fd ps []) (ha:PA X (e::es) t)
  (hdb:(x == ("__debug__":Str))=false:=by decide) (he:starEach (e::es) X.env=(false,eval e X.env)::starEach es X.env:=by rfl) (hpl:(backTo cpos (starEach es X.env)).any (·.1)=false:=by rfl) :
  PS X (.Raise (some (.Call (.Name x p) (e::es) [] cpos)) none pos) (nq X C ks t):=by
 intro pins s σ H D I h
 rw[arm_exec_Raise]
 refine zo (Au (eI (K:=X.K) (C:=C) ek.ok (I.ok.hd uv) (zo (fQ F hps hks ek en hi hf hkp hr hg hm hb ha hdb he hpl I h fun a oe ws vs H1 dx od s' q d1 g1 g2 g3 g4 g5 g6 g7 I5 fp=>zo (Au (zq ?_))))))
 exact⟨a,oe,ws,rfl,I5.uR,g1,g2,g4,g5,q pins dx od d1 s' a C (some dx) rfl rfl I5 ⟨oe,ws,⟨g1,g4,.inl g5⟩,g2,g3,fp,fun T z=>(by rw[g5]at z;cases z),fun _=>g6⟩⟩
end
noncomputable abbrev Cx.tr(X:Cx)(E:Vq)(pins:Va)(b:Bool:=true):Cx:={ X with xe:=E,pn:=X.pn++pins,fr:=b }
noncomputable abbrev Cx.inH(X:Cx)(a:Addr×Obj):Cx:={ X with A:=X.A.mark (some (.ref a.1)),calm:=false,xe:=fun _ _=>False,H₀:=upd X.H₀ a.1 (.frz a.2 (.ext fun _=>True)) }
section
variable {X:Cx} {pins pins':Va} {σ:St} {H H':Hp} {s s':Shared} {E:Vq} {tb:Bool}
theorem Cx.Ok.tr(ok:X.Ok):(X.tr E pins tb).Ok:=⟨ok.mod,ok.kind,ok.glob,ok.blt,ok.above,ok.inj,ok.has,ok.vP,ok.hd,ok.frames,ok.stk,ok.wf,ok.bs,ok.vf,ok.uH,ok.uT,ok.t9,ok.vA,ok.hx⟩
def Cx.Ok.uI(ok:(X.tr E pins tb).Ok):X.Ok:=⟨ok.mod,ok.kind,ok.glob,ok.blt,ok.above,ok.inj,ok.has,ok.vP,ok.hd,ok.frames,ok.stk,ok.wf,ok.bs,ok.vf,ok.uH,ok.uT,ok.t9,ok.vA,ok.hx⟩
def tF.nb{a:Addr}{b:Addr}{o:Obj}(ok:X.Ok)(f:tF X pins H a)(e:X.base.get? b=some o):b≠a:=fun z=>by
 subst z
 rcases f.2.2.2.1 with q|q
 ·exact ok.uH _ _ e q
 ·exact absurd (zv (zu e) (zH ok.vf q)) (zP _)
theorem Cx.Ok.inH{a:Addr}{oe:Obj}{vs:Vw}(ok:X.Ok)(f:tF X pins H a)(hd:oe.data = .fields vs)(h2:vs[2]?=some .none):(X.inH (a,oe)).Ok:=⟨ok.mod,ok.kind,ok.glob,ok.blt,ok.above,ok.inj,ok.has,ok.vP,fun z=>absurd (show false=true from z) (by decide),ok.frames,ok.stk,ok.wf,
 fun b o e=>⟨(ok.bs b o e).1,(ac (f.nb ok e)).trans (ok.bs b o e).2⟩,ok.vf,ok.uH,ok.uT,ok.t9,fun b hb=>(ac fun z=>f.2.2.1 (by have z':b=a:=z;rw[<-z'];exact hb)).trans (ok.vA b hb),.inr ⟨a,oe,vs,rfl,ad,hd,h2⟩⟩
theorem Inv.tr(I:Inv X pins σ H s):Inv (X.tr E pins tb) [] σ H s:=⟨I.ok.tr,I.os,I.bare,I.base,I.loc,I.cell,I.free,I.tI,fun p hp=>I.pin p (by simpa using hp),I.hok,I.len,I.tk⟩
theorem Inv.uI(I:Inv (X.tr E pins tb) pins' σ H s):Inv X pins σ H s:=⟨I.ok.uI,I.os,I.bare,I.base,I.loc,I.cell,I.free,I.tI,fun p hp=>I.pin p (Am _ hp),I.hok,I.len,I.tk⟩
def du{a b:Addr}{oe:Obj}{u:Option HO}(e:(X.inH (a,oe)).H₀ b=u)(hn:u≠some (.frz oe (.ext fun _=>True))):b≠a:=fun z=>by
 subst z
 exact hn (e.symm.trans ad)
theorem Inv.inH{a:Addr}{oe:Obj}{vs:Vw}(I0:Inv X pins σ H s)(f:tF X pins H a)(hd:oe.data = .fields vs)(h2:vs[2]?=some .none)(I:Inv X pins σ (upd H a (.frz oe (.ext fun _=>True))) s'):Inv (X.inH (a,oe)) pins σ (upd H a (.frz oe (.ext fun _=>True))) s':=
 ⟨I.ok.inH f hd h2,I.os,I.bare,⟨fun b o e n=>I.base.keep b o e ((ac (du n fun z=>nomatch z)).symm.trans n),fun b o e n=>I.base.slot b o e ((ac (du n fun z=>nomatch z)).symm.trans n),
  fun b o e n=>I.base.free b o e ((ac (du n fun z=>nomatch z)).symm.trans n),I.base.there,
  fun b xs e=>I.base.tups b xs ((ac (du e fun z=>nomatch z)).symm.trans e),
  fun b o u e=>by
   by_cases z:b=a
   ·rw[z]at e ⊢
    have e':upd X.H₀ a (.frz oe (.ext fun _=>True)) a=some (.frz o u):=e
    rw[ad]at e' ⊢;exact e'
   ·exact I.base.ur b o u ((ac z).symm.trans e),
  fun b ps e=>I.base.uG b ps ((ac (du e fun z=>nomatch z)).symm.trans e)⟩,I.loc,I.cell,I.free,I.tI,I.pin,I.hok,I.len,I.tk⟩
def Inv.xN{a:Addr}{oe:Obj}{σ0:St}{s0:Shared}{p0:Va}(I0:Inv X p0 σ0 H s0)(f:tF X pins H a)(I:Inv (X.inH (a,oe)) pins σ H' s):Inv X pins σ H' s:=
 have h0:∀b o,X.s₀.heap.get? b=some o->b ∉ X.ex->b≠a:=fun b o e hx z=>by
  subst z
  rcases f.2.2.2.1 with q|q
  ·exact hx q
  ·exact absurd (zv (zu e) q) (zP _)
 have un:∀{b:Addr} {u:Option HO},b≠a->X.H₀ b=u->(X.inH (a,oe)).H₀ b=u:=fun hb e=>(ac hb).trans e
 ⟨I0.ok,I.os,I.bare,⟨fun b o e n hb hx=>I.base.keep b o e (un (h0 b o e hx) n) hb hx,fun b o e n hb hx=>I.base.slot b o e (un (h0 b o e hx) n) hb hx,fun b o e n hx=>I.base.free b o e (un (h0 b o e hx) n) hx,I.base.there,
  fun b xs e=>I.base.tups b xs (un (fun z=>by have q:=I0.base.tups b xs e;rw[z,f.1]at q;cases q) e),
  fun b o u e=>I.base.ur b o u (un (fun z=>by have q:=I0.base.ur b o u e;rw[z,f.1]at q;cases q) e),
  fun b ps e=>I.base.uG b ps (un (fun z=>by obtain⟨m,q⟩:=I0.base.uG b ps e;rw[z,f.1]at q;cases q) e)⟩,I.loc,I.cell,I.free,I.tI,I.pin,I.hok,I.len,I.tk⟩
def tF.uI{b:Addr}(f:tF (X.tr E pins tb) pins' H b):tF X pins H b:=⟨f.1,f.2.1,f.2.2.1,f.2.2.2.1,f.2.2.2.2.1,fun p hp=>f.2.2.2.2.2 p (Am _ hp)⟩
theorem SP.uI{D:cv}{f:Flow}(h:SP (X.tr E pins tb) [] D f s'):SP X pins D f s':=by
 cases f with
 |next=>obtain⟨a,b,I,q⟩:=h;exact⟨a,b,I.uI,q⟩
 |brk=>obtain⟨a,b,I,q⟩:=h;exact⟨a,b,I.uI,q⟩
 |cont=>obtain⟨a,b,I,q⟩:=h;exact⟨a,b,I.uI,q⟩
 |ret v=>obtain⟨v,a,b,I,r,q⟩:=h;exact⟨v,a,b,I.uI,r,q⟩
def Cx.Ok.xj(ok:X.Ok):(X.fb tb).Ok:=⟨ok.mod,ok.kind,ok.glob,ok.blt,ok.above,ok.inj,ok.has,ok.vP,ok.hd,ok.frames,ok.stk,ok.wf,ok.bs,ok.vf,ok.uH,ok.uT,ok.t9,ok.vA,ok.hx⟩
def Cx.Ok.wy(ok:(X.fb tb).Ok):X.Ok:=⟨ok.mod,ok.kind,ok.glob,ok.blt,ok.above,ok.inj,ok.has,ok.vP,ok.hd,ok.frames,ok.stk,ok.wf,ok.bs,ok.vf,ok.uH,ok.uT,ok.t9,ok.vA,ok.hx⟩
theorem Inv.xj(I:Inv X pins σ H s):Inv (X.fb tb) pins σ H s:=⟨I.ok.xj,I.os,I.bare,I.base,I.loc,I.cell,I.free,I.tI,I.pin,I.hok,I.len,I.tk⟩
theorem Inv.wy(I:Inv (X.fb tb) pins σ H s):Inv X pins σ H s:=⟨I.ok.wy,I.os,I.bare,I.base,I.loc,I.cell,I.free,I.tI,I.pin,I.hok,I.len,I.tk⟩
def iT{A:Around}{E:Vq}{i:Nat}{n:Str}{pos:Pos}{Q:Unit->Shared->Prop}(I:Inv X pins σ H s)(hN:X.N.Nodup)(hi:X.N[i]?=some n)(hk:X.env.scope.names.lookup n=some .local)(h:∀s',Inv X pins (σ.set i none) H s'->Q () s') :
  wpAny (model X.prog X.w) A (do bindName X.env n .none;unbindBehindTheSuite X.env n pos) Q E s:=by
 obtain⟨m,hn,hl⟩:=id I.loc
 have hcls:(X.env.scope.kind == .class || (X.env.scope.kind == .module&&X.env.locals != X.env.globals))=false:=by rw[I.ok.kind];rfl
 have vQ:=I.vQ
 refine wpAny_nameGoes_keeps hk hn hcls fun h' v hn' hs=>h _ ?_
 have xO:∀b o,X.s₀.heap.get? b=some o->b≠X.env.locals:=fun b o e=>zD (zv (zu e) I.ok.above)
 refine⟨I.ok,I.os,I.bare,⟨fun b o e n hb hx=>(hs.2 b (xO b o e)).trans (I.base.keep b o e n hb hx),fun b o e n hb hx=>?_,I.base.free,fun b o e hx=>?_,I.base.tups,I.base.ur,I.base.uG⟩,⟨_,hn',fun j y v' e1 e2 e3=>?_⟩,fun y c e=>?_,I.free,I.tI,fun p hp=>?_,fun b ob e=>?_,by simpa using I.len,by first|exact I.tk|exact A0 (Ax _)⟩
 ·obtain⟨sl,e1⟩:=I.base.slot b o e n hb hx
  exact⟨sl,(hs.2 b (xO b o e)).trans e1⟩
 ·obtain⟨o',e1⟩:=I.base.there b o e hx
  exact⟨o',(hs.2 b (xO b o e)).trans e1⟩
 ·by_cases hj:j=i
  ·subst hj
   rw[Be]at e2
   split at e2
   ·split at e2
    ·cases e2
    ·cases e2
   ·rename_i z;exact absurd rfl z
  ·rw[A4 (Al hj)]at e2
   obtain⟨u',r',q⟩:=hl j y v' e1 e2 e3
   refine⟨u',r',?_⟩
   rcases q with⟨k,e⟩|⟨k,c,e,z⟩
   ·refine .inl ⟨k,?_⟩
    have:y≠n:=fun e=>hj (di hN e1 (e▸hi))
    simp[this,e]
   ·exact .inr ⟨k,c,e,z.sameBut hs (vQ y c e)⟩
 ·obtain⟨w',z⟩:=I.cell y c e
  exact⟨w',z.sameBut hs (vQ y c e)⟩
 ·obtain⟨e,n,ne,nf,d⟩:=I.pin p hp
  exact⟨(hs.2 p.1 ne).trans e,n,ne,nf,d⟩
 ·refine(I.hok b ob e).stay (fun c w' hc q=>(hs.2 c ?_).trans q) (fun _ q=>q) fun _ _ q=>q
  rintro rfl
  rcases hc with rfl|hc
  ·rw[I.free]at e;cases e
  ·rw[I.free]at hc;cases hc
end
structure nu (K:Vo) (Dc:Addr):Prop where
 ty:PySem.W.typeIn K (.ref Dc)=some (.type "type")
 cl:(PySem.W.clsIn K Dc).isSome=true
 be:PySem.W.mroIn K Dc (.type "BaseException")=some true
noncomputable abbrev jW(D:cv)(i:Nat):cv:={ nx:=fun σ H=>D.nx (σ.set i none) H,rt:=D.rt,bk:=fun σ H=>D.bk (σ.set i none) H,ct:=fun σ H=>D.ct (σ.set i none) H }
section
variable {X:Cx} {pins pins':Va} {σ:St} {H:Hp} {s':Shared} {E:Vq} {a C Dc:Addr} {dx:Option Addr} {i:Nat} {n x:Str} {np hpos:Pos} {b₀:Stmt} {suite:List Stmt} {th:Addr×Obj->TS} {D:cv}
def nv{tb:Bool}(htb:tb=true)(hst:X.stack=X.env::X.outer)(vV:X.env.frame=some X.env.locals)(hN:X.N.Nodup)(hi:X.N[i]?=some n)(hk:X.env.scope.names.lookup n=some .local)(hg:Gl X x)(hm:X.mg x=some (.ref Dc))(hD:nu X.K Dc)
  (hs:∀a,uS (X.inH a) (b₀::suite) (th a)) (I:Inv (X.tr E pins tb) pins' σ H s') (xa:oR (X.tr E pins tb) pins' H s'.heap a C dx) (hb:PySem.W.mroIn X.K C (.ref Dc)=some true)
  (q:∀oe:Obj,oe.cls = .ref C->oe.dict=dx->(∀c,oe.data ≠ .cls c)->th (a,oe) (jW D i) (σ.set i (some (.ref a))) (upd H a (.frz oe (.ext fun _=>True))))
  (hdb:(x == ("__debug__":Str))=false:=by decide) :
  wpAny (model X.prog X.w) X.A (noteFrame (.ref a) X.env) (fun _ s₂=>wpAny (model X.prog X.w) X.A (setFlight (.ref a) none) (fun _ s₃=>wpAny (model X.prog X.w) X.A (handleBy (.ref a) X.env [.ExceptHandler (some (.Name x np)) (some n) (b₀::suite) hpos]) (SP X pins D) X.xe s₃) X.xe s₂) X.xe s':=by
 have I0:Inv X pins σ H s':=I.uI
 obtain⟨oe,vs,lx,hc,hd,fa,fT,fx⟩:=xa
 have hfr:X.A.frames=some (X.env::X.outer):=by rw[<-hst];exact I0.ok.frames
 refine ia (base:=X.base) hfr (by rw[<-hst];exact I0.stack) vV lx fun h' nt=>?_
 obtain⟨yZ,vD,vM,wb,hc2,hd2,wC,xi,xM⟩:=(I0.xj (tb:=tb)).noted (h':=h') (by show eG X.stack _ _ _ _ _;rw[hst];exact nt) lx hc hd fa.uI (fun T z=>(fT T z).uI) fx
 have I2:=yZ.wy
 refine PySem.wpAny_handleBy_cons (codeAny_handlers_test ?_) (by intro q;cases q)
 have ym:({ s' with heap:=h' }:Shared).heap.get? a=some vD:=wb.at_
 have IT:Inv X pins σ (upd H a (.frz vD (.ext fun _=>True))) { s' with heap:=h' }:=I2.u6 wC ⟨ym,True.intro,⟨_,ym⟩,fun _ _ _ _=>True.intro⟩
 have IH:=I2.inH (oe:=vD) wC wb.dat (xM htb) IT
 refine bO (X:=X.inH (a,vD)) IH hg hm ?_ hdb
 refine fP IH.uR wb.at_ hc2 hb hD.ty hD.cl hD.be ?_
 refine codeAny_handlers_suite_as ?_
 -- the flight is none already
 have flight:∀{Q:Unit->Shared->Prop} {E:Vq},(∀h3,Inv (X.inH (a,vD)) pins σ (upd H a (.frz vD (.ext fun _=>True))) { s' with heap:=h3 }->Q () { s' with heap:=h3 })->wpAny (model X.prog X.w) (X.inH (a,vD)).A (setFlight (.ref a) none) Q E { s' with heap:=h' }:=by
  intro Q E hQ
  rcases wb.tb with t1|⟨T,oT,ts,t1,t2,t3,t4,t5⟩
  ·unfold setFlight
   refine zo (Ab wb.at_ wb.dat t1 ?_)
   rw[if_neg (by decide)]
   exact zq (hQ _ IH)
  ·have wS:=xi T t1
   refine wpAny_setFlight_none wb.at_ wb.dat t1 t3 t4 t5 (hQ _ ?_)
   exact Inv.turned (s:={ s' with heap:=h' }) IH (t':=s'.toks) (it:=T) (fun b o hb e=>(zB _ _ (Al hb)).trans e) ((ac t2).trans wS.1) wS.2.1 wS.2.2.2.1 wS.2.2.2.2.1 wS.2.2.2.2.2
 refine flight fun h3 I4=>?_
 refine cu (X:=X.inH (a,vD)) I4 hN hi (.inl hk) (v:=.ref a) rfl (fun s5 I5 _=>?_) (.inr hk)
 refine zL (hs (a,vD) pins s5 _ _ (jW D i) I5 (q vD hc2 hd2 fun c z=>by rw[wb.dat]at z;cases z)) (fun f s6 hf=>?_) fun _ _ z=>False.elim z
 have fin:∀{σ6:St} {H6:Hp} {Q:Unit->Shared->Prop},Inv (X.inH (a,vD)) pins σ6 H6 s6->(∀s7,Inv X pins (σ6.set i none) H6 s7->Q () s7)->wpAny (model X.prog X.w) X.A (do bindName X.env n .none;unbindBehindTheSuite X.env n hpos) Q X.xe s6:=fun I6 hq=>
  iT (I2.xN wC I6) hN hi hk fun s7 I7=>hq s7 I7
 cases f with
 |next=>obtain⟨σ6,H6,I6,q6⟩:=hf;exact fin I6 fun s7 I7=>⟨_,_,I7,q6⟩
 |brk=>obtain⟨σ6,H6,I6,q6⟩:=hf;exact fin I6 fun s7 I7=>⟨_,_,I7,q6⟩
 |cont=>obtain⟨σ6,H6,I6,q6⟩:=hf;exact fin I6 fun s7 I7=>⟨_,_,I7,q6⟩
 |ret u=>obtain⟨v6,σ6,H6,I6,r6,q6⟩:=hf;exact fin I6 fun s7 I7=>⟨_,_,_,I7,r6,q6⟩
end
noncomputable def tryXe(X:Cx)(pins:Va)(D:cv)(hs:List ExceptHandler):Value->Shared->Prop:=fun e s₁=>
 wpAny (model X.prog X.w) X.A (noteFrame e X.env) (fun _ s₂=>wpAny (model X.prog X.w) X.A (setFlight e none) (fun _ s₃=>wpAny (model X.prog X.w) X.A (handleBy e X.env hs) (SP X pins D) X.xe s₃) X.xe s₂) X.xe s₁
def tryXe.passes{X:Cx}{pins:Va}{D:cv}{hs:List ExceptHandler}:PassesOwn (model X.prog X.w) X.A X.env (tryXe X pins D hs):=PassesOwn.looking
def nw{X:Cx}{h₀:ExceptHandler}{body:List Stmt}{pos:Pos}{tb:(E:Vq)->List (Addr×Obj)->TS}
  {fb:Bool} (hb:∀E pins,PassesOwn (model X.prog X.w) X.A X.env E->uS (X.tr E pins fb) body (tb E pins)) :
  PS X (.Try body [h₀] [] [] pos) (fun D σ H=>∀pins,tb (tryXe X pins D [h₀]) pins D σ H):=by
 intro pins s σ H D I h
 refine wpAny_Try_except ?_
 refine zL (hb (tryXe X pins D [h₀]) pins tryXe.passes [] s σ H D I.tr (h pins)) (fun f s1 q=>?_) fun e s1 q=>q
 have q':=SP.uI q
 cases f with
 |next=>exact AI q'
 |ret v=>exact q'
 |brk=>exact q'
 |cont=>exact q'
end L2
namespace L3
open PySem L2
inductive PV where
 |non|bl (b:Bool)|int (i:Int)|str (x:Str)|tup (xs:List PV)|cl (xs:List PV)|ref (a:Addr)|ty (n:String)|exc (c:Str) (ks:Vs) (ps:List PV)|cls (c:Str)|cd (ks:Vs) (ps:List PV)
def wD(K:Vo)(H:Hp)(a:Addr)(xs:List V):Prop:=
 (∃o,H a=some (.frz o (.lst xs))) \/
  ∃(o:Obj) (its:Vw) (n:Nat),K.lookup a=some o/\o.cls = .type "list"/\o.dict=none/\o.data = .seq its n/\its.size<=sizeLine/\Vals xs its.toList
def wD.sq{K:Vo}{H:Hp}{a:Addr}{xs:List V}(h:wD K H a xs):SqL K H a xs:=h.elim (fun z=>.inl (.inr z)) .inr
def vj(H:Hp)(d:Option Addr)(od:Obj)(ks:Vs)(vs:List V):Prop:=match d with|some dx=>H dx=some (.frz od (.ext (XD dx (ks.zip vs))))|none=>ks=[]
def vj.mono{H H':Hp}{d:Option Addr}{od:Obj}{ks:Vs}{vs:List V}(g:∀a o u,H a=some (.frz o u)->H' a=some (.frz o u))(h:vj H d od ks vs):vj H' d od ks vs:=match d,h with|some _,h=>g _ _ _ h|none,h=>h
def wT(H:Hp)(a C:Addr)(ks:Vs)(vs:List V):Prop:=
 ∃oe dx od,H a=some (.frz oe (.ext fun _=>True))/\oe.cls = .ref C/\oe.dict=dx/\(∀c,oe.data ≠ .cls c)/\vj H dx od ks vs
def sE(H:Hp)(a:Addr)(ks:Vs)(vs:List V):Prop:=∃o,H a=some (.frz o (.dK ((ks.map Sum.inr).zip vs)))
def ClsN(K:Vo)(c:Str)(C:Addr):Prop:=PySem.W.nsIn K mainGlobals c=some (some (.ref C))
mutual
inductive Rep (K:Vo) (H:Hp):V->PV->Prop
 |non:Rep K H .non .non
 |bl (b:Bool):Rep K H (.bl b) (.bl b)
 |int (i:Int):Rep K H (.int i) (.int i)
 |str (x:Str):Rep K H (.str x) (.str x)
 |ty (n:String):Rep K H (.ty n) (.ty n)
 |ref (a:Addr):Rep K H (.ref a) (.ref a)
 |tup {a:Addr} {vs:List V} {ps:List PV}:uy K H a vs->Reps K H vs ps->Rep K H (.ref a) (.tup ps)
 |cl {a:Addr} {vs:List V} {ps:List PV}:wD K H a vs->Reps K H vs ps->Rep K H (.ref a) (.cl ps)
 |exc {a C:Addr} {c:Str} {ks:Vs} {vs:List V} {ps:List PV}:ClsN K c C->wT H a C ks vs->Reps K H vs ps->Rep K H (.ref a) (.exc c ks ps)
 |cls {C:Addr} {c:Str}:ClsN K c C->Rep K H (.ref C) (.cls c)
 |cd {a:Addr} {ks:Vs} {vs:List V} {ps:List PV}:sE H a ks vs->vs.length=ks.length->Reps K H vs ps->Rep K H (.ref a) (.cd ks ps)
inductive Reps (K:Vo) (H:Hp):List V->List PV->Prop
 |nil:Reps K H [] []
 |cons {v:V} {p:PV} {vs:List V} {ps:List PV}:Rep K H v p->Reps K H vs ps->Reps K H (v::vs) (p::ps)
end
structure Grow (K:Vo) (H H':Hp):Prop where
 t:∀a vs,uy K H a vs->uy K H' a vs
 c:∀a vs,wD K H a vs->wD K H' a vs
 x:∀a o u,H a=some (.frz o u)->H' a=some (.frz o u)
def Grow.refl{K:Vo}{H:Hp}:Grow K H H:=⟨fun _ _ h=>h,fun _ _ h=>h,fun _ _ _ h=>h⟩
def Grow.trans{K:Vo}{H H1 H2:Hp}(a:Grow K H H1)(b:Grow K H1 H2):Grow K H H2:=⟨fun x vs h=>b.t x vs (a.t x vs h),fun x vs h=>b.c x vs (a.c x vs h),fun x o u h=>b.x x o u (a.x x o u h)⟩
theorem wT.mono{K:Vo}{H H':Hp}(g:Grow K H H'){a C:Addr}{ks:Vs}{vs:List V}(h:wT H a C ks vs):wT H' a C ks vs:=let ⟨oe,dx,od,h1,h2,h3,h4,h5⟩:=h;⟨oe,dx,od,g.x _ _ _ h1,h2,h3,h4,h5.mono g.x⟩
def Grow.of{K:Vo}{H H':Hp}(h:∀a xs,H a=some (.tup xs)->H' a=some (.tup xs))(h2:∀a o u,H a=some (.frz o u)->H' a=some (.frz o u)):Grow K H H':=by
 refine⟨fun a vs q=>?_,fun a vs q=>?_,h2⟩
 ·rcases q with(q|⟨o,q⟩)|q
  ·exact .inl (.inl (h a vs q))
  ·exact .inl (.inr ⟨o,h2 a o _ q⟩)
  ·exact .inr q
 ·rcases q with⟨o,q⟩|q
  ·exact .inl ⟨o,h2 a o _ q⟩
  ·exact .inr q
def Grow.same{K:Vo}{H H':Hp}(h:∀c o,H c=some o->H' c=some o):Grow K H H':=.of (fun a _ q=>h a _ q) (fun a _ _ q=>h a _ q)
def Grow.new{K:Vo}{H:Hp}{p:Addr}{o:HO}(h:H p=none):Grow K H (upd H p o):=.same fun c u q=>by rw[ac (au q h)];exact q
noncomputable def Mu:HO->Prop
 | .tup _=>False
 | .frz _ _=>False
 |_=>True
def Grow.mut{K:Vo}{H:Hp}{p:Addr}{o u:HO}(h:H p=some u)(m:Mu u):Grow K H (upd H p o):=
 .of (fun a xs q=>by rw[ac (fun e=>by subst e;rw[h]at q;cases q;exact m)];exact q) (fun a _ _ q=>by rw[ac (fun e=>by subst e;rw[h]at q;cases q;exact m)];exact q)
mutual
theorem Rep.mono{K:Vo}{H H':Hp}(g:Grow K H H'):∀{v:V} {p:PV},Rep K H v p->Rep K H' v p
 |_,_,.non=>.non
 |_,_,.bl b=>.bl b
 |_,_,.int i=>.int i
 |_,_,.str x=>.str x
 |_,_,.ty n=>.ty n
 |_,_,.ref a=>.ref a
 |_,_,.tup h r=>.tup (g.t _ _ h) (Reps.mono g r)
 |_,_,.cl h r=>.cl (g.c _ _ h) (Reps.mono g r)
 |_,_,.exc n h r=>.exc n (h.mono g) (Reps.mono g r)
 |_,_,.cls n=>.cls n
 |_,_,.cd ⟨o,h⟩ l r=>.cd ⟨o,g.x _ _ _ h⟩ l (Reps.mono g r)
theorem Reps.mono{K:Vo}{H H':Hp}(g:Grow K H H'):∀{vs:List V} {ps:List PV},Reps K H vs ps->Reps K H' vs ps
 |_,_,.nil=>.nil
 |_,_,.cons a r=>.cons (Rep.mono g a) (Reps.mono g r)
end
theorem Reps.length{K:Vo}{H:Hp}:∀{vs:List V} {ps:List PV},Reps K H vs ps->vs.length=ps.length
 |_,_,.nil=>rfl
 |_,_,.cons _ r=>by rw[zy,zy,Reps.length r]
theorem Reps.append{K:Vo}{H:Hp}:∀{vs us:List V} {ps qs:List PV},Reps K H vs ps->Reps K H us qs->Reps K H (vs++us) (ps++qs)
 |_,_,_,_,.nil,s=>s
 |_,_,_,_,.cons a r,s=>.cons a (Reps.append r s)
theorem Reps.get{K:Vo}{H:Hp}:∀{vs:List V} {ps:List PV} {i:Nat} {p:PV},Reps K H vs ps->ps[i]?=some p->∃v,vs[i]?=some v/\Rep K H v p
 |_,_,_,_,.nil,e=>by simp at e
 |_,_,0,_,.cons a r,e=>by simp at e;subst e;exact⟨_,rfl,a⟩
 |_,_,i+1,p,.cons a r,e=>by
  obtain⟨v,h1,h2⟩:=Reps.get (i:=i) (p:=p) r (by simpa using e)
  exact⟨v,by simpa using h1,h2⟩
theorem Reps.take{K:Vo}{H:Hp}:∀{vs:List V} {ps:List PV} (n:Nat),Reps K H vs ps->Reps K H (vs.take n) (ps.take n)
 |_,_,0,_=>.nil
 |_,_,_+1,.nil=>.nil
 |_,_,n+1,.cons a r=>.cons a (Reps.take n r)
theorem Reps.drop{K:Vo}{H:Hp}:∀{vs:List V} {ps:List PV} (n:Nat),Reps K H vs ps->Reps K H (vs.drop n) (ps.drop n)
 |_,_,0,r=>r
 |_,_,_+1,.nil=>.nil
 |_,_,n+1,.cons _ r=>Reps.drop n r
theorem Reps.set{K:Vo}{H:Hp}{v:V}{p:PV}(q:Rep K H v p):∀{vs:List V} {ps:List PV} (n:Nat),Reps K H vs ps->Reps K H (vs.set n v) (ps.set n p)
 |_,_,_,.nil=>.nil
 |_,_,0,.cons _ r=>.cons q r
 |_,_,n+1,.cons a r=>.cons a (Reps.set q n r)
theorem Reps.eraseIdx{K:Vo}{H:Hp}:∀{vs:List V} {ps:List PV} (n:Nat),Reps K H vs ps->Reps K H (vs.eraseIdx n) (ps.eraseIdx n)
 |_,_,_,.nil=>.nil
 |_,_,0,.cons _ r=>r
 |_,_,n+1,.cons a r=>.cons a (Reps.eraseIdx n r)
theorem Reps.reverse{K:Vo}{H:Hp}:∀{vs:List V} {ps:List PV},Reps K H vs ps->Reps K H vs.reverse ps.reverse
 |_,_,.nil=>.nil
 |_,_,.cons a r=>by rw[AW,AW];exact(Reps.reverse r).append (.cons a .nil)
theorem Reps.dropLast{K:Vo}{H:Hp}{vs:List V}{ps:List PV}(r:Reps K H vs ps):Reps K H vs.dropLast ps.dropLast:=by
 rw[List.dropLast_eq_take,List.dropLast_eq_take,r.length]
 exact r.take _
inductive SO where
 |lst (xs:List PV)
 |dct (kvs:List (aA×PV))
 |ins (c:Str) (fs:List (Str×PV))
abbrev aj:=Addr->Option SO
noncomputable def ah(S:aj)(a:Addr)(o:SO):aj:=fun b=>if b=a then some o else S b
def aa{S:aj}{a:Addr}{o:SO}:ah S a o a=some o:=by unfold ah;rw[if_pos rfl]
def af{S:aj}{a b:Addr}{o:SO}(h:b≠a):ah S a o b=S b:=by unfold ah;rw[if_neg h]
def eJ{S:aj}{a:Addr}{o u:SO}:ah (ah S a o) a u=ah S a u:=by
 funext b;unfold ah;split<;>rfl
inductive tz (K:Vo) (H:Hp) {κ:Type}:List (κ×V)->List (κ×PV)->Prop
 |nil:tz K H [] []
 |cons {k:κ} {v:V} {p:PV} {vs:List (κ×V)} {ps:List (κ×PV)}:Rep K H v p->tz K H vs ps->tz K H ((k,v)::vs) ((k,p)::ps)
theorem tz.mono{K:Vo}{H H':Hp}(g:Grow K H H'){κ:Type}:∀{vs:List (κ×V)} {ps:List (κ×PV)},tz K H vs ps->tz K H' vs ps
 |_,_,.nil=>.nil
 |_,_,.cons a r=>.cons (a.mono g) (tz.mono g r)
theorem tz.length{K:Vo}{H:Hp}{κ:Type}:∀{vs:List (κ×V)} {ps:List (κ×PV)},tz K H vs ps->vs.length=ps.length
 |_,_,.nil=>rfl
 |_,_,.cons _ r=>by rw[zy,zy,tz.length r]
noncomputable def va(K:Vo)(H:Hp)(a:Addr):SO->Prop
 | .lst xs=>∃vs,H a=some (.lst vs)/\Reps K H vs xs
 | .dct kvs=>∃kv,H a=some (.dK kv)/\tz K H kv kvs
 | .ins c fs=>∃C dx f',ClsN K c C/\H a=some (.ins C dx f')/\tz K H f' fs
theorem va.stay{K:Vo}{H H':Hp}(g:Grow K H H'){a:Addr}(e:H' a=H a):∀{o:SO},va K H a o->va K H' a o
 | .lst _,⟨vs,h,r⟩=>⟨vs,e.trans h,r.mono g⟩
 | .dct _,⟨vs,h,r⟩=>⟨vs,e.trans h,r.mono g⟩
 | .ins _ _,⟨C,dx,vs,n,h,r⟩=>⟨C,dx,vs,n,e.trans h,r.mono g⟩
theorem va.some{K:Vo}{H:Hp}{a:Addr}:∀{o:SO},va K H a o->∃u,H a=Option.some u/\Mu u
 | .lst _,⟨_,h,_⟩=>⟨_,h,trivial⟩
 | .dct _,⟨_,h,_⟩=>⟨_,h,trivial⟩
 | .ins _ _,⟨_,_,_,_,h,_⟩=>⟨_,h,trivial⟩
def tw(K:Vo)(H:Hp)(S:aj):Prop:=∀a o,S a=some o->va K H a o
def tw.free{K:Vo}{H:Hp}{S:aj}(r:tw K H S){p:Addr}(h:H p=none):S p=none:=by
 cases e:S p with
 |none=>rfl
 |some o=>
  obtain⟨u,q,_⟩:=(r p o e).some
  rw[h]at q;cases q
def tw.grow{K:Vo}{H H':Hp}{S:aj}(r:tw K H S)(h:∀c o,H c=some o->H' c=some o):tw K H' S:=fun a o e=>by
 obtain⟨u,q,_⟩:=(r a o e).some
 exact(r a o e).stay (.same h) ((h a u q).trans q.symm)
def tw.other{K:Vo}{H:Hp}{S:aj}(r:tw K H S){p:Addr}{o:HO}(h:H p=none):tw K (upd H p o) S:=r.grow fun c u q=>by rw[ac (au q h)];exact q
theorem tw.new{K:Vo}{H:Hp}{S:aj}(r:tw K H S){p:Addr}{u:HO}{o:SO}(h:H p=none)(q:va K (upd H p u) p o):tw K (upd H p u) (ah S p o):=fun a x e=>by
 by_cases z:a=p
 ·subst z;rw[aa]at e;cases e;exact q
 ·rw[af z]at e;exact(r a x e).stay (.new h) (ac z)
def tw.put{K:Vo}{H:Hp}{S:aj}(r:tw K H S){p:Addr}{u0 u:HO}{o:SO}(h:H p=some u0)(m:Mu u0)(q:va K (upd H p u) p o):tw K (upd H p u) (ah S p o):=fun a x e=>by
 by_cases z:a=p
 ·subst z;rw[aa]at e;cases e;exact q
 ·rw[af z]at e;exact(r a x e).stay (.mut h m) (ac z)
abbrev aN:=List (Option PV)
noncomputable def lk:aN->Nat->Option PV
 |[],_=>none
 |x::_,0=>x
 |_::r,i+1=>lk r i
def jX{σ:aN}{i:Nat}{p:PV}(h:lk σ i=some p):σ[i]?=some (some p):=by
 induction σ generalizing i with
 |nil=>cases h
 |cons x r ih=>
  cases i with
  |zero=>exact zM some h
  |succ i=>exact ih h
structure tx (K:Vo) (H:Hp) (σ:St) (σ3:aN):Prop where
 len:σ.length=σ3.length
 at':∀(i:Nat) (p:PV),σ3[i]?=some (some p)->∃v,σ[i]?=some (some v)/\Rep K H v p
theorem tx.mono{K:Vo}{H H':Hp}{σ:St}{σ3:aN}(r:tx K H σ σ3)(g:Grow K H H'):tx K H' σ σ3:=⟨r.len,fun i p e=>let ⟨v,h,q⟩:=r.at' i p e;⟨v,h,q.mono g⟩⟩
theorem tx.set{K:Vo}{H:Hp}{σ:St}{σ3:aN}(r:tx K H σ σ3){v:V}{p:PV}(q:Rep K H v p)(i:Nat):tx K H (σ.set i (some v)) (σ3.set i (some p)):=by
 refine⟨by rw[AJ,AJ,r.len],fun j x e=>?_⟩
 rw[Be]at e ⊢
 split at e
 ·rename_i hij
  rw[if_pos hij]
  subst hij
  split at e
  ·rename_i hl
   cases e
   rw[if_pos (by rw[r.len];exact hl)]
   exact⟨v,rfl,q⟩
  ·cases e
 ·rename_i hij
  rw[if_neg hij]
  exact r.at' j x e
abbrev cW:=PV->aj->Prop
abbrev cD:=PV->aN->aj->Prop
abbrev ap:=aN->aj->cW->cD->Prop
abbrev dv:=aN->aj->(Bool->aj->Prop)->cD->Prop
abbrev sF:=aN->aj->(List PV->aj->Prop)->cD->Prop
structure dw where
 nx:aN->aj->Prop
 rt:cW
 ex:cD
 bk:aN->aj->Prop:=fun _ _=>False
 ct:aN->aj->Prop:=fun _ _=>False
abbrev aY:=dw->aN->aj->Prop
def vN(X:Cx)(H:Hp)(E:cD):Prop:=∀(c:Str) (ks:Vs) (ps:List PV) (σ3:aN) (S':aj) (H':Hp) (pins:Va) (σ:St) (s':Shared) (a C:Addr) (dx:Option Addr) (od:Obj) (vs:List V),E (.exc c ks ps) σ3 S'->ClsN X.K c C->vs.length=ks.length->
 vj H' dx od ks vs->Reps X.K H' vs ps->tw X.K H' S'->tx X.K H' σ σ3->Grow X.K H H'->Inv X pins σ H' s'->oR X pins H' s'.heap a C dx->X.xe (.ref a) s'
def vN.mono{X:Cx}{H H':Hp}{E:cD}(x:vN X H E)(g:Grow X.K H H'):vN X H' E:=fun c ks ps σ3 S' H2 pins σ s' a C dx od vs h1 h2 h3 h4 h5 h6 h7 h8 h9 y0=>x c ks ps σ3 S' H2 pins σ s' a C dx od vs h1 h2 h3 h4 h5 h6 h7 (g.trans h8) h9 y0
def vO(K:Vo)(H:Hp)(Q3:cW)(Q:VK):Prop:=∀p S' v H',Q3 p S'->Rep K H' v p->tw K H' S'->Grow K H H'->Q v H'
def vO.mono{K:Vo}{H H':Hp}{Q3:cW}{Q:VK}(r:vO K H Q3 Q)(g:Grow K H H'):vO K H' Q3 Q:=fun p S' v H2 h1 h2 h3 h4=>r p S' v H2 h1 h2 h3 (g.trans h4)
def wc(K:Vo)(H:Hp)(N3:aN->aj->Prop)(N:St->Hp->Prop):Prop:=∀σ3 S' σ H',N3 σ3 S'->tx K H' σ σ3->tw K H' S'->Grow K H H'->N σ H'
def wc.mono{K:Vo}{H H':Hp}{Q3:aN->aj->Prop}{Q:St->Hp->Prop}(r:wc K H Q3 Q)(g:Grow K H H'):wc K H' Q3 Q:=fun p S' v H2 h1 h2 h3 h4=>r p S' v H2 h1 h2 h3 (g.trans h4)
inductive LE (X:Cx) (t:ap) (σ:L2.St) (H:Hp) (Q:VK):Prop
 |mk (σ3 S Q3 E3) (rσ:tx X.K H σ σ3) (rS:tw X.K H S) (h:t σ3 S Q3 E3) (xo:vN X H E3) (k:vO X.K H Q3 Q):LE X t σ H Q
inductive LT (X:Cx) (t:dv) (σ:L2.St) (H:Hp) (Q:Bool->Hp->Prop):Prop
 |mk (σ3 S Q3 E3) (rσ:tx X.K H σ σ3) (rS:tw X.K H S) (h:t σ3 S Q3 E3) (xo:vN X H E3) (k:∀b S' H',Q3 b S'->tw X.K H' S'->Grow X.K H H'->Q b H'):LT X t σ H Q
inductive LS (X:Cx) (t:aY) (D:cv) (σ:L2.St) (H:Hp):Prop
 |mk (σ3 S D3) (rσ:tx X.K H σ σ3) (rS:tw X.K H S) (h:t D3 σ3 S) (xo:vN X H D3.ex) (nx:wc X.K H D3.nx D.nx) (rt:vO X.K H D3.rt D.rt) (bk:wc X.K H D3.bk D.bk) (ct:wc X.K H D3.ct D.ct):LS X t D σ H
structure ax (X:Cx) (e:Expr) (t:ap):Prop where
 ok:PE X e (LE X t)
structure jd (X:Cx) (e:Expr) (t:dv):Prop where
 ok:PT X e (LT X t)
structure ny (X:Cx) (e:Expr) (t:dv):Prop where
 ok:PW X e (LT X t)
structure fA (X:Cx) (st:Stmt) (t:aY):Prop where
 ok:PS X st (LS X t)
structure bE (X:Cx) (st:List Stmt) (t:aY):Prop where
 ok:uS X st (LS X t)
def ai{X:Cx}{e:Expr}{t t':TE}(h:PE X e t)(k:∀σ H Q,t' σ H Q->t σ H Q):PE X e t':=fun pins s σ H Q I q=>h pins s σ H Q I (k σ H Q q)
def jY{X:Cx}{e:Expr}{t t':TT}(h:PT X e t)(k:∀σ H Q,t' σ H Q->t σ H Q):PT X e t':=fun pins s σ H Q I q=>h pins s σ H Q I (k σ H Q q)
def jZ{X:Cx}{e:Expr}{t t':TT}(h:PW X e t)(k:∀σ H Q,t' σ H Q->t σ H Q):PW X e t':=fun wh pins s σ H Q I q=>h wh pins s σ H Q I (k σ H Q q)
def aR{X:Cx}{e:Stmt}{t t':TS}(h:PS X e t)(k:∀D σ H,t' D σ H->t D σ H):PS X e t':=fun pins s σ H D I q=>h pins s σ H D I (k D σ H q)
def ic{X:Cx}{e:List Stmt}{t t':TS}(h:uS X e t)(k:∀D σ H,t' D σ H->t D σ H):uS X e t':=fun pins s σ H D I q=>h pins s σ H D I (k D σ H q)
section
variable {X:Cx} {a b c e o:Expr} {es:List Expr} {ta tb tc te:ap} {pos:Pos}
def v3(i:Nat):ap:=fun σ S Q _=>match lk σ i with|some p=>Q p S|none=>False
def ao(i:Nat){x:Str}(hN:X.N[i]?=some x:=by rfl)(hv:o7 X.env.scope x:=by first|exact Or.inl rfl|exact Or.inr (Or.inl rfl)|exact Or.inr (Or.inr rfl))(hd:(x == ("__debug__":Str))=false:=by decide)
  (hcd:(x == ("__classdict__":Str))=false:=by decide):ax X (.Name x pos) (v3 i):=
 ⟨ai (jg hN hv hd hcd) fun σ H Q ⟨σ3,S,Q3,E3,rσ,rS,h,xo,k⟩=>by
  unfold v3 at h
  split at h
  ·rename_i p e
   obtain⟨v,ev,rv⟩:=rσ.at' i p (jX e)
   exact⟨v,ev,k p S v H h rv rS .refl⟩
  ·exact h.elim⟩
def c3(p:PV):ap:=fun _ S Q _=>Q p S
def am{i:Int}{j:Nat}:ax X (.Constant (.int i) j pos) (c3 (.int i)):=⟨ai mq fun σ H Q ⟨σ3,S,Q3,E3,rσ,rS,h,xo,k⟩=>k _ S _ H h (.int i) rS .refl⟩
def nz{i:Bool}{j:Nat}:ax X (.Constant (.bool i) j pos) (c3 (.bl i)):=⟨ai o8 fun σ H Q ⟨σ3,S,Q3,E3,rσ,rS,h,xo,k⟩=>k _ S _ H h (.bl i) rS .refl⟩
def av{i:Str}{j:Nat}:ax X (.Constant (.str i) j pos) (c3 (.str i)):=⟨ai mr fun σ H Q ⟨σ3,S,Q3,E3,rσ,rS,h,xo,k⟩=>k _ S _ H h (.str i) rS .refl⟩
def rB{x:Str}{n:String}(hg:Gl X x)(hm:X.mg x=none)(hv:bootBuiltins x=some (.type n))(hn:x ≠ "__name__":=by decide)(hd:(x == ("__debug__":Str))=false:=by decide):ax X (.Name x pos) (c3 (.ty n)):=
 ⟨ai (kJ (v:=.ty n) hg hm hv rfl hn hd) fun σ H Q ⟨σ3,S,Q3,E3,rσ,rS,h,xo,k⟩=>k _ S _ H h (.ty n) rS .refl⟩
noncomputable def aW:List ap->sF
 |[],_,S,Q,_=>Q [] S
 |t::ts,σ,S,Q,E=>t σ S (fun x S1=>aW ts σ S1 (fun xs S2=>Q (x::xs) S2) E) E
noncomputable def qN:List TE->TA
 |[]=>pF
 |t::ts=>l5 t (qN ts)
structure dy (X:Cx) (es:List Expr) (ts:List ap):Prop where
 ok:PA X es (qN (ts.map (LE X)))
def pX:dy X [] []:=⟨mO⟩
def j0{ts:List ap}(hs:starEach (e::es) X.env=(false,eval e X.env)::starEach es X.env)(ha:ax X e te)(hr:dy X es ts):dy X (e::es) (te::ts):=⟨kW ha.ok hr.ok hs⟩
theorem aE:∀{ts:List ap} {σ:L2.St} {H:Hp} {Q:List V->Hp->Prop} {σ3:aN} {S:aj} {Q3:List PV->aj->Prop} {E3:cD},tx X.K H σ σ3->tw X.K H S->aW ts σ3 S Q3 E3->vN X H E3->
  (∀ps S' vs H',ps.length=ts.length->Q3 ps S'->Reps X.K H' vs ps->tw X.K H' S'->Grow X.K H H'->Q vs H')->qN (ts.map (LE X)) σ H Q
 |[],σ,H,Q,σ3,S,Q3,E3,rσ,rS,h,xo,k=>k [] S [] H rfl h .nil rS .refl
 |t::ts,σ,H,Q,σ3,S,Q3,E3,rσ,rS,h,xo,k=>
  ⟨σ3,S,_,E3,rσ,rS,h,xo,fun p S1 v H1 h1 rv tE g1=>aE (rσ.mono g1) tE h1 (xo.mono g1) fun ps S2 vs H2 hl h2 xP uO g2=>k (p::ps) S2 (v::vs) H2 (by rw[zy,zy,hl]) h2 (.cons (rv.mono g2) xP) uO (g1.trans g2)⟩
def dz(ts:List ap):ap:=fun σ S Q E=>aW ts σ S (fun xs S1=>Q (.tup xs) S1) E
def dA{ts:List ap}{x1:Nat}(h:dy X es ts)(hn:ts.length<=1000:=by exact zT rfl):ax X (.Tuple es x1 pos) (dz ts):=
 ⟨ai (mP h.ok) fun σ H Q ⟨σ3,S,Q3,E3,rσ,rS,hq,xo,k⟩=>aE rσ rS hq xo fun ps S' vs H' hl q rv t0 g=>
  ⟨Ak (bg (by rw[rv.length,hl];exact hn)),fun p hp=>k _ S' _ _ q (.tup (uy.of ad) (rv.mono (.new hp))) (t0.other hp) (g.trans (.new hp))⟩⟩
def cE(ts:List ap):ap:=fun σ S Q E=>aW ts σ S (fun xs S1=>∀p,S1 p=none->Q (.ref p) (ah S1 p (.lst xs))) E
def bF{ts:List ap}(h:dy X es ts)(hn:ts.length<=1000:=by exact zT rfl):ax X (.List es pos) (cE ts):=
 ⟨ai (mQ h.ok) fun σ H Q ⟨σ3,S,Q3,E3,rσ,rS,hq,xo,k⟩=>aE rσ rS hq xo fun ps S' vs H' hl q rv t0 g=>
  ⟨Ak (bg (by rw[rv.length,hl];exact hn)),fun p hp=>k _ _ _ _ (q p (t0.free hp)) (.ref p) (t0.new hp ⟨vs,ad,rv.mono (.new hp)⟩) (g.trans (.new hp))⟩⟩
abbrev R3:=PV->PV->aj->cW->Prop
inductive LR (X:Cx) (r:R3) (x y:V) (H:Hp) (Q:VK):Prop
 |mk (px py S Q3) (rx:Rep X.K H x px) (ry:Rep X.K H y py) (rS:tw X.K H S) (h:r px py S Q3) (k:vO X.K H Q3 Q):LR X r x y H Q
structure d0 (X:Cx) (f:Value->Value->Sem Value) (r:R3):Prop where
 ok:dc X f (LR X r)
def aF(r:R3)(ta tb:ap):ap:=fun σ S Q E=>ta σ S (fun x S1=>tb σ S1 (fun y S2=>r x y S2 Q) E) E
def de{r:R3}{σ:L2.St}{H:Hp}{Q:VK}:LE X (aF r ta tb) σ H Q->pp (LR X r) (LE X ta) (LE X tb) σ H Q:=fun⟨σ3,S,Q3,E3,rσ,rS,h,xo,k⟩=>
 ⟨σ3,S,_,E3,rσ,rS,h,xo,fun x S1 v H1 h1 rx tE g1=>⟨σ3,S1,_,E3,rσ.mono g1,tE,h1,xo.mono g1,fun y S2 u H2 h2 ry uO g2=>⟨x,y,S2,Q3,rx.mono g2,ry,uO,h2,k.mono (g1.trans g2)⟩⟩⟩
def aO{op:Operator}{r:R3}(ho:d0 X (binaryOp op) r)(ha:ax X a ta)(hb:ax X b tb):ax X (.BinOp a op b pos) (aF r ta tb):=⟨ai (pq ho.ok ha.ok hb.ok) fun _ _ _=>de⟩
def pY{op:CmpOp}{r:R3}(ho:d0 X (compareOp op) r)(ha:ax X a ta)(hb:ax X b tb)(hm:behindInMarks op b=false):ax X (.Compare a [op] [b] pos) (aF r ta tb):=⟨ai (kS ho.ok ha.ok hb.ok hm) fun _ _ _=>de⟩
def cY(t:ap):dv:=fun σ S Q E=>t σ S (fun v S'=>match v with | .bl k=>Q k S'|_=>False) E
def j1{σ:L2.St}{H:Hp}{Q:Bool->Hp->Prop}:LT X (cY te) σ H Q->LE X te σ H (fun x H'=>∃k,x = .bl k/\Q k H'):=fun⟨σ3,S,Q3,E3,rσ,rS,h,xo,k⟩=>
 ⟨σ3,S,_,E3,rσ,rS,h,xo,fun p S' v H' h1 rv t0 g=>by
  cases p with
  |bl z=>cases rv;exact⟨z,rfl,k z S' H' h1 t0 g⟩
  |_=>exact h1.elim⟩
def fR{op:CmpOp}{r:R3}(ho:d0 X (compareOp op) r)(ha:ax X a ta)(hb:ax X b tb)(hm:behindInMarks op b=false):jd X (.Compare a [op] [b] pos) (cY (aF r ta tb)):=
 ⟨jY (kT ho.ok ha.ok hb.ok hm) fun σ H Q ⟨σ3,S,Q3,E3,rσ,rS,h,xo,k⟩=>de ⟨σ3,S,_,E3,rσ,rS,h,xo,fun p S' v H' h1 rv t0 g=>by
  cases p with
  |bl z=>cases rv;exact⟨z,rfl,k z S' H' h1 t0 g⟩
  |_=>exact h1.elim⟩⟩
def l8(h:ax X e te)(he:∀whole,isTrue e X.env whole=(do let v <-whole;standAt e.pos;holding [v] (truthy v)):=by intro _;rfl):jd X e (cY te):=
 ⟨jY (ms h.ok he) fun σ H Q q=>j1 q⟩
end
section
variable {X:Cx} {a b c:Expr} {rest:List Expr} {ta tb te:ap} {tA tB:dv} {pos:Pos}
def j2(t u:dv):dv:=fun σ S Q E=>t σ S (fun c S1=>if c=true then u σ S1 Q E else Q false S1) E
def pZ(t u:dv):dv:=fun σ S Q E=>t σ S (fun c S1=>if c=true then Q true S1 else u σ S1 Q E) E
def nA(ha:jd X a tA):ny X (.BoolOp .And [a] pos) tA:=⟨kK ha.ok⟩
def p5(ha:jd X a tA):ny X (.BoolOp .Or [a] pos) tA:=⟨mv ha.ok⟩
def p6(ha:jd X a tA)(hb:ny X (.BoolOp .And (b::rest) pos) tB):ny X (.BoolOp .And (a::b::rest) pos) (j2 tA tB):=
 ⟨jZ (mw ha.ok hb.ok) fun σ H Q ⟨σ3,S,Q3,E3,rσ,rS,h,xo,k⟩=>⟨σ3,S,_,E3,rσ,rS,h,xo,fun c S1 H1 h1 tE g1=>by
  cases c with
  |true=>rw[if_pos rfl]at h1 ⊢;exact⟨σ3,S1,Q3,E3,rσ.mono g1,tE,h1,xo.mono g1,fun b S2 H2 h2 uO g2=>k b S2 H2 h2 uO (g1.trans g2)⟩
  |false=>rw[if_neg (by decide)]at h1 ⊢;exact k false S1 H1 h1 tE g1⟩⟩
def rC(ha:jd X a tA)(hb:ny X (.BoolOp .Or (b::rest) pos) tB):ny X (.BoolOp .Or (a::b::rest) pos) (pZ tA tB):=
 ⟨jZ (o9 ha.ok hb.ok) fun σ H Q ⟨σ3,S,Q3,E3,rσ,rS,h,xo,k⟩=>⟨σ3,S,_,E3,rσ,rS,h,xo,fun c S1 H1 h1 tE g1=>by
  cases c with
  |true=>rw[if_pos rfl]at h1 ⊢;exact k true S1 H1 h1 tE g1
  |false=>rw[if_neg (by decide)]at h1 ⊢;exact⟨σ3,S1,Q3,E3,rσ.mono g1,tE,h1,xo.mono g1,fun b S2 H2 h2 uO g2=>k b S2 H2 h2 uO (g1.trans g2)⟩⟩⟩
def sr(h:ny X a tA):jd X a tA:=⟨h.ok.pt⟩
def fS(t u:ap):ap:=fun σ S Q E=>t σ S (fun v S1=>match v with | .bl c=>if c=true then u σ S1 Q E else Q (.bl false) S1|_=>False) E
def p7{op:BoolOp}(h:ax X a ta):ax X (.BoolOp op [a] pos) ta:=⟨mx h.ok⟩
def p8(ha:ax X a ta)(hb:ax X (.BoolOp .And (b::rest) pos) tb):ax X (.BoolOp .And (a::b::rest) pos) (fS ta tb):=
 ⟨ai (my ha.ok hb.ok) fun σ H Q ⟨σ3,S,Q3,E3,rσ,rS,h,xo,k⟩=>⟨σ3,S,_,E3,rσ,rS,h,xo,fun p S1 v H1 h1 rv tE g1=>by
  cases p with
  |bl z=>
   cases rv
   refine⟨z,rfl,?_⟩
   cases z with
   |true=>rw[if_pos rfl];exact⟨σ3,S1,Q3,E3,rσ.mono g1,tE,h1,xo.mono g1,k.mono g1⟩
   |false=>rw[if_neg (by decide)];exact k _ S1 _ H1 h1 (.bl false) tE g1
  |_=>exact h1.elim⟩⟩
end
section
variable {X:Cx}
def dB(g:Int->Int->PV):R3:=fun x y S Q=>match x,y with | .int i,.int j=>Q (g i j) S|_,_=>False
def bS(C:Int->Int->Prop)(g:Int->Int->PV):R3:=fun x y S Q=>match x,y with | .int i,.int j=>C i j/\Q (g i j) S|_,_=>False
def nB{f:Value->Value->Sem Value}{g:Int->Int->Int}(h:dc X f (l4 fun i j=>.int (g i j))):d0 X f (dB fun i j=>.int (g i j)):=⟨fun pins s σ H x y v u Q I rx ry ⟨px,py,S,Q3,r1,r2,rS,q,k⟩=>by
 cases px with
 |int i=>
  cases py with
  |int j=>cases r1;cases r2;exact h pins s σ H _ _ v u Q I rx ry ⟨i,j,rfl,rfl,k _ S _ H q (.int _) rS .refl⟩
  |_=>exact q.elim
 |_=>exact q.elim⟩
def ie{f:Value->Value->Sem Value}{g:Int->Int->Bool}(h:dc X f (l4 fun i j=>.bl (g i j))):d0 X f (dB fun i j=>.bl (g i j)):=⟨fun pins s σ H x y v u Q I rx ry ⟨px,py,S,Q3,r1,r2,rS,q,k⟩=>by
 cases px with
 |int i=>
  cases py with
  |int j=>cases r1;cases r2;exact h pins s σ H _ _ v u Q I rx ry ⟨i,j,rfl,rfl,k _ S _ H q (.bl _) rS .refl⟩
  |_=>exact q.elim
 |_=>exact q.elim⟩
def fo{f:Value->Value->Sem Value}{C:Int->Int->Prop}{g:Int->Int->Int}(h:dc X f (rI C fun i j=>.int (g i j))):d0 X f (bS C fun i j=>.int (g i j)):=⟨fun pins s σ H x y v u Q I rx ry ⟨px,py,S,Q3,r1,r2,rS,q,k⟩=>by
 cases px with
 |int i=>
  cases py with
  |int j=>cases r1;cases r2;exact h pins s σ H _ _ v u Q I rx ry ⟨i,j,rfl,rfl,q.1,k _ S _ H q.2 (.int _) rS .refl⟩
  |_=>exact q.elim
 |_=>exact q.elim⟩
def ig(i j:Int):Prop:=j≠0/\j.natAbs < 2 ^ 8000
def gN{n:Nat}(h:n < 2 ^ 8000):n.log2 < 9000:=by
 by_cases z:n=0
 ·rw[z];decide +kernel
 ·exact Nat.lt_trans ((Nat.log2_lt z).mpr h) (by decide)
def nC:d0 X (binaryOp .Sub) (dB fun i j=>.int (i - j)):=nB mM
def nE:d0 X (binaryOp .Mod) (bS (fun _ j=>j≠0) fun i j=>.int (i.fmod j)):=fo kR
def lv:d0 X (binaryOp .FloorDiv) (bS ig fun i j=>.int (i.fdiv j)):=fo (qK fun _ _ _ _ _ _ _ hc q=>PyProof.Rows.floordiv_int hc.1 q (.inl (PyProof.noPylong_of_log2 (gN hc.2))))
def nF:d0 X (binaryOp .Pow) (bS mK fun i j=>.int (i ^ j.toNat)):=fo mN
def p9:d0 X (compareOp .Gt) (dB fun i j=>.bl (decide (j < i))):=ie pA
def p_:d0 X (compareOp .GtE) (dB fun i j=>.bl (decide (j<=i))):=ie pB
end
end L3
namespace L2
open PySem PySem.Spec PyProof.Rows
section
variable {X:Cx}
def qa(K:Vo):R2:=fun x y H Q=>∃a b xs ys,x = .ref a/\y = .ref b/\uy K H a xs/\uy K H b ys/\xs.length+ys.length<=sizeLine/\∀r H',(∀c o,H c=some o->H' c=some o)->uy K H' r (xs++ys)->Q (.ref r) H'
def lw:dc X (binaryOp .Add) (qa X.K):=by
 intro pins s σ H x y v u Q I rx ry h
 obtain⟨a,b,xs,ys,rfl,rfl,ha,hb,hz,q⟩:=h
 by_cases hx:xs=[]
 ·subst hx
  cases rx
  cases ry
  obtain⟨its,r1,p1,_⟩:=I.tuple ha
  obtain⟨its2,r2,p2,_⟩:=I.tuple hb
  cases r1
  obtain⟨⟨cls,dd,data,sl⟩,ho,hc,n,hd⟩:=id p1
  obtain⟨⟨xw,dd2,data2,sl2⟩,ho2,hc2,n2,hd2⟩:=id p2
  simp only at hc hd hc2 hd2
  subst hc hd hc2 hd2
  exact concat_meets ⟨_,ho,rfl⟩ ⟨_,ho2,rfl⟩ noFill_tuple_add seq_tuple_add AV AQ (AF _ _)
   (tuple_addW0 a b _ its2.toArray n n2 dd dd2 sl sl2 rfl) ⟨ho,ho2,⟨.ref b,H,I,rfl,q b H (fun _ _ e=>e) hb⟩⟩
 ·exact k7 pins s σ H _ _ v u Q I rx ry ⟨a,b,xs,ys,rfl,rfl,ha,hb,hx,hz,fun e=>q a H (fun _ _ e=>e) (by rw[e,zV];exact ha),
   fun _ p hp=>q p _ (fun c o e=>by rw[ac (au e hp)];exact e) (uy.of ad)⟩
end
end L2
namespace L3
open PySem L2
section
variable {X:Cx}
def ce:R3:=fun x y S Q=>match x,y with
 | .int i,.int j=>Q (.int (i+j)) S
 | .str i,.str j=>i.length+j.length<=sizeLine/\Q (.str (i++j)) S
 | .tup i,.tup j=>i.length+j.length<=sizeLine/\Q (.tup (i++j)) S
 | .ref i,.ref j=>match S i,S j with
  |some (.lst xs),some (.lst ys)=>xs.length+ys.length<=sizeLine/\∀p,S p=none->Q (.ref p) (ah S p (.lst (xs++ys)))
  |_,_=>False
 |_,_=>False
def bb:d0 X (binaryOp .Add) ce:=⟨fun pins s σ H x y v u Q I rx ry ⟨px,py,S,Q3,r1,r2,rS,q,k⟩=>by
 unfold ce at q
 split at q
 ·cases r1;cases r2
  exact mL pins s σ H _ _ v u Q I rx ry ⟨_,_,rfl,rfl,k _ S _ H q (.int _) rS .refl⟩
 ·cases r1;cases r2
  exact gC pins s σ H _ _ v u Q I rx ry ⟨_,_,rfl,rfl,q.1,k _ S _ H q.2 (.str _) rS .refl⟩
 ·cases r1 with
  |tup h1 s1=>
   cases r2 with
   |tup h2 s2=>
    refine lw pins s σ H _ _ v u Q I rx ry ⟨_,_,_,_,rfl,rfl,h1,h2,by rw[s1.length,s2.length];exact q.1,fun r H' hs hr=>?_⟩
    exact k _ S _ H' q.2 (.tup hr ((s1.mono (.same hs)).append (s2.mono (.same hs)))) (rS.grow hs) (.same hs)
 ·cases r1;cases r2
  split at q
  ·rename_i i j xs ys e1 e2
   obtain⟨vs,h1,s1⟩:=rS _ _ e1
   obtain⟨us,h2,s2⟩:=rS _ _ e2
   exact mZ pins s σ H _ _ v u Q I rx ry ⟨_,_,_,_,rfl,rfl,h1,h2,by rw[s1.length,s2.length];exact q.1,fun p hp=>k _ _ _ _ (q.2 p (rS.free hp)) (.ref p) (rS.new hp ⟨_,ad,(s1.append s2).mono (.new hp)⟩) (.new hp)⟩
  ·exact q.elim
 ·exact q.elim⟩
end
mutual
inductive Dat (S:aj):PV->PyData->Prop
 |non:Dat S .non .none
 |bl (b:Bool):Dat S (.bl b) (.bool b)
 |int (i:Int):Dat S (.int i) (.int i)
 |str (x:Str):Dat S (.str x) (.str x)
 |tup {ps:List PV} {ds:List PyData}:uJ S ps ds->Dat S (.tup ps) (.tuple ds)
 |cl {ps:List PV} {ds:List PyData}:uJ S ps ds->Dat S (.cl ps) (.list ds)
 |ref {a:Addr} {ps:List PV} {ds:List PyData}:S a=some (.lst ps)->uJ S ps ds->Dat S (.ref a) (.list ds)
inductive uJ (S:aj):List PV->List PyData->Prop
 |nil:uJ S [] []
 |cons {p:PV} {d:PyData} {ps:List PV} {ds:List PyData}:Dat S p d->uJ S ps ds->uJ S (p::ps) (d::ds)
end
section
variable {X:Cx} {pins:Va} {σ:L2.St} {H:Hp} {s:Shared} {S:aj}
def gO(I:Inv X pins σ H s)(rS:tw X.K H S):(∀{p:PV} {d:PyData},Dat S p d->∀{v:V} {u:Value},Rep X.K H v p->RelV v u->∃as,Reads s.heap u d as)/\∀{ps:List PV} {ds:List PyData},uJ S ps ds->∀{vs:List V} {us:Vv},Reps X.K H vs ps->Vals vs us->∃as,ReadsAll s.heap us ds as:=by
 have one:=@Dat.rec S (motive_1:=fun p d _=>∀{v:V} {u:Value},Rep X.K H v p->RelV v u->∃as,Reads s.heap u d as) (motive_2:=fun ps ds _=>∀{vs:List V} {us:Vv},Reps X.K H vs ps->Vals vs us->∃as,ReadsAll s.heap us ds as)
 have two:=@uJ.rec S (motive_1:=fun p d _=>∀{v:V} {u:Value},Rep X.K H v p->RelV v u->∃as,Reads s.heap u d as) (motive_2:=fun ps ds _=>∀{vs:List V} {us:Vv},Reps X.K H vs ps->Vals vs us->∃as,ReadsAll s.heap us ds as)
 have c1:∀{v:V} {u:Value},Rep X.K H v .non->RelV v u->∃as,Reads s.heap u .none as:=fun h r=>by cases h;cases r;exact⟨_,.none⟩
 have c2:∀(b:Bool) {v:V} {u:Value},Rep X.K H v (.bl b)->RelV v u->∃as,Reads s.heap u (.bool b) as:=fun b _ _ h r=>by cases h;cases r;exact⟨_,.bool b⟩
 have c3:∀(i:Int) {v:V} {u:Value},Rep X.K H v (.int i)->RelV v u->∃as,Reads s.heap u (.int i) as:=fun i _ _ h r=>by cases h;obtain⟨t,rfl⟩:=r;exact⟨_,.int i t⟩
 have c4:∀(x:Str) {v:V} {u:Value},Rep X.K H v (.str x)->RelV v u->∃as,Reads s.heap u (.str x) as:=fun x _ _ h r=>by cases h;obtain⟨t,rfl⟩:=r;exact⟨_,.str x t⟩
 have c5:∀{ps:List PV} {ds:List PyData},uJ S ps ds->(∀{vs:List V} {us:Vv},Reps X.K H vs ps->Vals vs us->∃as,ReadsAll s.heap us ds as)->∀{v:V} {u:Value},Rep X.K H v (.tup ps)->RelV v u->∃as,Reads s.heap u (.tuple ds) as:=fun _ ih _ _ h r=>by
  cases h with
  |tup h rs=>
   cases r
   obtain⟨its,rv,⟨o,ho,hc,n,hd⟩,hz⟩:=I.tuple h
   obtain⟨as,q⟩:=ih rs rv
   exact⟨as,.tuple ho hc hd (by simpa using q)⟩
 have c6:∀{ps:List PV} {ds:List PyData},uJ S ps ds->(∀{vs:List V} {us:Vv},Reps X.K H vs ps->Vals vs us->∃as,ReadsAll s.heap us ds as)->∀{v:V} {u:Value},Rep X.K H v (.cl ps)->RelV v u->∃as,Reads s.heap u (.list ds) as:=fun _ ih _ _ h r=>by
  cases h with
  |cl h rs=>
   cases r
   obtain⟨its,rv,⟨o,n,ho,hc,_,hd⟩,hz⟩:=I.list h.sq
   obtain⟨as,q⟩:=ih rs rv
   exact⟨_,.list ho hc hd (by simpa using q)⟩
 have c7:∀{a:Addr} {ps:List PV} {ds:List PyData},S a=some (.lst ps)->uJ S ps ds->(∀{vs:List V} {us:Vv},Reps X.K H vs ps->Vals vs us->∃as,ReadsAll s.heap us ds as)->∀{v:V} {u:Value},Rep X.K H v (.ref a)->RelV v u->∃as,Reads s.heap u (.list ds) as:=fun e _ ih _ _ h r=>by
  cases h
  cases r
  obtain⟨vs,hv,rs⟩:=rS _ _ e
  obtain⟨its,rv,⟨o,n,ho,hc,_,hd⟩,hz⟩:=I.list (SqL.of hv)
  obtain⟨as,q⟩:=ih rs rv
  exact⟨_,.list ho hc hd (by simpa using q)⟩
 have c8:∀{vs:List V} {us:Vv},Reps X.K H vs []->Vals vs us->∃as,ReadsAll s.heap us [] as:=fun h r=>by cases h;cases r;exact⟨_,.nil⟩
 have c9:∀{p:PV} {d:PyData} {ps:List PV} {ds:List PyData},Dat S p d->uJ S ps ds->(∀{v:V} {u:Value},Rep X.K H v p->RelV v u->∃as,Reads s.heap u d as)->(∀{vs:List V} {us:Vv},Reps X.K H vs ps->Vals vs us->∃as,ReadsAll s.heap us ds as)->∀{vs:List V} {us:Vv},Reps X.K H vs (p::ps)->Vals vs us->∃as,ReadsAll s.heap us (d::ds) as:=fun _ _ i1 i2 _ _ h r=>by
  cases h with
  |cons a rs=>
   cases r with
   |cons r1 r2=>
    obtain⟨as,q⟩:=i1 a r1
    obtain⟨bs,q2⟩:=i2 rs r2
    exact⟨_,.cons q q2⟩
 exact⟨fun h=>one c1 c2 c3 c4 c5 c6 c7 c8 c9 h,fun h=>two c1 c2 c3 c4 c5 c6 c7 c8 c9 h⟩
def Dat.reads(I:Inv X pins σ H s)(rS:tw X.K H S){p:PV}{d:PyData}{v:V}{u:Value}(h:Dat S p d)(r:Rep X.K H v p)(r2:RelV v u):∃as,Reads s.heap u d as:=(gO I rS).1 h r r2
end
section
variable {X:Cx}
def dC(neg:Bool):R3:=fun x y S Q=>match x,y with
 | .int i,.int j=>Q (.bl (neg != decide (i=j))) S
 | .str i,.str j=>Q (.bl (neg != decide (i=j))) S
 | .bl i,.bl j=>Q (.bl (neg != decide (i=j))) S
 |x,y=>∃d d',Dat S x d/\Dat S y d'/\d.canLay0=true/\d'.canLay0=true/\min d.depth d'.depth<=150/\Q (.bl (neg != PyData.eqv d d')) S
def l9(hu:X.A.units+150 < cLine):d0 X (compareOp .Eq) (dC false):=⟨fun pins s σ H x y v u Q I rx ry ⟨px,py,S,Q3,r1,r2,rS,q,k⟩=>by
 unfold dC at q
 split at q
 ·cases r1;cases r2
  exact jn pins s σ H _ _ v u Q I rx ry ⟨rfl,k _ S _ H (by simpa using q) (.bl _) rS .refl⟩
 ·cases r1;cases r2
  exact jn pins s σ H _ _ v u Q I rx ry ⟨rfl,k _ S _ H (by simpa using q) (.bl _) rS .refl⟩
 ·cases r1;cases r2
  exact jn pins s σ H _ _ v u Q I rx ry ⟨rfl,k _ S _ H (by simpa using q) (.bl _) rS .refl⟩
 ·obtain⟨d,d',h1,h2,c1,c2,hd,q⟩:=q
  obtain⟨as,a1⟩:=h1.reads I rS r1 rx
  obtain⟨bs,a2⟩:=h2.reads I rS r2 ry
  exact SeqAt.compareEq_reads a1 a2 c1 c2 (by omega) ⟨.bl _,H,I,rfl,k _ S _ H (by simpa using q) (.bl _) rS .refl⟩⟩
def qb(hu:X.A.units+150 < cLine):d0 X (compareOp .NotEq) (dC true):=⟨fun pins s σ H x y v u Q I rx ry ⟨px,py,S,Q3,r1,r2,rS,q,k⟩=>by
 unfold dC at q
 split at q
 ·cases r1;cases r2
  exact jo pins s σ H _ _ v u Q I rx ry ⟨rfl,k _ S _ H (by simpa using q) (.bl _) rS .refl⟩
 ·cases r1;cases r2
  exact jo pins s σ H _ _ v u Q I rx ry ⟨rfl,k _ S _ H (by simpa using q) (.bl _) rS .refl⟩
 ·cases r1;cases r2
  exact jo pins s σ H _ _ v u Q I rx ry ⟨rfl,k _ S _ H (by simpa using q) (.bl _) rS .refl⟩
 ·obtain⟨d,d',h1,h2,c1,c2,hd,q⟩:=q
  obtain⟨as,a1⟩:=h1.reads I rS r1 rx
  obtain⟨bs,a2⟩:=h2.reads I rS r2 ry
  exact SeqAt.compareNe_reads a1 a2 c1 c2 (by omega) ⟨.bl _,H,I,rfl,k _ S _ H (by simpa using q) (.bl _) rS .refl⟩⟩
theorem tz.any{K:Vo}{H:Hp}{κ:Type} [DecidableEq κ](k:κ):∀{vs:List (κ×V)} {ps:List (κ×PV)},tz K H vs ps->(bY vs k).isSome=ps.any fun kv=>decide (kv.1=k)
 |_,_,.nil=>rfl
 |_,_,.cons (k:=k') a r=>by
  rw[A3,<-tz.any k r]
  by_cases e:k'=k
  ·rw[ub e];simp[e]
  ·rw[uc e];simp[e]
end
end L3
namespace HT
open PySem PySem.Spec PyProof.Rows
section
variable {prog:Program} {w:World} {A:Around} {E:Vq} {s:Shared}
def cf{t sl:Addr}{items:Vw}{vl vu:Value}{lo hi:Option Int}{Q:Vq}(ht:IsTup s.heap t items)(hs:s.heap.IsSliceOf sl vl vu .none)(pl:IsPart vl lo)(pu:IsPart vu hi)
  (hw:tD items.size 0 lo=0/\tD items.size items.size hi=items.size)
  (h:Q (.ref t) s):wpAny (model prog w) A (getItem (.ref t) (.ref sl)) Q E s:=by
 obtain⟨os,hos,hcs,hds⟩:=id hs
 have xx:s.TypeIs (.ref sl) "slice":=⟨os,hos,hcs⟩
 unfold getItem
 try with_reducible refine zZ ?_
 first|refine zo (zq ?_)|skip
 refine zo (wpAny_sequenceKey ht.typeIs (by decide) ?_)
 refine zo (AR (name:=Str.ofString "__getitem__") ht.typeIs zI
  (wpAny_call_entry zI ht.typeIs entry_tuple_getitem ?_ (args_tuple_getitem _ _)))
 show wpAny _ _ (Builtin.Tuple.tupleItemsOf (.ref t) >>= _) _ _ s
 refine zo (tupleItemsOf_ ht ?_)
 refine zo (wpAny_typeOf xx ?_)
 rw[if_pos (by decide)]
 refine zo (bf hs pl pu ?_)
 have hyes:(((tD items.size 0 lo:Nat):Int) == 0&&(1:Int) == 1&&(tD items.size items.size hi - tD items.size 0 lo) == items.size)=true:=by
  rw[hw.1,hw.2];simp
 show wpAny _ _ (if (((tD items.size 0 lo:Nat):Int) == 0&&(1:Int) == 1&&(tD items.size items.size hi - tD items.size 0 lo) == items.size)=true then _ else _) _ _ s
 rw[if_pos hyes]
 unfold Builtin.Tuple.tupleIsExact
 refine zo (zo (wpAny_typeOf ht.typeIs (zq ?_)))
 rw[if_pos (by decide)]
 first
  |exact zo (wpAny_rule (zq ⟨_,rfl,zq h⟩))
  |exact zo (wpAny_rule (zo (zq (zq ⟨_,rfl,zq h⟩))))
  |exact zo (wpAny_rule (zo (zq ⟨_,rfl,zq h⟩)))
end
end HT
namespace L2
open PySem PySem.Spec PyProof.Rows
section
variable {X:Cx}
noncomputable def qc(K:Vo):V->Option Int->Option Int->Hp->VK->Prop:=fun x lo hi H Q=>∃a xs,x = .ref a/\uy K H a xs/\∀r H',(∀c o,H c=some o->H' c=some o)->uy K H' r (dl xs lo hi)->Q (.ref r) H'
def ly:oP X (qc X.K):=by
 intro pins s σ H x v vl vu lo hi sl Q I rx hs pl pu h
 obtain⟨a,xs,rfl,hx,q⟩:=h
 by_cases hw:HT.tD xs.length 0 lo=0/\HT.tD xs.length xs.length hi=xs.length
 ·cases rx
  obtain⟨its,r,ht,hz⟩:=I.tuple hx
  have hlen:its.toArray.size=xs.length:=by rw[zx];exact r.length.symm
  refine⟨"tuple",_,zI.lookup,ht.typeIs,HT.cf ht hs pl pu (by rw[hlen];exact hw) ⟨.ref a,H,I,rfl,q a H (fun _ _ e=>e) ?_⟩⟩
  have e:dl xs lo hi=xs:=by unfold dl;rw[hw.1,hw.2];simp
  rw[e];exact hx
 ·exact mT pins s σ H _ v vl vu lo hi sl Q I rx hs pl pu ⟨a,xs,rfl,hx,hw,fun p hp=>q p _ (fun c o e=>by rw[ac (au e hp)];exact e) (uy.of ad)⟩
def lz(hu:X.A.units+1 < cLine):oQ X (fun x y H Q=>∃a v,x = .ref a/\DGet H a y (some v)/\Q v H):=by
 intro value slice pins s σ H x y v u Q I rx ry h hs
 obtain⟨a,z,rfl,g,q⟩:=h
 cases rx
 exact tail_any (cO I g) PySem.F.slot_dict_getitem.lookup (eE hu I g ry fun w' s3 I3 rw'=>⟨z,H,I3,rw',q⟩) hs
def j3(hu:X.A.units+1 < cLine):kN X (fun o i v H Q=>∃a H',o = .ref a/\vT H a i v H'/\Q H'):=by
 intro pins s σ H o i v ov iv u Q I ro ri rv h
 obtain⟨a,H',rfl,g,q⟩:=h
 cases ro
 exact iJ hu I g ri rv fun s' I'=>⟨H',I',q⟩
end
end L2
namespace L3
open PySem L2
theorem Reps.ul{K:Vo}{H:Hp}{vs:List V}{ps:List PV}{i:Int}{p:PV}(r:Reps K H vs ps)(h:L2.ul ps i=some p):∃v,L2.ul vs i=some v/\Rep K H v p:=by
 unfold L2.ul at h ⊢
 rw[r.length]
 cases e:k8 ps.length i with
 |none=>rw[e]at h;cases h
 |some j=>
  rw[e]at h
  obtain⟨v,h1,h2⟩:=r.get h
  exact⟨v,h1,h2⟩
noncomputable def fq:PV->Option aA
 | .int i=>some (.inl i)
 | .str x=>some (.inr x)
 |_=>none
def bZ{K:Vo}{H:Hp}{v:V}{p:PV}{k:aA}(r:Rep K H v p)(h:fq p=some k):v=kV k:=by
 cases p with
 |int i=>cases h;cases r;rfl
 |str i=>cases h;cases r;rfl
 |_=>cases h
noncomputable def dD{κ:Type} [DecidableEq κ]:List (κ×PV)->κ->Option PV
 |[],_=>none
 |(k',v)::r,k=>if k'=k then some v else dD r k
theorem tz.val{K:Vo}{H:Hp}{κ:Type} [DecidableEq κ]{k:κ}{p:PV}:∀{vs:List (κ×V)} {ps:List (κ×PV)},tz K H vs ps->dD ps k=some p->∃v,bY vs k=some v/\Rep K H v p
 |_,_,.nil,h=>by cases h
 |_,_,.cons (k:=k') a r,h=>by
  unfold dD at h
  split at h
  ·rename_i e;cases h;exact⟨_,ub e,a⟩
  ·rename_i e;rw[uc e];exact tz.val r h
section
variable {X:Cx} {a b e lo hi:Expr} {ta tb te:ap} {pos p2:Pos}
structure ss (X:Cx) (r:R3):Prop where
 ok:oQ X (LR X r)
def rD{r:R3}(hr:ss X r)(ha:ax X a ta)(hb:ax X b tb)(hs:e_ b):ax X (.Subscript a b pos) (aF r ta tb):=⟨ai (pJ hr.ok ha.ok hb.ok hs) fun _ _ _=>de⟩
def bh:R3:=fun x y S Q=>match x with
 | .tup xs=>match y with | .int i=>(match ul xs i with|some v=>Q v S|none=>False)|_=>False
 | .cl xs=>match y with | .int i=>(match ul xs i with|some v=>Q v S|none=>False)|_=>False
 | .str z=>match y with | .int i=>z.length<=sizeLine/\(match ul z.cps.toList i with|some c=>Q (.str ⟨#[c]⟩) S|none=>False)|_=>False
 | .ref a=>match S a with
  |some (.lst xs)=>(match y with | .int i=>(match ul xs i with|some v=>Q v S|none=>False)|_=>False)
  |some (.dct kvs)=>(match fq y with|some k=>(match dD kvs k with|some v=>Q v S|none=>False)|none=>False)
  |_=>False
 |_=>False
def sG(hu:X.A.units+1 < cLine):ss X bh:=⟨fun value slice pins s σ H x y v u Q I rx ry ⟨px,py,S,Q3,r1,r2,rS,q,k⟩ hs=>by
 unfold bh at q
 split at q
 ·split at q
  ·split at q
   ·rename_i e
    cases r2
    cases r1 with
    |tup h1 rs=>
     obtain⟨w,hw,rw'⟩:=rs.ul e
     exact mU value slice pins s σ H _ _ v u Q I rx ry ⟨_,_,_,w,rfl,rfl,h1,hw,k _ S _ H q rw' rS .refl⟩ hs
   ·exact q.elim
  ·exact q.elim
 ·split at q
  ·split at q
   ·rename_i e
    cases r2
    cases r1 with
    |cl h1 rs=>
     obtain⟨w,hw,rw'⟩:=rs.ul e
     exact hU value slice pins s σ H _ _ v u Q I rx ry ⟨_,_,_,w,rfl,rfl,h1.sq,hw,k _ S _ H q rw' rS .refl⟩ hs
   ·exact q.elim
  ·exact q.elim
 ·split at q
  ·obtain⟨hz,q⟩:=q
   split at q
   ·rename_i e
    cases r1;cases r2
    exact mV value slice pins s σ H _ _ v u Q I rx ry ⟨_,_,_,rfl,rfl,hz,e,k _ S _ H q (.str _) rS .refl⟩ hs
   ·exact q.elim
  ·exact q.elim
 ·split at q
  ·rename_i e0
   split at q
   ·split at q
    ·rename_i e
     cases r1;cases r2
     obtain⟨vs,hv,rs⟩:=rS _ _ e0
     obtain⟨w,hw,rw'⟩:=rs.ul e
     exact hU value slice pins s σ H _ _ v u Q I rx ry ⟨_,_,_,w,rfl,rfl,SqL.of hv,hw,k _ S _ H q rw' rS .refl⟩ hs
    ·exact q.elim
   ·exact q.elim
  ·rename_i e0
   split at q
   ·rename_i ek
    split at q
    ·rename_i ev
     cases r1
     have e1:=bZ r2 ek
     subst e1
     obtain⟨kv,hv,rk⟩:=rS _ _ e0
     obtain⟨w,hw,rw'⟩:=rk.val ev
     refine lz hu value slice pins s σ H _ _ v u Q I rx ry ⟨_,w,rfl,?_,k _ S _ H q rw' rS .refl⟩ hs
     rw[<-hw]
     exact DGet.k hv
    ·exact q.elim
   ·exact q.elim
  ·exact q.elim
 ·exact q.elim⟩
abbrev oS:=aN->aj->(Option Int->aj->Prop)->cD->Prop
inductive LO (X:Cx) (t:oS) (σ:L2.St) (H:Hp) (Q:Option Int->Hp->Prop):Prop
 |mk (σ3 S Q3 E3) (rσ:tx X.K H σ σ3) (rS:tw X.K H S) (h:t σ3 S Q3 E3) (xo:vN X H E3) (k:∀o S' H',Q3 o S'->tw X.K H' S'->Grow X.K H H'->Q o H'):LO X t σ H Q
structure qO (X:Cx) (e:Option Expr) (t:oS):Prop where
 ok:PO X e (LO X t)
noncomputable def qd:oS:=fun _ S Q _=>Q none S
noncomputable def nG(t:ap):oS:=fun σ S Q E=>t σ S (fun v S'=>match v with | .int i=>Q (some i) S'|_=>False) E
def j4{e:Option Expr}{t t':TO}(h:PO X e t)(k:∀σ H Q,t' σ H Q->t σ H Q):PO X e t':=fun pins s σ H Q I q=>h pins s σ H Q I (k σ H Q q)
def nH:qO X none qd:=⟨j4 k4 fun σ H Q ⟨σ3,S,Q3,E3,rσ,rS,h,xo,k⟩=>k none S H h rS .refl⟩
def gP(h:ax X e te):qO X (some e) (nG te):=⟨j4 (k6 h.ok) fun σ H Q ⟨σ3,S,Q3,E3,rσ,rS,h,xo,k⟩=>⟨σ3,S,_,E3,rσ,rS,h,xo,fun p S' v H' h1 rv t0 g=>by
 cases p with
 |int i=>cases rv;exact⟨i,rfl,k _ S' H' h1 t0 g⟩
 |_=>exact h1.elim⟩⟩
noncomputable def cF{α:Type}(xs:List α)(lo hi:Option Int):List α:=(xs.drop (HT.tD xs.length 0 lo)).take (HT.tD xs.length xs.length hi - HT.tD xs.length 0 lo)
def Reps.cut{K:Vo}{H:Hp}{vs:List V}{ps:List PV}(r:Reps K H vs ps)(lo hi:Option Int):Reps K H (dl vs lo hi) (cF ps lo hi):=by
 unfold dl cF
 rw[r.length]
 exact(r.drop _).take _
def iU(x:PV)(lo hi:Option Int)(S:aj)(Q:cW):Prop:=match x with
 | .tup xs=>Q (.tup (cF xs lo hi)) S
 | .cl xs=>∀p,S p=none->Q (.ref p) (ah S p (.lst (cF xs lo hi)))
 | .str z=>z.length<=sizeLine/\Q (.str (Txt.slice z lo hi)) S
 | .ref a=>match S a with|some (.lst xs)=>∀p,S p=none->Q (.ref p) (ah S p (.lst (cF xs lo hi)))|_=>False
 |_=>False
noncomputable def sH(X:Cx):V->Option Int->Option Int->Hp->VK->Prop:=fun x lo hi H Q=>∃px S Q3,Rep X.K H x px/\tw X.K H S/\iU px lo hi S Q3/\vO X.K H Q3 Q
def sI:oP X (sH X):=by
 intro pins s σ H x v vl vu lo hi sl Q I rx hs pl pu ⟨px,S,Q3,r1,rS,q,k⟩
 unfold iU at q
 split at q
 ·cases r1 with
  |tup h1 rs=>exact ly pins s σ H _ v vl vu lo hi sl Q I rx hs pl pu ⟨_,_,rfl,h1,fun r H' hh hr=>k _ S _ H' q (.tup hr ((rs.cut lo hi).mono (.same hh))) (rS.grow hh) (.same hh)⟩
 ·cases r1 with
  |cl h1 rs=>exact hV pins s σ H _ v vl vu lo hi sl Q I rx hs pl pu ⟨_,_,rfl,h1.sq,fun p hp=>k _ _ _ _ (q p (rS.free hp)) (.ref p) (rS.new hp ⟨_,ad,(rs.cut lo hi).mono (.new hp)⟩) (.new hp)⟩
 ·cases r1
  exact m_ pins s σ H _ v vl vu lo hi sl Q I rx hs pl pu ⟨_,rfl,q.1,k _ S _ H q.2 (.str _) rS .refl⟩
 ·split at q
  ·rename_i e
   cases r1
   obtain⟨vs,hv,rs⟩:=rS _ _ e
   exact hV pins s σ H _ v vl vu lo hi sl Q I rx hs pl pu ⟨_,_,rfl,SqL.of hv,fun p hp=>k _ _ _ _ (q p (rS.free hp)) (.ref p) (rS.new hp ⟨_,ad,(rs.cut lo hi).mono (.new hp)⟩) (.new hp)⟩
  ·exact q.elim
 ·exact q.elim
def cG(te:ap)(tl th:oS):ap:=fun σ S Q E=>te σ S (fun x S1=>tl σ S1 (fun l S2=>th σ S2 (fun u S3=>iU x l u S3 Q) E) E) E
def ii{lo hi:Option Expr}{tl th:oS}(he:ax X e te)(hl:qO X lo tl)(hu:qO X hi th):ax X (.Subscript e (.Slice lo hi none p2) pos) (cG te tl th):=
 ⟨ai (ju sI he.ok hl.ok hu.ok) fun σ H Q ⟨σ3,S,Q3,E3,rσ,rS,h,xo,k⟩=>⟨σ3,S,_,E3,rσ,rS,h,xo,fun x S1 v H1 h1 rx tE g1=>⟨σ3,S1,_,E3,rσ.mono g1,tE,h1,xo.mono g1,fun l S2 H2 h2 uO g2=>
  ⟨σ3,S2,_,E3,rσ.mono (g1.trans g2),uO,h2,xo.mono (g1.trans g2),fun u S3 H3 h3 wU g3=>⟨x,S3,Q3,rx.mono (g2.trans g3),wU,h3,k.mono (g1.trans (g2.trans g3))⟩⟩⟩⟩⟩
def lA:dc X (binaryOp .Mult) (rI IntMulOk fun i j=>.int (i * j)):=qK fun _ _ _ _ _ _ _ hc q=>PyProof.Rows.mul_int q hc
def dE:R3:=fun x y S Q=>match x,y with
 | .int i,.int j=>IntMulOk i j/\Q (.int (i * j)) S
 | .ref a,.int j=>(match S a with|some (.lst xs)=>-(2 ^ 63)<=j/\j < 2 ^ 63/\xs.length * j.toNat<=sizeLine/\∀p,S p=none->Q (.ref p) (ah S p (.lst (List.replicate j.toNat xs).flatten))|_=>False)
 |_,_=>False
theorem Reps.rep{K:Vo}{H:Hp}{vs:List V}{ps:List PV}(r:Reps K H vs ps):∀n:Nat,Reps K H (List.replicate n vs).flatten (List.replicate n ps).flatten
 |0=>.nil
 |n+1=>by
  rw[z5,z5,An,An]
  exact r.append (Reps.rep r n)
def cH:d0 X (binaryOp .Mult) dE:=⟨fun pins s σ H x y v u Q I rx ry ⟨px,py,S,Q3,r1,r2,rS,q,k⟩=>by
 unfold dE at q
 split at q
 ·cases r1;cases r2
  exact lA pins s σ H _ _ v u Q I rx ry ⟨_,_,rfl,rfl,q.1,k _ S _ H q.2 (.int _) rS .refl⟩
 ·split at q
  ·rename_i e
   cases r1;cases r2
   obtain⟨vs,hv,rs⟩:=rS _ _ e
   exact m4 pins s σ H _ _ v u Q I rx ry ⟨_,_,_,rfl,rfl,hv,q.1,q.2.1,by rw[rs.length];exact q.2.2.1,fun p hp=>k _ _ _ _ (q.2.2.2 p (rS.free hp)) (.ref p) (rS.new hp ⟨_,ad,(rs.rep _).mono (.new hp)⟩) (.new hp)⟩
  ·exact q.elim
 ·exact q.elim⟩
end
end L3
namespace L2
open PySem PySem.Spec PyProof.Rows
end L2
namespace L3
open PySem L2
abbrev ij:=List PV->aj->cW->Prop
section
variable {X:Cx} {e o:Expr} {es:List Expr} {te to:ap} {ts:List ap} {x:Str} {p pos apos cpos:Pos}
inductive LC (X:Cx) (r:ij) (xs:List V) (H:Hp) (Q:VK):Prop
 |mk (ps S Q3) (rx:Reps X.K H xs ps) (rS:tw X.K H S) (h:r ps S Q3) (k:vO X.K H Q3 Q):LC X r xs H Q
structure bT (X:Cx) (f:Value) (r:ij):Prop where
 ok:cL X f (LC X r)
def ay(r:ij)(ts:List ap):ap:=fun σ S Q E=>aW ts σ S (fun ps S1=>r ps S1 Q) E
def ik{r:ij}{σ:L2.St}{H:Hp}{Q:VK}:LE X (ay r ts) σ H Q->qN (ts.map (LE X)) σ H fun vs H1=>LC X r vs H1 Q:=fun⟨σ3,S,Q3,E3,rσ,rS,h,xo,k⟩=>
 aE rσ rS h xo fun ps S' vs H' hl q rv t0 g=>⟨ps,S',Q3,rv,t0,q,k.mono g⟩
def lB{id:String}{r:ij}(hc:bT X (.builtin id) r)(hg:Gl X x)(hm:X.mg x=none)(hv:bootBuiltins x=some (.builtin id))(he:starEach (e::es) X.env=(false,eval e X.env)::starEach es X.env)(ha:dy X (e::es) ts)
  (hn:x ≠ "__name__":=by decide) (hdb:(x == ("__debug__":Str))=false:=by decide) (hpl:(backTo pos (starEach es X.env)).any (·.1)=false:=by rfl):ax X (.Call (.Name x p) (e::es) [] pos) (ay r ts):=
 ⟨ai (js hc.ok hg hm hv ha.ok hn hdb he hpl) fun _ _ _=>ik⟩
def lC{id:String}{r:ij}(hc:bT X (.type id) r)(hg:Gl X x)(hm:X.mg x=none)(hv:bootBuiltins x=some (.type id))(he:starEach (e::es) X.env=(false,eval e X.env)::starEach es X.env)(ha:dy X (e::es) ts)
  (hn:x ≠ "__name__":=by decide) (hdb:(x == ("__debug__":Str))=false:=by decide) (hpl:(backTo pos (starEach es X.env)).any (·.1)=false:=by rfl):ax X (.Call (.Name x p) (e::es) [] pos) (ay r ts):=
 ⟨ai (iI hc.ok hg hm hv ha.ok hn hdb he hpl) fun _ _ _=>ik⟩
def iV:ij:=fun ps S Q=>match ps with
 |[.tup xs]=>Q (.int xs.length) S
 |[.cl xs]=>Q (.int xs.length) S
 |[.str z]=>z.length<=sizeLine/\Q (.int z.length) S
 |[.ref a]=>(match S a with|some (.lst xs)=>Q (.int xs.length) S|some (.dct kvs)=>Q (.int kvs.length) S|_=>False)
 |_=>False
def qe:bT X (.builtin "len") iV:=⟨fun pins s σ H xs us Q I r ⟨ps,S,Q3,rp,rS,q,k⟩=>by
 unfold iV at q
 split at q
 ·cases rp with|cons a rr=>cases rr;cases a with|tup h rs=>exact bp pins s σ H _ us Q I r ⟨_,_,rfl,.inr h,by rw[rs.length];exact k _ S _ H q (.int _) rS .refl⟩
 ·cases rp with|cons a rr=>cases rr;cases a with|cl h rs=>exact bp pins s σ H _ us Q I r ⟨_,_,rfl,.inl h.sq,by rw[rs.length];exact k _ S _ H q (.int _) rS .refl⟩
 ·cases rp with|cons a rr=>cases rr;cases a;exact fe pins s σ H _ us Q I r ⟨_,rfl,q.1,k _ S _ H q.2 (.int _) rS .refl⟩
 ·cases rp with
  |cons a rr=>
   cases rr;cases a
   split at q
   ·rename_i e
    obtain⟨vs,hv,rs⟩:=rS _ _ e
    exact bp pins s σ H _ us Q I r ⟨_,_,rfl,.inl (SqL.of hv),by rw[rs.length];exact k _ S _ H q (.int _) rS .refl⟩
   ·rename_i e
    obtain⟨vs,hv,rs⟩:=rS _ _ e
    exact iM pins s σ H _ us Q I r ⟨_,_,rfl,hv,by rw[rs.length];exact k _ S _ H q (.int _) rS .refl⟩
   ·exact q.elim
 ·exact q.elim⟩
def eK:ij:=fun ps S Q=>match ps with|[.int i,.int j]=>Q (.int (if j > i then j else i)) S|_=>False
def nI(hc:X.calm=true):bT X (.builtin "max") eK:=⟨fun pins s σ H xs us Q I r ⟨ps,S,Q3,rp,rS,q,k⟩=>by
 unfold eK at q
 split at q
 ·cases rp with|cons a rr=>cases rr with|cons b r3=>cases r3;cases a;cases b;exact iF hc pins s σ H _ us Q I r ⟨_,_,rfl,k _ S _ H q (.int _) rS .refl⟩
 ·exact q.elim⟩
def eL:ij:=fun ps S Q=>match ps with|[.int i]=>Q (.int i) S|[.bl b]=>Q (.int (if b then 1 else 0)) S|_=>False
def qf:bT X (.type "int") eL:=⟨fun pins s σ H xs us Q I r ⟨ps,S,Q3,rp,rS,q,k⟩=>by
 unfold eL at q
 split at q
 ·cases rp with|cons a rr=>cases rr;cases a;exact ei pins s σ H _ us Q I r (.inl ⟨_,rfl,k _ S _ H q (.int _) rS .refl⟩)
 ·cases rp with|cons a rr=>cases rr;cases a;exact ei pins s σ H _ us Q I r (.inr ⟨_,rfl,k _ S _ H q (.int _) rS .refl⟩)
 ·exact q.elim⟩
def j5:ij:=fun ps S Q=>match ps with
 |[.int _]=>False
 |[.str _]=>False
 |[.bl _]=>False
 |[.non]=>False
 |[.ty _]=>False
 |[v]=>∃d,Dat S v d/\d.showable=true/\d.hasDict=false/\d.depth<=100/\d.shown.length<=sizeLine/\Q (.str d.shown) S
 |_=>False
def nJ(hu:X.A.units+150 < cLine)(hg:X.A.guards=some []):bT X (.builtin "repr") j5:=⟨fun pins s σ H xs us Q I r ⟨ps,S,Q3,rp,rS,q,k⟩=>by
 unfold j5 at q
 have main:∀{v:PV} {x:V} {u:Value} {a:Addr},u = .ref a->Rep X.K H x v->RelV x u->(∃d,Dat S v d/\d.showable=true/\d.hasDict=false/\d.depth<=100/\d.shown.length<=sizeLine/\Q3 (.str d.shown) S)->wpAny (model X.prog X.w) X.A (call (.builtin "repr") [u]) (EP X pins σ Q) X.xe s:=by
  rintro v x u a rfl rv rx ⟨d,hd,h1,h2,h3,h4,q⟩
  obtain⟨as,R⟩:=hd.reads I rS rv rx
  exact zG I.tk (repr_of_reads' R h1 (PyData.noDict_hsm h2) hg (by omega) (fun _ _ e=>e) (fun h' u tk hk ht=>⟨.str _,H,I.kept hk,⟨u,rfl⟩,k _ S _ H q (.str _) rS .refl⟩) h4)
 split at q
 ·exact q.elim
 ·exact q.elim
 ·exact q.elim
 ·exact q.elim
 ·exact q.elim
 ·rename_i n1 n2 n3 n4 n5
  cases rp with
  |cons a rr=>
   cases rr
   cases r with
   |cons r1 r2=>
    cases r2
    cases a with
    |non=>exact absurd rfl n4
    |bl b=>exact absurd rfl (n3 b)
    |int i=>exact absurd rfl (n1 i)
    |str i=>exact absurd rfl (n2 i)
    |ty i=>exact absurd rfl (n5 i)
    |ref b=>cases r1;exact main rfl (.ref b) rfl q
    |tup h rs=>cases r1;exact main rfl (.tup h rs) rfl q
    |cl h rs=>cases r1;exact main rfl (.cl h rs) rfl q
    |exc h1 h2 rs=>cases r1;exact main rfl (.exc h1 h2 rs) rfl q
    |cls h=>cases r1;exact main rfl (.cls h) rfl q
    |cd h l rs=>cases r1;exact main rfl (.cd h l rs) rfl q
 ·exact q.elim⟩
end
abbrev l_:=PV->List PV->aj->cW->Prop
section
variable {X:Cx} {e o:Expr} {es:List Expr} {te to:ap} {ts:List ap} {name:Str} {p pos apos cpos:Pos} {T id:String}
inductive LM (X:Cx) (r:l_) (x:V) (xs:List V) (H:Hp) (Q:VK):Prop
 |mk (px ps S Q3) (rx:Rep X.K H x px) (rs:Reps X.K H xs ps) (rS:tw X.K H S) (h:r px ps S Q3) (k:vO X.K H Q3 Q):LM X r x xs H Q
structure oU (X:Cx) (id:String) (r:l_):Prop where
 ok:qL X id (LM X r)
def oV(T:String)(x:PV)(S:aj):Prop:=match x with
 | .str _=>T = "str"
 | .ref a=>(match S a with|some (.lst _)=>T = "list" | some (.dct _)=>T = "dict" | _=>False)
 | .cl _=>T = "list"
 |_=>False
def j6{H:Hp}{S:aj}{v:V}{p:PV}(rS:tw X.K H S)(r:Rep X.K H v p)(h:oV T p S):qM X.K T v H:=by
 cases r with
 |str x=>exact h
 |ref a=>
  unfold oV at h
  simp only at h
  split at h
  ·rename_i e
   obtain⟨vs,hv,_⟩:=rS _ _ e
   exact .inl ⟨h,_,SqL.of hv⟩
  ·rename_i e
   obtain⟨vs,hv,_⟩:=rS _ _ e
   exact .inr (.inr (.inl ⟨h,.inl ⟨_,hv⟩⟩))
  ·exact h.elim
 |cl h1 _=>exact .inl ⟨h,_,h1.sq⟩
 |_=>exact h.elim
def lD(T:String)(r:l_)(to:ap)(ts:List ap):ap:=fun σ S Q E=>to σ S (fun x S1=>oV T x S1/\aW ts σ S1 (fun ps S2=>r x ps S2 Q) E) E
def rE{r:l_}(pa:PlainAttrs T)(slot:Slot T name id)(hty:typeOf (.builtin id)=pure (.type "method_descriptor"))(hm:oU X id r)(hs:starEach (e::es) X.env=(false,eval e X.env)::starEach es X.env)(ho:ax X o to)(ha:dy X (e::es) ts)
  (hbase:attributeBase o name X.env (eval o X.env)=eval o X.env:=by rfl)
  (hfew:((backTo cpos (starEach (e::es) X.env)).all (fun x=>!x.1)&&(backToKw cpos (keywordEach [] X.env)).all (fun x=>x.1.isSome)
   && decide ((e::es).length+([]:List Keyword).length+(if ([]:List Keyword).isEmpty then 0 else 1) < 30))=true:=by rfl)
  (hline:(apos.endLine == cpos.line)=true:=by rfl) (hplain:(backTo cpos (starEach es X.env)).any (·.1)=false:=by rfl):ax X (.Call (.Attribute o name apos) (e::es) [] cpos) (lD T r to ts):=
 ⟨ai (pL pa slot hty hm.ok ho.ok ha.ok hbase hfew hline hs hplain) fun σ H Q ⟨σ3,S,Q3,E3,rσ,rS,h,xo,k⟩=>⟨σ3,S,_,E3,rσ,rS,h,xo,fun x S1 v H1 h1 rx tE g1=>
  ⟨j6 tE rx h1.1,aE (rσ.mono g1) tE h1.2 (xo.mono g1) fun ps S2 vs H2 hl q rv uO g2=>⟨x,ps,S2,Q3,rx.mono g2,rv,uO,q,k.mono (g1.trans g2)⟩⟩⟩⟩
def qg{r:l_}(pa:PlainAttrs T)(slot:Slot T name id)(hty:typeOf (.builtin id)=pure (.type "method_descriptor"))(hm:oU X id r)(ho:ax X o to)
  (hbase:attributeBase o name X.env (eval o X.env)=eval o X.env:=by rfl) (hline:(apos.endLine == cpos.line)=true:=by rfl):ax X (.Call (.Attribute o name apos) [] [] cpos) (lD T r to []):=
 ⟨ai (mW pa slot hty hm.ok ho.ok hbase hline) fun σ H Q ⟨σ3,S,Q3,E3,rσ,rS,h,xo,k⟩=>⟨σ3,S,_,E3,rσ,rS,h,xo,fun x S1 v H1 h1 rx tE g1=>
  ⟨j6 tE rx h1.1,⟨x,[],S1,Q3,rx,.nil,tE,h1.2,k.mono g1⟩⟩⟩⟩
def iW:l_:=fun x ps S Q=>match x,ps with
 | .ref a,[]=>(match S a with|some (.lst xs)=>(match xs[xs.length - 1]? with|some y=>Q y (ah S a (.lst xs.dropLast))|none=>False)|_=>False)
 | .ref a,[.int i]=>(match S a with|some (.lst xs)=>-(2 ^ 63)<=i/\i < 2 ^ 63/\(match seqIndex? i xs.length with|some j=>(match xs[j]? with|some y=>Q y (ah S a (.lst (xs.eraseIdx j)))|none=>False)|none=>False)|_=>False)
 |_,_=>False
def qh:oU X "list.pop" iW:=⟨fun pins s σ H x xs v us Q I rx rs ⟨px,ps,S,Q3,r1,rp,rS,q,k⟩=>by
 unfold iW at q
 split at q
 ·split at q
  ·rename_i e
   split at q
   ·rename_i ey
    cases r1
    cases rp
    obtain⟨vs,hv,rl⟩:=rS _ _ e
    rw[<-rl.length]at ey
    obtain⟨y',xQ,ry⟩:=rl.get ey
    exact mX pins s σ H _ _ v us Q I rx rs ⟨_,_,_,rfl,rfl,hv,xQ,k _ _ _ _ q (ry.mono (.mut hv trivial)) (rS.put hv trivial ⟨_,ad,rl.dropLast.mono (.mut hv trivial)⟩) (.mut hv trivial)⟩
   ·exact q.elim
  ·exact q.elim
 ·split at q
  ·rename_i e
   obtain⟨h1,h2,q⟩:=q
   split at q
   ·rename_i ej
    split at q
    ·rename_i ey
     cases r1
     cases rp with
     |cons b rr=>
      cases rr;cases b
      obtain⟨vs,hv,rl⟩:=rS _ _ e
      obtain⟨y',xQ,ry⟩:=rl.get ey
      rw[<-rl.length]at ej
      exact jy pins s σ H _ _ v us Q I rx rs ⟨_,_,_,_,_,rfl,rfl,hv,h1,h2,ej,xQ,k _ _ _ _ q (ry.mono (.mut hv trivial)) (rS.put hv trivial ⟨_,ad,(rl.eraseIdx _).mono (.mut hv trivial)⟩) (.mut hv trivial)⟩
    ·exact q.elim
   ·exact q.elim
  ·exact q.elim
 ·exact q.elim⟩
noncomputable def texts:List PV->Option (List Str)
 |[]=>some []
 | .str b::r=>(texts r).map (b::·)
 |_::_=>none
theorem dF{K:Vo}{H:Hp}:∀{vs:List V} {ps:List PV} {bs:Vs},Reps K H vs ps->texts ps=some bs->vs=bs.map V.str
 |_,_,_,.nil,h=>by cases h;rfl
 |_,_,bs,.cons (p:=p) a r,h=>by
  cases p with
  |str b=>
   cases a
   unfold texts at h
   cases e:texts _ with
   |none=>rw[e]at h;cases h
   |some l=>rw[e]at h;cases h;rw[dF r e];rfl
  |_=>cases h
def il:l_:=fun x ps S Q=>match x,ps with
 | .str z,[.ref a]=>(match S a with|some (.lst xs)=>(match texts xs with|some ys=>(ys.map (·.length)).sum+ys.length * z.length<=1000000/\Q (.str (Txt.join z ys)) S|none=>False)|_=>False)
 |_,_=>False
def nK:oU X "str.join" il:=⟨fun pins s σ H x xs v us Q I rx rs ⟨px,ps,S,Q3,r1,rp,rS,q,k⟩=>by
 unfold il at q
 split at q
 ·split at q
  ·rename_i e
   split at q
   ·rename_i et
    cases r1
    cases rp with
    |cons b rr=>
     cases rr;cases b
     obtain⟨vs,hv,rl⟩:=rS _ _ e
     have e2:=dF rl et
     subst e2
     exact lp pins s σ H _ _ v us Q I rx rs ⟨_,_,_,rfl,rfl,SqL.of hv,q.1,k _ S _ H q.2 (.str _) rS .refl⟩
   ·exact q.elim
  ·exact q.elim
 ·exact q.elim⟩
end
section
variable {X:Cx} {e c:Expr} {te:ap} {st:Stmt} {rest a b:List Stmt} {t u:aY} {tc:dv} {pos:Pos}
def bP:aY:=fun D σ S=>D.nx σ S
def al(t u:aY):aY:=fun D σ S=>t { D with nx:=u D } σ S
def bw:bE X [] bP:=⟨ic kL fun D σ H ⟨σ3,S,D3,rσ,rS,h,xo,n,r,bk,ct⟩=>n σ3 S σ H h rσ rS .refl⟩
def ag(h1:fA X st t)(h2:bE X rest u):bE X (st::rest) (al t u):=
 ⟨ic (fF h1.ok h2.ok) fun D σ H ⟨σ3,S,D3,rσ,rS,h,xo,n,r,bk,ct⟩=>⟨σ3,S,{ D3 with nx:=u D3 },rσ,rS,h,xo,fun σ4 S' σ' H' h' v1 t0 g=>⟨σ4,S',D3,v1,t0,h',xo.mono g,n.mono g,r.mono g,bk.mono g,ct.mono g⟩,r,bk,ct⟩⟩
def az(h1:fA X st t):bE X [st] t:=⟨b9 h1.ok⟩
def fU(te:ap):aY:=fun D σ S=>te σ S (fun _ S1=>D.nx σ S1) D.ex
def nL(he:ax X e te)(hs:swapsWith e none pos.line X.env=pure false:=by rfl):fA X (.Expr e pos) (fU te):=
 ⟨aR (kM he.ok hs) fun D σ H ⟨σ3,S,D3,rσ,rS,h,xo,n,r,bk,ct⟩=>⟨σ3,S,_,D3.ex,rσ,rS,h,xo,fun p S1 v H1 h1 rv tE g1=>n σ3 S1 σ H1 h1 (rσ.mono g1) tE g1⟩⟩
def bG(te:ap):aY:=fun D σ S=>te σ S D.rt D.ex
def a0(he:ax X e te):fA X (.Return (some e) pos) (bG te):=
 ⟨aR (mB he.ok) fun D σ H ⟨σ3,S,D3,rσ,rS,h,xo,n,r,bk,ct⟩=>⟨σ3,S,D3.rt,D3.ex,rσ,rS,h,xo,r⟩⟩
def gx(c:dv)(t u:aY):aY:=fun D σ S=>c σ S (fun b S1=>if b=true then t D σ S1 else u D σ S1) D.ex
def cZ(hc:jd X c tc)(ha:bE X a t)(hb:bE X b u):fA X (.If c a b pos) (gx tc t u):=
 ⟨aR (pf hc.ok ha.ok hb.ok) fun D σ H ⟨σ3,S,D3,rσ,rS,h,xo,n,r,bk,ct⟩=>⟨σ3,S,_,D3.ex,rσ,rS,h,xo,fun z S1 H1 h1 tE g1=>by
  cases z with
  |true=>rw[if_pos rfl]at h1 ⊢;exact⟨σ3,S1,D3,rσ.mono g1,tE,h1,xo.mono g1,n.mono g1,r.mono g1,bk.mono g1,ct.mono g1⟩
  |false=>rw[if_neg (by decide)]at h1 ⊢;exact⟨σ3,S1,D3,rσ.mono g1,tE,h1,xo.mono g1,n.mono g1,r.mono g1,bk.mono g1,ct.mono g1⟩⟩⟩
def aS(i:Nat)(te:ap):aY:=fun D σ S=>te σ S (fun v S1=>D.nx (σ.set i (some v)) S1) D.ex
def j7{i:Nat}{D:cv}{σ:L2.St}{H:Hp}:LS X (aS i te) D σ H->kQ (LE X te) (fG i) D σ H:=fun⟨σ3,S,D3,rσ,rS,h,xo,n,r,bk,ct⟩=>
 ⟨σ3,S,_,D3.ex,rσ,rS,h,xo,fun p S1 v H1 h1 rv tE g1=>n _ S1 _ H1 h1 ((rσ.mono g1).set rv i) tE g1⟩
def qi{i:Nat}{x:Str}{pos':Pos}(hN:X.N.Nodup)(hi:X.N[i]?=some x)(hx:lZ X.env.scope x)(he:ax X e te)(hs:swapsWith e (some (.Name x pos')) pos.line X.env=pure false:=by rfl)
  (hf:X.fn x=true\/X.env.scope.names.lookup x=some .local:=by first|exact .inl rfl|exact .inr rfl|assumption):fA X (.Assign [.Name x pos'] e pos) (aS i te):=⟨aR (mF hN hi hx he.ok hs hf) fun _ _ _=>j7⟩
inductive Tg where
 |n (i:Nat)|tp (l:Tg)|nil|cons (a r:Tg)
mutual
noncomputable def Tg.put:Tg->PV->aN->Option aN
 | .n i,p,σ=>some (σ.set i (some p))
 | .tp l,.tup xs,σ=>l.t6 xs σ
 |_,_,_=>none
noncomputable def Tg.t6:Tg->List PV->aN->Option aN
 | .nil,[],σ=>some σ
 | .cons a r,x::xs,σ=>(match a.put x σ with|some σ'=>r.t6 xs σ'|none=>none)
 |_,_,_=>none
end
noncomputable def Tg.len:Tg->Nat
 | .cons _ r=>r.len+1
 |_=>0
mutual
noncomputable def Tg.g2(K:Vo):Tg->TG
 | .n i=>fG i
 | .tp l=>pk K l.len (l.wl K)
 |_=>fun _ _ _ _=>False
noncomputable def Tg.wl(K:Vo):Tg->l0
 | .nil=>ph
 | .cons a r=>l2 (a.g2 K) (r.wl K)
 |_=>fun _ _ _ _=>False
end
noncomputable def Tg.under(own:Nat):Tg->Bool
 | .n i=>decide (i < own)
 | .tp l=>l.under own
 | .nil=>true
 | .cons a r=>a.under own&&r.under own
theorem Tg.vb:∀(g:Tg) {ps:List PV} {σ3 σ4:aN},g.t6 ps σ3=some σ4->ps.length=g.len
 | .nil,ps,σ3,σ4,h=>by
  cases ps with
  |nil=>rfl
  |cons _ _=>unfold Tg.t6 at h;cases h
 | .cons a r,ps,σ3,σ4,h=>by
  cases ps with
  |nil=>unfold Tg.t6 at h;cases h
  |cons x xs=>
   unfold Tg.t6 at h
   split at h
   ·rw[zy,Tg.vb r h];rfl
   ·cases h
 | .n _,ps,σ3,σ4,h=>by unfold Tg.t6 at h;cases h
 | .tp _,ps,σ3,σ4,h=>by unfold Tg.t6 at h;cases h
mutual
theorem Tg.u7{K:Vo}{H:Hp}{own:Nat}:∀(g:Tg) {v:V} {p:PV} {σ:L2.St} {σ3 σ4:aN} {Q:L2.St->Hp->Prop},Rep K H v p->tx K H σ σ3->g.put p σ3=some σ4->(∀σ',tx K H σ' σ4->(g.under own=true->σ'.drop own=σ.drop own)->Q σ' H)->g.g2 K v σ H Q
 | .n i,v,p,σ,σ3,σ4,Q,r,rσ,h,k=>by
  unfold Tg.put at h
  cases h
  unfold Tg.g2
  refine k _ (rσ.set r i) fun hb=>?_
  have hi:i < own:=of_decide_eq_true hb
  rw[List.drop_set]
  rw[if_pos hi]
 | .tp l,v,p,σ,σ3,σ4,Q,r,rσ,h,k=>by
  cases p with
  |tup xs=>
   unfold Tg.put at h
   cases r with
   |tup hq rs=>
    have hg:=Tg.vq (own:=own) l rs rσ h k
    unfold Tg.g2
    exact⟨_,_,rfl,hq,rs.length.trans (Tg.vb l h),hg⟩
  |_=>unfold Tg.put at h;cases h
 | .nil,v,p,σ,σ3,σ4,Q,r,rσ,h,k=>by unfold Tg.put at h;cases h
 | .cons _ _,v,p,σ,σ3,σ4,Q,r,rσ,h,k=>by unfold Tg.put at h;cases h
theorem Tg.vq{K:Vo}{H:Hp}{own:Nat}:∀(g:Tg) {vs:List V} {ps:List PV} {σ:L2.St} {σ3 σ4:aN} {Q:L2.St->Hp->Prop},Reps K H vs ps->tx K H σ σ3->g.t6 ps σ3=some σ4->(∀σ',tx K H σ' σ4->(g.under own=true->σ'.drop own=σ.drop own)->Q σ' H)->g.wl K vs σ H Q
 | .nil,vs,ps,σ,σ3,σ4,Q,r,rσ,h,k=>by
  cases ps with
  |nil=>
   unfold Tg.t6 at h
   cases h
   cases r
   unfold Tg.wl
   exact⟨rfl,k _ rσ fun _=>rfl⟩
  |cons _ _=>unfold Tg.t6 at h;cases h
 | .cons a r',vs,ps,σ,σ3,σ4,Q,r,rσ,h,k=>by
  cases ps with
  |nil=>unfold Tg.t6 at h;cases h
  |cons x xs=>
   unfold Tg.t6 at h
   split at h
   ·rename_i σ5 e5
    cases r with
    |cons r1 r2=>
     unfold Tg.wl
     refine⟨_,_,rfl,Tg.u7 (own:=own) a r1 rσ e5 fun σ' v1 d1=>Tg.vq (own:=own) r' r2 v1 h fun y1 xR d2=>k y1 xR fun hb=>?_⟩
     have hb':a.under own=true/\r'.under own=true:=by simpa [Tg.under]using hb
     rw[d2 hb'.2,d1 hb'.1]
   ·cases h
 | .n _,vs,ps,σ,σ3,σ4,Q,r,rσ,h,k=>by unfold Tg.t6 at h;cases h
 | .tp _,vs,ps,σ,σ3,σ4,Q,r,rσ,h,k=>by unfold Tg.t6 at h;cases h
end
structure j8 (X:Cx) (e:Expr) (g:Tg):Prop where
 ok:PG X e (g.g2 X.K)
structure lE (X:Cx) (es:List Expr) (g:Tg):Prop where
 ok:pg X es (g.wl X.K)
 len:(assignEach es X.env).length=g.len
def sJ(i:Nat){x:Str}(hN:X.N.Nodup)(hi:X.N[i]?=some x)(hx:lZ X.env.scope x)(hf:X.fn x=true\/X.env.scope.names.lookup x=some .local:=by first|exact .inl rfl|exact .inr rfl|assumption):j8 X (.Name x pos) (.n i):=⟨by
 have h:=kO (pos:=pos) hN hi hx hf
 unfold Tg.g2
 exact h⟩
def qj:lE X [] .nil:=⟨by unfold Tg.wl;exact kP,rfl⟩
def j9{es:List Expr}{a r:Tg}(h1:j8 X e a)(h2:lE X es r)(hs:(assignEach (e::es) X.env).map (·.2)=assign e X.env::(assignEach es X.env).map (·.2):=by rfl)(hl:(assignEach (e::es) X.env).length=(assignEach es X.env).length+1:=by rfl):lE X (e::es) (.cons a r):=
 ⟨by unfold Tg.wl;exact jh h1.ok h2.ok hs,by rw[hl,h2.len];rfl⟩
def sK{es:List Expr}{k:Nat}{l:Tg}(hc:X.calm=true)(h:lE X es l)(hst:(assignEach es X.env).findIdx? (·.1)=none:=by rfl):j8 X (.Tuple es k pos) (.tp l):=⟨by
 have h:=mD (pos:=pos) (k:=k) hc h.ok h.len hst
 unfold Tg.g2
 exact h⟩
def iX(te:ap)(g:Tg):aY:=fun D σ S=>te σ S (fun v S1=>match g.put v σ with|some σ'=>D.nx σ' S1|none=>False) D.ex
def qk{tg:Expr}{g:Tg}(he:ax X e te)(hg:j8 X tg g)(hs:swapsWithSole [tg] e pos.line X.env=pure false:=by rfl)(hw:swappedStores [tg] e X.env=pure none:=by rfl)
  (h1:(assignEach [tg] X.env).map (·.2)=[assign tg X.env]:=by rfl):fA X (.Assign [tg] e pos) (iX te g):=
 ⟨aR (ji he.ok hg.ok hs hw h1) fun D σ H ⟨σ3,S,D3,rσ,rS,h,xo,n,r,bk,ct⟩=>⟨σ3,S,_,D3.ex,rσ,rS,h,xo,fun p S1 v H1 h1 rv tE g1=>by
  try dsimp only at h1
  split at h1
  ·rename_i σ' e'
   exact Tg.u7 (own:=0) g rv (rσ.mono g1) e' fun σ2 y2 _=>n _ S1 _ H1 h1 y2 tE g1
  ·exact h1.elim⟩⟩
end
noncomputable def c_{κ:Type} [DecidableEq κ](kvs:List (κ×PV))(k:κ)(v:PV):List (κ×PV):=
 if (kvs.any fun kv=>decide (kv.1=k))=true then kvs.map (fun kv=>if kv.1=k then (kv.1,v) else kv) else kvs++[(k,v)]
theorem tz.append{K:Vo}{H:Hp}{κ:Type}:∀{vs us:List (κ×V)} {ps qs:List (κ×PV)},tz K H vs ps->tz K H us qs->tz K H (vs++us) (ps++qs)
 |_,_,_,_,.nil,s=>s
 |_,_,_,_,.cons a r,s=>.cons a (tz.append r s)
def tz.put{K:Vo}{H:Hp}{κ:Type} [DecidableEq κ]{k:κ}{v:V}{p:PV}(q:Rep K H v p){vs:List (κ×V)}{ps:List (κ×PV)}(r:tz K H vs ps):tz K H (bB vs k v) (c_ ps k p):=by
 have e:(vs.any fun kv=>decide (kv.1=k))=(ps.any fun kv=>decide (kv.1=k)):=by rw[dm,r.any]
 unfold bB c_
 rw[e]
 split
 ·clear e
  rename_i h
  clear h
  induction r with
  |nil=>exact .nil
  |@cons k' v' p' vs' ps' a r ih=>
   rw[zF,zF]
   by_cases z:k'=k
   ·rw[if_pos z,if_pos z];exact .cons q ih
   ·rw[if_neg z,if_neg z];exact .cons a ih
 ·exact r.append (.cons q .nil)
def cI(o i v:PV)(S:aj)(Q:aj->Prop):Prop:=match o with
 | .ref a=>(match S a with
  |some (.lst xs)=>(match i with | .int k=>(match k8 xs.length k with|some j=>Q (ah S a (.lst (xs.set j v)))|none=>False)|_=>False)
  |some (.dct kvs)=>(match fq i with|some k=>kvs.length < sizeLine/\Q (ah S a (.dct (c_ kvs k v)))|none=>False)
  |_=>False)
 |_=>False
section
variable {X:Cx} {e o i:Expr} {te to ti:ap} {pos pos':Pos}
noncomputable def rF(X:Cx):V->V->V->Hp->(Hp->Prop)->Prop:=fun o i v H Q=>∃po pi pv S Q3,Rep X.K H o po/\Rep X.K H i pi/\Rep X.K H v pv/\tw X.K H S/\cI po pi pv S Q3/\∀S' H',Q3 S'->tw X.K H' S'->Grow X.K H H'->Q H'
def nM(hu:X.A.units+1 < cLine):kN X (rF X):=by
 intro pins s σ H o i v ov iv u Q I ro ri rv ⟨po,pi,pv,S,Q3,r1,r2,r3,rS,q,k⟩
 unfold cI at q
 split at q
 ·split at q
  ·rename_i e
   split at q
   ·split at q
    ·rename_i ej
     cases r1;cases r2
     obtain⟨vs,hv,rl⟩:=rS _ _ e
     rw[<-rl.length]at ej
     exact jv pins s σ H _ _ _ ov iv u Q I ro ri rv ⟨_,_,_,_,rfl,rfl,hv,ej,k _ _ q (rS.put hv trivial ⟨_,ad,((rl.set r3 _).mono (.mut hv trivial))⟩) (.mut hv trivial)⟩
    ·exact q.elim
   ·exact q.elim
  ·rename_i e
   split at q
   ·rename_i ek
    cases r1
    have e1:=bZ r2 ek
    subst e1
    obtain⟨kv,hv,rk⟩:=rS _ _ e
    exact j3 hu pins s σ H _ _ _ ov iv u Q I ro ri rv ⟨_,_,rfl,vT.k hv (by rw[rk.length];exact q.1),k _ _ q.2 (rS.put hv trivial ⟨_,ad,(rk.put r3).mono (.mut hv trivial)⟩) (.mut hv trivial)⟩
   ·exact q.elim
  ·exact q.elim
 ·exact q.elim
def gQ(te to ti:ap):aY:=fun D σ S=>te σ S (fun v S1=>to σ S1 (fun o S2=>ti σ S2 (fun i S3=>cI o i v S3 (fun S4=>D.nx σ S4)) D.ex) D.ex) D.ex
def j_(hu:X.A.units+1 < cLine)(he:ax X e te)(ho:ax X o to)(hi:ax X i ti)
  (ha:∀v,assign (.Subscript o i pos') X.env v=(do
   let ov <-holding [v] (eval o X.env)
   let iv <-holding [v,ov] (eval i X.env)
   standAt pos'
   holding [v,ov,iv] (setItem ov iv v)
   release [v,ov,iv] []):=by intro _;rfl)
  (hs:swapsWithSole [.Subscript o i pos'] e pos.line X.env=pure false:=by rfl) (hw:swappedStores [.Subscript o i pos'] e X.env=pure none:=by rfl)
  (h1:(assignEach [.Subscript o i pos'] X.env).map (·.2)=[assign (.Subscript o i pos') X.env]:=by rfl):fA X (.Assign [.Subscript o i pos'] e pos) (gQ te to ti):=
 ⟨aR (ji he.ok (mE ho.ok hi.ok (nM hu) ha) hs hw h1) fun D σ H ⟨σ3,S,D3,rσ,rS,h,xo,n,r,bk,ct⟩=>⟨σ3,S,_,D3.ex,rσ,rS,h,xo,fun v S1 v' H1 h1 rv tE g1=>
  ⟨σ3,S1,_,D3.ex,rσ.mono g1,tE,h1,xo.mono g1,fun o S2 o' H2 h2 ro uO g2=>⟨σ3,S2,_,D3.ex,rσ.mono (g1.trans g2),uO,h2,xo.mono (g1.trans g2),fun i S3 i' H3 h3 ri wU g3=>
   ⟨o,i,v,S3,_,ro.mono g3,ri,rv.mono (g2.trans g3),wU,h3,fun S4 H4 h4 y3 g4=>n _ S4 _ H4 h4 (rσ.mono (g1.trans (g2.trans (g3.trans g4)))) y3 (g1.trans (g2.trans (g3.trans g4)))⟩⟩⟩⟩⟩
end
end L3
namespace L2
open PySem PySem.Spec PyProof.Rows
section
variable {X:Cx} {tg:Expr}
def rG(K:Vo)(tl:TE):TI:=fun σ H R=>tl σ H fun x H1=>(∃a,x = .ref a/\(∃xs,SqL K H1 a xs)/\R (qJ K a) H1)\/(∃a,x = .ref a/\(∃xs,uy K H1 a xs)/\R (q5 K a) H1)\/∃z,x = .str z/\R (rq z) H1
def nN{l:Expr}{tl:TE}(hl:PE X l tl):PI X tg l (rG X.K tl):=by
 intro pins s σ H R I h
 refine aB (hl pins s σ H _ I h) fun v s1 ⟨x,H1,I1,r1,q1⟩=>?_
 rcases q1 with⟨a,e,⟨xs,hq⟩,q⟩|⟨a,e,⟨xs,hq⟩,q⟩|⟨z,e,q⟩
 ·subst e
  cases r1
  obtain⟨its,rv,p,hz⟩:=I1.list hq
  refine wpAny_pyIter_list p.isList ?_
  refine⟨s1.heap.objs.size,[s1.heap.objs.size],_,_,H1,rfl,I1.kept (t':=s1.toks) fun b o e=>zp _ e,iC a _,⟨_,zz _ rfl,rfl,rfl⟩,fun b hb=>?_,q⟩
  have e:b=s1.heap.objs.size:=by simpa using hb
  subst e
  exact I1.ut (zw _) (I1.hok.fresh (zw _))
 ·subst e
  cases r1
  obtain⟨its,rv,p,hz⟩:=I1.tuple hq
  refine wpAny_pyIter_tuple (show s1.heap.IsTuple a its.toArray from p) ?_
  refine⟨s1.heap.objs.size,[s1.heap.objs.size],_,_,H1,rfl,I1.kept (t':=s1.toks) fun b o e=>zp _ e,gA a _,⟨_,zz _ rfl,rfl,rfl⟩,fun b hb=>?_,q⟩
  have e:b=s1.heap.objs.size:=by simpa using hb
  subst e
  exact I1.ut (zw _) (I1.hok.fresh (zw _))
 ·subst e
  obtain⟨t,rfl⟩:=r1
  have fin:∀ty,(ty = "str_ascii_iterator" \/ ty = "str_iterator")->si X pins σ tg R (.ref s1.heap.objs.size) { s1 with heap:=s1.heap.push { cls:=.type ty,data:=.fields #[.str z t,.int 0 0] } }:=fun ty hty=>by
   refine⟨s1.heap.objs.size,[s1.heap.objs.size],_,_,H1,rfl,I1.kept (t':=s1.toks) fun b o e=>zp _ e,jK hty _ z t,⟨Ax _,_,zz _ rfl,rfl,rfl⟩,fun b hb=>?_,q⟩
   have e:b=s1.heap.objs.size:=by simpa using hb
   subst e
   exact I1.ut (zw _) (I1.hok.fresh (zw _))
  cases ha:z.cps.all (· < 128)
  ·exact wpAny_pyIter_wide ha (fin _ (.inr rfl))
  ·exact wpAny_pyIter_ascii ha (fin _ (.inl rfl))
end
end L2
namespace L3
open PySem L2
structure rH where
 items:List PV
 keep:aj->Prop
def eM(K:Vo)(H0:Hp)(J:It)(src:rH):Prop:=∀(i:Nat) (S:aj) (H:Hp),Grow K H0 H->tw K H S->src.keep S->
 (∀p,src.items[i]?=some p->J.go i H/\∀x H',J.w5 i H x H'->Rep K H' x p/\tw K H' S/\Grow K H H')/\(i=src.items.length->J.stop i H)
abbrev je:=aN->aj->(rH->aj->Prop)->cD->Prop
inductive LI (X:Cx) (t:je) (σ:L2.St) (H:Hp) (R:It->Hp->Prop):Prop
 |mk (σ3 S R3 E3) (rσ:tx X.K H σ σ3) (rS:tw X.K H S) (h:t σ3 S R3 E3) (xo:vN X H E3) (k:∀src S' J H',R3 src S'->eM X.K H' J src->tw X.K H' S'->Grow X.K H H'->R J H'):LI X t σ H R
structure ma (X:Cx) (tg iter:Expr) (t:je):Prop where
 ok:PI X tg iter (LI X t)
def gR{X:Cx}{tg iter:Expr}{t t':TI}(h:PI X tg iter t)(k:∀σ H R,t' σ H R->t σ H R):PI X tg iter t':=fun pins s σ H R I q=>h pins s σ H R I (k σ H R q)
section
variable {X:Cx} {e tg:Expr} {es:List Expr} {te:ap} {ts:List ap} {p pos:Pos}
noncomputable def fV(S:aj):PV->Option rH
 | .tup xs=>some ⟨xs,fun _=>True⟩
 | .cl xs=>some ⟨xs,fun _=>True⟩
 | .str z=>some ⟨z.cps.toList.map fun c=>.str (gw c),fun _=>True⟩
 | .ref a=>(match S a with|some (.lst xs)=>some ⟨xs,fun S'=>S' a=some (.lst xs)⟩|_=>none)
 |_=>none
def cQ(te:ap):je:=fun σ S R E=>te σ S (fun v S1=>match fV S1 v with|some src=>R src S1|none=>False) E
end
section
variable {X:Cx} {e tg a b:Expr} {es:List Expr} {te ta tb:ap} {ts:List ap} {p pos:Pos}
def ka{K:Vo}{H0:Hp}{a:Addr}{xs:List PV}:eM K H0 (qJ K a) ⟨xs,fun S'=>S' a=some (.lst xs)⟩:=by
 intro i S H g rS hk
 obtain⟨vs,hv,rs⟩:=rS a _ hk
 refine⟨fun p hp=>?_,fun hi=>⟨vs,SqL.of hv,by rw[rs.length,hi];exact zw _⟩⟩
 obtain⟨v,hx,rv⟩:=rs.get hp
 refine⟨⟨vs,v,SqL.of hv,hx⟩,fun x H' ⟨e,h⟩=>?_⟩
 subst e
 have:=h vs (SqL.of hv)
 rw[hx]at this
 cases this
 exact⟨rv,rS,.refl⟩
def lF{K:Vo}{H0:Hp}{a:Addr}{vs:List V}{xs:List PV}(h:uy K H0 a vs)(rs:Reps K H0 vs xs):eM K H0 (q5 K a) ⟨xs,fun _=>True⟩:=by
 intro i S H g rS _
 have hv:=g.t _ _ h
 refine⟨fun p hp=>?_,fun hi=>⟨vs,hv,by rw[rs.length,hi];exact zw _⟩⟩
 obtain⟨v,hx,rv⟩:=rs.get hp
 refine⟨⟨vs,v,hv,hx⟩,fun x H' ⟨e,h⟩=>?_⟩
 subst e
 have:=h vs hv
 rw[hx]at this
 cases this
 exact⟨rv.mono g,rS,.refl⟩
def nO{K:Vo}{H0:Hp}{a:Addr}{vs:List V}{xs:List PV}(h:wD K H0 a vs)(rs:Reps K H0 vs xs):eM K H0 (qJ K a) ⟨xs,fun _=>True⟩:=by
 intro i S H g rS _
 have hv:=(g.c _ _ h).sq
 refine⟨fun p hp=>?_,fun hi=>⟨vs,hv,by rw[rs.length,hi];exact zw _⟩⟩
 obtain⟨v,hx,rv⟩:=rs.get hp
 refine⟨⟨vs,v,hv,hx⟩,fun x H' ⟨e,h⟩=>?_⟩
 subst e
 have:=h vs hv
 rw[hx]at this
 cases this
 exact⟨rv.mono g,rS,.refl⟩
def lG{K:Vo}{H0:Hp}{z:Str}:eM K H0 (rq z) ⟨z.cps.toList.map fun c=>.str (gw c),fun _=>True⟩:=by
 intro i S H g rS _
 refine⟨fun p hp=>?_,fun hi=>by show z.cps.size<=i;rw[hi,zC,Array.length_toList];exact zw _⟩
 rw[z3]at hp
 cases hc:z.cps.toList[i]? with
 |none=>rw[hc]at hp;cases hp
 |some c=>
  rw[hc]at hp
  cases hp
  have hc':z.cps[i]?=some c:=by simpa using hc
  refine⟨?_,fun x H' ⟨e,c',h1,h2⟩=>?_⟩
  ·show i < z.cps.size
   by_cases hi:i < z.cps.size
   ·exact hi
   ·rw[Array.getElem?_eq_none (by omega)]at hc';cases hc'
  ·subst e
   rw[hc']at h1
   cases h1
   subst h2
   exact⟨.str _,rS,.refl⟩
def im(he:ax X e te):ma X tg e (cQ te):=⟨gR (nN he.ok) fun σ H R ⟨σ3,S,R3,E3,rσ,rS,h,xo,k⟩=>⟨σ3,S,_,E3,rσ,rS,h,xo,fun v S1 v' H1 h1 rv tE g1=>by
 split at h1
 ·rename_i src hs
  unfold fV at hs
  split at hs
  ·cases hs
   cases rv with
   |tup hq rs=>exact .inr (.inl ⟨_,rfl,⟨_,hq⟩,k _ S1 _ H1 h1 (lF hq rs) tE g1⟩)
  ·cases hs
   cases rv with
   |cl hq rs=>exact .inl ⟨_,rfl,⟨_,hq.sq⟩,k _ S1 _ H1 h1 (nO hq rs) tE g1⟩
  ·cases hs
   cases rv
   exact .inr (.inr ⟨_,rfl,k _ S1 _ H1 h1 lG tE g1⟩)
  ·cases rv
   split at hs
   ·rename_i ea
    cases hs
    obtain⟨vs,hv,rs⟩:=tE _ _ ea
    exact .inl ⟨_,rfl,⟨_,SqL.of hv⟩,k _ S1 _ H1 h1 ka tE g1⟩
   ·cases hs
  ·cases hs
 ·exact h1.elim⟩⟩
noncomputable def aL(lo:Int)(n:Nat):List PV:=(List.range n).map fun(i:Nat)=>PV.int (lo+i)
def eN{K:Vo}{H0:Hp}{lo:Int}{n:Nat}:eM K H0 (oO lo n) ⟨aL lo n,fun _=>True⟩:=by
 intro i S H g rS _
 refine⟨fun p hp=>?_,fun hi=>by show n<=i;rw[hi];simp[aL]⟩
 unfold aL at hp
 rw[z3]at hp
 by_cases hi:i < n
 ·rw[List.getElem?_range hi]at hp
  cases hp
  refine⟨hi,fun x H' ⟨e,h⟩=>?_⟩
  subst e h
  exact⟨.int _,rS,.refl⟩
 ·rw[z7 (by simpa using hi)]at hp
  cases hp
def fW(ta:ap):je:=fun σ S R E=>ta σ S (fun v S1=>match v with | .int j=>-(2 ^ 62)<=j/\j < 2 ^ 62/\R ⟨aL 0 j.toNat,fun _=>True⟩ S1|_=>False) E
def dG(hs:starEach [a] X.env=[(false,eval a X.env)])(hg:Gl X "range")(hm:X.mg "range" = none)(ha:dy X [a] [ta]):ma X tg (.Call (.Name "range" p) [a] [] pos) (fW ta):=
 ⟨gR (iD hg hm ha.ok hs) fun σ H R ⟨σ3,S,R3,E3,rσ,rS,h,xo,k⟩=>⟨σ3,S,_,E3,rσ,rS,h,xo,fun v S1 v' H1 h1 rv tE g1=>by
  split at h1
  ·cases rv
   exact⟨_,rfl,h1.1,h1.2.1,k _ S1 _ H1 h1.2.2 eN tE g1⟩
  ·exact h1.elim⟩⟩
end
section
variable {X:Cx} {iter tg c:Expr} {body:List Stmt} {ti:je} {g:Tg} {tb:aY} {tc:dv} {pos:Pos}
noncomputable def fX(g:Tg)(tb:aY)(D:dw)(keep:aj->Prop):List PV->aN->aj->Prop
 |[],σ,S=>keep S/\D.nx σ S
 |x::r,σ,S=>keep S/\match g.put x σ with|some σ'=>tb { D with nx:=fX g tb D keep r,ct:=fX g tb D keep r,bk:=D.nx } σ' S|none=>False
def fY(ti:je)(g:Tg)(tb:aY):aY:=fun D σ S=>ti σ S (fun src S1=>fX g tb D src.keep src.items σ S1) D.ex
def io(hp:PassesOwn (model X.prog X.w) X.A X.env X.xe)(hc:X.calm=true)(hi:ma X tg iter ti)(hg:j8 X tg g)(hb:bE X body tb)(hs:∀x,foldedSetIterable iter X.env x=pure x:=by intro _;rfl):fA X (.For tg iter body [] pos) (fY ti g tb):=
 ⟨aR (mI hp hc hi.ok hg.ok hb.ok hs) fun D σ H ⟨σ3,S,D3,rσ,rS,h,xo,n,r,bk,ct⟩=>⟨σ3,S,_,D3.ex,rσ,rS,h,xo,fun src S1 J H1 h1 sim tE g1=>by
  refine⟨fun i m σ' H'=>i+m=src.items.length/\∃σ4 S',tx X.K H' σ' σ4/\tw X.K H' S'/\Grow X.K H1 H'/\fX g tb D3 src.keep (src.items.drop i) σ4 S',⟨src.items.length,Nat.zero_add _,σ3,S1,rσ.mono g1,tE,.refl,by simpa using h1⟩,?_⟩
  rintro i m σ' H' ⟨hm,σ4,S',v1,t0,g',hw⟩
  cases hd:src.items.drop i with
  |nil=>
   rw[hd]at hw
   have hi:i=src.items.length:=by
    have:=zM List.length hd
    rw[AE,AK]at this
    omega
   exact .inl ⟨(sim i S' H' g' t0 hw.1).2 hi,n _ S' _ H' hw.2 v1 t0 (g1.trans g')⟩
  |cons x rest=>
   rw[hd]at hw
   have hx:src.items[i]?=some x:=by
    have:=zM (fun l=>l[0]?) hd
    simpa using this
   have hrest:src.items.drop (i+1)=rest:=by
    have:=zM List.tail hd
    simpa [List.tail_drop]using this
   have hlt:i < src.items.length:=by
    by_cases z:i < src.items.length
    ·exact z
    ·rw[z7 (by omega)]at hx;cases hx
   obtain⟨go,yl⟩:=(sim i S' H' g' t0 hw.1).1 x hx
   refine .inr ⟨go,fun σ5 H5=>∃σ6 S6,tx X.K H5 σ5 σ6/\tw X.K H5 S6/\Grow X.K H1 H5/\fX g tb D3 src.keep rest σ6 S6,?_,fun v H5 hv=>?_⟩
   ·rintro σ5 H5 ⟨σ6,S6,q1,q2,q3,q4⟩
    exact⟨m - 1,by omega,by omega,σ6,S6,q1,q2,q3,by rw[hrest];exact q4⟩
   ·obtain⟨rv,xS,g5⟩:=yl v H5 hv
    obtain⟨_,hw⟩:=hw
    split at hw
    ·rename_i σ6 e6
     refine Tg.u7 (own:=0) g rv (v1.mono g5) e6 fun σ7 xk _=>?_
     exact⟨σ6,S',_,xk,xS,hw,xo.mono (g1.trans (g'.trans g5)),fun σ8 S8 σ9 H9 q1 q2 q3 q4=>⟨σ8,S8,q2,q3,g'.trans (g5.trans q4),q1⟩,r.mono (g1.trans (g'.trans g5)),n.mono (g1.trans (g'.trans g5)),
      fun σ8 S8 σ9 H9 q1 q2 q3 q4=>⟨σ8,S8,q2,q3,g'.trans (g5.trans q4),q1⟩⟩
    ·exact hw.elim⟩⟩
def kb(tc:dv)(tb:aY):aY:=fun D σ S=>∃W:Nat->aN->aj->Prop,(∃m,W m σ S)/\∀m σ S,W m σ S->
 tc σ S (fun b S1=>if b=true then ∃N:aN->aj->Prop,(∀σ' S',N σ' S'->∃m',m' < m/\W m' σ' S')/\tb { D with nx:=N,ct:=N,bk:=D.nx } σ S1 else D.nx σ S1) D.ex
def lH(hp:PassesOwn (model X.prog X.w) X.A X.env X.xe)(hc:jd X c tc)(hb:bE X body tb):fA X (.While c body [] pos) (kb tc tb):=
 ⟨aR (jj hp hc.ok hb.ok) fun D σ H ⟨σ3,S,D3,rσ,rS,⟨W,⟨m0,w0⟩,turn⟩,xo,n,r,bk,ct⟩=>by
  refine⟨fun m σ' H'=>∃σ4 S',tx X.K H' σ' σ4/\tw X.K H' S'/\Grow X.K H H'/\W m σ4 S',⟨m0,σ3,S,rσ,rS,.refl,w0⟩,?_⟩
  rintro m σ' H' ⟨σ4,S',v1,t0,g',w'⟩
  refine⟨σ4,S',_,D3.ex,v1,t0,turn m σ4 S' w',xo.mono g',fun b S1 H1 h1 tE g1=>?_⟩
  cases b with
  |true=>
   rw[if_pos rfl]at h1 ⊢
   obtain⟨N,hN,h1⟩:=h1
   refine⟨fun σ5 H5=>∃σ6 S6,tx X.K H5 σ5 σ6/\tw X.K H5 S6/\Grow X.K H H5/\N σ6 S6,?_,?_⟩
   ·rintro σ5 H5 ⟨σ6,S6,q1,q2,q3,q4⟩
    obtain⟨m',hm,w6⟩:=hN σ6 S6 q4
    exact⟨m',hm,σ6,S6,q1,q2,q3,w6⟩
   ·exact⟨σ4,S1,_,v1.mono g1,tE,h1,xo.mono (g'.trans g1),fun σ8 S8 σ9 H9 q1 q2 q3 q4=>⟨σ8,S8,q2,q3,g'.trans (g1.trans q4),q1⟩,r.mono (g'.trans g1),n.mono (g'.trans g1),
     fun σ8 S8 σ9 H9 q1 q2 q3 q4=>⟨σ8,S8,q2,q3,g'.trans (g1.trans q4),q1⟩⟩
  |false=>
   rw[if_neg (by decide)]at h1 ⊢
   exact n _ S1 _ H1 h1 (v1.mono g1) tE (g'.trans g1)⟩
end
noncomputable def df:cD:=fun _ _ _=>False
def vN.no{X:Cx}{H:Hp}:vN X H df:=fun _ _ _ _ _ _ _ _ _ _ _ _ _ _ h=>h.elim
section
variable {X:Cx} {elt iter tg c:Expr} {ifs:List Expr} {scope:Scope} {pos:Pos} {ti:je} {g:Tg} {tc:dv} {te:ap} {fs N:Vs} {own:Nat} {fr:List Nat}
noncomputable def bH(g:Tg)(tc:dv)(te:ap)(σ':aN)(keep:aj->Prop)(fin:List PV->aj->Prop):List PV->List PV->aj->Prop
 |[],ys,S=>keep S/\ys.length<=sizeLine/\fin ys S
 |x::r,ys,S=>keep S/\ys.length<=sizeLine/\match g.put x σ' with
  |some σ2=>tc σ2 S (fun b S3=>if b=true then te σ2 S3 (fun y S4=>bH g tc te σ' keep fin r (ys++[y]) S4) df else bH g tc te σ' keep fin r ys S3) df
  |none=>False
def iY:dv:=fun _ S Q _=>Q true S
structure nP (X:Cx) (ifs:List Expr) (t:dv):Prop where
 ok:PF X ifs (LT X t)
def ft{t t':TT}(h:PF X ifs t)(k:∀σ H Q,t' σ H Q->t σ H Q):PF X ifs t':=fun pins s σ H Q I q=>h pins s σ H Q I (k σ H Q q)
def md:nP X [] iY:=⟨ft m8 fun σ H Q ⟨σ3,S,Q3,E3,rσ,rS,h,xo,k⟩=>k true S H h rS .refl⟩
def kd(h:jd X c tc):nP X [c] tc:=⟨m9 h.ok⟩
noncomputable def fu(own:Nat)(fr:List Nat)(σ:aN):aN:=List.replicate own none++fr.map fun j=>lk σ j
def lI{K:Vo}{H:Hp}{σ:L2.St}{σ3:aN}(r:tx K H σ σ3)(own:Nat)(fr:List Nat):tx K H (aZ own fr σ) (fu own fr σ3):=by
 refine⟨by unfold aZ fu;simp,fun i p e=>?_⟩
 unfold fu at e
 unfold aZ
 by_cases hi:i < own
 ·rw[zQ (by simpa using hi),Ac,if_pos hi]at e
  cases e
 ·rw[Ah (by simpa using hi),zR,z3]at e ⊢
  cases hj:fr[i - own]? with
  |none=>rw[hj]at e;cases e
  |some j=>
   rw[hj]at e
   simp only[Option.map_some,Option.some.injEq]at e ⊢
   obtain⟨v,hv,rv⟩:=r.at' j p (jX e)
   exact⟨v,by rw[hv];rfl,rv⟩
def bi(ti:je)(g:Tg)(tc:dv)(te:ap)(own:Nat)(fr:List Nat):ap:=fun σ S Q E=>ti σ S (fun src S1=>bH g tc te (fu own fr σ) src.keep (fun ys S2=>∀p,S2 p=none->Q (.ref p) (ah S2 p (.lst ys))) src.items [] S1) E
def cJ{σ:L2.St}{H:Hp}{Q:VK}(vE:g.under own=true)(B0:Bk):LE X (bi ti g tc te own fr) σ H Q->jH (LI X ti) (g.g2 X.K) (fun σ H Q=>∃σ3 S Q3,tx X.K H σ σ3/\tw X.K H S/\tc σ3 S Q3 df/\∀b S' H',Q3 b S'->tw X.K H' S'->Grow X.K H H'->Q b H')
  (fun σ H Q=>∃σ3 S Q3,tx X.K H σ σ3/\tw X.K H S/\te σ3 S Q3 df/\vO X.K H Q3 Q) own fr σ H Q:=fun⟨σ3,S,Q3,E3,rσ,rS,h,xo,k⟩=>by
 refine⟨σ3,S,_,E3,rσ,rS,h,xo,fun src S1 J H1 h1 sim tE g1=>?_⟩
 refine⟨fun i m ys H'=>i+m=src.items.length/\∃zs S',Reps X.K H' ys zs/\tw X.K H' S'/\Grow X.K H1 H'/\bH g tc te (fu own fr σ3) src.keep (fun ys S2=>∀p,S2 p=none->Q3 (.ref p) (ah S2 p (.lst ys))) (src.items.drop i) zs S',⟨src.items.length,Nat.zero_add _,[],S1,.nil,tE,.refl,by simpa using h1⟩,?_⟩
 rintro i m ys H' ⟨hm,zs,S',rz,t0,g',hw⟩
 cases hd:src.items.drop i with
 |nil=>
  rw[hd]at hw
  have hi:i=src.items.length:=by
   have:=zM List.length hd
   rw[AE,AK]at this
   omega
  refine .inl ⟨(sim i S' H' g' t0 hw.1).2 hi,by rw[rz.length];exact hw.2.1,fun D hD=>?_⟩
  exact k _ _ _ _ (hw.2.2 D (t0.free hD)) (.ref D) (t0.new hD ⟨_,ad,rz.mono (.new hD)⟩) (g1.trans (g'.trans (.new hD)))
 |cons x rest=>
  rw[hd]at hw
  have hx:src.items[i]?=some x:=by
   have:=zM (fun l=>l[0]?) hd
   simpa using this
  have hrest:src.items.drop (i+1)=rest:=by
   have:=zM List.tail hd
   simpa [List.tail_drop]using this
  have hlt:i < src.items.length:=by
   by_cases z:i < src.items.length
   ·exact z
   ·rw[z7 (by omega)]at hx;cases hx
  obtain⟨go,yl⟩:=(sim i S' H' g' t0 hw.1).1 x hx
  refine .inr ⟨go,by rw[rz.length];exact hw.2.1,fun ys' H5=>∃zs' S6,Reps X.K H5 ys' zs'/\tw X.K H5 S6/\Grow X.K H1 H5/\bH g tc te (fu own fr σ3) src.keep (fun ys S2=>∀p,S2 p=none->Q3 (.ref p) (ah S2 p (.lst ys))) rest zs' S6,?_,fun v H5 hv=>?_⟩
  ·rintro ys' H5 ⟨zs',S6,q1,q2,q3,q4⟩
   exact⟨m - 1,by omega,by omega,zs',S6,q1,q2,q3,by rw[hrest];exact q4⟩
  ·obtain⟨rv,xS,g5⟩:=yl v H5 hv
   obtain⟨_,_,hw⟩:=hw
   split at hw
   ·rename_i σ6 e6
    refine Tg.u7 (own:=own) g rv ((lI rσ own fr).mono (g1.trans (g'.trans g5))) e6 fun σ7 xk d7=>⟨d7 vE,?_⟩
    refine⟨σ6,S',_,xk,xS,hw,fun b S8 H8 h8 yn g8=>?_⟩
    cases b with
    |true=>
     rw[if_pos rfl]at h8 ⊢
     exact⟨σ6,S8,_,xk.mono g8,yn,h8,fun y S9 y' H9 h9 ry y4 g9=>⟨zs++[y],S9,(rz.mono (g5.trans (g8.trans g9))).append (.cons ry .nil),y4,g'.trans (g5.trans (g8.trans g9)),h9⟩⟩
    |false=>
     rw[if_neg (by decide)]at h8 ⊢
     exact⟨zs,S8,rz.mono (g5.trans g8),yn,g'.trans (g5.trans g8),h8⟩
   ·exact hw.elim
def nQ(fs:Vs)(own:Nat)(fr:List Nat)(N:Vs)(vE:g.under own=true)(hc:X.calm=true)(hclos:closureFor scope X.env=pure (aC X.env fs))(hcell:∀y∈scope.names,y.2 ≠ .cell)(hkind:scope.kind = .function)
  (hnames:∀x∈scope.names,x.2 = .local->scope.names.lookup x.1=some .local) (hcl:aD X.env fs) (hhas:hasB (relabel scope X.env).names (aC X.env fs)=true)
  (hlen:N.length=own+fr.length) (hN:(N.drop own).map some=fr.map fun j=>X.N[j]?) (hF:tH X.env scope (aC X.env fs) (N.drop own))
  (hi:ma X tg iter ti) (hg:∀B,j8 (X.tT N scope fs B) tg g) (hf:∀B,nP (X.tT N scope fs B) ifs tc) (he:∀B,ax (X.tT N scope fs B) elt te)
  (hs:∀x,foldedSetIterable iter X.env x=pure x:=by intro _;rfl):ax X (.ListComp elt [⟨tg,iter,ifs,0⟩] scope pos) (bi ti g tc te own fr):=
 ⟨ai (h_ fs own fr N (Cc:=Cx.w9) (fun _=>hc) hclos hcell hkind hnames hcl hhas hlen hN hF hi.ok (fun B=>(hg B).ok)
  (fun B=>ft (hf B).ok fun σ H Q ⟨σ3,S,Q3,rσ,rS,h,k⟩=>⟨σ3,S,Q3,df,rσ,rS,h,.no,k⟩) (fun B=>ai (he B).ok fun σ H Q ⟨σ3,S,Q3,rσ,rS,h,k⟩=>⟨σ3,S,Q3,df,rσ,rS,h,.no,k⟩) hs) fun _ _ _=>cJ vE ⟨0,X.s₀,X.H₀,[],[]⟩⟩
def nR(fs:Vs)(own:Nat)(fr:List Nat)(N:Vs){i:Nat}{y:Str}{py spos:Pos}(hX:X.N.Nodup)(hix:X.N[i]?=some y)(hy:X.env.scope.names.lookup y=some .local)
  (hsw:swapsWith (.ListComp elt [⟨tg,iter,ifs,0⟩] scope pos) (some (.Name y py)) spos.line X.env=pure true)
  (vE:g.under own=true) (hc:X.calm=true) (hclos:closureFor scope X.env=pure (aC X.env fs)) (hcell:∀y∈scope.names,y.2 ≠ .cell) (hkind:scope.kind = .function)
  (hnames:∀x∈scope.names,x.2 = .local->scope.names.lookup x.1=some .local) (hcl:aD X.env fs) (hhas:hasB (relabel scope X.env).names (aC X.env fs)=true)
  (hlen:N.length=own+fr.length) (hN:(N.drop own).map some=fr.map fun j=>X.N[j]?) (hF:tH X.env scope (aC X.env fs) (N.drop own))
  (hi:ma X tg iter ti) (hg:∀B,j8 (X.tT N scope fs B) tg g) (hf:∀B,nP (X.tT N scope fs B) ifs tc) (he:∀B,ax (X.tT N scope fs B) elt te)
  (hs:∀x,foldedSetIterable iter X.env x=pure x:=by intro _;rfl):fA X (.Assign [.Name y py] (.ListComp elt [⟨tg,iter,ifs,0⟩] scope pos) spos) (aS i (bi ti g tc te own fr)):=
 ⟨aR (ll fs own fr N hX hix hy hsw hc hclos hcell hkind hnames hcl hhas hlen hN hF hi.ok (fun B=>(hg B).ok)
  (fun B=>ft (hf B).ok fun σ H Q ⟨σ3,S,Q3,rσ,rS,h,k⟩=>⟨σ3,S,Q3,df,rσ,rS,h,.no,k⟩) (fun B=>ai (he B).ok fun σ H Q ⟨σ3,S,Q3,rσ,rS,h,k⟩=>⟨σ3,S,Q3,df,rσ,rS,h,.no,k⟩) hs)
  fun D σ H ⟨σ3,S,D3,rσ,rS,h,xo,n,r,bk,ct⟩=>cJ vE ⟨0,X.s₀,X.H₀,[],[]⟩ ⟨σ3,S,_,D3.ex,rσ,rS,h,xo,fun p S1 v H1 h1 rv tE g1=>n _ S1 _ H1 h1 ((rσ.mono g1).set rv i) tE g1⟩⟩
end
abbrev bo:=List PV->aj->cW->cD->Prop
noncomputable def ql(K:Vo)(n:Nat)(sp:bo):Sp:=fun vs H Q _=>vs.length=n/\∃ps S Q3 E3,Reps K H vs ps/\tw K H S/\sp ps S Q3 E3/\vO K H Q3 Q
structure lJ (cm:Bool) (P:Program) (w:World) (K:Vo) (mg:Vr) (base:Heap) (k:Nat) (f:Addr) (fd:FuncData) (ps:Vs) (sp:bo):Prop where
 ok:bz cm P w K mg base fi k f fd ps (ql K ps.length sp)
abbrev su:=lJ true
section
variable {X:Cx} {e o:Expr} {es:List Expr} {te to:ap} {ts:List ap} {x:Str} {p pos apos cpos:Pos} {k:Nat} {f:Addr} {fd:FuncData} {ps:Vs} {sp:bo}
def aP(sp:bo)(ts:List ap):ap:=fun σ S Q E=>aW ts σ S (fun ps S1=>sp ps S1 Q E) E
def nS{cm:Bool}(F:lJ cm X.prog X.w X.K X.mg X.base k f fd ps sp)(hr:RoomG cm k X.A)(hg:Gl X x)(hm:X.mg x=some (.ref f))(hk:PySem.W.keepIn X.K (.ref f)=true)(hb:Binds X.K fd ps [])(he:starEach (e::es) X.env=(false,eval e X.env)::starEach es X.env)(ha:dy X (e::es) ts)
  (hl:ts.length=ps.length:=by rfl) (hdb:(x == ("__debug__":Str))=false:=by decide) (hpl:(backTo pos (starEach es X.env)).any (·.1)=false:=by rfl):ax X (.Call (.Name x p) (e::es) [] pos) (aP sp ts):=
 ⟨ai (kX F.ok hr hg hm hk hb .nil pR ha.ok hdb he hpl) fun σ H Q ⟨σ3,S,Q3,E3,rσ,rS,h,xo,k⟩=>aE rσ rS h xo fun ps' S' vs H' hl' q rv t0 g=>by
  rw[zV]
  exact⟨by rw[rv.length,hl',hl],ps',S',Q3,E3,rv,t0,q,k.mono g⟩⟩
end
noncomputable def aI(n:Nat)(args:List PV):aN:=args.map some++List.replicate (n - args.length) none
def eO(n:Nat)(t:aY):bo:=fun args S Q _=>t { nx:=fun _ S'=>Q .non S',rt:=Q,ex:=df } (aI n args) S
def eP{K:Vo}{H:Hp}{N:Vs}{vs:List V}{ps:List PV}(r:Reps K H vs ps):tx K H (L2.bA N vs) (aI N.length ps):=by
 refine⟨by unfold L2.bA aI;simp[r.length],fun i p e=>?_⟩
 unfold aI at e
 unfold L2.bA
 by_cases hi:i < ps.length
 ·rw[zQ (by simpa using hi),z3]at e
  cases hp:ps[i]? with
  |none=>rw[hp]at e;cases e
  |some q=>
   rw[hp]at e
   cases e
   obtain⟨v,hv,rv⟩:=r.get hp
   rw[zQ (by rw[zC,r.length];exact hi),z3,hv]
   exact⟨v,rfl,rv⟩
 ·rw[Ah (by simpa using hi),Ac]at e
  split at e
  ·cases e
  ·cases e
section
variable {P:Program} {w:World} {K:Vo} {mg:Vr} {base:Heap}
noncomputable abbrev nT(cm:Bool)(P:Program)(w:World)(K:Vo)(mg:Vr)(base:Heap)(N:Vs)(qual:Str)(st:Stmt)(f:Addr)(cdv:Value)(A:Around)(outer:List Env)(s:Shared)(H:Hp)(E:XK):Cx:=(bQ cm fi P w K mg base N qual (ae st) f cdv A outer s H E).v7
noncomputable abbrev sL:=nT true
def sv{cm:Bool}{x qual:Str}{st:Stmt}{f:Addr}{fd:FuncData}{N ps:Vs}{k:Nat}{t:aY}(F:vK K x qual st f fd)(S:aJ N ps (ae st))
  (hbody:∀(cdv:Value) (A:Around) (outer:List Env) (s:Shared) (H:Hp) (E:XK),RoomG cm k (A.deeper (PyProof.Rows.envOfC qual (ae st) s.heap.objs.size f cdv))->bE (nT cm P w K mg base N qual st f cdv A outer s H E) (aq st) t) :
  lJ cm P w K mg base (k+1) f fd ps (eO N.length t):=
 ⟨F.ok S (fun vs H Q E h=>h.1) fun cdv A outer s H vs Q E hr ⟨hl,ps',S',Q3,E3,rv,rS,q,kk⟩=>⟨_,(hbody cdv A outer s H E hr).ok,aI N.length ps',S',_,eP rv,rS,q,.no,fun σ3 S2 σ2 H2 h2 _ uO g2=>kk _ S2 _ H2 h2 .non uO g2,kk,fun _ _ _ _ h2=>h2.elim,fun _ _ _ _ h2=>h2.elim⟩⟩
end
section
variable {X:Cx} {o e f:Expr} {to te tf:ap} {pos apos cpos:Pos}
noncomputable def bI:List (ap×ap)->aN->aj->(List (PV×PV)->aj->Prop)->cD->Prop
 |[],_,S,Q,_=>Q [] S
 |(tk,tv)::r,σ,S,Q,E=>tk σ S (fun x S1=>tv σ S1 (fun y S2=>bI r σ S2 (fun ps S3=>Q ((x,y)::ps) S3) E) E) E
noncomputable def dH:List (PV×PV)->Option (List (aA×PV))
 |[]=>some []
 |(x,y)::r=>match fq x,dH r with|some k,some l=>some ((k,y)::l)|_,_=>none
noncomputable def dI(kvs more:List (aA×PV)):List (aA×PV):=more.foldl (fun acc kv=>c_ acc kv.1 kv.2) kvs
structure qP (X:Cx) (pos:Pos) (keys:List (Option Expr)) (values:List Expr) (uL:List (ap×ap)):Prop where
 ok:pP X pos keys values (uL.map fun t=>(LE X t.1,LE X t.2))
def dJ:qP X pos [] [] []:=⟨lb⟩
def a_{k v:Expr}{ks:List (Option Expr)}{vs:List Expr}{tk tv:ap}{uL:List (ap×ap)}(hk:ax X k tk)(hv:ax X v tv)(hr:qP X pos ks vs uL):qP X pos (some k::ks) (v::vs) ((tk,tv)::uL):=⟨jD hk.ok hv.ok hr.ok⟩
inductive eQ (K:Vo) (H:Hp):List (V×V)->List (PV×PV)->Prop
 |nil:eQ K H [] []
 |cons {a b:V} {p q:PV} {vs:List (V×V)} {ps:List (PV×PV)}:Rep K H a p->Rep K H b q->eQ K H vs ps->eQ K H ((a,b)::vs) ((p,q)::ps)
theorem dL:∀{uL:List (ap×ap)} {σ:L2.St} {H:Hp} {Q:List (V×V)->Hp->Prop} {σ3:aN} {S:aj} {Q3:List (PV×PV)->aj->Prop} {E3:cD},tx X.K H σ σ3->tw X.K H S->bI uL σ3 S Q3 E3->vN X H E3->
  (∀ps S' vs H',ps.length=uL.length->Q3 ps S'->eQ X.K H' vs ps->tw X.K H' S'->Grow X.K H H'->Q vs H')->fh (uL.map fun t=>(LE X t.1,LE X t.2)) σ H Q
 |[],σ,H,Q,σ3,S,Q3,E3,rσ,rS,h,xo,k=>k [] S [] H rfl h .nil rS .refl
 |(tk,tv)::ts,σ,H,Q,σ3,S,Q3,E3,rσ,rS,h,xo,k=>
  ⟨σ3,S,_,E3,rσ,rS,h,xo,fun p S1 v H1 h1 rv tE g1=>⟨σ3,S1,_,E3,rσ.mono g1,tE,h1,xo.mono g1,fun p2 S2 v2 H2 h2 y6 uO g2=>dL (rσ.mono (g1.trans g2)) uO h2 (xo.mono (g1.trans g2)) fun ps S3 vs H3 hl h3 xP wU g3=>
   k ((p,p2)::ps) S3 ((v,v2)::vs) H3 (by rw[zy,zy,hl]) h3 (.cons (rv.mono (g2.trans g3)) (y6.mono g3) xP) wU (g1.trans (g2.trans g3))⟩⟩
theorem eR{K:Vo}{H:Hp}:∀{vs:List (V×V)} {ps:List (PV×PV)} {l:List (aA×PV)},eQ K H vs ps->dH ps=some l->∃kvs:List (aA×V),vs=kvs.map (fun kv=>(kV kv.1,kv.2))/\tz K H kvs l
 |_,_,_,.nil,h=>by cases h;exact⟨[],rfl,.nil⟩
 |_,_,l,.cons a b r,h=>by
  unfold dH at h
  split at h
  ·rename_i k l' ek el
   cases h
   obtain⟨kvs,e,q⟩:=eR r el
   refine⟨(k,_)::kvs,?_,.cons b q⟩
   rw[zF,<-e,bZ a ek]
  ·cases h
def tz.merge{K:Vo}{H:Hp}{more:List (aA×V)}{m3:List (aA×PV)}(r:tz K H more m3):∀{kvs:List (aA×V)} {k3:List (aA×PV)},tz K H kvs k3->tz K H (cA kvs more) (dI k3 m3):=by
 induction r with
 |nil=>intro kvs k3 q;exact q
 |cons a r ih=>intro kvs k3 q;exact ih (q.put a)
def bJ(uL:List (ap×ap)):ap:=fun σ S Q E=>∀p,S p=none->bI uL σ (ah S p (.dct [])) (fun ps S2=>S2 p=some (.dct [])/\match dH ps with|some kvs=>Q (.ref p) (ah S2 p (.dct (dI [] kvs)))|none=>False) E
def dM{keys:List (Option Expr)}{values:List Expr}{uL:List (ap×ap)}(h:qP X pos keys values uL)(hall:keys.all (·.isSome)=true:=by rfl)(hl:keys.length=values.length:=by rfl)(h0:keys≠[]:=by exact List.cons_ne_nil _ _)(xy:keys.length<=15:=by decide)
  (ht:uL.length<=15:=by exact zT rfl):ax X (.Dict keys values pos) (bJ uL):=
 ⟨ai (lg h.ok hall hl h0 xy) fun σ H Q ⟨σ3,S,Q3,E3,rσ,rS,hq,xo,k⟩=>fun p hp=>by
  have g0:Grow X.K H (upd H p (.dK [])):=.new hp
  refine dL (rσ.mono g0) (rS.new hp (o:=.dct []) ⟨[],ad,.nil⟩) (hq p (rS.free hp)) (xo.mono g0) fun ps S' vs H' hl' q rv t0 g=>?_
  obtain⟨e,q⟩:=q
  obtain⟨kv,hv,rk⟩:=t0 _ _ e
  cases rk
  refine⟨hv,?_⟩
  split at q
  ·rename_i kvs ek
   obtain⟨l,el,rl⟩:=eR rv ek
   refine⟨l,el,?_,k _ _ _ _ q (.ref p) (t0.put hv trivial ⟨_,ad,(tz.merge rl .nil).mono (.mut hv trivial)⟩) (g0.trans (g.trans (.mut hv trivial)))⟩
   have z1:∀{vs:List (V×V)} {ps:List (PV×PV)},eQ X.K H' vs ps->vs.length=ps.length:=by
    intro vs ps r
    induction r with
    |nil=>rfl
    |cons _ _ _ ih=>rw[zy,zy,ih]
   have z2:=zM List.length el
   rw[zC,z1 rv,hl']at z2
   omega
  ·exact q.elim⟩
def fZ(te:ap):ap:=fun σ S Q E=>te σ S (fun x S1=>match x with
 | .ref a=>(match S1 a with|some (.lst xs)=>∀p,S1 p=none->Q (.ref p) (ah S1 p (.lst xs.reverse))|_=>False)
 |_=>False) E
def nU{p1 p2 q1 q2:Pos}(hs:starEach [e] X.env=[(false,eval e X.env)])(hc:X.calm=true)(he:ax X e te)(xG:Gl X "list")(hm1:X.mg "list" = none)(xH:Gl X "reversed")(hm2:X.mg "reversed" = none):ax X (.Call (.Name "list" p1) [.Call (.Name "reversed" p2) [e] [] q2] [] q1) (fZ te):=
 ⟨ai (gL hc he.ok xG hm1 xH hm2 hs rfl) fun σ H Q ⟨σ3,S,Q3,E3,rσ,rS,h,xo,k⟩=>⟨σ3,S,_,E3,rσ,rS,h,xo,fun x S1 v H1 h1 rx tE g1=>by
  split at h1
  ·cases rx
   split at h1
   ·rename_i ea
    obtain⟨vs,hv,rs⟩:=tE _ _ ea
    exact⟨_,_,rfl,SqL.of hv,fun q hq=>k _ _ _ _ (h1 q (tE.free hq)) (.ref q) (tE.new hq ⟨_,ad,rs.reverse.mono (.new hq)⟩) (g1.trans (.new hq))⟩
   ·exact h1.elim
  ·exact h1.elim⟩⟩
end
def f6:R3:=dB fun i j=>.int (i - j)
def db:R3:=bS (fun _ j=>j≠0) fun i j=>.int (i.fmod j)
def f7:R3:=bS ig fun i j=>.int (i.fdiv j)
def ke:R3:=bS mK fun i j=>.int (i ^ j.toNat)
def oW:R3:=dB fun i j=>.bl (decide (j < i))
def qm:R3:=dB fun i j=>.bl (decide (j<=i))
section
variable {X:Cx}
def qo:d0 X (binaryOp .Sub) f6:=nC
def cR:d0 X (binaryOp .Mod) db:=nE
def nV:d0 X (binaryOp .FloorDiv) f7:=lv
def qp:d0 X (binaryOp .Pow) ke:=nF
def qq:d0 X (compareOp .Gt) oW:=p9
def rJ:d0 X (compareOp .GtE) qm:=p_
end
def qr{cm:Bool}{A:Around}{k:Nat}(hr:RoomG cm k A):A.units+1 < cLine:=by have:=hr.un;omega
def f8{cm:Bool}{A:Around}{k:Nat}(hr:RoomG cm k A):A.units+150 < cLine:=by have:=hr.un;omega
structure qQ (K:Vo) (mg:Vr) (x:Str) (st:Stmt) (ps:Vs) (f:Addr) (fd:FuncData):Prop where
 F:vK K x x st f fd
 b:Binds K fd ps []
 k:PySem.W.keepIn K (.ref f)=true
 m:mg x=some (.ref f)
def rK{K:Vo}{H:Hp}{a:Addr}{ns:Vu}{sp:bo}(hO:lh H)(hS:SqL K H a (ns.map V.int))(h:sp [.cl (ns.map PV.int)] (fun _=>none) (fun v _=>v = .bl true) df):ql K 1 sp [.ref a] H (fun v _=>v = .bl true) fun _ _ _=>False:=by
 have hr:∀l:List Int,Reps K H (l.map V.int) (l.map PV.int):=by
  intro l
  induction l with
  |nil=>exact .nil
  |cons x r ih=>exact .cons (.int x) ih
 refine⟨rfl,[.cl (ns.map PV.int)],fun _=>none,_,df,.cons (.cl (vs:=ns.map V.int) ?_ (hr ns)) .nil,(fun b o e=>by simp at e),h,fun p S' v H' q rv rS g=>?_⟩
 ·rcases hS with(q|q)|q
  ·rcases hO a with z|⟨o,xs,z⟩
   ·rw[z]at q;cases q
   ·rw[z]at q;cases q
  ·exact .inl q
  ·exact .inr q
 ·subst q
  cases rv
  rfl
end L3
namespace L2
open PySem PySem.Spec PyProof.Rows
end L2
namespace HT
open PySem PySem.Spec PyProof.Rows
end HT
namespace L2
open PySem PySem.Spec PyProof.Rows
end L2
namespace L3
open PySem L2
end L3
namespace L2
open PySem PySem.Spec PyProof.Rows
end L2
namespace L3
open PySem L2
end L3
namespace L2
open PySem PySem.Spec PyProof.Rows PySem.AutoSeq1
end L2
namespace L3
open PySem L2
end L3
namespace C
open PySem L2 L3
def bK:aY:=(al (aS 3 (bi (cQ (cG (v3 0) (nG (v3 1)) (nG (c3 (.int 63))))) (.n 0) iY (ay eK [(v3 0),(aF f6 (c3 (.int 0)) (v3 0))]) 1 []))
  (al (aS 4 (aF ce (c3 (.int 7919)) (v3 1)))
  (al (fY (cQ (v3 3)) (.n 2) (aS 4 (aF db (aF ce (aF dE (v3 4) (c3 (.int 48271))) (aF db (v3 2) (c3 (.int 2147483629)))) (c3 (.int 2147483647)))))
  (bG (bJ [((c3 (.str "seed")),(v3 4)),((c3 (.str "number")),(c3 (.int 0))),((c3 (.str "left")),(fZ (bi (cQ (v3 3)) (.n 0) (cY (aF qm (v3 0) (aF ke (c3 (.int 10)) (c3 (.int 18))))) (v3 0) 1 [])))])))))
def bL:aY:=(al (kb (j2 (cY (aF (dC false) (aF bh (v3 0) (c3 (.str "number"))) (c3 (.int 0)))) (cY (aF oW (ay iV [(aF bh (v3 0) (c3 (.str "left")))]) (c3 (.int 0))))) (gQ (lD "list" iW (aF bh (v3 0) (c3 (.str "left"))) []) (v3 0) (c3 (.str "number"))))
  (al (aS 2 (aF bh (v3 0) (c3 (.str "number"))))
  (al (gx (cY (aF oW (v3 2) (c3 (.int 0)))) (al (gQ (aF f7 (v3 2) (v3 1)) (v3 0) (c3 (.str "number")))
  (bG (aF db (v3 2) (v3 1)))) bP)
  (al (aS 3 (aF db (aF ce (aF dE (aF bh (v3 0) (c3 (.str "seed"))) (c3 (.int 48271))) (c3 (.int 7919))) (c3 (.int 2147483647))))
  (al (gQ (aF db (aF ce (aF dE (v3 3) (c3 (.int 40692))) (c3 (.int 104729))) (c3 (.int 2147483399))) (v3 0) (c3 (.str "seed")))
  (al (aS 4 (aF db (aF dE (aF bh (v3 0) (c3 (.str "seed"))) (aF bh (v3 0) (c3 (.str "seed")))) (c3 (.int 2147483563))))
  (bG (aF db (aF ce (aF dE (aF db (aF dE (v3 3) (v3 3)) (c3 (.int 2147483629))) (c3 (.int 2147483563))) (v3 4)) (v3 1)))))))))
end C
namespace Zu
open PySem Zt
open Sem (wp)
end Zu
namespace L2
open PySem PySem.Spec PyProof.Rows
end L2
namespace L3
open PySem L2
end L3
namespace L2
open PySem PySem.Spec PyProof.Rows
end L2
namespace L3
open PySem L2
end L3
namespace C
open PySem L2 L3
end C
namespace Zv
open PySem
open Sem (wp)
end Zv
namespace L2
open PySem PySem.Spec PyProof.Rows
end L2
namespace L3
open PySem L2
end L3
namespace L2
open PySem PySem.Spec PyProof.Rows
end L2
namespace L3
open PySem L2
end L3
namespace C
open PySem L2 L3
end C
namespace L3
open PySem L2 Xc
def rL(K:Vo)(H:Hp)(E3:cD)(E:XK):Prop:=∀(c:Str) (ks:Vs) (ps:List PV) (S':aj) (H':Hp) (C:Addr) (dx:Option Addr) (od:Obj) (vs:List V),E3 (.exc c ks ps) [] S'->ClsN K c C->vs.length=ks.length->
 vj H' dx od ks vs->Reps K H' vs ps->tw K H' S'->Grow K H H'->E (.ref C) dx H'
noncomputable def rM(K:Vo)(n:Nat)(sp:bo):Sp:=fun vs H Q E=>vs.length=n/\∃ps S Q3 E3,Reps K H vs ps/\tw K H S/\sp ps S Q3 E3/\vO K H Q3 Q/\rL K H E3 E
structure nW (fb:Bool) (P:Program) (w:World) (K:Vo) (mg:Vr) (base:Heap) (k:Nat) (f:Addr) (fd:FuncData) (ps:Vs) (sp:bo):Prop where
 ok:eZ P w K mg base (kC fb P w) k f fd ps (rM K ps.length sp)
def cK(sp:bo)(ts:List ap):ap:=fun σ S Q E=>aW ts σ S (fun ps S1=>sp ps S1 Q (fun p _ S'=>E p σ S')) E
def kf(n:Nat)(t:aY):bo:=fun args S Q E=>t { nx:=fun _ S'=>Q .non S',rt:=Q,ex:=fun p _ S'=>E p [] S' } (aI n args) S
section
variable {X:Cx} {e o:Expr} {es:List Expr} {te to:ap} {ts:List ap} {x:Str} {p pos apos cpos:Pos} {k:Nat} {f:Addr} {fd:FuncData} {ps:Vs} {sp:bo}
def lK{fb:Bool}(F:nW fb X.prog X.w X.K X.mg X.base k f fd ps sp)(hr:cz k X.A)(hg:Gl X x)(hm:X.mg x=some (.ref f))(hk:PySem.W.keepIn X.K (.ref f)=true)(hb:Binds X.K fd ps [])(he:starEach (e::es) X.env=(false,eval e X.env)::starEach es X.env)(ha:dy X (e::es) ts)(hf:X.fr=true->fb=true)
    (hl:ts.length=ps.length:=by rfl) (hdb:(x == ("__debug__":Str))=false:=by decide) (hpl:(backTo pos (starEach es X.env)).any (·.1)=false:=by rfl):ax X (.Call (.Name x p) (e::es) [] pos) (cK sp ts):=
  ⟨ai (jT F.ok hf hr hg hm hk hb ha.ok hdb he hpl) fun σ H Q ⟨σ3,S,Q3,E3,rσ,rS,h,xo,k⟩=>aE rσ rS h xo fun ps' S' vs H' hl' q rv t0 g=>
    ⟨fun c d H2=>∃(cn:Str) (ks:Vs) (ps2:List PV) (S2:aj) (C:Addr) (dx:Option Addr) (od:Obj) (vM:List V),c = .ref C/\d=dx/\E3 (.exc cn ks ps2) σ3 S2/\ClsN X.K cn C/\vM.length=ks.length/\vj H2 dx od ks vM/\Reps X.K H2 vM ps2/\tw X.K H2 S2/\Grow X.K H' H2,
     ⟨by rw[rv.length,hl',hl],ps',S',Q3,_,rv,t0,q,k.mono g,fun cn ks ps2 S2 H2 C dx od vM h1 h2 h3 h4 h5 h6 h7=>⟨cn,ks,ps2,S2,C,dx,od,vM,rfl,rfl,h1,h2,h3,h4,h5,h6,h7⟩⟩,
     fun pins c d H2 ⟨cn,ks,ps2,S2,C,dx,od,vM,e1,e2,h1,h2,h3,h4,h5,h6,h7⟩ s' a C' yo e3 e4 I xa=>by
      subst e1 e2;cases e3;cases e4
      exact xo cn ks ps2 σ3 S2 H2 pins σ s' a _ _ od vM h1 h2 h3 h4 h5 h6 (rσ.mono (g.trans h7)) (g.trans h7) I xa⟩⟩
end
section
variable {P:Program} {w:World} {K:Vo} {mg:Vr} {base:Heap}
noncomputable abbrev nX(fb:Bool)(P:Program)(w:World)(K:Vo)(mg:Vr)(base:Heap)(N:Vs)(qual:Str)(st:Stmt)(f:Addr)(cdv:Value)(A:Around)(outer:List Env)(s:Shared)(H:Hp)(E:XK):Cx:=(fJ (kC fb P w) P w K mg base N qual (ae st) f cdv A outer s H E).fb fb
def rN{fb:Bool}{x qual:Str}{st:Stmt}{f:Addr}{fd:FuncData}{N ps:Vs}{k:Nat}{t:aY}(F:vK K x qual st f fd)(S:aJ N ps (ae st))
  (hbody:∀(cdv:Value) (A:Around) (outer:List Env) (s:Shared) (H:Hp) (E:XK),cz k (A.deeper (PyProof.Rows.envOfC qual (ae st) s.heap.objs.size f cdv))->bE (nX fb P w K mg base N qual st f cdv A outer s H E) (aq st) t) :
  nW fb P w K mg base (k+1) f fd ps (kf N.length t):=by
 obtain⟨oc,od,kV,doc,pm,an,cdv,ct,osl,rfl,lk,hcd⟩:=F.ex
 refine⟨l6 lk hcd S (fun vs H Q E h=>h.1) fun A outer s H vs Q E hr ⟨hl,ps',S',Q3,E3,rv,rS,q,kk,kx⟩=>⟨LS (nX fb P w K mg base N qual st f cdv A outer s H E) t,?_,aI N.length ps',S',_,eP rv,rS,q,?_,fun σ3 S2 σ2 H2 h2 _ uO g2=>kk _ S2 _ H2 h2 .non uO g2,kk,fun _ _ _ _ h2=>h2.elim,fun _ _ _ _ h2=>h2.elim⟩⟩
 ·intro pins s1 σ1 H1 D1 I1 h1
  refine zL ((hbody cdv A outer s H E hr).ok pins s1 σ1 H1 D1 I1.xj h1) (fun fl s2 hf=>?_) fun _ _ z=>z
  cases fl with
  |next=>obtain⟨σ6,H6,I6,q6⟩:=hf;exact⟨_,_,I6.wy,q6⟩
  |brk=>obtain⟨σ6,H6,I6,q6⟩:=hf;exact⟨_,_,I6.wy,q6⟩
  |cont=>obtain⟨σ6,H6,I6,q6⟩:=hf;exact⟨_,_,I6.wy,q6⟩
  |ret u=>obtain⟨v6,σ6,H6,I6,r6,q6⟩:=hf;exact⟨_,_,_,I6.wy,r6,q6⟩
 ·exact fun c ks ps2 σ3 S2 H2 pins σ s' a C dx od vM h1 h2 h3 h4 h5 h6 h7 h8 I xa=>iS I xa (kx c ks ps2 S2 H2 C dx od vM h1 h2 h3 h4 h5 h6 h8)
end
structure nY (K:Vo) (mg:Vr) (x qual:Str) (st:Stmt) (ps ks:Vs) (C f:Addr) (fd:FuncData):Prop where
 F:vK K "__init__" qual st f fd
 b:Binds K fd ps []
 cn:ClsN K x C
 m:mg x=some (.ref C)
 ek:ExcK K C
 en:∀k∈ks,NoAttr K C k
 hi:PySem.W.findIn K (.ref C) "__init__" = some (some (.ref f))
 hf:PySem.W.isFn K (.ref f)=true
 kp:PySem.W.keepIn K (.ref C)=true
def bq(c:Str)(ks:Vs)(ts:List ap):aY:=fun D σ S=>aW ts σ S (fun ps S1=>D.ex (.exc c ks ps) σ S1) D.ex
section
variable {X:Cx} {e:Expr} {es:List Expr} {ts:List ap} {x qual:Str} {st:Stmt} {p pos cpos:Pos} {f C:Addr} {fd:FuncData} {ps ks:Vs}
def lL(T:nY X.K X.mg x qual st ps ks C f fd)(F:eZ X.prog X.w X.K X.mg X.base fi 1 f fd ps (b0 X.K C ks))(hps:ps.length=ks.length+1)(hr:cz 2 X.A)(uv:X.calm=true)(hg:Gl X x)(he:starEach (e::es) X.env=(false,eval e X.env)::starEach es X.env)(ha:dy X (e::es) ts)
  (hl:ts.length=ks.length:=by rfl) (hks:ks.length<=1000:=by exact zT rfl) (hdb:(x == ("__debug__":Str))=false:=by decide) (hpl:(backTo cpos (starEach es X.env)).any (·.1)=false:=by rfl) :
  fA X (.Raise (some (.Call (.Name x p) (e::es) [] cpos)) none pos) (bq x ks ts):=
 ⟨aR (jV F hps hks T.ek T.en T.hi T.hf T.kp hr uv hg T.m T.b ha.ok hdb he hpl) fun D σ H ⟨σ3,S,D3,rσ,rS,h,xo,n,r,bk,ct⟩=>aE rσ rS h xo fun ps' S' vs H' hl' q rv t0 g=>
  ⟨by rw[rv.length,hl',hl],fun pins dx od hdx s' a C' yo e3 e4 I xa=>by
   cases e3;cases e4
   exact xo x ks ps' σ3 S' _ pins σ s' a C (some dx) od vs q T.cn (by rw[rv.length,hl',hl]) ad (rv.mono (.new hdx)) (t0.other hdx) (rσ.mono (g.trans (.new hdx))) (g.trans (.new hdx)) I xa⟩⟩
end
noncomputable abbrev me(D:dw)(i:Nat):dw:={ nx:=fun σ S=>D.nx (σ.set i none) S,rt:=D.rt,ex:=df,bk:=fun σ S=>D.bk (σ.set i none) S,ct:=fun σ S=>D.ct (σ.set i none) S }
def lM(cs:Vs)(i:Nat)(tb th:aY):aY:=fun D σ S=>tb { D with ex:=fun p σ' S'=>match p with | .exc c _ _=>cs.contains c=true/\th (me D i) (σ'.set i (some p)) S'|_=>False } σ S
def tx.unset{K:Vo}{H:Hp}{σ:L2.St}{σ3:aN}(r:tx K H σ σ3)(i:Nat):tx K H (σ.set i none) (σ3.set i none):=by
 refine⟨by rw[AJ,AJ,r.len],fun j x e=>?_⟩
 rw[Be]at e ⊢
 split at e
 ·split at e
  ·cases e
  ·cases e
 ·rename_i hij
  rw[if_neg hij]
  exact r.at' j x e
theorem wc.unset{K:Vo}{H:Hp}{N3:aN->aj->Prop}{N:L2.St->Hp->Prop}(n:wc K H N3 N)(i:Nat):wc K H (fun σ S=>N3 (σ.set i none) S) (fun σ H=>N (σ.set i none) H):=fun σ3 S' σ H' h1 h2 h3 h4=>n _ S' _ H' h1 (h2.unset i) h3 h4
noncomputable def vk(K:Vo)(Dc:Addr):List Str->Prop
 |[]=>True
 |c::r=>(∃C,ClsN K c C/\PySem.W.mroIn K C (.ref Dc)=some true)/\vk K Dc r
def ClsN.inj{K:Vo}{c:Str}{C D:Addr}(h1:ClsN K c C)(h2:ClsN K c D):C=D:=by
 have e:=(show PySem.W.nsIn K mainGlobals c=some (some (.ref C))from h1).symm.trans h2
 injection e with e;injection e with e;injection e
theorem vk.at_{K:Vo}{Dc:Addr}:∀{cs:Vs} {c:Str} {C:Addr},vk K Dc cs->cs.contains c=true->ClsN K c C->PySem.W.mroIn K C (.ref Dc)=some true
 |[],_,_,_,h,_=>by simp at h
 |d::r,c,C,⟨⟨D,h1,h2⟩,h3⟩,h,hc=>by
  rw[AO,Bool.or_eq_true]at h
  rcases h with h|h
  ·cases Ay.mp h;rw[hc.inj h1];exact h2
  ·exact vk.at_ h3 h hc
section
variable {X:Cx} {body suite:List Stmt} {b₀:Stmt} {n x:Str} {i:Nat} {np hpos pos:Pos} {tb th:aY} {Dc:Addr} {cs:Vs}
def qt(hst:X.stack=X.env::X.outer)(vV:X.env.frame=some X.env.locals)(hN:X.N.Nodup)(hi:X.N[i]?=some n)(hk:X.env.scope.names.lookup n=some .local)(hg:Gl X x)(hm:X.mg x=some (.ref Dc))(hD:nu X.K Dc)(hcs:vk X.K Dc cs)
  (hb:∀E pins,PassesOwn (model X.prog X.w) X.A X.env E->bE (X.tr E pins) body tb) (hs:∀a,bE (X.inH a) (b₀::suite) th) (hdb:(x == ("__debug__":Str))=false:=by decide) :
  fA X (.Try body [.ExceptHandler (some (.Name x np)) (some n) (b₀::suite) hpos] [] [] pos) (lM cs i tb th):=
 ⟨aR (nw (fb:=true) (tb:=fun E pins=>LS (X.tr E pins) tb) fun E pins hp=>(hb E pins hp).ok) fun D σ H ⟨σ3,S,D3,rσ,rS,h,xo,nx,rt,bk,ct⟩ pins=>
  ⟨σ3,S,_,rσ,rS,h,fun c ks ps y7 S' H' pins' σ' s' a C dx od vs h1 h2 h3 h4 h5 h6 h7 h8 I xa=>by
   have fa:H' a=none:=by obtain⟨_,_,_,_,_,f,_⟩:=xa;exact f.1
   refine nv rfl hst vV hN hi hk hg hm hD (fun a=>(hs a).ok) I xa (hcs.at_ h1.1 h2) (fun oe o1 o2 o3=>?_) hdb
   have gr:Grow X.K H' (upd H' a (.frz oe (.ext fun _=>True))):=.new fa
   exact⟨y7.set i (some (.exc c ks ps)),S',me D3 i,(h7.mono gr).set (.exc h2 ⟨oe,dx,od,ad,o1,o2,o3,h4.mono gr.x⟩ (h5.mono gr)) i,h6.other fa,h1.2,.no,
    (nx.mono (h8.trans gr)).unset i,rt.mono (h8.trans gr),(bk.mono (h8.trans gr)).unset i,(ct.mono (h8.trans gr)).unset i⟩,nx,rt,bk,ct⟩⟩
end
theorem f9{K:Vo}{H:Hp}{f:Str}{p:PV}:∀{ks:Vs} {vs:List V} {ps:List PV},Reps K H vs ps->(ks.zip ps).lookup f=some p->∃v,(ks.zip vs).lookup f=some v/\Rep K H v p
 |[],_,_,_,e=>by simp at e
 |_::_,_,_,.nil,e=>by simp at e
 |k::ks,_,_,.cons a r,e=>by
  rw[As,Ao]at e ⊢
  split at e
  ·cases e;exact⟨_,rfl,a⟩
  ·exact f9 r e
noncomputable def uP(K:Vo):List (Str×Str)->Prop
 |[]=>True
 |(c,f)::r=>(∃C,ClsN K c C/\ExcK K C/\NoAttr K C f)/\uP K r
theorem uP.at_{K:Vo}:∀{l:List (Str×Str)} {c f:Str} {C:Addr},uP K l->l.contains (c,f)=true->ClsN K c C->ExcK K C/\NoAttr K C f
 |[],_,_,_,_,h,_=>by simp at h
 |(d,g)::r,c,f,C,⟨⟨D,h1,h2,h3⟩,h4⟩,h,hc=>by
  rw[AO,Bool.or_eq_true]at h
  rcases h with h|h
  ·cases Ay.mp h;rw[hc.inj h1];exact⟨h2,h3⟩
  ·exact uP.at_ h4 h hc
def bj(l:List (Str×Str))(f:Str)(te:ap):ap:=fun σ S Q E=>te σ S (fun p S1=>match p with | .exc c ks ps=>l.contains (c,f)=true/\(match (ks.zip ps).lookup f with|some v=>Q v S1|none=>False)|_=>False) E
def ci{X:Cx}{pins:Va}{σ:L2.St}{H:Hp}{s:Shared}{a C:Addr}{ks:Vs}{vs:List V}(I:Inv X pins σ H s)(h:wT H a C ks vs):∃(oe:Obj) (od:Option Obj),PySem.W.InstAt s.heap a oe C od/\∀f v,(ks.zip vs).lookup f=some v->∃o u,od=some o/\PySem.W.lookIn f o=some (some u)/\RelV v u:=by
 obtain⟨oe,dx,od,h1,h2,h3,h4,h5⟩:=h
 have g1:=(show ObjOk X.prog X.w H s.heap a (.frz oe (.ext fun _=>True))from I.hok a _ h1).1
 have nc:PySem.W.notCls oe=true:=by obtain⟨p1,p2,p3,p4⟩:=oe;cases p3<;>first|rfl|exact absurd rfl (h4 _)
 cases dx with
 |none=>exact⟨oe,none,⟨g1,h2,nc,by rw[h3];trivial⟩,fun f v z=>by rw[show ks=[] from h5]at z;cases z⟩
 |some dx=>
  obtain⟨g3,⟨mA,m1,m2,m3⟩,_⟩:=(show ObjOk X.prog X.w H s.heap dx (.frz od (.ext (XD dx (ks.zip vs))))from I.hok dx _ h5)
  obtain⟨od',e1,hl⟩:=em m1
  rw[g3]at e1;cases e1
  refine⟨oe,some od,⟨g1,h2,nc,by rw[h3];exact g3⟩,fun f v z=>?_⟩
  obtain⟨u,hu,ru⟩:=uq.some_of (v:=v) (o:=mA f) (by rw[<-z];exact m2 f)
  exact⟨od,u,rfl,by rw[hl,hu],ru⟩
section
variable {X:Cx} {e:Expr} {te:ap} {f:Str} {pos:Pos} {l:List (Str×Str)}
def br(hl:uP X.K l)(he:ax X e te)(hb:attributeBase e f X.env (eval e X.env)=eval e X.env):ax X (.Attribute e f pos) (bj l f te):=
 ⟨fun pins s σ H Q I ⟨σ3,S,Q3,E3,rσ,rS,h,xo,k⟩=>by
  refine kU hb (aB (he.ok pins s σ H (fun v H1=>∃p S1,Rep X.K H1 v p/\tw X.K H1 S1/\Grow X.K H H1/\(match p with | .exc c ks ps=>l.contains (c,f)=true/\(match (ks.zip ps).lookup f with|some v=>Q3 v S1|none=>False)|_=>False)) I ⟨σ3,S,_,E3,rσ,rS,h,xo,fun p S1 v H1 h1 rv tE g1=>⟨p,S1,rv,tE,g1,h1⟩⟩) fun u s1 ⟨v,H1,I1,rv,p,S1,rp,tE,g1,q⟩=>?_)
  split at q
  ·rename_i c ks ps
   obtain⟨q1,q2⟩:=q
   split at q2
   ·rename_i p' hp'
    cases rp with
    |exc hn hx rs=>
     cases rv
     obtain⟨ek,na⟩:=hl.at_ q1 hn
     obtain⟨oe,od,J,hlk⟩:=ci I1 hx
     obtain⟨v',hv',y8⟩:=f9 rs hp'
     obtain⟨o,u,rfl,hu,ru⟩:=hlk f v' hv'
     exact ls I1.uR J ek (PySem.W.findObj_own ek.dict na rfl hu) (iG ru) ⟨v',H1,I1.tok _,ru,k _ S1 _ H1 q2 y8 tE g1⟩
   ·exact q2.elim
  ·exact q.elim⟩
def qu{x:Str}{C:Addr}(hg:Gl X x)(hm:X.mg x=some (.ref C))(hc:ClsN X.K x C)(hd:(x == ("__debug__":Str))=false:=by decide):ax X (.Name x pos) (c3 (.cls x)):=
 ⟨ai (kI (v:=.ref C) hg hm rfl hd) fun σ H Q ⟨σ3,S,Q3,E3,rσ,rS,h,xo,k⟩=>k _ S _ H h (.cls hc) rS .refl⟩
end
noncomputable def XTab(K:Vo):List (Str×Str×Bool)->Prop
 |[]=>True
 |(c,d,b)::r=>(∃C D,ClsN K c C/\ClsN K d D/\ExcK K C/\PySem.W.kitOne K (.ref C) (.ref D)=some b/\PySem.W.kitOne K (.ref C) (.type "ValueError")=some true)/\XTab K r
noncomputable def bx(c d:Str):List (Str×Str×Bool)->Option Bool
 |[]=>none
 |(c',d',b)::r=>if c=c'/\d=d' then some b else bx c d r
theorem XTab.at_{K:Vo}:∀{l:List (Str×Str×Bool)} {c d:Str} {b:Bool} {C D:Addr},XTab K l->bx c d l=some b->ClsN K c C->ClsN K d D->ExcK K C/\PySem.W.kitOne K (.ref C) (.ref D)=some b
 |[],_,_,_,_,_,_,h,_,_=>by cases h
 |(c',d',b')::r,c,d,b,C,D,⟨⟨C',D',h1,h2,h3,h4,h5⟩,h6⟩,h,hc,hd=>by
  unfold bx at h
  split at h
  ·rename_i e
   obtain⟨rfl,rfl⟩:=e
   cases h
   rw[hc.inj h1,hd.inj h2]
   exact⟨h3,h4⟩
  ·exact XTab.at_ h6 h hc hd
theorem XTab.ve{K:Vo}:∀{l:List (Str×Str×Bool)} {c:Str} {C:Addr},XTab K l->l.any (fun t=>t.1 == c)=true->ClsN K c C->ExcK K C/\PySem.W.kitOne K (.ref C) (.type "ValueError")=some true
 |[],_,_,_,h,_=>by simp at h
 |(c',d',b')::r,c,C,⟨⟨C',D',h1,h2,h3,h4,h5⟩,h6⟩,h,hc=>by
  rw[A3,Bool.or_eq_true]at h
  rcases h with h|h
  ·have e:c'=c:=Ay.mp h
   subst e
   rw[hc.inj h1]
   exact⟨h3,h5⟩
  ·exact XTab.ve h6 h hc
noncomputable def lN(l:List (Str×Str×Bool))(c:Str):List PV->Option Bool
 |[]=>some false
 | .cls d::r=>(match bx c d l with|some true=>some true|some false=>lN l c r|none=>none)
 |_::_=>none
def bn(l:List (Str×Str×Bool)):ij:=fun ps S Q=>match ps with
 |[.exc c _ _,.cls d]=>(match bx c d l with|some b=>Q (.bl b) S|none=>False)
 |[.exc c _ _,.ty n]=>n = "ValueError"/\l.any (fun t=>t.1 == c)=true/\Q (.bl true) S
 |[.exc c _ _,.tup ds]=>l.any (fun t=>t.1 == c)=true/\(match lN l c ds with|some b=>Q (.bl b) S|none=>False)
 |_=>False
theorem vc{K:Vo}{H:Hp}{l:List (Str×Str×Bool)}{c:Str}{C:Addr}(T:XTab K l)(hc:ClsN K c C):∀{ds:List PV} {b:Bool} {vs:List V} {its:Vv},lN l c ds=some b->Reps K H vs ds->Vals vs its->PySem.W.kitAny K (.ref C) its=some b
 |[],b,_,_,h,.nil,.nil=>h
 |p::ds,b,_,_,h,.cons a rs,r=>by
  cases p with
  |cls d=>
   cases a with
   |@cls D _ hd=>
    cases r with
    |@cons _ u _ us r1 r2=>
     cases (show u=Value.ref D from r1)
     show(match PySem.W.kitOne K (.ref C) (.ref D)with|some true=>some true|some false=>PySem.W.kitAny K (.ref C) us|none=>none)=_
     unfold lN at h
     split at h
     ·rename_i e;rw[(T.at_ e hc hd).2];exact h
     ·rename_i e;rw[(T.at_ e hc hd).2];exact vc T hc h rs r2
     ·cases h
  |_=>cases h
def aK{X:Cx}{l:List (Str×Str×Bool)}(T:XTab X.K l):bT X (.builtin "isinstance") (bn l):=⟨fun pins s σ H xs us Q I r ⟨ps,S,Q3,rp,rS,q,k⟩=>by
 unfold bn at q
 split at q
 ·rename_i c ks as d
  split at q
  ·rename_i b hb
   cases rp with
   |cons a rr=>
    cases rr with
    |cons b' r3=>
     cases r3
     cases r with
     |cons r1 r2=>
      cases r2 with
      |cons r4 r5=>
       cases r5
       cases a with
       |exc hn hx rs=>
        cases b' with
        |cls hd=>
         cases r1;cases r4
         obtain⟨ek,e⟩:=T.at_ hb hn hd
         obtain⟨oe,od,J,_⟩:=ci I hx
         exact zG I.tk (PySem.W.kia_one (dt ek) I.uR J e (fun z=>nomatch z) fun tk ht=>⟨.bl _,H,I.tok _,rfl,k _ S _ H q (.bl _) rS .refl⟩)
  ·exact q.elim
 ·rename_i c ks as n
  obtain⟨rfl,q1,q2⟩:=q
  cases rp with
  |cons a rr=>
   cases rr with
   |cons b' r3=>
    cases r3
    cases r with
    |cons r1 r2=>
     cases r2 with
     |cons r4 r5=>
      cases r5
      cases a with
      |exc hn hx rs=>
       cases b'
       cases r1;cases r4
       obtain⟨ek,e⟩:=T.ve q1 hn
       obtain⟨oe,od,J,_⟩:=ci I hx
       exact zG I.tk (PySem.W.kia_one (dt ek) I.uR J e (fun z=>nomatch z) fun tk ht=>⟨.bl _,H,I.tok _,rfl,k _ S _ H q2 (.bl _) rS .refl⟩)
 ·rename_i c ks as ds
  obtain⟨q1,q⟩:=q
  split at q
  ·rename_i b hb
   cases rp with
   |cons a rr=>
    cases rr with
    |cons b' r3=>
     cases r3
     cases r with
     |cons r1 r2=>
      cases r2 with
      |cons r4 r5=>
       cases r5
       cases a with
       |exc hn hx rs=>
        cases b' with
        |tup h1 y9=>
         cases r1;cases r4
         obtain⟨ek,_⟩:=T.ve q1 hn
         obtain⟨oe,od,J,_⟩:=ci I hx
         obtain⟨its,rv,⟨⟨oc,odd,xh,osl⟩,ho,hc,n,hd⟩,_⟩:=I.tuple h1
         simp only at hc hd
         subst hc hd
         exact zG I.tk (PySem.W.kia_tup (dt ek) I.uR J ho (vc T hn hb y9 rv) (fun z=>nomatch z) fun tk ht=>⟨.bl _,H,I.tok _,rfl,k _ S _ H q (.bl _) rS .refl⟩)
  ·exact q.elim
 ·exact q.elim⟩
noncomputable def lO(s:Stmt):List Stmt:=match s with
 | .ClassDef _ _ _ body _ _ _ _ _ _ _=>body
 |_=>[]
end L3
namespace L3
open PySem L2
end L3
namespace L2
open PySem PySem.Spec PyProof.Rows Xc
end L2
namespace L3
open PySem L2 Xc
section
variable {P:Program} {w:World} {K:Vo} {mg:Vr} {base:Heap}
structure d8 (K:Vo) (mg:Vr) (x:Str) (st:Stmt) (ps:Vs):Prop where
 ex:∃f fd,qQ K mg x st ps f fd
structure lP (cm:Bool) (P:Program) (w:World) (K:Vo) (mg:Vr) (base:Heap) (k:Nat) (x:Str) (n:Nat) (sp:bo):Prop where
 ex:∃f fd ps,ps.length=n/\lJ cm P w K mg base k f fd ps sp/\mg x=some (.ref f)/\PySem.W.keepIn K (.ref f)=true/\Binds K fd ps []
abbrev oX:=lP true
abbrev sM:=lP false
structure rO (fb:Bool) (P:Program) (w:World) (K:Vo) (mg:Vr) (base:Heap) (k:Nat) (x:Str) (n:Nat) (sp:bo):Prop where
 ex:∃f fd ps,ps.length=n/\nW fb P w K mg base k f fd ps sp/\mg x=some (.ref f)/\PySem.W.keepIn K (.ref f)=true/\Binds K fd ps []
abbrev sN:=rO true
def nZ{cm:Bool}{x:Str}{st:Stmt}{ps:Vs}{k n:Nat}{t:aY}{sp:bo}(N:Vs)(O:d8 K mg x st ps)
  (hbody:∀(f:Addr) (cdv:Value) (A:Around) (outer:List Env) (s:Shared) (H:Hp) (E:XK),RoomG cm k (A.deeper (PyProof.Rows.envOfC x (ae st) s.heap.objs.size f cdv))->N.Nodup->bE (nT cm P w K mg base N x st f cdv A outer s H E) (aq st) t) (e:sp=eO N.length t)
  (hn:ps.length=n:=by rfl) (S:aJ N ps (ae st):=by exact⟨rfl,rfl,rfl,by decide +kernel,rfl,by decide +kernel,by decide +kernel⟩):lP cm P w K mg base (k+1) x n sp:=by
 subst e
 obtain⟨f,fd,o⟩:=O.ex
 exact⟨f,fd,ps,hn,sv o.F S fun cdv A outer s H E hr=>hbody f cdv A outer s H E hr S.nd,o.m,o.k,o.b⟩
def sO{fb:Bool}{x:Str}{st:Stmt}{ps:Vs}{k n:Nat}{t:aY}{sp:bo}(N:Vs)(O:d8 K mg x st ps)
  (hbody:∀(f:Addr) (cdv:Value) (A:Around) (outer:List Env) (s:Shared) (H:Hp) (E:XK),cz k (A.deeper (PyProof.Rows.envOfC x (ae st) s.heap.objs.size f cdv))->N.Nodup->bE (nX fb P w K mg base N x st f cdv A outer s H E) (aq st) t) (e:sp=kf N.length t)
  (hn:ps.length=n:=by rfl) (S:aJ N ps (ae st):=by exact⟨rfl,rfl,rfl,by decide +kernel,rfl,by decide +kernel,by decide +kernel⟩):rO fb P w K mg base (k+1) x n sp:=by
 subst e
 obtain⟨f,fd,o⟩:=O.ex
 exact⟨f,fd,ps,hn,rN o.F S fun cdv A outer s H E hr=>hbody f cdv A outer s H E hr S.nd,o.m,o.k,o.b⟩
def sP{x:Str}{st:Stmt}{ps:Vs}{k:Nat}{t:aY}{sp:bo}{f:Addr}{fd:FuncData}(N:Vs)(o:qQ K mg x st ps f fd)
  (hbody:∀(f:Addr) (cdv:Value) (A:Around) (outer:List Env) (s:Shared) (H:Hp) (E:XK),cz k (A.deeper (PyProof.Rows.envOfC x (ae st) s.heap.objs.size f cdv))->N.Nodup->bE (sL P w K mg base N x st f cdv A outer s H E) (aq st) t) (e:sp=eO N.length t)
  (S:aJ N ps (ae st):=by exact⟨rfl,rfl,rfl,by decide +kernel,rfl,by decide +kernel,by decide +kernel⟩):su P w K mg base (k+1) f fd ps sp:=by
 subst e
 exact sv o.F S fun cdv A outer s H E hr=>hbody f cdv A outer s H E hr S.nd
end
section
variable {X:Cx} {a b e o:Expr} {es:List Expr} {ta tb te to:ap} {ts:List ap} {x c m f:Str} {p pos apos cpos:Pos} {j k n:Nat} {sp:bo}
def c4{cm:Bool}(O:lP cm X.prog X.w X.K X.mg X.base k x n sp)(hr:RoomG cm j X.A)(ha:dy X (e::es) ts)(hj:k<=j:=by omega)(hl:ts.length=n:=by rfl)(hg:Gl X x:=by rfl)(he:starEach (e::es) X.env=(false,eval e X.env)::starEach es X.env:=by rfl)(hdb:(x == ("__debug__":Str))=false:=by decide)(hpl:(backTo pos (starEach es X.env)).any (·.1)=false:=by rfl) :
  ax X (.Call (.Name x p) (e::es) [] pos) (aP sp ts):=by
 obtain⟨f,fd,ps,hn,F,h1,h2,h3⟩:=O.ex
 exact nS F (hr.mono hj) hg h1 h2 h3 he ha (hl.trans hn.symm) hdb hpl
def cX{fb:Bool}(O:rO fb X.prog X.w X.K X.mg X.base k x n sp)(hr:cz j X.A)(ha:dy X (e::es) ts)(hj:k<=j:=by omega)(hl:ts.length=n:=by rfl)(hg:Gl X x:=by rfl)(he:starEach (e::es) X.env=(false,eval e X.env)::starEach es X.env:=by rfl)(hdb:(x == ("__debug__":Str))=false:=by decide)(hpl:(backTo pos (starEach es X.env)).any (·.1)=false:=by rfl)(hf:X.fr=true->fb=true:=by first|exact fun _=>rfl|exact fun z=>z) :
  ax X (.Call (.Name x p) (e::es) [] pos) (cK sp ts):=by
 obtain⟨f,fd,ps,hn,F,h1,h2,h3⟩:=O.ex
 exact lK F (hr.mono hj) hg h1 h2 h3 he ha hf (hl.trans hn.symm) hdb hpl
def cB{id:String}{r:ij}(hc:bT X (.builtin id) r)(hm:X.mg x=none)(ha:dy X (e::es) ts)(hg:Gl X x:=by rfl)(hv:bootBuiltins x=some (.builtin id):=by decide +kernel)(he:starEach (e::es) X.env=(false,eval e X.env)::starEach es X.env:=by rfl)
  (hnn:x ≠ "__name__":=by decide) (hdb:(x == ("__debug__":Str))=false:=by decide) (hpl:(backTo pos (starEach es X.env)).any (·.1)=false:=by rfl):ax X (.Call (.Name x p) (e::es) [] pos) (ay r ts):=lB hc hg hm hv he ha hnn hdb hpl
def cT{id:String}{r:ij}(hc:bT X (.type id) r)(hm:X.mg x=none)(ha:dy X (e::es) ts)(hg:Gl X x:=by rfl)(hv:bootBuiltins x=some (.type id):=by decide +kernel)(he:starEach (e::es) X.env=(false,eval e X.env)::starEach es X.env:=by rfl)
  (hnn:x ≠ "__name__":=by decide) (hdb:(x == ("__debug__":Str))=false:=by decide) (hpl:(backTo pos (starEach es X.env)).any (·.1)=false:=by rfl):ax X (.Call (.Name x p) (e::es) [] pos) (ay r ts):=lC hc hg hm hv he ha hnn hdb hpl
def lc{r:List Expr}(ha:ax X a ta)(hr:dy X r ts)(hs:starEach (a::r) X.env=(false,eval a X.env)::starEach r X.env:=by rfl):dy X (a::r) (ta::ts):=j0 hs ha hr
def l1(ha:ax X a ta)(hs:starEach [a] X.env=(false,eval a X.env)::starEach [] X.env:=by rfl):dy X [a] [ta]:=j0 hs ha pX
def iZ{cm:Bool}(hr:RoomG cm j X.A)(ha:ax X a ta)(hb:ax X b tb)(hs:e_ b:=by exact fun _ _=>rfl):ax X (.Subscript a b pos) (aF bh ta tb):=rD (sG (qr hr)) ha hb hs
def kD{cm:Bool}(hr:RoomG cm j X.A)(ha:ax X a ta)(hb:ax X b tb):jd X (.Compare a [.Eq] [b] pos) (cY (aF (dC false) ta tb)):=fR (l9 (f8 hr)) ha hb (cw _)
def rP{cm:Bool}(hr:RoomG cm j X.A)(ha:ax X a ta)(hb:ax X b tb):jd X (.Compare a [.NotEq] [b] pos) (cY (aF (dC true) ta tb)):=fR (qb (f8 hr)) ha hb (cw _)
def s4(i:Nat){pos':Pos}(nd:X.N.Nodup)(he:ax X e te)(hi:X.N[i]?=some x:=by rfl)(hx:lZ X.env.scope x:=by first|exact Or.inl rfl|exact Or.inr rfl)(hs:swapsWith e (some (.Name x pos')) pos.line X.env=pure false:=by rfl)
  (hf:X.fn x=true\/X.env.scope.names.lookup x=some .local:=by first|exact .inl rfl|exact .inr rfl|assumption):fA X (.Assign [.Name x pos'] e pos) (aS i te):=qi nd hi hx he hs hf
def gn(i:Nat)(nd:X.N.Nodup)(hi:X.N[i]?=some x:=by rfl)(hx:lZ X.env.scope x:=by first|exact Or.inl rfl|exact Or.inr rfl)(hf:X.fn x=true\/X.env.scope.names.lookup x=some .local:=by first|exact .inl rfl|exact .inr rfl|assumption):j8 X (.Name x pos) (.n i):=sJ i nd hi hx hf
end
structure qR (T:String) (name:Str) (id:String):Prop where
 pa:PlainAttrs T
 slot:Slot T name id
 ty:typeOf (.builtin id)=pure (.type "method_descriptor")
section
variable {X:Cx} {e o:Expr} {es:List Expr} {to:ap} {ts:List ap} {name:Str} {T id:String} {p pos apos cpos:Pos} {r:l_}
def n6:qR "list" "pop" "list.pop":=⟨PySem.F.plainAttrs_list,PySem.F.slot_list_pop,PySem.F.type_list_pop⟩
def lQ:qR "str" "join" "str.join":=⟨PySem.F.plainAttrs_str,PySem.F.slot_str_join,PySem.F.type_str_join⟩
def sQ(k:qR T name id)(hm:oU X id r)(ho:ax X o to)(ha:dy X (e::es) ts)(hs:starEach (e::es) X.env=(false,eval e X.env)::starEach es X.env:=by rfl)
  (hbase:attributeBase o name X.env (eval o X.env)=eval o X.env:=by rfl)
  (hfew:((backTo cpos (starEach (e::es) X.env)).all (fun x=>!x.1)&&(backToKw cpos (keywordEach [] X.env)).all (fun x=>x.1.isSome)
   && decide ((e::es).length+([]:List Keyword).length+(if ([]:List Keyword).isEmpty then 0 else 1) < 30))=true:=by rfl)
  (hline:(apos.endLine == cpos.line)=true:=by rfl) (hplain:(backTo cpos (starEach es X.env)).any (·.1)=false:=by rfl):ax X (.Call (.Attribute o name apos) (e::es) [] cpos) (lD T r to ts):=rE k.pa k.slot k.ty hm hs ho ha hbase hfew hline hplain
def rQ(k:qR T name id)(hm:oU X id r)(ho:ax X o to)
  (hbase:attributeBase o name X.env (eval o X.env)=eval o X.env:=by rfl) (hline:(apos.endLine == cpos.line)=true:=by rfl):ax X (.Call (.Attribute o name apos) [] [] cpos) (lD T r to []):=qg k.pa k.slot k.ty hm ho hbase hline
end
section
variable {X:Cx} {tg iter elt:Expr} {ifs:List Expr} {scope:Scope} {pos:Pos} {ti:je} {g:Tg} {tc:dv} {te:ap}
def rR(fs:Vs)(own:Nat)(fr:List Nat)(N:Vs)(hi:ma X tg iter ti)(hg:∀B,j8 (X.tT N scope fs B) tg g)(hf:∀B,nP (X.tT N scope fs B) ifs tc)(he:∀B,ax (X.tT N scope fs B) elt te)
  (vE:g.under own=true:=by rfl) (hc:X.calm=true:=by rfl) (hclos:closureFor scope X.env=pure (aC X.env fs):=by rfl) (hcell:∀y∈scope.names,y.2 ≠ .cell:=by decide +kernel) (hkind:scope.kind = .function:=by rfl)
  (hnames:∀x∈scope.names,x.2 = .local->scope.names.lookup x.1=some .local:=by decide +kernel) (hcl:aD X.env fs:=by repeat' first|exact trivial|exact⟨_,rfl⟩|constructor) (hhas:hasB (relabel scope X.env).names (aC X.env fs)=true:=by rfl)
  (hlen:N.length=own+fr.length:=by rfl) (hN:(N.drop own).map some=fr.map (fun j=>X.N[j]?):=by rfl) (hF:tH X.env scope (aC X.env fs) (N.drop own):=by repeat' first|exact trivial|exact .inl rfl|exact .inr rfl|exact rfl|apply And.intro)
  (hs:∀x,foldedSetIterable iter X.env x=pure x:=by intro _;rfl):ax X (.ListComp elt [⟨tg,iter,ifs,0⟩] scope pos) (bi ti g tc te own fr):=nQ fs own fr N vE hc hclos hcell hkind hnames hcl hhas hlen hN hF hi hg hf he hs
def sR(fs:Vs)(own:Nat)(fr:List Nat)(N:Vs)(i:Nat){y:Str}{py spos:Pos}(hX:X.N.Nodup)(hi:ma X tg iter ti)(hg:∀B,j8 (X.tT N scope fs B) tg g)(hf:∀B,nP (X.tT N scope fs B) ifs tc)(he:∀B,ax (X.tT N scope fs B) elt te)
  (hix:X.N[i]?=some y:=by rfl) (hy:X.env.scope.names.lookup y=some .local:=by rfl) (hsw:swapsWith (.ListComp elt [⟨tg,iter,ifs,0⟩] scope pos) (some (.Name y py)) spos.line X.env=pure true:=by rfl)
  (vE:g.under own=true:=by rfl) (hc:X.calm=true:=by rfl) (hclos:closureFor scope X.env=pure (aC X.env fs):=by rfl) (hcell:∀y∈scope.names,y.2 ≠ .cell:=by decide +kernel) (hkind:scope.kind = .function:=by rfl)
  (hnames:∀x∈scope.names,x.2 = .local->scope.names.lookup x.1=some .local:=by decide +kernel) (hcl:aD X.env fs:=by repeat' first|exact trivial|exact⟨_,rfl⟩|constructor) (hhas:hasB (relabel scope X.env).names (aC X.env fs)=true:=by rfl)
  (hlen:N.length=own+fr.length:=by rfl) (hN:(N.drop own).map some=fr.map (fun j=>X.N[j]?):=by rfl) (hF:tH X.env scope (aC X.env fs) (N.drop own):=by repeat' first|exact trivial|exact .inl rfl|exact .inr rfl|exact rfl|apply And.intro)
  (hs:∀x,foldedSetIterable iter X.env x=pure x:=by intro _;rfl):fA X (.Assign [.Name y py] (.ListComp elt [⟨tg,iter,ifs,0⟩] scope pos) spos) (aS i (bi ti g tc te own fr)):=nR fs own fr N hX hix hy hsw vE hc hclos hcell hkind hnames hcl hhas hlen hN hF hi hg hf he hs
end
structure mf (P:Program) (w:World) (K:Vo) (mg:Vr) (base:Heap) (x:Str) (ks:Vs):Prop where
 ex:∃qual st ps C f fd,nY K mg x qual st ps ks C f fd/\eZ P w K mg base fi 1 f fd ps (b0 K C ks)/\ps.length=ks.length+1
structure n9 (K:Vo) (mg:Vr) (x q:Str) (st:Stmt) (ps ks:Vs):Prop where
 ex:∃C f fd,nY K mg x q st ps ks C f fd
structure rT (K:Vo) (mg:Vr) (x:Str) (cs:Vs):Prop where
 ex:∃D,mg x=some (.ref D)/\nu K D/\vk K D cs
structure kE (K:Vo) (mg:Vr) (x:Str):Prop where
 ex:∃C,mg x=some (.ref C)/\ClsN K x C
section
variable {P:Program} {w:World} {K:Vo} {mg:Vr} {base:Heap}
def rU{x q k1:Str}{st:Stmt}{ps:Vs}(N:Vs)(h:n9 K mg x q st ps [k1])(hp:ps.length=2)
  (hb:∀(f:Addr) (cdv:Value) (A:Around) (outer:List Env) (s:Shared) (H:Hp) (E:XK),uS (fJ fi P w K mg base N q (ae st) f cdv A outer s H E).v7 (aq st) (jU K (b8 0) (b8 1) k1))
  (S:aJ N ps (ae st):=by exact⟨rfl,rfl,rfl,by decide +kernel,rfl,by decide +kernel,by decide +kernel⟩):mf P w K mg base x [k1]:=by
 obtain⟨C,f,fd,T⟩:=h.ex
 exact⟨q,st,ps,C,f,fd,T,pV T.F S hp (hb f),hp⟩
def sS{x q k1 k2:Str}{st:Stmt}{ps:Vs}(N:Vs)(h:n9 K mg x q st ps [k1,k2])(hp:ps.length=3)(hk:k1≠k2)
  (hb:∀(f:Addr) (cdv:Value) (A:Around) (outer:List Env) (s:Shared) (H:Hp) (E:XK),uS (fJ fi P w K mg base N q (ae st) f cdv A outer s H E).v7 (aq st) (mz (jU K (b8 0) (b8 1) k1) (nl K (b8 0) (b8 2) k2)))
  (S:aJ N ps (ae st):=by exact⟨rfl,rfl,rfl,by decide +kernel,rfl,by decide +kernel,by decide +kernel⟩):mf P w K mg base x [k1,k2]:=by
 obtain⟨C,f,fd,T⟩:=h.ex
 exact⟨q,st,ps,C,f,fd,T,pW T.F S hp hk (hb f),hp⟩
end
section
variable {X:Cx} {e:Expr} {es:List Expr} {ts:List ap} {x:Str} {p pos cpos:Pos} {ks:Vs} {j:Nat}
def qS(T:mf X.prog X.w X.K X.mg X.base x ks)(hr:cz j X.A)(ha:dy X (e::es) ts)(hj:2<=j:=by omega)(uv:X.calm=true:=by rfl)(hg:Gl X x:=by rfl)(he:starEach (e::es) X.env=(false,eval e X.env)::starEach es X.env:=by rfl)
  (hl:ts.length=ks.length:=by rfl) (hks:ks.length<=1000:=by exact zT rfl) (hdb:(x == ("__debug__":Str))=false:=by decide) (hpl:(backTo cpos (starEach es X.env)).any (·.1)=false:=by rfl) :
  fA X (.Raise (some (.Call (.Name x p) (e::es) [] cpos)) none pos) (bq x ks ts):=by
 obtain⟨qual,st,ps,C,f,fd,T,F,hp⟩:=T.ex
 exact lL T F hp (hr.mono hj) uv hg he ha hl hks hdb hpl
def ip(h:kE X.K X.mg x)(hg:Gl X x:=by rfl)(hd:(x == ("__debug__":Str))=false:=by decide):ax X (.Name x pos) (c3 (.cls x)):=let ⟨_,h1,h2⟩:=h.ex;qu hg h1 h2 hd
def sT{n:String}(hm:X.mg x=none)(hg:Gl X x:=by rfl)(hv:bootBuiltins x=some (.type n):=by decide +kernel)(hn:x ≠ "__name__":=by decide)(hd:(x == ("__debug__":Str))=false:=by decide):ax X (.Name x pos) (c3 (.ty n)):=rB hg hm hv hn hd
end
section
variable {X:Cx} {body suite:List Stmt} {b₀:Stmt} {n x:Str} {np hpos pos:Pos} {tb th:aY} {cs:Vs}
def sU(i:Nat)(T:rT X.K X.mg x cs)(hN:X.N.Nodup)(hb:∀E pins,PassesOwn (model X.prog X.w) X.A X.env E->bE (X.tr E pins) body tb)(hs:∀a,bE (X.inH a) (b₀::suite) th)
  (hst:X.stack=X.env::X.outer:=by rfl) (vV:X.env.frame=some X.env.locals:=by rfl) (hi:X.N[i]?=some n:=by rfl) (hk:X.env.scope.names.lookup n=some .local:=by rfl) (hg:Gl X x:=by rfl) (hdb:(x == ("__debug__":Str))=false:=by decide) :
  fA X (.Try body [.ExceptHandler (some (.Name x np)) (some n) (b₀::suite) hpos] [] [] pos) (lM cs i tb th):=by
 obtain⟨D,h1,h2,h3⟩:=T.ex
 exact qt hst vV hN hi hk hg h1 h2 h3 hb hs hdb
end
end L3
namespace CX
open PySem L2 L3
end CX
namespace L2
open PySem PySem.Spec PyProof.Rows
end L2
namespace L3
open PySem L2
end L3
namespace CY
open PySem L2 L3
end CY
namespace L3
open PySem L2
section
variable {X:Cx}
def f_:ij:=fun ps S Q=>match ps with
 |[.int i]=>i.natAbs.log2 < 1920/\Q (.str (toString i)) S
 |[.str z]=>(reprText z).length<=sizeLine/\Q (.str (reprText z)) S
 |ps=>j5 ps S Q
def kg(hu:X.A.units+150 < cLine)(hg:X.A.guards=some []):bT X (.builtin "repr") f_:=⟨fun pins s σ H xs us Q I r ⟨ps,S,Q3,rp,rS,q,k⟩=>by
 unfold f_ at q
 split at q
 ·rename_i i
  cases rp with
  |cons a rr=>
   cases rr
   cases r with
   |cons r1 r2=>
    cases r2;cases a
    obtain⟨t,rfl⟩:=r1
    exact P.repr_of_int q.1 ⟨.str _,H,I.kept (t':=s.toks+1) (h':=s.heap) (fun _ _ e=>e),⟨_,rfl⟩,k _ S _ H q.2 (.str _) rS .refl⟩
 ·rename_i z
  cases rp with
  |cons a rr=>
   cases rr
   cases r with
   |cons r1 r2=>
    cases r2;cases a
    obtain⟨t,rfl⟩:=r1
    exact P.repr_of_str ⟨.str _,H,I.kept (t':=s.toks+1) (h':=s.heap) (fun _ _ e=>e),⟨_,rfl⟩,k _ S _ H q.2 (.str _) rS .refl⟩ q.1
 ·exact(nJ hu hg).ok pins s σ H xs us Q I r ⟨ps,S,Q3,rp,rS,q,k⟩⟩
end
end L3
namespace Xc
open PySem PySem.W PySem.Calls PyProof.Rows Builtin Builtin.ObjectAttr
section
variable {prog:Program} {w:World} {A:Around} {K:Frag} {C f:Addr} {E:Vq} {h:Heap} {g:Array GenState} {d:Drawn} {t:Nat} {os:OsState}
def i0{Q:Vq}(X:K.In h)(q:bD K C=true)(hi:findIn K (.ref C) "__init__" = some (some (.builtin "ValueError.__init__")))
  (hq:∀h' a,(∀b o,h.get? b=some o->h'.get? b=some o)->h'.get? (h.objs.size+1)=some (aH C a)->Q (.ref (h.objs.size+1)) ⟨h',g,d,t,os⟩) :
  wpAny (model prog w) A (call (.ref C) []) Q E ⟨h,g,d,t,os⟩:=by
 obtain⟨nm,qn,N,bs,bm,sn,sub,ab,col,dd,k0,k1,k2,k3,k5,hK,T⟩:=fk X q
 have hC:=X _ _ hK
 have F0:=Az
 have f1:=tc_lookup
 have f2:=tc_bind (.ref C)
 have hT:(⟨h,g,d,t,os⟩:Shared).TypeIs (.ref C) "type":=⟨_,hC,rfl⟩
 refine AM (codeAny_of_tree ?_)
 show wpAny _ _ (callAny (.ref C) _) _ _ _
 repeat (any_goals (first|assumption|with_reducible refine Ad hC ?_|wp_step))
 refine⟨rfl,?_⟩
 refine codeAny_call_builtin_at (AN _ (by decide +kernel)) entry_typeCall (wpAny_check_type_call_sub hC ?_)
 repeat (first|with_reducible refine Ad hC ?_|with_reducible refine wpAny_madeBy_exc hC ?_|wp_step)
 refine codeAny_call_builtin_code (AN _ F0.quiet) (wpAny_check_new_subU F0 F0.hasB T hC ?_)
 refine codeAny_exc_new_subU F0 F0.hasB F0 T hC ?_ (by size_fits)
 show wpAny _ _ _ _ _ _
 have k:∀b o,h.get? b=some o->((h.push (aQ [])).push (aH C h.objs.size)).get? b=some o:=fun b o e=>zp _ (zp _ e)
 have hx:((h.push (aQ [])).push (aH C h.objs.size)).get? (h.objs.size+1)=some { cls:=.ref C,data:=.fields #[.ref h.objs.size,.none,.none,.none,.bool false,.none] }:=by heap_get
 have xI:=k _ _ hC
 have T₁:=T.keeps k
 have hcC:(Value.ref C::bm).contains (.ref C)=true:=by simp
 have i1:=(A9 (M:=model prog w) X hi).keeps k
 show wpAny (model prog w) (A.under (.builtin "type.__call__" ⟨.ref C::[],[]⟩)) _ _ _ ⟨(h.push (aQ [])).push (aH C h.objs.size),g,d,t,os⟩
 unfold isInstance
 repeat (first|with_reducible refine Ad hx ?_|(with_reducible refine wpAny_isSubtype_exc xI ?_;rw[hcC])|wp_step)
 show wpAny _ _ (typeLookup (.ref C) _) _ _ _
 refine i1.here ?_
 refine zZ (zo (wpAny_of_eq (F0.init.bind _) ?_))
 refine zo (AM (A5 F0.init.plain F0.initEntry (wpAny_check_init_subU F0 T₁ xI hx rfl ?_)))
 wp_walk
 refine hq _ (h.objs.size+2) (fun b o hb=>?_) ?_
 ·rw[zB _ _ (AU (Nat.lt_succ_of_lt (zu hb)))]
  exact zp _ (zp _ (zp _ hb))
 ·rw[zS _ (zp _ hx) rfl]
  simp only[Aa]
  rfl
end
end Xc
namespace L2
open PySem PySem.Spec PyProof.Rows Xc
section
variable {cm:Bool} {X:Cx} {f C:Addr} {fd:FuncData} {ps ks:Vs} {x:Str} {p cpos pos:Pos} {e:Expr} {es:List Expr} {t:TA}
def rV(C:Addr)(ks:Vs)(t:TA):TE:=fun σ H Q=>t σ H fun vs H1=>vs.length=ks.length/\∀a dx oe od,H1 a=none->H1 dx=none->a≠dx->oe.cls = .ref C->oe.dict=some dx->(∀c,oe.data ≠ .cls c)->Q (.ref a) (upd (upd H1 dx (.frz od (.ext (XD dx (ks.zip vs))))) a (.frz oe (.ext fun _=>True)))
def n_(F:bz cm X.prog X.w X.K X.mg X.base fi 1 f fd ps (b0 X.K C ks))(hps:ps.length=ks.length+1)(hks:ks.length<=1000)(ek:ExcK X.K C)(en:∀k∈ks,NoAttr X.K C k)(hi:PySem.W.findIn X.K (.ref C) "__init__" = some (some (.ref f)))(hf:PySem.W.isFn X.K (.ref f)=true)(hkp:PySem.W.keepIn X.K (.ref C)=true)
  (hr:RoomG cm 2 X.A) (hg:Gl X x) (hm:X.mg x=some (.ref C)) (hb:Binds X.K fd ps []) (ha:PA X (e::es) t)
  (hdb:(x == ("__debug__":Str))=false:=by decide) (he:starEach (e::es) X.env=(false,eval e X.env)::starEach es X.env:=by rfl) (hpl:(backTo cpos (starEach es X.env)).any (·.1)=false:=by rfl) :
  PE X (.Call (.Name x p) (e::es) [] cpos) (rV C ks t):=by
 intro pins s σ H Q I h
 refine fQ F hps hks ek en hi hf hkp hr hg hm hb ha hdb he hpl I h fun a oe ws vs H1 dx od s' q d1 g1 g2 g3 g4 g5 g6 g7 I5 fp=>?_
 have na:a≠dx:=fun z=>by have h0:=fp.1;rw[z,ad]at h0;cases h0
 have h0:H1 a=none:=by have h0:=fp.1;rw[ac na]at h0;exact h0
 exact⟨.ref a,_,I5.u6 (o:=.frz oe (.ext fun _=>True)) fp ⟨g1,True.intro,⟨_,g1⟩,fun _ _ _ _=>True.intro⟩,rfl,q a dx oe od h0 d1 na g2 g3 fun c z=>by rw[g4]at z;cases z⟩
def eS{pins:Va}{s:Shared}{σ:St}{H:Hp}{R:Vq}(ek:ExcK X.K C)(hi:PySem.W.findIn X.K (.ref C) "__init__" = some (some (.builtin "ValueError.__init__")))(hkp:PySem.W.keepIn X.K (.ref C)=true)(hg:Gl X x)(hm:X.mg x=some (.ref C))(hdb:(x == ("__debug__":Str))=false)(I:Inv X pins σ H s)
  (q:∀a b s',s'.heap.get? a=some (aH C b)->Inv X pins σ H s'->tF X pins H a->R (.ref a) s'):wpAny (model X.prog X.w) X.A (eval (.Call (.Name x p) [] [] cpos) X.env) R X.xe s:=by
 refine zW (bO I hg hm ?_ hdb)
 refine PySem.W.callWith_K0 I.uR hkp ?_
 obtain⟨hp,g,d,tk,os⟩:=s
 refine i0 I.uR ek.ok hi fun h' b kp ob=>q _ b _ ob (I.kept (t':=tk) kp) (I.ut (AS _) (I.hok.fresh (AS _)))
def qv(C:Addr):TE:=fun σ H Q=>∀a oe,H a=none->oe.cls = .ref C->oe.dict=none->(∀c,oe.data ≠ .cls c)->Q (.ref a) (upd H a (.frz oe (.ext fun _=>True)))
def lR(ek:ExcK X.K C)(hi:PySem.W.findIn X.K (.ref C) "__init__" = some (some (.builtin "ValueError.__init__")))(hkp:PySem.W.keepIn X.K (.ref C)=true)(hg:Gl X x)(hm:X.mg x=some (.ref C))(hdb:(x == ("__debug__":Str))=false:=by decide):PE X (.Call (.Name x p) [] [] cpos) (qv C):=by
 intro pins s σ H Q I h
 refine eS ek hi hkp hg hm hdb I fun a b s' g1 I5 fp=>?_
 exact⟨.ref a,_,I5.u6 (o:=.frz (aH C b) (.ext fun _=>True)) fp ⟨g1,True.intro,⟨_,g1⟩,fun _ _ _ _=>True.intro⟩,rfl,h a (aH C b) fp.1 rfl rfl fun c z=>by cases z⟩
def lS(X:Cx)(C:Addr):TS:=fun D σ H=>∀pins,EX X pins σ (.ref C) none H
def i5(ek:ExcK X.K C)(hi:PySem.W.findIn X.K (.ref C) "__init__" = some (some (.builtin "ValueError.__init__")))(hkp:PySem.W.keepIn X.K (.ref C)=true)(uv:X.calm=true)(hg:Gl X x)(hm:X.mg x=some (.ref C))(hdb:(x == ("__debug__":Str))=false:=by decide) :
  PS X (.Raise (some (.Call (.Name x p) [] [] cpos)) none pos) (lS X C):=by
 intro pins s σ H D I h
 rw[arm_exec_Raise]
 refine zo (Au (eI (K:=X.K) (C:=C) ek.ok (I.ok.hd uv) (zo (eS ek hi hkp hg hm hdb I fun a b s' g1 I5 fp=>zo (Au (zq ?_))))))
 exact⟨a,_,_,rfl,I5.uR,g1,rfl,rfl,rfl,h pins s' a C none rfl rfl I5 ⟨_,_,⟨g1,rfl,.inl rfl⟩,rfl,rfl,fp,fun T z=>(by cases z),fun _=>rfl⟩⟩
end
end L2
namespace L3
open PySem L2 Xc
def fv(c:Str)(ks:Vs)(ts:List ap):ap:=fun σ S Q E=>aW ts σ S (fun ps S1=>Q (.exc c ks ps) S1) E
def cj(c:Str):aY:=fun D σ S=>D.ex (.exc c [] []) σ S
structure oY (K:Vo) (mg:Vr) (x:Str):Prop where
 ex:∃C,mg x=some (.ref C)/\ClsN K x C/\ExcK K C/\PySem.W.findIn K (.ref C) "__init__" = some (some (.builtin "ValueError.__init__"))/\PySem.W.keepIn K (.ref C)=true
section
variable {X:Cx} {e:Expr} {es:List Expr} {ts:List ap} {x:Str} {p pos cpos:Pos} {ks:Vs} {j:Nat}
def qT(T:mf X.prog X.w X.K X.mg X.base x ks)(hr:cz j X.A)(ha:dy X (e::es) ts)(hj:2<=j:=by omega)(hg:Gl X x:=by rfl)(he:starEach (e::es) X.env=(false,eval e X.env)::starEach es X.env:=by rfl)
  (hl:ts.length=ks.length:=by rfl) (hks:ks.length<=1000:=by exact zT rfl) (hdb:(x == ("__debug__":Str))=false:=by decide) (hpl:(backTo cpos (starEach es X.env)).any (·.1)=false:=by rfl) :
  ax X (.Call (.Name x p) (e::es) [] cpos) (fv x ks ts):=by
 obtain⟨qual,st,ps,C,f,fd,T,F,hp⟩:=T.ex
 exact⟨ai (n_ F hp hks T.ek T.en T.hi T.hf T.kp (hr.mono hj) hg T.m T.b ha.ok hdb he hpl) fun σ H Q ⟨σ3,S,Q3,E3,rσ,rS,h,xo,k⟩=>aE rσ rS h xo fun ps' S' vs H' hl' q rv t0 g=>
  ⟨by rw[rv.length,hl',hl],fun a dx oe od ha hdx na c1 c2 c3=>by
   have ha':upd H' dx (.frz od (.ext (XD dx (ks.zip vs)))) a=none:=by rw[ac na];exact ha
   exact k _ S' _ _ q (.exc T.cn ⟨oe,some dx,od,ad,c1,c2,c3,by show upd _ _ _ dx=_;rw[ac na.symm,ad]⟩ (rv.mono (.trans (.new hdx) (.new ha')))) ((t0.other hdx).other ha') (g.trans (.trans (.new hdx) (.new ha')))⟩⟩
def oa(T:oY X.K X.mg x)(hg:Gl X x:=by rfl)(hdb:(x == ("__debug__":Str))=false:=by decide):ax X (.Call (.Name x p) [] [] cpos) (c3 (.exc x [] [])):=by
 obtain⟨C,hm,cn,ek,hi,kp⟩:=T.ex
 exact⟨ai (lR ek hi kp hg hm hdb) fun σ H Q ⟨σ3,S,Q3,E3,rσ,rS,h,xo,k⟩ a oe ha c1 c2 c3=>
  k _ S _ _ h (.exc cn ⟨oe,none,oe,ad,c1,c2,c3,rfl⟩ .nil) (rS.other ha) (.new ha)⟩
def og(T:oY X.K X.mg x)(uv:X.calm=true:=by rfl)(hg:Gl X x:=by rfl)(hdb:(x == ("__debug__":Str))=false:=by decide):fA X (.Raise (some (.Call (.Name x p) [] [] cpos)) none pos) (cj x):=by
 obtain⟨C,hm,cn,ek,hi,kp⟩:=T.ex
 exact⟨aR (i5 ek hi kp uv hg hm hdb) fun D σ H ⟨σ3,S,D3,rσ,rS,h,xo,n,r,bk,ct⟩ pins s' a C' yo e3 e4 I xa=>by
  cases e3;cases e4
  exact xo x [] [] σ3 S _ pins σ s' a C none default [] h cn rfl rfl .nil rS rσ .refl I xa⟩
end
def kh{X:Cx}{a:Addr×Obj}{k:Nat}(hr:cz k X.A):pE k (X.inH a).A:=⟨fun z=>(by cases z),hr.dp,hr.un,hr.gd⟩
end L3
namespace Xc
open PySem PySem.W PySem.Calls PyProof.Rows Builtin
def d9:entryFor table "proto.unchain" = some Builtin.«proto.unchain»:=entryFor_of_tree (by kernel_rfl)
section
variable {prog:Program} {w:World} {A:Around} {E:Vq}
def gb{α:Type}{s:Shared}{e h:Addr}{oe oh:Obj}{vs hs:Vw}{Q:α->Shared->Prop}(hh:A.handled=some (.ref h))(he:s.heap.get? e=some oe)(hd:oe.data = .fields vs)(hsz:2 < vs.size)
  (hne:h≠e) (ho:s.heap.get? h=some oh) (xT:oh.data = .fields hs) (h2:hs[2]?=some .none)
  (hE:E (.ref e) { s with heap:=s.heap.update e (Obj.mapFields (·.setIfInBounds 2 (.ref h))) }):wpAny (model prog w) A (raiseNew (.ref e):Sem α) Q E s:=by
 unfold raiseNew
 refine zo (wpAny_handled ?_)
 rw[hh]
 dsimp only
 rw[if_pos (show(Value.ref h != Value.ref e)=true from by simpa using hne)]
 refine zo (zZ (runValue_entry d9 ?_))
 unfold Builtin.«proto.unchain»
 dsimp only
 refine zo (Ab ho xT h2 ?_)
 rw[if_pos (show((Value.none == Value.none)=true)from rfl)]
 refine zo (zq (zq ⟨.none,rfl,?_⟩))
 unfold updateField
 refine zo (zo (wpAny_load he ?_))
 rw[hd]
 dsimp only
 rw[if_pos hsz]
 exact wpAny_update he (wpAny_throw hE)
end
end Xc
namespace L2
open PySem PySem.Spec PyProof.Rows Xc
def dN{X:Cx}{pins:Va}{σ:St}{H:Hp}{s:Shared}{E:Vq}{it:Addr}{x left step:Int}{Q:Option Value->Shared->Prop}(I:Inv X pins σ H s)(hit:IsRangeIter s.heap it x left step)(hleft:left<=0)
  (hQ:∀h',Heap.ExtBut it s.heap h'->Q none { s with heap:=h' }):wpAny (model X.prog X.w) X.A (pyNext (.ref it)) Q E s:=by
 rcases I.hx with hh|⟨h,oh,hs,hh,hf,xT,h2⟩
 ·exact wpAny_pyNext_range_end hh hit hleft hQ
 have ho:s.heap.get? h=some oh:=(I.hok h _ hf).1
 have hT:s.TypeIs (.ref it) "range_iterator":=⟨_,hit,rfl⟩
 unfold pyNext
 refine zo (wpAny_attempt (AR (name:=Str.ofString "__next__") hT F.slot_range_iterator_next
  (wpAny_call_entry F.slot_range_iterator_next hT F.entry_range_iterator_next ?_ (F.args_range_iterator_next_1 _))))
 show wpAny _ _ (field (.ref it) 0 >>= _) _ _ s
 refine zo (Ab hit rfl (x:=rawInt x) rfl ?_)
 show wpAny _ _ (field (.ref it) 1 >>= _) _ _ s
 refine zo (Ab hit rfl (x:=rawInt left) rfl ?_)
 show wpAny _ _ (field (.ref it) 2 >>= _) _ _ s
 refine zo (Ab hit rfl (x:=rawInt step) rfl ?_)
 show wpAny _ _ (if left<=0 then _ else _) _ _ s
 rw[if_pos hleft]
 refine zo (wpAny_rule ?_)
 refine zo ?_
 show wpAny _ _ (newExc (.type "StopIteration") [] >>= _) _ _ _
 refine zo ?_
 simp only[newExc,newTuple]
 refine zo (z4 ?_ (by size_fits))
 refine zo (m:=firstArgMember _ _) (wpAny_of_eq (a:=Value.none) (by first|rfl|(simp only[firstArgMember];rfl)) ?_)
 refine z4 ?_ (by size_fits)
 have hlt:=zu ho
 refine gb (A:=X.A.in1) (h:=h) hh (zz _ rfl) rfl (by rw[Array.size_append];exact zv (show 2 < 6 by decide) (Nat.le_add_right _ _)) (fun z=>?_) (zp _ (zp _ ho)) xT h2 ?_
 ·exact absurd hlt (Nat.not_lt.mpr (by rw[z];exact Ak (by rw[Aa];exact Bg _)))
 refine zo (wpAny_isInstance (T:="StopIteration") (b:=true) ⟨_,zS _ (zz _ rfl) rfl,rfl⟩ isSubtype_stop ?_)
 refine zq (hQ _ fun b o hb e=>?_)
 have hl:=zu e
 exact(zB _ _ (fun z=>absurd hl (Nat.not_lt.mpr (by rw[<-z];exact Ak (by rw[Aa];exact Bg _))))).trans (zp _ (zp _ e))
abbrev Cx.All(X:Cx):Prop:=True
def gc{P:Program}{w:World}{K:Vo}{tg:Expr}(it:Addr)(lo:Int)(n:Nat):fH Cx.All P w K tg (oO lo n) [it] it (fun i h=>IsRangeIter h it (lo+(i:Nat) * 1) ((n:Int) - (i:Nat)) 1) where
 mem:=by simp
 obj:=fun i h st b hb=>by
  have e:b=it:=by simpa using hb
  subst e
  exact⟨_,st,fun v z=>by
   have z':Data.fields _=Data.cell v:=z
   cases z'⟩
 keep:=fun i h h' st k=>k it (by simp) _ st
 item:=by
  intro X hP hw hK hc i pins s σ H E I hf st hg
  subst hP hw hK
  obtain⟨f0,f1,f2,f3,f4,f5⟩:=hf it (by simp)
  have hg':i < n:=hg
  refine wpAny_pyNext_range_item st (by omega) fun h' st' sb=>?_
  have I1:Inv X pins σ H { s with heap:=h',toks:=s.toks+1 }:=I.turned (fun b o hb e=>(sb.2 b hb).trans e) f0 f1 f3 f4 f5 (by have:=I.tk;omega)
  refine⟨_,rfl,eg (s:={ s with heap:=h',toks:=s.toks+1 }) (n:="range_iterator") st' rfl rfl (by decide) ⟨.int (lo+i),H,I1,⟨s.toks,?_⟩,⟨rfl,rfl⟩,?_,fun b hb=>(hf b hb).1⟩⟩
  ·rw[Int.mul_one]
  ·have e1:lo+((i:Nat):Int) * 1+1=lo+((i+1:Nat):Int) * 1:=by omega
   have e2:(n:Int) - ((i:Nat):Int) - 1=(n:Int) - ((i+1:Nat):Int):=by omega
   rw[e1,e2]at st'
   exact st'
 done:=by
  intro X hP hw hK hc i pins s σ H E I hf st hg
  subst hP hw hK
  obtain⟨f0,f1,f2,f3,f4,f5⟩:=hf it (by simp)
  exact dN I st (by have:n<=i:=hg;omega) fun h' eb=>⟨rfl,I.turned (t':=s.toks) (fun b o hb e=>eb b o hb e) f0 f1 f3 f4 f5⟩
 self:=fun _ _ _ _ _ st h=>wpAny_pyIter_rangeiter st h
section
variable {X:Cx} {tg:Expr}
def i6{pins:Va}{σ:St}{H:Hp}{s:Shared}{R:It->Hp->Prop}{E:Vq}{lo hi:Int}{t u v:Tok}{tk:Nat}(I:Inv X pins σ H s)(ht:1<=tk)(h1:-(2 ^ 62)<=lo)(h2:lo < 2 ^ 62)(h3:-(2 ^ 62)<=hi)(h4:hi < 2 ^ 62)
  (q:R (oO lo (hi - lo).toNat) H):wpAny (model X.prog X.w) X.A (pyIter (.ref s.heap.objs.size)) (mH Cx.All X pins σ tg R) E { s with heap:=s.heap.push { cls:=.type "range",data:=.fields #[.int lo t,.int hi u,.int 1 v] },toks:=tk }:=by
 refine wpAny_pyIter_range (IsRange.new ..) (small_one h1 h2 h3 h4) ?_
 have I1:Inv X pins σ H { s with heap:=s.heap.push { cls:=.type "range",data:=.fields #[.int lo t,.int hi u,.int 1 v] },toks:=tk }:=I.kept fun b o e=>zp _ e
 refine⟨(s.heap.push { cls:=.type "range",data:=.fields #[.int lo t,.int hi u,.int 1 v] }).objs.size,[(s.heap.push { cls:=.type "range",data:=.fields #[.int lo t,.int hi u,.int 1 v] }).objs.size],_,_,H,rfl,
  I1.kept (t':=tk) fun b o e=>zp _ e,gc _ lo (hi - lo).toNat,?_,fun b hb=>?_,q⟩
 ·have e1:lo+((0:Nat):Int) * 1=lo:=by simp
  have e2:(((hi - lo).toNat:Nat):Int) - ((0:Nat):Int)=Builtin.Range.rangeSize lo hi 1:=by rw[rangeSize_one];split<;>omega
  show IsRangeIter _ _ (lo+((0:Nat):Int) * 1) ((((hi - lo).toNat:Nat):Int) - ((0:Nat):Int)) 1
  rw[e1,e2]
  exact zz _ rfl
 ·have e:b=(s.heap.push { cls:=.type "range",data:=.fields #[.int lo t,.int hi u,.int 1 v] }).objs.size:=by simpa using hb
  subst e
  exact I1.ut (zw _) (I1.hok.fresh (zw _))
def gS{a:Expr}{ta:TA}{p pos:Pos}(hg:Gl X "range")(hm:X.mg "range" = none)(ha:PA X [a] ta)(hs:starEach [a] X.env=[(false,eval a X.env)]:=by rfl):oN Cx.All X tg (.Call (.Name "range" p) [a] [] pos) (l3 ta):=by
 intro pins s σ H R I h
 refine Call_ (bW I hg hm boot_range (zY (aB (ha pos pins s σ H _ I h) fun us s1 ⟨vs,H1,I1,r1,q1⟩=>?_) hs rfl))
 obtain⟨j,e,q1,q2,q⟩:=q1
 subst e
 cases r1 with
 |cons r rr=>
  cases rr
  obtain⟨t,rfl⟩:=r
  exact call_range_1 (i6 I1 (by walk_at "t") (by omega) (by omega) q1 q2 (by simpa using q))
end
end L2
namespace L3
open PySem L2
structure qw (X:Cx) (tg iter:Expr) (t:je):Prop where
 ok:oN Cx.All X tg iter (LI X t)
def lT{Cc:Cx->Prop}{X:Cx}{tg iter:Expr}{t t':TI}(h:oN Cc X tg iter t)(k:∀σ H R,t' σ H R->t σ H R):oN Cc X tg iter t':=fun pins s σ H R I q=>h pins s σ H R I (k σ H R q)
section
variable {X:Cx} {a tg iter elt:Expr} {ta:ap} {p pos:Pos} {ifs:List Expr} {scope:Scope} {ti:je} {g:Tg} {tc:dv} {te:ap}
def i7(hs:starEach [a] X.env=[(false,eval a X.env)])(hg:Gl X "range")(hm:X.mg "range" = none)(ha:dy X [a] [ta]):qw X tg (.Call (.Name "range" p) [a] [] pos) (fW ta):=
 ⟨lT (gS hg hm ha.ok hs) fun σ H R ⟨σ3,S,R3,E3,rσ,rS,h,xo,k⟩=>⟨σ3,S,_,E3,rσ,rS,h,xo,fun v S1 v' H1 h1 rv tE g1=>by
  split at h1
  ·cases rv
   exact⟨_,rfl,h1.1,h1.2.1,k _ S1 _ H1 h1.2.2 eN tE g1⟩
  ·exact h1.elim⟩⟩
def rW(fs:Vs)(own:Nat)(fr:List Nat)(N:Vs)(hi:qw X tg iter ti)(hg:∀B,j8 (X.tT N scope fs B) tg g)(hf:∀B,nP (X.tT N scope fs B) ifs tc)(he:∀B,ax (X.tT N scope fs B) elt te)
  (vE:g.under own=true:=by rfl) (hclos:closureFor scope X.env=pure (aC X.env fs):=by rfl) (hcell:∀y∈scope.names,y.2 ≠ .cell:=by decide +kernel) (hkind:scope.kind = .function:=by rfl)
  (hnames:∀x∈scope.names,x.2 = .local->scope.names.lookup x.1=some .local:=by decide +kernel) (hcl:aD X.env fs:=by repeat' first|exact trivial|exact⟨_,rfl⟩|constructor) (hhas:hasB (relabel scope X.env).names (aC X.env fs)=true:=by rfl)
  (hlen:N.length=own+fr.length:=by rfl) (hN:(N.drop own).map some=fr.map (fun j=>X.N[j]?):=by rfl) (hF:tH X.env scope (aC X.env fs) (N.drop own):=by repeat' first|exact trivial|exact .inl rfl|exact .inr rfl|exact rfl|apply And.intro)
  (hs:∀x,foldedSetIterable iter X.env x=pure x:=by intro _;rfl):ax X (.ListComp elt [⟨tg,iter,ifs,0⟩] scope pos) (bi ti g tc te own fr):=
 ⟨ai (h_ fs own fr N (Cc:=Cx.All) (fun _=>trivial) hclos hcell hkind hnames hcl hhas hlen hN hF hi.ok (fun B=>(hg B).ok)
  (fun B=>ft (hf B).ok fun σ H Q ⟨σ3,S,Q3,rσ,rS,h,k⟩=>⟨σ3,S,Q3,df,rσ,rS,h,.no,k⟩) (fun B=>ai (he B).ok fun σ H Q ⟨σ3,S,Q3,rσ,rS,h,k⟩=>⟨σ3,S,Q3,df,rσ,rS,h,.no,k⟩) hs) fun _ _ _=>cJ vE ⟨0,X.s₀,X.H₀,[],[]⟩⟩
end
end L3
namespace L2
open PySem PySem.Spec PyProof.Rows Xc
def Inv.wd{X:Cx}{pins:Va}{σ:St}{H:Hp}{s:Shared}{a:Addr}{kvs:List (aA×V)}(I:Inv X pins σ H s)(e:H a=some (.dK kvs)):∃o,Inv X pins σ (upd H a (.frz o (.dK kvs))) s:=by
 obtain⟨z,hd,vs,r,dd⟩:=jz I.hok e
 obtain⟨o,es,ep,ho,hr⟩:=id dd
 refine⟨o,?_⟩
 have J:=I.write (x:=a) (e:=a) (o:=.frz o (.dK kvs)) (h':=s.heap) (t':=s.toks) (by rw[e];exact True.intro) (.inl rfl) (fun _ _ _ z=>z) ⟨o,ho⟩ ⟨ho,⟨z,hd,vs,r,dd⟩⟩
 exact J
def qx(t:TE):TE:=fun σ H Q=>t σ H fun v H1=>∃a kvs,v = .ref a/\H1 a=some (.dK kvs)/\∀o,Q v (upd H1 a (.frz o (.dK kvs)))
def iq{X:Cx}{e:Expr}{t:TE}(h:PE X e t):PE X e (qx t):=fun pins s σ H Q I q=>
 zL (h pins s σ H _ I q) (fun u s1 ⟨v,H1,I1,r,a,kvs,ev,e,k⟩=>let ⟨o,J⟩:=I1.wd e;⟨v,_,J,r,k o⟩) fun _ _ x=>x
def lU{k:aA}{u:Value}(h:dh k u=true):RelV (kV k) u:=by
 rcases ar h with⟨i,t,rfl,rfl⟩|⟨x,t,rfl,rfl⟩<;>exact⟨t,rfl⟩
def mh{kvs:List (aA×V)}{vs:List (aA×Value)}(r:KV kvs vs):kvs.length=vs.length/\∀(i:Nat) (p:aA×V),kvs[i]?=some p->∃q,vs[i]?=some q/\q.1=p.1:=by
 unfold KV at r
 induction r with
 |nil=>exact⟨rfl,fun i p h=>by simp at h⟩
 |@cons p q ps qs h t ih=>
  refine⟨by rw[zy,zy,ih.1],fun i p' e=>?_⟩
  cases i with
  |zero=>simp at e;subst e;exact⟨q,rfl,h.1.symm⟩
  |succ i=>simpa using ih.2 i p' (by simpa using e)
noncomputable def qy(a:Addr)(o:Obj)(kvs:List (aA×V)):It:=⟨fun i H=>H a=some (.frz o (.dK kvs))/\i < kvs.length,fun i H x H'=>H'=H/\∃p,kvs[i]?=some p/\x=kV p.1,fun i H=>H a=some (.frz o (.dK kvs))/\kvs.length<=i⟩
def i8{P:Program}{w:World}{K:Vo}{tg:Expr}(a it:Addr)(o:Obj)(kvs:List (aA×V))(vs:List (aA×Value))(ep:Nat)(rk:KV kvs vs)(hd:∀h:Heap,h.get? a=some o->h.DictAt (aw P w) a vs ep) :
  jk P w K tg (qy a o kvs) [it] it (fun i h=>h.IsKeyIter it a i vs.length ep) where
 mem:=by simp
 obj:=fun i h st b hb=>by
  have e:b=it:=by simpa using hb
  subst e
  obtain⟨o,e,c,d⟩:=st
  exact⟨o,e,fun v z=>by rw[d]at z;cases z⟩
 keep:=fun i h h' st k=>st.at fun o e=>k it (by simp) o e
 item:=by
  intro X hP hw hK hc i pins s σ H E I hf st ⟨hq,hi⟩
  subst hP hw hK
  obtain⟨f0,f1,f2,f3,f4,f5⟩:=hf it (by simp)
  have ho:s.heap.get? a=some o:=(I.hok a _ hq).1
  obtain⟨p,hp⟩:∃p,kvs[i]?=some p:=⟨kvs[i],by simp[hi]⟩
  obtain⟨⟨k,x⟩,hx,ek⟩:=(mh rk).2 i p hp
  dsimp only at ek
  subst ek
  refine wpAny_pyNext_dict_item st (hd _ ho) hx fun key h' hkey st' sb=>?_
  have I1:Inv X pins σ H { s with heap:=h' }:=I.turned (t':=s.toks) (fun b o hb e=>(sb.2 b hb).trans e) f0 f1 f3 f4 f5
  obtain⟨o2,e2,c2,d2⟩:=id st'
  exact⟨key,rfl,eg (s:={ s with heap:=h' }) e2 c2 d2 (by decide) ⟨kV p.1,H,I1,lU hkey,⟨rfl,p,hp,rfl⟩,st',fun b hb=>(hf b hb).1⟩⟩
 done:=by
  intro X hP hw hK hc i pins s σ H E I hf st ⟨hq,hi⟩
  subst hP hw hK
  obtain⟨f0,f1,f2,f3,f4,f5⟩:=hf it (by simp)
  have ho:s.heap.get? a=some o:=(I.hok a _ hq).1
  exact wpAny_pyNext_dict_end (I.ok.hd hc) st (hd _ ho) (z7 (by rw[<-(mh rk).1];exact hi)) fun h' eb=>⟨rfl,I.turned (t':=s.toks) (fun b o hb e=>eb b o hb e) f0 f1 f3 f4 f5⟩
 self:=fun _ _ _ _ _ st h=>wpAny_pyIter_keyiter st h
def qz(tl:TE):TI:=fun σ H R=>tl σ H fun x H1=>∃a o kvs,x = .ref a/\H1 a=some (.frz o (.dK kvs))/\R (qy a o kvs) H1
def lV{X:Cx}{tg l:Expr}{tl:TE}(hl:PE X l tl):PI X tg l (qz tl):=by
 intro pins s σ H R I h
 refine aB (hl pins s σ H _ I h) fun v s1 ⟨x,H1,I1,r1,q1⟩=>?_
 obtain⟨a,o,kvs,e,hq,q⟩:=q1
 subst e
 obtain rfl:v=Value.ref a:=r1
 obtain⟨ho,z,hs,vs,rk,dd⟩:=(show ObjOk X.prog X.w H1 s1.heap a (.frz o (.dK kvs))from I1.hok a _ hq)
 obtain⟨o',es,ep,ho',r1,r2,r3,r4,r5⟩:=id dd
 obtain rfl:o'=o:=zK (ho'.symm.trans ho)
 have hd:∀h:Heap,h.get? a=some o'->h.DictAt (aw X.prog X.w) a vs ep:=fun h e=>⟨o',es,e,r1,r2,r3,r4,r5⟩
 refine wpAny_pyIter_dict hs (hd _ ho) ?_
 refine⟨s1.heap.objs.size,[s1.heap.objs.size],_,_,H1,rfl,I1.kept (t':=s1.toks) fun b o e=>zp _ e,i8 a _ o' kvs vs ep rk hd,⟨_,zz _ rfl,rfl,rfl⟩,fun b hb=>?_,q⟩
 have e:b=s1.heap.objs.size:=by simpa using hb
 subst e
 exact I1.ut (zw _) (I1.hok.fresh (zw _))
end L2
namespace L3
open PySem L2
noncomputable def ki(S:aj)(a:Addr):aj:=fun b=>if b=a then none else S b
def tw.rem{K:Vo}{H:Hp}{S:aj}(r:tw K H S)(a:Addr)(g:Grow K H H')(hh:∀b,b≠a->H' b=H b):tw K H' (ki S a):=fun b o e=>by
 unfold ki at e
 split at e
 ·cases e
 ·rename_i z
  exact(r b o e).stay g (hh b z)
theorem gf{K:Vo}{H:Hp}:∀{ks:Vs} {ps:List PV} {kv:List (aA×V)},tz K H kv ((ks.map Sum.inr).zip ps)->ks.length=ps.length->∃vs,kv=(ks.map Sum.inr).zip vs/\vs.length=ks.length/\Reps K H vs ps
 |[],[],_,.nil,_=>⟨[],rfl,rfl,.nil⟩
 |k::ks,p::ps,_,.cons a r,h=>by
  obtain⟨vs,e,l,q⟩:=gf r (by simpa using h)
  exact⟨_::vs,by rw[e];rfl,by rw[zy,zy,l],.cons a q⟩
 |[],_::_,_,_,h=>by simp at h
 |_::_,[],_,_,h=>by simp at h
def gT(t:ap):ap:=fun σ S Q E=>t σ S (fun v S1=>∃a ks ps,v = .ref a/\S1 a=some (.dct ((ks.map Sum.inr).zip ps))/\ks.length=ps.length/\Q (.cd ks ps) (ki S1 a)) E
section
variable {X:Cx} {e o i:Expr} {t to ti:ap} {pos:Pos} {tg:Expr}
def ir(h:ax X e t):ax X e (gT t):=
 ⟨ai (iq h.ok) fun σ H Q ⟨σ3,S,Q3,E3,rσ,rS,hq,xo,k⟩=>⟨σ3,S,_,E3,rσ,rS,hq,xo,fun p S' v H' ⟨a,ks,ps,ep,es,hl,q⟩ rv t0 g=>by
  subst ep
  cases rv
  obtain⟨kv,hv,rk⟩:=t0 _ _ es
  obtain⟨vs,e1,l1,r1⟩:=gf rk hl
  subst e1
  refine⟨a,_,rfl,hv,fun ob=>?_⟩
  have gm:Grow X.K H' (upd H' a (.frz ob (.dK ((ks.map Sum.inr).zip vs)))):=.mut hv trivial
  exact k _ _ _ _ q (.cd ⟨ob,ad⟩ l1 (r1.mono gm)) (t0.rem a gm fun b hb=>ac hb) (g.trans gm)⟩⟩
def gU:ax X (.Dict [] [] pos) (c3 (.cd [] [])):=
 ⟨ai (iq jC) fun σ H Q ⟨σ3,S,Q3,E3,rσ,rS,hq,xo,k⟩ p hp=>⟨p,[],rfl,ad,fun ob=>by
  rw[eX]
  exact k _ S _ _ hq (.cd (vs:=[]) ⟨ob,ad⟩ rfl .nil) (rS.other hp) (.new hp)⟩⟩
def oi(to ti:ap):ap:=fun σ S Q E=>to σ S (fun v S1=>ti σ S1 (fun k S2=>match v,k with | .cd ks ps,.str x=>∃p,(ks.zip ps).lookup x=some p/\Q p S2|_,_=>False) E) E
theorem dO{K:Vo}{H:Hp}{x:Str}{p:PV}:∀{ks:Vs} {vs:List V} {ps:List PV},Reps K H vs ps->(ks.zip ps).lookup x=some p->∃v,bY ((ks.map Sum.inr:List aA).zip vs) (.inr x)=some v/\Rep K H v p
 |[],_,_,_,e=>by simp at e
 |_::_,_,_,.nil,e=>by simp at e
 |k::ks,_,_,.cons a r,e=>by
  rw[As,Ao]at e
  unfold bY
  rw[zF,As,List.find?_cons]
  split at e
  ·rename_i h
   cases e
   have h':x=k:=by simpa using h
   subst h'
   rw[show decide ((Sum.inr x:aA)=Sum.inr x)=true by simp]
   exact⟨_,rfl,a⟩
  ·rename_i h
   have h':¬x=k:=by simpa using h
   rw[show decide ((Sum.inr k:aA)=Sum.inr x)=false from zU fun z=>h' (Sum.inr.inj z).symm]
   exact dO r e
def qA(hu:X.A.units+1 < cLine)(ho:ax X o to)(hi:ax X i ti)(hs:m5 i:=by exact fun _ _=>rfl):ax X (.Subscript o i pos) (oi to ti):=
 ⟨ai (la hu ho.ok hi.ok hs) fun σ H Q ⟨σ3,S,Q3,E3,rσ,rS,h,xo,k⟩=>⟨σ3,S,_,E3,rσ,rS,h,xo,fun v S1 v' H1 h1 rv tE g1=>⟨σ3,S1,_,E3,rσ.mono g1,tE,h1,xo.mono g1,fun w S2 w' H2 h2 rw' uO g2=>by
  split at h2
  ·obtain⟨p,hp,q⟩:=h2
   cases rw'
   cases rv with
   |@cd a ks vs ps hd l rr=>
    obtain⟨ob,hd⟩:=hd
    obtain⟨y,hy,ry⟩:=dO (rr.mono g2) hp
    exact⟨a,y,rfl,.inl ⟨_,.inr _,.inr ⟨ob,g2.x _ _ _ hd⟩,rfl,hy.symm⟩,k _ S2 _ H2 q ry uO (g1.trans g2)⟩
  ·exact h2.elim⟩⟩⟩
def kj(t:ap):je:=fun σ S R E=>t σ S (fun v S1=>match v with | .cd ks _=>R ⟨ks.map PV.str,fun _=>True⟩ S1|_=>False) E
def oj{ks:Vs}{vs:List V}(l:vs.length=ks.length)(i:Nat):(((ks.map Sum.inr:List aA).zip vs)[i]?).map (fun p=>kV p.1)=(ks[i]?).map V.str:=by
 induction ks generalizing vs i with
 |nil=>simp
 |cons k ks ih=>
  cases vs with
  |nil=>simp at l
  |cons v vs=>
   cases i with
   |zero=>rfl
   |succ i=>simpa using ih (by simpa using l) i
def ol(h:ax X e t):ma X tg e (kj t):=
 ⟨gR (lV h.ok) fun σ H R ⟨σ3,S,R3,E3,rσ,rS,hq,xo,k⟩=>⟨σ3,S,_,E3,rσ,rS,hq,xo,fun v S1 v' H1 h1 rv tE g1=>by
  split at h1
  ·rename_i ks ps0
   cases rv with
   |@cd a _ vs ps hd l rr=>
    obtain⟨ob,hd⟩:=hd
    have ln:((ks.map Sum.inr:List aA).zip vs).length=ks.length:=by rw[List.length_zip,zC,l];exact Nat.min_self _
    refine⟨a,ob,_,rfl,hd,k _ S1 _ H1 h1 (fun i S2 H2 g2 uO _=>⟨fun p hp=>?_,fun e=>⟨g2.x _ _ _ hd,?_⟩⟩) tE g1⟩
    ·have hp':(ks[i]?).map PV.str=some p:=by simpa using hp
     have hi:i < ks.length:=by
      cases e:ks[i]? with
      |none=>rw[e]at hp';cases hp'
      |some x=>exact(z6.mp e).1
     refine⟨⟨g2.x _ _ _ hd,by rw[ln];exact hi⟩,fun x H' ⟨eH,q,hq1,hq2⟩=>?_⟩
     subst eH
     have z:=oj l i
     rw[hq1]at z
     cases e:ks[i]? with
     |none=>rw[e]at hp';cases hp'
     |some y=>
      rw[e]at hp' z
      cases hp'
      have z':kV q.1=V.str y:=zK z
      rw[hq2,z']
      exact⟨.str _,uO,.refl⟩
    ·rw[ln]
     have e':i=ks.length:=by simpa using e
     omega
  ·exact h1.elim⟩⟩
end
theorem gg:∀{a b:List Char},a.map Char.toNat=b.map Char.toNat->a=b
 |[],[],_=>rfl
 |[],_::_,h=>by simp at h
 |_::_,[],h=>by simp at h
 |x::a,y::b,h=>by
  simp only[zF,List.cons.injEq]at h
  rw[gg h.2,Char.toNat_inj.mp h.1]
def aM{a b:String}:(Str.ofString a=Str.ofString b)↔a=b:=by
 refine⟨fun h=>?_,fun h=>by rw[h]⟩
 rw[Str.ofString_eq_toList,Str.ofString_eq_toList]at h
 have h':a.toList.map Char.toNat=b.toList.map Char.toNat:=by
  have:=zM (fun s:Str=>s.cps.toList) h
  simpa using this
 exact String.toList_inj.mp (gg h')
def qB{i j:Int}(h1:-(2 ^ 64) < i)(h2:i < 2 ^ 64):IntMulOk i j:=(show v9 i j from .inl ⟨h1,h2⟩).ok
def lW{i j:Int}(h1:-(2 ^ 64) < j)(h2:j < 2 ^ 64):IntMulOk i j:=(show v9 i j from .inr ⟨h1,h2⟩).ok
def eT{i j:Int}(h:0<=j):i.fmod j=i % j:=Int.fmod_eq_emod_of_nonneg i h
def qC{i j:Int}(h:0<=j):i.fdiv j=i / j:=Int.fdiv_eq_ediv_of_nonneg i h
def rX{i j:Int}(h:0 < j)(h2:j < 2 ^ 64):ig i j:=⟨by omega,Nat.lt_trans (show j.natAbs < 2 ^ 64 by omega) (Nat.pow_lt_pow_right (by decide) (by decide))⟩
def uz(d l:Addr)(S S':aj):Prop:=∀a o,S a=some o->a≠d->a≠l->S' a=some o
def uz.refl{d l:Addr}{S:aj}:uz d l S S:=fun _ _ h _ _=>h
def uz.trans{d l:Addr}{S S1 S2:aj}(a:uz d l S S1)(b:uz d l S1 S2):uz d l S S2:=fun x o h h1 h2=>b x o (a x o h h1 h2) h1 h2
def uz.upd{d l:Addr}{S:aj}{o:SO}:uz d l S (ah S d o):=fun x u h h1 h2=>by rw[af h1];exact h
def uz.y_{d l:Addr}{S:aj}{o:SO}:uz d l S (ah S l o):=fun x u h h1 h2=>by rw[af h2];exact h
def uz.new{d l p:Addr}{S:aj}{o:SO}(h:S p=none):uz d l S (ah S p o):=fun x u hx h1 h2=>by rw[af (fun e=>by rw[e,h]at hx;cases hx)];exact hx
end L3
local macro_rules | `(tactic| walk_at "x")=>`(tactic| ((try dsimp only [L3.al,L3.aS,L3.bG,L3.fU,L3.gx,L3.bP,L3.aF,L3.v3,L3.c3,L3.lk,L3.aW,L3.ay,L3.aP,L3.lD,L3.cY,L3.j2,L3.pZ,L3.fS,L3.gQ,L3.dz,L3.cE,L3.bh,L3.fq,L3.cG,L3.qd,L3.nG,L3.iU,L3.dB,L3.bS,L3.f6,L3.db,L3.f7,L3.ke,L3.oW,L3.qm,L3.dC,L3.ce,L3.dE,L3.iV,L3.eK,L3.eL,List.set_cons_zero,List.set_cons_succ,List.set_nil,L3.oV,L3.cI,L3.iW,L3.bi,L3.cQ,L3.fV,L3.fY,L3.fu,L3.Tg.put,L3.Tg.t6,L3.iX,L3.bJ,L3.bI,L3.fZ,L3.fW,List.reduceReplicate,List.map_cons,List.map_nil,List.cons_append,List.nil_append,L3.cK,L3.bq,L3.bj]); (try simp only [L3.al,L3.aS,L3.bG,L3.fU,L3.gx,L3.bP,L3.aF,L3.v3,L3.c3,L3.lk,L3.aW,L3.ay,L3.aP,L3.lD,L3.cY,L3.j2,L3.pZ,L3.fS,L3.gQ,L3.dz,L3.cE,L3.bh,L3.fq,L3.cG,L3.qd,L3.nG,L3.iU,L3.dB,L3.bS,L3.f6,L3.db,L3.f7,L3.ke,L3.oW,L3.qm,L3.dC,L3.ce,L3.dE,L3.iV,L3.eK,L3.eL,List.set_cons_zero,List.set_cons_succ,List.set_nil,L3.oV,L3.cI,L3.iW,L3.bi,L3.cQ,L3.fV,L3.fY,L3.fu,L3.Tg.put,L3.Tg.t6,L3.iX,L3.bJ,L3.bI,L3.fZ,L3.fW,List.reduceReplicate,zF,AX,List.cons_append,List.nil_append,L3.cK,L3.bq,L3.bj])))
namespace C
open PySem L2 L3
noncomputable def aG(seed number:Int)(l:Addr):List (aA×PV):=[(Sum.inr "seed",.int seed),(Sum.inr "number",.int number),(Sum.inr "left",.ref l)]
structure uA (S:aj) (d l:Addr) (seed number:Int) (left:Vu):Prop where
 d:S d=some (.dct (aG seed number l))
 l:S l=some (.lst (left.map PV.int))
 s0:0<=seed
 s1:seed < 2147483647
 nm:0<=number
 lf:∀x∈left,0<=x
 ln:left.length<=100
def uw(S:aj)(d l:Addr):Prop:=∃seed number left,uA S d l seed number left
def uA.ne{S:aj}{d l:Addr}{seed number:Int}{left:Vu}(D:uA S d l seed number left):d≠l:=fun e=>by
 have h:=D.d
 rw[e,D.l]at h
 cases h
def uw.new{S:aj}{d l p:Addr}{o:SO}(D:uw S d l)(h:S p=none):uw (ah S p o) d l:=by
 obtain⟨s,n,f,D⟩:=D
 refine⟨s,n,f,?_,?_,D.s0,D.s1,D.nm,D.lf,D.ln⟩
 ·rw[af (fun e=>by have:=D.d;rw[e,h]at this;cases this)];exact D.d
 ·rw[af (fun e=>by have:=D.l;rw[e,h]at this;cases this)];exact D.l
def uw.free{S:aj}{d l p:Addr}(D:uw S d l)(h:S p=none):p≠d/\p≠l:=by
 obtain⟨s,n,f,D⟩:=D
 exact⟨(fun e=>by have:=D.d;rw[<-e,h]at this;cases this),(fun e=>by have:=D.l;rw[<-e,h]at this;cases this)⟩
def dP(s n m:Int)(l:Addr):c_ (aG s n l) (Sum.inr "number") (.int m)=aG s m l:=by
 simp[c_,aG,aM]
def kl(s n m:Int)(l:Addr):c_ (aG s n l) (Sum.inr "seed") (.int m)=aG m n l:=by
 simp[c_,aG,aM]
def om(s n:Int)(l:Addr):dD (aG s n l) (Sum.inr "seed")=some (.int s):=by simp[dD,aG,aM]
def km(s n:Int)(l:Addr):dD (aG s n l) (Sum.inr "number")=some (.int n):=by simp[dD,aG,aM]
def on(s n:Int)(l:Addr):dD (aG s n l) (Sum.inr "left")=some (.ref l):=by simp[dD,aG,aM]
abbrev ck(w:bo):Prop:=∀{S:aj} {d l:Addr} {m:Int} {Q:cW} {E:cD},uw S d l->0 < m->m < 2 ^ 62->(∀r S',0<=r->r < m->uw S' d l->uz d l S S'->Q (.int r) S')->w [.ref d,.int m] S Q E
def tP:ck (eO 5 bL):=by
  intro S d l m Q E D h0 h1 k
  obtain⟨seed,number,left,D⟩:=D
  have hne:=D.ne
  have hsz:∀a b,(aG a b l).length < sizeLine:=fun _ _=>bg (by show 3<=1000;decide)
  have fin:∀num vt S1,uA S1 d l seed num vt->uz d l S S1->¬(num=0/\0 < vt.length)->
      (if 0 < num then ig num m/\(aG seed num l).length < sizeLine/\m≠0/\Q (PV.int (num.fmod m)) (ah S1 d (SO.dct (aG seed (num.fdiv m) l)))
       else IntMulOk seed 48271/\(2147483647:Int)≠0/\IntMulOk ((seed * 48271+7919).fmod 2147483647) 40692/\(2147483399:Int)≠0/\(aG seed num l).length < sizeLine/\
        IntMulOk (((seed * 48271+7919).fmod 2147483647 * 40692+104729).fmod 2147483399) (((seed * 48271+7919).fmod 2147483647 * 40692+104729).fmod 2147483399)/\(2147483563:Int)≠0/\
        IntMulOk ((seed * 48271+7919).fmod 2147483647) ((seed * 48271+7919).fmod 2147483647)/\(2147483629:Int)≠0/\
        IntMulOk (((seed * 48271+7919).fmod 2147483647 * (seed * 48271+7919).fmod 2147483647).fmod 2147483629) 2147483563/\m≠0/\
        Q (PV.int ((((seed * 48271+7919).fmod 2147483647 * (seed * 48271+7919).fmod 2147483647).fmod 2147483629 * 2147483563+((((seed * 48271+7919).fmod 2147483647 * 40692+104729).fmod 2147483399) * (((seed * 48271+7919).fmod 2147483647 * 40692+104729).fmod 2147483399)).fmod 2147483563).fmod m))
          (ah S1 d (SO.dct (aG (((seed * 48271+7919).fmod 2147483647 * 40692+104729).fmod 2147483399) num l)))):=by
    intro num vt S1 D1 O1 hz
    split
    . rename_i hp
      rw[eT (Bh h0),qC (Bh h0)]
      refine⟨rX h0 (by omega),hsz _ _,by omega,k _ _ (Int.emod_nonneg _ (by omega)) (Int.emod_lt_of_pos _ h0) ⟨seed,num / m,vt,aa,by rw[af hne.symm];exact D1.l,D1.s0,D1.s1,Int.ediv_nonneg D1.nm (Bh h0),D1.lf,D1.ln⟩ (O1.trans .upd)⟩
    . have e1:∀x:Int,x.fmod 2147483647=x % 2147483647:=fun x=>eT (by decide)
      have e2:∀x:Int,x.fmod 2147483399=x % 2147483399:=fun x=>eT (by decide)
      simp only[e1,e2,eT (Bh h0)]
      have p1:=D1.s0
      have p2:=D1.s1
      refine⟨lW (by decide) (by decide),by decide,lW (by decide) (by decide),by decide,hsz _ _,qB (by omega) (by omega),by decide,qB (by omega) (by omega),by decide,lW (by decide) (by decide),by omega,
        k _ _ (Int.emod_nonneg _ (by omega)) (Int.emod_lt_of_pos _ h0) ⟨_,num,vt,aa,by rw[af hne.symm];exact D1.l,by omega,by omega,D1.nm,D1.lf,D1.ln⟩ (O1.trans .upd)⟩
  unfold eO bL
  rw[show aI 5 [PV.ref d,PV.int m]=[some (.ref d),some (.int m),none,none,none] from rfl]
  simp only[al]
  refine⟨fun n σ S'=>σ=[some (.ref d),some (.int m),none,none,none]/\∃number left,uA S' d l seed number left/\left.length=n/\uz d l S S',⟨_,rfl,number,left,D,rfl,.refl⟩,?_⟩
  rintro n σ S1 ⟨rfl,num,vt,D1,hn,O1⟩
  walk_at "x"
  simp only[D1.d,D1.l,km,on,om,kl,dP,aa,Ai,decide_eq_true_eq]
  have hlen:(List.map PV.int vt).length=vt.length:=zC ..
  rw[hlen]
  split
  . rename_i hz
    subst hz
    split
    . rename_i hl
      refine⟨fun σ S'=>σ=[some (.ref d),some (.int m),none,none,none]/\∃number left,uA S' d l seed number left/\left.length < n/\uz d l S S',?_,?_⟩
      . rintro σ' S' ⟨rfl,a,b,h2,h3,h4⟩
        exact⟨_,h3,rfl,a,b,h2,rfl,h4⟩
      . have hl':0 < vt.length:=by omega
        obtain⟨pre,x,rfl⟩:∃pre x,vt=pre++[x]:=by
          refine⟨vt.dropLast,vt.getLast (by intro e;rw[e]at hl';simp at hl'),(List.dropLast_concat_getLast _).symm⟩
        refine⟨trivial,?_⟩
        rw[show(List.map PV.int (pre++[x]))[(pre++[x]).length - 1]?=some (.int x) by simp,show(List.map PV.int (pre++[x])).dropLast=pre.map PV.int by simp]
        simp only[af hne,D1.d,dP]
        refine⟨hsz _ _,trivial,x,pre,⟨aa,by rw[af hne.symm,aa],D1.s0,D1.s1,D1.lf x (by simp),fun y hy=>D1.lf y (by simp[hy]),by have:=D1.ln;simp at this;omega⟩,?_,O1.trans (uz.y_.trans .upd)⟩
        rw[<-hn];simp
    . rename_i hl
      exact fin 0 vt S1 D1 O1 (fun z=>hl (by omega))
  . rename_i hz
    rw[if_neg (by decide)]
    exact fin num vt S1 D1 O1 (fun z=>hz z.1)
end C
namespace L3
open PySem L2
def Ext(S S':aj):Prop:=∀a o,S a=some o->S' a=some o
def Ext.refl{S:aj}:Ext S S:=fun _ _ h=>h
def Ext.trans{S S1 S2:aj}(a:Ext S S1)(b:Ext S1 S2):Ext S S2:=fun x o h=>b x o (a x o h)
def Ext.new{S:aj}{p:Addr}{o:SO}(h:S p=none):Ext S (ah S p o):=fun x u hx=>by rw[af (fun e=>by rw[e,h]at hx;cases hx)];exact hx
def Ext.free{S S':aj}(e:Ext S S'){p:Addr}(h:S' p=none):S p=none:=by
 cases q:S p with
 |none=>rfl
 |some o=>rw[e p o q]at h;cases h
theorem aX{g:Tg}{tc:dv}{te:ap}{σ':aN}{keep:aj->Prop}{fin:List PV->aj->Prop}{S:aj}(f:PV->PV)(c:PV->Bool)(hk:keep S):∀(items ys:List PV),
  (∀x∈items,∃σ2,g.put x σ'=some σ2/\(∀Q:Bool->aj->Prop,Q (c x) S->tc σ2 S Q df)/\(c x=true->∀Q:cW,Q (f x) S->te σ2 S Q df))->ys.length+items.length<=sizeLine->fin (ys++(items.filter c).map f) S->bH g tc te σ' keep fin items ys S
 |[],ys,_,hl,hf=>⟨hk,by simpa using hl,by simpa using hf⟩
 |x::r,ys,h,hl,hf=>by
  obtain⟨σ2,e,h1,h2⟩:=h x (by simp)
  refine⟨hk,by simp at hl;omega,?_⟩
  rw[e]
  refine h1 _ ?_
  cases hc:c x with
  |true=>
   rw[if_pos rfl]
   refine h2 hc _ (aX f c hk r (ys++[f x]) (fun y hy=>h y (by simp[hy])) (by simp at hl ⊢;omega) ?_)
   rw[List.filter_cons,hc,if_pos rfl]at hf
   simpa using hf
  |false=>
   rw[if_neg (by decide)]
   refine aX f c hk r ys (fun y hy=>h y (by simp[hy])) (by simp at hl ⊢;omega) ?_
   rw[List.filter_cons,hc,if_neg (by decide)]at hf
   exact hf
def i9{g:Tg}{te:ap}{σ':aN}{keep:aj->Prop}{fin:List PV->aj->Prop}{S:aj}(f:PV->PV){items:List PV}(hk:keep S)
  (h:∀x∈items,∃σ2,g.put x σ'=some σ2/\∀Q:cW,Q (f x) S->te σ2 S Q df) (hl:items.length<=sizeLine) (hf:fin (items.map f) S):bH g iY te σ' keep fin items [] S:=by
 refine aX f (fun _=>true) hk items [] (fun x hx=>?_) (by simpa using hl) (by rw[List.filter_eq_self.mpr (fun _ _=>rfl)];exact hf)
 obtain⟨σ2,e,k⟩:=h x hx
 exact⟨σ2,e,fun Q q=>q,fun _=>k⟩
theorem eU{g:Tg}{tc:dv}{te:ap}{σ':aN}{keep:aj->Prop}{fin:List PV->aj->Prop}{items:List PV}(Iv:List PV->List PV->aj->Prop)(hk:∀done ys S,Iv done ys S->keep S/\ys.length<=sizeLine)
  (step:∀done x rest ys S (K:List PV->aj->Prop),items=done++x::rest->Iv done ys S->(∀ys' S',Iv (done++[x]) ys' S'->K ys' S')->match g.put x σ' with
   |some σ2=>tc σ2 S (fun b S3=>if b=true then te σ2 S3 (fun y S4=>K (ys++[y]) S4) df else K ys S3) df
   |none=>False)
  (hf:∀ys S,Iv items ys S->fin ys S):∀(rest done ys:List PV) (S:aj),items=done++rest->Iv done ys S->bH g tc te σ' keep fin rest ys S
 |[],done,ys,S,e,h=>by
  rw[zV]at e
  exact⟨(hk _ _ _ h).1,(hk _ _ _ h).2,hf ys S (e▸h)⟩
 |x::rest,done,ys,S,e,h=>by
  refine⟨(hk _ _ _ h).1,(hk _ _ _ h).2,?_⟩
  exact step done x rest ys S (fun ys' S'=>bH g tc te σ' keep fin rest ys' S') e h fun ys' S' h'=>eU Iv hk step hf rest (done++[x]) ys' S' (by rw[e];simp) h'
theorem gi{g:Tg}{tb:aY}{D:dw}{keep:aj->Prop}{items:List PV}(Iv:List PV->aN->aj->Prop)(hk:∀done σ S,Iv done σ S->keep S)
  (step:∀done x rest σ S (K:aN->aj->Prop),items=done++x::rest->Iv done σ S->(∀σ' S',Iv (done++[x]) σ' S'->K σ' S')->match g.put x σ with
   |some σ'=>tb { D with nx:=K,ct:=K,bk:=D.nx } σ' S
   |none=>False)
  (hd:∀σ S,Iv items σ S->D.nx σ S):∀(rest done:List PV) (σ:aN) (S:aj),items=done++rest->Iv done σ S->fX g tb D keep rest σ S
 |[],done,σ,S,e,h=>by
  rw[zV]at e
  exact⟨hk _ _ _ h,hd σ S (e▸h)⟩
 |x::rest,done,σ,S,e,h=>
  ⟨hk _ _ _ h,step done x rest σ S (fX g tb D keep rest) e h fun σ' S' h'=>gi Iv hk step hd rest (done++[x]) σ' S' (by rw[e];simp) h'⟩
def dg{g:Tg}{tb:aY}{D:dw}{keep:aj->Prop}{items:List PV}{σ:aN}{S:aj}(Iv:List PV->aN->aj->Prop)(h0:Iv [] σ S)(hk:∀done σ S,Iv done σ S->keep S)
  (step:∀done x rest σ S (K:aN->aj->Prop),items=done++x::rest->Iv done σ S->(∀σ' S',Iv (done++[x]) σ' S'->K σ' S')->match g.put x σ with
   |some σ'=>tb { D with nx:=K,ct:=K,bk:=D.nx } σ' S
   |none=>False)
  (hd:∀σ S,Iv items σ S->D.nx σ S):fX g tb D keep items σ S:=gi Iv hk step hd items [] σ S rfl h0
def kn{g:Tg}{tc:dv}{te:ap}{σ':aN}{keep:aj->Prop}{fin:List PV->aj->Prop}{items:List PV}{S:aj}(Iv:List PV->List PV->aj->Prop)(h0:Iv [] [] S)(hk:∀done ys S,Iv done ys S->keep S/\ys.length<=sizeLine)
  (step:∀done x rest ys S (K:List PV->aj->Prop),items=done++x::rest->Iv done ys S->(∀ys' S',Iv (done++[x]) ys' S'->K ys' S')->match g.put x σ' with
   |some σ2=>tc σ2 S (fun b S3=>if b=true then te σ2 S3 (fun y S4=>K (ys++[y]) S4) df else K ys S3) df
   |none=>False)
  (hf:∀ys S,Iv items ys S->fin ys S):bH g tc te σ' keep fin items [] S:=eU Iv hk step hf items [] [] S rfl h0
def cp{t u:aY}{D:dw}{σ:aN}{S:aj}(h:∀N:aN->aj->Prop,(∀σ S,u D σ S->N σ S)->t { D with nx:=N } σ S):al t u D σ S:=h (u D) fun _ _ q=>q
def qD{n:Nat}{b:aY}{args:List PV}{S:aj}{Q:cW}{E:cD}(h:b { nx:=fun _ S'=>Q .non S',rt:=Q,ex:=df } (aI n args) S):eO n b args S Q E:=h
def ko{α β:Type}(f:α->β)(xs:List α)(lo hi:Option Int):cF (xs.map f) lo hi=(cF xs lo hi).map f:=by
 unfold cF
 rw[zC,List.map_take,List.map_drop]
def kq{α:Type}(xs:List α)(lo hi:Option Int):(cF xs lo hi).length<=xs.length:=by
 unfold cF
 rw[A1,AE]
 omega
def aU{n:Nat}(h:n<=1000):n<=sizeLine:=Ak (bg h)
section
variable {α:Type} {a b c d e:α} {l:List α}
def sw:ul (a::b::l) 1=some b:=hJ (j:=1) rfl
def oo:ul [a] (-1)=some a:=rfl
def oq:ul [a,b] (-1)=some b:=rfl
def ot:ul [a,b,c] (-1)=some c:=rfl
def ou:ul [a,b,c,d] (-1)=some d:=rfl
def ow:ul [a,b,c,d,e] (-1)=some e:=rfl
def oy:ul [a,b] (-2)=some a:=rfl
def oz:ul [a,b,c] (-2)=some b:=rfl
def oA:ul [a,b,c,d] (-2)=some c:=rfl
def oB:ul [a,b,c,d,e] (-2)=some d:=rfl
end
def gj(lo:Int)(n:Nat):(aL lo n).length=n:=by simp[aL]
end L3
namespace C
open PySem L2 L3
abbrev gk(w:bo):Prop:=∀{S:aj} {ns:Vu} {b:Int} {Q:cW} {E:cD},ns.length<=63->0<=b->b < 1000->(∀d l S',S d=none->S l=none->uw S' d l->Ext S S'->Q (.ref d) S')->w [.cl (ns.map PV.int),.int b] S Q E
def u8:gk (eO 5 bK):=by
 intro S ns b Q E hn h0 h1 k
 unfold eO bK
 rw[show aI 5 [PV.cl (ns.map PV.int),PV.int b]=[some (.cl (ns.map PV.int)),some (.int b),none,none,none] from rfl]
 walk_at "x"
 intro p hp
 rw[aa]
 dsimp only
 rw[ko]
 have hx:(cF ns (some b) (some 63)).length<=63:=zH (kq _ _ _) hn
 generalize cF ns (some b) (some 63)=xs at hx
 refine i9 (fun v=>match v with | .int i=>.int (if 0 - i > i then 0 - i else i)|v=>v) aa (fun x hx=>?_) (aU (by rw[zC];omega)) ?_
 ·obtain⟨i,hi,rfl⟩:=Ba.mp hx
  refine⟨[some (.int i)],rfl,fun Q q=>?_⟩
  walk_at "x"
  exact q
 intro p2 hp2
 rw[aa]
 dsimp only
 rw[List.map_map]
 have e0:(xs.map ((fun v=>match v with | .int i=>.int (if 0 - i > i then 0 - i else i)|v=>v) ∘ PV.int))=(xs.map fun i=>if 0 - i > i then 0 - i else i).map PV.int:=by
  rw[List.map_map];rfl
 rw[e0]
 have hy:((xs.map fun i=>if 0 - i > i then 0 - i else i)).length<=63:=by rw[zC];exact hx
 have yp:∀y∈xs.map (fun i:Int=>if 0 - i > i then 0 - i else i),0<=y:=by
  intro y hy
  obtain⟨i,_,rfl⟩:=Ba.mp hy
  split<;>omega
 generalize (xs.map fun i=>if 0 - i > i then 0 - i else i)=ys at hy yp
 have h2:p2≠p:=fun e=>by rw[e,aa]at hp2;cases hp2
 have hp2':S p2=none:=by rw[<-hp2,af h2]
 refine dg (fun done σ S'=>S'=ah (ah S p (.lst (xs.map PV.int))) p2 (.lst (ys.map PV.int))/\∃v2 n,0<=n/\n < 2147483647/\σ=[some (.cl (ns.map PV.int)),some (.int b),v2,some (.ref p2),some (.int n)]) ⟨rfl,none,7919+b,by omega,by omega,rfl⟩ (fun done σ S' h=>by rw[h.1];exact aa) ?_ ?_
 ·rintro done x rest σ S' K e ⟨rfl,v2,n,n0,n1,rfl⟩ hK
  obtain⟨i,hi,rfl⟩:∃i,i∈ys/\x = .int i:=by
   have:x∈ys.map PV.int:=by rw[e];simp
   obtain⟨i,hi,rfl⟩:=Ba.mp this
   exact⟨i,hi,rfl⟩
  walk_at "x"
  refine⟨lW (by decide) (by decide),by decide,by decide,hK _ _ ⟨rfl,_,_,?_,?_,rfl⟩⟩
  ·rw[eT (by decide)];omega
  ·rw[eT (i:=(n * 48271+_)) (by decide)];omega
 ·rintro σ S' ⟨rfl,v2,n,n0,n1,rfl⟩
  walk_at "x"
  intro d hd
  have hd2:d≠p2:=fun e=>by rw[e,aa]at hd;cases hd
  rw[af hd2]at hd
  have hd1:d≠p:=fun e=>by rw[e,aa]at hd;cases hd
  rw[af hd1]at hd
  rw[af hd2.symm,aa]
  dsimp only
  refine aX (fun v=>v) (fun v=>match v with | .int i=>decide (10 ^ 18<=i)|_=>false) (by rw[af hd2.symm,aa]) _ [] (fun x hx=>?_) (by rw[zC];exact aU (by simp;omega)) ?_
  ·obtain⟨i,hi,rfl⟩:=Ba.mp hx
   refine⟨[some (.int i)],rfl,fun Q q=>?_,fun _ Q q=>?_⟩
   ·walk_at "x"
    exact⟨⟨by decide,by decide,by decide⟩,q⟩
   ·walk_at "x"
    exact q
  intro p3 hp3
  rw[aa]
  intro l hl
  have e3:([]++List.map (fun v:PV=>v) (List.filter (fun v=>match v with | .int i=>decide (10 ^ 18<=i)|_=>false) (List.map PV.int ys)))=(ys.filter fun i=>decide (10 ^ 18<=i)).map PV.int:=by
   rw[List.nil_append,List.map_id',List.filter_map]
   rfl
  rw[e3]at hl ⊢
  rw[<-List.map_reverse]
  generalize yq:ah (ah (ah (ah S p (SO.lst (List.map PV.int xs))) p2 (SO.lst (List.map PV.int ys))) d (SO.dct [])) p3 (SO.lst (List.map PV.int (List.filter (fun i=>decide (10 ^ 18<=i)) ys)))=S3 at hl ⊢
  have yr:S3 d=some (.dct []):=by rw[<-yq,af (fun e=>by rw[<-e,aa]at hp3;cases hp3),aa]
  have yt:l≠d:=fun e=>by rw[e,yr]at hl;cases hl
  have xU:Ext S S3:=by
   rw[<-yq]
   refine(Ext.new hp).trans ((Ext.new hp2).trans ((Ext.new ?_).trans (.new hp3)))
   rw[af hd2,af hd1];exact hd
  refine⟨by rw[af yt.symm];exact yr,?_⟩
  have e4:dH [(PV.str "seed",PV.int n),(PV.str "number",PV.int 0),(PV.str "left",PV.ref l)]=some (aG n 0 l):=rfl
  rw[e4]
  have e5:dI [] (aG n 0 l)=aG n 0 l:=by simp[dI,aG,c_,aM]
  dsimp only
  rw[e5]
  refine k d l _ hd (xU.free hl) ⟨n,0,_,aa,by rw[af yt,aa],n0,n1,Int.le_refl _,fun y hy=>?_,?_⟩ ?_
  ·exact yp y (List.mem_filter.mp (List.mem_reverse.mp hy)).1
  ·rw[List.length_reverse]
   exact zH (List.length_filter_le _ _) (by omega)
  ·intro a o ha
   have had:a≠d:=fun e=>by rw[e,hd]at ha;cases ha
   rw[af had,af (fun e=>by rw[e,xU.free hl]at ha;cases ha)]
   exact xU a o ha
end C
namespace L3
open PySem L2
end L3
namespace C
open PySem L2 L3 Wd
def i_{r:Int}(h0:0<=r)(h1:r < 26):∃c,ul abc.cps.toList r=some c/\97<=c/\c<=122:=by
 obtain⟨n,rfl⟩:=Int.eq_ofNat_of_zero_le h0
 have q:=ni n
 rw[Nat.mod_eq_of_lt (by omega)]at q
 exact⟨_,q,by omega,by omega⟩
def oC{z:Str}(h:sD z):PyData.strOk z=true:=by
 unfold PyData.strOk
 rw[Array.all_eq_true']
 intro c hc
 have:=h.sm c (by simpa using hc)
 simp;omega
theorem eV:∀zs:List Str,texts (zs.map PV.str)=some zs
 |[]=>rfl
 |z::r=>by show(texts (r.map PV.str)).map (z::·)=_;rw[eV r];rfl
def ja:("":Str).length=0:=by decide +kernel
def jb{cs:List Nat}(h:cs.length<=1000):((cs.map gw).map (·.length)).sum+(cs.map gw).length * ("":Str).length<=1000000:=by
 rw[lr,ja]
 omega
def gV{w__law_draw:bo}(tP:ck w__law_draw){S:aj}{d l:Addr}{σ:aN}{n:Int}{fin:List PV->aj->Prop}(D:uw S d l)(hn:n.toNat<=100)(h1:lk σ 1=some (.ref d))(h2:lk σ 2=some (.str abc))(hσ:∃x,σ=[x,some (.ref d),some (.str abc)])
  (k:∀(cs:List Nat) S',cs.length=n.toNat->(∀c∈cs,97<=c/\c<=122)->uw S' d l->uz d l S S'->fin ((cs.map gw).map PV.str) S') :
  bH (Tg.n 0) iY (aF bh (v3 2) (aP w__law_draw [v3 1,c3 (.int 26)])) σ (fun _=>True) fin (aL 0 n.toNat) [] S:=by
 obtain⟨x0,rfl⟩:=hσ
 refine kn (fun done ys S'=>∃cs:List Nat,ys=(cs.map gw).map PV.str/\cs.length=done.length/\done.length<=n.toNat/\(∀c∈cs,97<=c/\c<=122)/\uw S' d l/\uz d l S S') ⟨[],rfl,rfl,Ax _,by simp,D,.refl⟩ ?_ ?_ ?_
 ·rintro done ys S' ⟨cs,rfl,e,hd,_⟩
  exact⟨trivial,aU (by rw[zC,zC,e];omega)⟩
 ·rintro done x rest ys S' K e ⟨cs,rfl,e2,hd,hc,D',O'⟩ hK
  have hlen:done.length+1<=n.toNat:=by
   have:=zM List.length e
   rw[gj,zN,zy]at this
   omega
  walk_at "x"
  simp only[iY,AD]
  refine tP D' (by decide) (by decide) fun r S2 r0 r1 D2 O2=>⟨lq.1,?_⟩
  obtain⟨c,ec,c0,c1⟩:=i_ r0 r1
  rw[ec]
  refine hK _ _ ⟨cs++[c],by simp,by simp[e2],by simpa using hlen,fun y hy=>?_,D2,O'.trans O2⟩
  rcases AH.mp hy with hy|hy
  ·exact hc y hy
  ·rw[z9.mp hy];exact⟨c0,c1⟩
 ·rintro ys S' ⟨cs,rfl,e,hd,hc,D',O'⟩
  exact k cs S' (by rw[e,gj]) hc D' O'
end C
local macro_rules | `(tactic| walk_at "w")=>`(tactic| simp only [L3.al,L3.aS,L3.bG,L3.fU,L3.gx,L3.bP,L3.aF,L3.v3,L3.c3,L3.lk,L3.aW,L3.ay,L3.aP,L3.lD,L3.cY,L3.j2,L3.pZ,L3.fS,L3.gQ,L3.dz,L3.cE,L3.bh,L3.fq,L3.cG,L3.qd,L3.nG,L3.iU,L3.dB,L3.bS,L3.f6,L3.db,L3.f7,L3.ke,L3.oW,L3.qm,L3.dC,L3.ce,L3.dE,L3.iV,L3.eK,L3.eL,List.set_cons_zero,List.set_cons_succ,List.set_nil,L3.oV,L3.cI,L3.iW,L3.bi,L3.cQ,L3.fV,L3.fY,L3.fu,L3.Tg.put,L3.Tg.t6,L3.iX,L3.bJ,L3.bI,L3.fZ,L3.fW,List.reduceReplicate,zF,AX,List.cons_append,List.nil_append,L3.sw,L3.oo,L3.oq,L3.ot,L3.ou,L3.ow,L3.oy,L3.oz,L3.oA,L3.oB,L3.aM,String.reduceEq,AA,AY,Ai,Bool.true_bne,Av,Bool.not_false,AD,Ag,zO,reduceIte,ite_true,ite_false,L3.cK,L3.bq,L3.bj])
local macro_rules | `(tactic| walk_at "y")=>`(tactic| ((try walk_at "x"); (try walk_at "w")))
namespace C
open PySem L2 L3 Wd
structure Sh (S:aj) (v:PV) (d:PyData) (n k:Nat):Prop where
 dat:Dat S v d
 lay:d.canLay0=true
 shw:d.showable=true
 dep:d.depth<=k
 len:d.shown.length<=n
theorem Sh.str{S:aj}{z:Str}(h:PyData.strOk z=true):Sh S (.str z) (.str z) (10 * z.length+2) 0:=
 ⟨.str z,by simpa [PyData.canLay0]using h,by simp[PyData.showable],by simp[PyData.depth],by
  rw[PyData.shown_str]
  refine StrLaws.reprText_len z fun c hc=>?_
  have h3:=Array.all_eq_true_iff_forall_mem.mp h c (Array.mem_toList_iff.mp hc)
  have h4:c < 0x110000:=by simpa using h3
  have e:(16:Nat) ^ 8=4294967296:=by decide
  omega⟩
end C
namespace G02
open PySem L2 L3
noncomputable def gl(i:Nat):Stmt:=PySem.Challenge.pw_dueworth_k02_refusals.main.body.getD i (.Pass ⟨0,0,0,0⟩)
noncomputable def mt(i j:Nat):Stmt:=(lO (gl i)).getD j (.Pass ⟨0,0,0,0⟩)
noncomputable abbrev vW:List (Str×Str):=[("BadText","row"),("NoHouse","word"),("NoHouse","name"),("Stuck","row"),("TooLong","most")]
noncomputable abbrev t_:List (Str×Str×Bool):=("BadText","BadText",true)::("BadText","NoHouse",false)::("BadText","Stuck",false)::("BadText","TooLong",false)::("BadText","NoStory",false)::("BadText","TooMany",false)::("BadText","NoRow",false)::("NoHouse","BadText",false)::("NoHouse","NoHouse",true)::("NoHouse","Stuck",false)::("NoHouse","TooLong",false)::("NoHouse","NoStory",false)::("NoHouse","TooMany",false)::("NoHouse","NoRow",false)::("Stuck","BadText",false)::("Stuck","NoHouse",false)::("Stuck","Stuck",true)::("Stuck","TooLong",false)::("Stuck","NoStory",false)::("Stuck","TooMany",false)::("Stuck","NoRow",false)::("TooLong","BadText",false)::("TooLong","NoHouse",false)::("TooLong","Stuck",false)::("TooLong","TooLong",true)::("TooLong","NoStory",false)::("TooLong","TooMany",false)::("TooLong","NoRow",false)::("NoStory","BadText",false)::("NoStory","NoHouse",false)::("NoStory","Stuck",false)::("NoStory","TooLong",false)::("NoStory","NoStory",true)::("NoStory","TooMany",false)::("NoStory","NoRow",false)::("TooMany","BadText",false)::("TooMany","NoHouse",false)::("TooMany","Stuck",false)::("TooMany","TooLong",false)::("TooMany","NoStory",false)::("TooMany","TooMany",true)::("TooMany","NoRow",false)::("NoRow","BadText",false)::("NoRow","NoHouse",false)::("NoRow","Stuck",false)::("NoRow","TooLong",false)::("NoRow","NoStory",false)::("NoRow","TooMany",false)::("NoRow","NoRow",true)::[]
structure Txt (P:Program) (w:World) (K:Vo) (mg:Vr):Prop where
 o__law_deal:d8 K mg "_law_deal" (gl 10) ["_law_script","_law_base"]
 o__law_draw:d8 K mg "_law_draw" (gl 11) ["_law_deal_here","_law_many"]
 o__law_made:d8 K mg "_law_made" (gl 12) ["_law_deal_here"]
 o__law_field:d8 K mg "_law_field" (gl 13) ["_law_one","_law_key"]
 o__law_sort:d8 K mg "_law_sort" (gl 14) ["_law_one"]
 o__law_raised:d8 K mg "_law_raised" (gl 15) ["_law_k","_law_one"]
 o__law_caught:d8 K mg "_law_caught" (gl 16) ["_law_k","_law_one"]
 u9:mg "ValueError" = none
 wV:mg "int" = none
 tu:mg "isinstance" = none
 wW:mg "len" = none
 wz:mg "list" = none
 wX:mg "max" = none
 uM:mg "range" = none
 vX:mg "repr" = none
 vm:mg "reversed" = none
 wA:kE K mg "DueError"
 uW:kE K mg "BadText"
 uX:kE K mg "NoHouse"
 vv:kE K mg "Stuck"
 uY:kE K mg "TooLong"
 uZ:kE K mg "NoStory"
 u1:kE K mg "TooMany"
 vx:kE K mg "NoRow"
 vF:n9 K mg "BadText" "BadText.__init__" (mt 2 0) ["self","row"] ["row"]
 vG:n9 K mg "NoHouse" "NoHouse.__init__" (mt 3 0) ["self","word","name"] ["word","name"]
 we:n9 K mg "Stuck" "Stuck.__init__" (mt 4 0) ["self","row"] ["row"]
 vH:n9 K mg "TooLong" "TooLong.__init__" (mt 5 0) ["self","most"] ["most"]
 u2:oY K mg "NoStory"
 u3:oY K mg "TooMany"
 vy:oY K mg "NoRow"
 vn:rT K mg "DueError" ["BadText","NoHouse","Stuck","TooLong","NoStory","TooMany","NoRow"]
 x_at:uP K vW
 tN:XTab K t_
section
variable {P:Program} {w:World} {K:Vo} {mg:Vr} {base:Heap}
def qE:(["_law_one"]:Vs).Nodup:=by decide +kernel
def rY:(["_law_k","_law_deal_here","_law_letters"]:Vs).Nodup:=by decide +kernel
def qF:(["_law_k","_law_found"]:Vs).Nodup:=by decide +kernel
def dQ(T:Txt P w K mg):mf P w K mg base "BadText" ["row"]:=rU ["self","row"] T.vF rfl fun _ _ _ _ _ _ _=>b9 (fm (pv 0) (pv 1) rfl)
def dR(T:Txt P w K mg):mf P w K mg base "NoHouse" ["word","name"]:=sS ["self","word","name"] T.vG rfl (by decide) fun _ _ _ _ _ _ _=>fF (fm (pv 0) (pv 1) rfl) (b9 (nn (pv 0) (pv 2) rfl))
def gp(T:Txt P w K mg):mf P w K mg base "Stuck" ["row"]:=rU ["self","row"] T.we rfl fun _ _ _ _ _ _ _=>b9 (fm (pv 0) (pv 1) rfl)
def dS(T:Txt P w K mg):mf P w K mg base "TooLong" ["most"]:=rU ["self","most"] T.vH rfl fun _ _ _ _ _ _ _=>b9 (fm (pv 0) (pv 1) rfl)
def cS:bo:=eO 5 C.bK
def fw(T:Txt P w K mg):oX P w K mg base 1 "_law_deal" 2 cS:=nZ ["_law_script","_law_base","_law_one","_law_some","_law_number"] T.o__law_deal (fun _ _ _ _ _ _ _ hr nd=>(ag (sR [] 1 [] ["_law_one"] 3 nd (im (ii (ao 0) (gP (ao 1)) (gP am))) (fun _=>(gn 0 qE)) (fun _=>md) (fun _=>(cB (nI rfl) T.wX (lc (ao 0) (l1 (aO qo am (ao 0)))))))
  (ag (s4 4 nd (aO bb am (ao 1)))
  (ag (io AL rfl (im (ao 3)) (gn 2 nd) (az (s4 4 nd (aO cR (aO bb (aO cH (ao 4) am) (aO cR (ao 2) am)) am))))
  (az (a0 (dM (a_ av (ao 4) (a_ av am (a_ av (nU iP rfl (rR [] 1 [] ["_law_one"] (im (ao 3)) (fun _=>(gn 0 qE)) (fun _=>(kd (fR rJ (ao 0) (aO qp am am) (cw _)))) (fun _=>(ao 0))) rfl T.wz rfl T.vm) dJ)))))))))) rfl
def w__law_draw:bo:=eO 5 C.bL
def aV(T:Txt P w K mg):oX P w K mg base 1 "_law_draw" 2 w__law_draw:=nZ ["_law_deal_here","_law_many","_law_number","_law_one","_law_other"] T.o__law_draw (fun _ _ _ _ _ _ _ hr nd=>(ag (lH AL (sr (p6 (kD hr (iZ hr (ao 0) av) am) (nA (fR qq (cB qe T.wW (l1 (iZ hr (ao 0) av))) am (cw _))))) (az (j_ (qr hr) (rQ n6 qh (iZ hr (ao 0) av)) (ao 0) av)))
  (ag (s4 2 nd (iZ hr (ao 0) av))
  (ag (cZ (fR qq (ao 2) am (cw _)) (ag (j_ (qr hr) (aO nV (ao 2) (ao 1)) (ao 0) av)
  (az (a0 (aO cR (ao 2) (ao 1))))) bw)
  (ag (s4 3 nd (aO cR (aO bb (aO cH (iZ hr (ao 0) av) am) am) am))
  (ag (j_ (qr hr) (aO cR (aO bb (aO cH (ao 3) am) am) am) (ao 0) av)
  (ag (s4 4 nd (aO cR (aO cH (iZ hr (ao 0) av) (iZ hr (ao 0) av)) am))
  (az (a0 (aO cR (aO bb (aO cH (aO cR (aO cH (ao 3) (ao 3)) am) am) (ao 4)) (ao 1))))))))))) rfl
def bM(tQ:bo):aY:=(al (aS 1 (c3 (.str "abcdefghijklmnopqrstuvwxyz")))
  (al (aS 2 (aP tQ [(v3 0),(c3 (.int 2001))]))
  (al (aS 3 (lD "str" il (c3 (.str "")) [(bi (fW (aF ce (c3 (.int 1)) (aP tQ [(v3 0),(c3 (.int 6))]))) (.n 0) iY (aF bh (v3 2) (aP tQ [(v3 1),(c3 (.int 26))])) 1 [0,1])]))
  (al (aS 4 (aF bh (cE [(c3 (.str "twice")),(c3 (.str "unknown")),(c3 (.str "use")),(c3 (.str "meets"))]) (aP tQ [(v3 0),(c3 (.int 4))])))
  (al (aS 5 (cE [(dz [(fv "BadText" ["row"] [(v3 2)]),(gT (bJ [((c3 (.str "row")),(v3 2))]))]),(dz [(fv "NoHouse" ["word","name"] [(v3 4),(v3 3)]),(gT (bJ [((c3 (.str "word")),(v3 4)),((c3 (.str "name")),(v3 3))]))]),(dz [(fv "Stuck" ["row"] [(v3 2)]),(gT (bJ [((c3 (.str "row")),(v3 2))]))])]))
  (bG (aF ce (v3 5) (cE [(dz [(fv "TooLong" ["most"] [(v3 2)]),(gT (bJ [((c3 (.str "most")),(v3 2))]))]),(dz [(c3 (.exc "NoStory" [] [])),(c3 (.cd [] []))]),(dz [(c3 (.exc "TooMany" [] [])),(c3 (.cd [] []))]),(dz [(c3 (.exc "NoRow" [] [])),(c3 (.cd [] []))])]))))))))
def cU:bo:=eO 6 (bM w__law_draw)
def cq(T:Txt P w K mg):oX P w K mg base 3 "_law_made" 1 cU:=nZ ["_law_deal_here","_law_letters","_law_n","_law_name","_law_word","_law_some"] T.o__law_made (fun _ _ _ _ _ _ _ hr nd=>(ag (s4 1 nd av)
  (ag (s4 2 nd (c4 (aV T) hr (lc (ao 0) (l1 am))))
  (ag (s4 3 nd (sQ lQ nK av (l1 (rR ["_law_letters","_law_deal_here"] 1 [0,1] ["_law_k","_law_deal_here","_law_letters"] (dG rfl rfl T.uM (l1 (aO bb am (c4 (aV T) hr (lc (ao 0) (l1 am)))))) (fun _=>(gn 0 rY)) (fun _=>md) (fun _=>(iZ hr (ao 2) (c4 (aV T) hr (lc (ao 1) (l1 am)))))))))
  (ag (s4 4 nd (iZ hr (bF (lc av (lc av (lc av (l1 av))))) (c4 (aV T) hr (lc (ao 0) (l1 am)))))
  (ag (s4 5 nd (bF (lc (dA (lc (qT (dQ T) hr (l1 (ao 2))) (l1 (ir (dM (a_ av (ao 2) dJ)))))) (lc (dA (lc (qT (dR T) hr (lc (ao 4) (l1 (ao 3)))) (l1 (ir (dM (a_ av (ao 4) (a_ av (ao 3) dJ))))))) (l1 (dA (lc (qT (gp T) hr (l1 (ao 2))) (l1 (ir (dM (a_ av (ao 2) dJ)))))))))))
  (az (a0 (aO bb (ao 5) (bF (lc (dA (lc (qT (dS T) hr (l1 (ao 2))) (l1 (ir (dM (a_ av (ao 2) dJ)))))) (lc (dA (lc (oa T.u2) (l1 gU))) (lc (dA (lc (oa T.u3) (l1 gU))) (l1 (dA (lc (oa T.vy) (l1 gU))))))))))))))))) rfl
def bu:aY:=(al (gx (cY (aF (dC false) (v3 1) (c3 (.str "row")))) (bG (bj vW "row" (v3 0))) bP)
  (al (gx (cY (aF (dC false) (v3 1) (c3 (.str "word")))) (bG (bj vW "word" (v3 0))) bP)
  (al (gx (cY (aF (dC false) (v3 1) (c3 (.str "name")))) (bG (bj vW "name" (v3 0))) bP)
  (bG (bj vW "most" (v3 0))))))
def cr:bo:=eO 2 bu
def d_(T:Txt P w K mg):oX P w K mg base 1 "_law_field" 2 cr:=nZ ["_law_one","_law_key"] T.o__law_field (fun _ _ _ _ _ _ _ hr nd=>(ag (cZ (kD hr (ao 1) av) (az (a0 (br T.x_at (ao 0) rfl))) bw)
  (ag (cZ (kD hr (ao 1) av) (az (a0 (br T.x_at (ao 0) rfl))) bw)
  (ag (cZ (kD hr (ao 1) av) (az (a0 (br T.x_at (ao 0) rfl))) bw)
  (az (a0 (br T.x_at (ao 0) rfl))))))) rfl
def bN:aY:=(al (aS 1 (cE [(ay (bn t_) [(v3 0),(c3 (.cls "BadText"))]),(ay (bn t_) [(v3 0),(c3 (.cls "NoHouse"))]),(ay (bn t_) [(v3 0),(c3 (.cls "Stuck"))]),(ay (bn t_) [(v3 0),(c3 (.cls "TooLong"))])]))
  (al (aS 1 (aF ce (v3 1) (cE [(ay (bn t_) [(v3 0),(c3 (.cls "NoStory"))]),(ay (bn t_) [(v3 0),(c3 (.cls "TooMany"))]),(ay (bn t_) [(v3 0),(c3 (.cls "NoRow"))])])))
  (bG (bi (fW (c3 (.int 7))) (.n 0) (cY (aF bh (v3 1) (v3 0))) (v3 0) 1 [1]))))
def ba:bo:=eO 2 bN
def fy(T:Txt P w K mg):oX P w K mg base 1 "_law_sort" 1 ba:=nZ ["_law_one","_law_found"] T.o__law_sort (fun _ _ _ _ _ _ _ hr nd=>(ag (s4 1 nd (bF (lc (cB (aK T.tN) T.tu (lc (ao 0) (l1 (ip T.uW)))) (lc (cB (aK T.tN) T.tu (lc (ao 0) (l1 (ip T.uX)))) (lc (cB (aK T.tN) T.tu (lc (ao 0) (l1 (ip T.vv)))) (l1 (cB (aK T.tN) T.tu (lc (ao 0) (l1 (ip T.uY))))))))))
  (ag (s4 1 nd (aO bb (ao 1) (bF (lc (cB (aK T.tN) T.tu (lc (ao 0) (l1 (ip T.uZ)))) (lc (cB (aK T.tN) T.tu (lc (ao 0) (l1 (ip T.u1)))) (l1 (cB (aK T.tN) T.tu (lc (ao 0) (l1 (ip T.vx))))))))))
  (az (a0 (rR ["_law_found"] 1 [1] ["_law_k","_law_found"] (dG rfl rfl T.uM (l1 am)) (fun _=>(gn 0 qF)) (fun _=>(kd (l8 (iZ hr (ao 1) (ao 0))))) (fun _=>(ao 0)))))))) rfl
def ee(T:Txt P w K mg):sM P w K mg base 1 "_law_sort" 1 ba:=nZ ["_law_one","_law_found"] T.o__law_sort (fun _ _ _ _ _ _ _ hr nd=>(ag (s4 1 nd (bF (lc (cB (aK T.tN) T.tu (lc (ao 0) (l1 (ip T.uW)))) (lc (cB (aK T.tN) T.tu (lc (ao 0) (l1 (ip T.uX)))) (lc (cB (aK T.tN) T.tu (lc (ao 0) (l1 (ip T.vv)))) (l1 (cB (aK T.tN) T.tu (lc (ao 0) (l1 (ip T.uY))))))))))
  (ag (s4 1 nd (aO bb (ao 1) (bF (lc (cB (aK T.tN) T.tu (lc (ao 0) (l1 (ip T.uZ)))) (lc (cB (aK T.tN) T.tu (lc (ao 0) (l1 (ip T.u1)))) (l1 (cB (aK T.tN) T.tu (lc (ao 0) (l1 (ip T.vx))))))))))
  (az (a0 (rW ["_law_found"] 1 [1] ["_law_k","_law_found"] (i7 rfl rfl T.uM (l1 am)) (fun _=>(gn 0 qF)) (fun _=>(kd (l8 (iZ hr (ao 1) (ao 0))))) (fun _=>(ao 0)))))))) rfl
def bc:aY:=(al (gx (cY (aF (dC false) (v3 0) (c3 (.int 0)))) (bq "BadText" ["row"] [(bj vW "row" (v3 1))]) bP)
  (al (gx (cY (aF (dC false) (v3 0) (c3 (.int 1)))) (bq "NoHouse" ["word","name"] [(bj vW "word" (v3 1)),(bj vW "name" (v3 1))]) bP)
  (al (gx (cY (aF (dC false) (v3 0) (c3 (.int 2)))) (bq "Stuck" ["row"] [(bj vW "row" (v3 1))]) bP)
  (al (gx (cY (aF (dC false) (v3 0) (c3 (.int 3)))) (bq "TooLong" ["most"] [(bj vW "most" (v3 1))]) bP)
  (al (gx (cY (aF (dC false) (v3 0) (c3 (.int 4)))) (cj "NoStory") bP)
  (al (gx (cY (aF (dC false) (v3 0) (c3 (.int 5)))) (cj "TooMany") bP)
  (cj "NoRow")))))))
def bU:bo:=kf 2 bc
def dU(T:Txt P w K mg):sN P w K mg base 3 "_law_raised" 2 bU:=sO ["_law_k","_law_one"] T.o__law_raised (fun _ _ _ _ _ _ _ hr nd=>(ag (cZ (kD hr (ao 0) am) (az (qS (dQ T) hr (l1 (br T.x_at (ao 1) rfl)))) bw)
  (ag (cZ (kD hr (ao 0) am) (az (qS (dR T) hr (lc (br T.x_at (ao 1) rfl) (l1 (br T.x_at (ao 1) rfl))))) bw)
  (ag (cZ (kD hr (ao 0) am) (az (qS (gp T) hr (l1 (br T.x_at (ao 1) rfl)))) bw)
  (ag (cZ (kD hr (ao 0) am) (az (qS (dS T) hr (l1 (br T.x_at (ao 1) rfl)))) bw)
  (ag (cZ (kD hr (ao 0) am) (az (og T.u2)) bw)
  (ag (cZ (kD hr (ao 0) am) (az (og T.u3)) bw)
  (az (og T.vy))))))))) rfl
def bd(uU ud:bo):aY:=(al (aS 2 (c3 (.str "")))
  (al (lM ["BadText","NoHouse","Stuck","TooLong","NoStory","TooMany","NoRow"] 3 (fU (cK uU [(v3 0),(v3 1)])) (aS 2 (aF bh (cE [(c3 (.str "due")),(c3 (.str "due value"))]) (ay eL [(fS (ay (bn t_) [(v3 3),(c3 (.ty "ValueError"))]) (aF (dC false) (aP ud [(v3 3)]) (cE [(v3 0)])))]))))
  (bG (v3 2))))
def bV:bo:=eO 4 (bd bU ba)
def dW(T:Txt P w K mg):oX P w K mg base 4 "_law_caught" 2 bV:=nZ ["_law_k","_law_one","_law_found","e"] T.o__law_caught (fun _ _ _ _ _ _ _ hr nd=>(ag (s4 2 nd av)
  (ag (sU 3 T.vn nd (fun E pins hp=>(az (nL (cX (dU T) hr (lc (ao 0) (l1 (ao 1))))))) (fun a=>(az (s4 2 nd (iZ (kh hr) (bF (lc av (l1 av))) (cT qf T.wV (l1 (p8 (cB (aK T.tN) T.tu (lc (ao 3) (l1 (sT T.u9)))) (p7 (pY (l9 (f8 (kh hr))) (c4 (ee T) (kh hr) (l1 (ao 3))) (bF (l1 (ao 0))) (cw _)))))))))))
  (az (a0 (ao 2)))))) rfl
def kr(vd uF ud uV u_:bo):aY:=(al (aS 1 (aP vd [(v3 0),(c3 (.int 0))]))
  (al (aS 2 (cE [(aP uF [(v3 1)]),(aP uF [(v3 1)])]))
  (al (fY (cQ (aF ce (v3 2) (cG (v3 2) qd (nG (c3 (.int 1)))))) (.n 3) (fY (fW (c3 (.int 7))) (.n 4) (al (iX (aF bh (v3 3) (v3 4)) (.tp (.cons (.n 5) (.cons (.n 6) .nil))))
  (al (gx (pZ (cY (aF (dC true) (aP ud [(v3 5)]) (cE [(v3 4)]))) (cY (aF (dC true) (aP uV [(v3 4),(v3 5)]) (c3 (.str "due value"))))) (bG (c3 (.bl false))) bP)
  (fY (kj (v3 6)) (.n 7) (gx (cY (aF (dC true) (ay f_ [(aP u_ [(v3 5),(v3 7)])]) (ay f_ [(oi (v3 6) (v3 7))]))) (bG (c3 (.bl false))) bP))))))
  (bG (c3 (.bl true))))))
def gq:bo:=eO 8 (kr cS cU ba bV cr)
def oE(T:Txt P w K mg){f:Addr}{fd:FuncData}(O:qQ K mg "law" (gl 17) ["_law_script"] f fd):su P w K mg base 5 f fd ["_law_script"] gq:=sP ["_law_script","_law_deal_here","_law_both","_law_some","_law_k","_law_one","_law_fields","_law_key"] O (fun _ _ _ _ _ _ _ hr nd=>(ag (s4 1 nd (c4 (fw T) hr (lc (ao 0) (l1 am))))
  (ag (s4 2 nd (bF (lc (c4 (cq T) hr (l1 (ao 1))) (l1 (c4 (cq T) hr (l1 (ao 1)))))))
  (ag (io AL rfl (im (aO bb (ao 2) (ii (ao 2) nH (gP am)))) (gn 3 nd) (az (io AL rfl (dG rfl rfl T.uM (l1 am)) (gn 4 nd) (ag (qk (iZ hr (ao 3) (ao 4)) (sK rfl (j9 (gn 5 nd) (j9 (gn 6 nd) qj))))
  (ag (cZ (sr (rC (rP hr (c4 (fy T) hr (l1 (ao 5))) (bF (l1 (ao 4)))) (p5 (rP hr (c4 (dW T) hr (lc (ao 4) (l1 (ao 5)))) av)))) (az (a0 nz)) bw)
  (az (io AL rfl (ol (ao 6)) (gn 7 nd) (az (cZ (rP hr (cB (kg (f8 hr) hr.gd) T.vX (l1 (c4 (d_ T) hr (lc (ao 5) (l1 (ao 7)))))) (cB (kg (f8 hr) hr.gd) T.vX (l1 (qA (qr hr) (ao 6) (ao 7))))) (az (a0 nz)) bw)))))))))
  (az (a0 nz)))))) rfl
end
end G02
namespace G02
open PySem L2 L3 Wd
open C
abbrev Tz(z:Str):Prop:=(reprText z).length<=sizeLine
def qG{z:Str}(h:PyData.strOk z=true)(hl:z.length<=6):Tz z:=by
 have:=(Sh.str (S:=fun _=>none) h).len
 exact zH this (aU (by omega))
inductive Itm:Nat->Str->List Str->List PV->Prop
 |bt (n:Int):n.natAbs.log2 < 1920->Itm 0 "BadText" ["row"] [.int n]
 |nh (w x:Str):Tz w->Tz x->Itm 1 "NoHouse" ["word","name"] [.str w,.str x]
 |st (n:Int):n.natAbs.log2 < 1920->Itm 2 "Stuck" ["row"] [.int n]
 |tl (n:Int):n.natAbs.log2 < 1920->Itm 3 "TooLong" ["most"] [.int n]
 |ns:Itm 4 "NoStory" [] []
 |tm:Itm 5 "TooMany" [] []
 |nr:Itm 6 "NoRow" [] []
def Itm.lt{k:Nat}{c:Str}{ks:Vs}{ps:List PV}(h:Itm k c ks ps):k < 7:=by cases h<;>decide
def Itm.yu{k:Nat}{c:Str}{ks:Vs}{ps:List PV}(h:Itm k c ks ps):bx c "BadText" t_=some (decide (k=0))/\bx c "NoHouse" t_=some (decide (k=1))/\bx c "Stuck" t_=some (decide (k=2))/\bx c "TooLong" t_=some (decide (k=3))/\
  bx c "NoStory" t_=some (decide (k=4))/\bx c "TooMany" t_=some (decide (k=5))/\bx c "NoRow" t_=some (decide (k=6))/\(t_.any fun t=>t.1 == c)=true:=by
 cases h<;>decide +kernel
theorem qH:∀k:Nat,k < 7->(aL 0 (7:Int).toNat).filter (fun v=>match v with | .int i=>decide ((k:Int)=i)|_=>false)=[PV.int k]
 |0,_=>rfl|1,_=>rfl|2,_=>rfl|3,_=>rfl|4,_=>rfl|5,_=>rfl|6,_=>rfl
 |n+7,h=>by omega
def sV{k:Nat}{i:Int}(hi:i∈[(0:Int),1,2,3,4,5,6]):ul [PV.bl (decide (k=0)),PV.bl (decide (k=1)),PV.bl (decide (k=2)),PV.bl (decide (k=3)),PV.bl (decide (k=4)),PV.bl (decide (k=5)),PV.bl (decide (k=6))] i=some (.bl (decide ((k:Int)=i))):=by
 simp only[zE,Aq,Bj]at hi
 rcases hi with rfl|rfl|rfl|rfl|rfl|rfl|rfl<;>exact zM (fun b=>some (PV.bl b)) (decide_eq_decide.mpr (by omega))
abbrev dX(w:bo):Prop:=∀{k:Nat} {c:Str} {ks:Vs} {ps:List PV} {S:aj} {Q:cW} {E:cD},Itm k c ks ps->(∀p S',Ext S S'->S' p=some (.lst [.int k])->Q (.ref p) S')->w [.exc c ks ps] S Q E
def um:dX (eO 2 bN):=by
 intro k c ks ps S Q E h kk
 obtain⟨h0,h1,h2,h3,h4,h5,h6,_⟩:=h.yu
 have hk:=h.lt
 unfold bN
 refine qD ?_
 rw[show aI 2 [PV.exc c ks ps]=[some (.exc c ks ps),none] from rfl]
 refine cp fun N hN=>?_
 walk_at "x"
 simp only[bn,h0,h1,h2,h3]
 intro p hp
 refine hN _ _ (cp fun N hN=>?_)
 walk_at "x"
 simp only[bn,h4,h5,h6]
 intro p2 hp2
 have hne:p≠p2:=fun e=>by rw[<-e,aa]at hp2;cases hp2
 rw[af hne,aa,aa]
 refine⟨aU (by show 7<=1000;decide),fun p3 hp3=>?_⟩
 have za:p2≠p3:=fun e=>by rw[<-e,aa]at hp3;cases hp3
 have zb:p≠p3:=fun e=>by rw[<-e,af hne,aa]at hp3;cases hp3
 have X3:Ext S (ah (ah (ah S p (.lst [PV.bl (decide (k=0)),PV.bl (decide (k=1)),PV.bl (decide (k=2)),PV.bl (decide (k=3))])) p2 (.lst [PV.bl (decide (k=4)),PV.bl (decide (k=5)),PV.bl (decide (k=6))])) p3
   (.lst ([PV.bl (decide (k=0)),PV.bl (decide (k=1)),PV.bl (decide (k=2)),PV.bl (decide (k=3))]++[PV.bl (decide (k=4)),PV.bl (decide (k=5)),PV.bl (decide (k=6))]))):=(Ext.new hp).trans ((Ext.new hp2).trans (Ext.new hp3))
 refine hN _ _ ?_
 generalize hS:ah (ah (ah S p (.lst [PV.bl (decide (k=0)),PV.bl (decide (k=1)),PV.bl (decide (k=2)),PV.bl (decide (k=3))])) p2 (.lst [PV.bl (decide (k=4)),PV.bl (decide (k=5)),PV.bl (decide (k=6))])) p3
   (.lst ([PV.bl (decide (k=0)),PV.bl (decide (k=1)),PV.bl (decide (k=2)),PV.bl (decide (k=3))]++[PV.bl (decide (k=4)),PV.bl (decide (k=5)),PV.bl (decide (k=6))]))=S3 at X3 ⊢
 have e3:S3 p3=some (.lst [PV.bl (decide (k=0)),PV.bl (decide (k=1)),PV.bl (decide (k=2)),PV.bl (decide (k=3)),PV.bl (decide (k=4)),PV.bl (decide (k=5)),PV.bl (decide (k=6))]):=by rw[<-hS,aa];rfl
 clear hS
 walk_at "x"
 refine⟨by decide,by decide,aX id (fun v=>match v with | .int i=>decide ((k:Int)=i)|_=>false) trivial _ _ (fun x hx=>?_) (aU (by decide)) ?_⟩
 ·obtain⟨i,hi,rfl⟩:∃i:Int,i∈[(0:Int),1,2,3,4,5,6]/\x = .int i:=by
   have hx':x∈[PV.int 0,PV.int 1,PV.int 2,PV.int 3,PV.int 4,PV.int 5,PV.int 6]:=hx
   simpa using hx'
  refine⟨[some (.int i),some (.ref p3)],rfl,fun Q q=>?_,fun _ Q q=>q⟩
  walk_at "x"
  rw[e3]
  dsimp only
  rw[sV hi]
  exact q
 ·intro p4 zc
  rw[qH k hk]
  exact kk _ _ (X3.trans (.new zc)) aa
abbrev dY(w:bo):Prop:=∀{k:Nat} {c:Str} {ks:Vs} {ps:List PV} {S:aj} {Q:cW} {E:cD},Itm k c ks ps->E (.exc c ks ps) [] S->w [.int k,.exc c ks ps] S Q E
def oF{a:Str}{v:PV}:([a].zip [v]).lookup a=some v:=by simp
def rZ{a b:Str}{v w:PV}:([a,b].zip [v,w]).lookup a=some v:=by simp
def r9{a b:Str}{v w:PV}(h:(b == a)=false):([a,b].zip [v,w]).lookup b=some w:=by simp[List.lookup,h]
def wn:((Str.ofString "name") == (Str.ofString "word"))=false:=by decide +kernel
def uB:dY (kf 2 bc):=by
 intro k c ks ps S Q E h kk
 unfold kf bc
 rw[show aI 2 [PV.int k,PV.exc c ks ps]=[some (.int k),some (.exc c ks ps)] from rfl]
 cases h<;>(walk_at "x"; simp(decide:=true) only [cj,Int.reduceEq,AY,AA,AD,Ag,Ai,oF,rZ,r9 wn];first|exact kk|exact⟨trivial,kk⟩|exact⟨trivial,trivial,kk⟩)
def lX{key a:Str}{x v:PV}(h:([a].zip [x]).lookup key=some v):key=a/\v=x:=by
 rw[As,Ao]at h
 split at h
 ·rename_i e;cases h;exact⟨by simpa using e,rfl⟩
 ·simp at h
def r_{key a b:Str}{x y v:PV}(h:([a,b].zip [x,y]).lookup key=some v):(key=a/\v=x)\/(key=b/\v=y):=by
 rw[As,Ao]at h
 split at h
 ·rename_i e;cases h;exact .inl ⟨by simpa using e,rfl⟩
 ·exact .inr (lX h)
abbrev eW(w:bo):Prop:=∀{k:Nat} {c key:Str} {ks:Vs} {ps:List PV} {v:PV} {S:aj} {Q:cW} {E:cD},Itm k c ks ps->(ks.zip ps).lookup key=some v->Q v S->w [.exc c ks ps,.str key] S Q E
def uQ:eW (eO 2 bu):=by
 intro k c key ks ps v S Q E h hv kk
 unfold bu
 refine qD ?_
 rw[show aI 2 [PV.exc c ks ps,PV.str key]=[some (.exc c ks ps),some (.str key)] from rfl]
 cases h with
 |bt n hn=>
  obtain⟨rfl,rfl⟩:=lX hv
  walk_at "x"
  simp(decide:=true) only [aM,String.reduceEq,AY,AA,AD,Ag,Ai,oF]
  exact⟨trivial,kk⟩
 |nh a b ha hb=>
  rcases r_ hv with⟨rfl,rfl⟩|⟨rfl,rfl⟩ <;>
  ·walk_at "x"
   simp(decide:=true) only [aM,String.reduceEq,AY,AA,AD,Ag,Ai,rZ,r9 wn]
   exact⟨trivial,kk⟩
 |st n hn=>
  obtain⟨rfl,rfl⟩:=lX hv
  walk_at "x"
  simp(decide:=true) only [aM,String.reduceEq,AY,AA,AD,Ag,Ai,oF]
  exact⟨trivial,kk⟩
 |tl n hn=>
  obtain⟨rfl,rfl⟩:=lX hv
  walk_at "x"
  simp(decide:=true) only [aM,String.reduceEq,AY,AA,AD,Ag,Ai,oF]
  exact⟨trivial,kk⟩
 |ns=>simp at hv
 |tm=>simp at hv
 |nr=>simp at hv
def sW{S:aj}{p q:Addr}{k:Int}{P:Bool->Prop}(h1:S p=some (.lst [.int k]))(h2:S q=some (.lst [.int k]))(hP:P true):∃d d',Dat S (.ref p) d/\Dat S (.ref q) d'/\d.canLay0=true/\d'.canLay0=true/\min d.depth d'.depth<=150/\P (d.eqv d'):=
 ⟨.list [.int k],.list [.int k],.ref h1 (.cons (.int _) .nil),.ref h2 (.cons (.int _) .nil),by simp[PyData.canLay0,PyData.canLayAll0],by simp[PyData.canLay0,PyData.canLayAll0],by simp[PyData.depth,PyData.depthAll],by
  rw[show(PyData.list [.int k]).eqv (.list [.int k])=true by simp[PyData.eqv,PyData.eqvAll]]
  exact hP⟩
abbrev dZ(w:bo):Prop:=∀{k:Nat} {c:Str} {ks:Vs} {ps:List PV} {S:aj} {Q:cW} {E:cD},Itm k c ks ps->(∀S',Ext S S'->Q (.str "due value") S')->w [.int k,.exc c ks ps] S Q E
def uC{x1 x2:bo}(uB:dY x1)(um:dX x2):dZ (eO 4 (bd x1 x2)):=by
 intro k c ks ps S Q E h kk
 obtain⟨_,_,_,_,_,_,_,hv⟩:=h.yu
 unfold bd
 refine qD ?_
 rw[show aI 4 [PV.int k,PV.exc c ks ps]=[some (.int k),some (.exc c ks ps),none,none] from rfl]
 refine cp fun N hN=>?_
 walk_at "x"
 refine hN _ _ (cp fun N hN=>?_)
 unfold lM
 walk_at "x"
 refine uB h ⟨?_,?_⟩
 ·cases h<;>decide +kernel
 walk_at "x"
 intro p hp
 unfold bn
 refine⟨rfl,hv,?_⟩
 simp only[AD]
 refine um h fun q S1 X1 e1 p1 hp1=>?_
 have h1:ah S1 p1 (.lst [PV.int k]) q=some (.lst [PV.int k]):=by rw[af (fun z=>by rw[<-z,e1]at hp1;cases hp1)];exact e1
 have hpp:S1 p=some (.lst [PV.str "due",PV.str "due value"]):=X1 _ _ aa
 have h2:ah S1 p1 (.lst [PV.int k]) p=some (.lst [PV.str "due",PV.str "due value"]):=by rw[af (fun z=>by rw[<-z,hpp]at hp1;cases hp1)];exact hpp
 refine sW (P:=fun b=>match ah S1 p1 (.lst [PV.int k]) p with|some (.lst xs)=>(match ul xs (if (false != b)=true then 1 else 0)with|some v=>N [some (.int k),some (.exc c ks ps),some v,none] (ah S1 p1 (.lst [PV.int k]))|none=>False)|some (.dct kvs)=>(match dD kvs (Sum.inl (if (false != b)=true then 1 else 0))with|some v=>N [some (.int k),some (.exc c ks ps),some v,none] (ah S1 p1 (.lst [PV.int k]))|none=>False)|_=>False) h1 aa ?_
 rw[h2]
 simp only[Ai,AD,sw]
 refine hN _ _ ?_
 walk_at "x"
 exact kk _ ((Ext.new hp).trans (X1.trans (.new hp1)))
noncomputable def items(n:Int)(w x:Str):List PV:=
 [.tup [.exc "BadText" ["row"] [.int n],.cd ["row"] [.int n]],.tup [.exc "NoHouse" ["word","name"] [.str w,.str x],.cd ["word","name"] [.str w,.str x]],.tup [.exc "Stuck" ["row"] [.int n],.cd ["row"] [.int n]],
  .tup [.exc "TooLong" ["most"] [.int n],.cd ["most"] [.int n]],.tup [.exc "NoStory" [] [],.cd [] []],.tup [.exc "TooMany" [] [],.cd [] []],.tup [.exc "NoRow" [] [],.cd [] []]]
def kt{n:Int}{w x:Str}(hn:n.natAbs.log2 < 1920)(hw:Tz w)(hx:Tz x){k:Nat}(hk:k < 7):∃c ks ps,Itm k c ks ps/\ul (items n w x) (k:Int)=some (.tup [.exc c ks ps,.cd ks ps]):=by
 match k,hk with
 |0,_=>exact⟨_,_,_,.bt n hn,rfl⟩
 |1,_=>exact⟨_,_,_,.nh w x hw hx,rfl⟩
 |2,_=>exact⟨_,_,_,.st n hn,rfl⟩
 |3,_=>exact⟨_,_,_,.tl n hn,rfl⟩
 |4,_=>exact⟨_,_,_,.ns,rfl⟩
 |5,_=>exact⟨_,_,_,.tm,rfl⟩
 |6,_=>exact⟨_,_,_,.nr,rfl⟩
 |k+7,h=>omega
def iu{S:aj}{p:Addr}{o:SO}(h:S p=none):ki (ah S p o) p=S:=by
 funext b
 unfold ki ah
 by_cases z:b=p
 ·rw[if_pos z,z,h]
 ·rw[if_neg z,if_neg z]
def oG{a:Str}{i:Nat}{v:PV}{σ:aN}{S:aj}{Q:cW}{E:cD}(h:lk σ i=some v)(q:Q (.cd [a] [v]) S):gT (bJ [(c3 (.str a),v3 i)]) σ S Q E:=by
 intro p hp
 simp only[bI,c3,v3,h,dH,fq,dI,c_]
 refine⟨aa,p,[a],[v],rfl,?_,rfl,?_⟩
 ·rw[aa];rfl
 ·rw[eJ,iu hp];exact q
def sd{a b:Str}{i j:Nat}{v w:PV}{σ:aN}{S:aj}{Q:cW}{E:cD}(hab:a≠b)(h:lk σ i=some v)(h':lk σ j=some w)(q:Q (.cd [a,b] [v,w]) S):gT (bJ [(c3 (.str a),v3 i),(c3 (.str b),v3 j)]) σ S Q E:=by
 intro p hp
 simp only[bI,c3,v3,h,h',dH,fq]
 refine⟨aa,p,[a,b],[v,w],rfl,?_,rfl,?_⟩
 ·rw[aa]
  have e:c_ [((Sum.inr a:aA),v)] (Sum.inr b) w=[(Sum.inr a,v),(Sum.inr b,w)]:=by
   unfold c_
   rw[if_neg (by simpa using hab)];rfl
  exact zM (fun x=>some (SO.dct x)) e
 ·rw[eJ,iu hp];exact q
def se{c a:Str}{i:Nat}{v:PV}{σ:aN}{S:aj}{Q:cW}{E:cD}(h:lk σ i=some v)(q:Q (.exc c [a] [v]) S):fv c [a] [v3 i] σ S Q E:=by
 simp only[fv,aW,v3,h];exact q
def sX{c a b:Str}{i j:Nat}{v w:PV}{σ:aN}{S:aj}{Q:cW}{E:cD}(h:lk σ i=some v)(h':lk σ j=some w)(q:Q (.exc c [a,b] [v,w]) S):fv c [a,b] [v3 i,v3 j] σ S Q E:=by
 simp only[fv,aW,v3,h,h'];exact q
def sY:(Str.ofString "word")≠(Str.ofString "name"):=by decide +kernel
def oH{n:Int}(h:n.natAbs < 2 ^ 11):n.natAbs.log2 < 1920:=by
 by_cases z:n.natAbs=0
 ·rw[z];decide
 ·exact(Nat.log2_lt z).mpr (zv h (Nat.pow_le_pow_right (by decide) (by decide)))
def oI{r:Int}(h0:0<=r)(h1:r < 4):∃w:Str,ul [PV.str "twice",.str "unknown",.str "use",.str "meets"] r=some (.str w)/\Tz w:=by
 have t:∀w∈[("twice":Str),"unknown","use","meets"],Tz w:=fun w hw=>by
  have:=(Sh.str (S:=fun _=>none) (show PyData.strOk w=true from (by decide +kernel:∀w∈[("twice":Str),"unknown","use","meets"],PyData.strOk w=true) w hw)).len
  exact zH this (aU ((by decide +kernel:∀w∈[("twice":Str),"unknown","use","meets"],10 * w.length+2<=1000) w hw))
 obtain⟨n,rfl⟩:=Int.eq_ofNat_of_zero_le h0
 match n,(by omega:n < 4)with
 |0,_=>exact⟨_,rfl,t _ (by simp)⟩
 |1,_=>exact⟨_,rfl,t _ (by simp)⟩
 |2,_=>exact⟨_,rfl,t _ (by simp)⟩
 |3,_=>exact⟨_,rfl,t _ (by simp)⟩
 |n+4,h=>omega
abbrev gu(w:bo):Prop:=∀{S:aj} {d l:Addr} {Q:cW} {E:cD},uw S d l->(∀n z x p S',n.natAbs.log2 < 1920->Tz z->Tz x->p≠d->p≠l->S' p=some (.lst (items n z x))->uw S' d l->uz d l S S'->Q (.ref p) S')->w [.ref d] S Q E
def uN{x1:bo}(tP:ck x1):gu (eO 6 (bM x1)):=by
 intro S d l Q E D kk
 unfold bM
 refine qD ?_
 rw[show aI 6 [PV.ref d]=[some (.ref d),none,none,none,none,none] from rfl]
 refine cp fun N hN=>?_
 walk_at "x"
 refine hN _ _ (cp fun N hN=>?_)
 walk_at "x"
 refine tP D (by decide) (by decide) fun n S1 n0 n1 D1 O1=>?_
 have hn:n.natAbs.log2 < 1920:=oH (by omega)
 refine hN _ _ (cp fun N hN=>?_)
 walk_at "x"
 refine⟨trivial,tP D1 (by decide) (by decide) fun m S2 m0 m1 D2 O2=>⟨by omega,by omega,gV tP D2 (by omega) rfl rfl ⟨_,rfl⟩ fun cs S3 hl hc D3 O3 pj hj=>?_⟩⟩
 simp only[il,aa,eV]
 refine⟨jb (by omega),?_⟩
 rw[show Txt.join (Str.ofString "") (cs.map gw)=⟨cs.toArray⟩from gM cs]
 have hx:Tz ⟨cs.toArray⟩:=qG (oC ⟨fun z=>by have z':cs=[]:=z;rw[z']at hl;simp at hl;omega,by show cs.length<=6;omega,hc⟩) (by show cs.length<=6;omega)
 generalize (⟨cs.toArray⟩:Str)=x at hx ⊢
 have D4:uw (ah S3 pj (.lst ((cs.map gw).map PV.str))) d l:=D3.new hj
 have O4:uz d l S (ah S3 pj (.lst ((cs.map gw).map PV.str))):=O1.trans (O2.trans (O3.trans (uz.new hj)))
 generalize ah S3 pj (.lst ((cs.map gw).map PV.str))=S4 at D4 O4 ⊢
 refine hN _ _ (cp fun N hN=>?_)
 walk_at "x"
 intro p hp
 have yv:=D4.free hp
 refine tP (D4.new hp) (by decide) (by decide) fun r S5 r0 r1 D5 O5=>?_
 have h5:=O5 _ _ aa yv.1 yv.2
 rw[h5]
 obtain⟨w,ew,hw⟩:=oI r0 r1
 simp only[ew]
 have O6:uz d l S S5:=O4.trans ((uz.new hp).trans O5)
 refine hN _ _ (cp fun N hN=>?_)
 walk_at "x"
 refine se rfl (oG rfl (sX rfl rfl (sd sY rfl rfl (se rfl (oG rfl fun pa hpa=>?_)))))
 have hda:=D5.free hpa
 refine hN _ _ ?_
 walk_at "x"
 refine se rfl (oG rfl fun pb v4=>?_)
 have nab:pa≠pb:=fun e=>by rw[<-e,aa]at v4;cases v4
 rw[af nab,aa,aa]
 have hdb:=(D5.new hpa).free v4
 refine⟨aU (by show 3+4<=1000;decide),fun pc xV=>?_⟩
 have hdc:=((D5.new hpa).new v4).free xV
 exact kk n w x pc _ hn hw hx hdc.1 hdc.2 aa (((D5.new hpa).new v4).new xV) (O6.trans ((uz.new hpa).trans ((uz.new v4).trans (uz.new xV))))
def sZ{v:PV}(h:(∃n:Int,v = .int n/\n.natAbs.log2 < 1920)\/∃z,v = .str z/\Tz z):∃z:Str,∀{S:aj} {Q:cW},Q (.str z) S->f_ [v] S Q:=by
 rcases h with⟨n,rfl,h⟩|⟨z,rfl,h⟩
 ·exact⟨_,fun{S Q} q=>⟨h,q⟩⟩
 ·exact⟨_,fun{S Q} q=>⟨h,q⟩⟩
def Itm.fld{k:Nat}{c key:Str}{ks:Vs}{ps:List PV}(h:Itm k c ks ps)(hk:key∈ks):∃v,(ks.zip ps).lookup key=some v/\((∃n:Int,v = .int n/\n.natAbs.log2 < 1920)\/∃z,v = .str z/\Tz z):=by
 cases h with
 |bt n hn=>rw[z9]at hk;subst hk;exact⟨_,oF,.inl ⟨n,rfl,hn⟩⟩
 |nh a b ha hb=>
  rw[zE,z9]at hk
  rcases hk with rfl|rfl
  ·exact⟨_,rZ,.inr ⟨a,rfl,ha⟩⟩
  ·exact⟨_,r9 wn,.inr ⟨b,rfl,hb⟩⟩
 |st n hn=>rw[z9]at hk;subst hk;exact⟨_,oF,.inl ⟨n,rfl,hn⟩⟩
 |tl n hn=>rw[z9]at hk;subst hk;exact⟨_,oF,.inl ⟨n,rfl,hn⟩⟩
 |_=>cases hk
abbrev lY(w:bo):Prop:=∀{ns:Vu} {S:aj} {Q:cW} {E:cD},ns.length<=63->(∀S',Q (.bl true) S')->w [.cl (ns.map PV.int)] S Q E
def oJ{x1 x2 x3 x4 x5:bo}(u8:gk x1)(uN:gu x2)(um:dX x3)(uC:dZ x4)(uQ:eW x5):lY (eO 8 (kr x1 x2 x3 x4 x5)):=by
 intro ns S Q E hns k
 unfold kr
 refine qD ?_
 rw[show aI 8 [PV.cl (ns.map PV.int)]=[some (.cl (ns.map PV.int)),none,none,none,none,none,none,none] from rfl]
 refine cp fun N hN=>?_
 walk_at "x"
 refine u8 hns (by decide) (by decide) fun d l S1 _ _ D1 _=>?_
 refine hN _ _ (cp fun N hN=>?_)
 walk_at "x"
 refine uN D1 fun n1 z1 x1 p1 S2 a1 a2 a3 a4 a5 h1 D2 O2=>uN D2 fun n2 z2 x2 p2 S3 b1 b2 b3 b4 b5 h2 D3 O3=>?_
 have h1':=O3 _ _ h1 a4 a5
 clear h1
 intro q hq
 refine hN _ _ (cp fun N hN=>?_)
 have X4:Ext S3 (ah S3 q (.lst [PV.ref p1,PV.ref p2])):=.new hq
 have xl:(ah S3 q (.lst [PV.ref p1,PV.ref p2])) q=some (.lst [PV.ref p1,PV.ref p2]):=aa
 have g1:=X4 _ _ h1'
 have g2:=X4 _ _ h2
 generalize ah S3 q (.lst [PV.ref p1,PV.ref p2])=S4 at xl g1 g2 ⊢
 walk_at "x"
 rw[xl]
 dsimp only
 intro q2 hq2
 have n2:q≠q2:=fun e=>by rw[<-e,xl]at hq2;cases hq2
 rw[af n2,xl,aa]
 dsimp only
 rw[show cF [PV.ref p1,PV.ref p2] none (some 1)=[PV.ref p1] from rfl]
 refine⟨aU (by show 2+1<=1000;decide),fun q3 zd=>?_⟩
 rw[aa]
 dsimp only
 have X5:Ext S4 (ah (ah S4 q2 (.lst [PV.ref p1])) q3 (.lst ([PV.ref p1,PV.ref p2]++[PV.ref p1]))):=(Ext.new hq2).trans (.new zd)
 have e5:(ah (ah S4 q2 (.lst [PV.ref p1])) q3 (.lst ([PV.ref p1,PV.ref p2]++[PV.ref p1]))) q3=some (.lst ([PV.ref p1,PV.ref p2]++[PV.ref p1])):=aa
 have i1:=X5 _ _ g1
 have i2:=X5 _ _ g2
 generalize ah (ah S4 q2 (.lst [PV.ref p1])) q3 (.lst ([PV.ref p1,PV.ref p2]++[PV.ref p1]))=S5 at e5 i1 i2 ⊢
 have all:∀x∈[PV.ref p1,PV.ref p2]++[PV.ref p1],∃p n z y,x = .ref p/\S5 p=some (.lst (items n z y))/\n.natAbs.log2 < 1920/\Tz z/\Tz y:=fun x hx=>by
  simp only[List.cons_append,List.nil_append,zE,Aq,Bj]at hx
  rcases hx with rfl|rfl|rfl
  ·exact⟨_,_,_,_,rfl,i1,a1,a2,a3⟩
  ·exact⟨_,_,_,_,rfl,i2,b1,b2,b3⟩
  ·exact⟨_,_,_,_,rfl,i1,a1,a2,a3⟩
 refine dg (fun done σ S'=>(∃a3 a4 a5 a6 a7,σ=[some (.cl (ns.map PV.int)),some (.ref d),some (.ref q),a3,a4,a5,a6,a7])/\Ext S5 S') ⟨⟨_,_,_,_,_,rfl⟩,.refl⟩ (fun _ _ _ h=>h.2 _ _ e5) ?_ ?_
 ·rintro done x rest σ S6 K e ⟨⟨a3,a4,a5,a6,a7,rfl⟩,X6⟩ hK
  obtain⟨p,n,z,y,rfl,hp,hn,hz,hy⟩:=all x (by rw[e];simp)
  walk_at "x"
  refine⟨by decide,by decide,dg (fun done σ S'=>(∃a4 a5 a6 a7,σ=[some (.cl (ns.map PV.int)),some (.ref d),some (.ref q),some (.ref p),a4,a5,a6,a7])/\Ext S5 S') ⟨⟨_,_,_,_,rfl⟩,X6⟩ (fun _ _ _ _=>trivial) ?_ ?_⟩
  ·rintro yw x yx σ S7 K2 e2 ⟨⟨a4,a5,a6,a7,rfl⟩,X7⟩ ze
   obtain⟨k,hk,rfl⟩:∃k:Nat,k < 7/\x = .int k:=by
    have hx:x∈[PV.int 0,PV.int 1,PV.int 2,PV.int 3,PV.int 4,PV.int 5,PV.int 6]:=by
     have:x∈aL 0 (7:Int).toNat:=by rw[e2];simp
     exact this
    simp only[zE,Aq,Bj]at hx
    rcases hx with rfl|rfl|rfl|rfl|rfl|rfl|rfl
    ·exact⟨0,by decide,rfl⟩
    ·exact⟨1,by decide,rfl⟩
    ·exact⟨2,by decide,rfl⟩
    ·exact⟨3,by decide,rfl⟩
    ·exact⟨4,by decide,rfl⟩
    ·exact⟨5,by decide,rfl⟩
    ·exact⟨6,by decide,rfl⟩
   obtain⟨c,ks,ps,I,zf⟩:=kt hn hz hy hk
   have zg:=X7 _ _ hp
   simp only[Tg.put,List.set_cons_zero,List.set_cons_succ]
   refine cp fun N2 zh=>?_
   simp only[iX,aF,v3,lk,bh,zg,zf,Tg.put,Tg.t6,List.set_cons_zero,List.set_cons_succ]
   refine zh _ _ (cp fun N3 zi=>?_)
   walk_at "x"
   refine um I fun pa S8 X8 ea pb v4=>?_
   have zj:ah S8 pb (.lst [PV.int k]) pa=some (.lst [PV.int k]):=by rw[af (fun z=>by rw[<-z,ea]at v4;cases v4)];exact ea
   refine⟨.list [.int k],.list [.int k],.ref zj (.cons (.int _) .nil),.ref aa (.cons (.int _) .nil),by simp[PyData.canLay0,PyData.canLayAll0],by simp[PyData.canLay0,PyData.canLayAll0],by simp[PyData.depth,PyData.depthAll],?_⟩
   rw[show(PyData.list [.int k]).eqv (.list [.int k])=true by simp[PyData.eqv,PyData.eqvAll]]
   simp only[Bool.bne_true,Av,zO,Ag,Bf]
   refine uC I fun S9 X9=>?_
   simp only[AA,Bool.bne_true,Av,zO,Ag,Bf]
   have zk:Ext S5 S9:=X7.trans (X8.trans ((Ext.new v4).trans X9))
   refine zi _ _ ?_
   walk_at "x"
   simp only[kj]
   walk_at "x"
   refine dg (fun done σ S'=>(∃a7,σ=[some (.cl (ns.map PV.int)),some (.ref d),some (.ref q),some (.ref p),some (.int k),some (.exc c ks ps),some (.cd ks ps),a7])/\Ext S5 S') ⟨⟨_,rfl⟩,zk⟩ (fun _ _ _ _=>trivial) ?_ ?_
   ·rintro yy x yz σ zl K3 e3 ⟨⟨a7,rfl⟩,xW⟩ zm
    obtain⟨key,hkey,rfl⟩:∃key,key∈ks/\PV.str key=x:=Ba.mp (show x∈ks.map PV.str by rw[e3];simp)
    obtain⟨v,hv,hr⟩:=I.fld hkey
    obtain⟨rz,yA⟩:=sZ hr
    walk_at "x"
    refine uQ I hv ?_
    refine yA ?_
    simp only[oi]
    walk_at "x"
    refine⟨v,hv,yA ?_⟩
    simp only[AA,Bool.bne_true,Av,zO,Ag,Bf]
    exact zm _ _ ⟨⟨_,rfl⟩,xW⟩
   ·rintro σ zl ⟨⟨a7,rfl⟩,xW⟩
    exact ze _ _ ⟨⟨_,_,_,_,rfl⟩,xW⟩
  ·rintro σ S7 ⟨⟨a4,a5,a6,a7,rfl⟩,X7⟩
   exact hK _ _ ⟨⟨_,_,_,_,_,rfl⟩,X7⟩
 ·rintro σ S6 ⟨⟨a3,a4,a5,a6,a7,rfl⟩,X6⟩
  refine hN _ _ ?_
  walk_at "x"
  exact k _
def oK:ck w__law_draw:=tP
def ku:∀ns:List Int,ns.length<=63->gq [.cl (ns.map PV.int)] (fun _=>none) (fun v _=>v = .bl true) df:=fun ns h=>oJ u8 (uN oK) um (uC uB um) uQ h fun _=>rfl
end G02
namespace L3
open PySem L2 Xc
def sf{P:List Value->Prop}(h:∀a,P [a])(us:Vv)(hl:us.length=1):P us:=match us,hl with|[_],_=>h _
def mi{P:List Value->Prop}(h:∀a b,P [a,b])(us:Vv)(hl:us.length=2):P us:=match us,hl with|[_,_],_=>h _ _
def s9{P:List Value->Prop}(h:∀a b c,P [a,b,c])(us:Vv)(hl:us.length=3):P us:=match us,hl with|[_,_,_],_=>h _ _ _
section
variable {K:Vo} {h:Heap} {mg:Vr} {x c m q:Str} {st:Stmt} {ps fl:Vs}
noncomputable def jc:Option (Option Value)->Bool
 |some none=>true
 |_=>false
def iw{o:Option (Option Value)}(h:jc o=true):o=some none:=by
 unfold jc at h;split at h
 ·rfl
 ·cases h
def FnAt(K:Vo)(f:Addr)(m q:Str)(st:Stmt):Prop:=∃(oc kV doc pm cdv ct:Value) (od an:Option Addr) (osl:Array (Option Value)),
 K.lookup f=some ⟨oc,od,.func (PySem.W.fnOf m q (aT st) (aq st) (ae st) .none kV doc pm an cdv ct),osl⟩/\PySem.W.codeIn K cdv q=true/\PySem.W.keepIn K (.ref f)=true
abbrev ix(m q:Str)(st:Stmt)(ps:Vs):Prop:=∀(kV doc pm:Value) (an:Option Addr) (cdv ct:Value) (us:Vv),us.length=ps.length->bindArgs (PySem.W.fnOf m q (aT st) (aq st) (ae st) .none kV doc pm an cdv ct) ⟨us,[]⟩=pure (ps.zip us)
def FnAt.mk{f:Addr}(a:FnAt K f m q st)(hb:ix m q st ps):∃fd,vK K m q st f fd/\Binds K fd ps []/\PySem.W.keepIn K (.ref f)=true:=by
 obtain⟨oc,kV,doc,pm,cdv,ct,od,an,osl,l,cc,k⟩:=a
 exact⟨_,fj l cc k,(fj l cc k).binds hb,k⟩
def vI(K:Vo)(x:Str)(st:Stmt):Prop:=∃f,PySem.W.nsIn K mainGlobals x=some (some (.ref f))/\FnAt K f x x st
def vI.own(X:K.In h)(G:h.Ns mainGlobals mg)(a:vI K x st)(hb:ix x x st ps):d8 K mg x st ps:=by
 obtain⟨f,n,a⟩:=a
 obtain⟨fd,F,b,k⟩:=a.mk hb
 exact⟨f,fd,F,b,k,AG X G n⟩
def vI.law{fa:Addr}(X:K.In h)(G:h.Ns mainGlobals mg)(a:vI K x st)(hfa:mg x=some (.ref fa))(hb:ix x x st ps):∃kV doc pm an cdv ct,qQ K mg x st ps fa (PySem.W.fnOf x x (aT st) (aq st) (ae st) .none kV doc pm an cdv ct):=by
 obtain⟨f,n,oc,kV,doc,pm,cdv,ct,od,an,osl,l,cc,k⟩:=a
 cases hfa.symm.trans (AG X G n)
 exact⟨kV,doc,pm,an,cdv,ct,fj l cc k,(fj l cc k).binds hb,k,hfa⟩
def XcK(K:Vo)(c q:Str)(st:Stmt)(fl:Vs):Prop:=∃C f,PySem.W.nsIn K mainGlobals c=some (some (.ref C))/\PySem.W.findIn K (.ref C) "__init__" = some (some (.ref f))/\PySem.W.isFn K (.ref f)=true/\FnAt K f "__init__" q st/\PySem.W.keepIn K (.ref C)=true/\
 PySem.W.findIn K (.ref C) "__setattr__" = some (some (.builtin "object.__setattr__"))/\PySem.W.findIn K (.ref C) "__getattribute__" = some (some (.builtin "BaseException.__getattribute__"))/\PySem.W.findIn K (.ref C) "__getattr__" = some none/\
 PySem.W.mroIn K C (.type "BaseException")=some true/\PySem.W.mroIn K C (.type "object")=some true/\PySem.W.findIn K (.ref C) "__class__" = some (some (.builtin "object.__class__"))/\
 PySem.W.specialIn K (.builtin "object.__class__") "__get__" = some (some (.builtin "getset_descriptor.__get__"))/\PySem.W.takesIn K (.builtin "object.__class__")=some true/\
 (bD K C&&(PySem.W.kitOne K (.ref C) (.type "ValueError") == some true)&&fl.all fun f=>jc (PySem.W.findIn K (.ref C) f))=true
def XcK.ek(a:XcK K c q st fl):∃C,ClsN K c C/\ExcK K C/\PySem.W.kitOne K (.ref C) (.type "ValueError")=some true/\∀f∈fl,NoAttr K C f:=by
 obtain⟨C,f,n,i1,i2,i3,i4,e1,e2,e3,e4,e5,e6,e7,e8,r⟩:=a
 simp only[z8,A2]at r
 obtain⟨⟨r1,r2⟩,r3⟩:=r
 exact⟨C,n,⟨r1,e1,e2,e3,e4,e5,e6,e7,e8⟩,eq_of_beq r2,fun f hf=>iw (r3 f hf)⟩
def XcK.xc(X:K.In h)(G:h.Ns mainGlobals mg)(a:XcK K c q st fl)(hb:ix "__init__" q st ps):n9 K mg c q st ps fl:=by
 obtain⟨C',n',ek,_,na⟩:=a.ek
 obtain⟨C,f,n,i1,i2,i3,i4,_⟩:=a
 have e:=ClsN.inj (c:=c) n' n;subst e
 obtain⟨fd,F,b,kp⟩:=i3.mk hb
 exact⟨_,f,fd,F,b,n,AG X G n,ek,na,i1,i2,i4⟩
def gv(X:K.In h)(G:h.Ns mainGlobals mg)(a:∃C,PySem.W.nsIn K mainGlobals c=some (some (.ref C))):kE K mg c:=let ⟨C,e⟩:=a;⟨C,AG X G e,e⟩
def xm(K:Vo)(D:Str)(cs:Vs):Prop:=∃C,PySem.W.nsIn K mainGlobals D=some (some (.ref C))/\PySem.W.typeIn K (.ref C)=some (.type "type")/\PySem.W.hasDictIn K C=true/\PySem.W.mroIn K C (.type "BaseException")=some true/\
 (cs.all fun c=>match PySem.W.nsIn K mainGlobals c with|some (some (.ref B))=>PySem.W.mroIn K B (.ref C) == some true|_=>false)=true
theorem iy{C:Addr}:∀{cs:Vs},(cs.all fun c=>match PySem.W.nsIn K mainGlobals c with|some (some (.ref B))=>PySem.W.mroIn K B (.ref C) == some true|_=>false)=true->vk K C cs
 |[],_=>trivial
 |d::cs,e=>by
  rw[List.all_cons,z8]at e
  obtain⟨e1,e2⟩:=e
  refine⟨?_,iy e2⟩
  split at e1
  ·rename_i B hB;exact⟨B,hB,eq_of_beq e1⟩
  ·cases e1
def xm.xe(X:K.In h)(G:h.Ns mainGlobals mg){cs:Vs}(a:xm K x cs):rT K mg x cs:=by
 obtain⟨C,n,t,d,b,r⟩:=a
 exact⟨C,AG X G n,⟨t,(by obtain⟨cd,hc,_⟩:=PySem.W.any_some d;rw[hc];rfl),b⟩,iy r⟩
def ky{l:List (Str×Str)}(r:∀p∈l,∃q st fl,XcK K p.1 q st fl/\p.2∈fl):uP K l:=by
 induction l with
 |nil=>trivial
 |cons p l ih=>
  obtain⟨q,st,fl,a,hf⟩:=r p (by simp)
  obtain⟨C,n,ek,_,na⟩:=a.ek
  exact⟨⟨C,n,ek,na _ hf⟩,ih fun p' hp=>r p' (by simp[hp])⟩
def kz(K:Vo)(l:List (Str×Str×Bool)):Prop:=(l.all fun t=>match PySem.W.nsIn K mainGlobals t.1,PySem.W.nsIn K mainGlobals t.2.1 with|some (some (.ref C)),some (some (.ref D))=>PySem.W.kitOne K (.ref C) (.ref D) == some t.2.2|_,_=>false)=true
def fz(X:K.In h)(G:h.Ns mainGlobals mg){l:Vs}(a:(l.all fun x=>jc (PySem.W.nsIn K mainGlobals x))=true)(hx:x∈l:=by decide):mg x=none:=PySem.W.mg_none_of X G (iw (A2.mp a x hx))
section
variable {f C:Addr} {oc kV doc pm cdv ct:Value} {od an:Option Addr} {osl:Array (Option Value)}
def s_(n:PySem.W.nsIn K mainGlobals x=some (some (.ref f)))(l:K.lookup f=some ⟨oc,od,.func (PySem.W.fnOf x x (aT st) (aq st) (ae st) .none kV doc pm an cdv ct),osl⟩)(cc:PySem.W.codeIn K cdv x=true)(k:PySem.W.keepIn K (.ref f)=true):vI K x st:=⟨f,n,oc,kV,doc,pm,cdv,ct,od,an,osl,l,cc,k⟩
def tj(n:PySem.W.nsIn K mainGlobals c=some (some (.ref C)))(e:PySem.W.findIn K (.ref C) "__init__" = some (some (.ref f)))(i:PySem.W.isFn K (.ref f)=true)(l:K.lookup f=some ⟨oc,od,.func (PySem.W.fnOf "__init__" q (aT st) (aq st) (ae st) .none kV doc pm an cdv ct),osl⟩)(cc:PySem.W.codeIn K cdv q=true)(k:PySem.W.keepIn K (.ref f)=true)(kc:PySem.W.keepIn K (.ref C)=true)
  (e1:PySem.W.findIn K (.ref C) "__setattr__" = some (some (.builtin "object.__setattr__"))) (e2:PySem.W.findIn K (.ref C) "__getattribute__" = some (some (.builtin "BaseException.__getattribute__"))) (e3:PySem.W.findIn K (.ref C) "__getattr__" = some none)
  (e4:PySem.W.mroIn K C (.type "BaseException")=some true) (e5:PySem.W.mroIn K C (.type "object")=some true) (e6:PySem.W.findIn K (.ref C) "__class__" = some (some (.builtin "object.__class__")))
  (e7:PySem.W.specialIn K (.builtin "object.__class__") "__get__" = some (some (.builtin "getset_descriptor.__get__"))) (e8:PySem.W.takesIn K (.builtin "object.__class__")=some true)
  (r:(bD K C&&(PySem.W.kitOne K (.ref C) (.type "ValueError") == some true)&&fl.all fun f=>jc (PySem.W.findIn K (.ref C) f))=true):XcK K c q st fl:=⟨C,f,n,e,i,⟨oc,kV,doc,pm,cdv,ct,od,an,osl,l,cc,k⟩,kc,e1,e2,e3,e4,e5,e6,e7,e8,r⟩
def tq{cs:Vs}(n:PySem.W.nsIn K mainGlobals x=some (some (.ref C)))(t:PySem.W.typeIn K (.ref C)=some (.type "type"))(d:PySem.W.hasDictIn K C=true)(b:PySem.W.mroIn K C (.type "BaseException")=some true)
  (r:(cs.all fun c=>match PySem.W.nsIn K mainGlobals c with|some (some (.ref B))=>PySem.W.mroIn K B (.ref C) == some true|_=>false)=true):xm K x cs:=⟨C,n,t,d,b,r⟩
def mj(n:PySem.W.nsIn K mainGlobals x=some (some (.ref C))):∃C,PySem.W.nsIn K mainGlobals x=some (some (.ref C)):=⟨C,n⟩
end
end
section
variable {K:Vo} {h:Heap} {mg:Vr} {c:Str} {C:Addr}
def v5(K:Vo)(c:Str):Prop:=∃C,PySem.W.nsIn K mainGlobals c=some (some (.ref C))/\PySem.W.findIn K (.ref C) "__init__" = some (some (.builtin "ValueError.__init__"))/\PySem.W.keepIn K (.ref C)=true/\
 PySem.W.findIn K (.ref C) "__setattr__" = some (some (.builtin "object.__setattr__"))/\PySem.W.findIn K (.ref C) "__getattribute__" = some (some (.builtin "BaseException.__getattribute__"))/\PySem.W.findIn K (.ref C) "__getattr__" = some none/\
 PySem.W.mroIn K C (.type "BaseException")=some true/\PySem.W.mroIn K C (.type "object")=some true/\PySem.W.findIn K (.ref C) "__class__" = some (some (.builtin "object.__class__"))/\
 PySem.W.specialIn K (.builtin "object.__class__") "__get__" = some (some (.builtin "getset_descriptor.__get__"))/\PySem.W.takesIn K (.builtin "object.__class__")=some true/\
 (bD K C&&(PySem.W.kitOne K (.ref C) (.type "ValueError") == some true))=true
def tt(n:PySem.W.nsIn K mainGlobals c=some (some (.ref C)))(e:PySem.W.findIn K (.ref C) "__init__" = some (some (.builtin "ValueError.__init__")))(kc:PySem.W.keepIn K (.ref C)=true)
  (e1:PySem.W.findIn K (.ref C) "__setattr__" = some (some (.builtin "object.__setattr__"))) (e2:PySem.W.findIn K (.ref C) "__getattribute__" = some (some (.builtin "BaseException.__getattribute__"))) (e3:PySem.W.findIn K (.ref C) "__getattr__" = some none)
  (e4:PySem.W.mroIn K C (.type "BaseException")=some true) (e5:PySem.W.mroIn K C (.type "object")=some true) (e6:PySem.W.findIn K (.ref C) "__class__" = some (some (.builtin "object.__class__")))
  (e7:PySem.W.specialIn K (.builtin "object.__class__") "__get__" = some (some (.builtin "getset_descriptor.__get__"))) (e8:PySem.W.takesIn K (.builtin "object.__class__")=some true)
  (r:(bD K C&&(PySem.W.kitOne K (.ref C) (.type "ValueError") == some true))=true):v5 K c:=⟨C,n,e,kc,e1,e2,e3,e4,e5,e6,e7,e8,r⟩
def v5.all(a:v5 K c):∃C,ClsN K c C/\ExcK K C/\PySem.W.kitOne K (.ref C) (.type "ValueError")=some true/\PySem.W.findIn K (.ref C) "__init__" = some (some (.builtin "ValueError.__init__"))/\PySem.W.keepIn K (.ref C)=true:=by
 obtain⟨C,n,i,k,e1,e2,e3,e4,e5,e6,e7,e8,r⟩:=a
 rw[z8]at r
 exact⟨C,n,⟨r.1,e1,e2,e3,e4,e5,e6,e7,e8⟩,eq_of_beq r.2,i,k⟩
def v5.ek(a:v5 K c):∃C,ClsN K c C/\ExcK K C/\PySem.W.kitOne K (.ref C) (.type "ValueError")=some true:=let ⟨C,h1,h2,h3,_⟩:=a.all;⟨C,h1,h2,h3⟩
def v5.x0(X:K.In h)(G:h.Ns mainGlobals mg)(a:v5 K c):oY K mg c:=let ⟨C,h1,h2,h3,h4,h5⟩:=a.all;⟨C,AG X G h1,h1,h2,h4,h5⟩
def kA{l:List (Str×Str×Bool)}(e:kz K l)(r:∀p∈l,∃C,ClsN K p.1 C/\ExcK K C/\PySem.W.kitOne K (.ref C) (.type "ValueError")=some true):XTab K l:=by
 induction l with
 |nil=>trivial
 |cons p l ih=>
  unfold kz at e
  rw[List.all_cons,z8]at e
  obtain⟨e1,e2⟩:=e
  obtain⟨c,d,b⟩:=p
  refine⟨?_,ih e2 fun p' hp=>r p' (by simp[hp])⟩
  obtain⟨C',n',ek,kv⟩:=r (c,d,b) (by simp)
  split at e1
  ·rename_i C D h1 h2
   have e:=ClsN.inj (c:=c) n' h1;subst e
   exact⟨_,D,h1,h2,ek,eq_of_beq e1,kv⟩
  ·cases e1
end
def XcK.e3{q:Str}{st:Stmt}{fl:Vs}(a:XcK K c q st fl):∃C,ClsN K c C/\ExcK K C/\PySem.W.kitOne K (.ref C) (.type "ValueError")=some true:=let ⟨C,h1,h2,h3,_⟩:=a.ek;⟨C,h1,h2,h3⟩
def kB{l:List (Str×Str×Bool)}{cs:Vs}(e:kz K l)(hc:(l.all fun p=>cs.contains p.1)=true)(r:∀c∈cs,∃C,ClsN K c C/\ExcK K C/\PySem.W.kitOne K (.ref C) (.type "ValueError")=some true):XTab K l:=
 kA e fun p hp=>r p.1 (by have:=A2.mp hc p hp;simpa using this)
end L3
namespace L2
open PySem PySem.Spec PyProof.Rows
end L2
namespace L3
open PySem L2
end L3
namespace G02
open PySem L2 L3
def oM{l:PySem.W.OpenLaw}{w:World}{K:Vo}{h:Heap}{mg:Vr}{fa:Addr}(X:K.In h)(G:h.Ns mainGlobals mg)(hfa:mg "law" = some (.ref fa))
  (tU:vI K "_law_deal" (gl 10))
  (tV:vI K "_law_draw" (gl 11))
  (tW:vI K "_law_made" (gl 12))
  (tO:vI K "_law_field" (gl 13))
  (tX:vI K "_law_sort" (gl 14))
  (tL:vI K "_law_raised" (gl 15))
  (tM:vI K "_law_caught" (gl 16))
  (t7:∃C,PySem.W.nsIn K mainGlobals "DueError" = some (some (.ref C)))
  (ue:∃C,PySem.W.nsIn K mainGlobals "BadText" = some (some (.ref C)))
  (uf:∃C,PySem.W.nsIn K mainGlobals "NoHouse" = some (some (.ref C)))
  (uD:∃C,PySem.W.nsIn K mainGlobals "Stuck" = some (some (.ref C)))
  (ug:∃C,PySem.W.nsIn K mainGlobals "TooLong" = some (some (.ref C)))
  (uh:∃C,PySem.W.nsIn K mainGlobals "NoStory" = some (some (.ref C)))
  (uk:∃C,PySem.W.nsIn K mainGlobals "TooMany" = some (some (.ref C)))
  (uE:∃C,PySem.W.nsIn K mainGlobals "NoRow" = some (some (.ref C)))
  (tJ:XcK K "BadText" "BadText.__init__" (mt 2 0) ["row"])
  (tG:XcK K "NoHouse" "NoHouse.__init__" (mt 3 0) ["word","name"])
  (tY:XcK K "Stuck" "Stuck.__init__" (mt 4 0) ["row"])
  (tK:XcK K "TooLong" "TooLong.__init__" (mt 5 0) ["most"])
  (tR:v5 K "NoStory")
  (tS:v5 K "TooMany")
  (uo:v5 K "NoRow")
  (t8:xm K "DueError" ["BadText","NoHouse","Stuck","TooLong","NoStory","TooMany","NoRow"])
  (vY:kz K t_)
  (vZ:((["ValueError","int","isinstance","len","list","max","range","repr","reversed"]:Vs).all fun x=>jc (PySem.W.nsIn K mainGlobals x))=true)
  (v0:vI K "law" (gl 17))
  : ∃fd:FuncData,FL fd ["_law_script"]/\(∀(s:Shared) (v:Value),BindsTo s fd ⟨[v],[]⟩ [("_law_script",v)])/\∀base:Heap,K.In base->base.Ns mainGlobals mg->eZ l.prog w K mg base fi 5 fa fd ["_law_script"] (ql K 1 gq):=by
 obtain⟨kV,doc,pm,an,cdv,ct,O⟩:=v0.law X G hfa (ps:=["_law_script"]) (fun _ _ _ _ _ _=>sf fun _=>rfl)
 exact⟨_,by rfl,fun s v=>.of_eq rfl,fun base _ _=>(oE (P:=l.prog) (w:=w) (base:=base) ⟨tU.own X G (fun _ _ _ _ _ _=>mi fun _ _=>rfl),
  tV.own X G (fun _ _ _ _ _ _=>mi fun _ _=>rfl),
  tW.own X G (fun _ _ _ _ _ _=>sf fun _=>rfl),
  tO.own X G (fun _ _ _ _ _ _=>mi fun _ _=>rfl),
  tX.own X G (fun _ _ _ _ _ _=>sf fun _=>rfl),
  tL.own X G (fun _ _ _ _ _ _=>mi fun _ _=>rfl),
  tM.own X G (fun _ _ _ _ _ _=>mi fun _ _=>rfl),
  fz (x:="ValueError") X G vZ,
  fz (x:="int") X G vZ,
  fz (x:="isinstance") X G vZ,
  fz (x:="len") X G vZ,
  fz (x:="list") X G vZ,
  fz (x:="max") X G vZ,
  fz (x:="range") X G vZ,
  fz (x:="repr") X G vZ,
  fz (x:="reversed") X G vZ,
  gv X G t7,
  gv X G ue,
  gv X G uf,
  gv X G uD,
  gv X G ug,
  gv X G uh,
  gv X G uk,
  gv X G uE,
  tJ.xc X G (fun _ _ _ _ _ _=>mi fun _ _=>rfl),
  tG.xc X G (fun _ _ _ _ _ _=>s9 fun _ _ _=>rfl),
  tY.xc X G (fun _ _ _ _ _ _=>mi fun _ _=>rfl),
  tK.xc X G (fun _ _ _ _ _ _=>mi fun _ _=>rfl),
  tR.x0 X G,
  tS.x0 X G,
  uo.x0 X G,
  t8.xe X G,
  ky (by intro p hp;simp only[vW,zE,Aq,Bj]at hp;rcases hp with rfl|rfl|rfl|rfl|rfl;exact⟨_,_,_,tJ,by decide⟩;exact⟨_,_,_,tG,by decide⟩;exact⟨_,_,_,tG,by decide⟩;exact⟨_,_,_,tY,by decide⟩;exact⟨_,_,_,tK,by decide⟩),
  kB (cs:=["BadText","NoHouse","Stuck","TooLong","NoStory","TooMany","NoRow"]) vY (by decide +kernel) (by intro c hc;simp only[zE,Aq,Bj]at hc;rcases hc with rfl|rfl|rfl|rfl|rfl|rfl|rfl;exact tJ.e3;exact tG.e3;exact tY.e3;exact tK.e3;exact tR.ek;exact tS.ek;exact uo.ek)⟩ O).ok⟩
def sg{l:PySem.W.OpenLaw}{q:Program}{loose:Vs}{XP:(Vr)->Heap->Prop}{YP:World->Heap->Prop}{d:DefRec}{K:Params->PySem.W.Frag}(hn:l.most=some 63)(hdf:d.params.defaults=[])
  (hY:∀(w:World) (h:Heap),YP w h->(K w.params).In h)
  (F:∀(w:World) (mg:Vr) (fa:Addr) (h:Heap),(K w.params).In h->h.Ns mainGlobals mg->mg d.name=some (.ref fa)->
   ∃fd:FuncData,FL fd ["_law_script"]/\(∀(s:Shared) (u:Value),BindsTo s fd ⟨[u],[]⟩ [("_law_script",u)])/\∀base:Heap,(K w.params).In base->base.Ns mainGlobals mg->eZ l.prog w (K w.params) mg base fi 5 fa fd ["_law_script"] (ql (K w.params) 1 gq)) :
  PySem.W.WalkO q loose XP YP l.row.toRowW d [] (fun f vs=>PySem.call f vs):=
 L2.li (n:=63) (k:=5) (x:="_law_script") (CX:=fun _=>fi) (sp:=fun w=>ql (K w.params) 1 gq) hn (by decide) hdf ⟨fun _=>rfl,by decide,by decide,rfl⟩ hY F (fun _ _ a ns hl hO hS=>rK hO hS (ku ns hl)) fun _ _ _ _ _ z=>z
end G02
local macro_rules | `(tactic| walk_at "k")=>`(tactic| (apply L3.s_; k_is; k_is; k_is; k_is))
local macro_rules | `(tactic| walk_at "e")=>`(tactic| (apply L3.tj; k_is; k_is; k_is; k_is; k_is; k_is; k_is; k_is; k_is; k_is; k_is; k_is; k_is; k_is; k_is; kernel_rfl))
local macro_rules | `(tactic| walk_at "g")=>`(tactic| (apply L3.tt; k_is; k_is; k_is; k_is; k_is; k_is; k_is; k_is; k_is; k_is; k_is; kernel_rfl))
local macro_rules | `(tactic| walk_at "t")=>`(tactic| (apply L3.tq; k_is; k_is; k_is; k_is; kernel_rfl))
open PySem PySem.W PyProof.Rows
set_option maxRecDepth 100000 in
set_option maxHeartbeats 0 in
theorem PySem.Challenge.cw_dueworth_k02_refusals_holds : PySem.Challenge.rw_dueworth_k02_refusals.Holds := by
 w_on; refine holds_law E02.said fun said => ?_
 refine holds_open (q := E02.vw) (loose := []) (Xt := fun s => (xlAt E02.vw [] s && recOk (RowW.records E02.rr) s)) (XP := XL E02.vw []) (N := 4254)
  (Yf := Hook.obs E02.hk) (Ya := Hook.val E02.hk) (YP := Hook.says (kHook E02.early.heap_1 E02.as E02.sh)) E02.left (Hook.of E02.hk) (Hook.keeps E02.hk) (fun s e => xl_of s (Aw.mp e).1)
  XL.keeps rfl rfl rfl (fun s e => recFacts_of (Aw.mp e).2) rfl (by assumption)
  (by decide +kernel) ⟨rfl, rfl, rfl, rfl, rfl, by decide +kernel⟩ ?hw ?hc
 (case hw => w_witness2)
 k_fill
 refine G02.sg (l := PySem.Challenge.rw_dueworth_k02_refusals) rfl rfl (fun w h Y => PySem.W.kIn_of Y) ?F
 case F =>
  intro w mg fa h KX G hmg
  refine' G02.oM KX G hmg ?tU ?tV ?tW ?tO ?tX ?tL ?tM ?t7 ?ue ?uf ?uD ?ug ?uh ?uk ?uE ?tJ ?tG ?tY ?tK ?tR ?tS ?uo ?t8 ?vY ?vZ ?v0
  (case tU => walk_at "k")
  (case tV => walk_at "k")
  (case tW => walk_at "k")
  (case tO => walk_at "k")
  (case tX => walk_at "k")
  (case tL => walk_at "k")
  (case tM => walk_at "k")
  (case t7 => apply L3.mj; k_is)
  (case ue => apply L3.mj; k_is)
  (case uf => apply L3.mj; k_is)
  (case uD => apply L3.mj; k_is)
  (case ug => apply L3.mj; k_is)
  (case uh => apply L3.mj; k_is)
  (case uk => apply L3.mj; k_is)
  (case uE => apply L3.mj; k_is)
  (case tJ => walk_at "e")
  (case tG => walk_at "e")
  (case tY => walk_at "e")
  (case tK => walk_at "e")
  (case tR => walk_at "g")
  (case tS => walk_at "g")
  (case uo => walk_at "g")
  (case t8 => walk_at "t")
  (case vY => unfold L3.kz; kernel_rfl)
  (case vZ => kernel_rfl)
  (case v0 => walk_at "k")
#print axioms PySem.Challenge.cw_dueworth_k02_refusals_holds
