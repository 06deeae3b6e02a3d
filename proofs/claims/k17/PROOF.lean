import PyProof.Rows.All
import Wide.All
import OpenK.AllK
import Wide.FinOn
import Lean
import PyProof.EqAt
import PyProof.EqKinds
import PyProof.TupleCall
import PySem.Challenge.RW_dueworth_k17_whole_traces_gone_by_charts
import Open.Tree
import Open.Head
section
set_option Elab.async false
set_option linter.all false
set_option maxRecDepth 100000
set_option maxHeartbeats 0
abbrev Ft:=@Nat.le_refl
abbrev Fv:=@List.length_append
abbrev Fw:=@PySem.wpAny_bind
abbrev Fx:=@List.length_map
abbrev Fy:=@List.size_toArray
abbrev Fz:=@Bool.false_eq_true
abbrev FA:=@PySem.Heap.get?_push_of_some
abbrev FD:=@PySem.Heap.lt_size
abbrev FE:=@List.mem_cons
abbrev FF:=@decide_eq_true_eq
abbrev FG:=@List.length_cons
abbrev FH:=@Bool.false_bne
abbrev FI:=@Nat.le_trans
abbrev FJ:=@PySem.wpAny_pure
abbrev FL:=@Nat.lt_of_lt_of_le
abbrev FN:=@List.not_mem_nil
abbrev FO:=@List.map_cons
abbrev FP:=@Bool.false_ne_true
abbrev FQ:=@decide_eq_false
abbrev FT:=@PySem.Heap.get?_push_size
abbrev FU:=@List.getElem?_eq_some_iff
abbrev FW:=@Nat.ne_of_lt
abbrev FY:=@List.getElem?_map
abbrev FZ:=@List.mem_append_right
abbrev F0:=@if_false
abbrev F1:=@List.mem_cons_of_mem
abbrev F2:=@List.mem_singleton
abbrev F3:=@List.getElem?_append_left
abbrev F4:=@List.mem_append
abbrev F5:=@congrArg
abbrev F6:=@List.getElem?_eq_getElem
abbrev F7:=@PyProof.Rows.slot_tuple_getitem
abbrev F8:=@if_true
abbrev F9:=@List.getElem?_append_right
abbrev Ga:=@Option.some.inj
abbrev Gb:=@List.append_nil
abbrev Gd:=@PySem.PassesOwn.never
abbrev Ge:=@List.length_take
abbrev Gf:=@List.replicate_succ
abbrev Gg:=@List.length_singleton
abbrev Gh:=@List.mem_of_getElem?
abbrev Gi:=@or_false
abbrev Gj:=@List.length_drop
abbrev Gk:=@List.length_replicate
abbrev Gm:=@decide_eq_true
abbrev Gn:=@List.mem_map
abbrev Gp:=@List.mem_append_left
abbrev Gq:=@Nat.zero_le
abbrev Gr:=@PyProof.Rows.callWith_type1
abbrev Gs:=@PySem.wpAny_newObj_type
abbrev Gu:=@List.flatten_cons
abbrev Gv:=@List.nodup_cons
abbrev Gw:=@List.getElem?_eq_none
abbrev Gx:=@List.mem_cons_self
abbrev Gy:=@Bool.and_eq_true
abbrev Gz:=@List.all_eq_true
abbrev GA:=@Nat.lt_irrefl
abbrev GB:=@List.getElem?_replicate
abbrev GC:=@List.map_append
abbrev GD:=@Nat.not_le
abbrev GF:=@PySem.mem_of_lookup
abbrev GG:=@Option.map_eq_some_iff
abbrev GH:=@Bool.not_true
abbrev GI:=@PyProof.Rows.assignInOrder_cons
abbrev GJ:=@PySem.F.slot_tuple_iterator_next
abbrev GK:=@PySem.wpAny_passesOwn
abbrev GL:=@Bool.eq_iff_iff
abbrev GN:=@Int.toNat_natCast
abbrev GO:=@List.flatMap_cons
abbrev GP:=@Int.mul_ediv_cancel_left
abbrev GQ:=@PySem.wpAny_callSpecial?_slot
abbrev GR:=@Int.fdiv_eq_ediv_of_dvd
abbrev GS:=@Int.eq_ofNat_of_zero_le
abbrev GU:=@Bool.not_false
abbrev GV:=@List.filter_cons_of_pos
abbrev GW:=@PySem.wpAny_mono
abbrev GX:=@PySem.Calls.spliced_cons
abbrev GY:=@PySem.wpAny_Call_Name_kw
abbrev GZ:=@List.filter_append
abbrev G0:=@PySem.wpAny_truthy_bool
abbrev G1:=@Bool.and_eq_true_iff
abbrev G2:=@List.mem_range
abbrev G3:=@decide_true
abbrev G4:=@PySem.wpAny_holding
abbrev G5:=@PySem.F.args_tuple_add_2
abbrev G6:=@Ne.symm
abbrev G7:=@List.cons.injEq
abbrev G8:=@PySem.tupleKind_room_in1
abbrev G9:=@PySem.wpAny_pyIter_tuple
abbrev Hf:=@PySem.F.entry_tuple_add
abbrev Hg:=@PySem.wpAny_field
abbrev Hh:=@Nat.add_sub_cancel_left
abbrev Hi:=@PySem.F.plainAttrs_list
abbrev Hj:=@List.append_cancel_left
abbrev Hl:=@Nat.le_of_lt
abbrev Ho:=@PySem.wpAny_bindName
abbrev Hq:=@PySem.Calls.spliced_nil
abbrev Hr:=@PySem.F.slot_tuple_add
abbrev Hs:=@PySem.Heap.get?_update_other
abbrev Ht:=@PySem.Calls.callWith_builtin
abbrev Hu:=@List.reverse_cons
abbrev Hv:=@List.map_nil
abbrev Hw:=@Array.getElem?_eq_none
abbrev Hx:=@PySem.wpAny_pyIter_enum
abbrev Hy:=@List.map_map
abbrev Hz:=@Nat.zero_add
abbrev HA:=@decide_false
abbrev HB:=@List.eraseIdxIfInBounds_toArray
abbrev HC:=@PySem.Heap.get?_update_self
abbrev HD:=@Nat.le_of_ble_eq_true
abbrev HE:=@List.length_filter_le
abbrev HF:=@PySem.wpAny_call_entry
abbrev HG:=@List.cons_append
abbrev HH:=@List.any_cons
abbrev HJ:=@List.getElem?_mapIdx
abbrev HK:=@List.mem_filter
abbrev HL:=@PySem.wpAny_execs_nil
abbrev HM:=@List.length_nil
abbrev HN:=@PySem.wpAny_loadPart'
abbrev HP:=@Int.natCast_pos
abbrev HQ:=@Nat.min_eq_left
abbrev HR:=@List.filterMap_cons
abbrev HS:=@Array.length_toList
abbrev HU:=@List.getElem?_range
abbrev HV:=@List.flatMap_append
abbrev HW:=@List.map_congr_left
abbrev HX:=@Int.le_of_lt
abbrev HY:=@PySem.call_meets
abbrev HZ:=@Int.emod_lt_of_pos
abbrev Ia:=@Nat.add_sub_cancel
abbrev Ib:=@Option.isSome_map
abbrev Ic:=@Option.some.injEq
abbrev Ie:=@bne_self_eq_false
abbrev Ig:=@List.getElem_mem
abbrev Ih:=@List.filter_cons
abbrev Ii:=@Nat.ne_of_gt
abbrev Ij:=@Nat.lt_trans
namespace ET
open PySem PySem.W PyProof.Rows
def fD(tb:String→Option Builtin)(p:Program)(w:World)(n₀:Nat)(ann:Option Value):Nat→SharedT→Thread→Option SharedT
 |0,_,_=>none
 |n+1,s,t=>match through t with
  |true=>some s
  |false=>match stepOk n₀ ann t with
   |false=>none
   |true=>match stepT (denote tb) p w s t with
    |some x=>fD tb p w n₀ ann n x.1 x.2
    |none=>none
theorem jr{tb:String→Option Builtin}{p:Program}{w:World}{n₀:Nat}{ann:Option Value}:∀{n:Nat} {s s':SharedT} {t:Thread},fD tb p w n₀ ann n s t=some s'→topRun tb p w n₀ ann n s.abs t=some s'.abs
 |0,_,_,_,h=>by cases h
 |n+1,s,s',t,h=>by
  unfold fD at h
  unfold topRun
  cases he:through t with
  |true=>rw[he]at h;cases h;rfl
  |false=>
   rw[he]at h
   cases hk:stepOk n₀ ann t with
   |false=>rw[hk]at h;cases h
   |true=>
    rw[hk]at h
    cases hs:stepT (denote tb) p w s t with
    |none=>rw[hs]at h;cases h
    |some r=>rw[hs]at h;rw[stepT_spec hs];exact jr h
def vf:List Obj→BT→Nat→Option (BT×Nat)
 |[],t,n=>some (t,n)
 |o::os,t,n=>match ((t.ins n o).get n).isSome with
  |true=>vf os (t.ins n o) (n+1)
  |false=>none
theorem mv{life:Life}:∀{os:List Obj} {t t':BT} {n n':Nat},vf os t n=some (t',n')→absHeap t' n' life=⟨(absHeap t n life).objs++os.toArray,life⟩
 |[],t,t',n,n',h=>by cases h;simp[absHeap]
 |o::os,t,t',n,n',h=>by
  unfold vf at h
  cases g:((t.ins n o).get n).isSome with
  |false=>rw[g]at h;cases h
  |true=>
   rw[g]at h
   rw[mv h,absHeap_ins g]
   simp[Heap.push]
def fE(tb:String→Option Builtin)(p:Program)(w:World)(N:Nat)(s₀:Shared):Option Shared:=
 match s₀.heap.isNs mainGlobals&&s₀.gens.size == 0 with
 |true=>match vf s₀.heap.objs.toList .nil 0 with
  |some x=>match fD tb p w x.2 (s₀.heap.nsMap mainGlobals "__annotations__") N ⟨x.1,x.2,s₀.heap.life,s₀.gens,s₀.drawn,s₀.toks,s₀.os⟩ (topStub p)with
   |some s=>match staticsOk (importedModules p.main.body) s₀.heap s.abs.heap&&namesBound p s.abs.heap&&gensDone s.abs&&laidKept s₀.heap s.abs.heap with
    |true=>some s.abs
    |false=>none
   |none=>none
  |none=>none
 |false=>none
theorem lF{tb:String→Option Builtin}{p:Program}{w:World}{N:Nat}{s₀ s:Shared}(h:fE tb p w N s₀=some s):topFrom tb p w N s₀=some s:=by
 unfold fE at h
 unfold topFrom
 cases h1:s₀.heap.isNs mainGlobals&&s₀.gens.size == 0 with
 |false=>rw[h1]at h;cases h
 |true=>
  rw[h1]at h
  dsimp only at h ⊢
  cases h2:vf s₀.heap.objs.toList .nil 0 with
  |none=>rw[h2]at h;cases h
  |some x=>
   rw[h2]at h
   dsimp only at h
   have e:=mv (life:=s₀.heap.life) h2
   have e':absHeap x.1 x.2 s₀.heap.life=s₀.heap:=by
    rw[e]
    simp[absHeap,BT.list]
   have n':x.2=s₀.heap.objs.size:=by rw[←e',absHeap_size]
   cases h3:fD tb p w x.2 (s₀.heap.nsMap mainGlobals "__annotations__") N ⟨x.1,x.2,s₀.heap.life,s₀.gens,s₀.drawn,s₀.toks,s₀.os⟩ (topStub p)with
   |none=>rw[h3]at h;cases h
   |some r=>
    rw[h3]at h
    dsimp only at h
    have ea:SharedT.abs ⟨x.1,x.2,s₀.heap.life,s₀.gens,s₀.drawn,s₀.toks,s₀.os⟩=s₀:=by
     unfold SharedT.abs
     rw[e']
    have:=jr h3
    rw[ea,n']at this
    rw[this]
    exact h
theorem lG{tb:String→Option Builtin}{p:Program}{w:World}{N:Nat}{s₀:Shared}{α:Type}{f:Shared→α}{a:α}(h:Option.map f (fE tb p w N s₀)=some a):Option.map f (topFrom tb p w N s₀)=some a:=by
 obtain⟨s,h1,h2⟩:=GG.mp h
 rw[lF h1]
 exact F5 some h2
def seenT(p q:Program)(loose:List Str)(Xt:Shared→Bool){α:Type}(Yf:Shared→α)(N:Nat)(u u':World):=
 Option.map (fun c=>Option.map (fun s=>(openSeen q loose (importedModules p.main.body) Xt true s,Yf s)) (fE treeTable p u' N c)) (fencedOpening treeTable p u N)
lay_quick seenT
theorem mw{p q:Program}{loose:List Str}{Xt:Shared→Bool}{α:Type}{Yf:Shared→α}{N:Nat}{u u':World}{r}(h:PySem.W.Fast.tw2787559817927863336 p q loose Xt Yf N u u'=r):seenT p q loose Xt Yf N u u'=r:=by
 rw[PySem.W.Fast.te2787559817927863336]
 exact h
theorem wD{p q:Program}{loose:List Str}{Xt:Shared→Bool}{α:Type}{Yf:Shared→α}{Ya:World→α}{N:Nat}
  (h:∀u:World,seenT p q loose Xt Yf N u u=some (some (openGood q loose,Ya u))):LeftO p q loose Xt Yf Ya N:=fun u=>by
 obtain⟨c,a,b⟩:=GG.mp (h u)
 unfold openEnds
 rw[a]
 exact lG b
theorem n5{p q:Program}{loose:List Str}{Xt:Shared→Bool}{α:Type}{Yf:Shared→α}{Ya:World→α}{N:Nat}(row:String)
  (h0:∀u:World,seenT p q loose Xt Yf N u (u.withFollow row false)=some (some (openGood q loose,Ya (u.withFollow row false))))
  (h1:∀u:World,seenT p q loose Xt Yf N u (u.withFollow row true)=some (some (openGood q loose,Ya (u.withFollow row true)))):LeftO p q loose Xt Yf Ya N:=fun u=>by
 obtain⟨c,a,b⟩:=GG.mp (h0 u)
 obtain⟨c',a',b'⟩:=GG.mp (h1 u)
 have hc:c'=c:=by rw[a]at a';cases a';rfl
 subst hc
 have b:=lG b
 have b':=lG b'
 have hu:=World.withFollow_self u row
 unfold openEnds
 rw[a]
 cases hb:u.params.followText row<;>rw[hb]at hu
 ·rw[hu]at b
  exact b
 ·rw[hu]at b'
  exact b'
end ET
namespace E17
open PySem PySem.W PyProof.Rows
abbrev tp(i:Nat):Stmt:=PySem.Challenge.pw_dueworth_k17_whole_traces_gone_by_charts.main.body.getD i (.Pass ⟨0,0,0,0⟩)
/-- the text without what says nothing -/
def vw:Program:={ PySem.Challenge.pw_dueworth_k17_whole_traces_gone_by_charts with main:={ PySem.Challenge.pw_dueworth_k17_whole_traces_gone_by_charts.main with body:=[tp 1,tp 2,tp 3,tp 4,tp 6,tp 7,tp 8,tp 9,tp 10,tp 11,tp 12,tp 13,tp 15,tp 16,tp 17,tp 18,tp 19,tp 20,tp 21,tp 22,tp 23,tp 24,tp 26,tp 27,tp 28,tp 29,tp 30,tp 31,tp 32,tp 33,tp 34,tp 35,tp 36,tp 37,tp 38,tp 39] } }
abbrev rr:RowW:=OpenRow.toRowW (OpenLaw.row PySem.Challenge.rw_dueworth_k17_whole_traces_gone_by_charts)
local macro_rules | `(tactic| o_head $H)=>`(tactic|
 refine holds_open (q:=vw) (loose:=["SIDES_FROM"]) (Xt:=fun s=>(xlAt vw [] s&&recOk (RowW.records rr) s)) (XP:=XL vw []) (N:=2484)
  (Yf:=Hook.obs $H) (Ya:=Hook.val $H) (YP:=Hook.says $H) ?hl (Hook.of $H) (Hook.keeps $H) (fun s e=>xl_of s (G1.mp e).1)
  XL.keeps rfl rfl rfl (fun s e=>recFacts_of (G1.mp e).2) rfl (by assumption)
  (by decide +kernel) ⟨rfl,rfl,rfl,rfl,rfl,by decide +kernel⟩ ?hw ?hc)
/-- the law is well said: by the quick twin of the look,with no twin of the program -/
theorem said:OpenLaw.wellSaid PySem.Challenge.rw_dueworth_k17_whole_traces_gone_by_charts=true:=(congrFun PySem.W.Fast.te9446332074065402090 _).trans (by kernel_rfl)
/-- says nothing; what lies in the heap is written down by the way -/
theorem early(h:∀P:Prop,P):PySem.Challenge.rw_dueworth_k17_whole_traces_gone_by_charts.Holds:=by
 w_on;refine holds_law said fun said=>?_;k_head
 all_goals exact h _
abbrev as:List Addr:=[2,3,15,16,18,19,21,22,23,25,26,28,29,30,32,33,35,36,37,39,40,42,43,44,47,48,49,51,52,54,55,56,58,59,61,62,63,65,66,68,69,70,72,73,75,76,77,79,80,82,83,84,86,87,89,90,91,93,94,96,97,98,100,101,103,104,105,107,108,110,111,112,115,116,117,119,120,122,123,124,126,127,129,130,131,134,135,136,138,139,141,142,143,145,146,148,149,150,152,153,155,156,157,160,161,162,164,165,167,168,169,172,173,174,176,177,179,180,181,183,184,186,187,188,190,191,193,194,195,197,198,200,201,202,204,205,207,208,209,211,212,214,215,216,218,219,221,222,223,225,226,228,229,230,232,233,235,236,237,240,241,242,244,245,247,248]
theorem xY(P:Params):as=(early.heap_1 P).map (·.1):=by kernel_rfl
noncomputable abbrev hk:Hook:=kHook early.heap_1 as xY
theorem vg(u:World):ET.seenT (OpenLaw.row PySem.Challenge.rw_dueworth_k17_whole_traces_gone_by_charts).prog vw ["SIDES_FROM"] (fun s=>(xlAt vw [] s&&recOk (RowW.records rr) s)) (Hook.obs hk) 2484 u (u.withFollow "special-get-raises" false)=some (some (openGood vw ["SIDES_FROM"],Hook.val hk (u.withFollow "special-get-raises" false))):=ET.mw (by kernel_rfl)
theorem vh(u:World):ET.seenT (OpenLaw.row PySem.Challenge.rw_dueworth_k17_whole_traces_gone_by_charts).prog vw ["SIDES_FROM"] (fun s=>(xlAt vw [] s&&recOk (RowW.records rr) s)) (Hook.obs hk) 2484 u (u.withFollow "special-get-raises" true)=some (some (openGood vw ["SIDES_FROM"],Hook.val hk (u.withFollow "special-get-raises" true))):=ET.mw (by kernel_rfl)
theorem left:LeftO (OpenLaw.row PySem.Challenge.rw_dueworth_k17_whole_traces_gone_by_charts).prog vw ["SIDES_FROM"] (fun s=>(xlAt vw [] s&&recOk (RowW.records rr) s)) (Hook.obs hk) (Hook.val hk) 2484:=ET.n5 "special-get-raises" vg vh
end E17
end
open PySem in
abbrev Vq:=Value->Shared->Prop
open PySem in
abbrev Va:=List (Addr×Obj)
open PySem in
abbrev Vo:=PySem.W.Frag
open PySem in
abbrev Vr:=Str->Option Value
open PySem in
abbrev Vs:=List Str
open PySem in
abbrev Vu:=List Int
open PySem in
abbrev Vv:=List Value
open PySem in
abbrev Vw:=Array Value
set_option Elab.async false
set_option linter.all false
set_option maxRecDepth 100000
namespace L2
open PySem PySem.Spec PyProof.Rows
abbrev a7:=Sum Int Str
noncomputable def jt:a7->Value->Bool
 | .inl k,v=>Value.isInt k v
 | .inr x,v=>Value.isStrOf x v
noncomputable def wR(w:World):a7->Int
 | .inl k=>hashInt k
 | .inr x=>hashStr w x
theorem aY:∀{k:a7} {v:Value},jt k v=true->(∃i t,k=Sum.inl i/\v=Value.int i t)\/(∃x t,k=Sum.inr x/\v=Value.str x t)
 | .inl i,v,h=>by
  obtain⟨t,e⟩:=Value.isInt_shape (k:=i) (v:=v) h
  exact .inl ⟨i,t,rfl,e⟩
 | .inr x,v,h=>by
  obtain⟨t,e⟩:=Value.isStrOf_shape (x:=x) (v:=v) h
  exact .inr ⟨x,t,rfl,e⟩
def mY(i:Int)(t:Tok):jt (.inl i) (.int i t)=true:=by simp[jt,Value.isInt]
def gk(x:Str)(t:Tok):jt (.inr x) (.str x t)=true:=by simp[jt,Value.isStrOf]
def sB(a b:Int):decide ((Sum.inl a:a7)=Sum.inl b)=(a == b):=by
 by_cases e:a=b
 ·subst e;simp
 ·have h:¬(Sum.inl a:a7)=Sum.inl b:=fun q=>e (Sum.inl.inj q)
  rw[FQ h]
  exact(beq_eq_false_iff_ne.mpr e).symm
def sC(a b:Str):decide ((Sum.inr a:a7)=Sum.inr b)=decide (a=b):=by
 by_cases e:a=b
 ·subst e;simp
 ·have h:¬(Sum.inr a:a7)=Sum.inr b:=fun q=>e (Sum.inr.inj q)
  rw[FQ h,FQ e]
def sD(a:Int)(b:Str):decide ((Sum.inl a:a7)=Sum.inr b)=false:=FQ (fun q=>nomatch q)
def sE(a:Str)(b:Int):decide ((Sum.inr a:a7)=Sum.inl b)=false:=FQ (fun q=>nomatch q)
noncomputable def aM(prog:Program)(w:World):PySem.KeyKind prog w a7 where
 is:=jt
 hash:=wR w
 inj:=fun v a b ha hb=>by
  rcases aY ha with⟨i,t,rfl,rfl⟩|⟨x,t,rfl,rfl⟩
  ·rcases aY hb with⟨j,u,rfl,e⟩|⟨y,u,rfl,e⟩
   ·injection e with e1 _;rw[e1]
   ·exact nomatch e
  ·rcases aY hb with⟨j,u,rfl,e⟩|⟨y,u,rfl,e⟩
   ·exact nomatch e
   ·injection e with e1 _;rw[e1]
 byValue:=fun k v h=>by
  rcases aY h with⟨i,t,rfl,rfl⟩|⟨x,t,rfl,rfl⟩<;>rfl
 pyHash:=fun hv h=>by
  rcases aY hv with⟨i,t,rfl,rfl⟩|⟨x,t,rfl,rfl⟩
  ·exact wpAny_pyHash_int h
  ·exact wpAny_pyHash_str h
 eqBool:=fun hu hv h=>by
  rcases aY hu with⟨i,t,rfl,rfl⟩|⟨x,t,rfl,rfl⟩
  ·rcases aY hv with⟨j,u,rfl,rfl⟩|⟨y,u,rfl,rfl⟩
   ·rw[sB]at h;exact wpAny_eqBool_int h
   ·rw[sD]at h;exact SeqAt.EqAt.int_str i t y u _ _ _ _ h
  ·rcases aY hv with⟨j,u,rfl,rfl⟩|⟨y,u,rfl,rfl⟩
   ·rw[sE]at h;exact SeqAt.EqAt.str_int x t j u _ _ _ _ h
   ·rw[sC]at h;exact wpAny_eqBool_str h
 «strs»:=fun k x t v h=>by
  rcases aY h with⟨i,u,rfl,e⟩|⟨y,u,rfl,e⟩
  ·exact nomatch e
  ·injection e with e1 _
   subst e1
   cases v<;>rfl
def kQ(prog:Program)(w:World)(i:Int)(t:Tok):(aM prog w).is (.inl i) (.int i t)=true:=mY i t
def kR(prog:Program)(w:World)(x:Str)(t:Tok):(aM prog w).is (.inr x) (.str x t)=true:=gk x t
inductive V where
 |non|bl (b:Bool)|int (i:Int)|str (x:Str)|BC (b:Array UInt8)|Dh (b:UInt64)|ref (a:Addr)|ty (n:String)
 deriving DecidableEq
noncomputable def RelV:V->Value->Prop
 | .non,u=>u=Value.none
 | .bl b,u=>u=Value.bool b
 | .int i,u=>∃t,u=Value.int i t
 | .str x,u=>∃t,u=Value.str x t
 | .BC b,u=>∃t,u=Value.bytes b t
 | .Dh b,u=>∃t,u=Value.float b t
 | .ref a,u=>u=Value.ref a
 | .ty n,u=>u=Value.type n
noncomputable abbrev Vals:List V->List Value->Prop:=Paired RelV
theorem Vals.length{xs:List V}{us:Vv}(r:Vals xs us):xs.length=us.length:=Paired.length r
theorem Vals.get:∀{xs:List V} {us:Vv} {i:Nat} {x:V},Vals xs us->xs[i]?=some x->∃u,us[i]?=some u/\RelV x u
 |_,_,_,_,.nil,e=>by simp at e
 |_,_,0,_,.cons r _,e=>by simp at e;subst e;exact⟨_,rfl,r⟩
 |_,_,i+1,x,.cons _ t,e=>by
  obtain⟨u,h1,h2⟩:=Vals.get (i:=i) (x:=x) t (by simpa using e)
  exact⟨u,by simpa using h1,h2⟩
theorem Vals.set{x:V}{u:Value}(r:RelV x u):∀{xs:List V} {us:Vv} (i:Nat),Vals xs us->Vals (xs.set i x) (us.set i u)
 |_,_,_,.nil=>.nil
 |_,_,0,.cons _ t=>.cons r t
 |_,_,i+1,.cons q t=>.cons q (Vals.set r i t)
theorem Vals.append:∀{xs ys:List V} {us ws:Vv},Vals xs us->Vals ys ws->Vals (xs++ys) (us++ws)
 |_,_,_,_,.nil,s=>s
 |_,_,_,_,.cons r t,s=>.cons r (Vals.append t s)
theorem Vals.take:∀{xs:List V} {us:Vv} (n:Nat),Vals xs us->Vals (xs.take n) (us.take n)
 |_,_,0,_=>.nil
 |_,_,_+1,.nil=>.nil
 |_,_,n+1,.cons r t=>.cons r (Vals.take n t)
theorem Vals.drop:∀{xs:List V} {us:Vv} (n:Nat),Vals xs us->Vals (xs.drop n) (us.drop n)
 |_,_,0,r=>r
 |_,_,_+1,.nil=>.nil
 |_,_,n+1,.cons _ t=>Vals.drop n t
noncomputable def RelO:Option V->Option Value->Prop
 |some v,some u=>RelV v u
 |none,none=>True
 |_,_=>False
noncomputable def KV{κ:Type}:List (κ×V)->List (κ×Value)->Prop:=Paired fun(p:κ×V) (q:κ×Value)=>p.1=q.1/\RelV p.2 q.2
noncomputable def kV:a7->V
 | .inl i=>.int i
 | .inr x=>.str x
inductive HO where
 /-- a list -/
 |lst (xs:List V)
 /-- a tuple (never changes) -/
 |tup (xs:List V)
 /-- a dict whose keys are ints and texts; one whose keys are tuples of ints and texts (the empty one is both) -/
 |dK (kvs:List (a7×V))|dT (kvs:List (List a7×V))
 /-- a set of ints: its members,its size -/
 |set (S:Int->Bool) (n:Nat)
 /-- an instance of the class at C,its dict at dx,its attributes -/
 |ins (C dx:Addr) (fs:List (Str×V))
 /-- the dict of the instance at x -/
 |own (x:Addr)
 /-- the dict of an exception -/
 |xd (fs:List (Str×V))
 /-- a bound method,f of x -/
 |met (f x:Addr)
 /-- a range object lo,lo + 1,.. below hi -/
 |Di (lo hi:Int)
 /-- a thing that is known to the object (the script; a dict while a loop walks it): read,never written while it is so -/
 |frz (o:Obj) (u:HO)
 /-- a code object's table -/
 |Cf (ps:Vw)
 /-- any other thing,by what is true of its one object (a def of Eg own: EL a S n:=HO.ext fun h=>..) -/
 |ext (φ:Heap->Prop)
abbrev Hp:=Addr->Option HO
noncomputable def upd(H:Hp)(a:Addr)(o:HO):Hp:=fun b=>if b=a then some o else H b
def aB{H:Hp}{a:Addr}{o:HO}:upd H a o a=some o:=by unfold upd;rw[if_pos rfl]
def ay{H:Hp}{a b:Addr}{o:HO}(h:b≠a):upd H a o b=H b:=by unfold upd;rw[if_neg h]
def vi{H:Hp}{a b:Addr}{o u:HO}(h:H a=some o)(h':H b=some u)(d:o≠u):a≠b:=by
 intro e;subst e;rw[h]at h';exact d (Ga h')
def aU{H:Hp}{a b:Addr}{o:HO}(h:H a=some o)(h':H b=none):a≠b:=by
 intro e;subst e;rw[h]at h';cases h'
def zl(h:Heap)(a:Addr)(its:Vw):Prop:=∃o,h.get? a=some o/\o.dict=none/\o.cls = .type "tuple"/\∃n,o.data = .seq its n
def zl.tup{h:Heap}{a:Addr}{its:Vw}(x:zl h a its):IsTup h a its:=let ⟨o,e,_,c,d⟩:=x;⟨o,e,c,d⟩
def zl.new(h:Heap)(its:Vw):zl (h.push { cls:=.type "tuple",data:=.seq its }) h.objs.size its:=⟨_,FT _ rfl,rfl,rfl,_,rfl⟩
section
variable (P:Program) (w:World)
noncomputable def yX(H:Hp)(h:Heap)(a:Addr):HO->Prop
 | .lst xs=>xs.length<=sizeLine/\∃(its:Vv) (n:Nat),Vals xs its/\h.get? a=some { cls:=.type "list",data:=.seq its.toArray n }
 | .tup xs=>xs.length<=sizeLine/\∃its:List Value,Vals xs its/\zl h a its.toArray
 | .dK kvs=>kvs.length<=sizeLine/\(a == sysModules)=false/\∃vs,KV kvs vs/\h.DictOf (aM P w) a vs
 | .dT kvs=>kvs.length<=sizeLine/\(a == sysModules)=false/\∃xs:List (List a7×Addr×Value),
   Paired (fun(p:List a7×V) (q:List a7×Addr×Value)=>p.1=q.1/\H q.2.1=some (.tup (p.1.map kV))/\RelV p.2 q.2.2) kvs xs/\
   ∃o es ep,h.get? a=some o/\o.ExactDict/\o.data = .dict es ep/\es.toList=xs.map (entryOfKey (tupleKind (aM P w)))/\(xs.map (·.1)).Nodup
 | .set S n=>h.SetOf (intKind P w) a S n
 | .ins C dx fs=>H dx=some (.own a)/\fs.length<=1000/\dx≠a/\h.get? a=some (PySem.W.instObj C dx)/\
   ∃mA,h.Ns1 dx mA/\(∀f,RelO (fs.lookup f) (mA f))/\PySem.Within mA (fs.map (·.1))
 | .own _=>∃o,h.get? a=some o
 | .xd fs=>∃mA,h.Ns1 a mA/\∀f,RelO (fs.lookup f) (mA f)
 | .Di lo hi=>∃t u v,h.get? a=some { cls:=.type "range",data:=.fields #[.int lo t,.int hi u,.int 1 v] }
 | .frz o u=>h.get? a=some o/\yX H h a u
 | .Cf ps=>h.get? a=some { cls:=.none,data:=.fields ps }
 | .met f x=>h.get? a=some (PySem.W.methodObj (.ref f) (.ref x))
 | .ext φ=>φ h/\(∃o,h.get? a=some o)/\∀h1 h2:Heap,φ h1->(∀o,h1.get? a=some o->h2.get? a=some o)->φ h2
def z9(H:Hp)(h:Heap):Prop:=∀a o,H a=some o->yX P w H h a o
end
section
variable {P:Program} {w:World} {H H':Hp} {h h':Heap} {a:Addr} {o:HO}
theorem yX.lt(x:yX P w H h a o):a < h.objs.size:=by
 cases o with
 |lst xs=>obtain⟨_,_,_,_,e⟩:=x;exact FD e
 |tup xs=>obtain⟨_,_,_,p⟩:=x;exact p.tup.lt
 |dK kvs=>obtain⟨_,_,_,_,o,_,_,e,_⟩:=x;exact FD e
 |dT kvs=>obtain⟨_,_,_,_,o,_,_,e,_⟩:=x;exact FD e
 |set S n=>obtain⟨o,_,_,_,e,_⟩:=x;exact FD e
 |ins C dx fs=>obtain⟨_,_,_,e,_⟩:=x;exact FD e
 |own y=>obtain⟨_,e⟩:=x;exact FD e
 |xd fs=>obtain⟨_,⟨_,_,_,e,_⟩,_⟩:=x;exact FD e
 |Di lo hi=>obtain⟨_,_,_,e⟩:=x;exact FD e
 |frz ob u=>obtain⟨e,_⟩:=x;exact FD e
 |Cf ps=>exact FD (show h.get? a=some _ from x)
 |met f y=>exact FD (show h.get? a=some _ from x)
 |ext φ=>obtain⟨_,⟨_,e⟩,_⟩:=x;exact FD e
theorem Paired.Cg{α β:Type}{F G:α->β->Prop}:∀{l₁:List α} {l₂:List β},Paired F l₁ l₂->(∀a b,F a b->G a b)->Paired G l₁ l₂
 |_,_,.nil,_=>.nil
 |_,_,.cons r t,f=>.cons (f _ _ r) (Paired.Cg t f)
def yX.stay(x:yX P w H h a o)(k:∀b u,(b=a\/H b=some (.own a))->h.get? b=some u->h'.get? b=some u)
  (ho:∀b,H b=some (.own a)->H' b=some (.own a)) (ht:∀b xs,H b=some (.tup xs)->H' b=some (.tup xs)):yX P w H' h' a o:=by
 induction o with
 |lst xs=>obtain⟨z,its,n,r,e⟩:=x;exact⟨z,its,n,r,k _ _ (.inl rfl) e⟩
 |tup xs=>obtain⟨z,its,r,ob,e,c⟩:=x;exact⟨z,its,r,ob,k _ _ (.inl rfl) e,c⟩
 |dK kvs=>obtain⟨z,y,vs,r,ob,es,ep,e,c⟩:=x;exact⟨z,y,vs,r,ob,es,ep,k _ _ (.inl rfl) e,c⟩
 |dT kvs=>
  obtain⟨z,y,xs,r,ob,es,ep,e,c⟩:=x
  exact⟨z,y,xs,Paired.Cg r fun p q z=>⟨z.1,ht _ _ z.2.1,z.2.2⟩,ob,es,ep,k _ _ (.inl rfl) e,c⟩
 |set S n=>obtain⟨ob,es,ep,t,e,c⟩:=x;exact⟨ob,es,ep,t,k _ _ (.inl rfl) e,c⟩
 |ins C dx fs=>
  obtain⟨d,z,ne,e,mA,⟨od,es,ep,e2,c⟩,r⟩:=x
  exact⟨ho _ d,z,ne,k _ _ (.inl rfl) e,mA,⟨od,es,ep,k _ _ (.inr d) e2,c⟩,r⟩
 |own y=>obtain⟨ob,e⟩:=x;exact⟨ob,k _ _ (.inl rfl) e⟩
 |xd fs=>obtain⟨mA,⟨od,es,ep,e,c⟩,r⟩:=x;exact⟨mA,⟨od,es,ep,k _ _ (.inl rfl) e,c⟩,r⟩
 |Di lo hi=>obtain⟨t,u,v,e⟩:=x;exact⟨t,u,v,k _ _ (.inl rfl) e⟩
 |frz ob u ih=>obtain⟨e,q⟩:=x;exact⟨k _ _ (.inl rfl) e,ih q⟩
 |Cf ps=>
  have e:h.get? a=some { cls:=.none,data:=.fields ps }:=x
  show h'.get? a=some { cls:=.none,data:=.fields ps }
  exact k a _ (.inl rfl) e
 |met f y=>
  have e:h.get? a=some (PySem.W.methodObj (.ref f) (.ref y)):=x
  show h'.get? a=some (PySem.W.methodObj (.ref f) (.ref y))
  exact k a _ (.inl rfl) e
 |ext φ=>obtain⟨p,⟨o,e⟩,st⟩:=x;exact⟨st _ _ p fun o q=>k _ _ (.inl rfl) q,⟨o,k _ _ (.inl rfl) e⟩,st⟩
theorem z9.lt(x:z9 P w H h)(e:H a=some o):a < h.objs.size:=(x a o e).lt
def z9.fresh(x:z9 P w H h)(e:h.objs.size<=a):H a=none:=by
 cases q:H a with
 |none=>rfl
 |some u=>exact absurd (FL (x.lt q) e) (GA _)
def z9.kept(x:z9 P w H h)(k:∀b u,h.get? b=some u->h'.get? b=some u):z9 P w H h':=fun a o e=>
 (x a o e).stay (fun b u _ q=>k b u q) (fun _ q=>q) fun _ _ q=>q
def z9.laid(x:z9 P w H h)(k:∀b u,h.get? b=some u->h'.get? b=some u)(hp:h.objs.size<=a)(new:yX P w (upd H a o) h' a o):z9 P w (upd H a o) h':=fun b u e=>by
 have hn:=x.fresh hp
 by_cases hb:b=a
 ·subst hb;rw[aB]at e;cases e;exact new
 ·rw[ay hb]at e
  exact(x b u e).stay (fun c v _ q=>k c v q) (fun c q=>by rw[ay (aU q hn)];exact q) fun c xs q=>by rw[ay (aU q hn)];exact q
end
def Rd(H:Hp)(a:Addr)(u:HO):Prop:=H a=some u\/∃o,H a=some (.frz o u)
def Rd.ok{P:Program}{w:World}{H:Hp}{h:Heap}{a:Addr}{u:HO}(r:Rd H a u)(x:z9 P w H h):yX P w H h a u:=by
 rcases r with r|⟨o,r⟩
 ·exact x a u r
 ·obtain⟨_,q⟩:=x a _ r
  exact q
noncomputable def vj:Option HO->Prop
 |some (.lst _)=>True
 |some (.dK _)=>True
 |some (.dT _)=>True
 |some (.set _ _)=>True
 |some (.ins _ _ _)=>True
 |some (.ext _)=>True
 |_=>False
section
variable {P:Program} {w:World} {H:Hp} {h h':Heap} {x e:Addr} {o':HO}
def z9.write(ok:z9 P w H h)(mu:vj (H x))(he:e=x\/H e=some (.own x))(k:∀b u,b≠e->h.get? b=some u->h'.get? b=some u)(CC:∃u,h'.get? e=some u)
  (new:yX P w (upd H x o') h' x o'):z9 P w (upd H x o') h':=fun b u q=>by
 have CI:∀c y,H c=some (.own y)->c≠x:=fun c y r z=>by subst z;rw[r]at mu;exact mu
 have Dj:∀c xs,H c=some (.tup xs)->c≠x:=fun c xs r z=>by subst z;rw[r]at mu;exact mu
 by_cases hb:b=x
 ·subst hb;rw[aB]at q;cases q;exact new
 ·rw[ay hb]at q
  by_cases Ch:b=e
  ·have q':H b=some (.own x):=by
    rcases he with z|z
    ·exact absurd (Ch.trans z) hb
    ·rw[Ch];exact z
   rw[q]at q';cases q'
   obtain⟨v,hv⟩:=CC
   exact⟨v,by rw[Ch];exact hv⟩
  ·refine(ok b u q).stay (fun c v hc r=>k c v ?_ r) (fun c r=>by rw[ay (CI c b r)];exact r) fun c xs r=>by rw[ay (Dj c xs r)];exact r
   rcases hc with rfl|hc
   ·exact Ch
   ·rintro rfl
    rcases he with z|z
    ·exact CI c b hc z
    ·rw[hc]at z;cases z;exact hb rfl
end
structure Un (fs ex:List Addr) (H H':Hp) (h h':Heap):Prop where
 keep:∀b o,h.get? b=some o->H b=none->b ∉ fs->b ∉ ex->h'.get? b=some o
 slot:∀b o,h.get? b=some o->H b=none->b∈fs->b ∉ ex->∃sl,h'.get? b=some { o with slots:=sl }
 free:∀b o,h.get? b=some o->H b=none->b ∉ ex->H' b=none
 there:∀b o,h.get? b=some o->b ∉ ex->∃o',h'.get? b=some o'
 tups:∀b xs,H b=some (.tup xs)->H' b=some (.tup xs)
 AH:∀b o u,H b=some (.frz o u)->H' b=some (.frz o u)
 AV:∀b ps,H b=some (.Cf ps)->∃more,H' b=some (.Cf (ps++more))
section
variable {fs fs' ex ex':List Addr} {H H1 H2:Hp} {h h1 h2 h':Heap} {a x e:Addr} {o:HO}
def Un.any(u:Un fs ex H H1 h h1){b:Addr}{ob:Obj}(q:h.get? b=some ob)(n:H b=none)(hx:b ∉ ex):∃sl,h1.get? b=some { ob with slots:=sl }:=by
 by_cases hb:b∈fs
 ·exact u.slot b ob q n hb hx
 ·exact⟨ob.slots,u.keep b ob q n hb hx⟩
def Un.kept(k:∀b u,h.get? b=some u->h'.get? b=some u):Un fs ex H H h h':=
 ⟨fun b ob q _ _ _=>k b ob q,fun b ob q _ _ _=>⟨ob.slots,k b ob q⟩,fun _ _ _ n _=>n,fun b ob q _=>⟨ob,k b ob q⟩,fun _ _ q=>q,fun _ _ _ q=>q,fun _ ps q=>⟨#[],by rw[q];simp⟩⟩
def Un.refl:Un fs ex H H h h:=Un.kept fun _ _ q=>q
def Un.laid(k:∀b u,h.get? b=some u->h'.get? b=some u)(hp:h.objs.size<=a)(hn:H a=none):Un fs ex H (upd H a o) h h' where
 keep:=fun b u q _ _ _=>k b u q
 slot:=fun b u q _ _ _=>⟨u.slots,k b u q⟩
 free:=fun b u q n _=>by rw[ay (FW (FL (FD q) hp))];exact n
 there:=fun b u q _=>⟨u,k b u q⟩
 tups:=fun b xs q=>by rw[ay (aU q hn)];exact q
 AH:=fun b u xs q=>by rw[ay (aU q hn)];exact q
 AV:=fun b ps q=>⟨#[],by rw[ay (aU q hn),q];simp⟩
def Un.write(mu:vj (H x))(he:e=x\/H e=some (.own x))(k:∀b u,b≠e->h.get? b=some u->h'.get? b=some u)(CC:∃u,h'.get? e=some u):Un fs ex H (upd H x o) h h':=by
 have hx:∀b,H b=none->b≠x:=fun b n z=>by subst z;rw[n]at mu;exact mu
 have hb:∀b,H b=none->b≠e:=fun b n z=>by
  subst z
  rcases he with r|r
  ·exact hx b n r
  ·rw[n]at r;cases r
 have hm:∀b u,H b=some u->¬vj (some u)->b≠x:=fun b u q nm z=>by subst z;rw[q]at mu;exact nm mu
 refine⟨fun b u q n _ _=>k b u (hb b n) q,fun b u q n _ _=>⟨u.slots,k b u (hb b n) q⟩,fun b u q n _=>by rw[ay (hx b n)];exact n,fun b u q _=>?_,
  fun b xs q=>by rw[ay (hm b _ q fun z=>z)];exact q,fun b u xs q=>by rw[ay (hm b _ q fun z=>z)];exact q,fun b ps q=>⟨#[],by rw[ay (hm b _ q fun z=>z),q];simp⟩⟩
 by_cases Ch:b=e
 ·subst Ch;exact CC
 ·exact⟨u,k b u Ch q⟩
end
noncomputable def wE(h:Heap)(H:Hp):List Addr:=(List.range h.objs.size).filter fun a=>(H a).isSome
noncomputable def jY(h:Heap)(H:Hp):Heap:=PySem.W.hideAll h (wE h H)
def mZ(h:Heap)(H:Hp):(jY h H).objs.size=h.objs.size:=PySem.W.hideAll_size _ _
def n9{h:Heap}{H:Hp}{b:Addr}{o:Obj}(e:h.get? b=some o)(n:H b=none):(jY h H).get? b=some o:=
 PySem.W.hideAll_get _ e fun hm=>by
  have q:(H b).isSome=true:=(HK.mp hm).2
  rw[n]at q;simp at q
def qi{h:Heap}{H:Hp}{b:Addr}{o:Obj}(e:(jY h H).get? b=some o):h.get? b=some o/\H b=none:=by
 have e':h.get? b=some o:=PySem.W.of_hideAll (wE h H) e
 refine⟨e',?_⟩
 cases q:H b with
 |none=>rfl
 |some x=>
  have hm:b∈wE h H:=HK.mpr ⟨G2.mpr (FD e'),by simp[q]⟩
  have z:(jY h H).get? b=none:=PySem.W.hideAll_none (wE h H) hm
  rw[z]at e;cases e
structure Mod (K:Vo) (mg:Vr) (base:Heap):Prop where
 Dk:K.In base
 glob:base.Ns mainGlobals mg
 blt:∃mb,base.Ns builtinsNs mb/\∀x:Str,x ≠ "__name__"->mb x=bootBuiltins x
 nolimit:base.NoLimit
structure Cx where
 prog:Program
 w:World
 K:Vo
 mg:Vr
 base:Heap
 A:Around
 N:List Str
 s₀:Shared
 H₀:Hp
 env:Env
 outer:List Env
 stack:List Env
 ex:List Addr
 fn:Str->Bool
 calm:Bool
 pn:Va
 xe:Value->Shared->Prop
noncomputable def frs(l:List Env):List Addr:=l.filterMap (·.frame)
noncomputable abbrev Cx.fs(X:Cx):List Addr:=frs X.outer
def wF(sc:Scope)(x:Str):Prop:=sc.names.lookup x=some .local\/sc.names.lookup x=some .cell\/sc.names.lookup x=some .free
def sa(sc:Scope)(x:Str):Prop:=sc.names.lookup x=some .local\/sc.names.lookup x=some .cell
def wS(env:Env)(h:Heap)(m:Vr)(x:Str)(u:Value):Prop:=
 (env.kindOf x=some .local/\m x=some u)\/((env.kindOf x=some .cell\/env.kindOf x=some .free)/\∃c,env.cells.lookup x=some c/\h.IsCell c (some u))
structure Cx.Ok (X:Cx):Prop where
 mod:Mod X.K X.mg X.base
 kind:X.env.scope.kind = .function
 glob:X.env.globals=mainGlobals
 blt:X.env.builtins=builtinsNs
 above:X.s₀.heap.objs.size<=X.env.locals
 inj:∀x y c,X.env.cells.lookup x=some c->X.env.cells.lookup y=some c->x=y
 has:∀x,(X.env.kindOf x=some .cell\/X.env.kindOf x=some .free)->∃c,X.env.cells.lookup x=some c
 CD:∀x c,X.fn x=true->X.env.cells.lookup x=some c->X.s₀.heap.objs.size<=c
 hd:X.calm=true->X.A.handled=none
 frames:X.A.frames=some X.stack
 stk:X.stack=X.outer\/(X.stack=X.env::X.outer/\X.env.frame=some X.env.locals)
 Dl:∀b∈X.ex,b≠X.env.locals/\∀x c,X.env.cells.lookup x=some c->c≠b
 bs:∀b o,X.base.get? b=some o->X.s₀.heap.get? b=some o/\X.H₀ b=none
 BV:X.base.objs.size<=X.s₀.heap.objs.size
 Bu:∀b o,X.base.get? b=some o->b ∉ X.ex
 BD:∀b∈X.ex,b ∉ X.fs
 At:X.s₀.heap.FunFrames X.base X.outer
 Ci:∀b∈X.fs,X.H₀ b=none
structure Inv (X:Cx) (pins:Va) (σ:List (Option V)) (H:Hp) (s:Shared):Prop where
 ok:X.Ok
 os:s.os=X.s₀.os
 bare:AllBare s.gens
 base:Un X.fs X.ex X.H₀ H X.s₀.heap s.heap
 loc:∃m,s.heap.Ns X.env.locals m/\∀(i:Nat) (x:Str) (v:V),X.N[i]?=some x->σ[i]?=some (some v)->wF X.env.scope x->∃u,RelV v u/\wS X.env s.heap m x u
 cell:∀x c,X.env.cells.lookup x=some c->∃v,s.heap.IsCell c v
 free:H X.env.locals=none
 zT:∀x c,X.env.cells.lookup x=some c->H c=none
 pin:∀p∈X.pn++pins,s.heap.get? p.1=some p.2/\H p.1=none/\p.1≠X.env.locals/\p.1 ∉ X.fs/\∀v,p.2.data ≠ .cell v
 hok:z9 X.prog X.w H s.heap
 len:σ.length=X.N.length
section
variable {X:Cx} {pins:Va} {σ:List (Option V)} {H H':Hp} {s:Shared} {h':Heap}
def Cx.Ok.Dm(ok:X.Ok){b:Addr}{o:Obj}(e:X.base.get? b=some o):b ∉ X.fs:=fun hb=>by
 have:=(ok.At.mem hb).1
 rw[e]at this;cases this
theorem Inv.bs(I:Inv X pins σ H s):∀b o,X.base.get? b=some o->s.heap.get? b=some o/\H b=none:=fun b o e=>
 ⟨I.base.keep b o (I.ok.bs b o e).1 (I.ok.bs b o e).2 (I.ok.Dm e) (I.ok.Bu b o e),I.base.free b o (I.ok.bs b o e).1 (I.ok.bs b o e).2 (I.ok.Bu b o e)⟩
def Inv.bk(I:Inv X pins σ H s):∀b o,X.base.get? b=some o->s.heap.get? b=some o:=fun b o e=>(I.bs b o e).1
theorem Inv.mod(I:Inv X pins σ H s):Mod X.K X.mg X.base:=I.ok.mod
def Inv.BW(I:Inv X pins σ H s):X.K.In s.heap:=I.ok.mod.Dk.keeps I.bk
theorem Inv.lt(I:Inv X pins σ H s):X.env.locals < s.heap.objs.size:=let ⟨_,hn,_⟩:=I.loc;hn.lt
def Inv.sz(I:Inv X pins σ H s):X.s₀.heap.objs.size<=s.heap.objs.size:=FI I.ok.above (Hl I.lt)
def Inv.CJ(I:Inv X pins σ H s){a:Addr}(h:s.heap.objs.size<=a):a ∉ X.fs:=fun hb=>by
 obtain⟨_,o,ho,_⟩:=I.ok.At.mem hb
 exact absurd (FL (FD ho) (FI I.sz h)) (GA _)
def Inv.Cj(I:Inv X pins σ H s):∀x c,X.env.cells.lookup x=some c->c≠X.env.locals:=fun x c e z=>by
 obtain⟨v,o,ho,hd⟩:=I.cell x c e
 obtain⟨m,⟨o',es,ep,ho',hd',_⟩,_⟩:=I.loc
 rw[z,ho']at ho;cases ho;rw[hd']at hd;cases hd
theorem Inv.At(I:Inv X pins σ H s):s.heap.FunFrames X.base X.outer:=by
 have all:∀(l:List Env),(∀b∈frs l,b∈X.fs)->X.s₀.heap.FunFrames X.base l->s.heap.FunFrames X.base l:=by
  intro l
  induction l with
  |nil=>intro _ _;trivial
  |cons env r ih=>
   intro hs hl
   obtain⟨hk,⟨L,o,hf,hn,ho,hd⟩,hr⟩:=hl
   have hL:L∈X.fs:=hs L (by unfold frs;rw[HR,hf];exact Gx)
   obtain⟨sl,e⟩:=I.base.slot L o ho (I.ok.Ci L hL) hL fun z=>I.ok.BD L z hL
   exact⟨hk,⟨L,_,hf,hn,e,hd⟩,ih (fun b hb=>hs b (by unfold frs;rw[HR,hf];exact F1 _ hb)) hr⟩
 exact all X.outer (fun _ hb=>hb) I.ok.At
theorem Inv.stack(I:Inv X pins σ H s):s.heap.FunFrames X.base X.stack:=by
 rcases I.ok.stk with e|⟨e,hf⟩
 ·rw[e];exact I.At
 ·rw[e]
  obtain⟨m,hn,_⟩:=I.loc
  refine .cons (by rw[I.ok.kind];decide) hf hn ?_ I.At
  exact Heap.get?_none_of_le (FI I.ok.BV I.ok.above)
def Inv.Al(I:Inv X pins σ H s):∀b∈frs X.stack,b∈X.env.locals::X.fs:=fun b hb=>by
 rcases I.ok.stk with e|⟨e,hf⟩
 ·rw[e]at hb;exact F1 _ hb
 ·rw[e]at hb
  unfold frs at hb
  rw[HR,hf]at hb
  exact hb
def Inv.Bn(I:Inv X pins σ H s):∀b∈frs X.stack,H b=none:=fun b hb=>by
 rcases FE.mp (I.Al b hb)with e|hb
 ·rw[e];exact I.free
 ·obtain⟨_,o,ho,_⟩:=I.ok.At.mem hb
  exact I.base.free b o ho (I.ok.Ci b hb) fun z=>I.ok.BD b z hb
def Inv.step{g':Array GenState}{t':Nat}{d':Drawn}{ch:List Addr}(I:Inv X pins σ H s)
  (hch:∀b∈ch,(b∈X.ex\/X.s₀.heap.objs.size<=b)/\b≠X.env.locals/\(∀x c,X.env.cells.lookup x=some c->c≠b)/\∀p∈X.pn++pins,p.1≠b)
  (keep:∀b o,b≠X.env.locals->b ∉ X.fs->b ∉ ch->s.heap.get? b=some o->H b=none->h'.get? b=some o)
  (slot:∀b o,b≠X.env.locals->b∈X.fs->b ∉ ch->s.heap.get? b=some o->H b=none->∃sl,h'.get? b=some { o with slots:=sl }) (free:∀b o,b ∉ ch->s.heap.get? b=some o->H b=none->H' b=none)
  (there:∀b o,b ∉ ch->s.heap.get? b=some o->∃o',h'.get? b=some o')
  (tups:∀b xs,H b=some (.tup xs)->H' b=some (.tup xs)) (AH:∀b o u,H b=some (.frz o u)->H' b=some (.frz o u)) (AV:∀b ps,H b=some (.Cf ps)->∃more,H' b=some (.Cf (ps++more)))
  (ns:∀m,s.heap.Ns X.env.locals m->h'.Ns X.env.locals m) (hok:z9 X.prog X.w H' h') (hg:AllBare g') :
  Inv X pins σ H' { s with heap:=h',gens:=g',drawn:=d',toks:=t' }:=by
 have Eh:∀b o,X.s₀.heap.get? b=some o->b≠X.env.locals:=fun b o e=>FW (FL (FD e) I.ok.above)
 have C2:∀b o,X.s₀.heap.get? b=some o->b ∉ X.ex->b ∉ ch:=fun b o e hx hb=>by
  rcases(hch b hb).1 with z|z
  ·exact hx z
  ·exact absurd (FL (FD e) z) (GA _)
 have cellK:∀x c,X.env.cells.lookup x=some c->∀v,s.heap.IsCell c v->h'.IsCell c v:=fun x c e v ⟨o,ho,hd⟩=>by
  have CK:c ∉ ch:=fun z=>(hch c z).2.2.1 x c e rfl
  by_cases hc:c∈X.fs
  ·obtain⟨sl,q⟩:=slot c o (I.Cj x c e) hc CK ho (I.zT x c e)
   exact⟨_,q,hd⟩
  ·exact⟨o,keep c o (I.Cj x c e) hc CK ho (I.zT x c e),hd⟩
 refine⟨I.ok,I.os,hg,⟨fun b o e n hb hx=>?_,fun b o e n hb hx=>?_,fun b o e n hx=>?_,fun b o e hx=>?_,fun b xs e=>tups b xs (I.base.tups b xs e),fun b o xs e=>AH b o xs (I.base.AH b o xs e),fun b ps e=>?_⟩,?_,fun x c e=>?_,?_,fun x c e=>?_,fun p hp=>?_,hok,I.len⟩
 ·exact keep b o (Eh b o e) hb (C2 b o e hx) (I.base.keep b o e n hb hx) (I.base.free b o e n hx)
 ·obtain⟨sl,e1⟩:=I.base.slot b o e n hb hx
  obtain⟨sl',e2⟩:=slot b _ (Eh b o e) hb (C2 b o e hx) e1 (I.base.free b o e n hx)
  exact⟨sl',e2⟩
 ·obtain⟨o',e1⟩:=I.base.there b o e hx
  exact free b o' (C2 b o e hx) e1 (I.base.free b o e n hx)
 ·obtain⟨o',e1⟩:=I.base.there b o e hx
  exact there b o' (C2 b o e hx) e1
 ·obtain⟨m1,e1⟩:=I.base.AV b ps e
  obtain⟨m2,e2⟩:=AV b _ e1
  exact⟨m1++m2,by rw[e2,Array.append_assoc]⟩
 ·obtain⟨m,hn,hl⟩:=I.loc
  refine⟨m,ns m hn,fun i x v e1 e2 e3=>?_⟩
  obtain⟨u,r,l⟩:=hl i x v e1 e2 e3
  refine⟨u,r,?_⟩
  rcases l with l|⟨k,c,e,z⟩
  ·exact .inl l
  ·exact .inr ⟨k,c,e,cellK x c e _ z⟩
 ·obtain⟨v,z⟩:=I.cell x c e
  exact⟨v,cellK x c e v z⟩
 ·obtain⟨m,⟨o,_,_,ho,_⟩,_⟩:=I.loc
  exact free _ o (fun z=>(hch _ z).2.1 rfl) ho I.free
 ·obtain⟨v,o,ho,hd⟩:=I.cell x c e
  exact free c o (fun z=>(hch c z).2.2.1 x c e rfl) ho (I.zT x c e)
 ·obtain⟨e,n,ne,nf,d⟩:=I.pin p hp
  have CK:p.1 ∉ ch:=fun z=>(hch p.1 z).2.2.2 p hp rfl
  exact⟨keep p.1 p.2 ne nf CK e n,free p.1 p.2 CK e n,ne,nf,d⟩
def Inv.un{t':Nat}(I:Inv X pins σ H s)(u:Un X.fs [] H H' s.heap h')(hok:z9 X.prog X.w H' h'):Inv X pins σ H' { s with heap:=h',toks:=t' }:=by
 obtain⟨m,⟨o,es,ep,ho,r⟩,_⟩:=id I.loc
 obtain⟨sl,hL⟩:=u.any ho I.free (by simp)
 exact I.step (g':=s.gens) (d':=s.drawn) (ch:=[]) (fun _ z=>nomatch z) (fun b o _ hb _ e n=>u.keep b o e n hb (by simp)) (fun b o _ hb _ e n=>u.slot b o e n hb (by simp)) (fun b o _ e n=>u.free b o e n (by simp)) (fun b o _ e=>u.there b o e (by simp)) u.tups u.AH u.AV (fun m' hm=>by
  obtain⟨o',es',Dn,ho',r'⟩:=hm
  rw[ho]at ho';cases ho'
  exact⟨_,es',Dn,hL,r'⟩) hok I.bare
def Inv.call{g':Array GenState}{t':Nat}{d':Drawn}{ch:List Addr}(I:Inv X pins σ H s)(u:Un (frs X.stack) ch H H' s.heap h')(hok:z9 X.prog X.w H' h')(hg:AllBare g')
  (hch:∀b∈ch,(b∈X.ex\/X.s₀.heap.objs.size<=b)/\b≠X.env.locals/\(∀x c,X.env.cells.lookup x=some c->c≠b)/\∀p∈X.pn++pins,p.1≠b) :
  Inv X pins σ H' { s with heap:=h',gens:=g',drawn:=d',toks:=t' }:=by
 obtain⟨m,⟨o,es,ep,ho,r⟩,_⟩:=id I.loc
 obtain⟨sl,hL⟩:=u.any ho I.free fun z=>(hch _ z).2.1 rfl
 exact I.step (ch:=ch) hch (fun b o hL hb hc e n=>u.keep b o e n (fun z=>(FE.mp (I.Al b z)).elim hL hb) hc) (fun b o _ _ hc e n=>u.any e n hc) (fun b o hc e n=>u.free b o e n hc) (fun b o hc e=>u.there b o e hc) u.tups u.AH u.AV (fun m' hm=>by
  obtain⟨o',es',Dn,ho',r'⟩:=hm
  rw[ho]at ho';cases ho'
  exact⟨_,es',Dn,hL,r'⟩) hok hg
def Inv.turned{t':Nat}{it:Addr}(I:Inv X pins σ H s)(k:∀b o,b≠it->s.heap.get? b=some o->h'.get? b=some o)(hn:H it=none)(hL:it≠X.env.locals)
  (h1:it∈X.ex\/X.s₀.heap.objs.size<=it) (h2:∀x c,X.env.cells.lookup x=some c->c≠it) (h3:∀p∈X.pn++pins,p.1≠it):Inv X pins σ H { s with heap:=h',toks:=t' }:=by
 have CL:∀b u,H b=some u->b≠it:=fun b u e z=>by rw[z,hn]at e;cases e
 refine I.step (g':=s.gens) (d':=s.drawn) (ch:=[it]) (fun b hb=>?_) (fun b o _ _ hc e _=>k b o (fun z=>hc (by simp[z])) e) (fun b o _ _ hc e _=>⟨o.slots,k b o (fun z=>hc (by simp[z])) e⟩) (fun _ _ _ _ n=>n)
  (fun b o hc e=>⟨o,k b o (fun z=>hc (by simp[z])) e⟩) (fun _ _ e=>e) (fun _ _ _ e=>e) (fun b ps e=>⟨#[],by rw[e];simp⟩) (fun m hm=>?_) (fun b u e=>?_) I.bare
 ·have e:b=it:=by simpa using hb
  subst e
  exact⟨h1,hL,h2,h3⟩
 ·obtain⟨o,es,ep,ho,r⟩:=hm
  exact⟨o,es,ep,k _ o (G6 hL) ho,r⟩
 ·refine(I.hok b u e).stay (fun c v hc q=>k c v ?_ q) (fun _ q=>q) fun _ _ q=>q
  rcases hc with z|z
  ·rw[z];exact CL b u e
  ·exact CL c _ z
def Inv.tok(I:Inv X pins σ H s)(t:Nat):Inv X pins σ H { s with toks:=t }:=I.un (h':=s.heap) (t':=t) Un.refl I.hok
theorem Inv.kept{t':Nat}(I:Inv X pins σ H s)(k:∀b u,s.heap.get? b=some u->h'.get? b=some u):Inv X pins σ H { s with heap:=h',toks:=t' }:=I.un (Un.kept k) (I.hok.kept k)
theorem Inv.laid{a:Addr}{o:HO}{t':Nat}(I:Inv X pins σ H s)(k:∀b u,s.heap.get? b=some u->h'.get? b=some u)(hp:s.heap.objs.size<=a)(new:yX X.prog X.w (upd H a o) h' a o) :
  Inv X pins σ (upd H a o) { s with heap:=h',toks:=t' }:=I.un (Un.laid k hp (I.hok.fresh hp)) (I.hok.laid k hp new)
theorem Inv.write{x e:Addr}{o:HO}{t':Nat}(I:Inv X pins σ H s)(mu:vj (H x))(he:e=x\/H e=some (.own x))(k:∀b u,b≠e->s.heap.get? b=some u->h'.get? b=some u)(CC:∃u,h'.get? e=some u)
  (new:yX X.prog X.w (upd H x o) h' x o):Inv X pins σ (upd H x o) { s with heap:=h',toks:=t' }:=I.un (Un.write mu he k CC) (I.hok.write mu he k CC new)
def Inv.weak{σ':List (Option V)}(I:Inv X pins σ H s)(hl:σ'.length=σ.length)(w:∀(i:Nat) v,σ'[i]?=some (some v)->σ[i]?=some (some v)):Inv X pins σ' H s:=
 ⟨I.ok,I.os,I.bare,I.base,let ⟨m,hn,hl'⟩:=I.loc;⟨m,hn,fun i x v e1 e2 e3=>hl' i x v e1 (w i v e2) e3⟩,I.cell,I.free,I.zT,I.pin,I.hok,hl.trans I.len⟩
def Inv.Au{B6:Va}(I:Inv X pins σ H s)(h:∀p∈B6,s.heap.get? p.1=some p.2/\H p.1=none/\p.1≠X.env.locals/\p.1 ∉ X.fs/\∀v,p.2.data ≠ .cell v):Inv X B6 σ H s:=
 ⟨I.ok,I.os,I.bare,I.base,I.loc,I.cell,I.free,I.zT,fun p hp=>(F4.mp hp).elim (fun z=>I.pin p (Gp _ z)) (h p),I.hok,I.len⟩
def kS{N:Vs}(hN:N.Nodup){i j:Nat}{x:Str}(a:N[i]?=some x)(b:N[j]?=some x):i=j:=by
 obtain⟨h1,e1⟩:=FU.mp a
 obtain⟨h2,e2⟩:=FU.mp b
 exact(List.getElem_inj hN).mp (e1.trans e2.symm)
def ju {M : Model} {A : Around} {E : Value -> Shared -> Prop} {i : Nat} {x : Str} {v : V} {u : Value} {Q : Unit -> Shared -> Prop} (I : Inv X pins σ H s) (hN : X.N.Nodup) (hi : X.N[i]? = some x) (hx : sa X.env.scope x) (r : RelV v u)
  (h : ∀ s', Inv X pins (σ.set i (some v)) H s' -> (∃ a, Heap.SameBut a s.heap s'.heap /\ (a = X.env.locals \/ X.env.cells.lookup x = some a)) -> Q () s') (hf : X.fn x = true \/ X.env.scope.names.lookup x = some .local := by first | exact .inl rfl | exact .inr rfl | assumption) : wpAny M A (storeName X.env x u) Q E s := by
 obtain ⟨m, hn, hl⟩ := id I.loc
 have hcls : (X.env.scope.kind == .class || (X.env.scope.kind == .module && X.env.locals != X.env.globals)) = false := by rw [I.ok.kind]; rfl
 have Ei : i < σ.length := by rw [I.len]; exact (FU.mp hi).1
 have Cj := I.Cj
 have tracked : ∀ {a : Addr} {h' : Heap}, (∃ o, s.heap.get? a = some o /\ H a = none) -> Heap.SameBut a s.heap h' -> z9 X.prog X.w H h' := fun {a h'} ha hs b ob e => by
  obtain ⟨_, _, hfree⟩ := ha
  refine (I.hok b ob e).stay (fun c w' hc q => (hs.2 c ?_).trans q) (fun _ q => q) fun _ _ q => q
  rintro rfl
  rcases hc with rfl | hc
  ·rw [hfree] at e; cases e
  ·rw [hfree] at hc; cases hc
 rcases hx with hk | hk
 ·refine wpAny_storeName_local hk hn (fun h' hn' hs => ?_) hcls
  obtain ⟨oL, _, _, EM, _⟩ := id hn
  refine h _ ⟨I.ok, I.os, I.bare, ⟨fun b o e n hb hx => ?_, fun b o e n hb hx => ?_, I.base.free, fun b o e hx => ?_, I.base.tups, I.base.AH, I.base.AV⟩, ⟨_, hn', fun j y v' e1 e2 e3 => ?_⟩, fun y c e => ?_, I.free, I.zT, fun p hp => ?_, tracked ⟨oL, EM, I.free⟩ hs, by simpa using I.len⟩ ⟨_, hs, .inl rfl⟩
  ·exact (hs.2 b (FW (FL (FD e) I.ok.above))).trans (I.base.keep b o e n hb hx)
  ·obtain ⟨sl, e1⟩ := I.base.slot b o e n hb hx
   exact ⟨sl, (hs.2 b (FW (FL (FD e) I.ok.above))).trans e1⟩
  ·obtain ⟨o', e1⟩ := I.base.there b o e hx
   exact ⟨o', (hs.2 b (FW (FL (FD e) I.ok.above))).trans e1⟩
  ·by_cases hj : j = i
   ·subst hj
    rw [hi] at e1; cases e1
    rw [List.getElem?_set_self Ei] at e2
    cases e2
    exact ⟨u, r, .inl ⟨hk, by simp⟩⟩
   ·rw [List.getElem?_set_ne (G6 hj)] at e2
    obtain ⟨u', r', q⟩ := hl j y v' e1 e2 e3
    refine ⟨u', r', ?_⟩
    rcases q with ⟨k, e⟩ | ⟨k, c, e, z⟩
    ·refine .inl ⟨k, ?_⟩
     have : y ≠ x := fun e => hj (kS hN e1 (e ▸ hi))
     simp [this, e]
    ·exact .inr ⟨k, c, e, z.sameBut hs (Cj y c e)⟩
  ·obtain ⟨w', z⟩ := I.cell y c e
   exact ⟨w', z.sameBut hs (Cj y c e)⟩
  ·obtain ⟨e, n, ne, nf, d⟩ := I.pin p hp
   exact ⟨(hs.2 p.1 ne).trans e, n, ne, nf, d⟩
 ·have hfn : X.fn x = true := by
   rcases hf with z | z
   ·exact z
   ·rw [z] at hk; cases hk
  obtain ⟨c, hc⟩ := I.ok.has x (.inl hk)
  obtain ⟨w', z⟩ := I.cell x c hc
  refine wpAny_storeName_cell I.ok.kind hk hc z (fun h' hc' hs => ?_)
  obtain ⟨oc, hoc, Do⟩ := id z
  refine h { s with heap := h' } ⟨I.ok, I.os, I.bare, ⟨fun b o e n hb hx => ?_, fun b o e n hb hx => ?_, I.base.free, fun b o e hx => ?_, I.base.tups, I.base.AH, I.base.AV⟩, ⟨m, hn.sameBut hs (G6 (Cj x c hc)), fun j y v' e1 e2 e3 => ?_⟩, fun y c' e => ?_, I.free, I.zT, fun p hp => ?_, tracked ⟨oc, hoc, I.zT x c hc⟩ hs, by simpa using I.len⟩ ⟨c, hs, .inr hc⟩
  ·exact (hs.2 b (FW (FL (FD e) (I.ok.CD x c hfn hc)))).trans (I.base.keep b o e n hb hx)
  ·obtain ⟨sl, e1⟩ := I.base.slot b o e n hb hx
   exact ⟨sl, (hs.2 b (FW (FL (FD e) (I.ok.CD x c hfn hc)))).trans e1⟩
  ·obtain ⟨o', e1⟩ := I.base.there b o e hx
   exact ⟨o', (hs.2 b (FW (FL (FD e) (I.ok.CD x c hfn hc)))).trans e1⟩
  ·by_cases hj : j = i
   ·subst hj
    rw [hi] at e1; cases e1
    rw [List.getElem?_set_self Ei] at e2
    cases e2
    exact ⟨u, r, .inr ⟨.inl hk, c, hc, hc'⟩⟩
   ·rw [List.getElem?_set_ne (G6 hj)] at e2
    obtain ⟨u', r', q⟩ := hl j y v' e1 e2 e3
    refine ⟨u', r', ?_⟩
    rcases q with q | ⟨k, c', e, z'⟩
    ·exact .inl q
    ·refine .inr ⟨k, c', e, z'.sameBut hs ?_⟩
     rintro rfl
     exact hj (kS hN e1 (I.ok.inj _ _ _ e hc ▸ hi))
  ·by_cases hcc : c' = c
   ·subst hcc; exact ⟨_, hc'⟩
   ·obtain ⟨w2, z2⟩ := I.cell y c' e
    exact ⟨w2, z2.sameBut hs hcc⟩
  ·obtain ⟨e, n, ne, nf, d⟩ := I.pin p hp
   refine ⟨(hs.2 p.1 ?_).trans e, n, ne, nf, d⟩
   intro q
   rw [q, hoc] at e
   have q' : oc = p.2 := Ga e
   exact d w' (by rw [<- q']; exact Do)
def ci{M:Model}{A:Around}{E:Vq}{i:Nat}{x:Str}{v:V}{u:Value}{Q:Unit->Shared->Prop}(I:Inv X pins σ H s)(hN:X.N.Nodup)(hi:X.N[i]?=some x)(hx:sa X.env.scope x)(r:RelV v u)
  (h:∀s',Inv X pins (σ.set i (some v)) H s'->Q () s') (hf:X.fn x=true\/X.env.scope.names.lookup x=some .local:=by first|exact .inl rfl|exact .inr rfl|assumption):wpAny M A (storeName X.env x u) Q E s:=
 ju I hN hi hx r (fun s' I' _=>h s' I') hf
def Inv.CM{s':Shared}{ch:List Addr}(I:Inv X pins σ H s)(ho:s'.os=s.os)(u:Un (frs X.stack) ch H H' s.heap s'.heap)(hok:z9 X.prog X.w H' s'.heap)(hg:AllBare s'.gens)
  (hch:∀b∈ch,(b∈X.ex\/X.s₀.heap.objs.size<=b)/\b≠X.env.locals/\(∀x c,X.env.cells.lookup x=some c->c≠b)/\∀p∈X.pn++pins,p.1≠b):Inv X pins σ H' s':=by
 obtain⟨h',g',d',t',o'⟩:=s'
 have e:o'=s.os:=ho
 subst e
 exact I.call (g':=g') (t':=t') (d':=d') u hok hg hch
end
abbrev XK:=Value->Option Addr->Hp->Prop
abbrev St:=List (Option V)
abbrev VK:=V->Hp->Prop
abbrev TE:=St->Hp->VK->Prop
abbrev TT:=St->Hp->(Bool->Hp->Prop)->Prop
abbrev TA:=St->Hp->(List V->Hp->Prop)->Prop
structure lH where
 nx:St->Hp->Prop
 rt:VK
 bk:St->Hp->Prop:=fun _ _=>False
 ct:St->Hp->Prop:=fun _ _=>False
abbrev TS:=lH->St->Hp->Prop
def EP(X:Cx)(pins:Va)(σ:St)(Q:VK)(u:Value)(s':Shared):Prop:=∃v H',Inv X pins σ H' s'/\RelV v u/\Q v H'
def TP(X:Cx)(pins:Va)(σ:St)(Q:Bool->Hp->Prop)(b:Bool)(s':Shared):Prop:=∃H',Inv X pins σ H' s'/\Q b H'
def AP(X:Cx)(pins:Va)(σ:St)(Q:List V->Hp->Prop)(us:Vv)(s':Shared):Prop:=∃vs H',Inv X pins σ H' s'/\Vals vs us/\Q vs H'
def SP(X:Cx)(pins:Va)(D:lH)(f:Flow)(s':Shared):Prop:=
 match f with
 | .next=>∃σ' H',Inv X pins σ' H' s'/\D.nx σ' H'
 | .brk=>∃σ' H',Inv X pins σ' H' s'/\D.bk σ' H'
 | .cont=>∃σ' H',Inv X pins σ' H' s'/\D.ct σ' H'
 | .ret u=>∃v σ' H',Inv X pins σ' H' s'/\RelV v u/\D.rt v H'
def PE(X:Cx)(e:Expr)(t:TE):Prop:=
 ∀(pins:Va) (s:Shared) (σ:St) (H:Hp) (Q:VK),Inv X pins σ H s->t σ H Q->wpAny (model X.prog X.w) X.A (eval e X.env) (EP X pins σ Q) X.xe s
def PT(X:Cx)(e:Expr)(t:TT):Prop:=
 ∀(pins:Va) (s:Shared) (σ:St) (H:Hp) (Q:Bool->Hp->Prop),Inv X pins σ H s->t σ H Q->wpAny (model X.prog X.w) X.A (isTrue e X.env (eval e X.env)) (TP X pins σ Q) X.xe s
def PW(X:Cx)(e:Expr)(t:TT):Prop:=
 ∀(whole:Sem Value) (pins:Va) (s:Shared) (σ:St) (H:Hp) (Q:Bool->Hp->Prop),Inv X pins σ H s->t σ H Q->wpAny (model X.prog X.w) X.A (isTrue e X.env whole) (TP X pins σ Q) X.xe s
def PW.pt{X:Cx}{e:Expr}{t:TT}(h:PW X e t):PT X e t:=h _
def PA(X:Cx)(es:List Expr)(t:TA):Prop:=
 ∀(pos:Pos) (pins:Va) (s:Shared) (σ:St) (H:Hp) (Q:List V->Hp->Prop),Inv X pins σ H s->t σ H Q->wpAny (model X.prog X.w) X.A (spliced (backTo pos (starEach es X.env))) (AP X pins σ Q) X.xe s
def PS(X:Cx)(st:Stmt)(t:TS):Prop:=
 ∀(pins:Va) (s:Shared) (σ:St) (H:Hp) (D:lH),Inv X pins σ H s->t D σ H->wpAny (model X.prog X.w) X.A (exec st X.env) (SP X pins D) X.xe s
def Ba(X:Cx)(st:List Stmt)(t:TS):Prop:=
 ∀(pins:Va) (s:Shared) (σ:St) (H:Hp) (D:lH),Inv X pins σ H s->t D σ H->wpAny (model X.prog X.w) X.A (execs st X.env) (SP X pins D) X.xe s
def yF{α:Type}{t:Sem α}{Q Q':α->Shared->Prop}{M:Model}{A:Around}{E:Vq}{s:Shared}(h:wpAny M A t Q E s)(hQ:∀a s,Q a s->Q' a s):wpAny M A t Q' E s:=GW h hQ fun _ _ x=>x
section
variable {X:Cx}
def wT(i:Nat):TE:=fun σ H Q=>∃v,σ[i]?=some (some v)/\Q v H
def tC(v:V):TE:=fun _ H Q=>Q v H
def sF{i:Nat}{x:Str}{pos:Pos}(hN:X.N[i]?=some x)(hv:wF X.env.scope x)(hd:(x == ("__debug__":Str))=false:=by decide)(hcd:(x == ("__classdict__":Str))=false:=by decide):PE X (.Name x pos) (wT i):=by
 intro pins s σ H Q I h
 obtain⟨v,e,h⟩:=h
 obtain⟨m,hn,hl⟩:=I.loc
 obtain⟨u,r,l⟩:=hl i x v hN e hv
 have fin:EP X pins σ Q u s:=⟨v,H,I,r,h⟩
 rcases l with⟨hk,hm⟩|⟨hk,c,hc,hcell⟩
 ·exact wpAny_Name (wpAny_loadName_local I.ok.kind hk hn hm fin) hd
 ·rcases hk with hk|hk
  ·exact wpAny_Name (wpAny_loadName_cell I.ok.kind hk hc hcell fin) hd
  ·exact wpAny_Name (wpAny_loadName_free I.ok.kind hk hc hcell fin hcd) hd
def sG{i j pos}:PE X (.Constant (.int i) j pos) (tC (.int i)):=fun _ _ _ H _ I h=>wpAny_Constant_int ⟨.int i,H,I.tok _,⟨_,rfl⟩,h⟩
def vk{b j pos}:PE X (.Constant (.bool b) j pos) (tC (.bl b)):=fun _ _ _ H _ I h=>Constant_bool ⟨.bl b,H,I,rfl,h⟩
def sH{j pos}:PE X (.Constant .none j pos) (tC .non):=fun _ _ _ H _ I h=>Constant_none ⟨.non,H,I,rfl,h⟩
def sI{x j pos}:PE X (.Constant (.str x) j pos) (tC (.str x)):=fun _ _ _ H _ I h=>Calls.Constant_str ⟨.str x,H,I.tok _,⟨_,rfl⟩,h⟩
def Gl(X:Cx)(x:Str):Prop:=X.env.kindOf x=some .globalImplicit
def mx{E:Vq}{pins:Va}{s:Shared}{σ:St}{H:Hp}{x:Str}{u:Value}{pos:Pos}{Q:Vq}(I:Inv X pins σ H s)(hg:Gl X x)(hm:X.mg x=some u)(h:Q u s)
  (hd:(x == ("__debug__":Str))=false:=by decide):wpAny (model X.prog X.w) X.A (eval (.Name x pos) X.env) Q E s:=
 Calls.Name_function_global I.ok.kind hg (Calls.loadGlobal_global (by rw[I.ok.glob];exact I.mod.glob.keeps I.bk) hm h) hd
def e7{E:Vq}{pins:Va}{s:Shared}{σ:St}{H:Hp}{x:Str}{u:Value}{pos:Pos}{Q:Vq}(I:Inv X pins σ H s)(hg:Gl X x)(hm:X.mg x=none)(hv:bootBuiltins x=some u)(h:Q u s)
  (hn:x ≠ "__name__":=by decide) (hd:(x == ("__debug__":Str))=false:=by decide):wpAny (model X.prog X.w) X.A (eval (.Name x pos) X.env) Q E s:=by
 obtain⟨mb,h1,h2⟩:=I.mod.blt
 exact Calls.Name_function_global I.ok.kind hg (Calls.loadGlobal_builtin (by rw[I.ok.glob];exact I.mod.glob.keeps I.bk) hm (by rw[I.ok.blt];exact h1.keeps I.bk) ((h2 x hn).trans hv) h) hd
def qj{x:Str}{v:V}{u:Value}{pos:Pos}(hg:Gl X x)(hm:X.mg x=none)(hv:bootBuiltins x=some u)(r:RelV v u)(hn:x ≠ "__name__":=by decide)(hd:(x == ("__debug__":Str))=false:=by decide):PE X (.Name x pos) (tC v):=
 fun _ _ _ H _ I h=>e7 I hg hm hv ⟨v,H,I,r,h⟩ hn hd
variable {a b:Expr} {ta tb:TE} {pos:Pos}
def tB(t:TE):TT:=fun σ H Q=>t σ H fun x H1=>∃c,x = .bl c/\Q c H1
def sJ{e:Expr}{t:TE}(h:PE X e t)(he:∀whole,isTrue e X.env whole=(do let v <-whole;standAt e.pos;holding [v] (truthy v)):=by intro _;rfl):PT X e (tB t):=by
 intro pins s σ H Q I hw
 refine isTrue_plain (yF (h pins s σ H _ I hw) fun v s1 ⟨x,H1,I1,r1,q1⟩=>?_) (he _)
 obtain⟨d,rfl,q⟩:=q1
 cases r1
 exact G0 ⟨H1,I1,q⟩
variable {tA C3:TT} {rest:List Expr}
def wU(t u:TT):TT:=fun σ H Q=>t σ H fun c H1=>if c=true then u σ H1 Q else Q false H1
def yd(t u:TT):TT:=fun σ H Q=>t σ H fun c H1=>if c=true then Q true H1 else u σ H1 Q
def wV(t:TT):TT:=fun σ H Q=>t σ H fun c H1=>Q (!c) H1
def qk(ha:PT X a tA):PW X (.BoolOp .And [a] pos) tA:=by
 intro wh pins s σ H Q I h
 refine isTrue_and (yF (ha pins s σ H Q I h) fun c s1 e=>?_)
 cases c with
 |true=>exact isTrue_and_nil e
 |false=>exact e
def sK(ha:PT X a tA):PW X (.BoolOp .Or [a] pos) tA:=by
 intro wh pins s σ H Q I h
 refine isTrue_or (yF (ha pins s σ H Q I h) fun c s1 e=>?_)
 cases c with
 |false=>exact isTrue_or_nil e
 |true=>exact e
def sL(ha:PT X a tA)(hb:PW X (.BoolOp .And (b::rest) pos) C3):PW X (.BoolOp .And (a::b::rest) pos) (wU tA C3):=by
 intro wh pins s σ H Q I h
 refine isTrue_and (yF (ha pins s σ H _ I h) fun c s1 ⟨H1,I1,q1⟩=>?_)
 cases c with
 |true=>exact hb wh pins s1 σ H1 Q I1 q1
 |false=>exact⟨H1,I1,q1⟩
def vm(ha:PT X a tA)(hb:PW X (.BoolOp .Or (b::rest) pos) C3):PW X (.BoolOp .Or (a::b::rest) pos) (yd tA C3):=by
 intro wh pins s σ H Q I h
 refine isTrue_or (yF (ha pins s σ H _ I h) fun c s1 ⟨H1,I1,q1⟩=>?_)
 cases c with
 |true=>exact⟨H1,I1,q1⟩
 |false=>exact hb wh pins s1 σ H1 Q I1 q1
def sM(ha:PT X a tA):PT X (.UnaryOp .Not a pos) (wV tA):=by
 intro pins s σ H Q I h
 exact isTrue_not (ha pins s σ H (fun c H1=>Q (!c) H1) I h)
def vn(ta tb:TE):TE:=fun σ H Q=>ta σ H fun x H1=>∃c,x = .bl c/\if c=true then tb σ H1 Q else Q (.bl false) H1
def vo(ta:TE):TE:=fun σ H Q=>ta σ H fun x H1=>∃c,x = .bl c/\Q (.bl (!c)) H1
def sN{op}{t:TE}(h:PE X a t):PE X (.BoolOp op [a] pos) t:=fun pins s σ H Q I hw=>BoolOp_one (h pins s σ H Q I hw)
def sO(ha:PE X a ta)(hb:PE X (.BoolOp .And (b::rest) pos) tb):PE X (.BoolOp .And (a::b::rest) pos) (vn ta tb):=by
 intro pins s σ H Q I h
 refine BoolOp_and (yF (ha pins s σ H _ I h) fun v s1 ⟨x,H1,I1,r1,q1⟩=>?_)
 obtain⟨c,rfl,q1⟩:=q1
 cases r1
 refine G0 ?_
 cases c with
 |true=>exact hb pins s1 σ H1 Q I1 q1
 |false=>exact⟨.bl false,H1,I1,rfl,q1⟩
def sP(ha:PE X a ta):PE X (.UnaryOp .Not a pos) (vo ta):=by
 intro pins s σ H Q I h
 refine UnaryOp_ (yF (ha pins s σ H _ I h) fun v s1 ⟨x,H1,I1,r1,q1⟩=>?_)
 obtain⟨c,rfl,q1⟩:=q1
 cases r1
 exact not_of (G0 ⟨.bl (!c),H1,I1,rfl,q1⟩)
def ye(t:TT)(ta tb:TE):TE:=fun σ H Q=>t σ H fun c H1=>if c=true then ta σ H1 Q else tb σ H1 Q
def n_{c:Expr}(hc:PT X c tA)(ha:PE X a ta)(hb:PE X b tb):PE X (.IfExp c a b pos) (ye tA ta tb):=by
 intro pins s σ H Q I h
 refine wpAny_IfExp (yF (hc pins s σ H _ I h) fun d s1 ⟨H1,I1,q1⟩=>?_)
 cases d with
 |true=>exact ha pins s1 σ H1 Q I1 q1
 |false=>exact hb pins s1 σ H1 Q I1 q1
end
def SqL(K:Vo)(H:Hp)(a:Addr)(xs:List V):Prop:=
 Rd H a (.lst xs) \/
  ∃(o:Obj) (its:Vw) (n:Nat),K.lookup a=some o/\o.cls = .type "list"/\o.dict=none/\o.data = .seq its n/\its.size<=sizeLine/\Vals xs its.toList
def zJ(K:Vo)(H:Hp)(a:Addr)(xs:List V):Prop:=
 Rd H a (.tup xs) \/
  ∃(o:Obj) (its:Vw) (n:Nat),K.lookup a=some o/\o.cls = .type "tuple"/\o.dict=none/\o.data = .seq its n/\its.size<=sizeLine/\Vals xs its.toList
noncomputable def wW:Value->Option V
 | .none=>some .non
 | .bool b=>some (.bl b)
 | .int i _=>some (.int i)
 | .str x _=>some (.str x)
 | .bytes b _=>some (.BC b)
 | .float b _=>some (.Dh b)
 | .ref a=>some (.ref a)
 | .type n=>some (.ty n)
 |_=>none
def RelV.abs{x:V}{u:Value}(r:RelV x u):wW u=some x:=by
 cases x with
 |non=>cases r;rfl
 |bl _=>cases r;rfl
 |int _=>obtain⟨t,rfl⟩:=r;rfl
 |str _=>obtain⟨t,rfl⟩:=r;rfl
 |BC _=>obtain⟨t,rfl⟩:=r;rfl
 |Dh _=>obtain⟨t,rfl⟩:=r;rfl
 |ref _=>cases r;rfl
 |ty _=>cases r;rfl
theorem RelV.inj{x y:V}{u:Value}(r:RelV x u)(q:RelV y u):x=y:=Ga (r.abs.symm.trans q.abs)
theorem Vals.inj:∀{xs ys:List V} {us:Vv},Vals xs us->Vals ys us->xs=ys
 |_,_,_,.nil,.nil=>rfl
 |_,_,_,.cons r t,.cons r' t'=>by rw[r.inj r',Vals.inj t t']
section
variable {X:Cx} {pins:Va} {σ:St} {H:Hp} {s:Shared} {a:Addr} {xs ys:List V}
def SqL.of{K:Vo}(h:H a=some (.lst xs)):SqL K H a xs:=.inl (.inl h)
def zJ.of{K:Vo}(h:H a=some (.tup xs)):zJ K H a xs:=.inl (.inl h)
def Inv.list(I:Inv X pins σ H s)(h:SqL X.K H a xs):∃its:List Value,Vals xs its/\PlainL s.heap a its.toArray/\xs.length<=sizeLine:=by
 rcases h with h|⟨o,its,n,hk,hc,hd,hs,hz,r⟩
 ·obtain⟨z,its,n,r,e⟩:=h.ok I.hok
  exact⟨its,r,⟨_,n,e,rfl,rfl,rfl⟩,z⟩
 ·refine⟨its.toList,r,⟨o,n,I.BW a o hk,hc,hd,by simpa using hs⟩,?_⟩
  have e:=r.length
  simp only[Array.length_toList]at e
  omega
def Inv.tuple(I:Inv X pins σ H s)(h:zJ X.K H a xs):∃its:List Value,Vals xs its/\IsTup s.heap a its.toArray/\xs.length<=sizeLine:=by
 rcases h with h|⟨o,its,n,hk,hc,_,hs,hz,r⟩
 ·obtain⟨z,its,r,p⟩:=h.ok I.hok
  exact⟨its,r,p.tup,z⟩
 ·refine⟨its.toList,r,⟨o,I.BW a o hk,hc,n,by simpa using hs⟩,?_⟩
  have e:=r.length
  simp only[Array.length_toList]at e
  omega
def Inv.AW(I:Inv X pins σ H s)(h:SqL X.K H a xs)(h':SqL X.K H a ys):xs=ys:=by
 obtain⟨its,r,⟨o,n,e,_,_,d⟩,_⟩:=I.list h
 obtain⟨its',r',⟨o',n',e',_,_,d'⟩,_⟩:=I.list h'
 rw[e]at e';cases e'
 rw[d]at d'
 injection d' with d1 _
 have:its=its':=by simpa using F5 Array.toList d1
 subst this
 exact r.inj r'
def Inv.AF(I:Inv X pins σ H s)(h:zJ X.K H a xs)(h':zJ X.K H a ys):xs=ys:=by
 obtain⟨its,r,⟨o,e,_,n,d⟩,_⟩:=I.tuple h
 obtain⟨its',r',⟨o',e',_,n',d'⟩,_⟩:=I.tuple h'
 rw[e]at e';cases e'
 rw[d]at d'
 injection d' with d1 _
 have:its=its':=by simpa using F5 Array.toList d1
 subst this
 exact r.inj r'
end
noncomputable abbrev Cx.wish(X:Cx)(E:Vq):Cx:={ X with xe:=E }
noncomputable abbrev Cx.CN(X:Cx):Cx:=X.wish fun _ _=>False
theorem Cx.Ok.wish{X:Cx}(ok:X.Ok)(E:Vq):(X.wish E).Ok:=
 ⟨ok.mod,ok.kind,ok.glob,ok.blt,ok.above,ok.inj,ok.has,ok.CD,ok.hd,ok.frames,ok.stk,ok.Dl,ok.bs,ok.BV,ok.Bu,ok.BD,ok.At,ok.Ci⟩
def Cx.Ok.zU{X:Cx}{E:Vq}(ok:(X.wish E).Ok):X.Ok:=
 ⟨ok.mod,ok.kind,ok.glob,ok.blt,ok.above,ok.inj,ok.has,ok.CD,ok.hd,ok.frames,ok.stk,ok.Dl,ok.bs,ok.BV,ok.Bu,ok.BD,ok.At,ok.Ci⟩
section
variable {X:Cx} {pins:Va} {σ:St} {H:Hp} {s:Shared} {E:Vq}
theorem Inv.wish(I:Inv X pins σ H s)(E:Vq):Inv (X.wish E) pins σ H s:=⟨I.ok.wish E,I.os,I.bare,I.base,I.loc,I.cell,I.free,I.zT,I.pin,I.hok,I.len⟩
theorem Inv.zU(I:Inv (X.wish E) pins σ H s):Inv X pins σ H s:=⟨I.ok.zU,I.os,I.bare,I.base,I.loc,I.cell,I.free,I.zT,I.pin,I.hok,I.len⟩
theorem SP.zU{D:lH}{f:Flow}{s':Shared}(h:SP (X.wish E) pins D f s'):SP X pins D f s':=by
 cases f with
 |next=>obtain⟨σ',H',I,q⟩:=h;exact⟨σ',H',I.zU,q⟩
 |brk=>obtain⟨σ',H',I,q⟩:=h;exact⟨σ',H',I.zU,q⟩
 |cont=>obtain⟨σ',H',I,q⟩:=h;exact⟨σ',H',I.zU,q⟩
 |ret u=>obtain⟨v,σ',H',I,r,q⟩:=h;exact⟨v,σ',H',I.zU,r,q⟩
theorem Ba.CN{st:List Stmt}{t:TS}(h:Ba X.CN st t):Ba X st t:=fun pins s σ H D I hw=>
 GW (h pins s σ H D (I.wish _) hw) (fun _ _ q=>q.zU) fun _ _ z=>False.elim z
end
section
variable {X:Cx} {st:Stmt} {rest:List Stmt} {t u:TS} {e:Expr} {te:TE} {pos:Pos}
def vp:TS:=fun D σ H=>D.nx σ H
def wX(t u:TS):TS:=fun D σ H=>t { D with nx:=u D } σ H
def qm:Ba X [] vp:=fun _ _ σ H _ I h=>HL ⟨σ,H,I,h⟩
def oa(h1:PS X st t)(h2:Ba X rest u):Ba X (st::rest) (wX t u):=by
 intro pins s σ H D I h
 refine wpAny_execs_cons (yF (h1 pins s σ H { D with nx:=u D } I h) fun f s1 q=>?_)
 cases f with
 |next=>
  obtain⟨σ',H',I',q⟩:=q
  exact h2 pins s1 σ' H' D I' q
 |ret v=>exact q
 |brk=>exact q
 |cont=>exact q
def qo(h1:PS X st t):Ba X [st] t:=by
 intro pins s σ H D I h
 refine wpAny_execs_cons (yF (h1 pins s σ H D I h) fun f s1 q=>?_)
 cases f with
 |next=>exact HL q
 |ret v=>exact q
 |brk=>exact q
 |cont=>exact q
def Inv.quiet{pins:Va}{σ:St}{H:Hp}{s:Shared}(I:Inv X pins σ H s):interactive X.env=false:=by simp[interactive,I.ok.kind]
def vq(te:TE):TS:=fun D σ H=>te σ H fun _ H1=>D.nx σ H1
def qp(he:PE X e te)(hs:swapsWith e none pos.line X.env=pure false:=by rfl):PS X (.Expr e pos) (vq te):=by
 intro pins s σ H D I h
 exact wpAny_Expr_any (yF (he pins s σ H _ I h) fun v s1 ⟨x,H1,I1,r1,q1⟩=>⟨σ,H1,I1,q1⟩) I.quiet hs
def wY(te:TE):TS:=fun D σ H=>te σ H D.rt
def sQ(he:PE X e te):PS X (.Return (some e) pos) (wY te):=by
 intro pins s σ H D I h
 exact wpAny_Return_some (yF (he pins s σ H _ I h) fun v s1 ⟨x,H1,I1,r1,q1⟩=>⟨x,σ,H1,I1,r1,q1⟩)
def wZ(c:TT)(t u:TS):TS:=fun D σ H=>c σ H fun b H1=>if b=true then t D σ H1 else u D σ H1
def vt{c:Expr}{a b:List Stmt}{tc:TT}(hc:PT X c tc)(ha:Ba X a t)(hb:Ba X b u):PS X (.If c a b pos) (wZ tc t u):=by
 intro pins s σ H D I h
 refine wpAny_If (yF (hc pins s σ H _ I h) fun d s1 ⟨H1,I1,q1⟩=>?_)
 cases d with
 |true=>exact ha pins s1 σ H1 D I1 q1
 |false=>exact hb pins s1 σ H1 D I1 q1
end
abbrev TG:=V->St->Hp->(St->Hp->Prop)->Prop
abbrev se:=List V->St->Hp->(St->Hp->Prop)->Prop
def PG(X:Cx)(target:Expr)(t:TG):Prop:=
 ∀(pins:Va) (s:Shared) (σ:St) (H:Hp) (v:V) (u:Value) (Q:St->Hp->Prop),Inv X pins σ H s->RelV v u->t v σ H Q->
  wpAny (model X.prog X.w) X.A (assign target X.env u) (fun _ s'=>∃σ' H',Inv X pins σ' H' s'/\Q σ' H') X.xe s
def vv(X:Cx)(ts:List Expr)(t:se):Prop:=
 ∀(pins:Va) (s:Shared) (σ:St) (H:Hp) (vs:List V) (us:Vv) (Q:St->Hp->Prop),Inv X pins σ H s->Vals vs us->t vs σ H Q->
  wpAny (model X.prog X.w) X.A (assignInOrder ((assignEach ts X.env).map (·.2)) us) (fun _ s'=>∃σ' H',Inv X pins σ' H' s'/\Q σ' H') X.xe s
abbrev sR:=V->V->V->Hp->(Hp->Prop)->Prop
def qq(X:Cx)(t:sR):Prop:=
 ∀(pins:Va) (s:Shared) (σ:St) (H:Hp) (o i v:V) (ov iv u:Value) (Q:Hp->Prop),Inv X pins σ H s->RelV o ov->RelV i iv->RelV v u->t o i v H Q->
  wpAny (model X.prog X.w) X.A (setItem ov iv u) (fun _ s'=>∃H',Inv X pins σ H' s'/\Q H') X.xe s
section
variable {X:Cx} {pos:Pos}
def kT(i:Nat):TG:=fun v σ H Q=>Q (σ.set i (some v)) H
def qr{i:Nat}{x:Str}(hN:X.N.Nodup)(hi:X.N[i]?=some x)(hx:sa X.env.scope x)(hf:X.fn x=true\/X.env.scope.names.lookup x=some .local:=by first|exact .inl rfl|exact .inr rfl|assumption):PG X (.Name x pos) (kT i):=by
 intro pins s σ H v u Q I r h
 exact wpAny_assign_Name (ci I hN hi hx r (fun s' I'=>⟨_,H,I',h⟩) hf)
noncomputable def vx:se:=fun vs σ H Q=>vs=[]/\Q σ H
noncomputable def sf(t:TG)(u:se):se:=fun vs σ H Q=>∃v r,vs=v::r/\t v σ H fun σ' H'=>u r σ' H' Q
def qt:vv X [] vx:=by
 intro pins s σ H vs us Q I r h
 obtain⟨e,h⟩:=h
 subst e
 cases r
 exact assignInOrder_nil ⟨σ,H,I,h⟩
def og{e:Expr}{es:List Expr}{t:TG}{u:se}(h1:PG X e t)(h2:vv X es u)
  (hs:(assignEach (e::es) X.env).map (·.2)=assign e X.env::(assignEach es X.env).map (·.2):=by rfl):vv X (e::es) (sf t u):=by
 intro pins s σ H vs us Q I r h
 obtain⟨v,vr,e1,h⟩:=h
 subst e1
 cases r with
 |cons r rr=>
  rw[hs]
  refine GI (yF (h1 pins s σ H _ _ _ I r h) fun _ s1 ⟨σ1,H1,I1,q1⟩=>?_)
  exact h2 pins s1 σ1 H1 _ _ Q I1 rr q1
def vy(K:Vo)(n:Nat)(t:se):TG:=fun v σ H Q=>∃a xs,v = .ref a/\zJ K H a xs/\xs.length=n/\t xs σ H Q
def sT{es:List Expr}{k:Nat}{t:se}{n:Nat}(hc:X.calm=true)(h:vv X es t)
  (hn:(assignEach es X.env).length=n:=by rfl) (hst:(assignEach es X.env).findIdx? (·.1)=none:=by rfl):PG X (.Tuple es k pos) (vy X.K n t):=by
 intro pins s σ H v u Q I r hw
 obtain⟨a,xs,e1,hq,hl,hw⟩:=hw
 subst e1
 cases r
 obtain⟨its,rv,ht,hz⟩:=I.tuple hq
 refine assign_Tuple_tuple (I.ok.hd hc) ht (by simp[hn,<-hl,rv.length]) hst fun h' hx=>?_
 have I1:Inv X pins σ H { s with heap:=h' }:=I.kept (t':=s.toks) fun b o e=>hx b o (FW (FD e)) e
 exact h pins _ σ H xs _ Q I1 (by simpa using rv) hw
def w4(to ti:TE)(t:sR):TG:=fun v σ H Q=>to σ H fun o H1=>ti σ H1 fun i H2=>t o i v H2 fun H3=>Q σ H3
def sU{o i:Expr}{to ti:TE}{t:sR}(ho:PE X o to)(hi:PE X i ti)(hs:qq X t)
  (ha:∀v,assign (.Subscript o i pos) X.env v=(do
   let ov <-holding [v] (eval o X.env)
   let iv <-holding [v,ov] (eval i X.env)
   standAt pos
   holding [v,ov,iv] (setItem ov iv v)
   release [v,ov,iv] []):=by intro _;rfl):PG X (.Subscript o i pos) (w4 to ti t):=by
 intro pins s σ H v u Q I r h
 rw[ha]
 refine Fw (G4 (yF (ho pins s σ H _ I h) fun ov s1 ⟨x,H1,I1,r1,q1⟩=>?_))
 refine Fw (G4 (yF (hi pins s1 σ H1 _ I1 q1) fun iv s2 ⟨y,H2,I2,r2,q2⟩=>?_))
 refine Fw (wpAny_standAt (Fw (G4 (yF (hs pins s2 σ H2 x y v ov iv u _ I2 r1 r2 r q2) fun _ s3 ⟨H3,I3,q3⟩=>?_))))
 exact wpAny_release ⟨σ,H3,I3,q3⟩
def qu(te:TE)(g:TG):TS:=fun D σ H=>te σ H fun x H1=>g x σ H1 D.nx
def sV{tg e:Expr}{te:TE}{g:TG}(he:PE X e te)(hg:PG X tg g)(hs:swapsWithSole [tg] e pos.line X.env=pure false:=by rfl)(hw:swappedStores [tg] e X.env=pure none:=by rfl)
  (h1:(assignEach [tg] X.env).map (·.2)=[assign tg X.env]:=by rfl):PS X (.Assign [tg] e pos) (qu te g):=by
 intro pins s σ H D I h
 refine wpAny_Assign_stores (yF (he pins s σ H _ I h) fun v s1 ⟨x,H1,I1,r1,q1⟩=>?_) hs hw
 rw[h1]
 exact yF (hg pins s1 σ H1 x v _ I1 r1 q1) fun _ s2 q=>q
def sW{i:Nat}{x:Str}{e:Expr}{te:TE}{pos':Pos}(hN:X.N.Nodup)(hi:X.N[i]?=some x)(hx:sa X.env.scope x)(he:PE X e te)(hs:swapsWith e (some (.Name x pos')) pos.line X.env=pure false:=by rfl)(hf:X.fn x=true\/X.env.scope.names.lookup x=some .local:=by first|exact .inl rfl|exact .inr rfl|assumption) :
  PS X (.Assign [.Name x pos'] e pos) (qu te (kT i)):=by
 intro pins s σ H D I h
 refine wpAny_Assign_Name (yF (he pins s σ H _ I h) fun v s1 ⟨y,H1,I1,r1,q1⟩=>?_) hs
 exact ci I1 hN hi hx r1 (fun s2 I2=>⟨_,H1,I2,q1⟩) hf
def w5(i j:Nat)(ta:TA):TS:=fun D σ H=>ta σ H fun vs H1=>∃v w,vs=[v,w]/\D.nx ((σ.set i (some v)).set j (some w)) H1
def sX{i j:Nat}{x y:Str}{a b:Expr}{ta:TA}{px py pt:Pos}{kt k2 Ck}(hc:X.calm=true)(hN:X.N.Nodup)(hi:X.N[i]?=some x)(hj:X.N[j]?=some y)(hij:i≠j)
  (hx:X.env.scope.names.lookup x=some .local) (hy:X.env.scope.names.lookup y=some .local) (ha:PA X [a,b] ta)
  (hw:swappedStores [.Tuple [.Name x px,.Name y py] kt pt] (.Tuple [a,b] k2 Ck) X.env=pure (some [x,y]))
  (hs:swapsWithSole [.Tuple [.Name x px,.Name y py] kt pt] (.Tuple [a,b] k2 Ck) pos.line X.env=pure false:=by rfl) :
  PS X (.Assign [.Tuple [.Name x px,.Name y py] kt pt] (.Tuple [a,b] k2 Ck) pos) (w5 i j ta):=by
 intro pins s σ H D I h
 rw[exec_Assign_arm]
 refine Fw (wpAny_standAt ?_)
 rw[hs]
 refine Fw (FJ ?_)
 rw[if_neg (by decide)]
 refine Fw (Tuple_ (yF (ha _ pins s σ H _ I h) fun us s1 ⟨vs,H1,I1,r1,q1⟩=>?_))
 obtain⟨v,w,e1,q1⟩:=q1
 subst e1
 obtain⟨u1,u2,rfl,rv,rw'⟩:∃u1 u2,us=[u1,u2]/\RelV v u1/\RelV w u2:=by
  cases r1 with
  |cons p q=>
   cases q with
   |cons p' q'=>
    cases q'
    exact⟨_,_,rfl,p,p'⟩
 refine Gs ?_ (by show 2<=sizeLine;decide)
 have I2:Inv X pins σ H1 { s1 with heap:=s1.heap.push { cls:=.type "tuple",data:=.seq [u1,u2].toArray } }:=I1.kept (t':=s1.toks) fun b o e=>FA _ e
 rw[hw]
 refine Fw (FJ ?_)
 show wpAny (model X.prog X.w) X.A (do rule "assign.swapped-stores"; let items <-unpackItems (.ref s1.heap.objs.size) 2 none;assignInOrder [fun v=>bindName X.env y v,fun v=>bindName X.env x v] items.reverse;pure Flow.next) _ _ _
 refine Fw (wpAny_rule (Fw (unpackItems_tuple (items:=#[u1,u2]) (I.ok.hd hc) (IsTup.new s1.heap _) fun h' hx'=>?_)))
 have I3:=I2.kept (h':=h') (t':=s1.toks) fun b o e=>hx' b o (FW (FD e)) e
 show wpAny _ _ (assignInOrder [fun v=>bindName X.env y v,fun v=>bindName X.env x v] [u2,u1] >>= fun _=>pure Flow.next) _ _ _
 refine Fw (GI (Ho (ci I3 hN hj (.inl hy) rw' (fun s2 I4=>?_) (.inr hy))))
 refine GI (Ho (ci I4 hN hi (.inl hx) rv (fun s3 I5=>assignInOrder_nil (FJ ?_)) (.inr hx)))
 rw[List.set_comm _ _ (G6 hij)]at I5
 exact⟨_,H1,I5,q1⟩
end
section
variable {X:Cx} {pos:Pos}
def sY(c:TT)(tb:TS):TS:=fun D σ H=>∃W:Nat->St->Hp->Prop,(∃m,W m σ H)/\∀m σ H,W m σ H->
 c σ H fun b H1=>if b=true then ∃N:St->Hp->Prop,(∀σ' H',N σ' H'->∃m',m' < m/\W m' σ' H')/\tb { D with nx:=N,ct:=N,bk:=D.nx } σ H1 else D.nx σ H1
def oh{c:Expr}{body:List Stmt}{tc:TT}{tb:TS}(hp:PassesOwn (model X.prog X.w) X.A X.env X.xe)(hc:PT X c tc)(hb:Ba X body tb):PS X (.While c body [] pos) (sY tc tb):=by
 intro pins s σ H D I h
 obtain⟨W,⟨m0,w0⟩,turn⟩:=h
 refine wpAny_While (codeAny_whileLoop (fun n s'=>∃σ' H',Inv X pins σ' H' s'/\W n σ' H') ?_ m0 ⟨σ,H,I,w0⟩)
 rintro n s1 ⟨σ1,H1,I1,w1⟩
 refine GK hp (yF (hc pins s1 σ1 H1 _ I1 (turn n σ1 H1 w1)) fun b s2 ⟨H2,I2,q2⟩=>?_)
 cases b with
 |true=>
  obtain⟨N,hN,q2⟩:=q2
  rw[if_pos rfl]
  refine GK hp (yF (hb pins s2 σ1 H2 _ I2 q2) fun f s3 q3=>?_)
  cases f with
  |next=>
   obtain⟨σ3,H3,I3,n3⟩:=q3
   obtain⟨m',hm,w3⟩:=hN σ3 H3 n3
   exact⟨m',hm,σ3,H3,I3,w3⟩
  |cont=>
   obtain⟨σ3,H3,I3,n3⟩:=q3
   obtain⟨m',hm,w3⟩:=hN σ3 H3 n3
   exact⟨m',hm,σ3,H3,I3,w3⟩
  |brk=>exact q3
  |ret v=>exact q3
 |false=>
  rw[if_neg FP]
  exact HL ⟨σ1,H2,I2,q2⟩
end
structure It where
 go:Nat->Hp->Prop
 C4:Nat->Hp->V->Hp->Prop
 stop:Nat->Hp->Prop
def dL(X:Cx)(pins:Va)(H:Hp)(b:Addr):Prop:=
 H b=none/\b≠X.env.locals/\b ∉ X.fs/\(b∈X.ex\/X.s₀.heap.objs.size<=b)/\(∀x c,X.env.cells.lookup x=some c->c≠b)/\∀p∈X.pn++pins,p.1≠b
def Inv.AC{X:Cx}{pins:Va}{σ:St}{H H':Hp}{s:Shared}{b:Addr}(I:Inv X pins σ H s)(hb:s.heap.objs.size<=b)(hn:H' b=none):dL X pins H' b:=by
 refine⟨hn,Ii (FL I.lt hb),I.CJ hb,.inr (FI I.sz hb),fun x c e z=>?_,fun p hp z=>?_⟩
 ·obtain⟨v,q⟩:=I.cell x c e
  exact absurd (FL q.lt (by rw[z];exact hb)) (GA _)
 ·exact absurd (FL (FD (I.pin p hp).1) (by rw[z];exact hb)) (GA _)
structure kU (P:Program) (w:World) (K:Vo) (tg:Expr) (J:It) (fp:List Addr) (it:Addr) (tn:Nat->Heap->Prop):Prop where
 mem:it∈fp
 obj:∀i h,tn i h->∀b∈fp,∃o,h.get? b=some o/\∀v,o.data ≠ .cell v
 keep:∀i h h',tn i h->(∀b∈fp,∀o,h.get? b=some o->h'.get? b=some o)->tn i h'
 item:∀(X:Cx),X.prog=P->X.w=w->X.K=K->X.calm=true->∀(i:Nat) (pins:Va) (s:Shared) (σ:St) (H:Hp) (E:Vq),Inv X pins σ H s->(∀b∈fp,dL X pins H b)->tn i s.heap->J.go i H->
  wpAny (model P w) X.A (pyNext (.ref it)) (fun r s1=>∃u,r=some u/\
   wpAny (model P w) X.A (letOwnedTupleGo tg (.ref it) u) (fun _ s2=>∃x H',Inv X pins σ H' s2/\RelV x u/\J.C4 i H x H'/\tn (i+1) s2.heap/\∀b∈fp,H' b=none) E s1) E s
 done:∀(X:Cx),X.prog=P->X.w=w->X.K=K->X.calm=true->∀(i:Nat) (pins:Va) (s:Shared) (σ:St) (H:Hp) (E:Vq),Inv X pins σ H s->(∀b∈fp,dL X pins H b)->tn i s.heap->J.stop i H->
  wpAny (model P w) X.A (pyNext (.ref it)) (fun r s1=>r=none/\Inv X pins σ H s1) E s
 self:∀(A:Around) (i:Nat) (s:Shared) (Q:Vq) (E:Vq),tn i s.heap->Q (.ref it) s->wpAny (model P w) A (pyIter (.ref it)) Q E s
abbrev TI:=St->Hp->(It->Hp->Prop)->Prop
def w9(X:Cx)(pins:Va)(σ:St)(tg:Expr)(R:It->Hp->Prop)(itv:Value)(s2:Shared):Prop:=
 ∃(it:Addr) (fp:List Addr) (tn:Nat->Heap->Prop) (J:It) (H':Hp),itv = .ref it/\Inv X pins σ H' s2/\kU X.prog X.w X.K tg J fp it tn/\tn 0 s2.heap/\(∀b∈fp,dL X pins H' b)/\R J H'
def PI(X:Cx)(tg iter:Expr)(wi:TI):Prop:=
 ∀(pins:Va) (s:Shared) (σ:St) (H:Hp) (R:It->Hp->Prop),Inv X pins σ H s->wi σ H R->
  wpAny (model X.prog X.w) X.A (eval iter X.env) (fun v s1=>wpAny (model X.prog X.w) X.A (pyIter v) (w9 X pins σ tg R) X.xe s1) X.xe s
def my {M : Model} {A : Around} {E : Value -> Shared -> Prop} {s : Shared} {tg : Expr} {it : Addr} {u : Value} {o : Obj} {n : String} {vs : Array Value} {Q : Unit -> Shared -> Prop} (ho : s.heap.get? it = some o) (hc : o.cls = .type n) (hd : o.data = .fields vs)
    (hn : ["enumerate", "zip", "dict_itemiterator", "dict_reverseitemiterator", "odict_iterator", "itertools.zip_longest", "itertools.pairwise"].contains n = false) (hQ : Q () s) : wpAny M A (letOwnedTupleGo tg (.ref it) u) Q E s := by
  unfold letOwnedTupleGo
  cases tg <;> first
    | exact FJ hQ
    | (cases u <;> first
        | exact FJ hQ
        | (refine Fw (wpAny_load ho ?_)
           rw [hc, hd]
           show wpAny M A (if (["enumerate", "zip", "dict_itemiterator", "dict_reverseitemiterator", "odict_iterator", "itertools.zip_longest", "itertools.pairwise"].contains n && vs[0]? == some (rawInt _)) = true then _ else _) Q E s
           rw [if_neg (by intro h; rw [hn, Bool.false_and] at h; cases h)]
           exact FJ hQ))
noncomputable def wG(K:Vo)(a:Addr):It:=
 ⟨fun i H=>∃xs x,SqL K H a xs/\xs[i]?=some x,fun i H x H'=>H'=H/\∀xs,SqL K H a xs->xs[i]?=some x,fun i H=>∃xs,SqL K H a xs/\xs.length<=i⟩
noncomputable def w_(K:Vo)(a:Addr):It:=
 ⟨fun i H=>∃xs x,zJ K H a xs/\xs[i]?=some x,fun i H x H'=>H'=H/\∀xs,zJ K H a xs->xs[i]?=some x,fun i H=>∃xs,zJ K H a xs/\xs.length<=i⟩
noncomputable def wH(lo:Int)(n:Nat):It:=⟨fun i _=>i < n,fun i H x H'=>H'=H/\x = .int (lo+i),fun i _=>n<=i⟩
def m4{P:Program}{w:World}{K:Vo}{tg:Expr}(a it:Addr):kU P w K tg (wG K a) [it] it (fun i h=>h.IsListIter it a i) where
 mem:=by simp
 obj:=fun i h st b hb=>by
  have e:b=it:=by simpa using hb
  subst e
  obtain⟨o,e,c,d⟩:=st
  exact⟨o,e,fun v z=>by rw[d]at z;cases z⟩
 keep:=fun i h h' st k=>st.at fun o e=>k it (by simp) o e
 item:=by
  intro X hP hw hK hc i pins s σ H E I hf st hg
  subst hP hw hK
  obtain⟨xs,x,hq,hx⟩:=hg
  obtain⟨its,rv,p,hz⟩:=I.list hq
  obtain⟨u,hu,ru⟩:=rv.get hx
  obtain⟨f0,f1,f2,f3,f4,f5⟩:=hf it (by simp)
  refine wpAny_pyNext_list_item st p.isList (x:=u) (by simpa using hu) fun h' st' sb=>?_
  have I1:Inv X pins σ H { s with heap:=h' }:=I.turned (t':=s.toks) (fun b o hb e=>(sb.2 b hb).trans e) f0 f1 f3 f4 f5
  obtain⟨o,e,c,d⟩:=id st'
  exact⟨u,rfl,my (s:={ s with heap:=h' }) e c d (by decide) ⟨x,H,I1,ru,⟨rfl,fun ys hy=>by rw[I.AW hy hq];exact hx⟩,st',fun b hb=>(hf b hb).1⟩⟩
 done:=by
  intro X hP hw hK hc i pins s σ H E I hf st hg
  subst hP hw hK
  obtain⟨xs,hq,hx⟩:=hg
  obtain⟨its,rv,p,hz⟩:=I.list hq
  obtain⟨f0,f1,f2,f3,f4,f5⟩:=hf it (by simp)
  have hl:=rv.length
  exact wpAny_pyNext_list_end (I.ok.hd hc) st p.isList (by simp;omega) fun h' eb=>⟨rfl,I.turned (t':=s.toks) (fun b o hb e=>eb b o hb e) f0 f1 f3 f4 f5⟩
 self:=fun _ _ _ _ _ st h=>wpAny_pyIter_listiter st h
def lI{P:Program}{w:World}{K:Vo}{tg:Expr}(a it:Addr):kU P w K tg (w_ K a) [it] it (fun i h=>h.IsTupleIter it a i) where
 mem:=by simp
 obj:=fun i h st b hb=>by
  have e:b=it:=by simpa using hb
  subst e
  obtain⟨o,e,c,d⟩:=st
  exact⟨o,e,fun v z=>by rw[d]at z;cases z⟩
 keep:=fun i h h' st k=>st.at fun o e=>k it (by simp) o e
 item:=by
  intro X hP hw hK hc i pins s σ H E I hf st hg
  subst hP hw hK
  obtain⟨xs,x,hq,hx⟩:=hg
  obtain⟨its,rv,p,hz⟩:=I.tuple hq
  obtain⟨u,hu,ru⟩:=rv.get hx
  obtain⟨f0,f1,f2,f3,f4,f5⟩:=hf it (by simp)
  refine wpAny_pyNext_tuple_item st (show s.heap.IsTuple a its.toArray from p) (x:=u) (by simpa using hu) fun h' st' sb=>?_
  have I1:Inv X pins σ H { s with heap:=h' }:=I.turned (t':=s.toks) (fun b o hb e=>(sb.2 b hb).trans e) f0 f1 f3 f4 f5
  obtain⟨o,e,c,d⟩:=id st'
  exact⟨u,rfl,my (s:={ s with heap:=h' }) e c d (by decide) ⟨x,H,I1,ru,⟨rfl,fun ys hy=>by rw[I.AF hy hq];exact hx⟩,st',fun b hb=>(hf b hb).1⟩⟩
 done:=by
  intro X hP hw hK hc i pins s σ H E I hf st hg
  subst hP hw hK
  obtain⟨xs,hq,hx⟩:=hg
  obtain⟨its,rv,p,hz⟩:=I.tuple hq
  obtain⟨f0,f1,f2,f3,f4,f5⟩:=hf it (by simp)
  have hl:=rv.length
  exact wpAny_pyNext_tuple_end (I.ok.hd hc) st (show s.heap.IsTuple a its.toArray from p) (by simp;omega) fun h' eb=>⟨rfl,I.turned (t':=s.toks) (fun b o hb e=>eb b o hb e) f0 f1 f3 f4 f5⟩
 self:=fun _ _ _ _ _ st h=>wpAny_pyIter_tupleiter st h
def lJ{P:Program}{w:World}{K:Vo}{tg:Expr}(it:Addr)(lo:Int)(n:Nat):kU P w K tg (wH lo n) [it] it (fun i h=>IsRangeIter h it (lo+(i:Nat) * 1) ((n:Int) - (i:Nat)) 1) where
 mem:=by simp
 obj:=fun i h st b hb=>by
  have e:b=it:=by simpa using hb
  subst e
  exact⟨_,st,fun v z=>by
   have z':Data.fields _=Data.cell v:=z
   cases z'⟩
 keep:=fun i h h' st k=>k it (by simp) _ st
 item:=by
  intro X hP hw hK hc i pins s σ H E I hf st hg
  subst hP hw hK
  obtain⟨f0,f1,f2,f3,f4,f5⟩:=hf it (by simp)
  have W:=Walks.range (prog:=X.prog) (w:=X.w) (I.ok.hd hc) it lo 1 n
  refine W.item i s _ _ hg st fun v h' tk hv st' kk=>?_
  obtain⟨t,rfl⟩:=hv
  have I1:Inv X pins σ H { s with heap:=h',toks:=tk }:=I.turned (fun b o hb e=>kk b o (by simpa using hb) e) f0 f1 f3 f4 f5
  refine⟨_,rfl,my (s:={ s with heap:=h',toks:=tk }) (n:="range_iterator") st' rfl rfl (by decide) ⟨.int (lo+i),H,I1,⟨t,?_⟩,⟨rfl,rfl⟩,st',fun b hb=>(hf b hb).1⟩⟩
  rw[Int.mul_one]
 done:=by
  intro X hP hw hK hc i pins s σ H E I hf st hg
  subst hP hw hK
  obtain⟨f0,f1,f2,f3,f4,f5⟩:=hf it (by simp)
  exact wpAny_pyNext_range_end (I.ok.hd hc) st (by have:n<=i:=hg;omega) fun h' eb=>⟨rfl,I.turned (t':=s.toks) (fun b o hb e=>eb b o hb e) f0 f1 f3 f4 f5⟩
 self:=fun _ _ _ _ _ st h=>wpAny_pyIter_rangeiter st h
section
variable {X:Cx} {tg:Expr}
def oi{pins:Va}{σ:St}{H:Hp}{s:Shared}{R:It->Hp->Prop}{E:Vq}{lo hi:Int}{t u v:Tok}{tk:Nat}(I:Inv X pins σ H s)(h1:-(2 ^ 62)<=lo)(h2:lo < 2 ^ 62)(h3:-(2 ^ 62)<=hi)(h4:hi < 2 ^ 62)
  (q:R (wH lo (hi - lo).toNat) H):wpAny (model X.prog X.w) X.A (pyIter (.ref s.heap.objs.size)) (w9 X pins σ tg R) E { s with heap:=s.heap.push { cls:=.type "range",data:=.fields #[.int lo t,.int hi u,.int 1 v] },toks:=tk }:=by
 refine wpAny_pyIter_range (IsRange.new ..) (small_one h1 h2 h3 h4) ?_
 have I1:Inv X pins σ H { s with heap:=s.heap.push { cls:=.type "range",data:=.fields #[.int lo t,.int hi u,.int 1 v] },toks:=tk }:=I.kept fun b o e=>FA _ e
 refine⟨(s.heap.push { cls:=.type "range",data:=.fields #[.int lo t,.int hi u,.int 1 v] }).objs.size,[(s.heap.push { cls:=.type "range",data:=.fields #[.int lo t,.int hi u,.int 1 v] }).objs.size],_,_,H,rfl,
  I1.kept (t':=tk) fun b o e=>FA _ e,lJ _ lo (hi - lo).toNat,?_,fun b hb=>?_,q⟩
 ·have e1:lo+((0:Nat):Int) * 1=lo:=by simp
  have e2:(((hi - lo).toNat:Nat):Int) - ((0:Nat):Int)=Builtin.Range.rangeSize lo hi 1:=by rw[rangeSize_one];split<;>omega
  show IsRangeIter _ _ (lo+((0:Nat):Int) * 1) ((((hi - lo).toNat:Nat):Int) - ((0:Nat):Int)) 1
  rw[e1,e2]
  exact FT _ rfl
 ·have e:b=(s.heap.push { cls:=.type "range",data:=.fields #[.int lo t,.int hi u,.int 1 v] }).objs.size:=by simpa using hb
  subst e
  exact I1.AC (Ft _) (I1.hok.fresh (Ft _))
def vz(ta:TA):TI:=fun σ H R=>ta σ H fun vs H1=>∃j:Int,vs=[.int j]/\-(2 ^ 62)<=j/\j < 2 ^ 62/\R (wH 0 j.toNat) H1
def m5{a:Expr}{ta:TA}{p pos:Pos}(hg:Gl X "range")(hm:X.mg "range" = none)(ha:PA X [a] ta)(hs:starEach [a] X.env=[(false,eval a X.env)]:=by rfl):PI X tg (.Call (.Name "range" p) [a] [] pos) (vz ta):=by
 intro pins s σ H R I h
 refine Call_ (e7 I hg hm boot_range (Gr (yF (ha pos pins s σ H _ I h) fun us s1 ⟨vs,H1,I1,r1,q1⟩=>?_) hs rfl))
 obtain⟨j,e,q1,q2,q⟩:=q1
 subst e
 cases r1 with
 |cons r rr=>
  cases rr
  obtain⟨t,rfl⟩:=r
  exact call_range_1 (oi I1 (by omega) (by omega) q1 q2 (by simpa using q))
def xa(wi:TI)(g:TG)(tb:TS):TS:=fun D σ H=>wi σ H fun J H1=>∃W:Nat->Nat->St->Hp->Prop,(∃m,W 0 m σ H1)/\∀i m σ H,W i m σ H->
 (J.stop i H/\D.nx σ H)\/(J.go i H/\∃N:St->Hp->Prop,(∀σ' H',N σ' H'->∃m',m' < m/\W (i+1) m' σ' H')/\∀x H',J.C4 i H x H'->g x σ H' fun σ2 H2=>tb { D with nx:=N,ct:=N,bk:=D.nx } σ2 H2)
noncomputable def iu(fp:List Addr)(h:Heap):List (Addr×Obj):=fp.filterMap fun b=>(h.get? b).map fun o=>(b,o)
def e8{fp:List Addr}{h:Heap}{b:Addr}{o:Obj}(hb:b∈fp)(e:h.get? b=some o):(b,o)∈iu fp h:=List.mem_filterMap.mpr ⟨b,hb,by rw[e];rfl⟩
def m6{fp:List Addr}{h:Heap}{p:Addr×Obj}(hp:p∈iu fp h):p.1∈fp/\h.get? p.1=some p.2:=by
 obtain⟨b,hb,e⟩:=List.mem_filterMap.mp hp
 cases q:h.get? b with
 |none=>rw[q]at e;cases e
 |some o=>
  rw[q]at e
  have e':(b,o)=p:=Ga e
  subst e'
  exact⟨hb,q⟩
def Inv.pinned{pins:Va}{σ:St}{H:Hp}{s:Shared}{fp:List Addr}(I:Inv X pins σ H s)(hf:∀b∈fp,dL X pins H b)(ho:∀b∈fp,∃o,s.heap.get? b=some o/\∀v,o.data ≠ .cell v):Inv X (pins++iu fp s.heap) σ H s:=
 I.Au fun p hp=>(F4.mp hp).elim (fun z=>I.pin p (FZ _ z)) fun z=>by
  obtain⟨hb,e⟩:=m6 z
  obtain⟨f0,f1,f2,_⟩:=hf p.1 hb
  obtain⟨o,e',d⟩:=ho p.1 hb
  rw[e]at e';cases e'
  exact⟨e,f0,f1,f2,d⟩
def Inv.Af{pins pl:Va}{σ:St}{H:Hp}{s:Shared}(I:Inv X (pins++pl) σ H s):Inv X pins σ H s:=I.Au fun p hp=>I.pin p (FZ _ (Gp _ hp))
def sZ{iter:Expr}{body:List Stmt}{wi:TI}{g:TG}{tb:TS}{pos:Pos}(hp:PassesOwn (model X.prog X.w) X.A X.env X.xe)(hc:X.calm=true)(hi:PI X tg iter wi)(hg:PG X tg g)(hb:Ba X body tb)
  (hs:∀x,foldedSetIterable iter X.env x=pure x:=by intro _;rfl):PS X (.For tg iter body [] pos) (xa wi g tb):=by
 intro pins s σ H D I h
 refine wpAny_For (yF (hi pins s σ H _ I h) fun v s1 h1=>yF h1 fun itv s2 h2=>?_) hs
 obtain⟨it,fp,tn,J,H2,e,I2,T,st2,f2,W,⟨m0,w0⟩,turn⟩:=h2
 subst e
 -- what stays true of the iterator's objects through the loop
 have stat:∀{H':Hp},(∀b∈fp,H' b=none)->∀b∈fp,dL X pins H' b:=fun hn b hb=>⟨hn b hb,(f2 b hb).2⟩
 refine codeAny_forLoop_any (fun n s'=>∃i σ' H',Inv X pins σ' H' s'/\tn i s'.heap/\(∀b∈fp,H' b=none)/\W i n σ' H') ?_ m0 ⟨0,σ,H2,I2,st2,fun b hb=>(f2 b hb).1,w0⟩
 rintro n s3 ⟨i,σ3,H3,I3,st3,Ej,w3⟩
 rcases turn i n σ3 H3 w3 with⟨stop,qn⟩|⟨go,N,hN,step⟩
 ·refine GK hp (yF (T.done X rfl rfl rfl hc i pins s3 σ3 H3 X.xe I3 (stat Ej) st3 stop) fun r s4 ⟨hr,I4⟩=>?_)
  subst hr
  exact HL ⟨σ3,H3,I4,qn⟩
 ·refine GK hp (yF (T.item X rfl rfl rfl hc i pins s3 σ3 H3 X.xe I3 (stat Ej) st3 go) fun r s4 ⟨u,hr,h4⟩=>?_)
  subst hr
  refine GK hp (yF h4 fun _ s5 ⟨x,H5,I5,r5,y5,BX,Dp⟩=>?_)
  have Dq:=I5.pinned (stat Dp) (T.obj _ _ BX)
  refine GK hp (yF (hg _ s5 σ3 H5 x u _ Dq r5 (step x H5 y5)) fun _ s6 ⟨σ6,H6,I6,q6⟩=>?_)
  refine GK hp (yF (hb _ s6 σ6 H6 _ I6 q6) fun f s7 q7=>?_)
  have again:∀{σ7:St} {H7:Hp},Inv X (pins++iu fp s5.heap) σ7 H7 s7->N σ7 H7->∃m,m < n/\∃i σ' H',Inv X pins σ' H' s7/\tn i s7.heap/\(∀b∈fp,H' b=none)/\W i m σ' H':=fun{σ7 H7} I7 n7=>by
   obtain⟨m',hm,w7⟩:=hN σ7 H7 n7
   refine⟨m',hm,i+1,σ7,H7,I7.Af,T.keep _ _ _ BX fun b hb o e=>(I7.pin (b,o) (FZ _ (FZ _ (e8 hb e)))).1,fun b hb=>?_,w7⟩
   obtain⟨o,e,d⟩:=T.obj _ _ BX b hb
   exact(I7.pin (b,o) (FZ _ (FZ _ (e8 hb e)))).2.1
  cases f with
  |next=>obtain⟨σ7,H7,I7,n7⟩:=q7;exact again I7 n7
  |cont=>obtain⟨σ7,H7,I7,n7⟩:=q7;exact again I7 n7
  |brk=>obtain⟨σ7,H7,I7,q7⟩:=q7;exact⟨σ7,H7,I7.Af,q7⟩
  |ret v=>obtain⟨x7,σ7,H7,I7,r7,q7⟩:=q7;exact⟨x7,σ7,H7,I7.Af,r7,q7⟩
end
abbrev R2:=V->V->Hp->VK->Prop
def fF(X:Cx)(f:Value->Value->Sem Value)(r:R2):Prop:=
 ∀(pins:Va) (s:Shared) (σ:St) (H:Hp) (x y:V) (v u:Value) (Q:VK),Inv X pins σ H s->RelV x v->RelV y u->r x y H Q->
  wpAny (model X.prog X.w) X.A (f v u) (EP X pins σ Q) X.xe s
def wI(X:Cx)(f:Value->Sem Value)(r:V->Hp->VK->Prop):Prop:=
 ∀(pins:Va) (s:Shared) (σ:St) (H:Hp) (x:V) (v:Value) (Q:VK),Inv X pins σ H s->RelV x v->r x H Q->
  wpAny (model X.prog X.w) X.A (f v) (EP X pins σ Q) X.xe s
def eN(X:Cx)(f:Value)(r:List V->Hp->VK->Prop):Prop:=
 ∀(pins:Va) (s:Shared) (σ:St) (H:Hp) (xs:List V) (us:Vv) (Q:VK),Inv X pins σ H s->Vals xs us->r xs H Q->
  wpAny (model X.prog X.w) X.A (call f us) (EP X pins σ Q) X.xe s
def vA(r:R2)(ta tb:TE):TE:=fun σ H Q=>ta σ H fun x H1=>tb σ H1 fun y H2=>r x y H2 Q
def yf(r:V->Hp->VK->Prop)(ta:TE):TE:=fun σ H Q=>ta σ H fun x H1=>r x H1 Q
def rI(C:Int->Int->Prop)(g:Int->Int->V):R2:=fun x y H Q=>∃i j,x = .int i/\y = .int j/\C i j/\Q (g i j) H
def qv(g:Int->Int->V):R2:=fun x y H Q=>∃i j,x = .int i/\y = .int j/\Q (g i j) H
noncomputable def rU(g:Int->V):V->Hp->VK->Prop:=fun x H Q=>∃i,x = .int i/\Q (g i) H
section
variable {X:Cx} {a b c:Expr} {ta tb tc:TE} {pos:Pos}
def s9(ha:PE X a ta)(hb:PE X b tb){pins:Va}{s:Shared}{σ:St}{H:Hp}{R:V->V->Hp->Prop}(I:Inv X pins σ H s)
  (h:ta σ H fun x H1=>tb σ H1 fun y H2=>R x y H2) {Q:Vq} {f:Value->Value->Sem Value}
  (hf:∀v u s2 x y H2,Inv X pins σ H2 s2->RelV x v->RelV y u->R x y H2->wpAny (model X.prog X.w) X.A (f v u) Q X.xe s2) :
  wpAny (model X.prog X.w) X.A (eval a X.env) (fun v s₁=>wpAny (model X.prog X.w) X.A (eval b X.env) (fun u s₂=>wpAny (model X.prog X.w) X.A (f v u) Q X.xe s₂) X.xe s₁) X.xe s:=by
 refine yF (ha pins s σ H _ I h) fun v s1 ⟨x,H1,I1,r1,q1⟩=>?_
 refine yF (hb pins s1 σ H1 _ I1 q1) fun u s2 ⟨y,H2,I2,r2,q2⟩=>?_
 exact hf v u s2 x y H2 I2 r1 r2 q2
def vB{op:Operator}{r:R2}(ho:fF X (binaryOp op) r)(ha:PE X a ta)(hb:PE X b tb):PE X (.BinOp a op b pos) (vA r ta tb):=by
 intro pins s σ H Q I h
 exact wpAny_BinOp (s9 ha hb I h fun v u s2 x y H2 I2 rx ry q=>ho pins s2 σ H2 x y v u Q I2 rx ry q)
def vC{op:UnaryOp}{r:V->Hp->VK->Prop}(ho:wI X (unaryOp op) r)(ha:PE X a ta):PE X (.UnaryOp op a pos) (yf r ta):=by
 intro pins s σ H Q I h
 exact UnaryOp_ (yF (ha pins s σ H _ I h) fun v s1 ⟨x,H1,I1,r1,q1⟩=>ho pins s1 σ H1 x v Q I1 r1 q1)
def wJ{f:Value->Value->Sem Value}{C:Int->Int->Prop}{g:Int->Int->Int}
  (rule:∀(i j:Int) (t u:Tok) (s:Shared) (Q:Vq) (E:Vq),C i j->Q (.int (g i j) s.toks) { s with toks:=s.toks+1 }->wpAny (model X.prog X.w) X.A (f (.int i t) (.int j u)) Q E s) :
  fF X f (rI C fun i j=>.int (g i j)):=by
 intro pins s σ H x y v u Q I rx ry h
 obtain⟨i,j,rfl,rfl,hc,q⟩:=h
 obtain⟨t,rfl⟩:=rx
 obtain⟨t',rfl⟩:=ry
 exact rule i j t t' s _ _ hc ⟨.int (g i j),H,I.tok _,⟨_,rfl⟩,q⟩
def vD{f:Value->Value->Sem Value}{g:Int->Int->Int}
  (rule:∀(i j:Int) (t u:Tok) (s:Shared) (Q:Vq) (E:Vq),Q (.int (g i j) s.toks) { s with toks:=s.toks+1 }->wpAny (model X.prog X.w) X.A (f (.int i t) (.int j u)) Q E s) :
  fF X f (qv fun i j=>.int (g i j)):=by
 intro pins s σ H x y v u Q I rx ry h
 obtain⟨i,j,rfl,rfl,q⟩:=h
 obtain⟨t,rfl⟩:=rx
 obtain⟨t',rfl⟩:=ry
 exact rule i j t t' s _ _ ⟨.int (g i j),H,I.tok _,⟨_,rfl⟩,q⟩
def s_{f:Value->Value->Sem Value}{g:Int->Int->Bool}
  (rule:∀(i j:Int) (t u:Tok) (s:Shared) (Q:Vq) (E:Vq),Q (.bool (g i j)) s->wpAny (model X.prog X.w) X.A (f (.int i t) (.int j u)) Q E s) :
  fF X f (qv fun i j=>.bl (g i j)):=by
 intro pins s σ H x y v u Q I rx ry h
 obtain⟨i,j,rfl,rfl,q⟩:=h
 obtain⟨t,rfl⟩:=rx
 obtain⟨t',rfl⟩:=ry
 exact rule i j t t' s _ _ ⟨.bl (g i j),H,I,rfl,q⟩
def tj(i j:Int):Prop:=0<=j/\j<=1000000/\i.natAbs < 2 ^ 64
def BY(i j:Int):Prop:=(-(2 ^ 64) < i/\i < 2 ^ 64)\/(-(2 ^ 64) < j/\j < 2 ^ 64)
def BY.ok{i j:Int}(h:BY i j):IntMulOk i j:=by
 rcases h with⟨h1,h2⟩|⟨h1,h2⟩
 ·exact .of_left (intBits_le_64 h1 h2)
 ·exact .of_right (intBits_le_64 h1 h2)
def tm:fF X (binaryOp .Add) (qv fun i j=>.int (i+j)):=vD fun _ _ _ _ _ _ _ q=>add_int q
def tq:fF X (binaryOp .Sub) (qv fun i j=>.int (i - j)):=vD fun _ _ _ _ _ _ _ q=>sub_int q
def qw:fF X (binaryOp .Mod) (rI (fun _ j=>j≠0) fun i j=>.int (i.fmod j)):=wJ fun _ _ _ _ _ _ _ hc q=>mod_int' hc q
def tt:fF X (binaryOp .Pow) (rI tj fun i j=>.int (i ^ j.toNat)):=wJ fun _ _ _ _ _ _ _ hc q=>pow_int_small hc.1 hc.2.1 hc.2.2 q
def yg{f:Value->Sem Value}{g:Int->Int}
  (rule:∀(i:Int) (t:Tok) (s:Shared) (Q:Vq) (E:Vq),Q (.int (g i) s.toks) { s with toks:=s.toks+1 }->wpAny (model X.prog X.w) X.A (f (.int i t)) Q E s) :
  wI X f (rU fun i=>.int (g i)):=by
 intro pins s σ H x v Q I rx h
 obtain⟨i,rfl,q⟩:=h
 obtain⟨t,rfl⟩:=rx
 exact rule i t s _ _ ⟨.int (g i),H,I.tok _,⟨_,rfl⟩,q⟩
def tw:wI X (unaryOp .USub) (rU fun i=>.int (-i)):=yg fun _ _ _ _ _ q=>neg_int q
end
noncomputable def vE:V->V->Bool
 | .non,.non=>true | .non,.int _=>true | .int _,.non=>true | .non,.bl _=>true | .bl _,.non=>true | .non,.str _=>true | .str _,.non=>true
 | .int _,.int _=>true | .bl _,.bl _=>true | .str _,.str _=>true | .BC _,.BC _=>true
 | .int _,.str _=>true | .str _,.int _=>true | .bl _,.str _=>true | .str _,.bl _=>true
 |_,_=>false
def yh:R2:=fun x y H Q=>vE x y=true/\Q (.bl (decide (x=y))) H
def yi:R2:=fun x y H Q=>vE x y=true/\Q (.bl (!decide (x=y))) H
def mz{i j:Int}:decide (V.int i=V.int j)=(i == j):=by
 rw[GL]
 simp
def oj{i j:Bool}:decide (V.bl i=V.bl j)=(i == j):=by
 rw[GL]
 simp
def mB{i j:Str}:decide (V.str i=V.str j)=(i == j):=by
 rw[GL]
 simp
def mC{i j:Array UInt8}:decide (V.BC i=V.BC j)=(i.toList == j.toList):=by
 rw[GL]
 cases i
 cases j
 simp
section
variable {X:Cx} {a b c:Expr} {ta tb tc:TE} {pos:Pos}
def aH{pins:Va}{σ:St}{H:Hp}{s:Shared}{Q:VK}{k k':Bool}(I:Inv X pins σ H s)(q:Q (.bl k) H)(e:k=k'):EP X pins σ Q (.bool k') s:=by
 subst e
 exact⟨.bl k,H,I,rfl,q⟩
def ol:fF X (compareOp .Eq) yh:=by
 intro pins s σ H x y v u Q I rx ry h
 obtain⟨hs,q⟩:=h
 cases x with
 |non=>
  cases rx
  cases y with
  |non=>cases ry;exact PySem.EqNone.eq_none_none (aH I q (by simp))
  |bl j=>cases ry;exact PySem.EqNone.eq_none_bool (aH I q (by simp))
  |int j=>obtain⟨t',rfl⟩:=ry;exact PySem.EqNone.eq_none_int (aH I q (by simp))
  |str j=>obtain⟨t',rfl⟩:=ry;exact PySem.EqNone.eq_none_str (aH I q (by simp))
  |_=>exact absurd (show false=true from hs) FP
 |bl i=>
  cases rx
  cases y with
  |non=>cases ry;exact PySem.EqNone.eq_bool_none (aH I q (by simp))
  |bl j=>cases ry;exact eq_bool (aH I q oj)
  |str j=>obtain⟨t',rfl⟩:=ry;exact PySem.EqMixed.eq_bool_str (aH I q (by simp))
  |_=>exact absurd (show false=true from hs) FP
 |int i=>
  obtain⟨t,rfl⟩:=rx
  cases y with
  |non=>cases ry;exact PySem.EqNone.eq_int_none (aH I q (by simp))
  |int j=>obtain⟨t',rfl⟩:=ry;exact eq_int (aH I q mz)
  |str j=>obtain⟨t',rfl⟩:=ry;exact PySem.EqMixed.eq_int_str (aH I q (by simp))
  |_=>exact absurd (show false=true from hs) FP
 |str i=>
  obtain⟨t,rfl⟩:=rx
  cases y with
  |non=>cases ry;exact PySem.EqNone.eq_str_none (aH I q (by simp))
  |bl j=>cases ry;exact PySem.EqMixed.eq_str_bool (aH I q (by simp))
  |int j=>obtain⟨t',rfl⟩:=ry;exact PySem.EqMixed.eq_str_int (aH I q (by simp))
  |str j=>obtain⟨t',rfl⟩:=ry;exact eq_str (aH I q mB)
  |_=>exact absurd (show false=true from hs) FP
 |BC i=>
  obtain⟨t,rfl⟩:=rx
  cases y with
  |BC j=>obtain⟨t',rfl⟩:=ry;exact PySem.W.eq_bytes (aH I q mC)
  |_=>exact absurd (show false=true from hs) FP
 |_=>cases y<;>exact absurd (show false=true from hs) FP
def om:fF X (compareOp .NotEq) yi:=by
 intro pins s σ H x y v u Q I rx ry h
 obtain⟨hs,q⟩:=h
 cases x with
 |non=>
  cases rx
  cases y with
  |non=>cases ry;exact PySem.EqNone.ne_none_none (aH I q (by simp))
  |bl j=>cases ry;exact PySem.EqNone.ne_none_bool (aH I q (by simp))
  |int j=>obtain⟨t',rfl⟩:=ry;exact PySem.EqNone.ne_none_int (aH I q (by simp))
  |str j=>obtain⟨t',rfl⟩:=ry;exact PySem.EqNone.ne_none_str (aH I q (by simp))
  |_=>exact absurd (show false=true from hs) FP
 |bl i=>
  cases rx
  cases y with
  |non=>cases ry;exact PySem.EqNone.ne_bool_none (aH I q (by simp))
  |bl j=>cases ry;exact ne_bool (aH I q (F5 not oj))
  |str j=>obtain⟨t',rfl⟩:=ry;exact PySem.EqMixed.ne_bool_str (aH I q (by simp))
  |_=>exact absurd (show false=true from hs) FP
 |int i=>
  obtain⟨t,rfl⟩:=rx
  cases y with
  |non=>cases ry;exact PySem.EqNone.ne_int_none (aH I q (by simp))
  |int j=>obtain⟨t',rfl⟩:=ry;exact ne_int (aH I q (F5 not mz))
  |str j=>obtain⟨t',rfl⟩:=ry;exact PySem.EqMixed.ne_int_str (aH I q (by simp))
  |_=>exact absurd (show false=true from hs) FP
 |str i=>
  obtain⟨t,rfl⟩:=rx
  cases y with
  |non=>cases ry;exact PySem.EqNone.ne_str_none (aH I q (by simp))
  |bl j=>cases ry;exact PySem.EqMixed.ne_str_bool (aH I q (by simp))
  |int j=>obtain⟨t',rfl⟩:=ry;exact PySem.EqMixed.ne_str_int (aH I q (by simp))
  |str j=>obtain⟨t',rfl⟩:=ry;exact ne_str (aH I q (F5 not mB))
  |_=>exact absurd (show false=true from hs) FP
 |BC i=>
  obtain⟨t,rfl⟩:=rx
  cases y with
  |BC j=>obtain⟨t',rfl⟩:=ry;exact PySem.W.ne_bytes (aH I q (F5 not mC))
  |_=>exact absurd (show false=true from hs) FP
 |_=>cases y<;>exact absurd (show false=true from hs) FP
def vF:fF X (compareOp .Lt) (qv fun i j=>.bl (decide (i < j))):=s_ fun _ _ _ _ _ _ _ q=>lt_int q
def vG:fF X (compareOp .Gt) (qv fun i j=>.bl (decide (j < i))):=s_ fun _ _ _ _ _ _ _ q=>gt_int q
def vH:fF X (compareOp .GtE) (qv fun i j=>.bl (decide (j<=i))):=s_ fun _ _ _ _ _ _ _ q=>ge_int q
def m7:fF X (compareOp .In) (fun x y H Q=>∃i j,x = .str i/\y = .str j/\Q (.bl (!(Builtin.Str.occurrences j i 0 j.length 1).isEmpty)) H):=by
 intro pins s σ H x y v u Q I rx ry h
 obtain⟨i,j,rfl,rfl,q⟩:=h
 obtain⟨t,rfl⟩:=rx
 obtain⟨t',rfl⟩:=ry
 exact in_str (aH I q rfl)
def qx:fF X (compareOp .IsNot) (fun x y H Q=>y = .non/\Q (.bl (!decide (x = .non))) H):=by
 intro pins s σ H x y v u Q I rx ry h
 obtain⟨rfl,q⟩:=h
 cases ry
 refine isnot_none_gen (aH I q ?_)
 cases x<;>first
  |(cases rx;rfl)
  |(obtain⟨t,rfl⟩:=rx;rfl)
def aT(b:Expr){op:CmpOp}(h:op ≠ .In:=by decide)(h2:op ≠ .NotIn:=by decide):behindInMarks op b=false:=by
 have e1:(op == CmpOp.In)=false:=by cases op<;>first|rfl|exact absurd rfl h
 have e2:(op == CmpOp.NotIn)=false:=by cases op<;>first|rfl|exact absurd rfl h2
 cases b<;>simp[behindInMarks,e1,e2]
def qy{op:CmpOp}{r:R2}(ho:fF X (compareOp op) r)(ha:PE X a ta)(hb:PE X b tb)(hm:behindInMarks op b=false):PE X (.Compare a [op] [b] pos) (vA r ta tb):=by
 intro pins s σ H Q I h
 exact wpAny_Compare1 (s9 ha hb I h fun v u s2 x y H2 I2 rx ry q=>ho pins s2 σ H2 x y v u Q I2 rx ry q) hm
def vI(t:TE):TT:=fun σ H Q=>t σ H fun x H'=>∃k,x = .bl k/\Q k H'
def qA{op:CmpOp}{r:R2}(ho:fF X (compareOp op) r)(ha:PE X a ta)(hb:PE X b tb)(hm:behindInMarks op b=false):PT X (.Compare a [op] [b] pos) (vI (vA r ta tb)):=by
 intro pins s σ H Q I h
 refine wpAny_isTrue_Compare1 (yF (ha pins s σ H _ I h) fun v s1 ⟨x,H1,I1,r1,q1⟩=>yF (hb pins s1 σ H1 _ I1 q1) fun u s2 ⟨y,H2,I2,r2,q2⟩=>
  yF (ho pins s2 σ H2 x y v u _ I2 r1 r2 q2) fun c s3 ⟨z,H3,I3,r3,k,e,q3⟩=>?_) hm
 subst e
 cases r3
 exact G0 ⟨H3,I3,q3⟩
def gm:(sizeLine:Nat) < 2 ^ 63:=by rw[sizeLine_eq];decide
def lK:fF X (binaryOp .Add) (fun x y H Q=>∃i j,x = .str i/\y = .str j/\i.length+j.length<=sizeLine/\Q (.str (i++j)) H):=by
 intro pins s σ H x y v u Q I rx ry h
 obtain⟨i,j,rfl,rfl,hz,q⟩:=h
 obtain⟨t,rfl⟩:=rx
 obtain⟨t',rfl⟩:=ry
 exact add_str (fun t' tk=>⟨.str (i++j),H,I.tok _,⟨_,rfl⟩,q⟩) hz
def eO{x:V}{us:Vv}(r:Vals [x] us):∃u,us=[u]/\RelV x u:=by
 cases r with
 |cons r1 r2=>cases r2;exact⟨_,rfl,r1⟩
def vJ{x y:V}{us:Vv}(r:Vals [x,y] us):∃u w',us=[u,w']/\RelV x u/\RelV y w':=by
 cases r with
 |cons r1 r2=>
  cases r2 with
  |cons r3 r4=>cases r4;exact⟨_,_,rfl,r1,r3⟩
def m8(hc:X.calm=true):eN X (.builtin "max") (fun xs H Q=>∃i j,xs=[.int i,.int j]/\Q (.int (if j > i then j else i)) H):=by
 intro pins s σ H xs us Q I r h
 obtain⟨i,j,rfl,q⟩:=h
 obtain⟨u,w',rfl,⟨t,rfl⟩,⟨t',rfl⟩⟩:=vJ r
 refine max_two_ints (I.ok.hd hc) fun h' tk k=>⟨_,H,I.kept k,?_,q⟩
 by_cases hj:j > i
 ·rw[if_pos hj,if_pos hj];exact⟨_,rfl⟩
 ·rw[if_neg hj,if_neg hj];exact⟨_,rfl⟩
def jv:eN X (.type "int") (fun xs H Q=>(∃i,xs=[.int i]/\Q (.int i) H)\/∃k,xs=[.bl k]/\Q (.int (if k then 1 else 0)) H):=by
 intro pins s σ H xs us Q I r h
 rcases h with⟨i,rfl,q⟩|⟨k,rfl,q⟩
 ·obtain⟨u,rfl,t,rfl⟩:=eO r
  exact call_int_int ⟨.int i,H,I,⟨_,rfl⟩,q⟩
 ·obtain⟨u,rfl,r1⟩:=eO r
  cases r1
  exact call_int_bool ⟨.int (if k then 1 else 0),H,I.tok _,⟨_,rfl⟩,q⟩
end
def RelO.some_of{v:V}{o:Option Value}(r:RelO (some v) o):∃u,o=some u/\RelV v u:=by
 cases o with
 |none=>exact(show False from r).elim
 |some u=>exact⟨u,rfl,r⟩
structure Room (k:Nat) (A:Around):Prop where
 hd:A.handled=none
 dp:A.depth+3 * k+5 < recursionLimit
 un:A.units+16 * k+200 < cLine
 gd:A.guards=some []
def Room.mono{j k:Nat}{A:Around}(r:Room k A)(h:j<=k):Room j A:=⟨r.hd,by have:=r.dp;omega,by have:=r.un;omega,r.gd⟩
theorem Room.deeper{k:Nat}{A:Around}(r:Room (k+1) A)(env:Env):Room k (A.deeper env):=
 ⟨r.hd,by have:=r.dp;show A.depth+1+3 * k+5 < _;omega,by have:=r.un;show A.units+3+16 * k+200 < _;omega,r.gd⟩
theorem Room.depth{k:Nat}{A:Around}(r:Room k A):A.depth < recursionLimit:=by have:=r.dp;omega
def vK:TA:=fun _ H Q=>Q [] H
def sg(ta:TE)(tr:TA):TA:=fun σ H Q=>ta σ H fun x H1=>tr σ H1 fun xs H2=>Q (x::xs) H2
section
variable {X:Cx} {e:Expr} {es:List Expr} {te:TE} {t:TA} {pos:Pos}
def tz:PA X [] vK:=fun _ _ _ _ H Q I h=>Hq ⟨[],H,I,.nil,h⟩
def qB(ha:PE X e te)(hr:PA X es t)(hs:starEach (e::es) X.env=(false,eval e X.env)::starEach es X.env:=by rfl):PA X (e::es) (sg te t):=by
 intro pos pins s σ H Q I h
 rw[hs]
 show wpAny _ _ (spliced ((false,eval e X.env)::backTo pos (starEach es X.env))) _ _ s
 refine GX (yF (ha pins s σ H _ I h) fun u s1 ⟨x,H1,I1,r1,q1⟩=>?_)
 exact yF (hr pos pins s1 σ H1 _ I1 q1) fun us s2 ⟨xs,H2,I2,r2,q2⟩=>⟨x::xs,H2,I2,.cons r1 r2,q2⟩
def xf(t:TA):TE:=fun σ H Q=>t σ H fun xs H1=>xs.length<=sizeLine/\∀p,H1 p=none->Q (.ref p) (upd H1 p (.tup xs))
def xi(t:TA):TE:=fun σ H Q=>t σ H fun xs H1=>xs.length<=sizeLine/\∀p,H1 p=none->Q (.ref p) (upd H1 p (.lst xs))
def tD{x1}(h:PA X es t):PE X (.Tuple es x1 pos) (xf t):=by
 intro pins s σ H Q I hq
 refine wpAny_Tuple_spliced (yF (h pos pins s σ H _ I hq) fun us s1 ⟨xs,H1,I1,r,z,q⟩=>⟨by rw[<-r.length];exact z,?_⟩)
 have hf:H1 s1.heap.objs.size=none:=I1.hok.fresh (Ft _)
 refine⟨.ref s1.heap.objs.size,upd H1 s1.heap.objs.size (.tup xs),I1.laid (t':=s1.toks) (fun b u e=>FA _ e) (Ft _) ?_,rfl,q _ hf⟩
 exact⟨z,us,r,⟨_,FT _ rfl,rfl,rfl,_,rfl⟩⟩
def tE(h:PA X es t):PE X (.List es pos) (xi t):=by
 intro pins s σ H Q I hq
 refine wpAny_List_spliced (yF (h pos pins s σ H _ I hq) fun us s1 ⟨xs,H1,I1,r,z,q⟩=>⟨by rw[<-r.length];exact z,?_⟩)
 have hf:H1 s1.heap.objs.size=none:=I1.hok.fresh (Ft _)
 refine⟨.ref s1.heap.objs.size,upd H1 s1.heap.objs.size (.lst xs),I1.laid (t':=s1.toks) (fun b u e=>FA _ e) (Ft _) ?_,rfl,q _ hf⟩
 exact⟨z,us,0,r,FT _ rfl⟩
end
abbrev Sp:=List V->Hp->VK->XK->Prop
abbrev qf:=List Env->Hp->Shared->XK->Value->Shared->Prop
structure qC (P:Program) (w:World) (K:Vo) (mg:Vr) (base:Heap) (A:Around) (outer:List Env) (s:Shared) (H:Hp):Prop where
 frames:A.frames=some outer
 mod:Mod K mg base
 bs:∀b o,base.get? b=some o->s.heap.get? b=some o/\H b=none
 BV:base.objs.size<=s.heap.objs.size
 At:s.heap.FunFrames base outer
 Ci:∀b∈frs outer,H b=none
 hok:z9 P w H s.heap
 bare:AllBare s.gens
def CE(outer:List Env)(P:Program)(w:World)(H:Hp)(s:Shared)(Q:VK)(u:Value)(s':Shared):Prop:=
 ∃v H',s'.os=s.os/\AllBare s'.gens/\Un (frs outer) [] H H' s.heap s'.heap/\z9 P w H' s'.heap/\RelV v u/\Q v H'
def CR(CX:qf)(outer:List Env)(P:Program)(w:World)(H:Hp)(s:Shared)(Q:VK)(E:XK)(r:Result)(s':Shared):Prop:=
 match r with
 | .ok (.ret u)=>CE outer P w H s Q u s'
 | .ok _=>False
 | .error e=>CX outer H s E e s'
structure jZ (P:Program) (w:World) (K:Vo) (mg:Vr) (base:Heap) (CX:qf) (k:Nat) (f:Addr) (fd:FuncData) (ps:Vs) (sp:Sp):Prop where
 len:∀vs H Q E,sp vs H Q E->vs.length=ps.length
 run:∀(A:Around) (outer:List Env) (s:Shared) (H:Hp) (args:Args) (us:Vv) (vs:List V) (Q:VK) (E:XK),Room k A->qC P w K mg base A outer s H->BindsTo s fd args (ps.zip us)->Vals vs us->sp vs H Q E->
  codeAny (model P w) A (.call (.ref f) args) (CR CX outer P w H s Q E) s
section
variable {X:Cx} {pins:Va} {σ:St} {H:Hp} {s s':Shared}
def Inv.Dr(I:Inv X pins σ H s):qC X.prog X.w X.K X.mg X.base X.A X.stack s H:=
 ⟨I.ok.frames,I.ok.mod,I.bs,FI I.ok.BV I.sz,I.stack,I.Bn,I.hok,I.bare⟩
def Inv.after{Q:VK}{u:Value}(I:Inv X pins σ H s)(h:CE X.stack X.prog X.w H s Q u s'):EP X pins σ Q u s':=by
 obtain⟨v,H',os,bare,un,hok,r,q⟩:=h
 obtain⟨hh,g,d,t,os'⟩:=s'
 obtain rfl:os'=s.os:=os
 exact⟨v,H',I.call (h':=hh) (g':=g) (d':=d) (t':=t) (ch:=[]) un hok bare (fun b z=>absurd z (by simp)),r,q⟩
end
def vL(sp:Sp)(dvs:List V)(E:XK)(t:TA):TE:=fun σ H Q=>t σ H fun vs H1=>sp (vs++dvs) H1 Q E
def Binds(K:Vo)(fd:FuncData)(ps:Vs)(ds:Vv):Prop:=
 ∀(s:Shared) (us:Vv),K.In s.heap->(us++ds).length=ps.length->BindsTo s fd ⟨us,[]⟩ (ps.zip (us++ds))
def Binds.all{K:Vo}{fd:FuncData}{ps:Vs}(h:∀us:List Value,us.length=ps.length->bindArgs fd ⟨us,[]⟩=pure (ps.zip us)):Binds K fd ps []:=fun s us _ hl=>by
 rw[Gb]at hl ⊢
 exact .of_eq (h us hl)
def lL(CX:qf)(X:Cx)(E:XK):Prop:=∀(pins:Va) (σ:St) (H:Hp) (s:Shared) (e:Value) (s':Shared),Inv X pins σ H s->CX X.stack H s E e s'->X.xe e s'
section
variable {X:Cx} {CX:qf} {k:Nat} {f C:Addr} {fd:FuncData} {ps:Vs} {sp:Sp} {dvs:List V} {ds:Vv} {E:XK} {x m:Str} {p pos apos:Pos} {e o:Expr} {es:List Expr} {ta:TE} {t:TA}
def tF{pins:Va}{σ:St}{H:Hp}{s:Shared}{Q:VK}{us:Vv}{vs:List V}(F:jZ X.prog X.w X.K X.mg X.base CX k f fd ps sp)(hr:Room k X.A)(hb:Binds X.K fd ps ds)(hd:Vals dvs ds)(hx:lL CX X E)
  (I:Inv X pins σ H s) (r:Vals vs us) (h:sp (vs++dvs) H Q E):wpAny (model X.prog X.w) X.A (call (.ref f) us) (EP X pins σ Q) X.xe s:=by
 have r2:Vals (vs++dvs) (us++ds):=r.append hd
 have hl:(us++ds).length=ps.length:=by rw[<-r2.length];exact F.len _ _ _ _ h
 refine wpAny_call (codeAny_mono (F.run X.A X.stack s H ⟨us,[]⟩ (us++ds) (vs++dvs) Q E hr I.Dr (hb s us I.BW hl) r2 h) fun r s' hq=>?_)
 cases r with
 |error e=>exact hx pins σ H s e s' I hq
 |ok fl=>
  cases fl with
  |ret u=>exact I.after hq
  |next=>exact False.elim hq
  |brk=>exact False.elim hq
  |cont=>exact False.elim hq
def qD(F:jZ X.prog X.w X.K X.mg X.base CX k f fd ps sp)(hr:Room k X.A)(hg:Gl X x)(hm:X.mg x=some (.ref f))(hk:PySem.W.keepIn X.K (.ref f)=true)(hb:Binds X.K fd ps ds)(hd:Vals dvs ds)(hx:lL CX X E)
  (ha:PA X (e::es) t) (hdb:(x == ("__debug__":Str))=false:=by decide) (he:starEach (e::es) X.env=(false,eval e X.env)::starEach es X.env:=by rfl) (hpl:(backTo pos (starEach es X.env)).any (·.1)=false:=by rfl) :
  PE X (.Call (.Name x p) (e::es) [] pos) (vL sp dvs E t):=by
 intro pins s σ H Q I h
 refine GY (mx I hg hm ?_ hdb)
 refine PySem.W.callWith_K (h₀:=X.base) I.ok.mod.Dk hk (yF (ha pos pins s σ H _ I h) fun us s1 ⟨vs,H1,I1,r,q⟩=>⟨I1.BW,?_⟩) he hpl
 exact tF F hr hb hd hx I1 r q
end
structure eu (N P:Vs) (sc:Scope):Prop where
 kind:sc.kind = .function
 co:sc.isCoroutine=false
 gen:sc.isGenerator=false
 nd:N.Nodup
 pre:N.take P.length=P
 par:∀x∈P,sc.names.lookup x=some .local\/sc.names.lookup x=some .cell
 Cl:∀y∈sc.names,y.2 ≠ .free
theorem jw{kindOf:Str->Option NameKind}{x:Str}:∀{binds:List (Str×Value)} {m:Vr},(∀v,(x,v) ∉ binds)->bindL kindOf binds m x=m x
 |[],_,_=>rfl
 |(n,v)::r,m,h=>by
  unfold bindL
  rw[jw fun w hw=>h w (F1 _ hw)]
  split
  ·have:x≠n:=by rintro rfl;exact h v Gx
   simp[this]
  ·rfl
theorem jx{kindOf:Str->Option NameKind}{x:Str}:∀{binds:List (Str×Value)} {m:Vr},(∀v,(x,v) ∉ binds)->bindC kindOf binds m x=m x
 |[],_,_=>rfl
 |(n,v)::r,m,h=>by
  unfold bindC
  rw[jx fun w hw=>h w (F1 _ hw)]
  split
  ·rfl
  ·have:x≠n:=by rintro rfl;exact h v Gx
   simp[this]
theorem jy{kindOf:Str->Option NameKind}{x:Str}{v:Value}:∀{P:Vs} {vs:Vv} {i:Nat} {m:Vr},P.Nodup->P[i]?=some x->vs[i]?=some v->kindOf x=some .local->
  bindL kindOf (P.zip vs) m x=some v
 |[],_,_,_,_,h,_,_=>by simp at h
 |_::_,[],_,_,_,_,h,_=>by simp at h
 |p::P,w::vs,0,m,nd,h1,h2,hk=>by
  simp at h1 h2;subst h1;subst h2
  show bindL kindOf ((p,w)::P.zip vs) m p=_
  unfold bindL
  rw[jw fun v hv=>(Gv.mp nd).1 (List.of_mem_zip hv).1,if_pos hk]
  simp
 |p::P,w::vs,i+1,m,nd,h1,h2,hk=>by
  show bindL kindOf ((p,w)::P.zip vs) m x=_
  unfold bindL
  exact jy (i:=i) (Gv.mp nd).2 (by simpa using h1) (by simpa using h2) hk
theorem jz{kindOf:Str->Option NameKind}{x:Str}{v:Value}:∀{P:Vs} {vs:Vv} {i:Nat} {m:Vr},P.Nodup->P[i]?=some x->vs[i]?=some v->kindOf x≠some .local->
  bindC kindOf (P.zip vs) m x=some v
 |[],_,_,_,_,h,_,_=>by simp at h
 |_::_,[],_,_,_,_,h,_=>by simp at h
 |p::P,w::vs,0,m,nd,h1,h2,hk=>by
  simp at h1 h2;subst h1;subst h2
  show bindC kindOf ((p,w)::P.zip vs) m p=_
  unfold bindC
  rw[jx fun v hv=>(Gv.mp nd).1 (List.of_mem_zip hv).1,if_neg hk]
  simp
 |p::P,w::vs,i+1,m,nd,h1,h2,hk=>by
  show bindC kindOf ((p,w)::P.zip vs) m x=_
  unfold bindC
  exact jz (i:=i) (Gv.mp nd).2 (by simpa using h1) (by simpa using h2) hk
noncomputable def dM(N:Vs)(vs:List V):St:=vs.map some++List.replicate (N.length - vs.length) none
noncomputable def lM(CX:qf)(P:Program)(w:World)(K:Vo)(mg:Vr)(base:Heap)(N:Vs)(qual:Str)(scope:Scope)(f:Addr)(cd:Value)(A:Around)(outer:List Env)(s:Shared)(H:Hp)(E:XK):Cx where
 prog:=P
 w:=w
 K:=K
 mg:=mg
 base:=base
 A:=A.deeper (envOfC qual scope s.heap.objs.size f cd)
 N:=N
 s₀:=s
 H₀:=H
 env:=envOfC qual scope s.heap.objs.size f cd
 outer:=outer
 stack:=envOfC qual scope s.heap.objs.size f cd::outer
 ex:=[]
 calm:=true
 fn:=fun _=>true
 pn:=[]
 xe:=fun e s'=>wpAny (model P w) (A.deeper (envOfC qual scope s.heap.objs.size f cd)) (leaving (envOfC qual scope s.heap.objs.size f cd) e) (fun _ s''=>CX outer H s E e s'') (fun e' s''=>CX outer H s E e' s'') s'
def kW{sc:Scope}{n:Nat}{x:Str}(h:sc.names.lookup x=some .cell):∃c,(cellsFrom n sc.names []).lookup x=some c:=by
 have q:=PySem.W.cellsFrom_some sc.names n [] (.inl h)
 exact Option.isSome_iff_exists.mp q
def m9{CX:qf}{P:Program}{w:World}{K:Vo}{mg:Vr}{base:Heap}{N ps:Vs}{qual:Str}{scope:Scope}{f:Addr}{cd:Value}{A:Around}{outer:List Env}{s s1:Shared}{H:Hp}{E:XK}{us:Vv}{vs:List V}
  (S:eu N ps scope) (hd:A.handled=none) (e0:qC P w K mg base A outer s H) (hl:vs.length=ps.length) (r:Vals vs us)
  (x:InCallC s s.heap.objs.size (bindL (envOfC qual scope s.heap.objs.size f cd).kindOf (ps.zip us) fun _=>none) (cellsFrom (s.heap.objs.size+1) scope.names []) (bindC (envOfC qual scope s.heap.objs.size f cd).kindOf (ps.zip us) fun _=>none) s1) :
  Inv (lM CX P w K mg base N qual scope f cd A outer s H E) [] (dM N vs) H s1:=by
 have hpl:ps.length<=N.length:=by have:=F5 List.length S.pre;rw[Ge]at this;omega
 obtain⟨h1,tk,rfl,hk⟩:=x.done
 have CO:∀b:Addr,b ∉ (lM CX P w K mg base N qual scope f cd A outer s H E).ex:=fun b z=>absurd (show b∈([]:List Addr)from z) (by simp)
 refine⟨⟨e0.mod,S.kind,rfl,rfl,Ft _,fun y z c h1 h2=>?_,fun y hy=>?_,fun y c _ h=>?_,fun _=>hd,Around.frames_deeper e0.frames,.inr ⟨rfl,rfl⟩,fun b z=>absurd z (CO b),e0.bs,e0.BV,fun b _ _=>CO b,fun b z=>absurd z (CO b),e0.At,e0.Ci⟩,
  rfl,e0.bare,Un.kept hk,⟨_,x.toInCall.ns,fun i y v h1 h2 h3=>?_⟩,fun y c h=>⟨_,x.cell y c h⟩,e0.hok.fresh (Ft _),fun y c h=>?_,fun p hp=>absurd (show p∈([]:Va)from hp) (by simp),e0.hok.kept hk,?_⟩
 ·exact name_of_addr x.apart (GF h1) (GF h2)
 ·have hy:scope.names.lookup y=some .cell\/scope.names.lookup y=some .free:=hy
  rcases hy with hy|hy
  ·exact kW hy
  ·exact absurd rfl (S.Cl _ (GF hy))
 ·exact Hl (x.above y c (GF h))
 ·have hi:i < vs.length:=by
   unfold dM at h2
   by_cases hi:i < vs.length
   ·exact hi
   ·rw[F9 (by simpa using hi)]at h2
    rw[GB]at h2
    split at h2<;>cases h2
  have ha:vs[i]?=some v:=by
   unfold dM at h2
   rw[F3 (by simpa using hi),FY]at h2
   cases e:vs[i]? with
   |none=>rw[e]at h2;cases h2
   |some a=>rw[e]at h2;cases h2;rfl
  obtain⟨u,hu,rv⟩:=r.get ha
  have hp:ps[i]?=some y:=by
   rw[<-S.pre,List.getElem?_take_of_lt (by omega)];exact h1
  have Ek:ps.Nodup:=by rw[<-S.pre];exact S.nd.sublist (List.take_sublist _ _)
  refine⟨u,rv,?_⟩
  rcases S.par y (Gh hp)with k|k
  ·exact .inl ⟨k,jy Ek hp hu k⟩
  ·obtain⟨c,e⟩:=kW (n:=s.heap.objs.size+1) k
   refine .inr ⟨.inl k,c,e,?_⟩
   have q:=x.cell y c e
   rw[jz Ek hp hu (by show scope.names.lookup y≠_;rw[k];decide)]at q
   exact q
 ·exact e0.hok.fresh (Hl (x.above y c (GF h)))
 ·unfold dM
  show _=N.length
  rw[Fv,Fx,Gk]
  omega
def vM{CX:qf}{P:Program}{w:World}{K:Vo}{mg:Vr}{base:Heap}{k:Nat}{f:Addr}{name qual:Str}{params:Arguments}{body:List Stmt}{scope:Scope}{dV kV doc pm cdv ct oc:Value}{an od:Option Addr}
  {osl:Array (Option Value)} {N ps:Vs} {sp:Sp} (lk:K.lookup f=some ⟨oc,od,.func (PySem.W.fnOf name qual params body scope dV kV doc pm an cdv ct),osl⟩) (hcd:PySem.W.codeIn K cdv qual=true) (S:eu N ps scope)
  (len:∀vs H Q E,sp vs H Q E->vs.length=ps.length)
  (hbody:∀(A:Around) (outer:List Env) (s:Shared) (H:Hp) (vs:List V) (Q:VK) (E:XK),Room k (A.deeper (envOfC qual scope s.heap.objs.size f cdv))->sp vs H Q E->
   ∃t,Ba (lM CX P w K mg base N qual scope f cdv A outer s H E) body t/\t { nx:=fun _ H'=>Q .non H',rt:=Q } (dM N vs) H) :
  jZ P w K mg base CX (k+1) f (PySem.W.fnOf name qual params body scope dV kV doc pm an cdv ct) ps sp:=by
 refine⟨len,fun A outer s H args us vs Q E hr e0 hb r B7=>?_⟩
 have hl:=len _ _ _ _ B7
 have KX:K.In s.heap:=e0.mod.Dk.keeps fun b o e=>(e0.bs b o e).1
 have lim:s.heap.NoLimit:=e0.mod.nolimit.keeps fun b o e=>(e0.bs b o e).1
 have hkind:∀y∈ps.zip us,scope.names.lookup y.1=some .local\/(scope.names.lookup y.1=some .cell/\((cellsFrom (s.heap.objs.size+1) scope.names []).lookup y.1).isSome=true):=fun⟨n,v⟩ hy=>by
  rcases S.par n (List.of_mem_zip hy).1 with q|q
  ·exact .inl q
  ·exact .inr ⟨q,PySem.W.cellsFrom_some _ _ _ (.inl q)⟩
 refine codeAny_call_function hr.depth (KX _ _ lk) rfl S.co S.gen rfl (PySem.W.codeRec_of KX hcd) (hb _ _ _ _ ?_)
 refine wpAny_newFunctionEnv_cells S.kind hkind fun env he s1 x=>?_
 subst he
 refine⟨lim.keeps x.toInCall.keep,codeAny_func ?_⟩
 obtain⟨t,ht,hq⟩:=hbody A outer s H vs Q E (hr.deeper _) B7
 have I:Inv (lM CX P w K mg base N qual scope f cdv A outer s H E) [] (dM N vs) H s1:=m9 S hr.hd e0 hl r x
 refine GW (ht [] s1 (dM N vs) H _ I hq) (fun fl s' hs=>?_) fun e s' hs=>hs
 have fin:∀{σ':St} {H':Hp} {v:V} {u:Value},Inv (lM CX P w K mg base N qual scope f cdv A outer s H E) [] σ' H' s'->RelV v u->Q v H'->CE outer P w H s Q u s':=
  fun{σ' H' v u} J rv q=>⟨v,H',J.os,J.bare,J.base,J.hok,rv,q⟩
 cases fl with
 |ret u=>
  obtain⟨v,σ',H',J,rv,q⟩:=hs
  exact fin J rv q
 |next=>
  obtain⟨σ',H',J,q⟩:=hs
  exact fin (v:=V.non) (u:=Value.none) J rfl q
 |brk=>
  obtain⟨_,_,_,q⟩:=hs
  exact False.elim q
 |cont=>
  obtain⟨_,_,_,q⟩:=hs
  exact False.elim q
section
variable {X:Cx} {x:Str} {p pos:Pos} {e:Expr} {es:List Expr} {t:TA} {id T:String} {r:List V->Hp->VK->Prop}
def xZ(r:List V->Hp->VK->Prop)(t:TA):TE:=fun σ H Q=>t σ H fun vs H1=>r vs H1 Q
def on(hc:eN X (.builtin id) r)(hg:Gl X x)(hm:X.mg x=none)(hv:bootBuiltins x=some (.builtin id))(ha:PA X (e::es) t)(hn:x ≠ "__name__":=by decide)(hdb:(x == ("__debug__":Str))=false:=by decide)
  (he:starEach (e::es) X.env=(false,eval e X.env)::starEach es X.env:=by rfl) (hpl:(backTo pos (starEach es X.env)).any (·.1)=false:=by rfl):PE X (.Call (.Name x p) (e::es) [] pos) (xZ r t):=by
 intro pins s σ H Q I h
 refine GY (e7 I hg hm hv ?_ hn hdb)
 exact PyProof.Rows.callWith_builtin1 (yF (ha pos pins s σ H _ I h) fun us s1 ⟨vs,H1,I1,r1,q1⟩=>hc pins s1 σ H1 vs us Q I1 r1 q1) he hpl
def m_(hc:eN X (.type T) r)(hg:Gl X x)(hm:X.mg x=none)(hv:bootBuiltins x=some (.type T))(ha:PA X (e::es) t)(hn:x ≠ "__name__":=by decide)(hdb:(x == ("__debug__":Str))=false:=by decide)
  (he:starEach (e::es) X.env=(false,eval e X.env)::starEach es X.env:=by rfl) (hpl:(backTo pos (starEach es X.env)).any (·.1)=false:=by rfl):PE X (.Call (.Name x p) (e::es) [] pos) (xZ r t):=by
 intro pins s σ H Q I h
 refine GY (e7 I hg hm hv ?_ hn hdb)
 exact Gr (yF (ha pos pins s σ H _ I h) fun us s1 ⟨vs,H1,I1,r1,q1⟩=>hc pins s1 σ H1 vs us Q I1 r1 q1) he hpl
end
end L2
namespace HT
open PySem PyProof.Rows
section
open PySem.SeqAt
open PySem.AutoSeq1 (wpAny_loadPart')
open PySem.MeetsSeq PySem.MeetsSeq2 PySem.MeetsSeq3
end
section
variable {prog:Program} {w:World} {A:Around} {E:Vq} {s:Shared}
def qE{t b:Addr}{vs ws:Vv}{Q:Vq}(ht:IsTup s.heap t vs.toArray)(hb:IsTup s.heap b ws.toArray)(hv:vs≠[])
  (h1:ws=[]->Q (.ref t) s) (h2:ws≠[]->Q (.ref s.heap.objs.size) { s with heap:=s.heap.push { cls:=.type "tuple",data:=.seq (vs++ws).toArray } })
  (hsz:vs.length+ws.length<=sizeLine):wpAny (model prog w) A (binaryOp .Add (.ref t) (.ref b)) Q E s:=by
 obtain⟨⟨cls,dd,data,sl⟩,ho,hc,n,hd⟩:=id ht
 obtain⟨⟨Ds,dd2,data2,sl2⟩,ho2,hc2,n2,hd2⟩:=id hb
 simp only at hc hd hc2 hd2
 subst hc hd hc2 hd2
 have e:vs.toArray++ws.toArray=(vs++ws).toArray:=by simp
 by_cases hw:ws=[]
 ·exact concat_meets ⟨_,ho,rfl⟩ ⟨_,ho2,rfl⟩ noFill_tuple_add seq_tuple_add Hr Hf (G5 _ _)
   (tuple_addW1 t b vs.toArray ws.toArray n n2 dd dd2 sl sl2 (by simpa using hv) (by simp[hw])) ⟨ho,ho2,h1 hw⟩
 ·refine concat_meets ⟨_,ho,rfl⟩ ⟨_,ho2,rfl⟩ noFill_tuple_add seq_tuple_add Hr Hf (G5 _ _)
   (tuple_addW2 t b vs.toArray ws.toArray n n2 dd dd2 sl sl2 (by simpa using hv) (by simpa using hw) (by rw[Fy,Fy];exact hsz)) ⟨ho,ho2,?_⟩
  rw[e]
  exact h2 hw
noncomputable def yT(n d:Nat):Option Int->Nat
 |none=>d
 |some v=>if v < 0 then (v+(n:Int)).toNat else min v.toNat n
def iw(n d:Nat):yT n d none=d:=rfl
def ic(n d k:Nat):yT n d (some (k:Int))=min k n:=by
 show(if (k:Int) < 0 then ((k:Int)+(n:Int)).toNat else min (k:Int).toNat n)=min k n
 rw[if_neg (by omega),GN]
def tG(n d:Nat)(hd:d<=n)(o:Option Int):yT n d o<=n:=by
 cases o with
 |none=>exact hd
 |some v=>
  show(if v < 0 then (v+(n:Int)).toNat else min v.toNat n)<=n
  by_cases hv:v < 0
  ·rw[if_pos hv];omega
  ·rw[if_neg hv];exact Nat.min_le_right _ _
def mD(v:Int)(n d:Nat):(if v < 0 then max (v+(n:Int)) 0 else min v (n:Int))=((yT n d (some v):Nat):Int):=by
 show(if v < 0 then max (v+(n:Int)) 0 else min v (n:Int))=(((if v < 0 then (v+(n:Int)).toNat else min v.toNat n):Nat):Int)
 by_cases hv:v < 0
 ·simp only[if_pos hv];omega
 ·simp only[if_neg hv];omega
def lN(lo hi:Option Int)(n:Nat):Builtin.Slice.sliceAdjust lo hi 1 (n:Int)=(((yT n 0 lo:Nat):Int),((yT n n hi:Nat):Int)):=by
 have h1:¬((1:Int) < 0):=by omega
 unfold Builtin.Slice.sliceAdjust
 simp only[h1,F0]
 refine Prod.ext ?_ ?_
 ·cases lo with
  |none=>rfl
  |some v=>exact mD v n 0
 ·cases hi with
  |none=>rfl
  |some v=>exact mD v n n
def lO(i j:Nat):Builtin.Slice.slicePlaces (i:Int) (j:Int) 1=j - i:=by
 unfold Builtin.Slice.slicePlaces
 have h1:(1:Int) > 0:=by omega
 simp only[h1,F8,Int.ediv_one]
 split<;>omega
def ix{v:Value}{o:Option Int}{Q:Option Int->Shared->Prop}(p:IsPart v o)(h:Q o s):wpAny (model prog w) A (Builtin.Slice.slicePartIndex v) Q E s:=by
 cases p with
 |none=>exact slicePart_none h
 |int i t=>exact slicePart_int h
def cQ{sl:Addr}{vl vu:Value}{lo hi:Option Int}{n:Nat}{Q:Int×Int×Nat->Shared->Prop}(hs:s.heap.IsSliceOf sl vl vu .none)(pl:IsPart vl lo)(pu:IsPart vu hi)
  (h:Q (((yT n 0 lo:Nat):Int),1,yT n n hi - yT n 0 lo) s):wpAny (model prog w) A (Builtin.Slice.sliceApplied (.ref sl) (pure (n:Int))) Q E s:=by
 obtain⟨os,hos,hcs,hds⟩:=id hs
 unfold Builtin.Slice.sliceApplied Builtin.Slice.sliceFields
 refine Fw (Fw (Hg hos hds (x:=vl) rfl (Fw (Hg hos hds (x:=vu) rfl (Fw (Hg hos hds (x:=.none) rfl (FJ ?_)))))))
 refine Fw (slicePart_none ?_)
 show wpAny _ _ (if ((1:Int) == 0)=true then _ else _) _ _ s
 rw[if_neg (by decide)]
 refine Fw (ix pl (Fw (ix pu (Fw (FJ ?_)))))
 show wpAny _ _ (match Builtin.Slice.sliceAdjust lo hi 1 (n:Int)with|(lo,hi)=>pure (lo,(1:Int),Builtin.Slice.slicePlaces lo hi 1)) _ _ s
 rw[lN lo hi n]
 show wpAny _ _ (pure (((yT n 0 lo:Nat):Int),(1:Int),Builtin.Slice.slicePlaces ((yT n 0 lo:Nat):Int) ((yT n n hi:Nat):Int) 1)) _ _ s
 rw[lO]
 exact FJ h
def oo(xs:Vw)(i k:Nat):((List.range k).filterMap fun(m:Nat)=>xs[((i:Int)+(m:Int) * 1).toNat]?).toArray=((xs.toList.drop i).take k).toArray:=by
 have e:(fun(m:Nat)=>xs[((i:Int)+(m:Int) * 1).toNat]?)=fun m=>xs[i+m]?:=by
  funext m
  have:((i:Int)+(m:Int) * 1).toNat=i+m:=by omega
  rw[this]
 rw[e]
 have:=pick_run xs i k
 rw[List.filterMap_map]at this
 have e2:((fun x=>xs[x]?) ∘ fun x=>i+x)=fun m=>xs[i+m]?:=rfl
 rw[e2]at this
 rw[this]
def fG{t sl:Addr}{items:Vw}{vl vu:Value}{lo hi:Option Int}{Q:Vq}(ht:IsTup s.heap t items)(hs:s.heap.IsSliceOf sl vl vu .none)(pl:IsPart vl lo)(pu:IsPart vu hi)
  (hw:¬(yT items.size 0 lo=0/\yT items.size items.size hi=items.size))
  (h:Q (.ref s.heap.objs.size) { s with heap:=s.heap.push { cls:=.type "tuple",data:=.seq ((items.toList.drop (yT items.size 0 lo)).take (yT items.size items.size hi - yT items.size 0 lo)).toArray } })
  (hsz:items.size<=sizeLine):wpAny (model prog w) A (getItem (.ref t) (.ref sl)) Q E s:=by
 have Bo:sizeOk (.seq ((items.toList.drop (yT items.size 0 lo)).take (yT items.size items.size hi - yT items.size 0 lo)).toArray):=by
  show((items.toList.drop (yT items.size 0 lo)).take (yT items.size items.size hi - yT items.size 0 lo)).toArray.size<=sizeLine
  rw[Fy,Ge,Gj,HS]
  omega
 have hj:yT items.size items.size hi<=items.size:=tG _ _ (Ft _) hi
 obtain⟨os,hos,hcs,hds⟩:=id hs
 have Dt:s.TypeIs (.ref sl) "slice":=⟨os,hos,hcs⟩
 unfold getItem
 try with_reducible refine G4 ?_
 first|refine Fw (FJ ?_)|skip
 refine Fw (wpAny_sequenceKey ht.typeIs (by decide) ?_)
 refine Fw (GQ (name:=Str.ofString "__getitem__") ht.typeIs F7
  (HF F7 ht.typeIs entry_tuple_getitem ?_ (args_tuple_getitem _ _)))
 show wpAny _ _ (Builtin.Tuple.tupleItemsOf (.ref t) >>= _) _ _ s
 refine Fw (tupleItemsOf_ ht ?_)
 refine Fw (wpAny_typeOf Dt ?_)
 rw[if_pos (by decide)]
 refine Fw (cQ hs pl pu ?_)
 have hno:¬((((yT items.size 0 lo:Nat):Int) == 0&&(1:Int) == 1&&(yT items.size items.size hi - yT items.size 0 lo) == items.size)=true):=by
  intro q
  rw[Gy,Gy]at q
  have q1:((yT items.size 0 lo:Nat):Int)=0:=eq_of_beq q.1.1
  have q2:yT items.size items.size hi - yT items.size 0 lo=items.size:=eq_of_beq q.2
  exact hw ⟨by omega,by omega⟩
 show wpAny _ _ (if (((yT items.size 0 lo:Nat):Int) == 0&&(1:Int) == 1&&(yT items.size items.size hi - yT items.size 0 lo) == items.size)=true then _ else _) _ _ s
 rw[if_neg hno,oo]
 first
  |exact Fw (m:=Builtin.Tuple.tupleExact _) (Gs (FJ ⟨_,rfl,FJ h⟩) Bo)
  |exact Fw (m:=Builtin.Tuple.tupleExact _) (Gs (Fw (FJ (FJ ⟨_,rfl,FJ h⟩))) Bo)
  |exact Fw (Fw (m:=Builtin.Tuple.tupleExact _) (Gs (FJ (FJ ⟨_,rfl,FJ h⟩)) Bo))
  |exact Fw (Fw (m:=Builtin.Tuple.tupleExact _) (Gs (FJ ⟨_,rfl,FJ h⟩) Bo))
end
end HT
namespace L2
open PySem PySem.Spec PyProof.Rows
abbrev TO:=St->Hp->(Option Int->Hp->Prop)->Prop
def PO(X:Cx)(e:Option Expr)(t:TO):Prop:=
 ∀(pins:Va) (s:Shared) (σ:St) (H:Hp) (Q:Option Int->Hp->Prop),Inv X pins σ H s->t σ H Q->
  wpAny (model X.prog X.w) X.A (evalPart e X.env) (fun u s'=>∃o H',Inv X pins σ H' s'/\IsPart u o/\Q o H') X.xe s
noncomputable def qF:TO:=fun _ H Q=>Q none H
noncomputable def vN(t:TE):TO:=fun σ H Q=>t σ H fun x H1=>∃i,x = .int i/\Q (some i) H1
section
variable {X:Cx} {e:Expr} {te:TE} {lo hi:Option Expr} {tl th:TO} {pos p2:Pos}
def qG:PO X none qF:=by
 intro pins s σ H Q I h
 rw[evalPart_none]
 exact FJ ⟨none,H,I,.none,h⟩
def qH(h:PE X e te):PO X (some e) (vN te):=by
 intro pins s σ H Q I hw
 rw[evalPart_some]
 refine yF (h pins s σ H _ I hw) fun u s1 ⟨x,H1,I1,r1,q1⟩=>?_
 obtain⟨i,rfl,q⟩:=q1
 obtain⟨t,rfl⟩:=r1
 exact⟨some i,H1,I1,.int i t,q⟩
def u9(X:Cx)(r:V->Option Int->Option Int->Hp->VK->Prop):Prop:=
 ∀(pins:Va) (s:Shared) (σ:St) (H:Hp) (x:V) (v vl vu:Value) (lo hi:Option Int) (sl:Addr) (Q:VK),Inv X pins σ H s->RelV x v->s.heap.IsSliceOf sl vl vu .none->IsPart vl lo->IsPart vu hi->r x lo hi H Q->
  ∃T id,typeLookup (.type T) "__getitem__" = pure (some (.builtin id))/\s.TypeIs v T/\wpAny (model X.prog X.w) X.A (getItem v (.ref sl)) (EP X pins σ Q) X.xe s
def yj(r:V->Option Int->Option Int->Hp->VK->Prop)(te:TE)(tl th:TO):TE:=fun σ H Q=>te σ H fun x H1=>tl σ H1 fun l H2=>th σ H2 fun u H3=>r x l u H3 Q
def oq{r:V->Option Int->Option Int->Hp->VK->Prop}(hr:u9 X r)(he:PE X e te)(hl:PO X lo tl)(hu:PO X hi th):PE X (.Subscript e (.Slice lo hi none p2) pos) (yj r te tl th):=by
 intro pins s σ H Q I h
 refine Subscript_ (yF (he pins s σ H _ I h) fun v s1 ⟨x,H1,I1,r1,q1⟩=>?_)
 refine wpAny_Slice (yF (hl pins s1 σ H1 _ I1 q1) fun vl s2 ⟨l,H2,I2,pl,q2⟩=>yF (hu pins s2 σ H2 _ I2 q2) fun vu s3 ⟨u,H3,I3,pu,q3⟩=>?_)
 rw[evalPart_none]
 refine FJ ?_
 have I4:Inv X pins σ H3 { s3 with heap:=s3.heap.push { cls:=.type "slice",data:=.fields #[vl,vu,.none] } }:=I3.kept (t':=s3.toks) fun b ob q=>FA _ q
 obtain⟨T,id,hT,ht,hg⟩:=hr pins { s3 with heap:=s3.heap.push { cls:=.type "slice",data:=.fields #[vl,vu,.none] } } σ H3 x v vl vu l u s3.heap.objs.size Q I4 r1 (Heap.IsSliceOf.new ..) pl pu q3
 show wpAny (model X.prog X.w) X.A (subscriptTail e (.Slice lo hi none p2) v (.ref s3.heap.objs.size)) (EP X pins σ Q) X.xe { s3 with heap:=s3.heap.push { cls:=.type "slice",data:=.fields #[vl,vu,.none] } }
 exact tail_any (ops:=[.ref s3.heap.objs.size,v]) ht hT hg (by with_unfolding_all rfl)
noncomputable def iy(xs:List V)(lo hi:Option Int):List V:=(xs.drop (HT.yT xs.length 0 lo)).take (HT.yT xs.length xs.length hi - HT.yT xs.length 0 lo)
def gT(xs:List V)(lo hi:Option Int):(iy xs lo hi).length<=xs.length:=by
 unfold iy
 rw[Ge,Gj]
 omega
noncomputable def xj(K:Vo):V->Option Int->Option Int->Hp->VK->Prop:=fun x lo hi H Q=>∃a xs,x = .ref a/\zJ K H a xs/\
 ¬(HT.yT xs.length 0 lo=0/\HT.yT xs.length xs.length hi=xs.length)/\∀p,H p=none->Q (.ref p) (upd H p (.tup (iy xs lo hi)))
def tH:u9 X (xj X.K):=by
 intro pins s σ H x v vl vu lo hi sl Q I rx hs pl pu h
 obtain⟨a,xs,rfl,hx,hw,q⟩:=h
 cases rx
 obtain⟨its,r,ht,hz⟩:=I.tuple hx
 have hlen:its.toArray.size=xs.length:=by rw[Fy];exact r.length.symm
 refine⟨"tuple",_,F7.lookup,ht.typeIs,?_⟩
 refine HT.fG ht hs pl pu (by rw[hlen];exact hw) ?_ (by rw[hlen];exact hz)
 rw[hlen]
 refine⟨.ref s.heap.objs.size,_,I.laid (t':=s.toks) (o:=.tup (iy xs lo hi)) (fun b ob q=>FA _ q) (Ft _) ?_,rfl,q _ (I.hok.fresh (Ft _))⟩
 exact⟨FI (gT xs lo hi) hz,_,(r.drop (HT.yT xs.length 0 lo)).take (HT.yT xs.length xs.length hi - HT.yT xs.length 0 lo),zl.new _ _⟩
def vO(K:Vo):R2:=fun x y H Q=>∃a b xs ys,x = .ref a/\y = .ref b/\zJ K H a xs/\zJ K H b ys/\xs≠[]/\xs.length+ys.length<=sizeLine/\
 (ys=[]->Q (.ref a) H)/\(ys≠[]->∀p,H p=none->Q (.ref p) (upd H p (.tup (xs++ys))))
def Vals.AI{xs:List V}{us:Vv}(r:Vals xs us):us=[]↔xs=[]:=by
 cases r with
 |nil=>simp
 |cons _ _=>simp
def qI:fF X (binaryOp .Add) (vO X.K):=by
 intro pins s σ H x y v u Q I rx ry h
 obtain⟨a,b,xs,ys,rfl,rfl,ha,hb,hx,hz,q1,q2⟩:=h
 cases rx
 cases ry
 obtain⟨its,r1,p1,_⟩:=I.tuple ha
 obtain⟨its2,r2,p2,_⟩:=I.tuple hb
 refine HT.qE p1 p2 (fun z=>hx (r1.AI.mp z)) (fun z=>⟨.ref a,H,I,rfl,q1 (r2.AI.mp z)⟩) (fun z=>?_) (by rw[<-r1.length,<-r2.length];exact hz)
 refine⟨.ref s.heap.objs.size,_,I.laid (t':=s.toks) (o:=.tup (xs++ys)) (fun b ob q=>FA _ q) (Ft _) ?_,rfl,q2 (fun w=>z (r2.AI.mpr w)) _ (I.hok.fresh (Ft _))⟩
 exact⟨by rw[Fv];exact hz,_,r1.append r2,zl.new _ _⟩
end
noncomputable def lP(n:Nat)(i:Int):Option Nat:=if 0<=i then (if i < n then some i.toNat else none) else if -(n:Int)<=i then some (i+n).toNat else none
noncomputable def zk{α:Type}(xs:List α)(i:Int):Option α:=(lP xs.length i).bind fun j=>xs[j]?
def mE{n:Nat}{i:Int}{j:Nat}(h:lP n i=some j):seqIndex? i n=some j/\j < n/\-(n:Int)<=i/\i < n:=by
 unfold lP at h
 by_cases h0:0<=i
 ·rw[if_pos h0]at h
  by_cases h1:i < n
  ·rw[if_pos h1]at h
   have e:i.toNat=j:=Ga h
   exact⟨by rw[seqIndex_of h0 h1,e],by omega,by omega,h1⟩
  ·rw[if_neg h1]at h;cases h
 ·rw[if_neg h0]at h
  by_cases h1:-(n:Int)<=i
  ·rw[if_pos h1]at h
   have e:(i+n).toNat=j:=Ga h
   exact⟨by rw[seqIndex_neg (by omega) h1,e],by omega,h1,by omega⟩
  ·rw[if_neg h1]at h;cases h
def j0{α:Type}{xs:List α}{i:Int}{v:α}(h:zk xs i=some v):∃j,seqIndex? i xs.length=some j/\xs[j]?=some v/\j < xs.length/\-(xs.length:Int)<=i/\i < xs.length:=by
 unfold zk at h
 cases e:lP xs.length i with
 |none=>rw[e]at h;cases h
 |some j=>
  rw[e]at h
  obtain⟨h1,h2,h3,h4⟩:=mE e
  exact⟨j,h1,h,h2,h3,h4⟩
def dh{α:Type}{xs:List α}{j:Nat}{v:α}(h:xs[j]?=some v):zk xs (j:Int)=some v:=by
 have hj:j < xs.length:=(FU.mp h).1
 have e:lP xs.length (j:Int)=some j:=by
  unfold lP
  rw[if_pos (by omega),if_pos (by omega)];simp
 unfold zk;rw[e];exact h
def ie(b:Expr):Prop:=∀o i,subscripted b false o i=operate [o,i] (getItem o i)
def u_(X:Cx)(r:R2):Prop:=
 ∀(value slice:Expr) (pins:Va) (s:Shared) (σ:St) (H:Hp) (x y:V) (v u:Value) (Q:VK),Inv X pins σ H s->RelV x v->RelV y u->r x y H Q->
  subscripted slice false v u=operate [v,u] (getItem v u)->wpAny (model X.prog X.w) X.A (subscriptTail value slice v u) (EP X pins σ Q) X.xe s
def vP(X:Cx)(id:String)(r:V->List V->Hp->VK->Prop):Prop:=
 ∀(pins:Va) (s:Shared) (σ:St) (H:Hp) (x:V) (xs:List V) (v:Value) (us:Vv) (Q:VK),Inv X pins σ H s->RelV x v->Vals xs us->r x xs H Q->
  wpAny (model X.prog X.w) X.A (call (.builtin id) (v::us)) (EP X pins σ Q) X.xe s
section
variable {X:Cx} {a b:Expr} {ta tb:TE} {pos:Pos}
def vQ{r:R2}(hr:u_ X r)(ha:PE X a ta)(hb:PE X b tb)(hs:ie b):PE X (.Subscript a b pos) (vA r ta tb):=by
 intro pins s σ H Q I h
 exact Subscript_ (s9 ha hb I h fun v u s2 x y H2 I2 rx ry q=>hr a b pins s2 σ H2 x y v u Q I2 rx ry q (hs _ _))
def xk(K:Vo):R2:=fun x y H Q=>∃p xs i v,x = .ref p/\y = .int i/\SqL K H p xs/\zk xs i=some v/\Q v H
def xn(K:Vo):R2:=fun x y H Q=>∃p xs i v,x = .ref p/\y = .int i/\zJ K H p xs/\zk xs i=some v/\Q v H
def xq:R2:=fun x y H Q=>∃z i c,x = .str z/\y = .int i/\z.length<=sizeLine/\zk z.cps.toList i=some c/\Q (.str ⟨#[c]⟩) H
def mF:u_ X (xk X.K):=by
 intro value slice pins s σ H x y v u Q I rx ry h hs
 obtain⟨p,xs,i,z,rfl,rfl,hq,he,q⟩:=h
 cases rx
 obtain⟨t,rfl⟩:=ry
 obtain⟨its,r,pl,hz⟩:=I.list hq
 obtain⟨j,h1,h2,h3,h4,h5⟩:=j0 he
 obtain⟨w,ew,rw'⟩:=r.get h2
 have hl:=r.length
 have hn:=gm
 have fin:EP X pins σ Q w s:=⟨z,H,I,rw',q⟩
 by_cases h0:0<=i
 ·have hj:i.toNat=j:=by
   rw[seqIndex_of h0 h5]at h1
   exact Ga h1
  exact item_listR pl.isList h0 (by omega) (by rw[hj];simpa using ew) fin hs
 ·have hj:(i+(its.toArray.size:Int)).toNat=j:=by
   rw[seqIndex_neg (by omega) h4]at h1
   rw[Fy,<-hl]
   exact Ga h1
  exact subscriptTail_builtinR (x:=w) pl.isList.typeIs slot_list_getitem.lookup
   (wpAny_getItem_list_neg (Q:=fun r s'=>r=w/\EP X pins σ Q r s') pl.isList (by omega) (by rw[Fy]<;>omega) (by omega) (by rw[hj];simpa using ew) ⟨rfl,fin⟩) hs
def tI:u_ X (xn X.K):=by
 intro value slice pins s σ H x y v u Q I rx ry h hs
 obtain⟨p,xs,i,z,rfl,rfl,hq,he,q⟩:=h
 cases rx
 obtain⟨t,rfl⟩:=ry
 obtain⟨its,r,pl,hz⟩:=I.tuple hq
 obtain⟨j,h1,h2,h3,h4,h5⟩:=j0 he
 obtain⟨w,ew,rw'⟩:=r.get h2
 have hl:=r.length
 have hn:=gm
 have fin:EP X pins σ Q w s:=⟨z,H,I,rw',q⟩
 exact subscriptTail_builtinR (x:=w) pl.typeIs slot_tuple_getitem.lookup
  (getItem_tuple (j:=j) (Q:=fun r s'=>r=w/\EP X pins σ Q r s') pl (by omega) (by omega) (by rw[Fy,<-hl];exact h1) (by simpa using ew) ⟨rfl,fin⟩) hs
def tJ:u_ X xq:=by
 intro value slice pins s σ H x y v u Q I rx ry h hs
 obtain⟨z,i,c,rfl,rfl,hz,he,q⟩:=h
 obtain⟨t,rfl⟩:=rx
 obtain⟨t',rfl⟩:=ry
 obtain⟨j,h1,h2,h3,h4,h5⟩:=j0 he
 have hl:z.cps.toList.length=z.length:=by simp[Str.length]
 rw[hl]at h1 h4 h5
 have hn:=gm
 exact tail_any (typeIs_str s z t) slot_str_getitem.lookup (getItem_str (c:=c) (by
  have e1:decide (i < -(2 ^ 63:Int))=false:=FQ (by omega)
  have e2:decide (i>=2 ^ 63)=false:=FQ (by omega)
  rw[e1,e2,Bool.or_false]) (by rw[h1];simpa using h2) ⟨.str ⟨#[c]⟩,H,I.tok _,⟨_,rfl⟩,q⟩) hs
def lQ(its:Vv)(n j:Nat)(u:Value):Obj.mapSeq (·.setIfInBounds j u) { cls:=.type "list",data:=.seq its.toArray n }={ cls:=.type "list",data:=.seq (its.set j u).toArray n }:=by
 simp[Obj.mapSeq]
theorem Inv.lst{pins:Va}{σ:St}{H:Hp}{s:Shared}{p:Addr}{xs:List V}(I:Inv X pins σ H s)(h:H p=some (.lst xs)) :
  ∃(its:Vv) (n:Nat),Vals xs its/\s.heap.get? p=some { cls:=.type "list",data:=.seq its.toArray n }/\xs.length<=sizeLine:=by
 obtain⟨z,its,n,r,e⟩:=I.hok p _ h
 exact⟨its,n,r,e,z⟩
def Inv.Cm{pins:Va}{σ:St}{H:Hp}{s:Shared}{p:Addr}{xs ys:List V}{its its':Vv}{n n':Nat}{f:Obj->Obj}(I:Inv X pins σ H s)(h:H p=some (.lst xs))
  (ho:s.heap.get? p=some { cls:=.type "list",data:=.seq its.toArray n }) (hf:f { cls:=.type "list",data:=.seq its.toArray n }={ cls:=.type "list",data:=.seq its'.toArray n' }) (r:Vals ys its') (hz:ys.length<=sizeLine) (t:Nat) :
  Inv X pins σ (upd H p (.lst ys)) { s with heap:=s.heap.update p f,toks:=t }:=by
 have e:(s.heap.update p f).get? p=some { cls:=.type "list",data:=.seq its'.toArray n' }:=by
  rw[HC f ho (by rw[hf]<;>rfl),hf]
 refine I.write (x:=p) (e:=p) (by rw[h];trivial) (.inl rfl) (fun b u hb q=>(Hs _ _ (G6 hb)).trans q) ⟨_,e⟩ ?_
 exact⟨hz,its',n',r,e⟩
noncomputable def vR:V->V->V->Hp->(Hp->Prop)->Prop:=fun o i v H Q=>∃p xs k j,o = .ref p/\i = .int k/\H p=some (.lst xs)/\lP xs.length k=some j/\Q (upd H p (.lst (xs.set j v)))
def ot:qq X vR:=by
 intro pins s σ H o i v ov iv u Q I ro ri rv h
 obtain⟨p,xs,k,j,rfl,rfl,hp,hj,q⟩:=h
 cases ro
 obtain⟨t,rfl⟩:=ri
 obtain⟨its,n,r,ho,hz⟩:=I.lst hp
 obtain⟨h1,h2,h3,h4⟩:=mE hj
 have hl:=r.length
 have hn:=gm
 have I':Inv X pins σ (upd H p (.lst (xs.set j v))) { s with heap:=s.heap.update p (Obj.mapSeq (·.setIfInBounds j u)) }:=
  I.Cm hp ho (lQ its n j u) (r.set rv j) (by rw[List.length_set];exact hz) s.toks
 by_cases h0:0<=k
 ·have hk:k.toNat=j:=by
   rw[seqIndex_of h0 h4]at h1
   exact Ga h1
  exact PySem.W.ki_setAt ho h0 (by omega) (by rw[Fy,<-hl];exact h4) (by rw[hk];exact⟨_,I',q⟩)
 ·have hk:(k+(its.toArray.size:Int)).toNat=j:=by
   rw[seqIndex_neg (by omega) h3]at h1
   rw[Fy,<-hl]
   exact Ga h1
  exact PySem.W.ki_setBack ho (by omega) (by rw[Fy,<-hl];exact h3) (by omega) (by rw[hk];exact⟨_,I',q⟩)
def j2(lo hi:Option Int)(n:Nat):(sliceBounds lo hi none n).1=((HT.yT n 0 lo:Nat):Int)/\(sliceBounds lo hi none n).2.1=((HT.yT n n hi:Nat):Int)/\(sliceBounds lo hi none n).2.2=1:=by
 refine⟨?_,?_,rfl⟩
 ·cases lo with
  |none=>simp[sliceBounds,HT.yT]
  |some i=>
   simp only[sliceBounds,HT.yT,Option.getD_none,show(1:Int) > 0 by decide,F8]
   by_cases h:i < 0
   ·simp only[h,F8]<;>omega
   ·simp only[h,F0]<;>omega
 ·cases hi with
  |none=>simp[sliceBounds,HT.yT]
  |some i=>
   simp only[sliceBounds,HT.yT,Option.getD_none,show(1:Int) > 0 by decide,F8]
   by_cases h:i < 0
   ·simp only[h,F8]<;>omega
   ·simp only[h,F0]<;>omega
def ji(its:Vv)(lo hi:Option Int):slicePick its.toArray lo hi none=((its.drop (HT.yT its.length 0 lo)).take (HT.yT its.length its.length hi - HT.yT its.length 0 lo)).toArray:=by
 obtain⟨h1,h2,h3⟩:=j2 lo hi its.toArray.size
 unfold slicePick
 rw[h1,h2,h3]
 simp only[sliceRange_one,pick_run,Fy]<;>rfl
noncomputable def xu(K:Vo):V->Option Int->Option Int->Hp->VK->Prop:=fun x lo hi H Q=>∃a xs,x = .ref a/\SqL K H a xs/\∀p,H p=none->Q (.ref p) (upd H p (.lst (iy xs lo hi)))
def mG:u9 X (xu X.K):=by
 intro pins s σ H x v vl vu lo hi sl Q I rx hs pl pu h
 obtain⟨a,xs,rfl,hx,q⟩:=h
 cases rx
 obtain⟨its,r,ht,hz⟩:=I.list hx
 have hlen:=r.length
 refine⟨"list",_,slot_list_getitem.lookup,ht.isList.typeIs,?_⟩
 refine wpAny_getItem_list_slice ht.isList hs pl pu .none (by simp) ?_ (by rw[Fy]<;>omega)
 rw[ji,<-hlen]
 refine⟨.ref s.heap.objs.size,_,I.laid (t':=s.toks) (o:=.lst (iy xs lo hi)) (fun b ob q=>FA _ q) (Ft _) ?_,rfl,q _ (I.hok.fresh (Ft _))⟩
 exact⟨FI (gT xs lo hi) hz,_,0,(r.drop (HT.yT xs.length 0 lo)).take (HT.yT xs.length xs.length hi - HT.yT xs.length 0 lo),FT _ rfl⟩
def j3:fF X (compareOp .NotIn) (fun x y H Q=>∃i j,x = .str i/\y = .str j/\Q (.bl (!(!(Builtin.Str.occurrences j i 0 j.length 1).isEmpty))) H):=by
 intro pins s σ H x y v u Q I rx ry h
 obtain⟨i,j,rfl,rfl,q⟩:=h
 obtain⟨t,rfl⟩:=rx
 obtain⟨t',rfl⟩:=ry
 exact notIn_str ⟨.bl _,H,I,rfl,q⟩
def di:eN X (.builtin "len") (fun xs H Q=>∃p ys,xs=[.ref p]/\(SqL X.K H p ys\/zJ X.K H p ys)/\Q (.int ys.length) H):=by
 intro pins s σ H xs us Q I r h
 obtain⟨p,ys,rfl,hq,q⟩:=h
 obtain⟨u,rfl,rx⟩:=eO r
 cases rx
 have hn:=gm
 rcases hq with hq|hq
 ·obtain⟨its,r',pl,hz⟩:=I.list hq
  have hlen:=r'.length
  exact Calls.call_len_list pl.isList (by simp only[Fy]<;>omega) ⟨.int ys.length,H,I.tok _,⟨s.toks+1,by rw[Fy,hlen]⟩,q⟩
 ·obtain⟨its,r',pl,hz⟩:=I.tuple hq
  have hlen:=r'.length
  exact len_tuple pl (by simp only[Fy]<;>omega) ⟨.int ys.length,H,I.tok _,⟨s.toks+1,by rw[Fy,hlen]⟩,q⟩
def j4:eN X (.builtin "len") (fun xs H Q=>∃z,xs=[.str z]/\z.length<=sizeLine/\Q (.int z.length) H):=by
 intro pins s σ H xs us Q I r h
 obtain⟨z,rfl,hz,q⟩:=h
 obtain⟨u,rfl,t,rfl⟩:=eO r
 have hn:=gm
 exact len_str (by omega) ⟨.int z.length,H,I.tok _,⟨_,rfl⟩,q⟩
def eP:eN X (.type "tuple") (fun xs H Q=>∃p ys,xs=[.ref p]/\((SqL X.K H p ys/\∀l,H l=none->Q (.ref l) (upd H l (.tup ys)))\/(zJ X.K H p ys/\Q (.ref p) H))):=by
 intro pins s σ H xs us Q I r h
 obtain⟨p,ys,rfl,h⟩:=h
 obtain⟨u,rfl,rx⟩:=eO r
 cases rx
 rcases h with⟨hq,q⟩|⟨hq,q⟩
 ·obtain⟨its,r',pl,hz⟩:=I.list hq
  have hlen:=r'.length
  refine call_tuple_list pl.isList (fun h' kp=>?_) (by simp only[Fy]<;>omega)
  have I1:Inv X pins σ H { s with heap:=h' }:=I.kept (t':=s.toks) kp
  have I2:Inv X pins σ (upd H h'.objs.size (.tup ys)) { s with heap:=h'.push { cls:=.type "tuple",data:=.seq its.toArray } }:=
   I1.laid (t':=s.toks) (fun b o e=>FA _ e) (Ft _) (show yX X.prog X.w _ _ _ (.tup ys)from ⟨hz,its,r',zl.new _ _⟩)
  exact⟨.ref h'.objs.size,_,I2,rfl,q _ (I1.hok.fresh (Ft _))⟩
 ·obtain⟨its,r',pl,hz⟩:=I.tuple hq
  exact call_tuple_same pl ⟨.ref p,H,I,rfl,q⟩
def wK(K:Vo)(T:String)(x:V)(H:Hp):Prop:=match x with
 | .str _=>T = "str"
 | .int _=>T = "int"
 | .ref p=>(T = "list"/\∃xs,SqL K H p xs)\/(T = "tuple"/\∃o,K.lookup p=some o/\o.cls = .type "tuple"/\o.dict=none) \/
   (T = "dict"/\((∃kvs,H p=some (.dK kvs))\/∃kvs,H p=some (.dT kvs)))\/(T = "set"/\∃S n,H p=some (.set S n))
 |_=>False
def ou{pins:Va}{σ:St}{H:Hp}{s:Shared}{T:String}{x:V}{v:Value}(I:Inv X pins σ H s)(r:RelV x v)(ty:wK X.K T x H) :
  s.TypeIs v T/\∀a,v = .ref a->∃ob,s.heap.get? a=some ob/\ob.dict=none:=by
 cases x with
 |str z=>
  obtain⟨t,rfl⟩:=r
  cases (show T = "str" from ty)
  exact⟨typeIs_str s z t,fun _ e=>nomatch e⟩
 |int i=>
  obtain⟨t,rfl⟩:=r
  cases (show T = "int" from ty)
  exact⟨typeIs_int s i t,fun _ e=>nomatch e⟩
 |ref p=>
  cases r
  rcases ty with⟨rfl,xs,hq⟩|⟨rfl,o,hk,hc,hd⟩|⟨rfl,hk⟩|⟨rfl,S,n,hk⟩
  ·obtain⟨its,_,pl,_⟩:=I.list hq
   refine⟨pl.isList.typeIs,fun a e=>?_⟩
   cases e
   obtain⟨o,n,e,c,hd,_⟩:=pl
   exact⟨o,e,hd⟩
  ·refine⟨⟨o,I.BW p o hk,hc⟩,fun a e=>?_⟩
   cases e
   exact⟨o,I.BW _ o hk,hd⟩
  ·have z:∃o,s.heap.get? p=some o/\o.ExactDict:=by
    rcases hk with⟨kvs,hk⟩|⟨kvs,hk⟩
    ·obtain⟨_,_,_,_,o,_,_,e,ex,_⟩:=I.hok p _ hk
     exact⟨o,e,ex⟩
    ·obtain⟨_,_,_,_,o,_,_,e,ex,_⟩:=I.hok p _ hk
     exact⟨o,e,ex⟩
   obtain⟨o,e,ex⟩:=z
   refine⟨⟨o,e,ex.1⟩,fun a e2=>?_⟩
   cases e2
   exact⟨o,e,ex.2.1⟩
  ·obtain⟨o,_,_,_,e,ex,_⟩:=I.hok p _ hk
   refine⟨⟨o,e,ex.1⟩,fun a e2=>?_⟩
   cases e2
   exact⟨o,e,ex.2.1⟩
 |_=>exact False.elim ty
def xv(K:Vo)(T:String)(r:V->List V->Hp->VK->Prop)(to:TE):TE:=fun σ H Q=>to σ H fun x H1=>wK K T x H1/\r x [] H1 Q
def yk(K:Vo)(T:String)(r:V->List V->Hp->VK->Prop)(to:TE)(t:TA):TE:=fun σ H Q=>to σ H fun x H1=>wK K T x H1/\t σ H1 fun xs H2=>r x xs H2 Q
variable {o e:Expr} {es:List Expr} {to:TE} {t:TA} {name:Str} {apos cpos:Pos} {T id:String} {r:V->List V->Hp->VK->Prop}
def tK(pa:PlainAttrs T)(slot:Slot T name id)(hty:typeOf (.builtin id)=pure (.type "method_descriptor"))(hm:vP X id r)(ho:PE X o to)
  (hbase:attributeBase o name X.env (eval o X.env)=eval o X.env:=by rfl) (hline:(apos.endLine == cpos.line)=true:=by rfl):PE X (.Call (.Attribute o name apos) [] [] cpos) (xv X.K T r to):=by
 intro pins s σ H Q I h
 refine wpAny_Call_method0_late hbase hline (yF (ho pins s σ H _ I h) fun v s1 ⟨x,H1,I1,r1,ty,q1⟩=>?_)
 obtain⟨h1,h2⟩:=ou I1 r1 ty
 exact⟨T,id,pa,slot,hty,h1,h2,Ht rfl (PySem.evalArgs_none (hm pins s1 σ H1 x [] v [] Q I1 r1 .nil q1))⟩
def vS(pa:PlainAttrs T)(slot:Slot T name id)(hty:typeOf (.builtin id)=pure (.type "method_descriptor"))(hm:vP X id r)(ho:PE X o to)(ha:PA X (e::es) t)
  (hbase:attributeBase o name X.env (eval o X.env)=eval o X.env:=by rfl)
  (hfew:((backTo cpos (starEach (e::es) X.env)).all (fun x=>!x.1)&&(backToKw cpos (keywordEach [] X.env)).all (fun x=>x.1.isSome)
   && decide ((e::es).length+([]:List Keyword).length+(if ([]:List Keyword).isEmpty then 0 else 1) < 30))=true:=by rfl)
  (hline:(apos.endLine == cpos.line)=true:=by rfl) (hs:starEach (e::es) X.env=(false,eval e X.env)::starEach es X.env:=by rfl) (hplain:(backTo cpos (starEach es X.env)).any (·.1)=false:=by rfl) :
  PE X (.Call (.Attribute o name apos) (e::es) [] cpos) (yk X.K T r to t):=by
 intro pins s σ H Q I h
 refine wpAny_Call_method_late hbase hfew hline rfl (yF (ho pins s σ H _ I h) fun v s1 ⟨x,H1,I1,r1,ty,q1⟩=>?_)
 obtain⟨h1,h2⟩:=ou I1 r1 ty
 refine⟨T,id,pa,slot,hty,h1,h2,?_⟩
 have hA:=ha cpos pins s1 σ H1 _ I1 q1
 rw[hs]at hA ⊢
 refine Ht (by show(false || (backTo cpos (starEach es X.env)).any (·.1))=false;rw[hplain]<;>rfl) (Calls.evalArgs_plain ?_)
 exact yF hA fun us s2 ⟨vs,H2,I2,r2,q2⟩=>hm pins s2 σ H2 x vs v us Q I2 r1 r2 q2
end
def wL(X:Cx)(id:String)(r:V->List V->Hp->VK->Prop):Prop:=
 ∀(pins:Va) (s:Shared) (σ:St) (H:Hp) (x:V) (xs:List V) (v:Value) (us:Vv) (Q:VK),Inv X pins σ H s->RelV x v->Vals xs us->r x xs H Q->
  wpAny (model X.prog X.w) X.A (call (.builtin id) (v::us)) (EP X pins σ Q) X.xe s
theorem Vals.one:∀{x:V} {us:Vv},Vals [x] us->∃u,us=[u]/\RelV x u
 |_,_,.cons r .nil=>⟨_,rfl,r⟩
theorem Vals.zero:∀{us:Vv},Vals [] us->us=[]
 |_,.nil=>rfl
theorem Vals.dropLast{xs:List V}{us:Vv}(h:Vals xs us):Vals xs.dropLast us.dropLast:=by
 induction h with
 |nil=>exact .nil
 |cons r t ih=>
  cases t with
  |nil=>exact .nil
  |cons q t'=>exact .cons r ih
theorem Vals.eraseIdx:∀{xs:List V} {us:Vv} (i:Nat),Vals xs us->Vals (xs.eraseIdx i) (us.eraseIdx i)
 |_,_,_,.nil=>.nil
 |_,_,0,.cons _ t=>t
 |_,_,i+1,.cons r t=>.cons r (Vals.eraseIdx i t)
theorem Vals.reverse{xs:List V}{us:Vv}(h:Vals xs us):Vals xs.reverse us.reverse:=by
 induction h with
 |nil=>exact .nil
 |cons r t ih=>rw[Hu,Hu];exact Vals.append ih (.cons r .nil)
theorem Vals.rep{xs:List V}{us:Vv}(h:Vals xs us):∀k:Nat,Vals (List.replicate k xs).flatten (List.replicate k us).flatten
 |0=>.nil
 |k+1=>by
  rw[Gf,Gf,Gu,Gu]
  exact Vals.append h (Vals.rep h k)
def lR{α:Type}(l:List α):l.eraseIdx (l.length - 1)=l.dropLast:=by
 induction l with
 |nil=>rfl
 |cons a r ih=>
  cases r with
  |nil=>rfl
  |cons b r=>
   have e:(a::b::r).length - 1=((b::r).length - 1)+1:=by
    have h1:(a::b::r).length=r.length+2:=rfl
    have h2:(b::r).length=r.length+1:=rfl
    omega
   rw[e,List.eraseIdx_cons_succ,ih]
   all_goals rfl
theorem jA{α:Type}:∀(l:List α) (i:Nat),(l.eraseIdx i).length<=l.length
 |[],_=>Ft _
 |_::_,0=>Nat.le_succ _
 |_::r,i+1=>Nat.succ_le_succ (jA r i)
theorem jB(its:Vv):∀(k:Nat) (acc:Vv),
  List.foldl (fun x1 x2=>x1++x2) acc.toArray (List.replicate k its.toArray)=(acc++(List.replicate k its).flatten).toArray
 |0,acc=>by simp
 |k+1,acc=>by
  have e:acc.toArray++its.toArray=(acc++its).toArray:=by simp
  have e2:(acc++its)++(List.replicate k its).flatten=acc++(List.replicate (k+1) its).flatten:=by
   rw[Gf,Gu,List.append_assoc]
  rw[<-e2,<-jB its k (acc++its),<-e,Gf,List.foldl_cons]
section
variable {X:Cx} {pins:Va} {σ:St} {H:Hp} {s:Shared} {l b:Addr} {xs ys zs:List V}
def Inv.BZ{its its':Vv}{n:Nat}{f:Array Value->Array Value}{t':Nat}(I:Inv X pins σ H s)(hH:H l=some (.lst xs))
  (e:s.heap.get? l=some { cls:=.type "list",data:=.seq its.toArray n }) (hf:f its.toArray=its'.toArray) (hv:Vals ys its') (hz:ys.length<=sizeLine) :
  Inv X pins σ (upd H l (.lst ys)) { s with heap:=s.heap.update l (Obj.mapSeq f),toks:=t' }:=by
 have q:=PySem.IsL.update e f
 rw[hf]at q
 refine I.write (x:=l) (e:=l) (by rw[hH];exact trivial) (.inl rfl) (fun b' u hb hu=>(Hs s.heap (Obj.mapSeq f) (G6 hb)).trans hu) ⟨_,q⟩ ?_
 exact⟨hz,its',_,hv,q⟩
def Inv.CP{its:Vv}{t':Nat}(I:Inv X pins σ H s)(hv:Vals ys its)(hz:ys.length<=sizeLine) :
  Inv X pins σ (upd H s.heap.objs.size (.lst ys)) { s with heap:=s.heap.push { cls:=.type "list",data:=.seq its.toArray },toks:=t' }:=
 I.laid (fun _ _ q=>FA _ q) (Ft _) ⟨hz,its,0,hv,FT _ rfl⟩
theorem Inv.fresh(I:Inv X pins σ H s):H s.heap.objs.size=none:=I.hok.fresh (Ft _)
def Inv.AX(I:Inv X pins σ H s)(hH:H l=some (.lst xs)):xs.length<=sizeLine/\∃(its:Vv) (n:Nat),Vals xs its/\xs.length=its.length/\s.heap.get? l=some { cls:=.type "list",data:=.seq its.toArray n }:=by
 obtain⟨z,its,n,r,e⟩:=I.hok l _ hH
 exact⟨z,its,n,r,r.length,e⟩
def kX{n:Nat}(h:n<=sizeLine):Builtin.List.listTooLong n=false:=by
 unfold Builtin.List.listTooLong
 exact FQ (by omega)
end
section
variable {X:Cx}
noncomputable def qJ:V->List V->Hp->VK->Prop:=fun x vs H Q=>∃l xs y,x = .ref l/\vs=[y]/\H l=some (.lst xs)/\xs.length < sizeLine/\Q .non (upd H l (.lst (xs++[y])))
def na:wL X "list.append" qJ:=by
 intro pins s σ H x vs v us Q I rx rv h
 obtain⟨l,xs,y,rfl,rfl,hH,hz,q⟩:=h
 cases rx
 obtain⟨u,rfl,ru⟩:=rv.one
 obtain⟨z,its,n,r,hl,e⟩:=I.AX hH
 refine HY F.slot_list_append ⟨_,e,rfl⟩ F.entry_list_append (F.args_list_append_2 _ _) (PySem.list_append l its.toArray n u (by rw[Fy];omega)) ⟨e,?_⟩
 refine⟨.non,_,I.BZ (its':=its++[u]) hH e (by simp) (r.append (.cons ru .nil)) ?_,rfl,q⟩
 rw[Fv,Gg]
 omega
noncomputable def qK:V->List V->Hp->VK->Prop:=fun x vs H Q=>∃l b xs zs,x = .ref l/\vs=[.ref b]/\H l=some (.lst xs)/\H b=some (.lst zs)/\xs.length+zs.length<=sizeLine/\Q .non (upd H l (.lst (xs++zs)))
def nb:wL X "list.extend" qK:=by
 intro pins s σ H x vs v us Q I rx rv h
 obtain⟨l,b,xs,zs,rfl,rfl,hH,hB,hz,q⟩:=h
 cases rx
 obtain⟨u,rfl,ru⟩:=rv.one
 cases ru
 obtain⟨z,its,n,r,hl,e⟩:=I.AX hH
 obtain⟨z2,its2,n2,r2,hl2,e2⟩:=I.AX hB
 have hsz:its.toArray.size+its2.toArray.size<=sizeLine:=by rw[Fy,Fy];omega
 have BE:¬(!its.toArray.isEmpty&&Builtin.List.listTooLong (its.toArray.size+its2.toArray.size))=true:=by
  rw[kX hsz,Bool.and_false]
  exact FP
 refine HY F.slot_list_extend ⟨_,e,rfl⟩ F.entry_list_extend (F.args_list_extend_2 _ _)
  (AutoSeq1.list_extend_list_list_0 l its.toArray n b its2.toArray n2 BE (by rw[Fy];omega) (by omega)) ⟨e,e2,?_⟩
 refine⟨.non,_,I.BZ (its':=its++its2) hH e (by simp) (r.append r2) ?_,rfl,q⟩
 rw[Fv]
 omega
noncomputable def xx:V->List V->Hp->VK->Prop:=fun x vs H Q=>∃l xs y,x = .ref l/\vs=[]/\H l=some (.lst xs)/\xs[xs.length - 1]?=some y/\Q y (upd H l (.lst xs.dropLast))
def tL:wL X "list.pop" xx:=by
 intro pins s σ H x vs v us Q I rx rv h
 obtain⟨l,xs,y,rfl,rfl,hH,hy,q⟩:=h
 cases rx
 have EN:=rv.zero
 subst EN
 obtain⟨z,its,n,r,hl,e⟩:=I.AX hH
 obtain⟨u,hu,ru⟩:=r.get hy
 have hy':its.toArray[its.toArray.size - 1]?=some u:=by
  show its.toArray[its.length - 1]?=some u
  rw[<-Array.getElem?_toList,<-hl]
  exact hu
 refine HY F.slot_list_pop ⟨_,e,rfl⟩ F.entry_list_pop (F.args_list_pop_1 _) (MeetsSeq.list_pop_last l its.toArray n u hy' (by rw[Fy];omega)) ⟨e,?_⟩
 refine⟨y,_,I.BZ (its':=its.dropLast) hH e ?_ r.dropLast ?_,ru,q⟩
 ·show its.toArray.eraseIdxIfInBounds (its.toArray.size - 1)=its.dropLast.toArray
  rw[Fy,HB,lR]
 ·rw[List.length_dropLast]
  omega
noncomputable def tM:V->List V->Hp->VK->Prop:=fun x vs H Q=>∃l xs i k y,x = .ref l/\vs=[.int i]/\H l=some (.lst xs)/\-(2 ^ 63)<=i/\i < 2 ^ 63/\seqIndex? i xs.length=some k/\xs[k]?=some y/\Q y (upd H l (.lst (xs.eraseIdx k)))
def ow:wL X "list.pop" tM:=by
 intro pins s σ H x vs v us Q I rx rv h
 obtain⟨l,xs,i,k,y,rfl,rfl,hH,h1,h2,hk,hy,q⟩:=h
 cases rx
 obtain⟨u,rfl,ru⟩:=rv.one
 obtain⟨t,rfl⟩:=ru
 obtain⟨z,its,n,r,hl,e⟩:=I.AX hH
 obtain⟨w,hw,rw'⟩:=r.get hy
 refine HY F.slot_list_pop ⟨_,e,rfl⟩ F.entry_list_pop (F.args_list_pop_2 _ _)
  (MeetsSeq.list_pop_at l its.toArray n i t k w (fitsIndex_both h1 h2) (by rw[Fy,<-hl];exact hk) (by rw[<-Array.getElem?_toList];exact hw) (by rw[Fy];omega)) ⟨e,?_⟩
 refine⟨y,_,I.BZ (its':=its.eraseIdx k) hH e ?_ (r.eraseIdx k) ?_,rw',q⟩
 ·show its.toArray.eraseIdxIfInBounds k=(its.eraseIdx k).toArray
  rw[HB]
 ·have:=jA xs k
  omega
def xy:R2:=fun x y H Q=>∃l b xs zs,x = .ref l/\y = .ref b/\H l=some (.lst xs)/\H b=some (.lst zs)/\xs.length+zs.length<=sizeLine/\∀p,H p=none->Q (.ref p) (upd H p (.lst (xs++zs)))
def tN:fF X (binaryOp .Add) xy:=by
 intro pins s σ H x y v u Q I rx ry h
 obtain⟨l,b,xs,zs,rfl,rfl,hH,hB,hz,q⟩:=h
 cases rx
 cases ry
 obtain⟨z,its,n,r,hl,e⟩:=I.AX hH
 obtain⟨z2,its2,n2,r2,hl2,e2⟩:=I.AX hB
 refine PySem.P.add_list e e2 ?_ (by rw[Fy,Fy];omega)
 have ea:its.toArray++its2.toArray=(its++its2).toArray:=by simp
 rw[ea]
 exact⟨.ref _,_,I.CP (t':=s.toks) (r.append r2) (by rw[Fv];omega),rfl,q _ I.fresh⟩
def xz:R2:=fun x y H Q=>∃l k xs,x = .ref l/\y = .int k/\H l=some (.lst xs)/\-(2 ^ 63)<=k/\k < 2 ^ 63/\xs.length * k.toNat<=sizeLine/\
 ∀p,H p=none->Q (.ref p) (upd H p (.lst (List.replicate k.toNat xs).flatten))
def qL{α:Type}(xs:List α)(k:Nat):(List.replicate k xs).flatten.length=k * xs.length:=by
 induction k with
 |zero=>simp
 |succ k ih=>rw[Gf,Gu,Fv,ih,Nat.succ_mul,Nat.add_comm]
def tO:fF X (binaryOp .Mult) xz:=by
 intro pins s σ H x y v u Q I rx ry h
 obtain⟨l,k,xs,rfl,rfl,hH,h1,h2,hz,q⟩:=h
 cases rx
 obtain⟨t,rfl⟩:=ry
 obtain⟨z,its,n,r,hl,e⟩:=I.AX hH
 have hlen:its.toArray.size * k.toNat<=sizeLine:=by rw[Fy,<-hl];exact hz
 have hcap:¬its.toArray.size * k.toNat > (2 ^ 63 - 1) / 8:=by
  have:(sizeLine:Nat)<=(2 ^ 63 - 1) / 8:=by decide
  omega
 have hfit:¬(!Builtin.List.listFitsIndex k)=true:=by
  rw[fitsIndex_both h1 h2]
  exact FP
 have BE:¬Builtin.List.listTooLong (its.toArray.size * k.toNat)=true:=by
  rw[kX hlen]
  exact FP
 have hnew:List.foldl (fun x1 x2=>x1++x2) #[] (List.replicate (if its.toArray.isEmpty=true then 0 else k.toNat) its.toArray)=(List.replicate k.toNat its).flatten.toArray:=by
  have f0:∀m:Nat,List.foldl (fun x1 x2=>x1++x2) #[] (List.replicate m its.toArray)=(List.replicate m its).flatten.toArray:=fun m=>by
   have:=jB its m []
   rw[List.nil_append]at this
   exact this
  rw[f0]
  cases its with
  |nil=>simp
  |cons a r'=>rw[if_neg (by simp)]
 refine wpAny_binaryOp_repeat_ref (T:="list") (U:="int") (by decide) ⟨_,e,rfl⟩ (fun s'=>typeIs_int s' k t) noFill_list_mul F.fills_int_mul F.slot_int_rmul repeat_list F.slot_int_index.lookup
  (HY F.slot_int_rmul (typeIs_int s k t) F.entry_int_rmul (F.args_int_rmul_2 _ _) (int___rmul___int_list k t l its.toArray n)
   ⟨e,rfl,⟨_,e,rfl⟩,HY F.slot_list_mul ⟨_,e,rfl⟩ F.entry_list_mul (F.args_list_mul_2 _ _) (AutoListH.list___mul___list_int_3 l its.toArray n k t hfit hcap BE) ⟨e,?_⟩⟩)
 rw[hnew]
 exact⟨.ref _,_,I.CP (t':=s.toks) (r.rep k.toNat) (by rw[qL,Nat.mul_comm];exact hz),rfl,q _ I.fresh⟩
end
section
variable {κ:Type} [DecidableEq κ]
noncomputable def e9(kvs:List (κ×V))(k:κ):Option V:=(kvs.find? fun kv=>decide (kv.1=k)).map (·.2)
noncomputable def dN(kvs:List (κ×V))(k:κ)(v:V):List (κ×V):=
 if (kvs.any fun kv=>decide (kv.1=k))=true then kvs.map (fun kv=>if kv.1=k then (kv.1,v) else kv) else kvs++[(k,v)]
def zF{p:κ×V}{r:List (κ×V)}{k:κ}(e:p.1=k):e9 (p::r) k=some p.2:=by simp[e9,List.find?_cons,e]
def zG{p:κ×V}{r:List (κ×V)}{k:κ}(e:¬p.1=k):e9 (p::r) k=e9 r k:=by simp[e9,List.find?_cons,e]
theorem iz(k:κ):∀kvs:List (κ×V),(kvs.any fun kv=>decide (kv.1=k))=(e9 kvs k).isSome
 |[]=>rfl
 |p::r=>by
  rw[HH]
  by_cases e:p.1=k
  ·simp only[zF e,Gm e,Bool.true_or,Option.isSome_some]
  ·rw[zG e,FQ e,Bool.false_or];exact iz k r
def dO(kvs:List (κ×V))(k:κ)(v:V):(dN kvs k v).length<=kvs.length+1:=by
 unfold dN
 split
 ·rw[Fx];omega
 ·rw[Fv,FG,HM];omega
def RelO.zH{o:Option V}{u:Option Value}(r:RelO o u):o.isSome=u.isSome:=by
 cases o with
 |none=>cases u with
  |none=>rfl
  |some _=>exact(show False from r).elim
 |some _=>cases u with
  |none=>exact(show False from r).elim
  |some _=>rfl
theorem RelO.getD{o:Option V}{u:Option Value}{d:V}{d':Value}(r:RelO o u)(rd:RelV d d'):RelV (o.getD d) (u.getD d'):=by
 cases o with
 |none=>cases u with
  |none=>exact rd
  |some _=>exact(show False from r).elim
 |some _=>cases u with
  |none=>exact(show False from r).elim
  |some _=>exact r
def KV.val{kvs:List (κ×V)}{vs:List (κ×Value)}(r:KV kvs vs)(k:κ):RelO (e9 kvs k) (valueAt vs k):=by
 unfold KV at r
 induction r with
 |nil=>exact True.intro
 |@cons p q ps qs h t ih=>
  obtain⟨h1,h2⟩:=h
  by_cases e:p.1=k
  ·have e':q.1=k:=h1.symm.trans e
   have b:valueAt (q::qs) k=some q.2:=by simp[valueAt,List.find?_cons,e']
   rw[zF e,b];exact h2
  ·have e':¬q.1=k:=fun z=>e (h1.trans z)
   have b:valueAt (q::qs) k=valueAt qs k:=by simp[valueAt,List.find?_cons,e']
   rw[zG e,b];exact ih
theorem KV.any{kvs:List (κ×V)}{vs:List (κ×Value)}(r:KV kvs vs)(k:κ):(kvs.any fun kv=>decide (kv.1=k))=vs.any fun kv=>decide (kv.1=k):=by
 unfold KV at r
 induction r with
 |nil=>rfl
 |cons h t ih=>rw[HH,HH,ih,h.1]
def KV.repl{kvs:List (κ×V)}{vs:List (κ×Value)}(r:KV kvs vs)(k:κ){y:V}{u:Value}(ry:RelV y u) :
  KV (kvs.map fun kv=>if kv.1=k then (kv.1,y) else kv) (vs.map fun kv=>if kv.1=k then (kv.1,u) else kv):=by
 unfold KV at r ⊢
 induction r with
 |nil=>exact .nil
 |@cons p q ps qs h t ih=>
  rw[FO,FO]
  refine .cons ?_ ih
  obtain⟨h1,h2⟩:=h
  by_cases e:p.1=k
  ·rw[if_pos e,if_pos (h1.symm.trans e)];exact⟨h1,ry⟩
  ·rw[if_neg e,if_neg (fun z=>e (h1.trans z))];exact⟨h1,h2⟩
def KV.put{kvs:List (κ×V)}{vs:List (κ×Value)}(r:KV kvs vs)(k:κ){y:V}{u:Value}(ry:RelV y u):KV (dN kvs k y) (stored vs k u):=by
 unfold dN stored
 rw[r.any k]
 by_cases e:(vs.any fun kv=>decide (kv.1=k))=true
 ·rw[if_pos e,if_pos e];exact r.repl k ry
 ·rw[if_neg e,if_neg e];exact Paired.snoc r ⟨rfl,ry⟩
theorem KV.length{kvs:List (κ×V)}{vs:List (κ×Value)}(r:KV kvs vs):kvs.length=vs.length:=Paired.length r
end
def iA{P:Program}{w:World}{k:a7}{u:Value}(r:RelV (kV k) u):(aM P w).is k u=true:=by
 cases k with
 |inl i=>obtain⟨t,e⟩:=(show ∃t,u=Value.int i t from r);subst e;exact kQ P w i t
 |inr x=>obtain⟨t,e⟩:=(show ∃t,u=Value.str x t from r);subst e;exact kR P w x t
theorem jC{P:Program}{w:World}:∀{ks:List a7} {us:Vv},Vals (ks.map kV) us->ItemsAre (aM P w) ks us
 |[],_,r=>by rw[Hv]at r;cases r;exact .nil
 |k::ks,_,r=>by
  rw[FO]at r
  cases r with
  |cons h t=>exact .cons (iA h) (jC t)
noncomputable abbrev KT(H:Hp):List (List a7×V)->List (List a7×Addr×Value)->Prop:=Paired fun p q=>p.1=q.1/\H q.2.1=some (.tup (p.1.map kV))/\RelV p.2 q.2.2
def KT.val{H:Hp}{kvs:List (List a7×V)}{xs:List (List a7×Addr×Value)}(r:KT H kvs xs)(k:List a7):RelO (e9 kvs k) ((atKey xs k).map (·.2)):=by
 induction r with
 |nil=>exact True.intro
 |@cons p q ps qs h t ih=>
  obtain⟨h1,_,h2⟩:=h
  by_cases e:p.1=k
  ·have e':q.1=k:=h1.symm.trans e
   have b:atKey (q::qs) k=some q.2:=by simp[atKey,List.find?_cons,e']
   rw[zF e,b];exact h2
  ·have e':¬q.1=k:=fun z=>e (h1.trans z)
   have b:atKey (q::qs) k=atKey qs k:=by simp[atKey,List.find?_cons,e']
   rw[zG e,b];exact ih
def KT.repl{H:Hp}{kvs:List (List a7×V)}{xs:List (List a7×Addr×Value)}(r:KT H kvs xs)(k:List a7){y:V}{u:Value}(ry:RelV y u) :
  KT H (kvs.map fun kv=>if kv.1=k then (kv.1,y) else kv) (xs.map (putAt k u)):=by
 induction r with
 |nil=>exact .nil
 |@cons p q ps qs h t ih=>
  rw[FO,FO]
  refine .cons ?_ ih
  obtain⟨h1,h2,h3⟩:=h
  unfold putAt
  by_cases e:p.1=k
  ·rw[if_pos e,if_pos (h1.symm.trans e)];exact⟨h1,h2,ry⟩
  ·rw[if_neg e,if_neg (fun z=>e (h1.trans z))];exact⟨h1,h2,h3⟩
def KT.put{H:Hp}{kvs:List (List a7×V)}{xs:List (List a7×Addr×Value)}(r:KT H kvs xs)(k:List a7){b:Addr}{y:V}{u:Value}(hb:H b=some (.tup (k.map kV)))(ry:RelV y u) :
  KT H (dN kvs k y) (storedH xs k b u):=by
 have e:(kvs.any fun kv=>decide (kv.1=k))=(atKey xs k).isSome:=by
  rw[iz,(r.val k).zH,Ib]
 unfold dN storedH
 rw[e]
 by_cases q:(atKey xs k).isSome=true
 ·rw[if_pos q,if_pos q];exact r.repl k ry
 ·rw[if_neg q,if_neg q];exact Paired.snoc r ⟨rfl,hb,ry⟩
def KT.keeps{H H':Hp}{kvs:List (List a7×V)}{xs:List (List a7×Addr×Value)}(r:KT H kvs xs)(ht:∀b ys,H b=some (.tup ys)->H' b=some (.tup ys)):KT H' kvs xs:=
 Paired.Cg r fun _ _ z=>⟨z.1,ht _ _ z.2.1,z.2.2⟩
section
variable {P:Program} {w:World} {H:Hp} {h:Heap} {a:Addr}
def sh{u:HO}(ok:z9 P w H h)(e:Rd H a u):yX P w H h a u:=e.ok ok
def jD{kvs:List (a7×V)}(ok:z9 P w H h)(e:Rd H a (.dK kvs)):kvs.length<=sizeLine/\(a == sysModules)=false/\∃vs,KV kvs vs/\h.DictOf (aM P w) a vs:=
 show yX P w H h a (.dK kvs)from sh ok e
def si{kvs:List (a7×V)}(ok:z9 P w H h)(e:H a=some (.dK kvs)):kvs.length<=sizeLine/\(a == sysModules)=false/\∃vs,KV kvs vs/\h.DictOf (aM P w) a vs:=jD ok (.inl e)
def cJ{ks:List a7}(ok:z9 P w H h)(e:H a=some (.tup (ks.map kV))):(tupleKind (aM P w)).is h ks a:=by
 obtain⟨_,its,r,o,h1,_,h2,n,h3⟩:=(show yX P w H h a (.tup (ks.map kV))from ok a _ e)
 exact⟨o,its.toArray,n,h1,h2,h3,by simpa using jC r⟩
def kY{kvs:List (List a7×V)}(ok:z9 P w H h)(e:Rd H a (.dT kvs)):kvs.length<=sizeLine/\(a == sysModules)=false/\
  ∃xs,KT H kvs xs/\h.DictOfH (tupleKind (aM P w)) a xs:=by
 obtain⟨z,y,xs,r,o,es,ep,h1,h2,h3,h4,h5⟩:=(show yX P w H h a (.dT kvs)from sh ok e)
 refine⟨z,y,xs,r,o,es,ep,h1,h2,h3,h4,fun x hx=>?_,h5⟩
 have all:∀{l:List (List a7×V)} {m:List (List a7×Addr×Value)},KT H l m->∀x∈m,(tupleKind (aM P w)).is h x.1 x.2.1:=by
  intro l m q
  induction q with
  |nil=>intro x hx;exact nomatch hx
  |@cons p q ps qs hq t ih=>
   intro x hx
   rcases FE.mp hx with e|hx
   ·subst e
    exact cJ ok (by rw[<-hq.1];exact hq.2.1)
   ·exact ih x hx
 exact all r x hx
def vT{kvs:List (List a7×V)}(ok:z9 P w H h)(e:H a=some (.dT kvs)):kvs.length<=sizeLine/\(a == sysModules)=false/\
  ∃xs,KT H kvs xs/\h.DictOfH (tupleKind (aM P w)) a xs:=kY ok (.inl e)
end
def DGet(H:Hp)(a:Addr)(y:V)(r:Option V):Prop:=
 (∃kvs k,Rd H a (.dK kvs)/\y=kV k/\r=e9 kvs k)\/∃kvs k b,Rd H a (.dT kvs)/\y = .ref b/\H b=some (.tup (k.map kV))/\r=e9 kvs k
def BF(H:Hp)(a:Addr)(y v:V)(H':Hp):Prop:=
 (∃kvs k,H a=some (.dK kvs)/\y=kV k/\kvs.length < sizeLine/\H'=upd H a (.dK (dN kvs k v))) \/
 ∃kvs k b,H a=some (.dT kvs)/\y = .ref b/\H b=some (.tup (k.map kV))/\kvs.length < sizeLine/\H'=upd H a (.dT (dN kvs k v))
theorem DGet.k{H:Hp}{a:Addr}{kvs:List (a7×V)}{k:a7}(e:H a=some (.dK kvs)):DGet H a (kV k) (e9 kvs k):=.inl ⟨kvs,k,.inl e,rfl,rfl⟩
theorem BF.k{H:Hp}{a:Addr}{kvs:List (a7×V)}{k:a7}{v:V}(e:H a=some (.dK kvs))(hl:kvs.length < sizeLine):BF H a (kV k) v (upd H a (.dK (dN kvs k v))):=.inl ⟨kvs,k,e,rfl,hl,rfl⟩
section
variable {X:Cx} {pins:Va} {σ:St} {H:Hp} {s:Shared} {a:Addr} {y v:V} {u r:Value} {o:Option V} {A:Around} {E:Vq}
def Inv.big(I:Inv X pins σ H s):sysModules < s.heap.objs.size:=by
 have h:mainGlobals < s.heap.objs.size:=(I.mod.glob.keeps I.bk).lt
 exact Ij (by decide) h
def ng{Q:Vq}(hu:A.units+1 < cLine)(I:Inv X pins σ H s)(g:DGet H a y (some v))(ry:RelV y u)(h:∀w' s',Inv X pins σ H s'->RelV v w'->Q w' s') :
  wpAny (model X.prog X.w) A (getItem (.ref a) u) Q E s:=by
 rcases g with⟨kvs,k,e,ey,l⟩|⟨kvs,k,b,e,ey,eb,l⟩
 ·subst ey
  obtain⟨z,hd,vs,rel,dd⟩:=jD I.hok e
  obtain⟨w',hw,rw'⟩:=RelO.some_of (v:=v) (o:=valueAt vs k) (by rw[l];exact rel.val k)
  exact wpAny_getItem_of (iA ry) dd.mapOf hw (h w' _ (I.tok _) rw')
 ·subst ey
  cases (show u=Value.ref b from ry)
  obtain⟨z,hd,xs,rel,dd⟩:=kY I.hok e
  obtain⟨w',hw,rw'⟩:=RelO.some_of (v:=v) (o:=(atKey xs k).map (·.2)) (by rw[l];exact rel.val k)
  obtain⟨p,hp,hp2⟩:=GG.mp hw
  refine wpAny_getItem_heap (G8 hu) (cJ I.hok eb) dd hp ?_
  rw[hp2]
  exact h w' _ (I.tok _) rw'
def vU{Q:Vq}(hu:A.units+1 < cLine)(I:Inv X pins σ H s)(g:DGet H a y o)(ry:RelV y u)(h:∀s',Inv X pins σ H s'->Q (.bool o.isSome) s') :
  wpAny (model X.prog X.w) A (compareOp .In u (.ref a)) Q E s:=by
 rcases g with⟨kvs,k,e,ey,l⟩|⟨kvs,k,b,e,ey,eb,l⟩
 ·subst ey
  obtain⟨z,hd,vs,rel,dd⟩:=jD I.hok e
  refine wpAny_in_of (iA ry) hd dd.mapOf ?_
  rw[<-(rel.val k).zH,<-l]
  exact h _ (I.tok _)
 ·subst ey
  cases (show u=Value.ref b from ry)
  obtain⟨z,hd,xs,rel,dd⟩:=kY I.hok e
  refine wpAny_in_heap (G8 hu) (cJ I.hok eb) hd dd ?_
  have q:=(rel.val k).zH
  rw[Ib]at q
  rw[<-q,<-l]
  exact h _ (I.tok _)
def mH{Q:Vq}(hu:A.units+1 < cLine)(I:Inv X pins σ H s)(g:DGet H a y o)(ry:RelV y u)(h:∀s',Inv X pins σ H s'->Q (.bool (!o.isSome)) s') :
  wpAny (model X.prog X.w) A (compareOp .NotIn u (.ref a)) Q E s:=by
 rcases g with⟨kvs,k,e,ey,l⟩|⟨kvs,k,b,e,ey,eb,l⟩
 ·subst ey
  obtain⟨z,hd,vs,rel,dd⟩:=jD I.hok e
  refine wpAny_notIn_of (iA ry) hd dd.mapOf ?_
  rw[<-(rel.val k).zH,<-l]
  exact h _ (I.tok _)
 ·subst ey
  cases (show u=Value.ref b from ry)
  obtain⟨z,hd,xs,rel,dd⟩:=kY I.hok e
  refine wpAny_notIn_heap (G8 hu) (cJ I.hok eb) hd dd ?_
  have q:=(rel.val k).zH
  rw[Ib]at q
  rw[<-q,<-l]
  exact h _ (I.tok _)
def j5{h':Heap}{t':Nat}{ob:HO}(I:Inv X pins σ H s)(mu:vj (H a))(hs:Heap.SameBut a s.heap h')(he:∃q,h'.get? a=some q)(new:yX X.prog X.w (upd H a ob) h' a ob) :
  Inv X pins σ (upd H a ob) { s with heap:=h',toks:=t' }:=
 I.write (x:=a) (e:=a) mu (.inl rfl) (fun b q hb z=>(hs.2 b hb).trans z) he new
def ox{P:Program}{w:World}{H':Hp}{h':Heap}{kvs:List (a7×V)}{vs:List (a7×Value)}(z:kvs.length<=sizeLine)(hd:(a == sysModules)=false)(rel:KV kvs vs)(dd:h'.DictOf (aM P w) a vs) :
  yX P w H' h' a (.dK kvs):=⟨z,hd,vs,rel,dd⟩
def nh{H':Hp}{Q:Unit->Shared->Prop}(hu:A.units+1 < cLine)(I:Inv X pins σ H s)(g:BF H a y v H')(ry:RelV y u)(rv:RelV v r)(h:∀s',Inv X pins σ H' s'->Q () s') :
  wpAny (model X.prog X.w) A (setItem (.ref a) u r) Q E s:=by
 rcases g with⟨kvs,k,e,ey,l,eH⟩|⟨kvs,k,b,e,ey,eb,l,eH⟩
 ·subst ey eH
  obtain⟨z,hd,vs,rel,dd⟩:=si I.hok e
  have hz:vs.length<=sizeLine:=by rw[<-rel.length];exact z
  have hl:(dN kvs k v).length<=sizeLine:=by have:=dO kvs k v;omega
  refine wpAny_setItem_pairs (hsz:=hz) (iA ry) dd fun h' Cn hs=>h _ ?_
  have he:∃q,h'.get? a=some q:=let ⟨q,_,_,hq,_⟩:=Cn;⟨q,hq⟩
  exact j5 I (by rw[e];exact True.intro) hs he (ox hl hd (rel.put k rv) Cn)
 ·subst ey eH
  cases (show u=Value.ref b from ry)
  obtain⟨z,hd,xs,rel,dd⟩:=vT I.hok e
  have hz:xs.length<=sizeLine:=by rw[<-Paired.length rel];exact z
  have hl:(dN kvs k v).length<=sizeLine:=by have:=dO kvs k v;omega
  refine wpAny_setItem_heap (hsz:=hz) (G8 hu) (cJ I.hok eb) dd fun h' Cn hs=>h _ ?_
  obtain⟨q,es,ep,hq,h2,h3,h4,_,h5⟩:=Cn
  refine j5 I (by rw[e];exact True.intro) hs ⟨q,hq⟩ ⟨hl,hd,_,(rel.put k eb rv).keeps fun c ys ec=>?_,q,es,ep,hq,h2,h3,h4,h5⟩
  rw[ay (vi ec e (fun z=>nomatch z))]
  exact ec
end
section
variable {X:Cx} {pins:Va} {σ:St} {H:Hp} {s:Shared} {a:Addr} {kvs:List (a7×V)} {k:a7} {u:Value} {A:Around} {E:Vq}
def vV{Q:Vq}(I:Inv X pins σ H s)(e:Rd H a (.dK kvs))(h:∀t s',Inv X pins σ H s'->Q (.int kvs.length t) s'):wpAny (model X.prog X.w) A (call (.builtin "len") [.ref a]) Q E s:=by
 obtain⟨z,hd,vs,rel,dd⟩:=jD I.hok e
 refine call_len_dict hd dd (by rw[<-rel.length];rw[sizeLine_eq]at z;omega) ?_
 rw[<-rel.length]
 exact h _ _ (I.tok _)
end
def kZ{X:Cx}{pins:Va}{σ:St}{H:Hp}{s:Shared}{a:Addr}{y:V}{o:Option V}(I:Inv X pins σ H s)(g:DGet H a y o):s.TypeIs (.ref a) "dict":=by
 rcases g with⟨kvs,k,e,_,_⟩|⟨kvs,k,b,e,_,_,_⟩
 ·obtain⟨_,_,vs,_,dd⟩:=jD I.hok e
  exact dd.typeIs
 ·obtain⟨_,_,xs,_,dd⟩:=kY I.hok e
  exact dd.typeIs
def oy{P:Program}{w:World}{H:Hp}(h:Heap)(hb:sysModules < h.objs.size):yX P w H (h.push { cls:=.type "dict",data:=.dict #[] }) h.objs.size (.dK []):=
 ⟨Gq _,beq_eq_false_iff_ne.mpr (G6 (FW hb)),[],.nil,Heap.DictOf.new h⟩
noncomputable def j6:List (TE×TE)->St->Hp->(List (V×V)->Hp->Prop)->Prop
 |[],_,H,Q=>Q [] H
 |(tk,tv)::r,σ,H,Q=>tk σ H fun x H1=>tv σ H1 fun y H2=>j6 r σ H2 fun ps H3=>Q ((x,y)::ps) H3
noncomputable abbrev VV:List (V×V)->List (Value×Value)->Prop:=Paired fun p q=>RelV p.1 q.1/\RelV p.2 q.2
def vW(X:Cx)(pos:Pos)(keys:List (Option Expr))(values:List Expr)(Av:List (TE×TE)):Prop:=
 ∀(pins:Va) (s:Shared) (σ:St) (H:Hp) (Q:List (V×V)->Hp->Prop),Inv X pins σ H s->j6 Av σ H Q->
  wpAny (model X.prog X.w) X.A (evalPairs (pairTrees keys values X.env pos)) (fun vs s'=>∃ps H',Inv X pins σ H' s'/\VV ps vs/\Q ps H') X.xe s
def qM{X:Cx}{pos:Pos}:vW X pos [] [] []:=fun pins s σ H Q I h=>pairTrees_nil_walk ⟨[],H,I,.nil,h⟩
def oz{X:Cx}{pos:Pos}{k v:Expr}{ks:List (Option Expr)}{vs:List Expr}{tk tv:TE}{Av:List (TE×TE)}(hk:PE X k tk)(hv:PE X v tv)(hr:vW X pos ks vs Av) :
  vW X pos (some k::ks) (v::vs) ((tk,tv)::Av):=fun pins s σ H Q I h=>
 pairTrees_cons_walk (yF (hk pins s σ H _ I h) fun u s1 ⟨x,H1,I1,rx,q1⟩=>yF (hv pins s1 σ H1 _ I1 q1) fun w2 s2 ⟨y,H2,I2,ry,q2⟩=>
  yF (hr pins s2 σ H2 _ I2 q2) fun ws s3 ⟨ps,H3,I3,rel,q3⟩=>⟨(x,y)::ps,H3,I3,.cons ⟨rx,ry⟩ rel,q3⟩)
noncomputable def gq(kvs more:List (a7×V)):List (a7×V):=more.foldl (fun acc kv=>dN acc kv.1 kv.2) kvs
def KV.merge:∀{more:List (a7×V)} {rs:List (a7×Value)} {kvs:List (a7×V)} {vs:List (a7×Value)},KV more rs->KV kvs vs->KV (gq kvs more) (merged vs rs):=by
 intro more rs kvs vs r
 unfold KV at r
 induction r generalizing kvs vs with
 |nil=>intro q;exact q
 |@cons p q ps qs h t ih=>
  intro r0
  have e:KV (dN kvs p.1 p.2) (stored vs q.1 q.2):=by
   have:=r0.put p.1 h.2
   rw[<-h.1];exact this
  exact ih e
theorem eQ:∀(more kvs:List (a7×V)),(gq kvs more).length<=kvs.length+more.length
 |[],kvs=>by show kvs.length<=kvs.length+0;omega
 |p::r,kvs=>by
  have h1:=eQ r (dN kvs p.1 p.2)
  have h2:=dO kvs p.1 p.2
  show(gq (dN kvs p.1 p.2) r).length<=_
  rw[FG];omega
theorem iB{P:Program}{w:World}:∀{kvs:List (a7×V)} {ws:List (Value×Value)},VV (kvs.map fun kv=>(kV kv.1,kv.2)) ws->∃rs,Carries (aM P w) ws rs/\KV kvs rs
 |[],_,r=>by rw[Hv]at r;cases r;exact⟨[],True.intro,.nil⟩
 |p::kvs,_,r=>by
  rw[FO]at r
  cases r with
  |@cons a b as bs h t=>
   obtain⟨rs,c,q⟩:=iB (P:=P) (w:=w) t
   obtain⟨b1,b2⟩:=b
   exact⟨(p.1,b2)::rs,⟨iA h.1,rfl,c⟩,.cons ⟨rfl,h.2⟩ q⟩
def vX(Av:List (TE×TE)):TE:=fun σ H Q=>∀p,H p=none->j6 Av σ (upd H p (.dK [])) fun ps H2=>H2 p=some (.dK [])/\∃kvs:List (a7×V),ps=kvs.map (fun kv=>(kV kv.1,kv.2))/\kvs.length<=15/\Q (.ref p) (upd H2 p (.dK (gq [] kvs)))
def qN{X:Cx}{pos:Pos}{keys:List (Option Expr)}{values:List Expr}{Av:List (TE×TE)}(h:vW X pos keys values Av)(hall:keys.all (·.isSome)=true)(hl:keys.length=values.length)(h0:keys≠[])
  (Du:keys.length<=15):PE X (.Dict keys values pos) (vX Av):=by
 intro pins s σ H Q I q
 have hn:=I.hok.fresh (Ft s.heap.objs.size)
 have I1:=I.laid (a:=s.heap.objs.size) (o:=.dK []) (h':=s.heap.push { cls:=.type "dict",data:=.dict #[] }) (t':=s.toks) (fun _ _ q=>FA _ q) (Ft _) (oy s.heap I.big)
 refine wpAny_Dict_walk (knd:=aM X.prog X.w) hall hl h0 Du (yF (h pins _ σ _ _ I1 (q _ hn)) fun ws s2 ⟨ps,H2,I2,rel,e,kvs,ep,lk,q2⟩=>?_)
 subst ep
 obtain⟨rs,c,rk⟩:=iB (P:=X.prog) (w:=X.w) rel
 obtain⟨z,hd,vs0,r0,dd⟩:=si I2.hok e
 cases r0
 refine⟨rs,c,dd,fun h' Cn hs=>⟨.ref s.heap.objs.size,_,?_,rfl,q2⟩⟩
 have hz:(gq [] kvs).length<=sizeLine:=by
  have h1:=eQ kvs []
  rw[HM]at h1
  rw[sizeLine_eq];omega
 have he:∃q,h'.get? s.heap.objs.size=some q:=let ⟨q,_,_,hq,_⟩:=Cn;⟨q,hq⟩
 exact j5 I2 (by rw[e];exact True.intro) hs he (ox hz hd (rk.merge .nil) Cn)
structure M2 (X:Cx) (o:Expr) (m:Str) (apos:Pos) (e f:Expr) (cpos:Pos):Prop where
 base:attributeBase o m X.env (eval o X.env)=eval o X.env
 few:((backTo cpos (starEach [e,f] X.env)).all (fun x=>!x.1)&&(backToKw cpos (keywordEach [] X.env)).all (fun x=>x.1.isSome)
  && decide (([e,f]:List Expr).length+([]:List Keyword).length+(if ([]:List Keyword).isEmpty then 0 else 1) < 30))=true
 line:(apos.endLine == cpos.line)=true
 trees:backTo cpos (starEach [e,f] X.env)=[(false,eval e X.env),(false,eval f X.env)]
end L2
namespace Att
open PySem PySem.W PySem.Calls PyProof.Rows
def hU{P:Params}{h:Heap}:∀(ns:Vu) (vs:Vv),WellAll P h vs (ns.map WData.int)->IntsAre vs ns:=by
 intro ns
 induction ns with
 |nil=>
  intro vs w
  rw[Hv]at w
  cases w
  exact .nil
 |cons n ns ih=>
  intro vs w
  rw[FO]at w
  cases w with
  |cons a b=>
   cases a
   exact .cons _ _ (ih _ b)
def ni{l:OpenLaw}{n:Nat}(hn:l.most=some n){P:Params}{h:Heap}{args:List WData}{vals:Vv}
  (hpre:l.row.toRowW.claim.pre args=true) (hwl:WellAll P h vals args) :
  ∃a vs ns,vals=[Value.ref a]/\args=[WData.list (ns.map WData.int)]/\h.get? a=some { cls:=.type "list",data:=.seq vs.toArray }/\IntsAre vs ns/\ns.length<=n:=by
 have hsh:WShape.hasAll [] args [.list .int]=true:=(pre_splitW hpre).1
 have hc:l.pre.holds [] { args:=args }=true:=(pre_splitW hpre).2
 obtain⟨d,r,rfl,h1,h2⟩:=hasAllW_cons hsh
 obtain rfl:=hasAllW_nil h2
 obtain⟨xs,rfl,h3⟩:=hasW_list h1
 obtain⟨ns,rfl⟩:=items_int h3
 have hlen:ns.length<=n:=by
  unfold OpenLaw.pre at hc
  have h4:(WTm.not (.lt (.lit (.int (n:Int))) (.len (.arg 0)))).holds [] { args:=[.list (ns.map .int)] }=true:=by
   have h4:=(holds_andW hc).1
   rw[hn]at h4
   exact h4
  have h5:=condW_of h4 (w_not (w_lt w_lit (w_len_list (w_arg rfl))))
  rw[Fx]at h5
  refine Nat.le_of_not_lt fun q=>?_
  have q':(n:Int) < ((ns.length:Nat):Int):=by omega
  first
   |(rw[Gm q']at h5;exact absurd h5 (by decide))
   |(simp at h5;omega)
 cases hwl with
 |cons w1 w2=>
  cases w2
  cases w1 with
  |list ho hall=>exact⟨_,_,ns,rfl,rfl,ho,hU ns _ hall,hlen⟩
def nj(l:OpenLaw)(args:List WData):l.row.toRowW.claim.post args (.bool true) args=true:=
 postW_of (r:=l.row.toRowW) (X:=(true == true))
  (show WShape.has [] (.bool true) .bool=true by first|rfl|decide|simp[WShape.has,WShape.arms,WShape.armsAll])
  (show(WTm.eq .res (.lit (.bool true))).value [] { args:=args,res:=some (.bool true),after:=args }=some (.bool (true == true))from w_eq_bool (w_res rfl) w_lit) rfl
def k4{l:OpenLaw}{n:Nat}{q:Program}{loose:Vs}{XP:(Vr)->Heap->Prop}{YP:World->Heap->Prop}{d:DefRec}
  (hn:l.most=some n) (hdf:d.params.defaults=[])
  (call:∀(w:World) (s₀ s₁:Shared) (mg mb:Vr) (fa:Addr) (o:Obj) (pm cd doc:Value) (a:Addr) (vs:Vv) (ns:Vu),
   Ground q loose [] XP w s₀ mg mb s₁.heap->YP w s₁.heap->
   s₁.heap.get? fa=some o->o.data = .func (docDef d.name d.params d.body d.scope pm cd doc)->s₁.heap.CodeRec cd d.name->mg d.name=some (.ref fa)->
   s₁.heap.get? a=some { cls:=.type "list",data:=.seq vs.toArray }->IntsAre vs ns->ns.length<=n->s₁.gens=#[]->
   codeAny (model l.prog w) callerA (.call (.ref fa) ⟨[.ref a],[]⟩) (fun r s'=>r = .ok (.ret (.bool true))/\OldK s₁.heap s'.heap/\s'.os=s₁.os/\AllBare s'.gens) s₁) :
  WalkO q loose XP YP l.row.toRowW d [] (fun f vs=>PySem.call f vs):=by
 intro w s₀ s₁ mg mb G Y fa o pm cd doc dV kV ho hd hcd hD hmg hg args vals as hpre hlay hrd hwl hlo
 obtain rfl:dV = .none:=Dflts.none hD hdf
 obtain rfl:kV = .none:=Dflts.noKw hD
 obtain⟨a,vs,ns,rfl,rfl,hobj,hints,hlen⟩:=ni hn hpre hwl
 refine enter_call (codeAny_mono (call w s₀ s₁ mg mb fa o pm cd doc a vs ns G Y ho (fd_plain hd) hcd hmg hobj hints hlen hg) fun r s' hq=>?_)
 obtain⟨rfl,h2,h3,h4⟩:=hq
 exact⟨.inl ⟨.bool true,.bool true,[],rfl,fun _=>rfl,.bool true,nj l _,fun _=>⟨List.Pairwise.nil,fun _ hm=>(nomatch hm)⟩⟩,h2,h3,h4⟩
end Att
namespace L2
open PySem PySem.Spec PyProof.Rows
theorem jE:∀{vs:Vv} {ns:Vu},IntsAre vs ns->Vals (ns.map V.int) vs
 |_,_,.nil=>.nil
 |_,_,.cons n t h=>.cons ⟨t,rfl⟩ (jE h)
def qO(H:Hp):Prop:=∀b,H b=none\/∃o xs,H b=some (.frz o (.lst xs))
def oA{P:Program}{w:World}{K:Vo}{mg mb:Vr}{CX:qf}{k:Nat}{fa a:Addr}{fd:FuncData}{x:Str}{sp:Sp}{s₁:Shared}{vs:Vv}{ns:Vu}
  (KX:K.In s₁.heap) (hns:s₁.heap.Ns mainGlobals mg) (hb:s₁.heap.Ns builtinsNs mb) (EO:∀x:Str,x ≠ "__name__"->mb x=bootBuiltins x) (hlim:s₁.heap.NoLimit) (hg:s₁.gens=#[])
  (ha:s₁.heap.get? a=some { cls:=.type "list",data:=.seq vs.toArray }) (hi:IntsAre vs ns) (hl:ns.length<=sizeLine) (hr:Room k callerA)
  (F:∀base:Heap,K.In base->base.Ns mainGlobals mg->jZ P w K mg base CX k fa fd [x] sp) (hbind:∀(s:Shared) (u:Value),BindsTo s fd ⟨[u],[]⟩ [(x,u)])
  (B7:∀H:Hp,qO H->SqL K H a (ns.map V.int)->sp [.ref a] H (fun v _=>v = .bl true) fun _ _ _=>False)
  (Dv:∀H e s',CX [] H s₁ (fun _ _ _=>False) e s'->False) :
  codeAny (model P w) callerA (.call (.ref fa) ⟨[.ref a],[]⟩) (fun r s'=>r = .ok (.ret (.bool true))/\OldK s₁.heap s'.heap/\s'.os=s₁.os/\AllBare s'.gens) s₁:=by
 have rv:=jE hi
 have Dw:=hi.length
 -- from an abstract heap in which nothing but the script may be tracked
 have core:∀H:Hp,qO H->SqL K H a (ns.map V.int)->z9 P w H s₁.heap->(∀b,H b≠none->b=a)->(H a≠none->K.lookup a=none)->
   codeAny (model P w) callerA (.call (.ref fa) ⟨[.ref a],[]⟩) (fun r s'=>r = .ok (.ret (.bool true))/\OldK s₁.heap s'.heap/\s'.os=s₁.os/\AllBare s'.gens) s₁:=by
  intro H hO hS hok hA hK
  have Bp:∀{b:Addr} {o:Obj},s₁.heap.get? b=some o->H b=none->(jY s₁.heap H).get? b=some o:=fun e n=>n9 e n
  have CO:∀{b:Addr} {o:Obj} {es:Array DictEntry} {ep:Nat},s₁.heap.get? b=some o->o.data = .dict es ep->H b=none:=fun{b o es ep} e d=>by
   cases q:H b with
   |none=>rfl
   |some u=>
    have e':b=a:=hA b (by rw[q];simp)
    subst e'
    rw[ha]at e;cases e
    have d':Data.seq vs.toArray _=Data.dict es ep:=d
    cases d'
  have C5:∀{b:Addr} {m:Vr},s₁.heap.Ns b m->(jY s₁.heap H).Ns b m:=fun{b m} ⟨o,es,ep,e,d,r⟩=>⟨o,es,ep,Bp e (CO e d),d,r⟩
  have El:K.In (jY s₁.heap H):=fun b o e=>Bp (KX b o e) (by
   cases q:H b with
   |none=>rfl
   |some u=>
    have e':b=a:=hA b (by rw[q];simp)
    subst e'
    rw[hK (by rw[q];simp)]at e;cases e)
  have hM:Mod K mg (jY s₁.heap H):=⟨El,C5 hns,⟨mb,C5 hb,EO⟩,let ⟨mc,h1,h2⟩:=hlim;⟨mc,C5 h1,h2⟩⟩
  have e0:qC P w K mg (jY s₁.heap H) callerA [] s₁ H:=⟨rfl,hM,fun b o e=>qi e,Nat.le_of_eq (mZ _ _),trivial,fun b hb=>absurd (show b∈([]:List Addr)from hb) (by simp),hok,.of_eq hg⟩
  refine codeAny_mono ((F _ El (C5 hns)).run callerA [] s₁ H ⟨[.ref a],[]⟩ [.ref a] [.ref a] _ _ hr e0 (hbind s₁ (.ref a)) (.cons rfl .nil) (B7 H hO hS)) fun r s' h=>?_
  cases r with
  |error e=>exact(Dv H e s' h).elim
  |ok fl=>
   cases fl with
   |next=>exact False.elim h
   |brk=>exact False.elim h
   |cont=>exact False.elim h
   |ret u=>
    obtain⟨v,H',os,bare,un,Dx,r',q⟩:=h
    have q':v = .bl true:=q
    subst q'
    obtain rfl:u=Value.bool true:=r'
    refine⟨rfl,OldK.of_keep fun b o e=>?_,os,bare⟩
    cases q:H b with
    |none=>exact un.keep b o e q (by intro z;exact absurd (show b∈([]:List Addr)from z) (by simp)) (by simp)
    |some u=>
     rcases hO b with z|⟨ob,xs,z⟩
     ·rw[q]at z;cases z
     ·have z2:=un.AH b ob _ z
      obtain⟨e1,_⟩:=hok b _ z
      obtain⟨e2,_⟩:=Dx b _ z2
      rw[e]at e1;cases e1
      exact e2
 cases hk:K.lookup a with
 |some o=>
  -- the script is one of the module's own objects
  have e:=KX a o hk
  rw[ha]at e
  cases e
  refine core (fun _=>none) (fun _=>.inl rfl) (.inr ⟨_,vs.toArray,_,hk,rfl,rfl,rfl,by rw[Fy,Dw];exact hl,by simpa using rv⟩) (fun b u z=>by have z':(none:Option HO)=some u:=z;cases z') (fun b z=>absurd rfl z) fun z=>absurd rfl z
 |none=>
  refine core (fun b=>if b=a then some (.frz { cls:=.type "list",data:=.seq vs.toArray } (.lst (ns.map V.int))) else none) (fun b=>?_) (.inl (.inr ⟨{ cls:=.type "list",data:=.seq vs.toArray },if_pos rfl⟩)) (fun b u z=>?_) (fun b z=>?_) fun _=>hk
  ·by_cases hb:b=a
   ·exact .inr ⟨_,_,if_pos hb⟩
   ·exact .inl (if_neg hb)
  ·by_cases hb:b=a
   ·have z':=(if_pos hb).symm.trans z
    cases z'
    subst hb
    exact⟨ha,by rw[Fx];exact hl,vs,_,rv,ha⟩
   ·have z':=(if_neg hb).symm.trans z
    cases z'
  ·by_cases hb:b=a
   ·exact hb
   ·exact absurd (if_neg hb) z
def qP{l:PySem.W.OpenLaw}{n k:Nat}{q:Program}{loose:Vs}{XP:(Vr)->Heap->Prop}{YP:World->Heap->Prop}{d:DefRec}{K:Params->PySem.W.Frag}{CX:World->qf}{sp:World->Sp}{x:Str}
  (hn:l.most=some n) (hn2:n<=sizeLine) (hdf:d.params.defaults=[]) (hr:Room k callerA)
  (hY:∀(w:World) (h:Heap),YP w h->(K w.params).In h)
  (F:∀(w:World) (mg:Vr) (fa:Addr) (h:Heap),(K w.params).In h->h.Ns mainGlobals mg->mg d.name=some (.ref fa)->
   ∃fd:FuncData,(∀(s:Shared) (u:Value),BindsTo s fd ⟨[u],[]⟩ [(x,u)])/\
    ∀base:Heap,(K w.params).In base->base.Ns mainGlobals mg->jZ l.prog w (K w.params) mg base (CX w) k fa fd [x] (sp w))
  (B7:∀(w:World) (H:Hp) (a:Addr) (ns:Vu),ns.length<=n->qO H->SqL (K w.params) H a (ns.map V.int)->sp w [.ref a] H (fun v _=>v = .bl true) fun _ _ _=>False)
  (Dv:∀(w:World) (H:Hp) (s:Shared) (e:Value) (s':Shared),CX w [] H s (fun _ _ _=>False) e s'->False) :
  PySem.W.WalkO q loose XP YP l.row.toRowW d [] (fun f vs=>PySem.call f vs):=by
 refine Att.k4 hn hdf fun w s₀ s₁ mg mb fa o pm cd doc a vs ns G Y ho hd hcd hmg hobj hints hlen hg=>?_
 have KX:=hY w _ Y
 obtain⟨fd,hb,hF⟩:=F w mg fa _ KX G.T.g hmg
 exact oA KX G.T.g G.T.b G.T.builtins G.T.nolimit hg hobj hints (FI hlen hn2) hr hF hb (fun H hO hS=>B7 w H a ns hlen hO hS) fun H e s'=>Dv w H s₁ e s'
noncomputable def cz(s:Stmt):Arguments:=match s with
 | .FunctionDef _ a _ _ _ _ _ _ _ _=>a
 |_=>{ posonlyargs:=[],args:=[],vararg:=none,kwonlyargs:=[],kw_defaults:=[],kwarg:=none,defaults:=[] }
noncomputable def bu(s:Stmt):List Stmt:=match s with
 | .FunctionDef _ _ b _ _ _ _ _ _ _=>b
 |_=>[]
noncomputable def aN(s:Stmt):Scope:=match s with
 | .FunctionDef _ _ _ _ _ _ sc _ _ _=>sc
 |_=>{ kind:=.function,names:=[],isGenerator:=false,isCoroutine:=false }
noncomputable abbrev sj:qf:=fun _ _ _ _ _ _=>False
noncomputable abbrev E0:XK:=fun _ _ _=>False
def vY{X:Cx}:lL sj X E0:=fun _ _ _ _ _ _ _ h=>h.elim
structure B8 (K:Vo) (x qual:Str) (st:Stmt) (f:Addr) (fd:FuncData):Prop where
 ex:∃(oc:Value) (od:Option Addr) (kV doc pm:Value) (an:Option Addr) (cdv ct:Value) (osl:Array (Option Value)),
  fd=PySem.W.fnOf x qual (cz st) (bu st) (aN st) .none kV doc pm an cdv ct/\K.lookup f=some ⟨oc,od,.func fd,osl⟩/\PySem.W.codeIn K cdv qual=true
 kp:PySem.W.keepIn K (.ref f)=true
section
variable {P:Program} {w:World} {K:Vo} {mg:Vr} {base:Heap}
def B8.ok{x qual:Str}{st:Stmt}{f:Addr}{fd:FuncData}{N ps:Vs}{k:Nat}{sp:Sp}(F:B8 K x qual st f fd)(S:eu N ps (aN st))(len:∀vs H Q E,sp vs H Q E->vs.length=ps.length)
  (hbody:∀(cdv:Value) (A:Around) (outer:List Env) (s:Shared) (H:Hp) (vs:List V) (Q:VK) (E:XK),Room k (A.deeper (envOfC qual (aN st) s.heap.objs.size f cdv))->sp vs H Q E->
   ∃t,Ba (lM sj P w K mg base N qual (aN st) f cdv A outer s H E).CN (bu st) t/\t { nx:=fun _ H'=>Q .non H',rt:=Q } (dM N vs) H):jZ P w K mg base sj (k+1) f fd ps sp:=by
 obtain⟨oc,od,kV,doc,pm,an,cdv,ct,osl,rfl,lk,hcd⟩:=F.ex
 refine vM lk hcd S len fun A outer s H vs Q E hr B7=>?_
 obtain⟨t,h,q⟩:=hbody cdv A outer s H vs Q E hr B7
 exact⟨t,h.CN,q⟩
def B8.binds{x qual:Str}{st:Stmt}{f:Addr}{fd:FuncData}{ps:Vs}(F:B8 K x qual st f fd)
  (h:∀(kV doc pm:Value) (an:Option Addr) (cdv ct:Value) (us:Vv),us.length=ps.length->bindArgs (PySem.W.fnOf x qual (cz st) (bu st) (aN st) .none kV doc pm an cdv ct) ⟨us,[]⟩=pure (ps.zip us)):Binds K fd ps []:=by
 obtain⟨oc,od,kV,doc,pm,an,cdv,ct,osl,rfl,lk,hcd⟩:=F.ex
 exact .all (h kV doc pm an cdv ct)
def j7{x qual:Str}{st:Stmt}{f:Addr}{oc:Value}{od an:Option Addr}{osl:Array (Option Value)}{kV doc pm cdv ct:Value}(l:K.lookup f=some ⟨oc,od,.func (PySem.W.fnOf x qual (cz st) (bu st) (aN st) .none kV doc pm an cdv ct),osl⟩)
  (c:PySem.W.codeIn K cdv qual=true) (k:PySem.W.keepIn K (.ref f)=true):B8 K x qual st f (PySem.W.fnOf x qual (cz st) (bu st) (aN st) .none kV doc pm an cdv ct):=⟨⟨oc,od,kV,doc,pm,an,cdv,ct,osl,rfl,l,c⟩,k⟩
end
def cR{n:Nat}(h:n<=1000):n < sizeLine:=Nat.lt_of_le_of_lt h (by decide)
section
variable {X:Cx}
def nk:eN X (.builtin "len") (fun xs H Q=>∃a kvs,xs=[V.ref a]/\H a=some (.dK kvs)/\Q (.int kvs.length) H):=by
 intro pins s σ H xs us Q I r h
 obtain⟨a,kvs,rfl,ha,q⟩:=h
 obtain⟨u,rfl,ru⟩:=eO r
 cases ru
 exact vV I (.inl ha) fun t s' I'=>⟨.int kvs.length,H,I',⟨t,rfl⟩,q⟩
end
end L2
set_option maxHeartbeats 4000000
namespace L2
open PySem PySem.Spec PyProof.Rows
def j8{prog:Program}{w:World}{A:Around}{R:Result->Shared->Prop}{s:Shared}{elt target iter:Expr}{ifs:List Expr}{scope:Scope}{pos:Pos}{it acc:Value}{env:Env}(I:Nat->Shared->Prop)
  (turn:∀n s,I n s->wpAny (model prog w) A (pyNext it) (fun r s₁=>match r with
   |none=>R (.ok .next) s₁
   |some v=>wpAny (model prog w) A (letOwnedTupleGo target it v) (fun _ s₁'=>wpAny (model prog w) A (assign target env v) (fun _ s₂=>
     wpAny (model prog w) A (forIn ifs true fun c r=>if r=true then do let ok <-isTrue c env (eval c env);pure (ForInStep.yield ok) else pure (ForInStep.yield r)) (fun ok s₃=>
      if ok=true then wpAny (model prog w) A (eval elt env) (fun x s₄=>
       wpAny (model prog w) A (call (.builtin "list.append") [acc,x]) (fun _ s₅=>∃m,m < n/\I m s₅) (fun _ _=>False) s₄) (fun _ _=>False) s₃
      else ∃m,m < n/\I m s₃) (fun _ _=>False) s₂) (fun _ _=>False) s₁') (fun _ _=>False) s₁) (fun _ _=>False) s)
  (n:Nat) (h:I n s) :
  codeAny (model prog w) A (.compLoop (.ListComp elt [⟨target,iter,ifs,0⟩] scope pos) 0 it acc env) R s:=by
 refine codeAny_loop rfl I (fun n s hI=>?_) n h
 show wpAny _ A ((compTurn (.ListComp elt [⟨target,iter,ifs,0⟩] scope pos) 0 it acc env).onRaise (fun x=>do noteFrame x env;theTreesLotGoes x)) _ _ s
 refine wpAny_noted ?_
 rw[compTurn_list]
 refine Fw (wpAny_standAt (Fw (GW (turn n s hI) (fun r s₁ h₁=>?_) fun _ _ h'=>h'.elim)))
 cases r with
 |none=>exact FJ h₁
 |some v=>
  refine Fw (GW h₁ (fun _ s₁' h₁'=>?_) fun _ _ h'=>h'.elim)
  refine Fw (GW h₁' (fun _ s₂ h₂=>Fw (GW h₂ (fun ok s₃ h₃=>?_) fun _ _ h'=>h'.elim)) fun _ _ h'=>h'.elim)
  cases ok with
  |false=>exact FJ ⟨rfl,h₃⟩
  |true=>
   exact Fw (Fw (GW h₃ (fun x s₄ h₄=>Fw (GW h₄ (fun _ s₅ h₅=>FJ (FJ ⟨rfl,h₅⟩)) fun _ _ h'=>h'.elim)) fun _ _ h'=>h'.elim))
structure Bk where
 C:Addr
 s:Shared
 H:Hp
 fp:List Addr
 pn:Va
noncomputable def bT(env:Env)(fs:Vs):List (Str×Addr):=fs.map fun x=>(x,(env.cells.lookup x).getD 0)
noncomputable abbrev Cx.z6(X:Cx)(N:Vs)(scope:Scope)(fs:Vs)(B:Bk):Cx:=
 { X with N:=N,s₀:=B.s,H₀:=B.H,env:=compEnvC scope (bT X.env fs) B.C X.env,outer:=X.stack,ex:=B.fp,fn:=fun _=>false,pn:=B.pn,xe:=fun _ _=>False }
noncomputable def bK(env:Env):List Str->Prop
 |[]=>True
 |x::r=>(∃c,env.cells.lookup x=some c)/\bK env r
theorem gU{env:Env}:∀{fs:Vs},bK env fs->∀{x:Str} {c:Addr},(bT env fs).lookup x=some c->env.cells.lookup x=some c
 |[],_,x,c,h=>by cases h
 |y::r,k,x,c,h=>by
  obtain⟨⟨d,hd⟩,k⟩:=k
  have h':List.lookup x ((y,(env.cells.lookup y).getD 0)::bT env r)=some c:=h
  rw[List.lookup_cons]at h'
  cases e:x == y with
  |true=>
   rw[e]at h'
   have e':x=y:=by simpa using e
   subst e'
   rw[hd]at h'
   rw[hd]
   exact h'
  |false=>
   rw[e]at h'
   exact gU k h'
noncomputable def j9(names:List (Str×NameKind))(cl:List (Str×Addr)):Bool:=names.all fun y=>(y.2 != .cell&&y.2 != .free) || (cl.lookup y.1).isSome
def oB{names:List (Str×NameKind)}{cl:List (Str×Addr)}{x:Str}{k:NameKind}(h:j9 names cl=true)(e:names.lookup x=some k)(hk:k = .cell\/k = .free):∃c,cl.lookup x=some c:=by
 have hm:(x,k)∈names:=GF e
 have q:=Gz.mp h _ hm
 have z:(cl.lookup x).isSome=true:=by
  rcases hk with rfl|rfl
  ·simpa using q
  ·simpa using q
 exact Option.isSome_iff_exists.mp z
noncomputable def zg(env:Env)(scope:Scope)(cl:List (Str×Addr)):List Str->Prop
 |[]=>True
 |x::r=>((env.scope.names.lookup x=some .cell\/env.scope.names.lookup x=some .free)/\((relabel scope env).names.lookup x=some .cell\/(relabel scope env).names.lookup x=some .free)/\cl.lookup x=env.cells.lookup x)/\zg env scope cl r
theorem zg.mem{env:Env}{scope:Scope}{cl:List (Str×Addr)}:∀{l:Vs},zg env scope cl l->∀x∈l,
  (env.scope.names.lookup x=some .cell\/env.scope.names.lookup x=some .free)/\((relabel scope env).names.lookup x=some .cell\/(relabel scope env).names.lookup x=some .free)/\cl.lookup x=env.cells.lookup x
 |[],_,x,h=>nomatch h
 |y::r,k,x,h=>by
  rcases FE.mp h with rfl|h
  ·exact k.1
  ·exact zg.mem k.2 x h
noncomputable def cS(own:Nat)(fr:List Nat)(σ:St):St:=List.replicate own none++fr.map fun j=>(σ[j]?).getD none
noncomputable abbrev gr(us:Vv):Obj:={ cls:=.type "list",data:=.seq us.toArray us.length }
def nl(us:Vv)(u:Value):({ cls:=.type "list",data:=.seq (us.toArray.push u) (us.length+1) }:Obj)=gr (us++[u]):=by
 show({ cls:=.type "list",data:=.seq (us.toArray.push u) (us.length+1) }:Obj)={ cls:=.type "list",data:=.seq (us++[u]).toArray (us++[u]).length }
 rw[Fv,Gg,List.push_toArray]
section
variable {X:Cx} {pins:Va} {σ:St} {H:Hp} {s:Shared}
def Inv.CQ{D:Addr}{us:Vv}{n:Nat}{ys:List V}(I:Inv X pins σ H s)(f:dL X pins H D)(e:s.heap.get? D=some { cls:=.type "list",data:=.seq us.toArray n })(r:Vals ys us)(hz:ys.length<=sizeLine) :
  Inv X pins σ (upd H D (.lst ys)) s:=by
 obtain⟨f0,f1,f2,f3,f4,f5⟩:=f
 have nD:∀b u,H b=some u->b≠D:=fun b u q=>aU q f0
 have hok:z9 X.prog X.w (upd H D (.lst ys)) s.heap:=fun b u q=>by
  by_cases hb:b=D
  ·subst hb
   rw[aB]at q
   cases q
   exact⟨hz,us,n,r,e⟩
  ·rw[ay hb]at q
   exact(I.hok b u q).stay (fun _ _ _ z=>z) (fun c z=>by rw[ay (nD c _ z)];exact z) fun c xs z=>by rw[ay (nD c _ z)];exact z
 exact I.step (H':=upd H D (.lst ys)) (h':=s.heap) (g':=s.gens) (t':=s.toks) (d':=s.drawn) (ch:=[D])
  (fun b hb=>by
   have z:b=D:=by simpa using hb
   subst z
   exact⟨f3,f1,f4,f5⟩)
  (fun _ _ _ _ _ q _=>q) (fun _ o _ _ _ q _=>⟨o.slots,q⟩)
  (fun b o hb _ n=>by rw[ay (fun z=>hb (by simp[z]))];exact n)
  (fun _ o _ q=>⟨o,q⟩) (fun b xs q=>by rw[ay (nD b _ q)];exact q) (fun b o u q=>by rw[ay (nD b _ q)];exact q)
  (fun b ps q=>⟨#[],by rw[ay (nD b _ q),q];simp⟩) (fun _ q=>q) hok I.bare
def tP{N:Vs}{scope:Scope}{fs:Vs}{C:Addr}{fp:List Addr}(I:Inv X pins σ H s)(hkind:scope.kind = .function)(hC:s.heap.objs.size<=C)(hcl:bK X.env fs)
  (hhas:j9 (relabel scope X.env).names (bT X.env fs)=true) (hf:∀b∈fp,dL X pins H b) (hlt:∀b∈fp,b < s.heap.objs.size):(X.z6 N scope fs ⟨C,s,H,fp,X.pn++pins⟩).Ok where
 mod:=I.ok.mod
 kind:=hkind
 glob:=I.ok.glob
 blt:=I.ok.blt
 above:=hC
 inj:=fun x y c h1 h2=>I.ok.inj x y c (gU hcl h1) (gU hcl h2)
 has:=fun x hx=>by
  rcases hx with e|e
  ·exact oB hhas e (.inl rfl)
  ·exact oB hhas e (.inr rfl)
 CD:=fun x c h=>by cases h
 hd:=I.ok.hd
 frames:=I.ok.frames
 stk:=.inl rfl
 Dl:=fun b hb=>⟨FW (FL (hlt b hb) hC),fun x c e=>(hf b hb).2.2.2.2.1 x c (gU hcl e)⟩
 bs:=I.bs
 BV:=FI I.ok.BV I.sz
 Bu:=fun b o e hb=>(hf b hb).2.2.2.1.elim (fun z=>I.ok.Bu b o e z) fun z=>absurd (FL (FD e) (FI I.ok.BV z)) (GA _)
 BD:=fun b hb z=>(FE.mp (I.Al b z)).elim (hf b hb).2.1 (hf b hb).2.2.1
 At:=I.stack
 Ci:=I.Bn
def qQ{N:Vs}{scope:Scope}{fs:Vs}{C D:Addr}{fp:List Addr}{own:Nat}{fr:List Nat}{h₁:Heap}{m0:Vr}{t':Nat}(I:Inv X pins σ H s)
  (ok:(X.z6 N scope fs ⟨C,s,H,fp,X.pn++pins⟩).Ok) (hC:s.heap.objs.size<=C) (hD:s.heap.objs.size<=D) (hDC:D≠C) (hcl:bK X.env fs)
  (old:∀b o,s.heap.get? b=some o->h₁.get? b=some o) (hns:h₁.Ns C m0) (hacc:h₁.get? D=some (gr [])) (hlen:N.length=own+fr.length) (hN:(N.drop own).map some=fr.map fun j=>X.N[j]?)
  (hF:zg X.env scope (bT X.env fs) (N.drop own)) :
  Inv (X.z6 N scope fs ⟨C,s,H,fp,X.pn++pins⟩) [(D,gr [])] (cS own fr σ) H { s with heap:=h₁,toks:=t' }:=by
 refine⟨ok,rfl,I.bare,Un.kept old,⟨m0,hns,fun i x v e1 e2 e3=>?_⟩,fun x c e=>?_,I.hok.fresh hC,fun x c e=>I.zT x c (gU hcl e),fun p hp=>?_,I.hok.kept old,?_⟩
 ·have e1:N[i]?=some x:=e1
  by_cases hi:i < own
  ·unfold cS at e2
   rw[F3 (by rw[Gk];exact hi),GB,if_pos hi]at e2
   cases e2
  ·obtain⟨k,rfl⟩:∃k,i=own+k:=⟨i - own,by omega⟩
   have e1':(N.drop own)[k]?=some x:=by rw[List.getElem?_drop];exact e1
   have q:=F5 (fun l=>l[k]?) hN
   simp only[FY,e1',Option.map_some]at q
   unfold cS at e2
   rw[F9 (by rw[Gk];omega),Gk,Hh,FY]at e2
   cases hj:fr[k]? with
   |none=>rw[hj]at e2;cases e2
   |some j=>
    rw[hj]at e2 q
    simp only[Option.map_some,Ic]at e2 q
    have hσ:σ[j]?=some (some v):=by
     cases z:σ[j]? with
     |none=>rw[z]at e2;cases e2
     |some w=>rw[z]at e2;simp only[Option.getD_some]at e2;rw[e2]
    obtain⟨k1,k2,k3⟩:=hF.mem x (Gh e1')
    obtain⟨m,hn,hl⟩:=I.loc
    have vis:wF X.env.scope x:=by
     rcases k1 with z|z
     ·exact .inr (.inl z)
     ·exact .inr (.inr z)
    obtain⟨u,ru,l⟩:=hl j x v q.symm hσ vis
    rcases l with⟨hk,_⟩|⟨_,c,hc,o,ho,hd⟩
    ·have hk':X.env.scope.names.lookup x=some .local:=hk
     rcases k1 with z|z
     ·rw[z]at hk';cases hk'
     ·rw[z]at hk';cases hk'
    ·exact⟨u,ru,.inr ⟨k2,c,k3.trans hc,o,old _ _ ho,hd⟩⟩
 ·obtain⟨v,o,ho,hd⟩:=I.cell x c (gU hcl e)
  exact⟨v,o,old _ _ ho,hd⟩
 ·rcases F4.mp hp with z|z
  ·obtain⟨e,n,ne,nf,d⟩:=I.pin p z
   exact⟨old _ _ e,n,FW (FL (FD e) hC),fun q=>(FE.mp (I.Al _ q)).elim ne nf,d⟩
  ·have z':p=(D,gr []):=by simpa using z
   subst z'
   exact⟨hacc,I.hok.fresh hD,hDC,fun q=>(FE.mp (I.Al _ q)).elim (fun e=>absurd e (Ii (FL I.lt hD))) (I.CJ hD),fun v z=>by cases z⟩
 ·show(cS own fr σ).length=N.length
  unfold cS
  rw[Fv,Gk,Fx,hlen]
end
def PF(X:Cx)(ifs:List Expr)(t:TT):Prop:=
 ∀(pins:Va) (s:Shared) (σ:St) (H:Hp) (Q:Bool->Hp->Prop),Inv X pins σ H s->t σ H Q->
  wpAny (model X.prog X.w) X.A (forIn ifs true fun c r=>if r=true then do let ok <-isTrue c X.env (eval c X.env);pure (ForInStep.yield ok) else pure (ForInStep.yield r)) (TP X pins σ Q) X.xe s
def xA:TT:=fun _ H Q=>Q true H
def tQ{X:Cx}:PF X [] xA:=fun _ _ _ H _ I h=>wpAny_tests_nil ⟨H,I,h⟩
def tR{X:Cx}{c:Expr}{t:TT}(h:PT X c t):PF X [c] t:=fun pins s σ H Q I q=>wpAny_tests_one (h pins s σ H Q I q)
def sk(J:It)(g:TG)(tc:TT)(te:TE)(own:Nat)(σ':St)(fin:List V->Hp->Prop)(H1:Hp):Prop:=
 ∃W:Nat->Nat->List V->Hp->Prop,(∃m,W 0 m [] H1)/\∀i m ys H,W i m ys H->
  (J.stop i H/\ys.length<=sizeLine/\fin ys H) \/
  (J.go i H/\ys.length<=sizeLine/\∃Nx:List V->Hp->Prop,(∀ys' H',Nx ys' H'->∃m',m' < m/\W (i+1) m' ys' H')/\∀x H',J.C4 i H x H'->g x σ' H' fun σ2 H2=>σ2.drop own=σ'.drop own/\tc σ2 H2 fun b H3=>
   if b=true then te σ2 H3 fun y H4=>Nx (ys++[y]) H4 else Nx ys H3)
section
variable {X:Cx} {pins:Va} {σ:St} {H:Hp} {s:Shared}
variable {elt iter tg:Expr} {ifs:List Expr} {scope:Scope} {pos:Pos} {N:Vs} {own:Nat} {fr:List Nat} {fs:Vs} {g:TG} {tc:TT} {te:TE}
def iC{J:It}{fp:List Addr}{it:Addr}{tn:Nat->Heap->Prop}{fin:List V->Hp->Prop}{E:Vq}{RR:Value->Addr->Result->Shared->Prop}
  (hc:X.calm=true) (hcell:∀y∈scope.names,y.2 ≠ .cell) (hkind:scope.kind = .function) (hcl:bK X.env fs) (hhas:j9 (relabel scope X.env).names (bT X.env fs)=true)
  (hlen:N.length=own+fr.length) (hN:(N.drop own).map some=fr.map fun j=>X.N[j]?) (hF:zg X.env scope (bT X.env fs) (N.drop own))
  (hg:∀B,PG (X.z6 N scope fs B) tg g) (hf:∀B,PF (X.z6 N scope fs B) ifs tc) (he:∀B,PE (X.z6 N scope fs B) elt te)
  (I:Inv X pins σ H s) (T:kU X.prog X.w X.K tg J fp it tn) (st:tn 0 s.heap) (f:∀b∈fp,dL X pins H b) (W:sk J g tc te own (cS own fr σ) fin H)
  (hRR:∀D C s' ys H' m',Inv X pins σ (upd H' D (.lst ys)) s'->H' D=none->s'.heap.Ns C m'->dL X pins (upd H' D (.lst ys)) C->fin ys H'->RR (.ref D) C (.ok .next) s') :
  wpAny (model X.prog X.w) X.A (newList []) (fun acc s₃=>wpAny (model X.prog X.w) X.A (newFunctionEnv scope X.env.globals (bT X.env fs) [] X.env.qual none .none (some X.env)) (fun cenv s₄=>
   codeAny (model X.prog X.w) X.A (.compStart (.ListComp elt [⟨tg,iter,ifs,0⟩] scope pos) 0 (.ref it) acc { cenv with scope:=relabel scope X.env }) (RR acc cenv.locals) s₄) E s₃) E s:=by
 refine Gs (wpAny_newFunctionEnv hcell (by intro y hy;simp at hy) (fun h₁ Co B1=>?_) hkind)
 dsimp only at Co B1 ⊢
 generalize Dy:s.heap.push { cls:=.type "list",dict:=none,data:=.seq ([]:Vv).toArray }=H2 at Co B1 ⊢
 have hC:H2.objs.size=s.heap.objs.size+1:=by rw[<-Dy,Heap.size_push]
 have Cp:s.heap.objs.size<=H2.objs.size:=by rw[hC];exact Nat.le_succ _
 have hDC:s.heap.objs.size≠H2.objs.size:=by rw[hC];exact FW (Nat.lt_succ_self _)
 have below:∀b,b < s.heap.objs.size->b≠H2.objs.size/\b≠s.heap.objs.size:=fun b hb=>⟨by rw[hC];exact FW (Nat.lt_succ_of_lt hb),FW hb⟩
 have old:∀b o,s.heap.get? b=some o->h₁.get? b=some o:=fun b o e=>B1.extBut b o (below b (FD e)).1 (FA _ (Dy▸FA _ e))
 have hacc:h₁.get? s.heap.objs.size=some (gr []):=B1.extBut _ _ hDC (FA _ (Dy▸FT _ rfl))
 have hlt:∀b∈fp,b < s.heap.objs.size:=fun b hb=>by
  obtain⟨o,e,_⟩:=T.obj 0 _ st b hb
  exact FD e
 obtain⟨Wv,⟨m0,w0⟩,turn⟩:=W
 have ok:=tP (N:=N) I hkind Cp hcl hhas f hlt
 have loop:∀s₃:Shared,s₃={ s with heap:=h₁,toks:=s.toks+([]:List (Str×Value)).length }->
   codeAny (model X.prog X.w) X.A (.compLoop (.ListComp elt [⟨tg,iter,ifs,0⟩] scope pos) 0 (.ref it) (.ref s.heap.objs.size) (compEnvC scope (bT X.env fs) H2.objs.size X.env))
    (RR (.ref s.heap.objs.size) H2.objs.size) s₃:=by
  rintro s₃ rfl
  have I0:=qQ (own:=own) (fr:=fr) (t':=s.toks+([]:List (Str×Value)).length) I ok Cp (Ft _) hDC hcl old Co hacc hlen hN hF
  have EQ:tn 0 h₁:=T.keep 0 _ _ st fun b _ o e=>old b o e
  have stat:∀{us:Vv} {H':Hp},(∀b∈fp,H' b=none)->∀b∈fp,dL (X.z6 N scope fs ⟨H2.objs.size,s,H,fp,X.pn++pins⟩) [(s.heap.objs.size,gr us)] H' b:=fun{us H'} hn b hb=>by
   obtain⟨f0,f1,f2,f3,f4,f5⟩:=f b hb
   refine⟨hn b hb,(below b (hlt b hb)).1,fun z=>(FE.mp (I.Al b z)).elim f1 f2,.inl hb,fun x c e=>f4 x c (gU hcl e),fun p hp=>?_⟩
   rcases F4.mp hp with z|z
   ·exact f5 p z
   ·have z':p=(s.heap.objs.size,gr us):=by simpa using z
    subst z'
    exact G6 (below b (hlt b hb)).2
  have Dz:∀p∈X.pn++pins,p.1 < s.heap.objs.size:=fun p hp=>FD (I.pin p hp).1
  refine j8 (fun k s'=>∃i ys us H',Inv (X.z6 N scope fs ⟨H2.objs.size,s,H,fp,X.pn++pins⟩) [(s.heap.objs.size,gr us)] (cS own fr σ) H' s'/\Vals ys us/\tn i s'.heap/\(∀b∈fp,H' b=none)/\Wv i k ys H') ?_ m0
   ⟨0,[],[],H,I0,.nil,EQ,fun b hb=>(f b hb).1,w0⟩
  rintro n s' ⟨i,ys,us,H',I',rv,st',Em,w'⟩
  rcases turn i n ys H' w' with⟨stop,hz,DA⟩|⟨go,hz,Nx,En,step⟩
  ·refine yF (T.done (X.z6 N scope fs ⟨H2.objs.size,s,H,fp,X.pn++pins⟩) rfl rfl rfl hc i _ s' _ H' (fun _ _=>False) I' (stat Em) st' stop) (fun r s1 ⟨hr,I1⟩=>?_)
   subst hr
   show RR _ _ (.ok .next) s1
   have IX:Inv X pins σ H' s1:=I.CM I1.os I1.base I1.hok I1.bare fun b hb=>by
    obtain⟨f0,f1,f2,f3,f4,f5⟩:=f b hb
    exact⟨f3,f1,f4,f5⟩
   obtain⟨eD,nD,_⟩:=I1.pin (s.heap.objs.size,gr us) (by simp)
   have IT:=IX.CQ (I.AC (H':=H') (Ft _) nD) eD rv hz
   obtain⟨m',hn',_⟩:=I1.loc
   exact hRR _ _ s1 ys H' m' IT nD hn' (I.AC Cp (by rw[ay (G6 hDC)];exact I1.free)) DA
  ·refine yF (T.item (X.z6 N scope fs ⟨H2.objs.size,s,H,fp,X.pn++pins⟩) rfl rfl rfl hc i _ s' _ H' (fun _ _=>False) I' (stat Em) st' go) (fun r s1 ⟨u,hr,h1⟩=>?_)
   subst hr
   show wpAny _ _ (letOwnedTupleGo tg (.ref it) u) _ _ s1
   refine yF h1 (fun _ s5 ⟨x,H5,I5,r5,y5,BX,Dp⟩=>?_)
   have Dq:=I5.pinned (stat Dp) (T.obj _ _ BX)
   refine yF (hg _ _ s5 _ H5 x u _ Dq r5 (step x H5 y5)) (fun _ s6 ⟨σ6,H6,I6,ER,q6⟩=>?_)
   refine yF (hf _ _ s6 σ6 H6 _ I6 q6) (fun b s7 ⟨H7,I7,q7⟩=>?_)
   -- Cq the turn's own names
   have forget:∀{H8:Hp} {s8:Shared} {pl:Va},Inv (X.z6 N scope fs ⟨H2.objs.size,s,H,fp,X.pn++pins⟩) pl σ6 H8 s8->Inv (X.z6 N scope fs ⟨H2.objs.size,s,H,fp,X.pn++pins⟩) pl (cS own fr σ) H8 s8:=fun{H8 s8 pl} I8=>by
    refine I8.weak (I0.len.trans I8.len.symm) fun j v e=>?_
    by_cases hj:j < own
    ·unfold cS at e
     rw[F3 (by rw[Gk];exact hj),GB,if_pos hj]at e
     cases e
    ·obtain⟨k,rfl⟩:∃k,j=own+k:=⟨j - own,by omega⟩
     rw[<-List.getElem?_drop]at e ⊢
     rw[ER]
     exact e
   have C6:∀{H8:Hp} {s8:Shared},Inv (X.z6 N scope fs ⟨H2.objs.size,s,H,fp,X.pn++pins⟩) ([(s.heap.objs.size,gr us)]++iu fp s5.heap) σ6 H8 s8->∀b∈fp,∀o,s5.heap.get? b=some o->s8.heap.get? b=some o/\H8 b=none:=fun I8 b hb o e=>
    let z:=I8.pin (b,o) (FZ _ (FZ _ (e8 hb e)))
    ⟨z.1,z.2.1⟩
   cases b with
   |false=>
    show ∃m,m < n/\_
    obtain⟨m',hm,w7⟩:=En _ _ (show Nx ys H7 from q7)
    refine⟨m',hm,i+1,ys,us,H7,(forget I7).Af,rv,T.keep _ _ _ BX fun b hb o e=>(C6 I7 b hb o e).1,fun b hb=>?_,w7⟩
    obtain⟨o,e,_⟩:=T.obj _ _ BX b hb
    exact(C6 I7 b hb o e).2
   |true=>
    show wpAny _ _ (eval elt _) _ _ s7
    have ES:te σ6 H7 fun y H4=>Nx (ys++[y]) H4:=q7
    refine yF (he _ _ s7 σ6 H7 _ I7 ES) (fun v s8 ⟨y,H8,I8,r8,n8⟩=>?_)
    obtain⟨m',hm,w8⟩:=En _ _ n8
    obtain⟨eD,nD,Eo,EU,_⟩:=I8.pin (s.heap.objs.size,gr us) (FZ _ (Gp _ (by simp)))
    refine append_at (hsz:=by show us.toArray.size<=sizeLine;rw[Fy,<-rv.length];exact hz) eD fun h9 Ep EV=>?_
    have J0:Inv (X.z6 N scope fs ⟨H2.objs.size,s,H,fp,X.pn++pins⟩) [] σ6 H8 s8:=I8.Au fun p hp=>nomatch hp
    have J1:Inv (X.z6 N scope fs ⟨H2.objs.size,s,H,fp,X.pn++pins⟩) [] σ6 H8 { s8 with heap:=h9 }:=J0.turned (t':=s8.toks) (it:=s.heap.objs.size) (fun b o hb e=>(Ep.2 b hb).trans e) nD Eo (.inr (Ft _))
     (fun x c e z=>by
      obtain⟨v',q⟩:=I.cell x c (gU hcl e)
      exact absurd (FL q.lt (by rw[z];exact Ft _)) (GA _))
     (fun p hp=>by
      rw[Gb]at hp
      exact FW (Dz p hp))
    have J2:Inv (X.z6 N scope fs ⟨H2.objs.size,s,H,fp,X.pn++pins⟩) [(s.heap.objs.size,gr (us++[v]))] σ6 H8 { s8 with heap:=h9 }:=J1.Au fun p hp=>by
     have z':p=(s.heap.objs.size,gr (us++[v])):=by simpa using hp
     subst z'
     exact⟨EV.trans (F5 some (nl us v)),nD,Eo,EU,fun v z=>by cases z⟩
    refine⟨m',hm,i+1,ys++[y],us++[v],H8,forget J2,Vals.append rv (.cons r8 .nil),T.keep _ _ _ BX fun b hb o e=>(Ep.2 b (below b (hlt b hb)).2).trans (C6 I8 b hb o e).1,fun b hb=>?_,w8⟩
    obtain⟨o,e,_⟩:=T.obj _ _ BX b hb
    exact(C6 I8 b hb o e).2
 exact codeAny_compStart_list (loop _ rfl) (T.self _ 0 _ _ _ (T.keep 0 _ _ st fun b _ o e=>old b o e) (loop _ rfl))
def oC(wi:TI)(g:TG)(tc:TT)(te:TE)(own:Nat)(fr:List Nat):TE:=fun σ H Q=>wi σ H fun J H1=>
 sk J g tc te own (cS own fr σ) (fun ys H2=>∀D,H2 D=none->Q (.ref D) (upd H2 D (.lst ys))) H1
def qR(fs:Vs)(own:Nat)(fr:List Nat)(N:Vs){wi:TI}(hc:X.calm=true)(hclos:closureFor scope X.env=pure (bT X.env fs))(hcell:∀y∈scope.names,y.2 ≠ .cell)(hkind:scope.kind = .function)
  (hnames:∀x∈scope.names,x.2 = .local->scope.names.lookup x.1=some .local) (hcl:bK X.env fs) (hhas:j9 (relabel scope X.env).names (bT X.env fs)=true)
  (hlen:N.length=own+fr.length) (hN:(N.drop own).map some=fr.map fun j=>X.N[j]?) (hF:zg X.env scope (bT X.env fs) (N.drop own))
  (hi:PI X tg iter wi) (hg:∀B,PG (X.z6 N scope fs B) tg g) (hf:∀B,PF (X.z6 N scope fs B) ifs tc) (he:∀B,PE (X.z6 N scope fs B) elt te)
  (hs:∀x,foldedSetIterable iter X.env x=pure x:=by intro _;rfl):PE X (.ListComp elt [⟨tg,iter,ifs,0⟩] scope pos) (oC wi g tc te own fr):=by
 intro pins s σ H Q I h
 rw[eval_ListComp]
 refine wpAny_comprehension_free (use:=none) (g:=⟨tg,iter,ifs,0⟩) (gs:=[]) rfl hs hclos hkind hnames (yF (hi pins s σ H _ I h) fun v s1 h1=>yF h1 fun itv s2 h2=>?_)
 obtain⟨it,fp,tn,J,H2,e,I2,T,st2,f2,W⟩:=h2
 subst e
 refine iC (RR:=fun acc C=>compPost (model X.prog X.w) X.A X.xe none (EP X pins σ Q) acc C) hc hcell hkind hcl hhas hlen hN hF hg hf he I2 T st2 f2 W ?_
 intro D C s' ys H' m' I' nD hn fC fin
 exact⟨m',hn,fun h' hs'=>⟨.ref D,_,I'.turned (t':=s'.toks) (fun b o hb e=>(hs'.2 b hb).trans e) fC.1 fC.2.1 fC.2.2.2.1 fC.2.2.2.2.1 fC.2.2.2.2.2,rfl,fin D nD⟩⟩
def qS(fs:Vs)(own:Nat)(fr:List Nat)(N:Vs){wi:TI}{i:Nat}{y:Str}{py spos:Pos}(hX:X.N.Nodup)(hix:X.N[i]?=some y)(hy:X.env.scope.names.lookup y=some .local)
  (hsw:swapsWith (.ListComp elt [⟨tg,iter,ifs,0⟩] scope pos) (some (.Name y py)) spos.line X.env=pure true)
  (hc:X.calm=true) (hclos:closureFor scope X.env=pure (bT X.env fs)) (hcell:∀y∈scope.names,y.2 ≠ .cell) (hkind:scope.kind = .function)
  (hnames:∀x∈scope.names,x.2 = .local->scope.names.lookup x.1=some .local) (hcl:bK X.env fs) (hhas:j9 (relabel scope X.env).names (bT X.env fs)=true)
  (hlen:N.length=own+fr.length) (hN:(N.drop own).map some=fr.map fun j=>X.N[j]?) (hF:zg X.env scope (bT X.env fs) (N.drop own))
  (hi:PI X tg iter wi) (hg:∀B,PG (X.z6 N scope fs B) tg g) (hf:∀B,PF (X.z6 N scope fs B) ifs tc) (he:∀B,PE (X.z6 N scope fs B) elt te)
  (hs:∀x,foldedSetIterable iter X.env x=pure x:=by intro _;rfl):PS X (.Assign [.Name y py] (.ListComp elt [⟨tg,iter,ifs,0⟩] scope pos) spos) (qu (oC wi g tc te own fr) (kT i)):=by
 intro pins s σ H D I h
 rw[exec_Assign_Name_used _ _ _ _ hsw]
 refine Fw (wpAny_standAt (Fw ?_))
 show wpAny _ X.A (do let _ <-comprehension (.ListComp elt [⟨tg,iter,ifs,0⟩] scope pos) scope X.env _ (newList []) false (eval iter X.env) (some (assign (.Name y py) X.env))) _ _ s
 refine Fw (GW (wpAny_comprehension_free (use:=some (assign (.Name y py) X.env)) (Q:=fun _ s'=>SP X pins D .next s') (g:=⟨tg,iter,ifs,0⟩) (gs:=[]) rfl hs hclos hkind hnames
  (yF (hi pins s σ H _ I h) fun v s1 h1=>yF h1 fun itv s2 h2=>?_)) (fun _ s' hq=>FJ (FJ hq)) fun _ _ e=>e)
 obtain⟨it,fp,tn,J,H2,e,I2,T,st2,f2,W⟩:=h2
 subst e
 refine iC (RR:=fun acc C=>compPost (model X.prog X.w) X.A X.xe (some (assign (.Name y py) X.env)) (fun _ s'=>SP X pins D .next s') acc C) hc hcell hkind hcl hhas hlen hN hF hg hf he I2 T st2 f2 W ?_
 intro Da C s' ys H' m' I' nD hn fC fin
 show wpAny _ X.A (assign (.Name y py) X.env (.ref Da)) _ _ s'
 refine wpAny_assign_Name (ju (v:=.ref Da) I' hX hix (.inl hy) rfl (fun s2 I3 ⟨a,sb,ha⟩=>?_) (.inr hy))
 have ca:C≠a:=by
  rcases ha with z|z
  ·rw[z];exact fC.2.1
  ·exact G6 (fC.2.2.2.2.1 _ _ z)
 exact⟨m',hn.sameBut sb ca,fun h' hs'=>⟨_,_,I3.turned (t':=s2.toks) (fun b o hb e=>(hs'.2 b hb).trans e) fC.1 fC.2.1 fC.2.2.2.1 fC.2.2.2.2.1 fC.2.2.2.2.2,fin Da nD⟩⟩
end
end L2
namespace PySem
open Sem (wp)
namespace F
def nn:typeLookup (.type "list_reverseiterator") "__len__" = pure none:=by rw[typeLookup_type,builtinLookup_eq_fast];kernel_rfl
def oD:typeLookup (.type "list_reverseiterator") "__length_hint__" = pure (some (.builtin "list_reverseiterator.__length_hint__")):=by rw[typeLookup_type,builtinLookup_eq_fast];kernel_rfl
end F
section
variable {prog:Program} {w:World} {A:Around} {s:Shared} {R:Result->Shared->Prop}
variable {I:Addr} {fp wr:List Addr} {G:Array GenState->Array GenState->Prop} {n:Nat} {P:Nat->Value->Prop} {St:Nat->Shared->Prop}
def lS(W:WalksS prog w A.in1 I fp wr G n P St)(hT:∀i s,St i s->s.TypeIs (.ref I) "list_reverseiterator")(S:Addr)(res:Value)(c₀:Nat)(hst:St 0 s)(hSf:S ∉ fp)(hI:I∈fp)
  (hS:s.heap.get? S=some { cls:=.type "list",data:=.seq #[] c₀ })
  (hR:∀s' acc' c',Moved (S::wr) G s s'->s'.heap.get? S=some { cls:=.type "list",dict:=none,data:=.seq acc' c',slots:=#[] }->ItemsOf P acc' n->R (.ok (.ret res)) s') (hn:n<=sizeLine) :
  wpAny (model prog w) A.in1 (Builtin.List.listExtendWith (.ref S) (.ref I) res)
   (fun fin s'=>match fin with | .done f=>R (.ok f) s' | .again c'=>c'.quiet=true/\codeAny (model prog w) A c' R s') (fun e s'=>R (.error e) s') s:=by
 have hSI:S≠I:=fun e=>hSf (e▸hI)
 have h1:Builtin.List.listSameRef (.ref S) (.ref I)=false:=by simp[Builtin.List.listSameRef,hSI]
 unfold Builtin.List.listExtendWith
 refine Fw (wpAny_typeOf (hT 0 _ hst) ?_)
 rw[if_neg (by rw[h1];decide)]
 refine Fw (W.self 0 _ _ _ hst ?_)
 refine Fw (G4 ?_)
 unfold Builtin.List.listLengthHint
 refine Fw (wpAny_specialOf (hT 0 _ hst) F.nn ?_)
 show wpAny _ A.in1 (specialOf (Value.ref I) (Str.ofString "__length_hint__") >>= _) _ _ _
 refine Fw (wpAny_specialOf (hT 0 _ hst) F.oD ?_)
 (generalize hid:("list_reverseiterator.__length_hint__":String)=EW;wp_delta;rw[show splitId EW=some ("list_reverseiterator","__length_hint__")from by subst hid;decide +kernel];subst hid)
 refine Fw (wpAny_isInstance (b:=true) (hT 0 _ hst) (by rw[isSubtype_type];kernel_rfl) ?_)
 refine FJ ?_
 rw[if_neg (by decide)]
 exact FJ ⟨plainId_quiet F.plain_extend_loop _,codeAny_extend_loopS W hn _ hSf _ n 0 _ _ _ rfl (Gq _) hst hS (ItemsOf.nil P) fun s' acc' c' hm hS' hacc=>hR s' acc' c' hm hS' hacc⟩
def jj(W:WalksS prog w A.in1 I fp wr G n P St)(hT:∀i s,St i s->s.TypeIs (.ref I) "list_reverseiterator")(S:Addr)(hst:St 0 s)(hSf:S ∉ fp)(hI:I∈fp)
  (hS:s.heap.get? S=some { cls:=.type "list",data:=.seq #[] })
  (hR:∀s' acc' c',Moved (S::wr) G s s'->s'.heap.get? S=some { cls:=.type "list",dict:=none,data:=.seq acc' c',slots:=#[] }->ItemsOf P acc' n->R (.ok (.ret .none)) s') (hn:n<=sizeLine) :
  wpAny (model prog w) A.in1 (Builtin.«list.__init__» ⟨[.ref S,.ref I],[]⟩)
   (fun fin s'=>match fin with | .done f=>R (.ok f) s' | .again c'=>c'.quiet=true/\codeAny (model prog w) A c' R s') (fun e s'=>R (.error e) s') s:=by
 show wpAny _ A.in1 (do let old <-Builtin.List.listItems (.ref S);Builtin.List.listUpdate (.ref S) (fun _=>#[]);letGo old.toList.reverse;Builtin.List.listExtendWith (.ref S) (.ref I) .none) _ _ s
 refine Fw ?_
 unfold Builtin.List.listItems
 refine Fw (wpAny_seqItems hS rfl (FJ ?_))
 show wpAny _ A.in1 (updateSeq S (fun _=>#[]) >>= fun _=>letGo (#[]:Vw).toList.reverse >>= fun _=>Builtin.List.listExtendWith (.ref S) (.ref I) .none) _ _ s
 refine Fw (wpAny_updateSeq hS rfl ?_)
 have EX:=HC (Obj.mapSeq (fun _=>(#[]:Vw))) hS rfl
 have CF:∀b o,b≠S->s.heap.get? b=some o->(s.heap.update S (Obj.mapSeq (fun _=>(#[]:Vw)))).get? b=some o:=
  fun b o hb e=>(Hs _ _ (G6 hb)).trans e
 refine Fw (wpAny_letGo ?_)
 refine lS (hn:=hn) W hT S .none _ (W.frame 0 s _ s.toks hst (Ft _) fun b hb o e=>CF b o (fun h=>hSf (h▸hb)) e) hSf hI EX fun s' acc' c' hm hS' hacc=>?_
 exact hR s' acc' c' (Moved.trans W.gtrans ((Moved.refl W.grefl).then_heap (Ft _) fun b o hb e=>CF b o (fun h=>hb (h▸Gx)) e) hm) hS' hacc
end
section
variable {prog:Program} {w:World} {A:Around} {E:Vq} {s:Shared}
def jk{I l:Addr}{items:Vw}{Q:Vq}(hh:A.handled=none)(hl:s.heap.IsList l items)(hit:s.heap.IsRevIter I l ((items.size:Int) - 1))(hne:l≠I)(hn:items.size<=sizeLine)
  (hQ:∀h' tk acc' c',(∀b o,b≠I->s.heap.get? b=some o->h'.get? b=some o)->h'.get? s.heap.objs.size=some { cls:=.type "list",dict:=none,data:=.seq acc' c',slots:=#[] }->
   acc'.toList=items.toList.reverse->Q (.ref s.heap.objs.size) { s with heap:=h',toks:=tk }) :
  wpAny (model prog w) A (call (.type "list") [.ref I]) Q E s:=by
 have W:=(Walks.listRev (prog:=prog) (w:=w) (A:=A.in1.in1) hh I l hne items).toS
 have DB:I < s.heap.objs.size:=by obtain⟨o,ho,_⟩:=hit;exact FD ho
 have DC:l < s.heap.objs.size:=by obtain⟨o,ho,_⟩:=hl;exact FD ho
 have hfp:∀b∈[I,l],b < s.heap.objs.size:=fun b hb=>by
  rcases FE.mp hb with rfl|hb
  ·exact DB
  ·rw[F2.mp hb];exact DC
 have hSf:s.heap.objs.size ∉ [I,l]:=fun hm=>GA _ (hfp _ hm)
 have hst:(fun i (s:Shared)=>i<=items.size/\s.heap.IsRevIter I l ((items.size:Int) - 1 - (i:Int))/\s.heap.IsList l items) 0 s:=⟨Gq _,by simpa using hit,hl⟩
 refine callType_codes (Q₁:=fun obj s₁=>obj = .ref s.heap.objs.size/\s₁={ s with heap:=s.heap.push { cls:=.type "list",data:=.seq #[] } }) F.called_list (F.typeCall_list_1 _) F.entry_list_init
  (code_list_new _ ⟨rfl,rfl⟩) fun obj s₁ h₁=>?_
 obtain⟨rfl,rfl⟩:=h₁
 have hS:(s.heap.push { cls:=.type "list",data:=.seq #[] }).get? s.heap.objs.size=some { cls:=.type "list",data:=.seq #[] }:=FT _ rfl
 refine⟨⟨_,hS,rfl⟩,F.args_list_init_2 _ _,jj (hn:=hn) W (fun i s st=>st.2.1.typeIs) _ (W.frame 0 s _ s.toks hst (Ft _) fun b _ o e=>FA _ e) hSf (Gx ..) hS fun s' acc' c' hm hS' hacc=>?_⟩
 refine⟨rfl,?_⟩
 rw[hm.eq_with]
 refine hQ s'.heap s'.toks acc' c' (fun b o hb e=>hm.heap b o (fun z=>?_) (FA _ e)) hS' ?_
 ·rcases FE.mp z with z|z
  ·exact absurd (FD e) (by rw[z];exact GA _)
  ·exact hb (F2.mp z)
 ·obtain⟨hsz,hP⟩:=hacc
  apply List.ext_getElem?
  intro j
  by_cases hj:j < items.size
  ·have hj':j < acc'.size:=by rw[hsz];exact hj
   have q:=hP j acc'[j] (by simp[hj'])
   have e1:acc'.toList[j]?=some acc'[j]:=by simp[hj']
   rw[e1,List.getElem?_reverse (by simpa using hj)]
   simpa using q.symm
  ·rw[Gw (by simpa [hsz]using hj),Gw (by simpa using hj)]
end
end PySem
namespace L2
open PySem PySem.Spec PyProof.Rows
section
variable {X:Cx}
def oE(K:Vo)(te:TE):TE:=fun σ H Q=>te σ H fun x H1=>∃a xs,x = .ref a/\SqL K H1 a xs/\∀q,H1 q=none->Q (.ref q) (upd H1 q (.lst xs.reverse))
def lT{e:Expr}{te:TE}{p1 p2 q1 q2:Pos}(hc:X.calm=true)(he:PE X e te)(DD:Gl X "list")(hm1:X.mg "list" = none)(DE:Gl X "reversed")(hm2:X.mg "reversed" = none)
  (hs:starEach [e] X.env=[(false,eval e X.env)]:=by rfl) (hs2:starEach [.Call (.Name "reversed" p2) [e] [] q2] X.env=[(false,eval (.Call (.Name "reversed" p2) [e] [] q2) X.env)]:=by rfl) :
  PE X (.Call (.Name "list" p1) [.Call (.Name "reversed" p2) [e] [] q2] [] q1) (oE X.K te):=by
 intro pins s σ H Q I h
 refine GY (e7 I DD hm1 (u:=.type "list") (by decide +kernel) ?_)
 refine Gr ?_ hs2 rfl
 rw[hs2]
 show wpAny _ _ (spliced ((false,eval (.Call (.Name "reversed" p2) [e] [] q2) X.env)::backTo q1 [])) _ _ s
 refine GX ?_
 refine GY (e7 I DE hm2 (u:=.type "reversed") boot_reversed ?_)
 refine Gr ?_ hs rfl
 rw[hs]
 show wpAny _ _ (spliced ((false,eval e X.env)::backTo q2 [])) _ _ s
 refine GX (yF (he pins s σ H _ I h) fun u s1 ⟨x,H1,I1,r1,a,xs,ex,hx,q⟩=>?_)
 subst ex
 cases r1
 obtain⟨its,rv,p,hz⟩:=I1.list hx
 have hl:=rv.length
 have hal:a < s1.heap.objs.size:=by obtain⟨o,ho,_⟩:=p.isList;exact FD ho
 refine Hq (call_reversed_list p.isList ?_)
 refine Hq ?_
 refine jk (I.ok.hd hc) (p.isList.push _) ⟨_,FT _ rfl,rfl,rfl⟩ (FW hal) (by rw[Fy,<-hl];exact hz) fun h' tk acc c hk hS ha=>?_
 have hsz:(s1.heap.push (revObj a ((its.toArray.size:Int) - 1))).objs.size=s1.heap.objs.size+1:=Heap.size_push _ _
 have hle:s1.heap.objs.size<=(s1.heap.push (revObj a ((its.toArray.size:Int) - 1))).objs.size:=by rw[hsz];exact Nat.le_succ _
 refine⟨.ref _,_,I1.laid (a:=(s1.heap.push (revObj a ((its.toArray.size:Int) - 1))).objs.size) (o:=.lst xs.reverse) (h':=h') (t':=tk) (fun b u e=>hk b u (FW (FD e)) (FA _ e)) hle ?_,rfl,q _ (I1.hok.fresh hle)⟩
 refine⟨by rw[List.length_reverse];exact hz,its.reverse,c,Vals.reverse rv,?_⟩
 rw[hS]
 have e:acc=its.reverse.toArray:=by
  apply Array.toList_inj.mp
  rw[ha]
 rw[e]
end
section
variable {X:Cx}
noncomputable abbrev j_(c:Nat):Str:=⟨#[c]⟩
noncomputable def xB(z:Str):It:=⟨fun i _=>i < z.cps.size,fun i H x H'=>H'=H/\∃c,z.cps[i]?=some c/\x = .str (j_ c),fun i _=>z.cps.size<=i⟩
def oF{P:Program}{w:World}{K:Vo}{tg:Expr}{ty:String}(hty:ty = "str_ascii_iterator" \/ ty = "str_iterator")(it:Addr)(z:Str)(t:Tok):kU P w K tg (xB z) [it] it (fun i h=>i<=z.cps.size/\h.IsStrIter it ty z t i):=by
 have W:∀A':Around,A'.handled=none->Walks P w A' it [it] [it] z.cps.size (SignAt z) (fun i h=>h.IsStrIter it ty z t i):=fun A' hA=>by
  rcases hty with rfl|rfl
  ·exact Walks.strAscii hA it z t
  ·exact Walks.strWide hA it z t
 have nt:(["enumerate","zip","dict_itemiterator","dict_reverseitemiterator","odict_iterator","itertools.zip_longest","itertools.pairwise"].contains ty)=false:=by
  rcases hty with rfl|rfl<;>decide
 refine⟨by simp,fun i h st b hb=>?_,fun i h h' st k=>?_,?_,?_,?_⟩
 ·have e:b=it:=by simpa using hb
  subst e
  obtain⟨_,o,e,c,d⟩:=st
  exact⟨o,e,fun v q=>by rw[d]at q;cases q⟩
 ·obtain⟨hi,o,e,r⟩:=st
  exact⟨hi,o,k it (by simp) o e,r⟩
 ·intro X hP hw hK hc i pins s σ H E I hf st hg
  subst hP hw hK
  obtain⟨f0,f1,f2,f3,f4,f5⟩:=hf it (by simp)
  refine(W X.A (I.ok.hd hc)).item i s _ _ hg st.2 fun v h' tk hv st' kk=>?_
  obtain⟨c,u,hcp,rfl⟩:=hv
  have I1:Inv X pins σ H { s with heap:=h',toks:=tk }:=I.turned (fun b o hb e=>kk b o (by simpa using hb) e) f0 f1 f3 f4 f5
  obtain⟨o,e,co,d⟩:=id st'
  exact⟨_,rfl,my (s:={ s with heap:=h',toks:=tk }) e co d nt ⟨.str (j_ c),H,I1,⟨u,rfl⟩,⟨rfl,c,hcp,rfl⟩,⟨hg,st'⟩,fun b hb=>(hf b hb).1⟩⟩
 ·intro X hP hw hK hc i pins s σ H E I hf st hg
  subst hP hw hK
  obtain⟨f0,f1,f2,f3,f4,f5⟩:=hf it (by simp)
  have e:i=z.cps.size:=Nat.le_antisymm st.1 hg
  subst e
  exact(W X.A (I.ok.hd hc)).done s _ _ st.2 fun h' tk kk=>⟨rfl,I.turned (fun b o hb e=>kk b o (by simpa using hb) e) f0 f1 f3 f4 f5⟩
 ·intro A i s Q E st h
  rcases hty with rfl|rfl
  ·exact wpAny_pyIter_striter_ascii st.2 h
  ·exact wpAny_pyIter_striter_wide st.2 h
def qT{ys:Vs}:∀{us:Vv},Vals (ys.map V.str) us->StrsAre us ys:=by
 induction ys with
 |nil=>intro us r;rw[Hv]at r;cases r;exact .nil
 |cons n ns ih=>
  intro us r
  rw[FO]at r
  cases r with
  |cons r1 r2=>
   obtain⟨t,e⟩:=r1
   subst e
   exact .cons n t (ih r2)
noncomputable def vZ(K:Vo):V->List V->Hp->VK->Prop:=fun x vs H Q=>∃sep p ys,x = .str sep/\vs=[.ref p]/\SqL K H p (ys.map V.str)/\(ys.map (·.length)).sum+ys.length * sep.length<=1000000/\Q (.str (Txt.join sep ys)) H
def qU:vP X "str.join" (vZ X.K):=by
 intro pins s σ H x vs v us Q I rx rv h
 obtain⟨sep,p,ys,rfl,rfl,hp,hz,q⟩:=h
 obtain⟨t,rfl⟩:=rx
 obtain⟨u,rfl,ru⟩:=eO rv
 cases ru
 obtain⟨its,r,pl,_⟩:=I.list hp
 exact join_list pl.isList (by simpa using qT r) (by omega) fun t' k=>⟨.str _,H,I.tok k,⟨t',rfl⟩,q⟩
def np(hc:X.calm=true):eN X (.builtin "all") (fun xs H Q=>∃(p:Addr) (bs:List Bool),xs=[.ref p]/\SqL X.K H p (bs.map V.bl)/\Q (.bl (bs.all id)) H):=by
 intro pins s σ H xs us Q I r h
 obtain⟨p,bs,rfl,hp,q⟩:=h
 obtain⟨u,rfl,rx⟩:=eO r
 cases rx
 obtain⟨its,rv,pl,hz⟩:=I.list hp
 have hl:=rv.length
 rw[Fx]at hl
 have hlt:p < s.heap.objs.size:=by obtain⟨o,ho,_⟩:=pl.isList;exact FD ho
 refine call_all_walk (wpAny_pyIter_list pl.isList ?_)
 have up:∀b o,s.heap.get? b=some o->(s.heap.push { cls:=.type "list_iterator",data:=.fields #[.ref p,.int 0 0] }).get? b=some o:=fun b o e=>FA _ e
 refine⟨s.heap.objs.size,_,_,_,_,_,fun i=>(bs[i]?).getD true,rfl,Walks.list (A:=X.A.in1) (I.ok.hd hc) s.heap.objs.size p (FW hlt) its.toArray,⟨⟨_,FT _ rfl,rfl,rfl⟩,pl.isList.push _⟩,?_,fun h' tk hk=>?_⟩
 ·intro i v s' Q' E' hv hq
  have hi:i < its.length:=by
   by_cases z:i < its.length
   ·exact z
   ·rw[Hw (by simpa using z)]at hv;cases hv
  obtain⟨u',e1,r1⟩:=rv.get (i:=i) (x:=.bl bs[i]) (by rw[FY,F6 (by omega)];rfl)
  have e2:v=u':=by
   have z:its[i]?=some v:=by simpa using hv
   rw[z]at e1;exact Ga e1
  subst e2
  cases (show v=Value.bool bs[i] from r1)
  refine G0 ?_
  have hq':Q' ((bs[i]?).getD true) s':=hq
  rw[F6 (show i < bs.length by omega)]at hq'
  exact hq'
 ·have e:(List.range its.toArray.size).all (fun i=>(bs[i]?).getD true)=bs.all id:=by
   rw[Fy,<-hl,GL,Gz,Gz]
   constructor
   ·intro h1 x hx
    obtain⟨j,hj,e⟩:=List.getElem_of_mem hx
    have q1:=h1 j (G2.mpr hj)
    rw[F6 hj]at q1
    rw[<-e];exact q1
   ·intro h1 j hj
    have hj':=G2.mp hj
    rw[F6 hj']
    exact h1 _ (Ig hj')
  rw[e]
  exact⟨.bl _,H,(I.kept (t':=tk) (h':=h') fun b o eo=>hk b o (by
   intro hm
   have hb:b=s.heap.objs.size:=by simpa using hm
   exact absurd (FD eo) (by rw[hb];exact GA _)) (up b o eo)),rfl,q⟩
end
section
variable {X:Cx}
noncomputable def xC:V->Option Int->Option Int->Hp->VK->Prop:=fun x lo hi H Q=>∃z,x = .str z/\z.length<=sizeLine/\Q (.str (Txt.slice z lo hi)) H
def tS:u9 X xC:=by
 intro pins s σ H x v vl vu lo hi sl Q I rx hs pl pu h
 obtain⟨z,rfl,hz,q⟩:=h
 obtain⟨t,rfl⟩:=rx
 refine⟨"str",_,F.slot_str_getitem.lookup,typeIs_str _ _ _,?_⟩
 obtain⟨o,e,c,d⟩:=hs
 have fin:∀l u:Option (Int×Tok),(vl=partValue l/\lo=l.map (·.1))->(vu=partValue u/\hi=u.map (·.1))->wpAny (model X.prog X.w) X.A (getItem (.str z t) (.ref sl)) (EP X pins σ Q) X.xe s:=by
  rintro l u ⟨rfl,rfl⟩ ⟨rfl,rfl⟩
  exact wpAny_getItem_str_slice (l:=l) (u:=u) (st:=none) ⟨o,e,c,d⟩ rfl (post_val_or_str ⟨FI (Txt.slice_le z _ _) hz,fun t' k=>⟨.str _,H,I.tok k,⟨t',rfl⟩,q⟩⟩)
 cases pl with
 |none=>
  cases pu with
  |none=>exact fin none none ⟨rfl,rfl⟩ ⟨rfl,rfl⟩
  |int j uj=>exact fin none (some (j,uj)) ⟨rfl,rfl⟩ ⟨rfl,rfl⟩
 |int i ui=>
  cases pu with
  |none=>exact fin (some (i,ui)) none ⟨rfl,rfl⟩ ⟨rfl,rfl⟩
  |int j uj=>exact fin (some (i,ui)) (some (j,uj)) ⟨rfl,rfl⟩ ⟨rfl,rfl⟩
noncomputable def tT:V->List V->Hp->VK->Prop:=fun x vs H Q=>∃a b i rest,x = .str a/\vs=[.str b]/\Builtin.Str.occurrences a b 0 a.length 1=i::rest/\Q (.int i) H
def oG:vP X "str.index" tT:=by
 intro pins s σ H x vs v us Q I rx rv h
 obtain⟨a,b,i,rest,rfl,rfl,ho,q⟩:=h
 obtain⟨t,rfl⟩:=rx
 obtain⟨w,rfl,u,rfl⟩:=eO rv
 exact call_gives F.slot_str_index (typeIs_str _ _ _) F.entry_str_index (F.args_str_index_2 _ _) (gives_str_index a b t u i rest ho) ⟨.int i,H,I.tok _,⟨_,rfl⟩,q⟩
def tU(K:Vo)(i j k:Nat)(te:TE):TS:=fun D σ H=>te σ H fun x H1=>∃p v w u,x = .ref p/\zJ K H1 p [v,w,u]/\D.nx (((σ.set k (some u)).set j (some w)).set i (some v)) H1
def oH{i j k:Nat}{x y z:Str}{e:Expr}{te:TE}{px py pz pt:Pos}{kt:Nat}{pos:Pos}(hc:X.calm=true)(hN:X.N.Nodup)(hi:X.N[i]?=some x)(hj:X.N[j]?=some y)(hk:X.N[k]?=some z)
  (hx:X.env.scope.names.lookup x=some .local) (hy:X.env.scope.names.lookup y=some .local) (hz:X.env.scope.names.lookup z=some .local) (he:PE X e te)
  (hw:swappedStores [.Tuple [.Name x px,.Name y py,.Name z pz] kt pt] e X.env=pure (some [x,y,z]))
  (hs:swapsWithSole [.Tuple [.Name x px,.Name y py,.Name z pz] kt pt] e pos.line X.env=pure false) :
  PS X (.Assign [.Tuple [.Name x px,.Name y py,.Name z pz] kt pt] e pos) (tU X.K i j k te):=by
 intro pins s σ H D I h
 refine Assign_Tuple_swapped (names:=[x,y,z]) (yF (he pins s σ H _ I h) fun r s1 ⟨xr,H1,I1,r1,p,v,w,u,ex,hp,q⟩=>?_) hs hw
 subst ex
 cases r1
 obtain⟨its,rv,tp,_⟩:=I1.tuple hp
 obtain⟨u1,u2,u3,ei,a1,a2,a3⟩:∃u1 u2 u3,its=[u1,u2,u3]/\RelV v u1/\RelV w u2/\RelV u u3:=by
  cases rv with
  |cons a1 rv=>
   cases rv with
   |cons a2 rv=>
    cases rv with
    |cons a3 rv=>
     cases rv
     exact⟨_,_,_,rfl,a1,a2,a3⟩
 subst ei
 refine unpackItems_tuple (items:=#[u1,u2,u3]) (I.ok.hd hc) tp fun h' kp=>?_
 have I2:=I1.kept (h':=h') (t':=s1.toks) fun b o eb=>kp b o (FW (FD eb)) eb
 refine GI (Ho (ci I2 hN hk (.inl hz) a3 (fun s2 I3=>?_) (.inr hz)))
 refine GI (Ho (ci I3 hN hj (.inl hy) a2 (fun s3 I4=>?_) (.inr hy)))
 exact GI (Ho (ci I4 hN hi (.inl hx) a1 (fun s4 I5=>assignInOrder_nil ⟨_,H1,I5,q⟩) (.inr hx)))
end
end L2
namespace Zt
open PySem
open Sem (wp)
section
variable {prog:Program} {w:World} {A:Around} {E:Vq} {s:Shared}
def nx{j t:Addr}{i:Nat}{its:Vw}{x:Value}{Q:Vq}(hj:s.heap.IsTupleIter j t i)(ht:s.heap.IsTuple t its)(hx:its[i]?=some x)
  (k:∀g:Heap,g.IsTupleIter j t (i+1)->Heap.SameBut j s.heap g->Q x { s with heap:=g }):wpAny (model prog w) A (Builtin.SmallTypes.nextOf (.ref j)) Q E s:=by
 obtain⟨ob,eb,kb,db⟩:=id hj
 obtain⟨oc,ec,_,nc,dc⟩:=ht
 unfold Builtin.SmallTypes.nextOf
 refine Fw (GQ (name:=Str.ofString "__next__") hj.typeIs GJ (HF GJ hj.typeIs F.entry_tuple_iterator_next ?_ (F.args_tuple_iterator_next_1 _)))
 show wpAny _ _ (field (.ref j) 0 >>= _) _ _ s;refine Fw (Hg eb db (x:=.ref t) rfl ?_)
 show wpAny _ _ (if (Value.ref t == Value.none)=true then _ else _) _ _ s;rw[if_neg (show ¬((Value.ref t == Value.none)=true)from FP)]
 show wpAny _ _ (field (.ref j) 1 >>= _) _ _ s;refine Fw (Hg eb db (x:=.int i 0) rfl ?_)
 show wpAny _ _ (seqItems? (.ref t) >>= _) _ _ s;refine Fw (wpAny_seqItems ec dc ?_)
 simp only[Int.toNat_natCast,hx];refine Fw (wpAny_setField eb db (by simp) (FJ ⟨x,rfl,FJ (k _ ?_ (Heap.SameBut.update ..))⟩))
 exact⟨_,HC _ eb (Obj.isFreed_of_fields (Obj.data_mapFields db _)),(Obj.cls_mapFields ..).trans kb,by rw[Obj.data_mapFields db];simp[rawInt]⟩
def ym{j t:Addr}{i:Nat}{its:Vw}{Q:Vq}(hh:A.handled=none)(hj:s.heap.IsTupleIter j t i)(ht:s.heap.IsTuple t its)(hx:its[i]?=none)
  (k:∀(g:Heap) (e:Addr),Heap.ExtBut j s.heap g->(∃o,g.get? e=some o/\o.cls = .type "StopIteration")->E (.ref e) { s with heap:=g }):wpAny (model prog w) A (Builtin.SmallTypes.nextOf (.ref j)) Q E s:=by
 obtain⟨ob,eb,kb,db⟩:=id hj
 obtain⟨oc,ec,_,nc,dc⟩:=ht
 unfold Builtin.SmallTypes.nextOf
 refine Fw (GQ (name:=Str.ofString "__next__") hj.typeIs GJ (HF GJ hj.typeIs F.entry_tuple_iterator_next ?_ (F.args_tuple_iterator_next_1 _)))
 show wpAny _ _ (field (.ref j) 0 >>= _) _ _ s;refine Fw (Hg eb db (x:=.ref t) rfl ?_)
 show wpAny _ _ (if (Value.ref t == Value.none)=true then _ else _) _ _ s;rw[if_neg (show ¬((Value.ref t == Value.none)=true)from FP)]
 show wpAny _ _ (field (.ref j) 1 >>= _) _ _ s;refine Fw (Hg eb db (x:=.int i 0) rfl ?_)
 show wpAny _ _ (seqItems? (.ref t) >>= _) _ _ s;refine Fw (wpAny_seqItems ec dc ?_)
 simp only[Int.toNat_natCast,hx];refine Fw (wpAny_rule (Fw (wpAny_setField eb db (by simp) ?_)))
 show wpAny _ _ (newExc (.type "StopIteration") [] >>= _) _ _ _;refine Fw ?_
 simp only[newExc,newTuple];refine Fw (Gs ?_ (by size_fits))
 refine Fw (m:=firstArgMember _ _) (wpAny_of_eq (a:=Value.none) (by first|rfl|(simp only[firstArgMember];rfl)) ?_);refine Gs ?_ (by size_fits)
 simp only[raiseNew];refine Fw (wpAny_handled ?_)
 first|(rw[hh])|(rw[show A.in1.handled=none from hh])
 exact Fw (FJ (wpAny_throw (k _ _ (((Heap.SameBut.update ..).extBut.push _).push _) ⟨_,FT _ rfl,rfl⟩)))
variable {ka kb:Bool} {z TI TO i1 i2 l1 l2:Addr} {k1 k2:Nat} {xs ys:Vw} {x y a b:Value}
end
end Zt
namespace L2
open PySem PySem.Spec PyProof.Rows
section
variable {X:Cx} {pins:Va} {σ:St} {H:Hp} {s:Shared} {h':Heap}
def Inv.Aw{t':Nat}{fp:List Addr}(I:Inv X pins σ H s)(k:∀b o,b ∉ fp->s.heap.get? b=some o->h'.get? b=some o)(hf:∀b∈fp,dL X pins H b):Inv X pins σ H { s with heap:=h',toks:=t' }:=by
 have CL:∀b u,H b=some u->b ∉ fp:=fun b u e z=>by rw[(hf b z).1]at e;cases e
 refine I.step (g':=s.gens) (d':=s.drawn) (ch:=fp) (fun b hb=>?_) (fun b o _ _ hc e _=>k b o hc e) (fun b o _ _ hc e _=>⟨o.slots,k b o hc e⟩) (fun _ _ _ _ n=>n)
  (fun b o hc e=>⟨o,k b o hc e⟩) (fun _ _ e=>e) (fun _ _ _ e=>e) (fun b ps e=>⟨#[],by rw[e];simp⟩) (fun m hm=>?_) (fun b u e=>?_) I.bare
 ·obtain⟨f0,f1,f2,f3,f4,f5⟩:=hf b hb
  exact⟨f3,f1,f4,f5⟩
 ·obtain⟨o,es,ep,ho,r⟩:=hm
  exact⟨o,es,ep,k _ o (fun z=>(hf _ z).2.1 rfl) ho,r⟩
 ·refine(I.hok b u e).stay (fun c v hc q=>k c v ?_ q) (fun _ q=>q) fun _ _ q=>q
  rcases hc with z|z
  ·rw[z];exact CL b u e
  ·exact CL c _ z
def Inv.BG{D:Addr}{us:Vv}{ys:List V}(I:Inv X pins σ H s)(f:dL X pins H D)(e:zl s.heap D us.toArray)(r:Vals ys us)(hz:ys.length<=sizeLine) :
  Inv X pins σ (upd H D (.tup ys)) s:=by
 obtain⟨f0,f1,f2,f3,f4,f5⟩:=f
 have nD:∀b u,H b=some u->b≠D:=fun b u q=>aU q f0
 have hok:z9 X.prog X.w (upd H D (.tup ys)) s.heap:=fun b u q=>by
  by_cases hb:b=D
  ·subst hb
   rw[aB]at q
   cases q
   exact⟨hz,us,r,e⟩
  ·rw[ay hb]at q
   exact(I.hok b u q).stay (fun _ _ _ z=>z) (fun c z=>by rw[ay (nD c _ z)];exact z) fun c xs z=>by rw[ay (nD c _ z)];exact z
 exact I.step (H':=upd H D (.tup ys)) (h':=s.heap) (g':=s.gens) (t':=s.toks) (d':=s.drawn) (ch:=[D])
  (fun b hb=>by
   have z:b=D:=by simpa using hb
   subst z
   exact⟨f3,f1,f4,f5⟩)
  (fun _ _ _ _ _ q _=>q) (fun _ o _ _ _ q _=>⟨o.slots,q⟩)
  (fun b o hb _ n=>by rw[ay (fun z=>hb (by simp[z]))];exact n)
  (fun _ o _ q=>⟨o,q⟩) (fun b xs q=>by rw[ay (nD b _ q)];exact q) (fun b o u q=>by rw[ay (nD b _ q)];exact q)
  (fun b ps q=>⟨#[],by rw[ay (nD b _ q),q];simp⟩) (fun _ q=>q) hok I.bare
end
section
variable {X:Cx}
def KD(P:Program)(w:World)(K:Vo)(a:Addr)(kvs:List (a7×V)):Prop:=(a == sysModules)=false/\∃o vs,K.lookup a=some o/\KV kvs vs/\Obj.IsDictOf (aM P w) o vs
def v0(a:Addr)(kvs:List (a7×V))(ty tx:TE):TE:=fun σ H Q=>ty σ H fun y H2=>tx σ H2 fun z H3=>∃k,y=kV k/\Q ((e9 kvs k).getD z) H3
def qV{x:Str}{e f:Expr}{px apos cpos:Pos}{ty tx:TE}{a:Addr}{kvs:List (a7×V)}(hu:X.A.units+1 < cLine)(hg:Gl X x)(hm:X.mg x=some (.ref a))(hD:KD X.prog X.w X.K a kvs)(he:PE X e ty)(hf:PE X f tx)(m:M2 X (.Name x px) "get" apos e f cpos)
  (hd:(x == ("__debug__":Str))=false:=by decide):PE X (.Call (.Attribute (.Name x px) "get" apos) [e,f] [] cpos) (v0 a kvs ty tx):=by
 intro pins s σ H Q I h
 obtain⟨hsys,o,vs,hk,rel,ii⟩:=hD
 have dd:∀{s1:Shared} {H1:Hp},Inv X pins σ H1 s1->s1.heap.DictOf (aM X.prog X.w) a vs:=fun I1=>Heap.dictOf_iff.mpr ⟨o,I1.BW a o hk,ii⟩
 refine wpAny_Call_method m.base m.few m.line PySem.F.plainAttrs_dict PySem.F.slot_dict_get PySem.F.type_dict_get (mx I hg hm ?_ hd)
 refine⟨(dd I).typeIs,fun b q=>?_,?_⟩
 ·cases q
  obtain⟨ob,_,_,h1,h2,_⟩:=dd I
  exact⟨ob,h1,h2.2.1⟩
 rw[m.trees]
 refine Ht rfl (Calls.evalArgs_plain (GX (yF (he pins s σ H _ I h) fun iv s2 ⟨y,H2,I2,ry,q2⟩=>
  GX (yF (hf pins s2 σ H2 _ I2 q2) fun fv s3 ⟨z,H3,I3,rz,k,ey,q3⟩=>Hq ?_))))
 subst ey
 refine call_meetsIn PySem.F.slot_dict_get (dd I3).typeIs PySem.F.entry_dict_get (PySem.F.args_dict_get_3 _ _ _) (meets_dict_get_default (aM X.prog X.w) a (iA ry) hsys fv) ⟨_,(dd I3).mapOf,⟨_,H3,I3.tok _,?_,q3⟩⟩
 exact(rel.val k).getD rz
end
section
variable {env:Env} {rest:List Expr} {pos:Pos}
def nq{a:Expr}{gs:List Comprehension}{sc:Scope}:starEach (.ListComp a gs sc pos::rest) env=(false,eval (.ListComp a gs sc pos) env)::starEach rest env:=rfl
end
noncomputable def xD(K:Vo)(a:Addr):It:=
  ⟨fun i H=>∃xs x,SqL K H a xs/\xs[i]?=some x,
   fun i H v H'=>∃p x,v = .ref p/\H p=none/\H'=upd H p (.tup [.int (i:Nat),x])/\∀xs,SqL K H a xs->xs[i]?=some x,
   fun i H=>∃xs,SqL K H a xs/\xs.length<=i⟩
def nu{P:Program}{w:World}{K:Vo}{elts:List Expr}{k0:Nat}{Bb:Pos}{e it a:Addr}(hei:e≠it) :
  kU P w K (.Tuple elts k0 Bb) (xD K a) [e,it] e (fun i h=>(∃old,IsEnum h e it i old)/\h.IsListIter it a i) where
 mem:=by simp
 obj:=fun i h st c hc=>by
  obtain⟨⟨old,ge⟩,⟨o1,e1,_,d1⟩⟩:=st
  simp only[FE,FN,Gi]at hc
  rcases hc with rfl|rfl
  ·exact⟨_,ge,fun v q=>by cases q⟩
  ·exact⟨_,e1,fun v q=>by rw[d1]at q;cases q⟩
 keep:=fun i h h' st k=>by
  obtain⟨⟨old,ge⟩,g1⟩:=st
  exact⟨⟨old,k e (by simp) _ ge⟩,g1.at fun o q=>k it (by simp) o q⟩
 item:=by
  intro X hP hw hK hc i pins s σ H E I hf st hg
  subst hP hw hK
  obtain⟨⟨old,ge⟩,g1⟩:=st
  obtain⟨xs,x,B2,hx⟩:=hg
  obtain⟨ia,ra,pa,za⟩:=I.list B2
  obtain⟨u,hu,ru⟩:=ra.get hx
  refine wpAny_pyNext_enum_item ge g1 pa.isList (x:=u) (by simpa using hu) hei fun g a1 a2 a3 a4 a5=>?_
  refine⟨_,rfl,wpAny_letOwnedTupleGo_enum (s:={ s with heap:=g,toks:=s.toks+1 }) a1 fun g' z' q'=>?_⟩
  have kk:∀c o,c ∉ [e,it]->s.heap.get? c=some o->g'.get? c=some o:=fun c o hc q=>by
   simp only[FE,FN,Gi,not_or]at hc
   exact(q'.2 c hc.1).trans (a5 c o hc.1 hc.2 q)
  have I1:Inv X pins σ H { s with heap:=g',toks:=s.toks+1 }:=I.Aw kk hf
  have f0:dL X pins H s.heap.objs.size:=I.AC (Ft _) (I.hok.fresh (Ft _))
  have DF:s.heap.objs.size≠e:=Ii (FD ge)
  have eT:zl g' s.heap.objs.size [Value.int i s.toks,u].toArray:=⟨_,(q'.2 _ DF).trans a3,rfl,rfl,_,rfl⟩
  have I2:=I1.BG (ys:=[.int i,x]) f0 eT (.cons ⟨_,rfl⟩ (.cons ru .nil)) (by show 2<=sizeLine;decide)
  refine⟨.ref s.heap.objs.size,_,I2,rfl,⟨s.heap.objs.size,x,rfl,f0.1,rfl,fun xs' h1=>by rw[I.AW h1 B2];exact hx⟩,⟨⟨u,by simpa using z'⟩,a2.at fun o q=>(q'.2 it hei.symm).trans q⟩,fun c hc=>?_⟩
  have hlt:c < s.heap.objs.size:=by
   obtain⟨o1,e1,_⟩:=g1
   simp only[FE,FN,Gi]at hc
   rcases hc with rfl|rfl
   ·exact FD ge
   ·exact FD e1
  rw[ay (FW hlt)]
  exact(hf c hc).1
 done:=by
  intro X hP hw hK hc i pins s σ H E I hf st hg
  subst hP hw hK
  obtain⟨⟨old,ge⟩,g1⟩:=st
  obtain⟨xs,B2,hl⟩:=hg
  obtain⟨ia,ra,pa,za⟩:=I.list B2
  have la:=ra.length
  refine wpAny_pyNext_enum_end (I.ok.hd hc) ge g1 pa.isList (by simp;omega) fun g kk=>⟨rfl,I.Aw (t':=s.toks) (fun c o hc q=>?_) hf⟩
  simp only[FE,FN,Gi,not_or]at hc
  exact kk c o hc.2 q
 self:=fun _ _ _ _ _ st h=>by
  obtain⟨⟨old,ge⟩,_⟩:=st
  exact Hx ge h
end L2
namespace Et
open PySem
open Sem (wp)
open AutoSeq1 (wpAny_loadPart')
def sn{P:Program}{w:World}{A:Around}(hh:A.handled=none)(it t:Addr)(hne:t≠it)(its:Vw) :
  Draws P w A it [it,t] its.size (fun i v=>its[i]?=some v) (fun i h=>h.IsTupleIter it t i/\h.IsTuple t its) where
 live:=fun i h st=>let ⟨⟨o,e,_⟩,_⟩:=st;⟨o,e⟩
 frame:=fun i h h' st k=>⟨st.1.at fun o e=>k it (by simp) o e,let ⟨o,e,r⟩:=st.2;⟨o,k t (by simp) o e,r⟩⟩
 item:=fun i s Q E hi st hQ=>Zt.nx st.1 st.2 (Array.getElem?_eq_getElem hi) fun g a b=>hQ _ g s.toks (Array.getElem?_eq_getElem hi) ⟨a,st.2.extBut b.extBut hne⟩ b
 done:=fun s Q E st hE=>Zt.ym hh st.1 st.2 (Hw (Ft _)) hE
noncomputable abbrev E1(h:Heap)(l:Addr):Heap:=h.push { cls:=.type "tuple_iterator",data:=.fields #[.ref l,.int 0 0] }
noncomputable abbrev E2(h:Heap)(l:Addr):Heap:=(E1 h l).push { cls:=.type "enumerate",data:=.fields #[.none,.bool false,.ref h.objs.size,rawInt 0,.none,.none] }
def nv(l:Addr)(its:Vw)(n:Nat)(dct:Option Addr)(sl:Array (Option Value)) :
  Meets (Builtin.«enumerate.__new__» ⟨[.type "enumerate",.ref l],[]⟩) (fun _ R s=>s.heap.get? l=some { cls:=.type "tuple",dict:=dct,data:=.seq its n,slots:=sl }/\R (.ok (.ret (.ref (E1 s.heap l).objs.size))) { s with heap:=E2 s.heap l }):=
 .of_wp fun prog w A R s h=>by
  obtain⟨hp,g,d,tk,os⟩:=s;obtain⟨hl,h⟩:=h
  have hsub:=sub_enumerate
  have T:Heap.IsTuple (Shared.heap ⟨hp,g,d,tk,os⟩) l its:=⟨_,hl,rfl,n,rfl⟩
  wp_walk using HN hl
  refine wpAny_stack_any fun st=>FJ ?_
  split
  ·rename_i c _ _ _ _ _
   cases (c == Value.type "enumerate")
   ·wp_walk using HN hl,G9 T
    exact⟨_,rfl,h⟩
   ·wp_walk using HN hl,G9 T
    exact⟨_,rfl,h⟩
  ·wp_walk using HN hl,G9 T
   exact⟨_,rfl,h⟩
def oI{P:Program}{w:World}{A:Around}{E:Vq}{s:Shared}{l:Addr}{its:Vw}{Q:Vq}(hT:s.heap.IsTuple l its)
  (k:∀g,IsEnum g (s.heap.objs.size+1) s.heap.objs.size 0 .none->g.IsTupleIter s.heap.objs.size l 0->(∀b o,s.heap.get? b=some o->g.get? b=some o)->Q (.ref (s.heap.objs.size+1)) { s with heap:=g }) :
  wpAny (model P w) A (call (.type "enumerate") [.ref l]) Q E s:=by
 obtain⟨⟨c,dct,dt,sl⟩,hl,hc,n,hd⟩:=hT
 replace hc:c = .type "tuple":=hc
 replace hd:dt = .seq its n:=hd
 subst hc hd
 refine callType_new F.called_enumerate (by decide) (F.typeCall_enumerate_1 _) (F.newCall_enumerate_1 _) (fun obj=>F.args_object_init_2 obj _) F.entry_enumerate_new (nv l its n dct sl) ⟨hl,?_⟩
 have hz:(E1 s.heap l).objs.size=s.heap.objs.size+1:=Heap.size_push ..
 show _/\_
 rw[hz]
 have he:IsEnum (E2 s.heap l) (s.heap.objs.size+1) s.heap.objs.size 0 .none:=by
  have q:=FT (E1 s.heap l) (o:={ cls:=.type "enumerate",data:=.fields #[.none,.bool false,.ref s.heap.objs.size,rawInt 0,.none,.none] }) rfl
  rw[hz]at q
  exact q
 exact⟨⟨_,he,rfl⟩,k _ he ⟨_,FA _ (FT _ rfl),rfl,rfl⟩ fun b o x=>FA _ (FA _ x)⟩
end Et
namespace L2
open PySem PySem.Spec PyProof.Rows
noncomputable def xE(K:Vo)(a:Addr):It:=
  ⟨fun i H=>∃xs x,zJ K H a xs/\xs[i]?=some x,
   fun i H v H'=>∃p x,v = .ref p/\H p=none/\H'=upd H p (.tup [.int (i:Nat),x])/\∀xs,zJ K H a xs->xs[i]?=some x,
   fun i H=>∃xs,zJ K H a xs/\xs.length=i⟩
def lU{P:Program}{w:World}{K:Vo}{elts:List Expr}{k0:Nat}{Bb:Pos}{e it a:Addr}(hei:e≠it)(EY:a≠e)(hai:a≠it) :
  kU P w K (.Tuple elts k0 Bb) (xE K a) [e,it] e (fun i h=>(∃old,IsEnum h e it i old)/\h.IsTupleIter it a i) where
 mem:=by simp
 obj:=fun i h st c hc=>by
  obtain⟨⟨old,ge⟩,⟨o1,e1,_,d1⟩⟩:=st
  simp only[FE,FN,Gi]at hc
  rcases hc with rfl|rfl
  ·exact⟨_,ge,fun v q=>by cases q⟩
  ·exact⟨_,e1,fun v q=>by rw[d1]at q;cases q⟩
 keep:=fun i h h' st k=>by
  obtain⟨⟨old,ge⟩,g1⟩:=st
  exact⟨⟨old,k e (by simp) _ ge⟩,g1.at fun o q=>k it (by simp) o q⟩
 item:=by
  intro X hP hw hK hc i pins s σ H E I hf st hg
  subst hP hw hK
  obtain⟨⟨old,ge⟩,g1⟩:=st
  obtain⟨xs,x,B2,hx⟩:=hg
  obtain⟨ia,ra,pa,za⟩:=I.tuple B2
  obtain⟨u,hu,ru⟩:=ra.get hx
  have hil:i < ia.toArray.size:=by
   rcases Nat.lt_or_ge i ia.length with q|q
   ·simpa using q
   ·rw[Gw q]at hu;cases hu
  refine wpAny_pyNext_enum_itemD (Et.sn (P:=X.prog) (w:=X.w) (A:=X.A.in1) (I.ok.hd hc) it a hai ia.toArray) ge ⟨g1,(show s.heap.IsTuple a ia.toArray from pa)⟩ hil hei (by simp[hei,G6 EY]) fun v g tk hv a1 a2 a3 a4 a5=>?_
  have ev:v=u:=by
   have q:ia[i]?=some v:=by simpa using hv
   rw[q]at hu
   exact Ga hu
  subst ev
  refine⟨_,rfl,wpAny_letOwnedTupleGo_enum (s:={ s with heap:=g,toks:=tk+1 }) a1 fun g' z' q'=>?_⟩
  have kk:∀c o,c ∉ [e,it]->s.heap.get? c=some o->g'.get? c=some o:=fun c o hc q=>by
   simp only[FE,FN,Gi,not_or]at hc
   exact(q'.2 c hc.1).trans (a5 c o hc.1 hc.2 q)
  have I1:Inv X pins σ H { s with heap:=g',toks:=tk+1 }:=I.Aw kk hf
  have f0:dL X pins H s.heap.objs.size:=I.AC (Ft _) (I.hok.fresh (Ft _))
  have DF:s.heap.objs.size≠e:=Ii (FD ge)
  have eT:zl g' s.heap.objs.size [Value.int i tk,v].toArray:=⟨_,(q'.2 _ DF).trans a3,rfl,rfl,_,rfl⟩
  have I2:=I1.BG (ys:=[.int i,x]) f0 eT (.cons ⟨_,rfl⟩ (.cons ru .nil)) (by show 2<=sizeLine;decide)
  refine⟨.ref s.heap.objs.size,_,I2,rfl,⟨s.heap.objs.size,x,rfl,f0.1,rfl,fun xs' h1=>by rw[I.AF h1 B2];exact hx⟩,⟨⟨v,by simpa using z'⟩,a2.1.at fun o q=>(q'.2 it hei.symm).trans q⟩,fun c hc=>?_⟩
  have hlt:c < s.heap.objs.size:=by
   obtain⟨o1,e1,_⟩:=g1
   simp only[FE,FN,Gi]at hc
   rcases hc with rfl|rfl
   ·exact FD ge
   ·exact FD e1
  rw[ay (FW hlt)]
  exact(hf c hc).1
 done:=by
  intro X hP hw hK hc i pins s σ H E I hf st hg
  subst hP hw hK
  obtain⟨⟨old,ge⟩,g1⟩:=st
  obtain⟨xs,B2,hl⟩:=hg
  obtain⟨ia,ra,pa,za⟩:=I.tuple B2
  have la:=ra.length
  have ei:i=ia.toArray.size:=by simp;omega
  subst ei
  refine wpAny_pyNext_enum_endD (Et.sn (P:=X.prog) (w:=X.w) (A:=X.A.in1) (I.ok.hd hc) it a hai ia.toArray) ge ⟨g1,(show s.heap.IsTuple a ia.toArray from pa)⟩ fun g kk=>⟨rfl,I.Aw (t':=s.toks) (fun c o hc q=>?_) hf⟩
  simp only[FE,FN,Gi,not_or]at hc
  exact kk c o hc.2 q
 self:=fun _ _ _ _ _ st h=>by
  obtain⟨⟨old,ge⟩,_⟩:=st
  exact Hx ge h
section
variable {X:Cx}
def nw:fF X (compareOp .IsNot) (fun x y H Q=>x = .bl true/\y = .bl true/\Q (.bl false) H):=by
 intro pins s σ H x y v u Q I rx ry h
 obtain⟨rfl,rfl,q⟩:=h
 cases (show v=Value.bool true from rx)
 cases (show u=Value.bool true from ry)
 exact wpAny_isNot_self rfl ⟨.bl false,H,I,rfl,q⟩
end
def oJ(w:World)(x:Str):PyData.keyHash w.params x=hashStr w x:=rfl
noncomputable abbrev wM(w:World)(x:Str×Int×Tok×Tok):DictEntry:=⟨PyData.keyHash w.params x.1,.str x.1 x.2.2.1,.int x.2.1 x.2.2.2⟩
def tV(P:Program)(w:World)(xs:List (Str×Int×Tok×Tok))(ep:Nat)(nd:(xs.map (·.1)).Nodup) :
  ∃vs,KV (xs.map fun x=>((Sum.inr x.1:a7),V.int x.2.1)) vs/\Obj.IsDictOf (aM P w) { cls:=.type "dict",data:=.dict (xs.map (wM w)).toArray ep } vs:=by
 refine⟨xs.map fun x=>((Sum.inr x.1:a7),Value.int x.2.1 x.2.2.2),?_,(xs.map (wM w)).toArray,ep,⟨rfl,rfl,rfl⟩,rfl,?_,?_,?_⟩
 ·induction xs with
  |nil=>exact .nil
  |cons x xs ih=>exact .cons ⟨rfl,_,rfl⟩ (ih (by simpa using(Gv.mp (by simpa using nd)).2))
 ·intro e he
  have he':e∈xs.map (wM w):=by simpa using he
  obtain⟨x,_,rfl⟩:=Gn.mp he'
  exact⟨Sum.inr x.1,gk x.1 x.2.2.1,oJ w x.1⟩
 ·have key:∀ys:List (Str×Int×Tok×Tok),Pairs (aM P w) (ys.map (wM w)) (ys.map fun x=>((Sum.inr x.1:a7),Value.int x.2.1 x.2.2.2)):=by
   intro ys
   induction ys with
   |nil=>exact .nil
   |cons y ys ih=>exact .cons (gk y.1 y.2.2.1) rfl ih
  exact key xs
 ·rw[Hy]
  have e:((fun x:a7×Value=>x.1) ∘ fun x:Str×Int×Tok×Tok=>((Sum.inr x.1:a7),Value.int x.2.1 x.2.2.2))=fun x=>Sum.inr x.1:=rfl
  have key:∀ys:List (Str×Int×Tok×Tok),(ys.map (·.1)).Nodup->(ys.map fun x=>(Sum.inr x.1:a7)).Nodup:=by
   intro ys
   induction ys with
   |nil=>intro _;exact List.nodup_nil
   |cons y ys ih=>
    intro h
    rw[FO,Gv]at h ⊢
    refine⟨fun hm=>h.1 ?_,ih h.2⟩
    obtain⟨z,hz,e⟩:=Gn.mp hm
    have e':z.1=y.1:=Sum.inr.inj e
    exact Gn.mpr ⟨z,hz,e'⟩
  exact key xs nd
end L2
namespace Wd
open PySem L2 PyProof.Rows
noncomputable def abc:Str:="abcdefghijklmnopqrstuvwxyz"
noncomputable def zm:List Str:=["jars","deed","rest","pay","put","then","either","take","often","use"]
def tW:∀i,i < 26->abc.cps.toList[i]?=some (97+i):=by decide +kernel
def ig:abc.length<=sizeLine/\abc.cps.toList.length=26:=by decide +kernel
def oK:∀i,i < 26->Builtin.Str.occurrences abc (j_ (97+i)) 0 abc.length 1=[i]:=by decide +kernel
theorem mI{α:Type} [BEq α] [LawfulBEq α]:∀{xs ys:List α},xs.Nodup->(∀x∈xs,x∈ys)->xs.length<=ys.length
 |[],ys,_,_=>Gq _
 |x::xs,ys,nd,h=>by
  have hx:=h x (Gx ..)
  have q:=mI (xs:=xs) (ys:=ys.erase x) (Gv.mp nd).2 fun y hy=>by
   have ne:y≠x:=fun e=>(Gv.mp nd).1 (e▸hy)
   exact(List.mem_erase_of_ne ne).mpr (h y (F1 _ hy))
  rw[List.length_erase_of_mem hx]at q
  have:=List.length_pos_of_mem hx
  rw[FG]
  omega
noncomputable def cand(r:List Nat)(i:Nat):Str:=⟨((97+i % 26)::r).toArray⟩
def oM{r:List Nat}{i j:Nat}(h:cand r i=cand r j):i % 26=j % 26:=by
 have e:(((97+i % 26)::r).toArray).toList=(((97+j % 26)::r).toArray).toList:=F5 (fun z:Str=>z.cps.toList) h
 simp only[G7]at e
 omega
def lV(r:List Nat)(c:Nat):((List.range 26).map fun i=>cand r (c+i)).Nodup:=by
 refine List.pairwise_map.mpr (List.Pairwise.imp_of_mem (R:=(·≠·)) ?_ List.nodup_range)
 intro a b ha hb ne e
 have h1:=G2.mp ha
 have h2:=G2.mp hb
 have h3:=oM e
 omega
def ny(r:List Nat)(c:Nat)(bad:Vs)(h:bad.length < 26):∃j,j < 26/\cand r (c+j) ∉ bad:=by
 refine Classical.byContradiction fun no=>?_
 have q:=mI (lV r c) (ys:=bad) fun x hx=>by
  obtain⟨j,hj,rfl⟩:=Gn.mp hx
  exact Classical.byContradiction fun z=>no ⟨j,G2.mp hj,z⟩
 rw[Fx,List.length_range]at q
 omega
structure IsW (z:Str):Prop where
 ne:z.cps.toList≠[]
 le:z.cps.toList.length<=6
 sm:∀c∈z.cps.toList,97<=c/\c<=122
theorem IsW.cand{z:Str}(h:IsW z):∃i r,z=Wd.cand r i/\i < 26/\r.length<=5/\∀c∈r,97<=c/\c<=122:=by
 obtain⟨⟨⟨l⟩⟩,ne,le,sm⟩:∃z',_/\_/\_:=⟨z,h.ne,h.le,h.sm⟩
 obtain⟨⟨l⟩⟩:=z
 cases l with
 |nil=>exact absurd rfl h.ne
 |cons c r=>
  have q:=h.sm c (Gx ..)
  refine⟨c - 97,r,?_,by omega,by have:=h.le;simp at this;omega,fun d hd=>h.sm d (F1 _ hd)⟩
  unfold Wd.cand
  rw[show 97+(c - 97) % 26=c by omega]
def oN{r:List Nat}(h:r.length<=5)(hs:∀c∈r,97<=c/\c<=122)(i:Nat):IsW (cand r i):=by
 refine⟨by simp[cand],by simp[cand];omega,fun c hc=>?_⟩
 have hc':c∈(97+i % 26)::r:=hc
 rcases FE.mp hc' with e|e
 ·omega
 ·exact hs c e
def IsW.len{z:Str}(h:IsW z):z.length<=6:=by have q:=h.le;rw[HS]at q;exact q
def IsW.line{z:Str}(h:IsW z):z.length<=sizeLine:=FI h.len (by decide)
def jF(r:List Nat)(i:Nat):zk (cand r i).cps.toList 0=some (97+i % 26):=dh (j:=0) rfl
def eA(r:List Nat)(i:Nat):Txt.slice (cand r i) (some 1) none=⟨r.toArray⟩:=by
 have e:Txt.slice (cand r i) (some 1) none=StrLaws.sliceText (cand r i) (some 1) none:=rfl
 rw[e,StrLaws.sliceText_from ⟨by decide,by simp[cand];omega⟩]
 simp[cand]
def jG(r:List Nat)(i:Nat):(j_ (97+(i+1) % 26):Str)++(⟨r.toArray⟩:Str)=cand r (i+1):=by
 refine Str.ext' ?_
 show #[97+(i+1) % 26]++r.toArray=_
 simp[cand]
def kc(i:Nat):zk abc.cps.toList ((i % 26:Nat):Int)=some (97+i % 26):=dh (tW _ (Nat.mod_lt _ (by decide)))
def iD(cs:List Nat):Txt.join "" (cs.map j_)=⟨cs.toArray⟩:=by
 have q:=join_nil_signs ⟨cs.toArray⟩
 have e:Txt.join "" (cs.map j_)=Str.join ⟨#[]⟩ (cs.map j_):=StrLaws.glued_eq_join _ _
 rw[e]
 exact q
def qW(cs:List Nat):((cs.map j_).map (·.length)).sum=cs.length:=by
 induction cs with
 |nil=>rfl
 |cons c r ih=>rw[FO,FO,List.sum_cons,ih,FG];show 1+r.length=_;omega
def qX{cs:List Nat}{a i:Nat}(h:cs.length<=5)(hs:∀c∈cs,97<=c/\c<=122)(ha:a<=cs.length)(hi:i < 26) :
  IsW (Txt.slice ⟨cs.toArray⟩ none (some (a:Int))++(j_ (97+i):Str)++Txt.slice ⟨cs.toArray⟩ (some (a:Int)) none)/\(Txt.slice ⟨cs.toArray⟩ none (some (a:Int))).length<=5/\(Txt.slice ⟨cs.toArray⟩ (some (a:Int)) none).length<=5:=by
 have e1:Txt.slice ⟨cs.toArray⟩ none (some (a:Int))=⟨(cs.take a).toArray⟩:=by
  have e:Txt.slice ⟨cs.toArray⟩ none (some (a:Int))=StrLaws.sliceText ⟨cs.toArray⟩ none (some (a:Int)):=rfl
  rw[e,StrLaws.sliceText_to ⟨by omega,by simp;omega⟩]
  simp
 have e2:Txt.slice ⟨cs.toArray⟩ (some (a:Int)) none=⟨(cs.drop a).toArray⟩:=by
  have e:Txt.slice ⟨cs.toArray⟩ (some (a:Int)) none=StrLaws.sliceText ⟨cs.toArray⟩ (some (a:Int)) none:=rfl
  rw[e,StrLaws.sliceText_from ⟨by omega,by simp;omega⟩]
  refine Str.ext' ?_
  show((cs.drop (a:Int).toNat).take ((cs.length:Int) - a).toNat).toArray=(cs.drop a).toArray
  rw[GN,List.take_of_length_le (by rw[Gj];omega)]
 rw[e1,e2]
 have e3:((⟨(cs.take a).toArray⟩:Str)++(j_ (97+i):Str)++(⟨(cs.drop a).toArray⟩:Str)).cps.toList=cs.take a++[97+i]++cs.drop a:=by
  show((cs.take a).toArray++#[97+i]++(cs.drop a).toArray).toList=_
  simp
 refine⟨⟨by rw[e3];simp,by rw[e3];simp;omega,fun c hc=>?_⟩,?_,?_⟩
 ·rw[e3]at hc
  rcases F4.mp hc with hc|hc
  ·rcases F4.mp hc with hc|hc
   ·exact hs c (List.mem_of_mem_take hc)
   ·rw[F2.mp hc];omega
  ·exact hs c (List.mem_of_mem_drop hc)
 ·show(cs.take a).toArray.size<=5
  rw[Fy,Ge];omega
 ·show(cs.drop a).toArray.size<=5
  rw[Fy,Gj];omega
end Wd
namespace M3
noncomputable def ke(t b:Int):Int:=(if b < 0 then -t else t) / (Int.gcd t b:Int)
noncomputable def k5(t b:Int):Int:=(if b < 0 then -b else b) / (Int.gcd t b:Int)
def fH{t b:Int}(h:b≠0):0 < Int.gcd t b:=Nat.gcd_pos_of_pos_right _ (by omega)
def tX{t b:Int}(h:b≠0):(Int.gcd t b:Int)<=b.natAbs:=by
 have q:Nat.gcd t.natAbs b.natAbs<=b.natAbs:=Nat.gcd_le_right _ (by omega)
 have e:Int.gcd t b=Nat.gcd t.natAbs b.natAbs:=rfl
 omega
def oO(t b:Int):Int.gcd (-t) (-b)=Int.gcd t b:=by rw[Int.gcd_neg,Int.neg_gcd]
def parts(t b:Int):∃x y:Int,t=(Int.gcd t b:Int) * x/\b=(Int.gcd t b:Int) * y:=by
 obtain⟨x,hx⟩:=Int.gcd_dvd_left t b
 obtain⟨y,hy⟩:=Int.gcd_dvd_right t b
 exact⟨x,y,hx,hy⟩
def tY{t b x y g:Int}(hg:g=(Int.gcd t b:Int))(h:b≠0)(ht:t=g * x)(hb:b=g * y):ke t b=(if y < 0 then -x else x)/\k5 t b=(if y < 0 then -y else y):=by
 have gp:0 < g:=by rw[hg];exact HP.mpr (fH h)
 have hy:b < 0↔y < 0:=by
  rw[hb]
  constructor
  ·intro q
   by_cases z:y < 0
   ·exact z
   ·have:=Int.mul_nonneg (HX gp) (Int.not_lt.mp z)
    omega
  ·intro q
   exact Int.mul_neg_of_pos_of_neg gp q
 unfold ke k5
 rw[<-hg]
 by_cases z:y < 0
 ·rw[if_pos (hy.mpr z),if_pos (hy.mpr z),if_pos z,if_pos z]
  constructor
  ·rw[ht,<-Int.mul_neg,GP _ (by omega)]
  ·rw[hb,<-Int.mul_neg,GP _ (by omega)]
 ·rw[if_neg (fun q=>z (hy.mp q)),if_neg (fun q=>z (hy.mp q)),if_neg z,if_neg z]
  constructor
  ·rw[ht,GP _ (by omega)]
  ·rw[hb,GP _ (by omega)]
def qY{t b x y:Int}(h:b≠0)(ht:t=(Int.gcd t b:Int) * x)(hb:b=(Int.gcd t b:Int) * y):Int.gcd x y=1:=by
 have gp:=fH (t:=t) h
 have q:Int.gcd ((Int.gcd t b:Int) * x) ((Int.gcd t b:Int) * y)=(Int.gcd t b:Int).natAbs * Int.gcd x y:=Int.gcd_mul_left _ _ _
 rw[<-ht,<-hb,Int.natAbs_natCast]at q
 have q2:Int.gcd t b * 1=Int.gcd t b * Int.gcd x y:=by omega
 exact(Nat.eq_of_mul_eq_mul_left gp q2).symm
structure x8 (a b:Int):Prop where
 pos:0 < b
 one:Int.gcd a b=1
def mJ{t b:Int}(h:b≠0):x8 (ke t b) (k5 t b):=by
 obtain⟨x,y,ht,hb⟩:=parts t b
 have c:=qY h ht hb
 obtain⟨e1,e2⟩:=tY rfl h ht hb
 have y0:y≠0:=fun z=>h (by rw[hb,z,Int.mul_zero])
 rw[e1,e2]
 by_cases z:y < 0
 ·rw[if_pos z,if_pos z]
  exact⟨by omega,by rw[oO];exact c⟩
 ·rw[if_neg z,if_neg z]
  exact⟨by omega,c⟩
def oP{t b:Int}(h:b≠0):t.fdiv (if b < 0 then -(Int.gcd t b:Int) else (Int.gcd t b:Int))=ke t b/\b.fdiv (if b < 0 then -(Int.gcd t b:Int) else (Int.gcd t b:Int))=k5 t b:=by
 have gp:(0:Int) < (Int.gcd t b:Int):=HP.mpr (fH h)
 have d1:=Int.gcd_dvd_left t b
 have d2:=Int.gcd_dvd_right t b
 unfold ke k5
 by_cases z:b < 0
 ·rw[if_pos z,if_pos z,if_pos z,Int.fdiv_neg (by omega),if_pos d1,Int.fdiv_neg (by omega),if_pos d2,GR d1,GR d2,Int.neg_ediv_of_dvd d1,Int.neg_ediv_of_dvd d2]
  exact⟨rfl,rfl⟩
 ·rw[if_neg z,if_neg z,if_neg z,GR d1,GR d2]
  exact⟨rfl,rfl⟩
def oQ(x y:Int):Int.gcd y (x.fmod y)=Int.gcd x y:=by
 have q:=Int.mul_fdiv_add_fmod x y
 have e:Int.gcd y (x.fmod y+x.fdiv y * y)=Int.gcd y (x.fmod y):=Int.gcd_add_mul_right_right _ _ _
 rw[<-e,Int.mul_comm (x.fdiv y) y,Int.add_comm,q,Int.gcd_comm]
def oR{t b T B:Int}(h:b≠0)(h1:-T<=t)(h2:t<=T)(h3:-B<=b)(h4:b<=B)(hT:0<=T)(hB:0<=B):-T<=ke t b/\ke t b<=T/\0 < k5 t b/\k5 t b<=B:=by
 have gp:(0:Int) < (Int.gcd t b:Int):=HP.mpr (fH h)
 have L:=(mJ (t:=t) h).pos
 have key:∀z M:Int,0<=M->-M<=z->z<=M->-M<=z / (Int.gcd t b:Int)/\z / (Int.gcd t b:Int)<=M:=fun z M hM z1 z2=>by
  generalize (Int.gcd t b:Int)=g at gp
  have m2:M * 1<=M * g:=Int.mul_le_mul_of_nonneg_left (by omega) hM
  have m3:-M * g = -(M * g):=Int.neg_mul M g
  exact⟨Int.le_ediv_of_mul_le gp (by omega),Int.ediv_le_of_le_mul gp (by omega)⟩
 have k1:=key (if b < 0 then -t else t) T hT (by split<;>omega) (by split<;>omega)
 have k2:=key (if b < 0 then -b else b) B hB (by split<;>omega) (by split<;>omega)
 exact⟨k1.1,k1.2,L,k2.2⟩
end M3
namespace Xc
open PySem PySem.W PySem.Calls PyProof.Rows Builtin Builtin.ObjectAttr
structure xF (h:Heap) (e:Addr) (oe:Obj) (vs:Vw):Prop where
 at_:h.get? e=some oe
 dat:oe.data = .fields vs
 tb:vs[1]?=some .none\/∃T oT ts,vs[1]?=some (.ref T)/\T≠e/\h.get? T=some oT/\oT.data = .fields ts/\ts[3]?=some .none
end Xc
namespace L2
open PySem PySem.Spec PyProof.Rows Xc
def yn(X:Cx)(pins:Va)(H:Hp)(h:Heap)(a C dx:Addr):Prop:=
 ∃oe vs,xF h a oe vs/\oe.cls = .ref C/\oe.dict=some dx/\dL X pins H a/\∀T,vs[1]?=some (.ref T)->dL X pins H T
def XD(dx:Addr)(fs:List (Str×V))(h:Heap):Prop:=∃mA,h.Ns1 dx mA/\(∀f,RelO (fs.lookup f) (mA f))/\PySem.Within mA (fs.map (·.1))
end L2
namespace L3
open PySem L2
inductive PV where
 |non|bl (b:Bool)|int (i:Int)|str (x:Str)|tup (xs:List PV)|cl (xs:List PV)|ref (a:Addr)|ty (n:String)|exc (c:Str) (ks:Vs) (ps:List PV)|cls (c:Str)
def CG(K:Vo)(H:Hp)(a:Addr)(xs:List V):Prop:=
 (∃o,H a=some (.frz o (.lst xs))) \/
  ∃(o:Obj) (its:Vw) (n:Nat),K.lookup a=some o/\o.cls = .type "list"/\o.dict=none/\o.data = .seq its n/\its.size<=sizeLine/\Vals xs its.toList
def CG.sq{K:Vo}{H:Hp}{a:Addr}{xs:List V}(h:CG K H a xs):SqL K H a xs:=h.elim (fun z=>.inl (.inr z)) .inr
def C7(H:Hp)(a C:Addr)(ks:Vs)(vs:List V):Prop:=
 ∃oe dx od,H a=some (.frz oe (.ext fun _=>True))/\oe.cls = .ref C/\oe.dict=some dx/\(∀c,oe.data ≠ .cls c)/\H dx=some (.frz od (.ext (XD dx (ks.zip vs))))
def qZ(K:Vo)(c:Str)(C:Addr):Prop:=PySem.W.nsIn K mainGlobals c=some (some (.ref C))
mutual
inductive Rep (K:Vo) (H:Hp):V->PV->Prop
 |non:Rep K H .non .non
 |bl (b:Bool):Rep K H (.bl b) (.bl b)
 |int (i:Int):Rep K H (.int i) (.int i)
 |str (x:Str):Rep K H (.str x) (.str x)
 |ty (n:String):Rep K H (.ty n) (.ty n)
 |ref (a:Addr):Rep K H (.ref a) (.ref a)
 |tup {a:Addr} {vs:List V} {ps:List PV}:zJ K H a vs->Reps K H vs ps->Rep K H (.ref a) (.tup ps)
 |cl {a:Addr} {vs:List V} {ps:List PV}:CG K H a vs->Reps K H vs ps->Rep K H (.ref a) (.cl ps)
 |exc {a C:Addr} {c:Str} {ks:Vs} {vs:List V} {ps:List PV}:qZ K c C->C7 H a C ks vs->Reps K H vs ps->Rep K H (.ref a) (.exc c ks ps)
 |cls {C:Addr} {c:Str}:qZ K c C->Rep K H (.ref C) (.cls c)
inductive Reps (K:Vo) (H:Hp):List V->List PV->Prop
 |nil:Reps K H [] []
 |cons {v:V} {p:PV} {vs:List V} {ps:List PV}:Rep K H v p->Reps K H vs ps->Reps K H (v::vs) (p::ps)
end
structure Grow (K:Vo) (H H':Hp):Prop where
 t:∀a vs,zJ K H a vs->zJ K H' a vs
 c:∀a vs,CG K H a vs->CG K H' a vs
 x:∀a o u,H a=some (.frz o u)->H' a=some (.frz o u)
def Grow.refl{K:Vo}{H:Hp}:Grow K H H:=⟨fun _ _ h=>h,fun _ _ h=>h,fun _ _ _ h=>h⟩
def Grow.trans{K:Vo}{H H1 H2:Hp}(a:Grow K H H1)(b:Grow K H1 H2):Grow K H H2:=⟨fun x vs h=>b.t x vs (a.t x vs h),fun x vs h=>b.c x vs (a.c x vs h),fun x o u h=>b.x x o u (a.x x o u h)⟩
def C7.mono{K:Vo}{H H':Hp}(g:Grow K H H'){a C:Addr}{ks:Vs}{vs:List V}(h:C7 H a C ks vs):C7 H' a C ks vs:=let ⟨oe,dx,od,h1,h2,h3,h4,h5⟩:=h;⟨oe,dx,od,g.x _ _ _ h1,h2,h3,h4,g.x _ _ _ h5⟩
def Grow.of{K:Vo}{H H':Hp}(h:∀a xs,H a=some (.tup xs)->H' a=some (.tup xs))(h2:∀a o u,H a=some (.frz o u)->H' a=some (.frz o u)):Grow K H H':=by
 refine⟨fun a vs q=>?_,fun a vs q=>?_,h2⟩
 ·rcases q with(q|⟨o,q⟩)|q
  ·exact .inl (.inl (h a vs q))
  ·exact .inl (.inr ⟨o,h2 a o _ q⟩)
  ·exact .inr q
 ·rcases q with⟨o,q⟩|q
  ·exact .inl ⟨o,h2 a o _ q⟩
  ·exact .inr q
def Grow.same{K:Vo}{H H':Hp}(h:∀c o,H c=some o->H' c=some o):Grow K H H':=.of (fun a _ q=>h a _ q) (fun a _ _ q=>h a _ q)
def Grow.new{K:Vo}{H:Hp}{p:Addr}{o:HO}(h:H p=none):Grow K H (upd H p o):=.same fun c u q=>by rw[ay (aU q h)];exact q
noncomputable def Mu:HO->Prop
 | .tup _=>False
 | .frz _ _=>False
 |_=>True
def Grow.mut{K:Vo}{H:Hp}{p:Addr}{o u:HO}(h:H p=some u)(m:Mu u):Grow K H (upd H p o):=
 .of (fun a xs q=>by rw[ay (fun e=>by subst e;rw[h]at q;cases q;exact m)];exact q) (fun a _ _ q=>by rw[ay (fun e=>by subst e;rw[h]at q;cases q;exact m)];exact q)
mutual
theorem Rep.mono{K:Vo}{H H':Hp}(g:Grow K H H'):∀{v:V} {p:PV},Rep K H v p->Rep K H' v p
 |_,_,.non=>.non
 |_,_,.bl b=>.bl b
 |_,_,.int i=>.int i
 |_,_,.str x=>.str x
 |_,_,.ty n=>.ty n
 |_,_,.ref a=>.ref a
 |_,_,.tup h r=>.tup (g.t _ _ h) (Reps.mono g r)
 |_,_,.cl h r=>.cl (g.c _ _ h) (Reps.mono g r)
 |_,_,.exc n h r=>.exc n (h.mono g) (Reps.mono g r)
 |_,_,.cls n=>.cls n
theorem Reps.mono{K:Vo}{H H':Hp}(g:Grow K H H'):∀{vs:List V} {ps:List PV},Reps K H vs ps->Reps K H' vs ps
 |_,_,.nil=>.nil
 |_,_,.cons a r=>.cons (Rep.mono g a) (Reps.mono g r)
end
theorem Reps.length{K:Vo}{H:Hp}:∀{vs:List V} {ps:List PV},Reps K H vs ps->vs.length=ps.length
 |_,_,.nil=>rfl
 |_,_,.cons _ r=>by rw[FG,FG,Reps.length r]
theorem Reps.append{K:Vo}{H:Hp}:∀{vs us:List V} {ps qs:List PV},Reps K H vs ps->Reps K H us qs->Reps K H (vs++us) (ps++qs)
 |_,_,_,_,.nil,s=>s
 |_,_,_,_,.cons a r,s=>.cons a (Reps.append r s)
theorem Reps.get{K:Vo}{H:Hp}:∀{vs:List V} {ps:List PV} {i:Nat} {p:PV},Reps K H vs ps->ps[i]?=some p->∃v,vs[i]?=some v/\Rep K H v p
 |_,_,_,_,.nil,e=>by simp at e
 |_,_,0,_,.cons a r,e=>by simp at e;subst e;exact⟨_,rfl,a⟩
 |_,_,i+1,p,.cons a r,e=>by
  obtain⟨v,h1,h2⟩:=Reps.get (i:=i) (p:=p) r (by simpa using e)
  exact⟨v,by simpa using h1,h2⟩
theorem Reps.take{K:Vo}{H:Hp}:∀{vs:List V} {ps:List PV} (n:Nat),Reps K H vs ps->Reps K H (vs.take n) (ps.take n)
 |_,_,0,_=>.nil
 |_,_,_+1,.nil=>.nil
 |_,_,n+1,.cons a r=>.cons a (Reps.take n r)
theorem Reps.drop{K:Vo}{H:Hp}:∀{vs:List V} {ps:List PV} (n:Nat),Reps K H vs ps->Reps K H (vs.drop n) (ps.drop n)
 |_,_,0,r=>r
 |_,_,_+1,.nil=>.nil
 |_,_,n+1,.cons _ r=>Reps.drop n r
theorem Reps.set{K:Vo}{H:Hp}{v:V}{p:PV}(q:Rep K H v p):∀{vs:List V} {ps:List PV} (n:Nat),Reps K H vs ps->Reps K H (vs.set n v) (ps.set n p)
 |_,_,_,.nil=>.nil
 |_,_,0,.cons _ r=>.cons q r
 |_,_,n+1,.cons a r=>.cons a (Reps.set q n r)
theorem Reps.eraseIdx{K:Vo}{H:Hp}:∀{vs:List V} {ps:List PV} (n:Nat),Reps K H vs ps->Reps K H (vs.eraseIdx n) (ps.eraseIdx n)
 |_,_,_,.nil=>.nil
 |_,_,0,.cons _ r=>r
 |_,_,n+1,.cons a r=>.cons a (Reps.eraseIdx n r)
theorem Reps.reverse{K:Vo}{H:Hp}:∀{vs:List V} {ps:List PV},Reps K H vs ps->Reps K H vs.reverse ps.reverse
 |_,_,.nil=>.nil
 |_,_,.cons a r=>by rw[Hu,Hu];exact(Reps.reverse r).append (.cons a .nil)
theorem Reps.dropLast{K:Vo}{H:Hp}{vs:List V}{ps:List PV}(r:Reps K H vs ps):Reps K H vs.dropLast ps.dropLast:=by
 rw[List.dropLast_eq_take,List.dropLast_eq_take,r.length]
 exact r.take _
inductive SO where
 |lst (xs:List PV)
 |dct (kvs:List (a7×PV))
 |ins (c:Str) (fs:List (Str×PV))
abbrev ax:=Addr->Option SO
noncomputable def aD(S:ax)(a:Addr)(o:SO):ax:=fun b=>if b=a then some o else S b
def ac{S:ax}{a:Addr}{o:SO}:aD S a o a=some o:=by unfold aD;rw[if_pos rfl]
def aq{S:ax}{a b:Addr}{o:SO}(h:b≠a):aD S a o b=S b:=by unfold aD;rw[if_neg h]
inductive yY (K:Vo) (H:Hp) {κ:Type}:List (κ×V)->List (κ×PV)->Prop
 |nil:yY K H [] []
 |cons {k:κ} {v:V} {p:PV} {vs:List (κ×V)} {ps:List (κ×PV)}:Rep K H v p->yY K H vs ps->yY K H ((k,v)::vs) ((k,p)::ps)
theorem yY.mono{K:Vo}{H H':Hp}(g:Grow K H H'){κ:Type}:∀{vs:List (κ×V)} {ps:List (κ×PV)},yY K H vs ps->yY K H' vs ps
 |_,_,.nil=>.nil
 |_,_,.cons a r=>.cons (a.mono g) (yY.mono g r)
theorem yY.length{K:Vo}{H:Hp}{κ:Type}:∀{vs:List (κ×V)} {ps:List (κ×PV)},yY K H vs ps->vs.length=ps.length
 |_,_,.nil=>rfl
 |_,_,.cons _ r=>by rw[FG,FG,yY.length r]
noncomputable def AY(K:Vo)(H:Hp)(a:Addr):SO->Prop
 | .lst xs=>∃vs,H a=some (.lst vs)/\Reps K H vs xs
 | .dct kvs=>∃kv,H a=some (.dK kv)/\yY K H kv kvs
 | .ins c fs=>∃C dx f',qZ K c C/\H a=some (.ins C dx f')/\yY K H f' fs
theorem AY.stay{K:Vo}{H H':Hp}(g:Grow K H H'){a:Addr}(e:H' a=H a):∀{o:SO},AY K H a o->AY K H' a o
 | .lst _,⟨vs,h,r⟩=>⟨vs,e.trans h,r.mono g⟩
 | .dct _,⟨vs,h,r⟩=>⟨vs,e.trans h,r.mono g⟩
 | .ins _ _,⟨C,dx,vs,n,h,r⟩=>⟨C,dx,vs,n,e.trans h,r.mono g⟩
theorem AY.some{K:Vo}{H:Hp}{a:Addr}:∀{o:SO},AY K H a o->∃u,H a=Option.some u/\Mu u
 | .lst _,⟨_,h,_⟩=>⟨_,h,trivial⟩
 | .dct _,⟨_,h,_⟩=>⟨_,h,trivial⟩
 | .ins _ _,⟨_,_,_,_,h,_⟩=>⟨_,h,trivial⟩
def yI(K:Vo)(H:Hp)(S:ax):Prop:=∀a o,S a=some o->AY K H a o
def yI.free{K:Vo}{H:Hp}{S:ax}(r:yI K H S){p:Addr}(h:H p=none):S p=none:=by
 cases e:S p with
 |none=>rfl
 |some o=>
  obtain⟨u,q,_⟩:=(r p o e).some
  rw[h]at q;cases q
def yI.grow{K:Vo}{H H':Hp}{S:ax}(r:yI K H S)(h:∀c o,H c=some o->H' c=some o):yI K H' S:=fun a o e=>by
 obtain⟨u,q,_⟩:=(r a o e).some
 exact(r a o e).stay (.same h) ((h a u q).trans q.symm)
def yI.other{K:Vo}{H:Hp}{S:ax}(r:yI K H S){p:Addr}{o:HO}(h:H p=none):yI K (upd H p o) S:=r.grow fun c u q=>by rw[ay (aU q h)];exact q
theorem yI.new{K:Vo}{H:Hp}{S:ax}(r:yI K H S){p:Addr}{u:HO}{o:SO}(h:H p=none)(q:AY K (upd H p u) p o):yI K (upd H p u) (aD S p o):=fun a x e=>by
 by_cases z:a=p
 ·subst z;rw[ac]at e;cases e;exact q
 ·rw[aq z]at e;exact(r a x e).stay (.new h) (ay z)
def yI.put{K:Vo}{H:Hp}{S:ax}(r:yI K H S){p:Addr}{u0 u:HO}{o:SO}(h:H p=some u0)(m:Mu u0)(q:AY K (upd H p u) p o):yI K (upd H p u) (aD S p o):=fun a x e=>by
 by_cases z:a=p
 ·subst z;rw[ac]at e;cases e;exact q
 ·rw[aq z]at e;exact(r a x e).stay (.mut h m) (ay z)
abbrev b5:=List (Option PV)
noncomputable def lk:b5->Nat->Option PV
 |[],_=>none
 |x::_,0=>x
 |_::r,i+1=>lk r i
def oS{σ:b5}{i:Nat}{p:PV}(h:lk σ i=some p):σ[i]?=some (some p):=by
 induction σ generalizing i with
 |nil=>cases h
 |cons x r ih=>
  cases i with
  |zero=>exact F5 some h
  |succ i=>exact ih h
structure yL (K:Vo) (H:Hp) (σ:St) (σ3:b5):Prop where
 len:σ.length=σ3.length
 at':∀(i:Nat) (p:PV),σ3[i]?=some (some p)->∃v,σ[i]?=some (some v)/\Rep K H v p
theorem yL.mono{K:Vo}{H H':Hp}{σ:St}{σ3:b5}(r:yL K H σ σ3)(g:Grow K H H'):yL K H' σ σ3:=⟨r.len,fun i p e=>let ⟨v,h,q⟩:=r.at' i p e;⟨v,h,q.mono g⟩⟩
theorem yL.set{K:Vo}{H:Hp}{σ:St}{σ3:b5}(r:yL K H σ σ3){v:V}{p:PV}(q:Rep K H v p)(i:Nat):yL K H (σ.set i (some v)) (σ3.set i (some p)):=by
 refine⟨by rw[List.length_set,List.length_set,r.len],fun j x e=>?_⟩
 rw[List.getElem?_set]at e ⊢
 split at e
 ·rename_i hij
  rw[if_pos hij]
  subst hij
  split at e
  ·rename_i hl
   cases e
   rw[if_pos (by rw[r.len];exact hl)]
   exact⟨v,rfl,q⟩
  ·cases e
 ·rename_i hij
  rw[if_neg hij]
  exact r.at' j x e
abbrev bS:=PV->ax->Prop
abbrev b9:=PV->b5->ax->Prop
abbrev aW:=b5->ax->bS->b9->Prop
abbrev hV:=b5->ax->(Bool->ax->Prop)->b9->Prop
abbrev yo:=b5->ax->(List PV->ax->Prop)->b9->Prop
structure k6 where
 nx:b5->ax->Prop
 rt:bS
 ex:b9
 bk:b5->ax->Prop:=fun _ _=>False
 ct:b5->ax->Prop:=fun _ _=>False
abbrev bv:=k6->b5->ax->Prop
def BA(X:Cx)(H:Hp)(E:b9):Prop:=∀(c:Str) (ks:Vs) (ps:List PV) (σ3:b5) (S':ax) (H':Hp) (pins:Va) (σ:St) (s':Shared) (a C dx:Addr) (od:Obj) (vs:List V),E (.exc c ks ps) σ3 S'->qZ X.K c C->vs.length=ks.length->
 H' dx=some (.frz od (.ext (XD dx (ks.zip vs))))->Reps X.K H' vs ps->yI X.K H' S'->yL X.K H' σ σ3->Grow X.K H H'->Inv X pins σ H' s'->yn X pins H' s'.heap a C dx->X.xe (.ref a) s'
def BA.mono{X:Cx}{H H':Hp}{E:b9}(x:BA X H E)(g:Grow X.K H H'):BA X H' E:=fun c ks ps σ3 S' H2 pins σ s' a C dx od vs h1 h2 h3 h4 h5 h6 h7 h8 h9 DG=>x c ks ps σ3 S' H2 pins σ s' a C dx od vs h1 h2 h3 h4 h5 h6 h7 (g.trans h8) h9 DG
def BB(K:Vo)(H:Hp)(Q3:bS)(Q:VK):Prop:=∀p S' v H',Q3 p S'->Rep K H' v p->yI K H' S'->Grow K H H'->Q v H'
def BB.mono{K:Vo}{H H':Hp}{Q3:bS}{Q:VK}(r:BB K H Q3 Q)(g:Grow K H H'):BB K H' Q3 Q:=fun p S' v H2 h1 h2 h3 h4=>r p S' v H2 h1 h2 h3 (g.trans h4)
def CH(K:Vo)(H:Hp)(N3:b5->ax->Prop)(N:St->Hp->Prop):Prop:=∀σ3 S' σ H',N3 σ3 S'->yL K H' σ σ3->yI K H' S'->Grow K H H'->N σ H'
def CH.mono{K:Vo}{H H':Hp}{Q3:b5->ax->Prop}{Q:St->Hp->Prop}(r:CH K H Q3 Q)(g:Grow K H H'):CH K H' Q3 Q:=fun p S' v H2 h1 h2 h3 h4=>r p S' v H2 h1 h2 h3 (g.trans h4)
inductive LE (X:Cx) (t:aW) (σ:L2.St) (H:Hp) (Q:VK):Prop
 |mk (σ3 S Q3 E3) (rσ:yL X.K H σ σ3) (rS:yI X.K H S) (h:t σ3 S Q3 E3) (xo:BA X H E3) (k:BB X.K H Q3 Q):LE X t σ H Q
inductive LT (X:Cx) (t:hV) (σ:L2.St) (H:Hp) (Q:Bool->Hp->Prop):Prop
 |mk (σ3 S Q3 E3) (rσ:yL X.K H σ σ3) (rS:yI X.K H S) (h:t σ3 S Q3 E3) (xo:BA X H E3) (k:∀b S' H',Q3 b S'->yI X.K H' S'->Grow X.K H H'->Q b H'):LT X t σ H Q
inductive LS (X:Cx) (t:bv) (D:lH) (σ:L2.St) (H:Hp):Prop
 |mk (σ3 S D3) (rσ:yL X.K H σ σ3) (rS:yI X.K H S) (h:t D3 σ3 S) (xo:BA X H D3.ex) (nx:CH X.K H D3.nx D.nx) (rt:BB X.K H D3.rt D.rt) (bk:CH X.K H D3.bk D.bk) (ct:CH X.K H D3.ct D.ct):LS X t D σ H
structure aZ (X:Cx) (e:Expr) (t:aW):Prop where
 ok:PE X e (LE X t)
structure lW (X:Cx) (e:Expr) (t:hV):Prop where
 ok:PT X e (LT X t)
structure tZ (X:Cx) (e:Expr) (t:hV):Prop where
 ok:PW X e (LT X t)
structure mK (X:Cx) (st:Stmt) (t:bv):Prop where
 ok:PS X st (LS X t)
structure iE (X:Cx) (st:List Stmt) (t:bv):Prop where
 ok:Ba X st (LS X t)
def aO{X:Cx}{e:Expr}{t t':TE}(h:PE X e t)(k:∀σ H Q,t' σ H Q->t σ H Q):PE X e t':=fun pins s σ H Q I q=>h pins s σ H Q I (k σ H Q q)
def lX{X:Cx}{e:Expr}{t t':TT}(h:PT X e t)(k:∀σ H Q,t' σ H Q->t σ H Q):PT X e t':=fun pins s σ H Q I q=>h pins s σ H Q I (k σ H Q q)
def oU{X:Cx}{e:Expr}{t t':TT}(h:PW X e t)(k:∀σ H Q,t' σ H Q->t σ H Q):PW X e t':=fun wh pins s σ H Q I q=>h wh pins s σ H Q I (k σ H Q q)
def cK{X:Cx}{e:Stmt}{t t':TS}(h:PS X e t)(k:∀D σ H,t' D σ H->t D σ H):PS X e t':=fun pins s σ H D I q=>h pins s σ H D I (k D σ H q)
def mL{X:Cx}{e:List Stmt}{t t':TS}(h:Ba X e t)(k:∀D σ H,t' D σ H->t D σ H):Ba X e t':=fun pins s σ H D I q=>h pins s σ H D I (k D σ H q)
section
variable {X:Cx} {a b c e o:Expr} {es:List Expr} {ta tb tc te:aW} {pos:Pos}
def v3(i:Nat):aW:=fun σ S Q _=>match lk σ i with|some p=>Q p S|none=>False
def ad(i:Nat){x:Str}(hN:X.N[i]?=some x:=by rfl)(hv:wF X.env.scope x:=by first|exact Or.inl rfl|exact Or.inr (Or.inl rfl)|exact Or.inr (Or.inr rfl))(hd:(x == ("__debug__":Str))=false:=by decide)
  (hcd:(x == ("__classdict__":Str))=false:=by decide):aZ X (.Name x pos) (v3 i):=
 ⟨aO (sF hN hv hd hcd) fun σ H Q ⟨σ3,S,Q3,E3,rσ,rS,h,xo,k⟩=>by
  unfold v3 at h
  split at h
  ·rename_i p e
   obtain⟨v,ev,rv⟩:=rσ.at' i p (oS e)
   exact⟨v,ev,k p S v H h rv rS .refl⟩
  ·exact h.elim⟩
def c3(p:PV):aW:=fun _ S Q _=>Q p S
def ab{i:Int}{j:Nat}:aZ X (.Constant (.int i) j pos) (c3 (.int i)):=⟨aO sG fun σ H Q ⟨σ3,S,Q3,E3,rσ,rS,h,xo,k⟩=>k _ S _ H h (.int i) rS .refl⟩
def hW{i:Bool}{j:Nat}:aZ X (.Constant (.bool i) j pos) (c3 (.bl i)):=⟨aO vk fun σ H Q ⟨σ3,S,Q3,E3,rσ,rS,h,xo,k⟩=>k _ S _ H h (.bl i) rS .refl⟩
def ap{i:Str}{j:Nat}:aZ X (.Constant (.str i) j pos) (c3 (.str i)):=⟨aO sI fun σ H Q ⟨σ3,S,Q3,E3,rσ,rS,h,xo,k⟩=>k _ S _ H h (.str i) rS .refl⟩
def oV{j:Nat}:aZ X (.Constant .none j pos) (c3 .non):=⟨aO sH fun σ H Q ⟨σ3,S,Q3,E3,rσ,rS,h,xo,k⟩=>k _ S _ H h .non rS .refl⟩
def xG{x:Str}{n:String}(hg:Gl X x)(hm:X.mg x=none)(hv:bootBuiltins x=some (.type n))(hn:x ≠ "__name__":=by decide)(hd:(x == ("__debug__":Str))=false:=by decide):aZ X (.Name x pos) (c3 (.ty n)):=
 ⟨aO (qj (v:=.ty n) hg hm hv rfl hn hd) fun σ H Q ⟨σ3,S,Q3,E3,rσ,rS,h,xo,k⟩=>k _ S _ H h (.ty n) rS .refl⟩
noncomputable def bL:List aW->yo
 |[],_,S,Q,_=>Q [] S
 |t::ts,σ,S,Q,E=>t σ S (fun x S1=>bL ts σ S1 (fun xs S2=>Q (x::xs) S2) E) E
noncomputable def wN:List TE->TA
 |[]=>vK
 |t::ts=>sg t (wN ts)
structure kf (X:Cx) (es:List Expr) (ts:List aW):Prop where
 ok:PA X es (wN (ts.map (LE X)))
def fI:kf X [] []:=⟨tz⟩
def oW{ts:List aW}(hs:starEach (e::es) X.env=(false,eval e X.env)::starEach es X.env)(ha:aZ X e te)(hr:kf X es ts):kf X (e::es) (te::ts):=⟨qB ha.ok hr.ok hs⟩
theorem cg:∀{ts:List aW} {σ:L2.St} {H:Hp} {Q:List V->Hp->Prop} {σ3:b5} {S:ax} {Q3:List PV->ax->Prop} {E3:b9},yL X.K H σ σ3->yI X.K H S->bL ts σ3 S Q3 E3->BA X H E3->
  (∀ps S' vs H',ps.length=ts.length->Q3 ps S'->Reps X.K H' vs ps->yI X.K H' S'->Grow X.K H H'->Q vs H')->wN (ts.map (LE X)) σ H Q
 |[],σ,H,Q,σ3,S,Q3,E3,rσ,rS,h,xo,k=>k [] S [] H rfl h .nil rS .refl
 |t::ts,σ,H,Q,σ3,S,Q3,E3,rσ,rS,h,xo,k=>
  ⟨σ3,S,_,E3,rσ,rS,h,xo,fun p S1 v H1 h1 rv yU g1=>cg (rσ.mono g1) yU h1 (xo.mono g1) fun ps S2 vs H2 hl h2 DH AD g2=>k (p::ps) S2 (v::vs) H2 (by rw[FG,FG,hl]) h2 (.cons (rv.mono g2) DH) AD (g1.trans g2)⟩
def aJ(ts:List aW):aW:=fun σ S Q E=>bL ts σ S (fun xs S1=>Q (.tup xs) S1) E
def aC{ts:List aW}{x1:Nat}(h:kf X es ts)(hn:ts.length<=1000:=by exact HD rfl):aZ X (.Tuple es x1 pos) (aJ ts):=
 ⟨aO (tD h.ok) fun σ H Q ⟨σ3,S,Q3,E3,rσ,rS,hq,xo,k⟩=>cg rσ rS hq xo fun ps S' vs H' hl q rv Ae g=>
  ⟨Hl (cR (by rw[rv.length,hl];exact hn)),fun p hp=>k _ S' _ _ q (.tup (zJ.of aB) (rv.mono (.new hp))) (Ae.other hp) (g.trans (.new hp))⟩⟩
def dj(ts:List aW):aW:=fun σ S Q E=>bL ts σ S (fun xs S1=>∀p,S1 p=none->Q (.ref p) (aD S1 p (.lst xs))) E
def cj{ts:List aW}(h:kf X es ts)(hn:ts.length<=1000:=by exact HD rfl):aZ X (.List es pos) (dj ts):=
 ⟨aO (tE h.ok) fun σ H Q ⟨σ3,S,Q3,E3,rσ,rS,hq,xo,k⟩=>cg rσ rS hq xo fun ps S' vs H' hl q rv Ae g=>
  ⟨Hl (cR (by rw[rv.length,hl];exact hn)),fun p hp=>k _ _ _ _ (q p (Ae.free hp)) (.ref p) (Ae.new hp ⟨vs,aB,rv.mono (.new hp)⟩) (g.trans (.new hp))⟩⟩
abbrev R3:=PV->PV->ax->bS->Prop
inductive LR (X:Cx) (r:R3) (x y:V) (H:Hp) (Q:VK):Prop
 |mk (px py S Q3) (rx:Rep X.K H x px) (ry:Rep X.K H y py) (rS:yI X.K H S) (h:r px py S Q3) (k:BB X.K H Q3 Q):LR X r x y H Q
structure gu (X:Cx) (f:Value->Value->Sem Value) (r:R3):Prop where
 ok:fF X f (LR X r)
def ah(r:R3)(ta tb:aW):aW:=fun σ S Q E=>ta σ S (fun x S1=>tb σ S1 (fun y S2=>r x y S2 Q) E) E
def ij{r:R3}{σ:L2.St}{H:Hp}{Q:VK}:LE X (ah r ta tb) σ H Q->vA (LR X r) (LE X ta) (LE X tb) σ H Q:=fun⟨σ3,S,Q3,E3,rσ,rS,h,xo,k⟩=>
 ⟨σ3,S,_,E3,rσ,rS,h,xo,fun x S1 v H1 h1 rx yU g1=>⟨σ3,S1,_,E3,rσ.mono g1,yU,h1,xo.mono g1,fun y S2 u H2 h2 ry AD g2=>⟨x,y,S2,Q3,rx.mono g2,ry,AD,h2,k.mono (g1.trans g2)⟩⟩⟩
def az{op:Operator}{r:R3}(ho:gu X (binaryOp op) r)(ha:aZ X a ta)(hb:aZ X b tb):aZ X (.BinOp a op b pos) (ah r ta tb):=⟨aO (vB ho.ok ha.ok hb.ok) fun _ _ _=>ij⟩
def eR{op:CmpOp}{r:R3}(ho:gu X (compareOp op) r)(ha:aZ X a ta)(hb:aZ X b tb)(hm:behindInMarks op b=false):aZ X (.Compare a [op] [b] pos) (ah r ta tb):=⟨aO (qy ho.ok ha.ok hb.ok hm) fun _ _ _=>ij⟩
def a6(t:aW):hV:=fun σ S Q E=>t σ S (fun v S'=>match v with | .bl k=>Q k S'|_=>False) E
def oX{σ:L2.St}{H:Hp}{Q:Bool->Hp->Prop}:LT X (a6 te) σ H Q->LE X te σ H (fun x H'=>∃k,x = .bl k/\Q k H'):=fun⟨σ3,S,Q3,E3,rσ,rS,h,xo,k⟩=>
 ⟨σ3,S,_,E3,rσ,rS,h,xo,fun p S' v H' h1 rv Ae g=>by
  cases p with
  |bl z=>cases rv;exact⟨z,rfl,k z S' H' h1 Ae g⟩
  |_=>exact h1.elim⟩
def bg{op:CmpOp}{r:R3}(ho:gu X (compareOp op) r)(ha:aZ X a ta)(hb:aZ X b tb)(hm:behindInMarks op b=false):lW X (.Compare a [op] [b] pos) (a6 (ah r ta tb)):=
 ⟨lX (qA ho.ok ha.ok hb.ok hm) fun σ H Q ⟨σ3,S,Q3,E3,rσ,rS,h,xo,k⟩=>ij ⟨σ3,S,_,E3,rσ,rS,h,xo,fun p S' v H' h1 rv Ae g=>by
  cases p with
  |bl z=>cases rv;exact⟨z,rfl,k z S' H' h1 Ae g⟩
  |_=>exact h1.elim⟩⟩
def dP(h:aZ X e te)(he:∀whole,isTrue e X.env whole=(do let v <-whole;standAt e.pos;holding [v] (truthy v)):=by intro _;rfl):lW X e (a6 te):=
 ⟨lX (sJ h.ok he) fun σ H Q q=>oX q⟩
end
section
variable {X:Cx} {a b c:Expr} {rest:List Expr} {ta tb te:aW} {tA tB:hV} {pos:Pos}
def nz(t u:hV):hV:=fun σ S Q E=>t σ S (fun c S1=>if c=true then u σ S1 Q E else Q false S1) E
def jH(t u:hV):hV:=fun σ S Q E=>t σ S (fun c S1=>if c=true then Q true S1 else u σ S1 Q E) E
def gv(t:hV):hV:=fun σ S Q E=>t σ S (fun c S1=>Q (!c) S1) E
def oY(ha:lW X a tA):tZ X (.BoolOp .And [a] pos) tA:=⟨qk ha.ok⟩
def eS(ha:lW X a tA):tZ X (.BoolOp .Or [a] pos) tA:=⟨sK ha.ok⟩
def sr(ha:lW X a tA)(hb:tZ X (.BoolOp .And (b::rest) pos) tB):tZ X (.BoolOp .And (a::b::rest) pos) (nz tA tB):=
 ⟨oU (sL ha.ok hb.ok) fun σ H Q ⟨σ3,S,Q3,E3,rσ,rS,h,xo,k⟩=>⟨σ3,S,_,E3,rσ,rS,h,xo,fun c S1 H1 h1 yU g1=>by
  cases c with
  |true=>rw[if_pos rfl]at h1 ⊢;exact⟨σ3,S1,Q3,E3,rσ.mono g1,yU,h1,xo.mono g1,fun b S2 H2 h2 AD g2=>k b S2 H2 h2 AD (g1.trans g2)⟩
  |false=>rw[if_neg (by decide)]at h1 ⊢;exact k false S1 H1 h1 yU g1⟩⟩
def gw(ha:lW X a tA)(hb:tZ X (.BoolOp .Or (b::rest) pos) tB):tZ X (.BoolOp .Or (a::b::rest) pos) (jH tA tB):=
 ⟨oU (vm ha.ok hb.ok) fun σ H Q ⟨σ3,S,Q3,E3,rσ,rS,h,xo,k⟩=>⟨σ3,S,_,E3,rσ,rS,h,xo,fun c S1 H1 h1 yU g1=>by
  cases c with
  |true=>rw[if_pos rfl]at h1 ⊢;exact k true S1 H1 h1 yU g1
  |false=>rw[if_neg (by decide)]at h1 ⊢;exact⟨σ3,S1,Q3,E3,rσ.mono g1,yU,h1,xo.mono g1,fun b S2 H2 h2 AD g2=>k b S2 H2 h2 AD (g1.trans g2)⟩⟩⟩
def nZ(h:tZ X a tA):lW X a tA:=⟨h.ok.pt⟩
def fJ(ha:lW X a tA):lW X (.UnaryOp .Not a pos) (gv tA):=
 ⟨lX (sM ha.ok) fun σ H Q ⟨σ3,S,Q3,E3,rσ,rS,h,xo,k⟩=>⟨σ3,S,_,E3,rσ,rS,h,xo,fun c S1 H1 h1 yU g1=>k (!c) S1 H1 h1 yU g1⟩⟩
def dG(t u:aW):aW:=fun σ S Q E=>t σ S (fun v S1=>match v with | .bl c=>if c=true then u σ S1 Q E else Q (.bl false) S1|_=>False) E
def k7(t:aW):aW:=fun σ S Q E=>t σ S (fun v S1=>match v with | .bl c=>Q (.bl (!c)) S1|_=>False) E
def jI{op:BoolOp}(h:aZ X a ta):aZ X (.BoolOp op [a] pos) ta:=⟨sN h.ok⟩
def gV(ha:aZ X a ta)(hb:aZ X (.BoolOp .And (b::rest) pos) tb):aZ X (.BoolOp .And (a::b::rest) pos) (dG ta tb):=
 ⟨aO (sO ha.ok hb.ok) fun σ H Q ⟨σ3,S,Q3,E3,rσ,rS,h,xo,k⟩=>⟨σ3,S,_,E3,rσ,rS,h,xo,fun p S1 v H1 h1 rv yU g1=>by
  cases p with
  |bl z=>
   cases rv
   refine⟨z,rfl,?_⟩
   cases z with
   |true=>rw[if_pos rfl];exact⟨σ3,S1,Q3,E3,rσ.mono g1,yU,h1,xo.mono g1,k.mono g1⟩
   |false=>rw[if_neg (by decide)];exact k _ S1 _ H1 h1 (.bl false) yU g1
  |_=>exact h1.elim⟩⟩
def v5(ha:aZ X a ta):aZ X (.UnaryOp .Not a pos) (k7 ta):=
 ⟨aO (sP ha.ok) fun σ H Q ⟨σ3,S,Q3,E3,rσ,rS,h,xo,k⟩=>⟨σ3,S,_,E3,rσ,rS,h,xo,fun p S1 v H1 h1 rv yU g1=>by
  cases p with
  |bl z=>cases rv;exact⟨z,rfl,k _ S1 _ H1 h1 (.bl _) yU g1⟩
  |_=>exact h1.elim⟩⟩
def nA(t:hV)(ta tb:aW):aW:=fun σ S Q E=>t σ S (fun c S1=>if c=true then ta σ S1 Q E else tb σ S1 Q E) E
def ss(hc:lW X c tA)(ha:aZ X a ta)(hb:aZ X b tb):aZ X (.IfExp c a b pos) (nA tA ta tb):=
 ⟨aO (n_ hc.ok ha.ok hb.ok) fun σ H Q ⟨σ3,S,Q3,E3,rσ,rS,h,xo,k⟩=>⟨σ3,S,_,E3,rσ,rS,h,xo,fun c S1 H1 h1 yU g1=>by
  cases c with
  |true=>rw[if_pos rfl]at h1 ⊢;exact⟨σ3,S1,Q3,E3,rσ.mono g1,yU,h1,xo.mono g1,k.mono g1⟩
  |false=>rw[if_neg (by decide)]at h1 ⊢;exact⟨σ3,S1,Q3,E3,rσ.mono g1,yU,h1,xo.mono g1,k.mono g1⟩⟩⟩
abbrev v6:=PV->ax->bS->Prop
noncomputable def yp(X:Cx)(r:v6):V->Hp->VK->Prop:=fun x H Q=>∃px S Q3,Rep X.K H x px/\yI X.K H S/\r px S Q3/\BB X.K H Q3 Q
structure x9 (X:Cx) (f:Value->Sem Value) (r:v6):Prop where
 ok:wI X f (yp X r)
def kP(r:v6)(ta:aW):aW:=fun σ S Q E=>ta σ S (fun x S1=>r x S1 Q) E
def gx{op:UnaryOp}{r:v6}(ho:x9 X (unaryOp op) r)(ha:aZ X a ta):aZ X (.UnaryOp op a pos) (kP r ta):=
 ⟨aO (vC ho.ok ha.ok) fun σ H Q ⟨σ3,S,Q3,E3,rσ,rS,h,xo,k⟩=>⟨σ3,S,_,E3,rσ,rS,h,xo,fun p S1 v H1 h1 rv yU g1=>⟨p,S1,Q3,rv,yU,h1,k.mono g1⟩⟩⟩
noncomputable def dJ:v6:=fun x S Q=>match x with | .int i=>Q (.int (-i)) S|_=>False
def bU:x9 X (unaryOp .USub) dJ:=⟨fun pins s σ H x v Q I rx ⟨px,S,Q3,r1,rS,h,k⟩=>by
 cases px with
 |int i=>cases r1;exact tw pins s σ H _ v Q I rx ⟨i,rfl,k _ S _ H h (.int _) rS .refl⟩
 |_=>exact h.elim⟩
end
section
variable {X:Cx}
def e_(g:Int->Int->PV):R3:=fun x y S Q=>match x,y with | .int i,.int j=>Q (g i j) S|_,_=>False
def eU(C:Int->Int->Prop)(g:Int->Int->PV):R3:=fun x y S Q=>match x,y with | .int i,.int j=>C i j/\Q (g i j) S|_,_=>False
def t3{f:Value->Value->Sem Value}{g:Int->Int->Int}(h:fF X f (qv fun i j=>.int (g i j))):gu X f (e_ fun i j=>.int (g i j)):=⟨fun pins s σ H x y v u Q I rx ry ⟨px,py,S,Q3,r1,r2,rS,q,k⟩=>by
 cases px with
 |int i=>
  cases py with
  |int j=>cases r1;cases r2;exact h pins s σ H _ _ v u Q I rx ry ⟨i,j,rfl,rfl,k _ S _ H q (.int _) rS .refl⟩
  |_=>exact q.elim
 |_=>exact q.elim⟩
def kg{f:Value->Value->Sem Value}{g:Int->Int->Bool}(h:fF X f (qv fun i j=>.bl (g i j))):gu X f (e_ fun i j=>.bl (g i j)):=⟨fun pins s σ H x y v u Q I rx ry ⟨px,py,S,Q3,r1,r2,rS,q,k⟩=>by
 cases px with
 |int i=>
  cases py with
  |int j=>cases r1;cases r2;exact h pins s σ H _ _ v u Q I rx ry ⟨i,j,rfl,rfl,k _ S _ H q (.bl _) rS .refl⟩
  |_=>exact q.elim
 |_=>exact q.elim⟩
def kh{f:Value->Value->Sem Value}{C:Int->Int->Prop}{g:Int->Int->Int}(h:fF X f (rI C fun i j=>.int (g i j))):gu X f (eU C fun i j=>.int (g i j)):=⟨fun pins s σ H x y v u Q I rx ry ⟨px,py,S,Q3,r1,r2,rS,q,k⟩=>by
 cases px with
 |int i=>
  cases py with
  |int j=>cases r1;cases r2;exact h pins s σ H _ _ v u Q I rx ry ⟨i,j,rfl,rfl,q.1,k _ S _ H q.2 (.int _) rS .refl⟩
  |_=>exact q.elim
 |_=>exact q.elim⟩
def k8(i j:Int):Prop:=j≠0/\j.natAbs < 2 ^ 8000
def lY{n:Nat}(h:n < 2 ^ 8000):n.log2 < 9000:=by
 by_cases z:n=0
 ·rw[z];decide +kernel
 ·exact Ij ((Nat.log2_lt z).mpr h) (by decide)
def t5:gu X (binaryOp .Sub) (e_ fun i j=>.int (i - j)):=t3 tq
def t7:gu X (binaryOp .Mod) (eU (fun _ j=>j≠0) fun i j=>.int (i.fmod j)):=kh qw
def q5:gu X (binaryOp .FloorDiv) (eU k8 fun i j=>.int (i.fdiv j)):=kh (wJ fun _ _ _ _ _ _ _ hc q=>PyProof.Rows.floordiv_int hc.1 q (.inl (PyProof.noPylong_of_log2 (lY hc.2))))
def t8:gu X (binaryOp .Pow) (eU tj fun i j=>.int (i ^ j.toNat)):=kh tt
def v7:gu X (compareOp .Lt) (e_ fun i j=>.bl (decide (i < j))):=kg vF
def v8:gu X (compareOp .Gt) (e_ fun i j=>.bl (decide (j < i))):=kg vG
def v9:gu X (compareOp .GtE) (e_ fun i j=>.bl (decide (j<=i))):=kg vH
end
end L3
namespace L2
open PySem PySem.Spec PyProof.Rows
section
variable {X:Cx}
def v_(K:Vo):R2:=fun x y H Q=>∃a b xs ys,x = .ref a/\y = .ref b/\zJ K H a xs/\zJ K H b ys/\xs.length+ys.length<=sizeLine/\∀r H',(∀c o,H c=some o->H' c=some o)->zJ K H' r (xs++ys)->Q (.ref r) H'
def q8:fF X (binaryOp .Add) (v_ X.K):=by
 intro pins s σ H x y v u Q I rx ry h
 obtain⟨a,b,xs,ys,rfl,rfl,ha,hb,hz,q⟩:=h
 by_cases hx:xs=[]
 ·subst hx
  cases rx
  cases ry
  obtain⟨its,r1,p1,_⟩:=I.tuple ha
  obtain⟨its2,r2,p2,_⟩:=I.tuple hb
  cases r1
  obtain⟨⟨cls,dd,data,sl⟩,ho,hc,n,hd⟩:=id p1
  obtain⟨⟨Ds,dd2,data2,sl2⟩,ho2,hc2,n2,hd2⟩:=id p2
  simp only at hc hd hc2 hd2
  subst hc hd hc2 hd2
  exact concat_meets ⟨_,ho,rfl⟩ ⟨_,ho2,rfl⟩ noFill_tuple_add seq_tuple_add Hr Hf (G5 _ _)
   (tuple_addW0 a b _ its2.toArray n n2 dd dd2 sl sl2 rfl) ⟨ho,ho2,⟨.ref b,H,I,rfl,q b H (fun _ _ e=>e) hb⟩⟩
 ·exact qI pins s σ H _ _ v u Q I rx ry ⟨a,b,xs,ys,rfl,rfl,ha,hb,hx,hz,fun e=>q a H (fun _ _ e=>e) (by rw[e,Gb];exact ha),
   fun _ p hp=>q p _ (fun c o e=>by rw[ay (aU e hp)];exact e) (zJ.of aB)⟩
end
end L2
namespace L3
open PySem L2
section
variable {X:Cx}
def aL:R3:=fun x y S Q=>match x,y with
 | .int i,.int j=>Q (.int (i+j)) S
 | .str i,.str j=>i.length+j.length<=sizeLine/\Q (.str (i++j)) S
 | .tup i,.tup j=>i.length+j.length<=sizeLine/\Q (.tup (i++j)) S
 | .ref i,.ref j=>match S i,S j with
  |some (.lst xs),some (.lst ys)=>xs.length+ys.length<=sizeLine/\∀p,S p=none->Q (.ref p) (aD S p (.lst (xs++ys)))
  |_,_=>False
 |_,_=>False
def au:gu X (binaryOp .Add) aL:=⟨fun pins s σ H x y v u Q I rx ry ⟨px,py,S,Q3,r1,r2,rS,q,k⟩=>by
 unfold aL at q
 split at q
 ·cases r1;cases r2
  exact tm pins s σ H _ _ v u Q I rx ry ⟨_,_,rfl,rfl,k _ S _ H q (.int _) rS .refl⟩
 ·cases r1;cases r2
  exact lK pins s σ H _ _ v u Q I rx ry ⟨_,_,rfl,rfl,q.1,k _ S _ H q.2 (.str _) rS .refl⟩
 ·cases r1 with
  |tup h1 s1=>
   cases r2 with
   |tup h2 s2=>
    refine q8 pins s σ H _ _ v u Q I rx ry ⟨_,_,_,_,rfl,rfl,h1,h2,by rw[s1.length,s2.length];exact q.1,fun r H' hs hr=>?_⟩
    exact k _ S _ H' q.2 (.tup hr ((s1.mono (.same hs)).append (s2.mono (.same hs)))) (rS.grow hs) (.same hs)
 ·cases r1;cases r2
  split at q
  ·rename_i i j xs ys e1 e2
   obtain⟨vs,h1,s1⟩:=rS _ _ e1
   obtain⟨us,h2,s2⟩:=rS _ _ e2
   exact tN pins s σ H _ _ v u Q I rx ry ⟨_,_,_,_,rfl,rfl,h1,h2,by rw[s1.length,s2.length];exact q.1,fun p hp=>k _ _ _ _ (q.2 p (rS.free hp)) (.ref p) (rS.new hp ⟨_,aB,(s1.append s2).mono (.new hp)⟩) (.new hp)⟩
  ·exact q.elim
 ·exact q.elim⟩
end
mutual
inductive Dat (S:ax):PV->PyData->Prop
 |non:Dat S .non .none
 |bl (b:Bool):Dat S (.bl b) (.bool b)
 |int (i:Int):Dat S (.int i) (.int i)
 |str (x:Str):Dat S (.str x) (.str x)
 |tup {ps:List PV} {ds:List PyData}:zK S ps ds->Dat S (.tup ps) (.tuple ds)
 |cl {ps:List PV} {ds:List PyData}:zK S ps ds->Dat S (.cl ps) (.list ds)
 |ref {a:Addr} {ps:List PV} {ds:List PyData}:S a=some (.lst ps)->zK S ps ds->Dat S (.ref a) (.list ds)
inductive zK (S:ax):List PV->List PyData->Prop
 |nil:zK S [] []
 |cons {p:PV} {d:PyData} {ps:List PV} {ds:List PyData}:Dat S p d->zK S ps ds->zK S (p::ps) (d::ds)
end
section
variable {X:Cx} {pins:Va} {σ:L2.St} {H:Hp} {s:Shared} {S:ax}
def lZ(I:Inv X pins σ H s)(rS:yI X.K H S):(∀{p:PV} {d:PyData},Dat S p d->∀{v:V} {u:Value},Rep X.K H v p->RelV v u->∃as,Reads s.heap u d as)/\∀{ps:List PV} {ds:List PyData},zK S ps ds->∀{vs:List V} {us:Vv},Reps X.K H vs ps->Vals vs us->∃as,ReadsAll s.heap us ds as:=by
 have one:=@Dat.rec S (motive_1:=fun p d _=>∀{v:V} {u:Value},Rep X.K H v p->RelV v u->∃as,Reads s.heap u d as) (motive_2:=fun ps ds _=>∀{vs:List V} {us:Vv},Reps X.K H vs ps->Vals vs us->∃as,ReadsAll s.heap us ds as)
 have two:=@zK.rec S (motive_1:=fun p d _=>∀{v:V} {u:Value},Rep X.K H v p->RelV v u->∃as,Reads s.heap u d as) (motive_2:=fun ps ds _=>∀{vs:List V} {us:Vv},Reps X.K H vs ps->Vals vs us->∃as,ReadsAll s.heap us ds as)
 have c1:∀{v:V} {u:Value},Rep X.K H v .non->RelV v u->∃as,Reads s.heap u .none as:=fun h r=>by cases h;cases r;exact⟨_,.none⟩
 have c2:∀(b:Bool) {v:V} {u:Value},Rep X.K H v (.bl b)->RelV v u->∃as,Reads s.heap u (.bool b) as:=fun b _ _ h r=>by cases h;cases r;exact⟨_,.bool b⟩
 have c3:∀(i:Int) {v:V} {u:Value},Rep X.K H v (.int i)->RelV v u->∃as,Reads s.heap u (.int i) as:=fun i _ _ h r=>by cases h;obtain⟨t,rfl⟩:=r;exact⟨_,.int i t⟩
 have c4:∀(x:Str) {v:V} {u:Value},Rep X.K H v (.str x)->RelV v u->∃as,Reads s.heap u (.str x) as:=fun x _ _ h r=>by cases h;obtain⟨t,rfl⟩:=r;exact⟨_,.str x t⟩
 have c5:∀{ps:List PV} {ds:List PyData},zK S ps ds->(∀{vs:List V} {us:Vv},Reps X.K H vs ps->Vals vs us->∃as,ReadsAll s.heap us ds as)->∀{v:V} {u:Value},Rep X.K H v (.tup ps)->RelV v u->∃as,Reads s.heap u (.tuple ds) as:=fun _ ih _ _ h r=>by
  cases h with
  |tup h rs=>
   cases r
   obtain⟨its,rv,⟨o,ho,hc,n,hd⟩,hz⟩:=I.tuple h
   obtain⟨as,q⟩:=ih rs rv
   exact⟨as,.tuple ho hc hd (by simpa using q)⟩
 have c6:∀{ps:List PV} {ds:List PyData},zK S ps ds->(∀{vs:List V} {us:Vv},Reps X.K H vs ps->Vals vs us->∃as,ReadsAll s.heap us ds as)->∀{v:V} {u:Value},Rep X.K H v (.cl ps)->RelV v u->∃as,Reads s.heap u (.list ds) as:=fun _ ih _ _ h r=>by
  cases h with
  |cl h rs=>
   cases r
   obtain⟨its,rv,⟨o,n,ho,hc,_,hd⟩,hz⟩:=I.list h.sq
   obtain⟨as,q⟩:=ih rs rv
   exact⟨_,.list ho hc hd (by simpa using q)⟩
 have c7:∀{a:Addr} {ps:List PV} {ds:List PyData},S a=some (.lst ps)->zK S ps ds->(∀{vs:List V} {us:Vv},Reps X.K H vs ps->Vals vs us->∃as,ReadsAll s.heap us ds as)->∀{v:V} {u:Value},Rep X.K H v (.ref a)->RelV v u->∃as,Reads s.heap u (.list ds) as:=fun e _ ih _ _ h r=>by
  cases h
  cases r
  obtain⟨vs,hv,rs⟩:=rS _ _ e
  obtain⟨its,rv,⟨o,n,ho,hc,_,hd⟩,hz⟩:=I.list (SqL.of hv)
  obtain⟨as,q⟩:=ih rs rv
  exact⟨_,.list ho hc hd (by simpa using q)⟩
 have c8:∀{vs:List V} {us:Vv},Reps X.K H vs []->Vals vs us->∃as,ReadsAll s.heap us [] as:=fun h r=>by cases h;cases r;exact⟨_,.nil⟩
 have c9:∀{p:PV} {d:PyData} {ps:List PV} {ds:List PyData},Dat S p d->zK S ps ds->(∀{v:V} {u:Value},Rep X.K H v p->RelV v u->∃as,Reads s.heap u d as)->(∀{vs:List V} {us:Vv},Reps X.K H vs ps->Vals vs us->∃as,ReadsAll s.heap us ds as)->∀{vs:List V} {us:Vv},Reps X.K H vs (p::ps)->Vals vs us->∃as,ReadsAll s.heap us (d::ds) as:=fun _ _ i1 i2 _ _ h r=>by
  cases h with
  |cons a rs=>
   cases r with
   |cons r1 r2=>
    obtain⟨as,q⟩:=i1 a r1
    obtain⟨bs,q2⟩:=i2 rs r2
    exact⟨_,.cons q q2⟩
 exact⟨fun h=>one c1 c2 c3 c4 c5 c6 c7 c8 c9 h,fun h=>two c1 c2 c3 c4 c5 c6 c7 c8 c9 h⟩
def Dat.reads(I:Inv X pins σ H s)(rS:yI X.K H S){p:PV}{d:PyData}{v:V}{u:Value}(h:Dat S p d)(r:Rep X.K H v p)(r2:RelV v u):∃as,Reads s.heap u d as:=(lZ I rS).1 h r r2
end
section
variable {X:Cx}
def bJ(neg:Bool):R3:=fun x y S Q=>match x,y with
 | .int i,.int j=>Q (.bl (neg != decide (i=j))) S
 | .str i,.str j=>Q (.bl (neg != decide (i=j))) S
 | .bl i,.bl j=>Q (.bl (neg != decide (i=j))) S
 |x,y=>∃d d',Dat S x d/\Dat S y d'/\d.canLay0=true/\d'.canLay0=true/\min d.depth d'.depth<=150/\Q (.bl (neg != PyData.eqv d d')) S
def jJ(hu:X.A.units+150 < cLine):gu X (compareOp .Eq) (bJ false):=⟨fun pins s σ H x y v u Q I rx ry ⟨px,py,S,Q3,r1,r2,rS,q,k⟩=>by
 unfold bJ at q
 split at q
 ·cases r1;cases r2
  exact ol pins s σ H _ _ v u Q I rx ry ⟨rfl,k _ S _ H (by simpa using q) (.bl _) rS .refl⟩
 ·cases r1;cases r2
  exact ol pins s σ H _ _ v u Q I rx ry ⟨rfl,k _ S _ H (by simpa using q) (.bl _) rS .refl⟩
 ·cases r1;cases r2
  exact ol pins s σ H _ _ v u Q I rx ry ⟨rfl,k _ S _ H (by simpa using q) (.bl _) rS .refl⟩
 ·obtain⟨d,d',h1,h2,c1,c2,hd,q⟩:=q
  obtain⟨as,a1⟩:=h1.reads I rS r1 rx
  obtain⟨bs,a2⟩:=h2.reads I rS r2 ry
  exact SeqAt.compareEq_reads a1 a2 c1 c2 (by omega) ⟨.bl _,H,I,rfl,k _ S _ H (by simpa using q) (.bl _) rS .refl⟩⟩
def wa(hu:X.A.units+150 < cLine):gu X (compareOp .NotEq) (bJ true):=⟨fun pins s σ H x y v u Q I rx ry ⟨px,py,S,Q3,r1,r2,rS,q,k⟩=>by
 unfold bJ at q
 split at q
 ·cases r1;cases r2
  exact om pins s σ H _ _ v u Q I rx ry ⟨rfl,k _ S _ H (by simpa using q) (.bl _) rS .refl⟩
 ·cases r1;cases r2
  exact om pins s σ H _ _ v u Q I rx ry ⟨rfl,k _ S _ H (by simpa using q) (.bl _) rS .refl⟩
 ·cases r1;cases r2
  exact om pins s σ H _ _ v u Q I rx ry ⟨rfl,k _ S _ H (by simpa using q) (.bl _) rS .refl⟩
 ·obtain⟨d,d',h1,h2,c1,c2,hd,q⟩:=q
  obtain⟨as,a1⟩:=h1.reads I rS r1 rx
  obtain⟨bs,a2⟩:=h2.reads I rS r2 ry
  exact SeqAt.compareNe_reads a1 a2 c1 c2 (by omega) ⟨.bl _,H,I,rfl,k _ S _ H (by simpa using q) (.bl _) rS .refl⟩⟩
def t9(neg:Bool):R3:=fun x y S Q=>match y with
 | .non=>Q (.bl (neg != match x with | .non=>true|_=>false)) S
 | .bl true=>match x with | .bl true=>Q (.bl (neg != true)) S|_=>False
 |_=>False
def k9:gu X (compareOp .IsNot) (t9 true):=⟨fun pins s σ H x y v u Q I rx ry ⟨px,py,S,Q3,r1,r2,rS,q,k⟩=>by
 unfold t9 at q
 split at q
 ·cases r2
  refine qx pins s σ H _ _ v u Q I rx ry ⟨rfl,?_⟩
  cases r1<;>exact k _ S _ H (by simpa using q) (.bl _) rS .refl
 ·cases r2
  split at q
  ·cases r1
   exact nw pins s σ H _ _ v u Q I rx ry ⟨rfl,rfl,k _ S _ H (by simpa using q) (.bl _) rS .refl⟩
  ·exact q.elim
 ·exact q.elim⟩
noncomputable def nB(S:ax):PV->Option (List PV)
 | .tup xs=>some xs
 | .cl xs=>some xs
 | .ref a=>match S a with|some (.lst xs)=>some xs|_=>none
 |_=>none
def t_{H:Hp}{S:ax}{v:V}{p:PV}{xs:List PV}(rS:yI X.K H S)(r:Rep X.K H v p)(h:nB S p=some xs):∃a vs,v = .ref a/\(SqL X.K H a vs\/zJ X.K H a vs)/\Reps X.K H vs xs:=by
 unfold nB at h
 split at h
 ·cases h;cases r with|tup h1 rs=>exact⟨_,_,rfl,.inr h1,rs⟩
 ·cases h;cases r with|cl h1 rs=>exact⟨_,_,rfl,.inl h1.sq,rs⟩
 ·cases r
  split at h
  ·rename_i e
   cases h
   obtain⟨vs,hv,rs⟩:=rS _ _ e
   exact⟨_,vs,rfl,.inl (SqL.of hv),rs⟩
  ·cases h
 ·cases h
noncomputable def dH(x:PyData)(xs:List PyData):Bool:=xs.any fun y=>PyData.eqv y x
def ik(neg:Bool):R3:=fun x y S Q=>match x,y with
 | .str i,.str j=>Q (.bl (neg != !(Builtin.Str.occurrences j i 0 j.length 1).isEmpty)) S
 |x,y=>match y with
  | .ref a=>match S a with
   |some (.lst xs)=>∃d ds,Dat S x d/\zK S xs ds/\d.canLay0=true/\PyData.canLayAll0 ds=true/\d.depth<=150/\Q (.bl (neg != dH d ds)) S
   |some (.dct kvs)=>match x with
    | .str z=>Q (.bl (neg != (kvs.any fun kv=>decide (kv.1=Sum.inr z)))) S
    | .int z=>Q (.bl (neg != (kvs.any fun kv=>decide (kv.1=Sum.inl z)))) S
    |_=>False
   |_=>False
  | .tup xs=>∃d ds,Dat S x d/\zK S xs ds/\d.canLay0=true/\PyData.canLayAll0 ds=true/\d.depth<=150/\Q (.bl (neg != dH d ds)) S
  |_=>False
theorem yY.any{K:Vo}{H:Hp}{κ:Type} [DecidableEq κ](k:κ):∀{vs:List (κ×V)} {ps:List (κ×PV)},yY K H vs ps->(e9 vs k).isSome=ps.any fun kv=>decide (kv.1=k)
 |_,_,.nil=>rfl
 |_,_,.cons (k:=k') a r=>by
  rw[HH,<-yY.any k r]
  by_cases e:k'=k
  ·rw[zF e];simp[e]
  ·rw[zG e];simp[e]
def iF(hu:X.A.units+160 < cLine):gu X (compareOp .In) (ik false):=⟨fun pins s σ H x y v u Q I rx ry ⟨px,py,S,Q3,r1,r2,rS,q,k⟩=>by
 unfold ik at q
 split at q
 ·cases r1;cases r2
  exact m7 pins s σ H _ _ v u Q I rx ry ⟨_,_,rfl,rfl,k _ S _ H (by simpa using q) (.bl _) rS .refl⟩
 ·split at q
  ·cases r2
   cases ry
   split at q
   ·rename_i xs e
    obtain⟨d,ds,h1,h2,c1,c2,hd,q⟩:=q
    obtain⟨as,a1⟩:=h1.reads I rS r1 rx
    obtain⟨bs,a2⟩:=(Dat.ref e h2).reads I rS (.ref _) (rfl:RelV (.ref _) (.ref _))
    exact SeqAt.in_list_reads a2 a1 c2 c1 (by omega) ⟨.bl _,H,I,rfl,k _ S _ H (by simpa [dH]using q) (.bl _) rS .refl⟩
   ·rename_i kvs e
    obtain⟨kv,hv,rk⟩:=rS _ _ e
    split at q
    ·cases r1
     exact vU (by omega) I (DGet.k (k:=Sum.inr _) hv) rx fun s3 I3=>⟨.bl _,H,I3,rfl,k _ S _ H (by rw[rk.any];simpa using q) (.bl _) rS .refl⟩
    ·cases r1
     exact vU (by omega) I (DGet.k (k:=Sum.inl _) hv) rx fun s3 I3=>⟨.bl _,H,I3,rfl,k _ S _ H (by rw[rk.any];simpa using q) (.bl _) rS .refl⟩
    ·exact q.elim
   ·exact q.elim
  ·rename_i xs
   obtain⟨d,ds,h1,h2,c1,c2,hd,q⟩:=q
   obtain⟨as,a1⟩:=h1.reads I rS r1 rx
   obtain⟨bs,a2⟩:=(Dat.tup h2).reads I rS r2 ry
   exact SeqAt.in_tuple_reads a2 a1 c2 c1 (by omega) ⟨.bl _,H,I,rfl,k _ S _ H (by simpa [dH]using q) (.bl _) rS .refl⟩
  ·exact q.elim⟩
def iG(hu:X.A.units+160 < cLine):gu X (compareOp .NotIn) (ik true):=⟨fun pins s σ H x y v u Q I rx ry ⟨px,py,S,Q3,r1,r2,rS,q,k⟩=>by
 unfold ik at q
 split at q
 ·cases r1;cases r2
  exact j3 pins s σ H _ _ v u Q I rx ry ⟨_,_,rfl,rfl,k _ S _ H (by simpa using q) (.bl _) rS .refl⟩
 ·split at q
  ·cases r2
   cases ry
   split at q
   ·rename_i xs e
    obtain⟨d,ds,h1,h2,c1,c2,hd,q⟩:=q
    obtain⟨as,a1⟩:=h1.reads I rS r1 rx
    obtain⟨bs,a2⟩:=(Dat.ref e h2).reads I rS (.ref _) (rfl:RelV (.ref _) (.ref _))
    exact SeqAt.notIn_list_reads a2 a1 c2 c1 (by omega) ⟨.bl _,H,I,rfl,k _ S _ H (by simpa [dH]using q) (.bl _) rS .refl⟩
   ·rename_i kvs e
    obtain⟨kv,hv,rk⟩:=rS _ _ e
    split at q
    ·cases r1
     exact mH (by omega) I (DGet.k (k:=Sum.inr _) hv) rx fun s3 I3=>⟨.bl _,H,I3,rfl,k _ S _ H (by rw[rk.any];simpa using q) (.bl _) rS .refl⟩
    ·cases r1
     exact mH (by omega) I (DGet.k (k:=Sum.inl _) hv) rx fun s3 I3=>⟨.bl _,H,I3,rfl,k _ S _ H (by rw[rk.any];simpa using q) (.bl _) rS .refl⟩
    ·exact q.elim
   ·exact q.elim
  ·rename_i xs
   obtain⟨d,ds,h1,h2,c1,c2,hd,q⟩:=q
   obtain⟨as,a1⟩:=h1.reads I rS r1 rx
   obtain⟨bs,a2⟩:=(Dat.tup h2).reads I rS r2 ry
   exact SeqAt.notIn_tuple_reads a2 a1 c2 c1 (by omega) ⟨.bl _,H,I,rfl,k _ S _ H (by simpa [dH]using q) (.bl _) rS .refl⟩
  ·exact q.elim⟩
end
end L3
namespace HT
open PySem PySem.Spec PyProof.Rows
section
variable {prog:Program} {w:World} {A:Around} {E:Vq} {s:Shared}
def fK{t sl:Addr}{items:Vw}{vl vu:Value}{lo hi:Option Int}{Q:Vq}(ht:IsTup s.heap t items)(hs:s.heap.IsSliceOf sl vl vu .none)(pl:IsPart vl lo)(pu:IsPart vu hi)
  (hw:yT items.size 0 lo=0/\yT items.size items.size hi=items.size)
  (h:Q (.ref t) s):wpAny (model prog w) A (getItem (.ref t) (.ref sl)) Q E s:=by
 obtain⟨os,hos,hcs,hds⟩:=id hs
 have Dt:s.TypeIs (.ref sl) "slice":=⟨os,hos,hcs⟩
 unfold getItem
 try with_reducible refine G4 ?_
 first|refine Fw (FJ ?_)|skip
 refine Fw (wpAny_sequenceKey ht.typeIs (by decide) ?_)
 refine Fw (GQ (name:=Str.ofString "__getitem__") ht.typeIs F7
  (HF F7 ht.typeIs entry_tuple_getitem ?_ (args_tuple_getitem _ _)))
 show wpAny _ _ (Builtin.Tuple.tupleItemsOf (.ref t) >>= _) _ _ s
 refine Fw (tupleItemsOf_ ht ?_)
 refine Fw (wpAny_typeOf Dt ?_)
 rw[if_pos (by decide)]
 refine Fw (cQ hs pl pu ?_)
 have hyes:(((yT items.size 0 lo:Nat):Int) == 0&&(1:Int) == 1&&(yT items.size items.size hi - yT items.size 0 lo) == items.size)=true:=by
  rw[hw.1,hw.2];simp
 show wpAny _ _ (if (((yT items.size 0 lo:Nat):Int) == 0&&(1:Int) == 1&&(yT items.size items.size hi - yT items.size 0 lo) == items.size)=true then _ else _) _ _ s
 rw[if_pos hyes]
 unfold Builtin.Tuple.tupleIsExact
 refine Fw (Fw (wpAny_typeOf ht.typeIs (FJ ?_)))
 rw[if_pos (by decide)]
 first
  |exact Fw (wpAny_rule (FJ ⟨_,rfl,FJ h⟩))
  |exact Fw (wpAny_rule (Fw (FJ (FJ ⟨_,rfl,FJ h⟩))))
  |exact Fw (wpAny_rule (Fw (FJ ⟨_,rfl,FJ h⟩)))
end
end HT
namespace L2
open PySem PySem.Spec PyProof.Rows
section
variable {X:Cx}
noncomputable def wb(K:Vo):V->Option Int->Option Int->Hp->VK->Prop:=fun x lo hi H Q=>∃a xs,x = .ref a/\zJ K H a xs/\∀r H',(∀c o,H c=some o->H' c=some o)->zJ K H' r (iy xs lo hi)->Q (.ref r) H'
def q9:u9 X (wb X.K):=by
 intro pins s σ H x v vl vu lo hi sl Q I rx hs pl pu h
 obtain⟨a,xs,rfl,hx,q⟩:=h
 by_cases hw:HT.yT xs.length 0 lo=0/\HT.yT xs.length xs.length hi=xs.length
 ·cases rx
  obtain⟨its,r,ht,hz⟩:=I.tuple hx
  have hlen:its.toArray.size=xs.length:=by rw[Fy];exact r.length.symm
  refine⟨"tuple",_,F7.lookup,ht.typeIs,HT.fK ht hs pl pu (by rw[hlen];exact hw) ⟨.ref a,H,I,rfl,q a H (fun _ _ e=>e) ?_⟩⟩
  have e:iy xs lo hi=xs:=by unfold iy;rw[hw.1,hw.2];simp
  rw[e];exact hx
 ·exact tH pins s σ H _ v vl vu lo hi sl Q I rx hs pl pu ⟨a,xs,rfl,hx,hw,fun p hp=>q p _ (fun c o e=>by rw[ay (aU e hp)];exact e) (zJ.of aB)⟩
def q_(hu:X.A.units+1 < cLine):u_ X (fun x y H Q=>∃a v,x = .ref a/\DGet H a y (some v)/\Q v H):=by
 intro value slice pins s σ H x y v u Q I rx ry h hs
 obtain⟨a,z,rfl,g,q⟩:=h
 cases rx
 exact tail_any (kZ I g) PySem.F.slot_dict_getitem.lookup (ng hu I g ry fun w' s3 I3 rw'=>⟨z,H,I3,rw',q⟩) hs
def oZ(hu:X.A.units+1 < cLine):qq X (fun o i v H Q=>∃a H',o = .ref a/\BF H a i v H'/\Q H'):=by
 intro pins s σ H o i v ov iv u Q I ro ri rv h
 obtain⟨a,H',rfl,g,q⟩:=h
 cases ro
 exact nh hu I g ri rv fun s' I'=>⟨H',I',q⟩
end
end L2
namespace L3
open PySem L2
theorem Reps.zk{K:Vo}{H:Hp}{vs:List V}{ps:List PV}{i:Int}{p:PV}(r:Reps K H vs ps)(h:L2.zk ps i=some p):∃v,L2.zk vs i=some v/\Rep K H v p:=by
 unfold L2.zk at h ⊢
 rw[r.length]
 cases e:lP ps.length i with
 |none=>rw[e]at h;cases h
 |some j=>
  rw[e]at h
  obtain⟨v,h1,h2⟩:=r.get h
  exact⟨v,h1,h2⟩
noncomputable def ki:PV->Option a7
 | .int i=>some (.inl i)
 | .str x=>some (.inr x)
 |_=>none
def cJ{K:Vo}{H:Hp}{v:V}{p:PV}{k:a7}(r:Rep K H v p)(h:ki p=some k):v=kV k:=by
 cases p with
 |int i=>cases h;cases r;rfl
 |str i=>cases h;cases r;rfl
 |_=>cases h
noncomputable def jl{κ:Type} [DecidableEq κ]:List (κ×PV)->κ->Option PV
 |[],_=>none
 |(k',v)::r,k=>if k'=k then some v else jl r k
theorem yY.val{K:Vo}{H:Hp}{κ:Type} [DecidableEq κ]{k:κ}{p:PV}:∀{vs:List (κ×V)} {ps:List (κ×PV)},yY K H vs ps->jl ps k=some p->∃v,e9 vs k=some v/\Rep K H v p
 |_,_,.nil,h=>by cases h
 |_,_,.cons (k:=k') a r,h=>by
  unfold jl at h
  split at h
  ·rename_i e;cases h;exact⟨_,zF e,a⟩
  ·rename_i e;rw[zG e];exact yY.val r h
section
variable {X:Cx} {a b e lo hi:Expr} {ta tb te:aW} {pos p2:Pos}
structure x_ (X:Cx) (r:R3):Prop where
 ok:u_ X (LR X r)
def we{r:R3}(hr:x_ X r)(ha:aZ X a ta)(hb:aZ X b tb)(hs:ie b):aZ X (.Subscript a b pos) (ah r ta tb):=⟨aO (vQ hr.ok ha.ok hb.ok hs) fun _ _ _=>ij⟩
def ao:R3:=fun x y S Q=>match x with
 | .tup xs=>match y with | .int i=>(match zk xs i with|some v=>Q v S|none=>False)|_=>False
 | .cl xs=>match y with | .int i=>(match zk xs i with|some v=>Q v S|none=>False)|_=>False
 | .str z=>match y with | .int i=>z.length<=sizeLine/\(match zk z.cps.toList i with|some c=>Q (.str ⟨#[c]⟩) S|none=>False)|_=>False
 | .ref a=>match S a with
  |some (.lst xs)=>(match y with | .int i=>(match zk xs i with|some v=>Q v S|none=>False)|_=>False)
  |some (.dct kvs)=>(match ki y with|some k=>(match jl kvs k with|some v=>Q v S|none=>False)|none=>False)
  |_=>False
 |_=>False
def ya(hu:X.A.units+1 < cLine):x_ X ao:=⟨fun value slice pins s σ H x y v u Q I rx ry ⟨px,py,S,Q3,r1,r2,rS,q,k⟩ hs=>by
 unfold ao at q
 split at q
 ·split at q
  ·split at q
   ·rename_i e
    cases r2
    cases r1 with
    |tup h1 rs=>
     obtain⟨w,hw,rw'⟩:=rs.zk e
     exact tI value slice pins s σ H _ _ v u Q I rx ry ⟨_,_,_,w,rfl,rfl,h1,hw,k _ S _ H q rw' rS .refl⟩ hs
   ·exact q.elim
  ·exact q.elim
 ·split at q
  ·split at q
   ·rename_i e
    cases r2
    cases r1 with
    |cl h1 rs=>
     obtain⟨w,hw,rw'⟩:=rs.zk e
     exact mF value slice pins s σ H _ _ v u Q I rx ry ⟨_,_,_,w,rfl,rfl,h1.sq,hw,k _ S _ H q rw' rS .refl⟩ hs
   ·exact q.elim
  ·exact q.elim
 ·split at q
  ·obtain⟨hz,q⟩:=q
   split at q
   ·rename_i e
    cases r1;cases r2
    exact tJ value slice pins s σ H _ _ v u Q I rx ry ⟨_,_,_,rfl,rfl,hz,e,k _ S _ H q (.str _) rS .refl⟩ hs
   ·exact q.elim
  ·exact q.elim
 ·split at q
  ·rename_i e0
   split at q
   ·split at q
    ·rename_i e
     cases r1;cases r2
     obtain⟨vs,hv,rs⟩:=rS _ _ e0
     obtain⟨w,hw,rw'⟩:=rs.zk e
     exact mF value slice pins s σ H _ _ v u Q I rx ry ⟨_,_,_,w,rfl,rfl,SqL.of hv,hw,k _ S _ H q rw' rS .refl⟩ hs
    ·exact q.elim
   ·exact q.elim
  ·rename_i e0
   split at q
   ·rename_i ek
    split at q
    ·rename_i ev
     cases r1
     have e1:=cJ r2 ek
     subst e1
     obtain⟨kv,hv,rk⟩:=rS _ _ e0
     obtain⟨w,hw,rw'⟩:=rk.val ev
     refine q_ hu value slice pins s σ H _ _ v u Q I rx ry ⟨_,w,rfl,?_,k _ S _ H q rw' rS .refl⟩ hs
     rw[<-hw]
     exact DGet.k hv
    ·exact q.elim
   ·exact q.elim
  ·exact q.elim
 ·exact q.elim⟩
abbrev va:=b5->ax->(Option Int->ax->Prop)->b9->Prop
inductive LO (X:Cx) (t:va) (σ:L2.St) (H:Hp) (Q:Option Int->Hp->Prop):Prop
 |mk (σ3 S Q3 E3) (rσ:yL X.K H σ σ3) (rS:yI X.K H S) (h:t σ3 S Q3 E3) (xo:BA X H E3) (k:∀o S' H',Q3 o S'->yI X.K H' S'->Grow X.K H H'->Q o H'):LO X t σ H Q
structure wO (X:Cx) (e:Option Expr) (t:va):Prop where
 ok:PO X e (LO X t)
noncomputable def lE:va:=fun _ S Q _=>Q none S
noncomputable def jK(t:aW):va:=fun σ S Q E=>t σ S (fun v S'=>match v with | .int i=>Q (some i) S'|_=>False) E
def o0{e:Option Expr}{t t':TO}(h:PO X e t)(k:∀σ H Q,t' σ H Q->t σ H Q):PO X e t':=fun pins s σ H Q I q=>h pins s σ H Q I (k σ H Q q)
def cL:wO X none lE:=⟨o0 qG fun σ H Q ⟨σ3,S,Q3,E3,rσ,rS,h,xo,k⟩=>k none S H h rS .refl⟩
def bM(h:aZ X e te):wO X (some e) (jK te):=⟨o0 (qH h.ok) fun σ H Q ⟨σ3,S,Q3,E3,rσ,rS,h,xo,k⟩=>⟨σ3,S,_,E3,rσ,rS,h,xo,fun p S' v H' h1 rv Ae g=>by
 cases p with
 |int i=>cases rv;exact⟨i,rfl,k _ S' H' h1 Ae g⟩
 |_=>exact h1.elim⟩⟩
noncomputable def b6{α:Type}(xs:List α)(lo hi:Option Int):List α:=(xs.drop (HT.yT xs.length 0 lo)).take (HT.yT xs.length xs.length hi - HT.yT xs.length 0 lo)
def Reps.cut{K:Vo}{H:Hp}{vs:List V}{ps:List PV}(r:Reps K H vs ps)(lo hi:Option Int):Reps K H (iy vs lo hi) (b6 ps lo hi):=by
 unfold iy b6
 rw[r.length]
 exact(r.drop _).take _
def l5(x:PV)(lo hi:Option Int)(S:ax)(Q:bS):Prop:=match x with
 | .tup xs=>Q (.tup (b6 xs lo hi)) S
 | .cl xs=>∀p,S p=none->Q (.ref p) (aD S p (.lst (b6 xs lo hi)))
 | .str z=>z.length<=sizeLine/\Q (.str (Txt.slice z lo hi)) S
 | .ref a=>match S a with|some (.lst xs)=>∀p,S p=none->Q (.ref p) (aD S p (.lst (b6 xs lo hi)))|_=>False
 |_=>False
noncomputable def yq(X:Cx):V->Option Int->Option Int->Hp->VK->Prop:=fun x lo hi H Q=>∃px S Q3,Rep X.K H x px/\yI X.K H S/\l5 px lo hi S Q3/\BB X.K H Q3 Q
def yr:u9 X (yq X):=by
 intro pins s σ H x v vl vu lo hi sl Q I rx hs pl pu ⟨px,S,Q3,r1,rS,q,k⟩
 unfold l5 at q
 split at q
 ·cases r1 with
  |tup h1 rs=>exact q9 pins s σ H _ v vl vu lo hi sl Q I rx hs pl pu ⟨_,_,rfl,h1,fun r H' hh hr=>k _ S _ H' q (.tup hr ((rs.cut lo hi).mono (.same hh))) (rS.grow hh) (.same hh)⟩
 ·cases r1 with
  |cl h1 rs=>exact mG pins s σ H _ v vl vu lo hi sl Q I rx hs pl pu ⟨_,_,rfl,h1.sq,fun p hp=>k _ _ _ _ (q p (rS.free hp)) (.ref p) (rS.new hp ⟨_,aB,(rs.cut lo hi).mono (.new hp)⟩) (.new hp)⟩
 ·cases r1
  exact tS pins s σ H _ v vl vu lo hi sl Q I rx hs pl pu ⟨_,rfl,q.1,k _ S _ H q.2 (.str _) rS .refl⟩
 ·split at q
  ·rename_i e
   cases r1
   obtain⟨vs,hv,rs⟩:=rS _ _ e
   exact mG pins s σ H _ v vl vu lo hi sl Q I rx hs pl pu ⟨_,_,rfl,SqL.of hv,fun p hp=>k _ _ _ _ (q p (rS.free hp)) (.ref p) (rS.new hp ⟨_,aB,(rs.cut lo hi).mono (.new hp)⟩) (.new hp)⟩
  ·exact q.elim
 ·exact q.elim
def bf(te:aW)(tl th:va):aW:=fun σ S Q E=>te σ S (fun x S1=>tl σ S1 (fun l S2=>th σ S2 (fun u S3=>l5 x l u S3 Q) E) E) E
def bw{lo hi:Option Expr}{tl th:va}(he:aZ X e te)(hl:wO X lo tl)(hu:wO X hi th):aZ X (.Subscript e (.Slice lo hi none p2) pos) (bf te tl th):=
 ⟨aO (oq yr he.ok hl.ok hu.ok) fun σ H Q ⟨σ3,S,Q3,E3,rσ,rS,h,xo,k⟩=>⟨σ3,S,_,E3,rσ,rS,h,xo,fun x S1 v H1 h1 rx yU g1=>⟨σ3,S1,_,E3,rσ.mono g1,yU,h1,xo.mono g1,fun l S2 H2 h2 AD g2=>
  ⟨σ3,S2,_,E3,rσ.mono (g1.trans g2),AD,h2,xo.mono (g1.trans g2),fun u S3 H3 h3 Cr g3=>⟨x,S3,Q3,rx.mono (g2.trans g3),Cr,h3,k.mono (g1.trans (g2.trans g3))⟩⟩⟩⟩⟩
def rc:fF X (binaryOp .Mult) (rI IntMulOk fun i j=>.int (i * j)):=wJ fun _ _ _ _ _ _ _ hc q=>PyProof.Rows.mul_int q hc
def fL:R3:=fun x y S Q=>match x,y with
 | .int i,.int j=>IntMulOk i j/\Q (.int (i * j)) S
 | .ref a,.int j=>(match S a with|some (.lst xs)=>-(2 ^ 63)<=j/\j < 2 ^ 63/\xs.length * j.toNat<=sizeLine/\∀p,S p=none->Q (.ref p) (aD S p (.lst (List.replicate j.toNat xs).flatten))|_=>False)
 |_,_=>False
theorem Reps.rep{K:Vo}{H:Hp}{vs:List V}{ps:List PV}(r:Reps K H vs ps):∀n:Nat,Reps K H (List.replicate n vs).flatten (List.replicate n ps).flatten
 |0=>.nil
 |n+1=>by
  rw[Gf,Gf,Gu,Gu]
  exact r.append (Reps.rep r n)
def dQ:gu X (binaryOp .Mult) fL:=⟨fun pins s σ H x y v u Q I rx ry ⟨px,py,S,Q3,r1,r2,rS,q,k⟩=>by
 unfold fL at q
 split at q
 ·cases r1;cases r2
  exact rc pins s σ H _ _ v u Q I rx ry ⟨_,_,rfl,rfl,q.1,k _ S _ H q.2 (.int _) rS .refl⟩
 ·split at q
  ·rename_i e
   cases r1;cases r2
   obtain⟨vs,hv,rs⟩:=rS _ _ e
   exact tO pins s σ H _ _ v u Q I rx ry ⟨_,_,_,rfl,rfl,hv,q.1,q.2.1,by rw[rs.length];exact q.2.2.1,fun p hp=>k _ _ _ _ (q.2.2.2 p (rS.free hp)) (.ref p) (rS.new hp ⟨_,aB,(rs.rep _).mono (.new hp)⟩) (.new hp)⟩
  ·exact q.elim
 ·exact q.elim⟩
end
end L3
namespace L2
open PySem PySem.Spec PyProof.Rows
section
variable {X:Cx}
def l7{pins:Va}{σ:St}{H:Hp}{s:Shared}{x:Value}{t:Value}{p:Heap->Prop}{vs:List V}{tp:Addr}{b:Bool}{Q:Vq}{E:Vq}(I:Inv X pins σ H s)(Z:PySem.W.KitX X.K x t p)(hp:p s.heap)(hx:x ≠ .builtin "__main__.__loader__#opaque")
  (ht:zJ X.K H tp vs) (e:∀its,Vals vs its->PySem.W.kitAny X.K t its=some b) (h:∀tk,Q (.bool b) { s with toks:=tk }):wpAny (model X.prog X.w) X.A (call (.builtin "isinstance") [x,.ref tp]) Q E s:=by
 obtain⟨its,rv,⟨⟨cls,dd,data,sl⟩,ho,hc,n,hd⟩,hz⟩:=I.tuple ht
 simp only at hc hd
 subst hc hd
 exact PySem.W.kia_tup Z I.BW hp ho (e its rv) hx h
end
end L2
namespace L3
open PySem L2
abbrev mM:=List PV->ax->bS->Prop
section
variable {X:Cx} {e o:Expr} {es:List Expr} {te to:aW} {ts:List aW} {x:Str} {p pos apos cpos:Pos}
inductive LC (X:Cx) (r:mM) (xs:List V) (H:Hp) (Q:VK):Prop
 |mk (ps S Q3) (rx:Reps X.K H xs ps) (rS:yI X.K H S) (h:r ps S Q3) (k:BB X.K H Q3 Q):LC X r xs H Q
structure eV (X:Cx) (f:Value) (r:mM):Prop where
 ok:eN X f (LC X r)
def ar(r:mM)(ts:List aW):aW:=fun σ S Q E=>bL ts σ S (fun ps S1=>r ps S1 Q) E
def mN{r:mM}{σ:L2.St}{H:Hp}{Q:VK}:LE X (ar r ts) σ H Q->wN (ts.map (LE X)) σ H fun vs H1=>LC X r vs H1 Q:=fun⟨σ3,S,Q3,E3,rσ,rS,h,xo,k⟩=>
 cg rσ rS h xo fun ps S' vs H' hl q rv Ae g=>⟨ps,S',Q3,rv,Ae,q,k.mono g⟩
def re{id:String}{r:mM}(hc:eV X (.builtin id) r)(hg:Gl X x)(hm:X.mg x=none)(hv:bootBuiltins x=some (.builtin id))(he:starEach (e::es) X.env=(false,eval e X.env)::starEach es X.env)(ha:kf X (e::es) ts)
  (hn:x ≠ "__name__":=by decide) (hdb:(x == ("__debug__":Str))=false:=by decide) (hpl:(backTo pos (starEach es X.env)).any (·.1)=false:=by rfl):aZ X (.Call (.Name x p) (e::es) [] pos) (ar r ts):=
 ⟨aO (on hc.ok hg hm hv ha.ok hn hdb he hpl) fun _ _ _=>mN⟩
def rf{id:String}{r:mM}(hc:eV X (.type id) r)(hg:Gl X x)(hm:X.mg x=none)(hv:bootBuiltins x=some (.type id))(he:starEach (e::es) X.env=(false,eval e X.env)::starEach es X.env)(ha:kf X (e::es) ts)
  (hn:x ≠ "__name__":=by decide) (hdb:(x == ("__debug__":Str))=false:=by decide) (hpl:(backTo pos (starEach es X.env)).any (·.1)=false:=by rfl):aZ X (.Call (.Name x p) (e::es) [] pos) (ar r ts):=
 ⟨aO (m_ hc.ok hg hm hv ha.ok hn hdb he hpl) fun _ _ _=>mN⟩
def bA:mM:=fun ps S Q=>match ps with
 |[.tup xs]=>Q (.int xs.length) S
 |[.cl xs]=>Q (.int xs.length) S
 |[.str z]=>z.length<=sizeLine/\Q (.int z.length) S
 |[.ref a]=>(match S a with|some (.lst xs)=>Q (.int xs.length) S|some (.dct kvs)=>Q (.int kvs.length) S|_=>False)
 |_=>False
def bp:eV X (.builtin "len") bA:=⟨fun pins s σ H xs us Q I r ⟨ps,S,Q3,rp,rS,q,k⟩=>by
 unfold bA at q
 split at q
 ·cases rp with|cons a rr=>cases rr;cases a with|tup h rs=>exact di pins s σ H _ us Q I r ⟨_,_,rfl,.inr h,by rw[rs.length];exact k _ S _ H q (.int _) rS .refl⟩
 ·cases rp with|cons a rr=>cases rr;cases a with|cl h rs=>exact di pins s σ H _ us Q I r ⟨_,_,rfl,.inl h.sq,by rw[rs.length];exact k _ S _ H q (.int _) rS .refl⟩
 ·cases rp with|cons a rr=>cases rr;cases a;exact j4 pins s σ H _ us Q I r ⟨_,rfl,q.1,k _ S _ H q.2 (.int _) rS .refl⟩
 ·cases rp with
  |cons a rr=>
   cases rr;cases a
   split at q
   ·rename_i e
    obtain⟨vs,hv,rs⟩:=rS _ _ e
    exact di pins s σ H _ us Q I r ⟨_,_,rfl,.inl (SqL.of hv),by rw[rs.length];exact k _ S _ H q (.int _) rS .refl⟩
   ·rename_i e
    obtain⟨vs,hv,rs⟩:=rS _ _ e
    exact nk pins s σ H _ us Q I r ⟨_,_,rfl,hv,by rw[rs.length];exact k _ S _ H q (.int _) rS .refl⟩
   ·exact q.elim
 ·exact q.elim⟩
def iH:mM:=fun ps S Q=>match ps with|[.int i,.int j]=>Q (.int (if j > i then j else i)) S|_=>False
def o2(hc:X.calm=true):eV X (.builtin "max") iH:=⟨fun pins s σ H xs us Q I r ⟨ps,S,Q3,rp,rS,q,k⟩=>by
 unfold iH at q
 split at q
 ·cases rp with|cons a rr=>cases rr with|cons b r3=>cases r3;cases a;cases b;exact m8 hc pins s σ H _ us Q I r ⟨_,_,rfl,k _ S _ H q (.int _) rS .refl⟩
 ·exact q.elim⟩
def fM:mM:=fun ps S Q=>match ps with|[.int i]=>Q (.int i) S|[.bl b]=>Q (.int (if b then 1 else 0)) S|_=>False
def su:eV X (.type "int") fM:=⟨fun pins s σ H xs us Q I r ⟨ps,S,Q3,rp,rS,q,k⟩=>by
 unfold fM at q
 split at q
 ·cases rp with|cons a rr=>cases rr;cases a;exact jv pins s σ H _ us Q I r (.inl ⟨_,rfl,k _ S _ H q (.int _) rS .refl⟩)
 ·cases rp with|cons a rr=>cases rr;cases a;exact jv pins s σ H _ us Q I r (.inr ⟨_,rfl,k _ S _ H q (.int _) rS .refl⟩)
 ·exact q.elim⟩
def dk:mM:=fun ps S Q=>match ps with
 |[v]=>(match nB S v with|some xs=>Q (.tup xs) S|none=>False)
 |_=>False
def mO:eV X (.type "tuple") dk:=⟨fun pins s σ H xs us Q I r ⟨ps,S,Q3,rp,rS,q,k⟩=>by
 unfold dk at q
 split at q
 ·cases rp with
  |cons a rr=>
   cases rr
   split at q
   ·rename_i e
    obtain⟨b,vs,rfl,hs,rs⟩:=t_ rS a e
    rcases hs with hs|hs
    ·exact eP pins s σ H _ us Q I r ⟨_,_,rfl,.inl ⟨hs,fun p hp=>k _ S _ _ q (.tup (zJ.of aB) (rs.mono (.new hp))) (rS.other hp) (.new hp)⟩⟩
    ·exact eP pins s σ H _ us Q I r ⟨_,_,rfl,.inr ⟨hs,k _ S _ _ q (.tup hs rs) rS .refl⟩⟩
   ·exact q.elim
 ·exact q.elim⟩
noncomputable def iI:List PV->Option (List Bool)
 |[]=>some []
 | .bl b::r=>(iI r).map (b::·)
 |_::_=>none
theorem iJ{K:Vo}{H:Hp}:∀{vs:List V} {ps:List PV} {bs:List Bool},Reps K H vs ps->iI ps=some bs->vs=bs.map V.bl
 |_,_,_,.nil,h=>by cases h;rfl
 |_,_,bs,.cons (p:=p) a r,h=>by
  cases p with
  |bl b=>
   cases a
   unfold iI at h
   cases e:iI _ with
   |none=>rw[e]at h;cases h
   |some l=>rw[e]at h;cases h;rw[iJ r e];rfl
  |_=>cases h
def rg:mM:=fun ps S Q=>match ps with
 |[.ref a]=>(match S a with|some (.lst xs)=>(match iI xs with|some bs=>Q (.bl (bs.all id)) S|none=>False)|_=>False)
 |_=>False
def wf(hc:X.calm=true):eV X (.builtin "all") rg:=⟨fun pins s σ H xs us Q I r ⟨ps,S,Q3,rp,rS,q,k⟩=>by
 unfold rg at q
 split at q
 ·cases rp with
  |cons a rr=>
   cases rr;cases a
   split at q
   ·rename_i e
    split at q
    ·rename_i eb
     obtain⟨vs,hv,rs⟩:=rS _ _ e
     have e2:=iJ rs eb
     subst e2
     exact np hc pins s σ H _ us Q I r ⟨_,_,rfl,SqL.of hv,k _ S _ H q (.bl _) rS .refl⟩
    ·exact q.elim
   ·exact q.elim
 ·exact q.elim⟩
end
noncomputable def hZ(t c:String):Bool:=t == c || (t == "bool" && c == "int")
noncomputable def nC(S:ax):PV->Option String
 | .non=>some "NoneType"
 | .bl _=>some "bool"
 | .int _=>some "int"
 | .str _=>some "str"
 | .tup _=>some "tuple"
 | .cl _=>some "list"
 | .ref a=>(match S a with|some (.lst _)=>some "list" | some (.dct _)=>some "dict" | _=>none)
 | .ty _=>none
 | .exc _ _ _=>none
 | .cls _=>none
noncomputable def cN(c:String):Bool:=["int","str","bool","tuple","list","dict"].contains c
def o3(K:Vo)(t c:String):PySem.W.kitCls K (.type t) (.type c)=(if PySem.W.kitMeta c=true then (PySem.fastBuiltinMro t).map (·.contains (Value.type c)) else none):=rfl
def mP{K:Vo}{t c:String}(ht:t∈["NoneType","bool","int","str","tuple","list","dict"])(hc:cN c=true):PySem.W.kitOne K (.type t) (.type c)=some (hZ t c):=by
 have hc':c∈["int","str","bool","tuple","list","dict"]:=by
  have:=hc
  unfold cN at this
  simpa using this
 simp only[FE,FN,Gi]at ht hc'
 rcases ht with rfl|rfl|rfl|rfl|rfl|rfl|rfl<;>rcases hc' with rfl|rfl|rfl|rfl|rfl|rfl <;>
  first
   |(unfold PySem.W.kitOne;rw[if_pos (by decide)];rfl)
   |(unfold PySem.W.kitOne;rw[if_neg (by decide),o3];decide +kernel)
def o4{S:ax}{p:PV}{t:String}(h:nC S p=some t):t∈["NoneType","bool","int","str","tuple","list","dict"]:=by
 unfold nC at h
 split at h<;>first|(cases h;decide)|(split at h<;>first|(cases h;decide)|cases h)|cases h
section
variable {X:Cx}
noncomputable def wg:List PV->Option (List String)
 |[]=>some []
 | .ty c::r=>if cN c then (wg r).map (c::·) else none
 |_::_=>none
def ck:mM:=fun ps S Q=>match ps with
 |[x,.ty c]=>(match nC S x with|some t=>cN c=true/\Q (.bl (hZ t c)) S|none=>False)
 |[x,.tup cs]=>(match nC S x,wg cs with|some t,some l=>Q (.bl (l.any (hZ t))) S|_,_=>False)
 |_=>False
def rh{K:Vo}{H:Hp}{t:String}(ht:t∈["NoneType","bool","int","str","tuple","list","dict"]):∀(cs:List PV) {l:List String} {vs:List V} {its:Vv},wg cs=some l->Reps K H vs cs->Vals vs its->PySem.W.kitAny K (.type t) its=some (l.any (hZ t)):=by
 intro cs
 induction cs with
 |nil=>intro l vs its h rs r;cases h;cases rs;cases r;rfl
 |cons p cs ih=>
  intro l vs its h rs r
  cases p with
  |ty c=>
   unfold wg at h
   split at h
   ·rename_i hc
    cases e:wg cs with
    |none=>rw[e]at h;cases h
    |some l'=>
     rw[e]at h
     cases h
     cases rs with
     |cons a rs=>
      cases a
      cases r with
      |@cons _ u _ us r1 r2=>
       cases (show u=Value.type c from r1)
       show(match PySem.W.kitOne K (.type t) (.type c)with|some true=>some true|some false=>PySem.W.kitAny K (.type t) us|none=>none)=_
       rw[mP ht hc,HH]
       cases hZ t c with
       |true=>rfl
       |false=>exact ih e rs r2
   ·cases h
  |_=>cases h
def iK:eV X (.builtin "isinstance") ck:=⟨fun pins s σ H xs us Q I r ⟨ps,S,Q3,rp,rS,q,k⟩=>by
 have main:∀{v:PV} {x:V} {u:Value} {t:String},Rep X.K H x v->RelV x u->nC S v=some t->∃(h:Heap->Prop),PySem.W.KitX X.K u (.type t) h/\h s.heap/\u ≠ .builtin "__main__.__loader__#opaque":=by
  intro v x u t rv rx ht
  cases rv with
  |non=>cases ht;cases rx;exact⟨_,PySem.W.kitx_none,True.intro,fun z=>nomatch z⟩
  |bl b=>cases ht;cases rx;exact⟨_,PySem.W.kitx_bool,True.intro,fun z=>nomatch z⟩
  |int b=>cases ht;obtain⟨t,rfl⟩:=rx;exact⟨_,PySem.W.kitx_int,True.intro,fun z=>nomatch z⟩
  |str b=>cases ht;obtain⟨t,rfl⟩:=rx;exact⟨_,PySem.W.kitx_str,True.intro,fun z=>nomatch z⟩
  |ty b=>cases ht
  |exc _ _ _=>cases ht
  |cls _=>cases ht
  |tup h rs=>
   cases ht;cases rx
   obtain⟨its,_,⟨o,ho,hc,_⟩,_⟩:=I.tuple h
   exact⟨_,PySem.W.kitx_tuple,⟨o,ho,hc⟩,fun z=>nomatch z⟩
  |cl h rs=>
   cases ht;cases rx
   obtain⟨its,_,⟨o,n,ho,hc,_⟩,_⟩:=I.list h.sq
   exact⟨_,PySem.W.kitx_list,⟨o,ho,hc⟩,fun z=>nomatch z⟩
  |ref a=>
   cases rx
   unfold nC at ht
   simp only at ht
   split at ht
   ·rename_i e
    cases ht
    obtain⟨vs,hv,_⟩:=rS _ _ e
    obtain⟨its,_,⟨o,n,ho,hc,_⟩,_⟩:=I.list (SqL.of hv)
    exact⟨_,PySem.W.kitx_list,⟨o,ho,hc⟩,fun z=>nomatch z⟩
   ·rename_i e
    cases ht
    obtain⟨vs,hv,_⟩:=rS _ _ e
    obtain⟨_,_,vs',_,p⟩:=(show yX X.prog X.w H s.heap _ (.dK vs)from I.hok _ _ hv)
    obtain⟨o,es,ep,h1,h2,_⟩:=p
    exact⟨_,PySem.W.kitx_dict,⟨o,h1,h2.1⟩,fun z=>nomatch z⟩
   ·cases ht
 unfold ck at q
 split at q
 ·split at q
  ·rename_i ht
   cases rp with
   |cons a rr=>
    cases rr with
    |cons b r3=>
     cases r3;cases b
     cases r with
     |cons r1 r2=>
      cases r2 with
      |cons r4 r5=>
       cases r5
       cases (show _=Value.type _ from r4)
       obtain⟨h,Z,hp,hx⟩:=main a r1 ht
       exact PySem.W.kia_one Z I.BW hp (mP (o4 ht) q.1) hx fun tk=>⟨.bl _,H,I.tok _,rfl,k _ S _ H q.2 (.bl _) rS .refl⟩
  ·exact q.elim
 ·split at q
  ·rename_i ht hl
   cases rp with
   |cons a rr=>
    cases rr with
    |cons b r3=>
     cases r3
     cases b with
     |tup h1 rs=>
      cases r with
      |cons r1 r2=>
       cases r2 with
       |cons r4 r5=>
        cases r5
        cases r4
        obtain⟨h,Z,hp,hx⟩:=main a r1 ht
        exact l7 I Z hp hx h1 (fun its rv=>rh (o4 ht) _ hl rs rv) fun tk=>⟨.bl _,H,I.tok _,rfl,k _ S _ H q (.bl _) rS .refl⟩
  ·exact q.elim
 ·exact q.elim⟩
end
abbrev o5:=PV->List PV->ax->bS->Prop
section
variable {X:Cx} {e o:Expr} {es:List Expr} {te to:aW} {ts:List aW} {name:Str} {p pos apos cpos:Pos} {T id:String}
inductive LM (X:Cx) (r:o5) (x:V) (xs:List V) (H:Hp) (Q:VK):Prop
 |mk (px ps S Q3) (rx:Rep X.K H x px) (rs:Reps X.K H xs ps) (rS:yI X.K H S) (h:r px ps S Q3) (k:BB X.K H Q3 Q):LM X r x xs H Q
structure rj (X:Cx) (id:String) (r:o5):Prop where
 ok:vP X id (LM X r)
def vb(T:String)(x:PV)(S:ax):Prop:=match x with
 | .str _=>T = "str"
 | .ref a=>(match S a with|some (.lst _)=>T = "list" | some (.dct _)=>T = "dict" | _=>False)
 | .cl _=>T = "list"
 |_=>False
def o6{H:Hp}{S:ax}{v:V}{p:PV}(rS:yI X.K H S)(r:Rep X.K H v p)(h:vb T p S):wK X.K T v H:=by
 cases r with
 |str x=>exact h
 |ref a=>
  unfold vb at h
  simp only at h
  split at h
  ·rename_i e
   obtain⟨vs,hv,_⟩:=rS _ _ e
   exact .inl ⟨h,_,SqL.of hv⟩
  ·rename_i e
   obtain⟨vs,hv,_⟩:=rS _ _ e
   exact .inr (.inr (.inl ⟨h,.inl ⟨_,hv⟩⟩))
  ·exact h.elim
 |cl h1 _=>exact .inl ⟨h,_,h1.sq⟩
 |_=>exact h.elim
def k_(T:String)(r:o5)(to:aW)(ts:List aW):aW:=fun σ S Q E=>to σ S (fun x S1=>vb T x S1/\bL ts σ S1 (fun ps S2=>r x ps S2 Q) E) E
def xH{r:o5}(pa:PlainAttrs T)(slot:Slot T name id)(hty:typeOf (.builtin id)=pure (.type "method_descriptor"))(hm:rj X id r)(hs:starEach (e::es) X.env=(false,eval e X.env)::starEach es X.env)(ho:aZ X o to)(ha:kf X (e::es) ts)
  (hbase:attributeBase o name X.env (eval o X.env)=eval o X.env:=by rfl)
  (hfew:((backTo cpos (starEach (e::es) X.env)).all (fun x=>!x.1)&&(backToKw cpos (keywordEach [] X.env)).all (fun x=>x.1.isSome)
   && decide ((e::es).length+([]:List Keyword).length+(if ([]:List Keyword).isEmpty then 0 else 1) < 30))=true:=by rfl)
  (hline:(apos.endLine == cpos.line)=true:=by rfl) (hplain:(backTo cpos (starEach es X.env)).any (·.1)=false:=by rfl):aZ X (.Call (.Attribute o name apos) (e::es) [] cpos) (k_ T r to ts):=
 ⟨aO (vS pa slot hty hm.ok ho.ok ha.ok hbase hfew hline hs hplain) fun σ H Q ⟨σ3,S,Q3,E3,rσ,rS,h,xo,k⟩=>⟨σ3,S,_,E3,rσ,rS,h,xo,fun x S1 v H1 h1 rx yU g1=>
  ⟨o6 yU rx h1.1,cg (rσ.mono g1) yU h1.2 (xo.mono g1) fun ps S2 vs H2 hl q rv AD g2=>⟨x,ps,S2,Q3,rx.mono g2,rv,AD,q,k.mono (g1.trans g2)⟩⟩⟩⟩
def wj{r:o5}(pa:PlainAttrs T)(slot:Slot T name id)(hty:typeOf (.builtin id)=pure (.type "method_descriptor"))(hm:rj X id r)(ho:aZ X o to)
  (hbase:attributeBase o name X.env (eval o X.env)=eval o X.env:=by rfl) (hline:(apos.endLine == cpos.line)=true:=by rfl):aZ X (.Call (.Attribute o name apos) [] [] cpos) (k_ T r to []):=
 ⟨aO (tK pa slot hty hm.ok ho.ok hbase hline) fun σ H Q ⟨σ3,S,Q3,E3,rσ,rS,h,xo,k⟩=>⟨σ3,S,_,E3,rσ,rS,h,xo,fun x S1 v H1 h1 rx yU g1=>
  ⟨o6 yU rx h1.1,⟨x,[],S1,Q3,rx,.nil,yU,h1.2,k.mono g1⟩⟩⟩⟩
def b_:o5:=fun x ps S Q=>match x,ps with
 | .ref a,[y]=>(match S a with|some (.lst xs)=>xs.length < sizeLine/\Q .non (aD S a (.lst (xs++[y])))|_=>False)
 |_,_=>False
def iL:rj X "list.append" b_:=⟨fun pins s σ H x xs v us Q I rx rs ⟨px,ps,S,Q3,r1,rp,rS,q,k⟩=>by
 unfold b_ at q
 split at q
 ·split at q
  ·rename_i e
   cases r1
   cases rp with
   |cons b rr=>
    cases rr
    obtain⟨vs,hv,rl⟩:=rS _ _ e
    exact na pins s σ H _ _ v us Q I rx rs ⟨_,_,_,rfl,rfl,hv,by rw[rl.length];exact q.1,k _ _ _ _ q.2 .non (rS.put hv trivial ⟨_,aB,(rl.append (.cons b .nil)).mono (.mut hv trivial)⟩) (.mut hv trivial)⟩
  ·exact q.elim
 ·exact q.elim⟩
def eB:o5:=fun x ps S Q=>match x,ps with
 | .ref a,[.ref b]=>(match S a,S b with|some (.lst xs),some (.lst ys)=>xs.length+ys.length<=sizeLine/\Q .non (aD S a (.lst (xs++ys)))|_,_=>False)
 |_,_=>False
def o7:rj X "list.extend" eB:=⟨fun pins s σ H x xs v us Q I rx rs ⟨px,ps,S,Q3,r1,rp,rS,q,k⟩=>by
 unfold eB at q
 split at q
 ·split at q
  ·rename_i e e2
   cases r1
   cases rp with
   |cons b rr=>
    cases rr
    cases b
    obtain⟨vs,hv,rl⟩:=rS _ _ e
    obtain⟨us',hu,ru⟩:=rS _ _ e2
    exact nb pins s σ H _ _ v us Q I rx rs ⟨_,_,_,_,rfl,rfl,hv,hu,by rw[rl.length,ru.length];exact q.1,k _ _ _ _ q.2 .non (rS.put hv trivial ⟨_,aB,(rl.append ru).mono (.mut hv trivial)⟩) (.mut hv trivial)⟩
  ·exact q.elim
 ·exact q.elim⟩
def nE:o5:=fun x ps S Q=>match x,ps with
 | .ref a,[]=>(match S a with|some (.lst xs)=>(match xs[xs.length - 1]? with|some y=>Q y (aD S a (.lst xs.dropLast))|none=>False)|_=>False)
 | .ref a,[.int i]=>(match S a with|some (.lst xs)=>-(2 ^ 63)<=i/\i < 2 ^ 63/\(match seqIndex? i xs.length with|some j=>(match xs[j]? with|some y=>Q y (aD S a (.lst (xs.eraseIdx j)))|none=>False)|none=>False)|_=>False)
 |_,_=>False
def wk:rj X "list.pop" nE:=⟨fun pins s σ H x xs v us Q I rx rs ⟨px,ps,S,Q3,r1,rp,rS,q,k⟩=>by
 unfold nE at q
 split at q
 ·split at q
  ·rename_i e
   split at q
   ·rename_i ey
    cases r1
    cases rp
    obtain⟨vs,hv,rl⟩:=rS _ _ e
    rw[<-rl.length]at ey
    obtain⟨y',DI,ry⟩:=rl.get ey
    exact tL pins s σ H _ _ v us Q I rx rs ⟨_,_,_,rfl,rfl,hv,DI,k _ _ _ _ q (ry.mono (.mut hv trivial)) (rS.put hv trivial ⟨_,aB,rl.dropLast.mono (.mut hv trivial)⟩) (.mut hv trivial)⟩
   ·exact q.elim
  ·exact q.elim
 ·split at q
  ·rename_i e
   obtain⟨h1,h2,q⟩:=q
   split at q
   ·rename_i ej
    split at q
    ·rename_i ey
     cases r1
     cases rp with
     |cons b rr=>
      cases rr;cases b
      obtain⟨vs,hv,rl⟩:=rS _ _ e
      obtain⟨y',DI,ry⟩:=rl.get ey
      rw[<-rl.length]at ej
      exact ow pins s σ H _ _ v us Q I rx rs ⟨_,_,_,_,_,rfl,rfl,hv,h1,h2,ej,DI,k _ _ _ _ q (ry.mono (.mut hv trivial)) (rS.put hv trivial ⟨_,aB,(rl.eraseIdx _).mono (.mut hv trivial)⟩) (.mut hv trivial)⟩
    ·exact q.elim
   ·exact q.elim
  ·exact q.elim
 ·exact q.elim⟩
noncomputable def texts:List PV->Option (List Str)
 |[]=>some []
 | .str b::r=>(texts r).map (b::·)
 |_::_=>none
theorem iM{K:Vo}{H:Hp}:∀{vs:List V} {ps:List PV} {bs:Vs},Reps K H vs ps->texts ps=some bs->vs=bs.map V.str
 |_,_,_,.nil,h=>by cases h;rfl
 |_,_,bs,.cons (p:=p) a r,h=>by
  cases p with
  |str b=>
   cases a
   unfold texts at h
   cases e:texts _ with
   |none=>rw[e]at h;cases h
   |some l=>rw[e]at h;cases h;rw[iM r e];rfl
  |_=>cases h
def jL:o5:=fun x ps S Q=>match x,ps with
 | .str z,[.ref a]=>(match S a with|some (.lst xs)=>(match texts xs with|some ys=>(ys.map (·.length)).sum+ys.length * z.length<=1000000/\Q (.str (Txt.join z ys)) S|none=>False)|_=>False)
 |_,_=>False
def o8:rj X "str.join" jL:=⟨fun pins s σ H x xs v us Q I rx rs ⟨px,ps,S,Q3,r1,rp,rS,q,k⟩=>by
 unfold jL at q
 split at q
 ·split at q
  ·rename_i e
   split at q
   ·rename_i et
    cases r1
    cases rp with
    |cons b rr=>
     cases rr;cases b
     obtain⟨vs,hv,rl⟩:=rS _ _ e
     have e2:=iM rl et
     subst e2
     exact qU pins s σ H _ _ v us Q I rx rs ⟨_,_,_,rfl,rfl,SqL.of hv,q.1,k _ S _ H q.2 (.str _) rS .refl⟩
   ·exact q.elim
  ·exact q.elim
 ·exact q.elim⟩
def gy:o5:=fun x ps S Q=>match x,ps with
 | .str a,[.str b]=>(match Builtin.Str.occurrences a b 0 a.length 1 with|i::_=>Q (.int i) S|[]=>False)
 |_,_=>False
def rm:rj X "str.index" gy:=⟨fun pins s σ H x xs v us Q I rx rs ⟨px,ps,S,Q3,r1,rp,rS,q,k⟩=>by
 unfold gy at q
 split at q
 ·split at q
  ·rename_i e
   cases r1
   cases rp with
   |cons b rr=>
    cases rr;cases b
    exact oG pins s σ H _ _ v us Q I rx rs ⟨_,_,_,_,rfl,rfl,e,k _ S _ H q (.int _) rS .refl⟩
  ·exact q.elim
 ·exact q.elim⟩
end
section
variable {X:Cx} {e c:Expr} {te:aW} {st:Stmt} {rest a b:List Stmt} {t u:bv} {tc:hV} {pos:Pos}
def aS:bv:=fun D σ S=>D.nx σ S
def ae(t u:bv):bv:=fun D σ S=>t { D with nx:=u D } σ S
def aF:iE X [] aS:=⟨mL qm fun D σ H ⟨σ3,S,D3,rσ,rS,h,xo,n,r,bk,ct⟩=>n σ3 S σ H h rσ rS .refl⟩
def aa(h1:mK X st t)(h2:iE X rest u):iE X (st::rest) (ae t u):=
 ⟨mL (oa h1.ok h2.ok) fun D σ H ⟨σ3,S,D3,rσ,rS,h,xo,n,r,bk,ct⟩=>⟨σ3,S,{ D3 with nx:=u D3 },rσ,rS,h,xo,fun σ4 S' σ' H' h' BU Ae g=>⟨σ4,S',D3,BU,Ae,h',xo.mono g,n.mono g,r.mono g,bk.mono g,ct.mono g⟩,r,bk,ct⟩⟩
def ag(h1:mK X st t):iE X [st] t:=⟨qo h1.ok⟩
def eW(te:aW):bv:=fun D σ S=>te σ S (fun _ S1=>D.nx σ S1) D.ex
def kj(he:aZ X e te)(hs:swapsWith e none pos.line X.env=pure false:=by rfl):mK X (.Expr e pos) (eW te):=
 ⟨cK (qp he.ok hs) fun D σ H ⟨σ3,S,D3,rσ,rS,h,xo,n,r,bk,ct⟩=>⟨σ3,S,_,D3.ex,rσ,rS,h,xo,fun p S1 v H1 h1 rv yU g1=>n σ3 S1 σ H1 h1 (rσ.mono g1) yU g1⟩⟩
def av(te:aW):bv:=fun D σ S=>te σ S D.rt D.ex
def am(he:aZ X e te):mK X (.Return (some e) pos) (av te):=
 ⟨cK (sQ he.ok) fun D σ H ⟨σ3,S,D3,rσ,rS,h,xo,n,r,bk,ct⟩=>⟨σ3,S,D3.rt,D3.ex,rσ,rS,h,xo,r⟩⟩
def bR(c:hV)(t u:bv):bv:=fun D σ S=>c σ S (fun b S1=>if b=true then t D σ S1 else u D σ S1) D.ex
def aX(hc:lW X c tc)(ha:iE X a t)(hb:iE X b u):mK X (.If c a b pos) (bR tc t u):=
 ⟨cK (vt hc.ok ha.ok hb.ok) fun D σ H ⟨σ3,S,D3,rσ,rS,h,xo,n,r,bk,ct⟩=>⟨σ3,S,_,D3.ex,rσ,rS,h,xo,fun z S1 H1 h1 yU g1=>by
  cases z with
  |true=>rw[if_pos rfl]at h1 ⊢;exact⟨σ3,S1,D3,rσ.mono g1,yU,h1,xo.mono g1,n.mono g1,r.mono g1,bk.mono g1,ct.mono g1⟩
  |false=>rw[if_neg (by decide)]at h1 ⊢;exact⟨σ3,S1,D3,rσ.mono g1,yU,h1,xo.mono g1,n.mono g1,r.mono g1,bk.mono g1,ct.mono g1⟩⟩⟩
def aG(i:Nat)(te:aW):bv:=fun D σ S=>te σ S (fun v S1=>D.nx (σ.set i (some v)) S1) D.ex
def o9{i:Nat}{D:lH}{σ:L2.St}{H:Hp}:LS X (aG i te) D σ H->qu (LE X te) (kT i) D σ H:=fun⟨σ3,S,D3,rσ,rS,h,xo,n,r,bk,ct⟩=>
 ⟨σ3,S,_,D3.ex,rσ,rS,h,xo,fun p S1 v H1 h1 rv yU g1=>n _ S1 _ H1 h1 ((rσ.mono g1).set rv i) yU g1⟩
def wm{i:Nat}{x:Str}{pos':Pos}(hN:X.N.Nodup)(hi:X.N[i]?=some x)(hx:sa X.env.scope x)(he:aZ X e te)(hs:swapsWith e (some (.Name x pos')) pos.line X.env=pure false:=by rfl)
  (hf:X.fn x=true\/X.env.scope.names.lookup x=some .local:=by first|exact .inl rfl|exact .inr rfl|assumption):mK X (.Assign [.Name x pos'] e pos) (aG i te):=⟨cK (sW hN hi hx he.ok hs hf) fun _ _ _=>o9⟩
def nF(i j:Nat)(ta tb:aW):bv:=fun D σ S=>ta σ S (fun v S1=>tb σ S1 (fun w S2=>D.nx ((σ.set i (some v)).set j (some w)) S2) D.ex) D.ex
def sv{i j:Nat}{x y:Str}{a b:Expr}{ta tb:aW}{px py pt:Pos}{kt k2 Ck}(hc:X.calm=true)(hN:X.N.Nodup)(hi:X.N[i]?=some x)(hj:X.N[j]?=some y)(hij:i≠j)
  (hx:X.env.scope.names.lookup x=some .local) (hy:X.env.scope.names.lookup y=some .local) (ha:kf X [a,b] [ta,tb])
  (hw:swappedStores [.Tuple [.Name x px,.Name y py] kt pt] (.Tuple [a,b] k2 Ck) X.env=pure (some [x,y]):=by rfl)
  (hs:swapsWithSole [.Tuple [.Name x px,.Name y py] kt pt] (.Tuple [a,b] k2 Ck) pos.line X.env=pure false:=by rfl) :
  mK X (.Assign [.Tuple [.Name x px,.Name y py] kt pt] (.Tuple [a,b] k2 Ck) pos) (nF i j ta tb):=
 ⟨cK (sX hc hN hi hj hij hx hy ha.ok hw hs) fun D σ H ⟨σ3,S,D3,rσ,rS,h,xo,n,r,bk,ct⟩=>
  ⟨σ3,S,_,D3.ex,rσ,rS,h,xo,fun v S1 v' H1 h1 rv yU g1=>⟨σ3,S1,_,D3.ex,rσ.mono g1,yU,h1,xo.mono g1,fun w S2 w' H2 h2 rw' AD g2=>
   ⟨v',w',rfl,n _ S2 _ H2 h2 (((rσ.mono (g1.trans g2)).set (rv.mono g2) i).set rw' j) AD (g1.trans g2)⟩⟩⟩⟩
def iN(i j k:Nat)(te:aW):bv:=fun D σ S=>te σ S (fun p S1=>match p with | .tup [v,w,u]=>D.nx (((σ.set k (some u)).set j (some w)).set i (some v)) S1|_=>False) D.ex
def rn{i j k:Nat}{x y z:Str}{px py pz pt:Pos}{kt:Nat}(hc:X.calm=true)(hN:X.N.Nodup)(hi:X.N[i]?=some x)(hj:X.N[j]?=some y)(hk:X.N[k]?=some z)
  (hx:X.env.scope.names.lookup x=some .local) (hy:X.env.scope.names.lookup y=some .local) (hz:X.env.scope.names.lookup z=some .local) (he:aZ X e te)
  (hw:swappedStores [.Tuple [.Name x px,.Name y py,.Name z pz] kt pt] e X.env=pure (some [x,y,z]):=by rfl)
  (hs:swapsWithSole [.Tuple [.Name x px,.Name y py,.Name z pz] kt pt] e pos.line X.env=pure false:=by rfl):mK X (.Assign [.Tuple [.Name x px,.Name y py,.Name z pz] kt pt] e pos) (iN i j k te):=
 ⟨cK (oH hc hN hi hj hk hx hy hz he.ok hw hs) fun D σ H ⟨σ3,S,D3,rσ,rS,h,xo,n,r,bk,ct⟩=>⟨σ3,S,_,D3.ex,rσ,rS,h,xo,fun p S1 v H1 h1 rv yU g1=>by
  try dsimp only at h1
  split at h1
  ·cases rv with
   |tup hq rs=>
    cases rs with
    |cons r1 rs=>
     cases rs with
     |cons r2 rs=>
      cases rs with
      |cons r3 rs=>
       cases rs
       exact⟨_,_,_,_,rfl,hq,n _ S1 _ H1 h1 ((((rσ.mono g1).set r3 k).set r2 j).set r1 i) yU g1⟩
  ·exact h1.elim⟩⟩
inductive Tg where
 |n (i:Nat)|tp (l:Tg)|nil|cons (a r:Tg)
mutual
noncomputable def Tg.put:Tg->PV->b5->Option b5
 | .n i,p,σ=>some (σ.set i (some p))
 | .tp l,.tup xs,σ=>l.zL xs σ
 |_,_,_=>none
noncomputable def Tg.zL:Tg->List PV->b5->Option b5
 | .nil,[],σ=>some σ
 | .cons a r,x::xs,σ=>(match a.put x σ with|some σ'=>r.zL xs σ'|none=>none)
 |_,_,_=>none
end
noncomputable def Tg.len:Tg->Nat
 | .cons _ r=>r.len+1
 |_=>0
mutual
noncomputable def Tg.g2(K:Vo):Tg->TG
 | .n i=>kT i
 | .tp l=>vy K l.len (l.B9 K)
 |_=>fun _ _ _ _=>False
noncomputable def Tg.B9(K:Vo):Tg->se
 | .nil=>vx
 | .cons a r=>sf (a.g2 K) (r.B9 K)
 |_=>fun _ _ _ _=>False
end
noncomputable def Tg.under(own:Nat):Tg->Bool
 | .n i=>decide (i < own)
 | .tp l=>l.under own
 | .nil=>true
 | .cons a r=>a.under own&&r.under own
theorem Tg.AZ:∀(g:Tg) {ps:List PV} {σ3 σ4:b5},g.zL ps σ3=some σ4->ps.length=g.len
 | .nil,ps,σ3,σ4,h=>by
  cases ps with
  |nil=>rfl
  |cons _ _=>unfold Tg.zL at h;cases h
 | .cons a r,ps,σ3,σ4,h=>by
  cases ps with
  |nil=>unfold Tg.zL at h;cases h
  |cons x xs=>
   unfold Tg.zL at h
   split at h
   ·rw[FG,Tg.AZ r h];rfl
   ·cases h
 | .n _,ps,σ3,σ4,h=>by unfold Tg.zL at h;cases h
 | .tp _,ps,σ3,σ4,h=>by unfold Tg.zL at h;cases h
mutual
theorem Tg.Bc{K:Vo}{H:Hp}{own:Nat}:∀(g:Tg) {v:V} {p:PV} {σ:L2.St} {σ3 σ4:b5} {Q:L2.St->Hp->Prop},Rep K H v p->yL K H σ σ3->g.put p σ3=some σ4->(∀σ',yL K H σ' σ4->(g.under own=true->σ'.drop own=σ.drop own)->Q σ' H)->g.g2 K v σ H Q
 | .n i,v,p,σ,σ3,σ4,Q,r,rσ,h,k=>by
  unfold Tg.put at h
  cases h
  unfold Tg.g2
  refine k _ (rσ.set r i) fun hb=>?_
  have hi:i < own:=of_decide_eq_true hb
  rw[List.drop_set]
  rw[if_pos hi]
 | .tp l,v,p,σ,σ3,σ4,Q,r,rσ,h,k=>by
  cases p with
  |tup xs=>
   unfold Tg.put at h
   cases r with
   |tup hq rs=>
    have hg:=Tg.Bq (own:=own) l rs rσ h k
    unfold Tg.g2
    exact⟨_,_,rfl,hq,rs.length.trans (Tg.AZ l h),hg⟩
  |_=>unfold Tg.put at h;cases h
 | .nil,v,p,σ,σ3,σ4,Q,r,rσ,h,k=>by unfold Tg.put at h;cases h
 | .cons _ _,v,p,σ,σ3,σ4,Q,r,rσ,h,k=>by unfold Tg.put at h;cases h
theorem Tg.Bq{K:Vo}{H:Hp}{own:Nat}:∀(g:Tg) {vs:List V} {ps:List PV} {σ:L2.St} {σ3 σ4:b5} {Q:L2.St->Hp->Prop},Reps K H vs ps->yL K H σ σ3->g.zL ps σ3=some σ4->(∀σ',yL K H σ' σ4->(g.under own=true->σ'.drop own=σ.drop own)->Q σ' H)->g.B9 K vs σ H Q
 | .nil,vs,ps,σ,σ3,σ4,Q,r,rσ,h,k=>by
  cases ps with
  |nil=>
   unfold Tg.zL at h
   cases h
   cases r
   unfold Tg.B9
   exact⟨rfl,k _ rσ fun _=>rfl⟩
  |cons _ _=>unfold Tg.zL at h;cases h
 | .cons a r',vs,ps,σ,σ3,σ4,Q,r,rσ,h,k=>by
  cases ps with
  |nil=>unfold Tg.zL at h;cases h
  |cons x xs=>
   unfold Tg.zL at h
   split at h
   ·rename_i σ5 e5
    cases r with
    |cons r1 r2=>
     unfold Tg.B9
     refine⟨_,_,rfl,Tg.Bc (own:=own) a r1 rσ e5 fun σ' BU d1=>Tg.Bq (own:=own) r' r2 BU h fun EZ DJ d2=>k EZ DJ fun hb=>?_⟩
     have hb':a.under own=true/\r'.under own=true:=by simpa [Tg.under]using hb
     rw[d2 hb'.2,d1 hb'.1]
   ·cases h
 | .n _,vs,ps,σ,σ3,σ4,Q,r,rσ,h,k=>by unfold Tg.zL at h;cases h
 | .tp _,vs,ps,σ,σ3,σ4,Q,r,rσ,h,k=>by unfold Tg.zL at h;cases h
end
structure rq (X:Cx) (e:Expr) (g:Tg):Prop where
 ok:PG X e (g.g2 X.K)
structure rA (X:Cx) (es:List Expr) (g:Tg):Prop where
 ok:vv X es (g.B9 X.K)
 len:(assignEach es X.env).length=g.len
def yt(i:Nat){x:Str}(hN:X.N.Nodup)(hi:X.N[i]?=some x)(hx:sa X.env.scope x)(hf:X.fn x=true\/X.env.scope.names.lookup x=some .local:=by first|exact .inl rfl|exact .inr rfl|assumption):rq X (.Name x pos) (.n i):=⟨by
 have h:=qr (pos:=pos) hN hi hx hf
 unfold Tg.g2
 exact h⟩
def o_:rA X [] .nil:=⟨by unfold Tg.B9;exact qt,rfl⟩
def gA{es:List Expr}{a r:Tg}(h1:rq X e a)(h2:rA X es r)(hs:(assignEach (e::es) X.env).map (·.2)=assign e X.env::(assignEach es X.env).map (·.2):=by rfl)(hl:(assignEach (e::es) X.env).length=(assignEach es X.env).length+1:=by rfl):rA X (e::es) (.cons a r):=
 ⟨by unfold Tg.B9;exact og h1.ok h2.ok hs,by rw[hl,h2.len];rfl⟩
def xI{es:List Expr}{k:Nat}{l:Tg}(hc:X.calm=true)(h:rA X es l)(hst:(assignEach es X.env).findIdx? (·.1)=none:=by rfl):rq X (.Tuple es k pos) (.tp l):=⟨by
 have h:=sT (pos:=pos) (k:=k) hc h.ok h.len hst
 unfold Tg.g2
 exact h⟩
end
noncomputable def kl{κ:Type} [DecidableEq κ](kvs:List (κ×PV))(k:κ)(v:PV):List (κ×PV):=
 if (kvs.any fun kv=>decide (kv.1=k))=true then kvs.map (fun kv=>if kv.1=k then (kv.1,v) else kv) else kvs++[(k,v)]
theorem yY.append{K:Vo}{H:Hp}{κ:Type}:∀{vs us:List (κ×V)} {ps qs:List (κ×PV)},yY K H vs ps->yY K H us qs->yY K H (vs++us) (ps++qs)
 |_,_,_,_,.nil,s=>s
 |_,_,_,_,.cons a r,s=>.cons a (yY.append r s)
def yY.put{K:Vo}{H:Hp}{κ:Type} [DecidableEq κ]{k:κ}{v:V}{p:PV}(q:Rep K H v p){vs:List (κ×V)}{ps:List (κ×PV)}(r:yY K H vs ps):yY K H (dN vs k v) (kl ps k p):=by
 have e:(vs.any fun kv=>decide (kv.1=k))=(ps.any fun kv=>decide (kv.1=k)):=by rw[iz,r.any]
 unfold dN kl
 rw[e]
 split
 ·clear e
  rename_i h
  clear h
  induction r with
  |nil=>exact .nil
  |@cons k' v' p' vs' ps' a r ih=>
   rw[FO,FO]
   by_cases z:k'=k
   ·rw[if_pos z,if_pos z];exact .cons q ih
   ·rw[if_neg z,if_neg z];exact .cons a ih
 ·exact r.append (.cons q .nil)
def gB(o i v:PV)(S:ax)(Q:ax->Prop):Prop:=match o with
 | .ref a=>(match S a with
  |some (.lst xs)=>(match i with | .int k=>(match lP xs.length k with|some j=>Q (aD S a (.lst (xs.set j v)))|none=>False)|_=>False)
  |some (.dct kvs)=>(match ki i with|some k=>kvs.length < sizeLine/\Q (aD S a (.dct (kl kvs k v)))|none=>False)
  |_=>False)
 |_=>False
section
variable {X:Cx} {e o i:Expr} {te to ti:aW} {pos pos':Pos}
noncomputable def xJ(X:Cx):V->V->V->Hp->(Hp->Prop)->Prop:=fun o i v H Q=>∃po pi pv S Q3,Rep X.K H o po/\Rep X.K H i pi/\Rep X.K H v pv/\yI X.K H S/\gB po pi pv S Q3/\∀S' H',Q3 S'->yI X.K H' S'->Grow X.K H H'->Q H'
def ua(hu:X.A.units+1 < cLine):qq X (xJ X):=by
 intro pins s σ H o i v ov iv u Q I ro ri rv ⟨po,pi,pv,S,Q3,r1,r2,r3,rS,q,k⟩
 unfold gB at q
 split at q
 ·split at q
  ·rename_i e
   split at q
   ·split at q
    ·rename_i ej
     cases r1;cases r2
     obtain⟨vs,hv,rl⟩:=rS _ _ e
     rw[<-rl.length]at ej
     exact ot pins s σ H _ _ _ ov iv u Q I ro ri rv ⟨_,_,_,_,rfl,rfl,hv,ej,k _ _ q (rS.put hv trivial ⟨_,aB,((rl.set r3 _).mono (.mut hv trivial))⟩) (.mut hv trivial)⟩
    ·exact q.elim
   ·exact q.elim
  ·rename_i e
   split at q
   ·rename_i ek
    cases r1
    have e1:=cJ r2 ek
    subst e1
    obtain⟨kv,hv,rk⟩:=rS _ _ e
    exact oZ hu pins s σ H _ _ _ ov iv u Q I ro ri rv ⟨_,_,rfl,BF.k hv (by rw[rk.length];exact q.1),k _ _ q.2 (rS.put hv trivial ⟨_,aB,(rk.put r3).mono (.mut hv trivial)⟩) (.mut hv trivial)⟩
   ·exact q.elim
  ·exact q.elim
 ·exact q.elim
def jm(te to ti:aW):bv:=fun D σ S=>te σ S (fun v S1=>to σ S1 (fun o S2=>ti σ S2 (fun i S3=>gB o i v S3 (fun S4=>D.nx σ S4)) D.ex) D.ex) D.ex
def jM(hu:X.A.units+1 < cLine)(he:aZ X e te)(ho:aZ X o to)(hi:aZ X i ti)
  (ha:∀v,assign (.Subscript o i pos') X.env v=(do
   let ov <-holding [v] (eval o X.env)
   let iv <-holding [v,ov] (eval i X.env)
   standAt pos'
   holding [v,ov,iv] (setItem ov iv v)
   release [v,ov,iv] []):=by intro _;rfl)
  (hs:swapsWithSole [.Subscript o i pos'] e pos.line X.env=pure false:=by rfl) (hw:swappedStores [.Subscript o i pos'] e X.env=pure none:=by rfl)
  (h1:(assignEach [.Subscript o i pos'] X.env).map (·.2)=[assign (.Subscript o i pos') X.env]:=by rfl):mK X (.Assign [.Subscript o i pos'] e pos) (jm te to ti):=
 ⟨cK (sV he.ok (sU ho.ok hi.ok (ua hu) ha) hs hw h1) fun D σ H ⟨σ3,S,D3,rσ,rS,h,xo,n,r,bk,ct⟩=>⟨σ3,S,_,D3.ex,rσ,rS,h,xo,fun v S1 v' H1 h1 rv yU g1=>
  ⟨σ3,S1,_,D3.ex,rσ.mono g1,yU,h1,xo.mono g1,fun o S2 o' H2 h2 ro AD g2=>⟨σ3,S2,_,D3.ex,rσ.mono (g1.trans g2),AD,h2,xo.mono (g1.trans g2),fun i S3 i' H3 h3 ri Cr g3=>
   ⟨o,i,v,S3,_,ro.mono g3,ri,rv.mono (g2.trans g3),Cr,h3,fun S4 H4 h4 E4 g4=>n _ S4 _ H4 h4 (rσ.mono (g1.trans (g2.trans (g3.trans g4)))) E4 (g1.trans (g2.trans (g3.trans g4)))⟩⟩⟩⟩⟩
end
end L3
namespace L2
open PySem PySem.Spec PyProof.Rows
section
variable {X:Cx} {tg:Expr}
def xK(K:Vo)(tl:TE):TI:=fun σ H R=>tl σ H fun x H1=>(∃a,x = .ref a/\(∃xs,SqL K H1 a xs)/\R (wG K a) H1)\/(∃a,x = .ref a/\(∃xs,zJ K H1 a xs)/\R (w_ K a) H1)\/∃z,x = .str z/\R (xB z) H1
def ub{l:Expr}{tl:TE}(hl:PE X l tl):PI X tg l (xK X.K tl):=by
 intro pins s σ H R I h
 refine yF (hl pins s σ H _ I h) fun v s1 ⟨x,H1,I1,r1,q1⟩=>?_
 rcases q1 with⟨a,e,⟨xs,hq⟩,q⟩|⟨a,e,⟨xs,hq⟩,q⟩|⟨z,e,q⟩
 ·subst e
  cases r1
  obtain⟨its,rv,p,hz⟩:=I1.list hq
  refine wpAny_pyIter_list p.isList ?_
  refine⟨s1.heap.objs.size,[s1.heap.objs.size],_,_,H1,rfl,I1.kept (t':=s1.toks) fun b o e=>FA _ e,m4 a _,⟨_,FT _ rfl,rfl,rfl⟩,fun b hb=>?_,q⟩
  have e:b=s1.heap.objs.size:=by simpa using hb
  subst e
  exact I1.AC (Ft _) (I1.hok.fresh (Ft _))
 ·subst e
  cases r1
  obtain⟨its,rv,p,hz⟩:=I1.tuple hq
  refine G9 (show s1.heap.IsTuple a its.toArray from p) ?_
  refine⟨s1.heap.objs.size,[s1.heap.objs.size],_,_,H1,rfl,I1.kept (t':=s1.toks) fun b o e=>FA _ e,lI a _,⟨_,FT _ rfl,rfl,rfl⟩,fun b hb=>?_,q⟩
  have e:b=s1.heap.objs.size:=by simpa using hb
  subst e
  exact I1.AC (Ft _) (I1.hok.fresh (Ft _))
 ·subst e
  obtain⟨t,rfl⟩:=r1
  have fin:∀ty,(ty = "str_ascii_iterator" \/ ty = "str_iterator")->w9 X pins σ tg R (.ref s1.heap.objs.size) { s1 with heap:=s1.heap.push { cls:=.type ty,data:=.fields #[.str z t,.int 0 0] } }:=fun ty hty=>by
   refine⟨s1.heap.objs.size,[s1.heap.objs.size],_,_,H1,rfl,I1.kept (t':=s1.toks) fun b o e=>FA _ e,oF hty _ z t,⟨Gq _,_,FT _ rfl,rfl,rfl⟩,fun b hb=>?_,q⟩
   have e:b=s1.heap.objs.size:=by simpa using hb
   subst e
   exact I1.AC (Ft _) (I1.hok.fresh (Ft _))
  cases ha:z.cps.all (· < 128)
  ·exact wpAny_pyIter_wide ha (fin _ (.inr rfl))
  ·exact wpAny_pyIter_ascii ha (fin _ (.inl rfl))
def uc(K:Vo)(ta:TA):TI:=fun σ H R=>ta σ H fun vs H1=>∃a,vs=[.ref a]/\(((∃xs,SqL K H1 a xs)/\R (xD K a) H1)\/((∃xs,zJ K H1 a xs)/\R (xE K a) H1))
def pb{elts:List Expr}{k0:Nat}{Bb:Pos}{a:Expr}{ta:TA}{p pos:Pos}(hg:Gl X "enumerate")(hm:X.mg "enumerate" = none)(hv:bootBuiltins "enumerate" = some (.type "enumerate"))(ha:PA X [a] ta)
  (hs:starEach [a] X.env=[(false,eval a X.env)]:=by rfl):PI X (.Tuple elts k0 Bb) (.Call (.Name "enumerate" p) [a] [] pos) (uc X.K ta):=by
 intro pins s σ H R I h
 refine Call_ (e7 I hg hm hv (Gr (yF (ha pos pins s σ H _ I h) fun us s1 ⟨vs,H1,I1,r1,q1⟩=>?_) hs rfl))
 obtain⟨a,e,q⟩:=q1
 subst e
 obtain⟨u,rfl,ru⟩:=eO r1
 cases ru
 rcases q with⟨⟨xs,qa⟩,q⟩|⟨⟨xs,qa⟩,q⟩
 ·obtain⟨ia,ra,pa,za⟩:=I1.list qa
  refine call_enumerate_list pa.isList fun g ge g1 gz kk=>?_
  refine Hx (s:={ s1 with heap:=g }) ge ?_
  refine⟨_,[s1.heap.objs.size+1,s1.heap.objs.size],_,_,H1,rfl,I1.kept (t':=s1.toks) kk,nu (Nat.succ_ne_self _),⟨⟨_,ge⟩,g1⟩,fun c hc=>?_,q⟩
  have hle:s1.heap.objs.size<=c:=by
   simp only[FE,FN,Gi]at hc
   rcases hc with rfl|rfl
   ·exact Nat.le_add_right _ _
   ·exact Ft _
  exact I1.AC hle (I1.hok.fresh hle)
 ·obtain⟨ia,ra,pa,za⟩:=I1.tuple qa
  have la:a < s1.heap.objs.size:=by obtain⟨o,e,_⟩:=pa;exact FD e
  refine Et.oI (show s1.heap.IsTuple a ia.toArray from pa) fun g ge g1 kk=>?_
  refine Hx (s:={ s1 with heap:=g }) ge ?_
  refine⟨_,[s1.heap.objs.size+1,s1.heap.objs.size],_,_,H1,rfl,I1.kept (t':=s1.toks) kk,lU (Nat.succ_ne_self _) (FW (Nat.lt_succ_of_lt la)) (FW la),⟨⟨_,ge⟩,g1⟩,fun c hc=>?_,q⟩
  have hle:s1.heap.objs.size<=c:=by
   simp only[FE,FN,Gi]at hc
   rcases hc with rfl|rfl
   ·exact Nat.le_add_right _ _
   ·exact Ft _
  exact I1.AC hle (I1.hok.fresh hle)
end
end L2
namespace L3
open PySem L2
structure xL where
 items:List PV
 keep:ax->Prop
def gW(K:Vo)(H0:Hp)(J:It)(src:xL):Prop:=∀(i:Nat) (S:ax) (H:Hp),Grow K H0 H->yI K H S->src.keep S->
 (∀p,src.items[i]?=some p->J.go i H/\∀x H',J.C4 i H x H'->Rep K H' x p/\yI K H' S/\Grow K H H')/\(i=src.items.length->J.stop i H)
abbrev qg:=b5->ax->(xL->ax->Prop)->b9->Prop
inductive LI (X:Cx) (t:qg) (σ:L2.St) (H:Hp) (R:It->Hp->Prop):Prop
 |mk (σ3 S R3 E3) (rσ:yL X.K H σ σ3) (rS:yI X.K H S) (h:t σ3 S R3 E3) (xo:BA X H E3) (k:∀src S' J H',R3 src S'->gW X.K H' J src->yI X.K H' S'->Grow X.K H H'->R J H'):LI X t σ H R
structure sw (X:Cx) (tg iter:Expr) (t:qg):Prop where
 ok:PI X tg iter (LI X t)
def l8{X:Cx}{tg iter:Expr}{t t':TI}(h:PI X tg iter t)(k:∀σ H R,t' σ H R->t σ H R):PI X tg iter t':=fun pins s σ H R I q=>h pins s σ H R I (k σ H R q)
section
variable {X:Cx} {e tg:Expr} {es:List Expr} {te:aW} {ts:List aW} {p pos:Pos}
noncomputable def gX(S:ax):PV->Option xL
 | .tup xs=>some ⟨xs,fun _=>True⟩
 | .cl xs=>some ⟨xs,fun _=>True⟩
 | .str z=>some ⟨z.cps.toList.map fun c=>.str (j_ c),fun _=>True⟩
 | .ref a=>(match S a with|some (.lst xs)=>some ⟨xs,fun S'=>S' a=some (.lst xs)⟩|_=>none)
 |_=>none
def cm(te:aW):qg:=fun σ S R E=>te σ S (fun v S1=>match gX S1 v with|some src=>R src S1|none=>False) E
end
section
variable {X:Cx} {e tg a b:Expr} {es:List Expr} {te ta tb:aW} {ts:List aW} {p pos:Pos}
def pc{K:Vo}{H0:Hp}{a:Addr}{xs:List PV}:gW K H0 (wG K a) ⟨xs,fun S'=>S' a=some (.lst xs)⟩:=by
 intro i S H g rS hk
 obtain⟨vs,hv,rs⟩:=rS a _ hk
 refine⟨fun p hp=>?_,fun hi=>⟨vs,SqL.of hv,by rw[rs.length,hi];exact Ft _⟩⟩
 obtain⟨v,hx,rv⟩:=rs.get hp
 refine⟨⟨vs,v,SqL.of hv,hx⟩,fun x H' ⟨e,h⟩=>?_⟩
 subst e
 have:=h vs (SqL.of hv)
 rw[hx]at this
 cases this
 exact⟨rv,rS,.refl⟩
def rB{K:Vo}{H0:Hp}{a:Addr}{vs:List V}{xs:List PV}(h:zJ K H0 a vs)(rs:Reps K H0 vs xs):gW K H0 (w_ K a) ⟨xs,fun _=>True⟩:=by
 intro i S H g rS _
 have hv:=g.t _ _ h
 refine⟨fun p hp=>?_,fun hi=>⟨vs,hv,by rw[rs.length,hi];exact Ft _⟩⟩
 obtain⟨v,hx,rv⟩:=rs.get hp
 refine⟨⟨vs,v,hv,hx⟩,fun x H' ⟨e,h⟩=>?_⟩
 subst e
 have:=h vs hv
 rw[hx]at this
 cases this
 exact⟨rv.mono g,rS,.refl⟩
def ue{K:Vo}{H0:Hp}{a:Addr}{vs:List V}{xs:List PV}(h:CG K H0 a vs)(rs:Reps K H0 vs xs):gW K H0 (wG K a) ⟨xs,fun _=>True⟩:=by
 intro i S H g rS _
 have hv:=(g.c _ _ h).sq
 refine⟨fun p hp=>?_,fun hi=>⟨vs,hv,by rw[rs.length,hi];exact Ft _⟩⟩
 obtain⟨v,hx,rv⟩:=rs.get hp
 refine⟨⟨vs,v,hv,hx⟩,fun x H' ⟨e,h⟩=>?_⟩
 subst e
 have:=h vs hv
 rw[hx]at this
 cases this
 exact⟨rv.mono g,rS,.refl⟩
def rC{K:Vo}{H0:Hp}{z:Str}:gW K H0 (xB z) ⟨z.cps.toList.map fun c=>.str (j_ c),fun _=>True⟩:=by
 intro i S H g rS _
 refine⟨fun p hp=>?_,fun hi=>by show z.cps.size<=i;rw[hi,Fx,HS];exact Ft _⟩
 rw[FY]at hp
 cases hc:z.cps.toList[i]? with
 |none=>rw[hc]at hp;cases hp
 |some c=>
  rw[hc]at hp
  cases hp
  have hc':z.cps[i]?=some c:=by simpa using hc
  refine⟨?_,fun x H' ⟨e,c',h1,h2⟩=>?_⟩
  ·show i < z.cps.size
   by_cases hi:i < z.cps.size
   ·exact hi
   ·rw[Hw (by omega)]at hc';cases hc'
  ·subst e
   rw[hc']at h1
   cases h1
   subst h2
   exact⟨.str _,rS,.refl⟩
def gY(he:aZ X e te):sw X tg e (cm te):=⟨l8 (ub he.ok) fun σ H R ⟨σ3,S,R3,E3,rσ,rS,h,xo,k⟩=>⟨σ3,S,_,E3,rσ,rS,h,xo,fun v S1 v' H1 h1 rv yU g1=>by
 split at h1
 ·rename_i src hs
  unfold gX at hs
  split at hs
  ·cases hs
   cases rv with
   |tup hq rs=>exact .inr (.inl ⟨_,rfl,⟨_,hq⟩,k _ S1 _ H1 h1 (rB hq rs) yU g1⟩)
  ·cases hs
   cases rv with
   |cl hq rs=>exact .inl ⟨_,rfl,⟨_,hq.sq⟩,k _ S1 _ H1 h1 (ue hq rs) yU g1⟩
  ·cases hs
   cases rv
   exact .inr (.inr ⟨_,rfl,k _ S1 _ H1 h1 rC yU g1⟩)
  ·cases rv
   split at hs
   ·rename_i ea
    cases hs
    obtain⟨vs,hv,rs⟩:=yU _ _ ea
    exact .inl ⟨_,rfl,⟨_,SqL.of hv⟩,k _ S1 _ H1 h1 pc yU g1⟩
   ·cases hs
  ·cases hs
 ·exact h1.elim⟩⟩
noncomputable def bh(lo:Int)(n:Nat):List PV:=(List.range n).map fun(i:Nat)=>PV.int (lo+i)
def nG{K:Vo}{H0:Hp}{lo:Int}{n:Nat}:gW K H0 (wH lo n) ⟨bh lo n,fun _=>True⟩:=by
 intro i S H g rS _
 refine⟨fun p hp=>?_,fun hi=>by show n<=i;rw[hi];simp[bh]⟩
 unfold bh at hp
 rw[FY]at hp
 by_cases hi:i < n
 ·rw[HU hi]at hp
  cases hp
  refine⟨hi,fun x H' ⟨e,h⟩=>?_⟩
  subst e h
  exact⟨.int _,rS,.refl⟩
 ·rw[Gw (by simpa using hi)]at hp
  cases hp
def eJ(ta:aW):qg:=fun σ S R E=>ta σ S (fun v S1=>match v with | .int j=>-(2 ^ 62)<=j/\j < 2 ^ 62/\R ⟨bh 0 j.toNat,fun _=>True⟩ S1|_=>False) E
def bZ(hs:starEach [a] X.env=[(false,eval a X.env)])(hg:Gl X "range")(hm:X.mg "range" = none)(ha:kf X [a] [ta]):sw X tg (.Call (.Name "range" p) [a] [] pos) (eJ ta):=
 ⟨l8 (m5 hg hm ha.ok hs) fun σ H R ⟨σ3,S,R3,E3,rσ,rS,h,xo,k⟩=>⟨σ3,S,_,E3,rσ,rS,h,xo,fun v S1 v' H1 h1 rv yU g1=>by
  split at h1
  ·cases rv
   exact⟨_,rfl,h1.1,h1.2.1,k _ S1 _ H1 h1.2.2 nG yU g1⟩
  ·exact h1.elim⟩⟩
noncomputable def a9(xs:List PV):List PV:=xs.mapIdx fun i x=>.tup [.int i,x]
def nH{K:Vo}{H0:Hp}{a:Addr}{xs:List PV}:gW K H0 (xD K a) ⟨a9 xs,fun S'=>S' a=some (.lst xs)⟩:=by
 intro i S H g rS hk
 obtain⟨vs,hv,rs⟩:=rS a _ hk
 refine⟨fun p hp=>?_,fun hi=>⟨vs,SqL.of hv,by rw[rs.length,hi];simp[a9]⟩⟩
 unfold a9 at hp
 rw[HJ]at hp
 cases hx:xs[i]? with
 |none=>rw[hx]at hp;cases hp
 |some y=>
  rw[hx]at hp
  cases hp
  obtain⟨v,hx',rv⟩:=rs.get hx
  refine⟨⟨vs,v,SqL.of hv,hx'⟩,fun x H' ⟨q,x2,e1,hq,e2,h⟩=>?_⟩
  subst e1 e2
  have:=h vs (SqL.of hv)
  rw[hx']at this
  cases this
  exact⟨.tup (zJ.of aB) (.cons (.int _) (.cons (rv.mono (.new hq)) .nil)),rS.other hq,.new hq⟩
def nI{K:Vo}{H0:Hp}{a:Addr}{vs:List V}{xs:List PV}(h0:zJ K H0 a vs)(rs:Reps K H0 vs xs):gW K H0 (xE K a) ⟨a9 xs,fun _=>True⟩:=by
 intro i S H g rS _
 have hv:=g.t _ _ h0
 refine⟨fun p hp=>?_,fun hi=>⟨vs,hv,by rw[rs.length,hi];simp[a9]⟩⟩
 unfold a9 at hp
 rw[HJ]at hp
 cases hx:xs[i]? with
 |none=>rw[hx]at hp;cases hp
 |some y=>
  rw[hx]at hp
  cases hp
  obtain⟨v,hx',rv⟩:=rs.get hx
  refine⟨⟨vs,v,hv,hx'⟩,fun x H' ⟨q,x2,e1,hq,e2,h⟩=>?_⟩
  subst e1 e2
  have:=h vs hv
  rw[hx']at this
  cases this
  exact⟨.tup (zJ.of aB) (.cons (.int _) (.cons ((rv.mono g).mono (.new hq)) .nil)),rS.other hq,.new hq⟩
def ld(ta:aW):qg:=fun σ S R E=>ta σ S (fun v S1=>match v with
 | .tup xs=>R ⟨a9 xs,fun _=>True⟩ S1
 | .ref a=>(match S1 a with|some (.lst xs)=>R ⟨a9 xs,fun S'=>S' a=some (.lst xs)⟩ S1|_=>False)
 |_=>False) E
def uf{elts:List Expr}{k0:Nat}{Bb:Pos}(hs:starEach [a] X.env=[(false,eval a X.env)])(hg:Gl X "enumerate")(hm:X.mg "enumerate" = none)(hv:bootBuiltins "enumerate" = some (.type "enumerate"))(ha:kf X [a] [ta]):sw X (.Tuple elts k0 Bb) (.Call (.Name "enumerate" p) [a] [] pos) (ld ta):=
 ⟨l8 (pb hg hm hv ha.ok hs) fun σ H R ⟨σ3,S,R3,E3,rσ,rS,h,xo,k⟩=>⟨σ3,S,_,E3,rσ,rS,h,xo,fun v S1 v' H1 h1 rv yU g1=>by
  split at h1
  ·cases rv with
   |tup hq rs=>exact⟨_,rfl,.inr ⟨⟨_,hq⟩,k _ S1 _ H1 h1 (nI hq rs) yU g1⟩⟩
  ·cases rv
   split at h1
   ·rename_i ea
    obtain⟨vs,hv,rs⟩:=yU _ _ ea
    exact⟨_,rfl,.inl ⟨⟨_,SqL.of hv⟩,k _ S1 _ H1 h1 nH yU g1⟩⟩
   ·exact h1.elim
  ·exact h1.elim⟩⟩
end
section
variable {X:Cx} {iter tg c:Expr} {body:List Stmt} {ti:qg} {g:Tg} {tb:bv} {tc:hV} {pos:Pos}
noncomputable def lg(g:Tg)(tb:bv)(D:k6)(keep:ax->Prop):List PV->b5->ax->Prop
 |[],σ,S=>keep S/\D.nx σ S
 |x::r,σ,S=>keep S/\match g.put x σ with|some σ'=>tb { D with nx:=lg g tb D keep r,ct:=lg g tb D keep r,bk:=D.nx } σ' S|none=>False
def cU(ti:qg)(g:Tg)(tb:bv):bv:=fun D σ S=>ti σ S (fun src S1=>lg g tb D src.keep src.items σ S1) D.ex
def fN(hp:PassesOwn (model X.prog X.w) X.A X.env X.xe)(hc:X.calm=true)(hi:sw X tg iter ti)(hg:rq X tg g)(hb:iE X body tb)(hs:∀x,foldedSetIterable iter X.env x=pure x:=by intro _;rfl):mK X (.For tg iter body [] pos) (cU ti g tb):=
 ⟨cK (sZ hp hc hi.ok hg.ok hb.ok hs) fun D σ H ⟨σ3,S,D3,rσ,rS,h,xo,n,r,bk,ct⟩=>⟨σ3,S,_,D3.ex,rσ,rS,h,xo,fun src S1 J H1 h1 sim yU g1=>by
  refine⟨fun i m σ' H'=>i+m=src.items.length/\∃σ4 S',yL X.K H' σ' σ4/\yI X.K H' S'/\Grow X.K H1 H'/\lg g tb D3 src.keep (src.items.drop i) σ4 S',⟨src.items.length,Hz _,σ3,S1,rσ.mono g1,yU,.refl,by simpa using h1⟩,?_⟩
  rintro i m σ' H' ⟨hm,σ4,S',BU,Ae,g',hw⟩
  cases hd:src.items.drop i with
  |nil=>
   rw[hd]at hw
   have hi:i=src.items.length:=by
    have:=F5 List.length hd
    rw[Gj,HM]at this
    omega
   exact .inl ⟨(sim i S' H' g' Ae hw.1).2 hi,n _ S' _ H' hw.2 BU Ae (g1.trans g')⟩
  |cons x rest=>
   rw[hd]at hw
   have hx:src.items[i]?=some x:=by
    have:=F5 (fun l=>l[0]?) hd
    simpa using this
   have hrest:src.items.drop (i+1)=rest:=by
    have:=F5 List.tail hd
    simpa [List.tail_drop]using this
   have hlt:i < src.items.length:=by
    by_cases z:i < src.items.length
    ·exact z
    ·rw[Gw (by omega)]at hx;cases hx
   obtain⟨go,yl⟩:=(sim i S' H' g' Ae hw.1).1 x hx
   refine .inr ⟨go,fun σ5 H5=>∃σ6 S6,yL X.K H5 σ5 σ6/\yI X.K H5 S6/\Grow X.K H1 H5/\lg g tb D3 src.keep rest σ6 S6,?_,fun v H5 hv=>?_⟩
   ·rintro σ5 H5 ⟨σ6,S6,q1,q2,q3,q4⟩
    exact⟨m - 1,by omega,by omega,σ6,S6,q1,q2,q3,by rw[hrest];exact q4⟩
   ·obtain⟨rv,DK,g5⟩:=yl v H5 hv
    obtain⟨_,hw⟩:=hw
    split at hw
    ·rename_i σ6 e6
     refine Tg.Bc (own:=0) g rv (BU.mono g5) e6 fun σ7 C8 _=>?_
     exact⟨σ6,S',_,C8,DK,hw,xo.mono (g1.trans (g'.trans g5)),fun σ8 S8 σ9 H9 q1 q2 q3 q4=>⟨σ8,S8,q2,q3,g'.trans (g5.trans q4),q1⟩,r.mono (g1.trans (g'.trans g5)),n.mono (g1.trans (g'.trans g5)),
      fun σ8 S8 σ9 H9 q1 q2 q3 q4=>⟨σ8,S8,q2,q3,g'.trans (g5.trans q4),q1⟩⟩
    ·exact hw.elim⟩⟩
def iO(tc:hV)(tb:bv):bv:=fun D σ S=>∃W:Nat->b5->ax->Prop,(∃m,W m σ S)/\∀m σ S,W m σ S->
 tc σ S (fun b S1=>if b=true then ∃N:b5->ax->Prop,(∀σ' S',N σ' S'->∃m',m' < m/\W m' σ' S')/\tb { D with nx:=N,ct:=N,bk:=D.nx } σ S1 else D.nx σ S1) D.ex
def km(hp:PassesOwn (model X.prog X.w) X.A X.env X.xe)(hc:lW X c tc)(hb:iE X body tb):mK X (.While c body [] pos) (iO tc tb):=
 ⟨cK (oh hp hc.ok hb.ok) fun D σ H ⟨σ3,S,D3,rσ,rS,⟨W,⟨m0,w0⟩,turn⟩,xo,n,r,bk,ct⟩=>by
  refine⟨fun m σ' H'=>∃σ4 S',yL X.K H' σ' σ4/\yI X.K H' S'/\Grow X.K H H'/\W m σ4 S',⟨m0,σ3,S,rσ,rS,.refl,w0⟩,?_⟩
  rintro m σ' H' ⟨σ4,S',BU,Ae,g',w'⟩
  refine⟨σ4,S',_,D3.ex,BU,Ae,turn m σ4 S' w',xo.mono g',fun b S1 H1 h1 yU g1=>?_⟩
  cases b with
  |true=>
   rw[if_pos rfl]at h1 ⊢
   obtain⟨N,hN,h1⟩:=h1
   refine⟨fun σ5 H5=>∃σ6 S6,yL X.K H5 σ5 σ6/\yI X.K H5 S6/\Grow X.K H H5/\N σ6 S6,?_,?_⟩
   ·rintro σ5 H5 ⟨σ6,S6,q1,q2,q3,q4⟩
    obtain⟨m',hm,w6⟩:=hN σ6 S6 q4
    exact⟨m',hm,σ6,S6,q1,q2,q3,w6⟩
   ·exact⟨σ4,S1,_,BU.mono g1,yU,h1,xo.mono (g'.trans g1),fun σ8 S8 σ9 H9 q1 q2 q3 q4=>⟨σ8,S8,q2,q3,g'.trans (g1.trans q4),q1⟩,r.mono (g'.trans g1),n.mono (g'.trans g1),
     fun σ8 S8 σ9 H9 q1 q2 q3 q4=>⟨σ8,S8,q2,q3,g'.trans (g1.trans q4),q1⟩⟩
  |false=>
   rw[if_neg (by decide)]at h1 ⊢
   exact n _ S1 _ H1 h1 (BU.mono g1) yU (g'.trans g1)⟩
end
noncomputable def gj:b9:=fun _ _ _=>False
def BA.no{X:Cx}{H:Hp}:BA X H gj:=fun _ _ _ _ _ _ _ _ _ _ _ _ _ _ h=>h.elim
section
variable {X:Cx} {elt iter tg c:Expr} {ifs:List Expr} {scope:Scope} {pos:Pos} {ti:qg} {g:Tg} {tc:hV} {te:aW} {fs N:Vs} {own:Nat} {fr:List Nat}
noncomputable def dR(g:Tg)(tc:hV)(te:aW)(σ':b5)(keep:ax->Prop)(fin:List PV->ax->Prop):List PV->List PV->ax->Prop
 |[],ys,S=>keep S/\ys.length<=sizeLine/\fin ys S
 |x::r,ys,S=>keep S/\ys.length<=sizeLine/\match g.put x σ' with
  |some σ2=>tc σ2 S (fun b S3=>if b=true then te σ2 S3 (fun y S4=>dR g tc te σ' keep fin r (ys++[y]) S4) gj else dR g tc te σ' keep fin r ys S3) gj
  |none=>False
def kn:hV:=fun _ S Q _=>Q true S
structure vc (X:Cx) (ifs:List Expr) (t:hV):Prop where
 ok:PF X ifs (LT X t)
def l9{t t':TT}(h:PF X ifs t)(k:∀σ H Q,t' σ H Q->t σ H Q):PF X ifs t':=fun pins s σ H Q I q=>h pins s σ H Q I (k σ H Q q)
def mQ:vc X [] kn:=⟨l9 tQ fun σ H Q ⟨σ3,S,Q3,E3,rσ,rS,h,xo,k⟩=>k true S H h rS .refl⟩
def mR(h:lW X c tc):vc X [c] tc:=⟨tR h.ok⟩
noncomputable def ko(own:Nat)(fr:List Nat)(σ:b5):b5:=List.replicate own none++fr.map fun j=>lk σ j
def rD{K:Vo}{H:Hp}{σ:L2.St}{σ3:b5}(r:yL K H σ σ3)(own:Nat)(fr:List Nat):yL K H (cS own fr σ) (ko own fr σ3):=by
 refine⟨by unfold cS ko;simp,fun i p e=>?_⟩
 unfold ko at e
 unfold cS
 by_cases hi:i < own
 ·rw[F3 (by simpa using hi),GB,if_pos hi]at e
  cases e
 ·rw[F9 (by simpa using hi),Gk,FY]at e ⊢
  cases hj:fr[i - own]? with
  |none=>rw[hj]at e;cases e
  |some j=>
   rw[hj]at e
   simp only[Option.map_some,Ic]at e ⊢
   obtain⟨v,hv,rv⟩:=r.at' j p (oS e)
   exact⟨v,by rw[hv];rfl,rv⟩
def b8(ti:qg)(g:Tg)(tc:hV)(te:aW)(own:Nat)(fr:List Nat):aW:=fun σ S Q E=>ti σ S (fun src S1=>dR g tc te (ko own fr σ) src.keep (fun ys S2=>∀p,S2 p=none->Q (.ref p) (aD S2 p (.lst ys))) src.items [] S1) E
def jN{σ:L2.St}{H:Hp}{Q:VK}(B3:g.under own=true)(B0:Bk):LE X (b8 ti g tc te own fr) σ H Q->oC (LI X ti) (g.g2 X.K) (fun σ H Q=>∃σ3 S Q3,yL X.K H σ σ3/\yI X.K H S/\tc σ3 S Q3 gj/\∀b S' H',Q3 b S'->yI X.K H' S'->Grow X.K H H'->Q b H')
  (fun σ H Q=>∃σ3 S Q3,yL X.K H σ σ3/\yI X.K H S/\te σ3 S Q3 gj/\BB X.K H Q3 Q) own fr σ H Q:=fun⟨σ3,S,Q3,E3,rσ,rS,h,xo,k⟩=>by
 refine⟨σ3,S,_,E3,rσ,rS,h,xo,fun src S1 J H1 h1 sim yU g1=>?_⟩
 refine⟨fun i m ys H'=>i+m=src.items.length/\∃zs S',Reps X.K H' ys zs/\yI X.K H' S'/\Grow X.K H1 H'/\dR g tc te (ko own fr σ3) src.keep (fun ys S2=>∀p,S2 p=none->Q3 (.ref p) (aD S2 p (.lst ys))) (src.items.drop i) zs S',⟨src.items.length,Hz _,[],S1,.nil,yU,.refl,by simpa using h1⟩,?_⟩
 rintro i m ys H' ⟨hm,zs,S',rz,Ae,g',hw⟩
 cases hd:src.items.drop i with
 |nil=>
  rw[hd]at hw
  have hi:i=src.items.length:=by
   have:=F5 List.length hd
   rw[Gj,HM]at this
   omega
  refine .inl ⟨(sim i S' H' g' Ae hw.1).2 hi,by rw[rz.length];exact hw.2.1,fun D hD=>?_⟩
  exact k _ _ _ _ (hw.2.2 D (Ae.free hD)) (.ref D) (Ae.new hD ⟨_,aB,rz.mono (.new hD)⟩) (g1.trans (g'.trans (.new hD)))
 |cons x rest=>
  rw[hd]at hw
  have hx:src.items[i]?=some x:=by
   have:=F5 (fun l=>l[0]?) hd
   simpa using this
  have hrest:src.items.drop (i+1)=rest:=by
   have:=F5 List.tail hd
   simpa [List.tail_drop]using this
  have hlt:i < src.items.length:=by
   by_cases z:i < src.items.length
   ·exact z
   ·rw[Gw (by omega)]at hx;cases hx
  obtain⟨go,yl⟩:=(sim i S' H' g' Ae hw.1).1 x hx
  refine .inr ⟨go,by rw[rz.length];exact hw.2.1,fun ys' H5=>∃zs' S6,Reps X.K H5 ys' zs'/\yI X.K H5 S6/\Grow X.K H1 H5/\dR g tc te (ko own fr σ3) src.keep (fun ys S2=>∀p,S2 p=none->Q3 (.ref p) (aD S2 p (.lst ys))) rest zs' S6,?_,fun v H5 hv=>?_⟩
  ·rintro ys' H5 ⟨zs',S6,q1,q2,q3,q4⟩
   exact⟨m - 1,by omega,by omega,zs',S6,q1,q2,q3,by rw[hrest];exact q4⟩
  ·obtain⟨rv,DK,g5⟩:=yl v H5 hv
   obtain⟨_,_,hw⟩:=hw
   split at hw
   ·rename_i σ6 e6
    refine Tg.Bc (own:=own) g rv ((rD rσ own fr).mono (g1.trans (g'.trans g5))) e6 fun σ7 C8 d7=>⟨d7 B3,?_⟩
    refine⟨σ6,S',_,C8,DK,hw,fun b S8 H8 h8 Er g8=>?_⟩
    cases b with
    |true=>
     rw[if_pos rfl]at h8 ⊢
     exact⟨σ6,S8,_,C8.mono g8,Er,h8,fun y S9 y' H9 h9 ry E5 g9=>⟨zs++[y],S9,(rz.mono (g5.trans (g8.trans g9))).append (.cons ry .nil),E5,g'.trans (g5.trans (g8.trans g9)),h9⟩⟩
    |false=>
     rw[if_neg (by decide)]at h8 ⊢
     exact⟨zs,S8,rz.mono (g5.trans g8),Er,g'.trans (g5.trans g8),h8⟩
   ·exact hw.elim
def uh(fs:Vs)(own:Nat)(fr:List Nat)(N:Vs)(B3:g.under own=true)(hc:X.calm=true)(hclos:closureFor scope X.env=pure (bT X.env fs))(hcell:∀y∈scope.names,y.2 ≠ .cell)(hkind:scope.kind = .function)
  (hnames:∀x∈scope.names,x.2 = .local->scope.names.lookup x.1=some .local) (hcl:bK X.env fs) (hhas:j9 (relabel scope X.env).names (bT X.env fs)=true)
  (hlen:N.length=own+fr.length) (hN:(N.drop own).map some=fr.map fun j=>X.N[j]?) (hF:zg X.env scope (bT X.env fs) (N.drop own))
  (hi:sw X tg iter ti) (hg:∀B,rq (X.z6 N scope fs B) tg g) (hf:∀B,vc (X.z6 N scope fs B) ifs tc) (he:∀B,aZ (X.z6 N scope fs B) elt te)
  (hs:∀x,foldedSetIterable iter X.env x=pure x:=by intro _;rfl):aZ X (.ListComp elt [⟨tg,iter,ifs,0⟩] scope pos) (b8 ti g tc te own fr):=
 ⟨aO (qR fs own fr N hc hclos hcell hkind hnames hcl hhas hlen hN hF hi.ok (fun B=>(hg B).ok)
  (fun B=>l9 (hf B).ok fun σ H Q ⟨σ3,S,Q3,rσ,rS,h,k⟩=>⟨σ3,S,Q3,gj,rσ,rS,h,.no,k⟩) (fun B=>aO (he B).ok fun σ H Q ⟨σ3,S,Q3,rσ,rS,h,k⟩=>⟨σ3,S,Q3,gj,rσ,rS,h,.no,k⟩) hs) fun _ _ _=>jN B3 ⟨0,X.s₀,X.H₀,[],[]⟩⟩
def uk(fs:Vs)(own:Nat)(fr:List Nat)(N:Vs){i:Nat}{y:Str}{py spos:Pos}(hX:X.N.Nodup)(hix:X.N[i]?=some y)(hy:X.env.scope.names.lookup y=some .local)
  (hsw:swapsWith (.ListComp elt [⟨tg,iter,ifs,0⟩] scope pos) (some (.Name y py)) spos.line X.env=pure true)
  (B3:g.under own=true) (hc:X.calm=true) (hclos:closureFor scope X.env=pure (bT X.env fs)) (hcell:∀y∈scope.names,y.2 ≠ .cell) (hkind:scope.kind = .function)
  (hnames:∀x∈scope.names,x.2 = .local->scope.names.lookup x.1=some .local) (hcl:bK X.env fs) (hhas:j9 (relabel scope X.env).names (bT X.env fs)=true)
  (hlen:N.length=own+fr.length) (hN:(N.drop own).map some=fr.map fun j=>X.N[j]?) (hF:zg X.env scope (bT X.env fs) (N.drop own))
  (hi:sw X tg iter ti) (hg:∀B,rq (X.z6 N scope fs B) tg g) (hf:∀B,vc (X.z6 N scope fs B) ifs tc) (he:∀B,aZ (X.z6 N scope fs B) elt te)
  (hs:∀x,foldedSetIterable iter X.env x=pure x:=by intro _;rfl):mK X (.Assign [.Name y py] (.ListComp elt [⟨tg,iter,ifs,0⟩] scope pos) spos) (aG i (b8 ti g tc te own fr)):=
 ⟨cK (qS fs own fr N hX hix hy hsw hc hclos hcell hkind hnames hcl hhas hlen hN hF hi.ok (fun B=>(hg B).ok)
  (fun B=>l9 (hf B).ok fun σ H Q ⟨σ3,S,Q3,rσ,rS,h,k⟩=>⟨σ3,S,Q3,gj,rσ,rS,h,.no,k⟩) (fun B=>aO (he B).ok fun σ H Q ⟨σ3,S,Q3,rσ,rS,h,k⟩=>⟨σ3,S,Q3,gj,rσ,rS,h,.no,k⟩) hs)
  fun D σ H ⟨σ3,S,D3,rσ,rS,h,xo,n,r,bk,ct⟩=>jN B3 ⟨0,X.s₀,X.H₀,[],[]⟩ ⟨σ3,S,_,D3.ex,rσ,rS,h,xo,fun p S1 v H1 h1 rv yU g1=>n _ S1 _ H1 h1 ((rσ.mono g1).set rv i) yU g1⟩⟩
end
abbrev aA:=List PV->ax->bS->b9->Prop
noncomputable def wn(K:Vo)(n:Nat)(sp:aA):Sp:=fun vs H Q _=>vs.length=n/\∃ps S Q3 E3,Reps K H vs ps/\yI K H S/\sp ps S Q3 E3/\BB K H Q3 Q
structure Cs (P:Program) (w:World) (K:Vo) (mg:Vr) (base:Heap) (k:Nat) (f:Addr) (fd:FuncData) (ps:Vs) (sp:aA):Prop where
 ok:jZ P w K mg base sj k f fd ps (wn K ps.length sp)
section
variable {X:Cx} {e o:Expr} {es:List Expr} {te to:aW} {ts:List aW} {x:Str} {p pos apos cpos:Pos} {k:Nat} {f:Addr} {fd:FuncData} {ps:Vs} {sp:aA}
def af(sp:aA)(ts:List aW):aW:=fun σ S Q E=>bL ts σ S (fun ps S1=>sp ps S1 Q E) E
def ul(F:Cs X.prog X.w X.K X.mg X.base k f fd ps sp)(hr:Room k X.A)(hg:Gl X x)(hm:X.mg x=some (.ref f))(hk:PySem.W.keepIn X.K (.ref f)=true)(hb:Binds X.K fd ps [])(he:starEach (e::es) X.env=(false,eval e X.env)::starEach es X.env)(ha:kf X (e::es) ts)
  (hl:ts.length=ps.length:=by rfl) (hdb:(x == ("__debug__":Str))=false:=by decide) (hpl:(backTo pos (starEach es X.env)).any (·.1)=false:=by rfl):aZ X (.Call (.Name x p) (e::es) [] pos) (af sp ts):=
 ⟨aO (qD F.ok hr hg hm hk hb .nil vY ha.ok hdb he hpl) fun σ H Q ⟨σ3,S,Q3,E3,rσ,rS,h,xo,k⟩=>cg rσ rS h xo fun ps' S' vs H' hl' q rv Ae g=>by
  rw[Gb]
  exact⟨by rw[rv.length,hl',hl],ps',S',Q3,E3,rv,Ae,q,k.mono g⟩⟩
end
noncomputable def aw(n:Nat)(args:List PV):b5:=args.map some++List.replicate (n - args.length) none
def a8(n:Nat)(t:bv):aA:=fun args S Q _=>t { nx:=fun _ S'=>Q .non S',rt:=Q,ex:=gj } (aw n args) S
def nJ{K:Vo}{H:Hp}{N:Vs}{vs:List V}{ps:List PV}(r:Reps K H vs ps):yL K H (L2.dM N vs) (aw N.length ps):=by
 refine⟨by unfold L2.dM aw;simp[r.length],fun i p e=>?_⟩
 unfold aw at e
 unfold L2.dM
 by_cases hi:i < ps.length
 ·rw[F3 (by simpa using hi),FY]at e
  cases hp:ps[i]? with
  |none=>rw[hp]at e;cases e
  |some q=>
   rw[hp]at e
   cases e
   obtain⟨v,hv,rv⟩:=r.get hp
   rw[F3 (by rw[Fx,r.length];exact hi),FY,hv]
   exact⟨v,rfl,rv⟩
 ·rw[F9 (by simpa using hi),GB]at e
  split at e
  ·cases e
  ·cases e
section
variable {P:Program} {w:World} {K:Vo} {mg:Vr} {base:Heap}
noncomputable abbrev xM(P:Program)(w:World)(K:Vo)(mg:Vr)(base:Heap)(N:Vs)(qual:Str)(st:Stmt)(f:Addr)(cdv:Value)(A:Around)(outer:List Env)(s:Shared)(H:Hp)(E:XK):Cx:=(lM sj P w K mg base N qual (aN st) f cdv A outer s H E).CN
def yb{x qual:Str}{st:Stmt}{f:Addr}{fd:FuncData}{N ps:Vs}{k:Nat}{t:bv}(F:B8 K x qual st f fd)(S:eu N ps (aN st))
  (hbody:∀(cdv:Value) (A:Around) (outer:List Env) (s:Shared) (H:Hp) (E:XK),Room k (A.deeper (PyProof.Rows.envOfC qual (aN st) s.heap.objs.size f cdv))->iE (xM P w K mg base N qual st f cdv A outer s H E) (bu st) t) :
  Cs P w K mg base (k+1) f fd ps (a8 N.length t):=
 ⟨F.ok S (fun vs H Q E h=>h.1) fun cdv A outer s H vs Q E hr ⟨hl,ps',S',Q3,E3,rv,rS,q,kk⟩=>⟨_,(hbody cdv A outer s H E hr).ok,aw N.length ps',S',_,nJ rv,rS,q,.no,fun σ3 S2 σ2 H2 h2 _ AD g2=>kk _ S2 _ H2 h2 .non AD g2,kk,fun _ _ _ _ h2=>h2.elim,fun _ _ _ _ h2=>h2.elim⟩⟩
end
section
variable {X:Cx} {o e f:Expr} {to te tf:aW} {pos apos cpos:Pos}
noncomputable def gC:List (aW×aW)->b5->ax->(List (PV×PV)->ax->Prop)->b9->Prop
 |[],_,S,Q,_=>Q [] S
 |(tk,tv)::r,σ,S,Q,E=>tk σ S (fun x S1=>tv σ S1 (fun y S2=>gC r σ S2 (fun ps S3=>Q ((x,y)::ps) S3) E) E) E
noncomputable def lh:List (PV×PV)->Option (List (a7×PV))
 |[]=>some []
 |(x,y)::r=>match ki x,lh r with|some k,some l=>some ((k,y)::l)|_,_=>none
noncomputable def kq(kvs more:List (a7×PV)):List (a7×PV):=more.foldl (fun acc kv=>kl acc kv.1 kv.2) kvs
structure wP (X:Cx) (pos:Pos) (keys:List (Option Expr)) (values:List Expr) (Av:List (aW×aW)):Prop where
 ok:vW X pos keys values (Av.map fun t=>(LE X t.1,LE X t.2))
def um:wP X pos [] [] []:=⟨qM⟩
def kr{k v:Expr}{ks:List (Option Expr)}{vs:List Expr}{tk tv:aW}{Av:List (aW×aW)}(hk:aZ X k tk)(hv:aZ X v tv)(hr:wP X pos ks vs Av):wP X pos (some k::ks) (v::vs) ((tk,tv)::Av):=⟨oz hk.ok hv.ok hr.ok⟩
inductive jO (K:Vo) (H:Hp):List (V×V)->List (PV×PV)->Prop
 |nil:jO K H [] []
 |cons {a b:V} {p q:PV} {vs:List (V×V)} {ps:List (PV×PV)}:Rep K H a p->Rep K H b q->jO K H vs ps->jO K H ((a,b)::vs) ((p,q)::ps)
theorem iP:∀{Av:List (aW×aW)} {σ:L2.St} {H:Hp} {Q:List (V×V)->Hp->Prop} {σ3:b5} {S:ax} {Q3:List (PV×PV)->ax->Prop} {E3:b9},yL X.K H σ σ3->yI X.K H S->gC Av σ3 S Q3 E3->BA X H E3->
  (∀ps S' vs H',ps.length=Av.length->Q3 ps S'->jO X.K H' vs ps->yI X.K H' S'->Grow X.K H H'->Q vs H')->j6 (Av.map fun t=>(LE X t.1,LE X t.2)) σ H Q
 |[],σ,H,Q,σ3,S,Q3,E3,rσ,rS,h,xo,k=>k [] S [] H rfl h .nil rS .refl
 |(tk,tv)::ts,σ,H,Q,σ3,S,Q3,E3,rσ,rS,h,xo,k=>
  ⟨σ3,S,_,E3,rσ,rS,h,xo,fun p S1 v H1 h1 rv yU g1=>⟨σ3,S1,_,E3,rσ.mono g1,yU,h1,xo.mono g1,fun p2 S2 v2 H2 h2 E6 AD g2=>iP (rσ.mono (g1.trans g2)) AD h2 (xo.mono (g1.trans g2)) fun ps S3 vs H3 hl h3 DH Cr g3=>
   k ((p,p2)::ps) S3 ((v,v2)::vs) H3 (by rw[FG,FG,hl]) h3 (.cons (rv.mono (g2.trans g3)) (E6.mono g3) DH) Cr (g1.trans (g2.trans g3))⟩⟩
theorem jP{K:Vo}{H:Hp}:∀{vs:List (V×V)} {ps:List (PV×PV)} {l:List (a7×PV)},jO K H vs ps->lh ps=some l->∃kvs:List (a7×V),vs=kvs.map (fun kv=>(kV kv.1,kv.2))/\yY K H kvs l
 |_,_,_,.nil,h=>by cases h;exact⟨[],rfl,.nil⟩
 |_,_,l,.cons a b r,h=>by
  unfold lh at h
  split at h
  ·rename_i k l' ek el
   cases h
   obtain⟨kvs,e,q⟩:=jP r el
   refine⟨(k,_)::kvs,?_,.cons b q⟩
   rw[FO,<-e,cJ a ek]
  ·cases h
def yY.merge{K:Vo}{H:Hp}{more:List (a7×V)}{m3:List (a7×PV)}(r:yY K H more m3):∀{kvs:List (a7×V)} {k3:List (a7×PV)},yY K H kvs k3->yY K H (gq kvs more) (kq k3 m3):=by
 induction r with
 |nil=>intro kvs k3 q;exact q
 |cons a r ih=>intro kvs k3 q;exact ih (q.put a)
def li(Av:List (aW×aW)):aW:=fun σ S Q E=>∀p,S p=none->gC Av σ (aD S p (.dct [])) (fun ps S2=>S2 p=some (.dct [])/\match lh ps with|some kvs=>Q (.ref p) (aD S2 p (.dct (kq [] kvs)))|none=>False) E
def uo{keys:List (Option Expr)}{values:List Expr}{Av:List (aW×aW)}(h:wP X pos keys values Av)(hall:keys.all (·.isSome)=true:=by rfl)(hl:keys.length=values.length:=by rfl)(h0:keys≠[]:=by exact List.cons_ne_nil _ _)(Du:keys.length<=15:=by decide)
  (ht:Av.length<=15:=by exact HD rfl):aZ X (.Dict keys values pos) (li Av):=
 ⟨aO (qN h.ok hall hl h0 Du) fun σ H Q ⟨σ3,S,Q3,E3,rσ,rS,hq,xo,k⟩=>fun p hp=>by
  have g0:Grow X.K H (upd H p (.dK [])):=.new hp
  refine iP (rσ.mono g0) (rS.new hp (o:=.dct []) ⟨[],aB,.nil⟩) (hq p (rS.free hp)) (xo.mono g0) fun ps S' vs H' hl' q rv Ae g=>?_
  obtain⟨e,q⟩:=q
  obtain⟨kv,hv,rk⟩:=Ae _ _ e
  cases rk
  refine⟨hv,?_⟩
  split at q
  ·rename_i kvs ek
   obtain⟨l,el,rl⟩:=jP rv ek
   refine⟨l,el,?_,k _ _ _ _ q (.ref p) (Ae.put hv trivial ⟨_,aB,(yY.merge rl .nil).mono (.mut hv trivial)⟩) (g0.trans (g.trans (.mut hv trivial)))⟩
   have z1:∀{vs:List (V×V)} {ps:List (PV×PV)},jO X.K H' vs ps->vs.length=ps.length:=by
    intro vs ps r
    induction r with
    |nil=>rfl
    |cons _ _ _ ih=>rw[FG,FG,ih]
   have z2:=F5 List.length el
   rw[Fx,z1 rv,hl']at z2
   omega
  ·exact q.elim⟩
def mS(kvs:List (a7×Int))(te tf:aW):aW:=fun σ S Q E=>te σ S (fun y S2=>tf σ S2 (fun z S3=>match ki y with|some k=>Q (((kvs.find? fun kv=>decide (kv.1=k)).map fun kv=>PV.int kv.2).getD z) S3|none=>False) E) E
def uq{x:Str}{px:Pos}{a:Addr}{kvs:List (a7×Int)}(hu:X.A.units+1 < cLine)(hg:Gl X x)(hm:X.mg x=some (.ref a))(hD:KD X.prog X.w X.K a (kvs.map fun kv=>(kv.1,V.int kv.2)))(he:aZ X e te)(hf:aZ X f tf)(m:M2 X (.Name x px) "get" apos e f cpos)
  (hd:(x == ("__debug__":Str))=false:=by decide):aZ X (.Call (.Attribute (.Name x px) "get" apos) [e,f] [] cpos) (mS kvs te tf):=
 ⟨aO (qV hu hg hm hD he.ok hf.ok m hd) fun σ H Q ⟨σ3,S,Q3,E3,rσ,rS,h,xo,k⟩=>⟨σ3,S,_,E3,rσ,rS,h,xo,fun y S2 y' H2 h2 ry AD g2=>⟨σ3,S2,_,E3,rσ.mono g2,AD,h2,xo.mono g2,fun z S3 z' H3 h3 rz Cr g3=>by
  split at h3
  ·rename_i k' ek
   have e1:=cJ (ry.mono g3) ek
   subst e1
   refine⟨_,rfl,k _ S3 _ H3 h3 ?_ Cr (g2.trans g3)⟩
   have:∀l:List (a7×Int),Rep X.K H3 ((e9 (l.map fun kv=>(kv.1,V.int kv.2)) k').getD z') (((l.find? fun kv=>decide (kv.1=k')).map fun kv=>PV.int kv.2).getD z):=by
    intro l
    induction l with
    |nil=>exact rz
    |cons q r ih=>
     rw[FO,List.find?_cons]
     by_cases e:q.1=k'
     ·rw[zF e,Gm e];exact .int _
     ·rw[zG e,FQ e];exact ih
   exact this kvs
  ·exact h3.elim⟩⟩⟩
def lj(te:aW):aW:=fun σ S Q E=>te σ S (fun x S1=>match x with
 | .ref a=>(match S1 a with|some (.lst xs)=>∀p,S1 p=none->Q (.ref p) (aD S1 p (.lst xs.reverse))|_=>False)
 |_=>False) E
def ur{p1 p2 q1 q2:Pos}(hs:starEach [e] X.env=[(false,eval e X.env)])(hc:X.calm=true)(he:aZ X e te)(DD:Gl X "list")(hm1:X.mg "list" = none)(DE:Gl X "reversed")(hm2:X.mg "reversed" = none):aZ X (.Call (.Name "list" p1) [.Call (.Name "reversed" p2) [e] [] q2] [] q1) (lj te):=
 ⟨aO (lT hc he.ok DD hm1 DE hm2 hs rfl) fun σ H Q ⟨σ3,S,Q3,E3,rσ,rS,h,xo,k⟩=>⟨σ3,S,_,E3,rσ,rS,h,xo,fun x S1 v H1 h1 rx yU g1=>by
  split at h1
  ·cases rx
   split at h1
   ·rename_i ea
    obtain⟨vs,hv,rs⟩:=yU _ _ ea
    exact⟨_,_,rfl,SqL.of hv,fun q hq=>k _ _ _ _ (h1 q (yU.free hq)) (.ref q) (yU.new hq ⟨_,aB,rs.reverse.mono (.new hq)⟩) (g1.trans (.new hq))⟩
   ·exact h1.elim
  ·exact h1.elim⟩⟩
end
def bN:R3:=e_ fun i j=>.int (i - j)
def eL:R3:=eU (fun _ j=>j≠0) fun i j=>.int (i.fmod j)
def iQ:R3:=eU k8 fun i j=>.int (i.fdiv j)
def pd:R3:=eU tj fun i j=>.int (i ^ j.toNat)
def nK:R3:=e_ fun i j=>.bl (decide (i < j))
def rE:R3:=e_ fun i j=>.bl (decide (j < i))
def ut:R3:=e_ fun i j=>.bl (decide (j<=i))
section
variable {X:Cx}
def cA:gu X (binaryOp .Sub) bN:=t5
def dS:gu X (binaryOp .Mod) eL:=t7
def l_:gu X (binaryOp .FloorDiv) iQ:=q5
def wo:gu X (binaryOp .Pow) pd:=t8
def ll:gu X (compareOp .Lt) nK:=v7
def rF:gu X (compareOp .Gt) rE:=v8
def uu:gu X (compareOp .GtE) ut:=v9
end
def hu1{A:Around}{k:Nat}(hr:Room k A):A.units+1 < cLine:=by have:=hr.un;omega
def iR{A:Around}{k:Nat}(hr:Room k A):A.units+150 < cLine:=by have:=hr.un;omega
def eX{A:Around}{k:Nat}(hr:Room k A):A.units+160 < cLine:=by have:=hr.un;omega
structure wQ (K:Vo) (mg:Vr) (x:Str) (st:Stmt) (ps:Vs) (f:Addr) (fd:FuncData):Prop where
 F:B8 K x x st f fd
 b:Binds K fd ps []
 k:PySem.W.keepIn K (.ref f)=true
 m:mg x=some (.ref f)
def Cs.zero{P:Program}{w:World}{K:Vo}{mg:Vr}{base:Heap}{k:Nat}{f:Addr}{fd:FuncData}{ps:Vs}{sp:aA}(h:sp=fun _ _ _ _=>False):Cs P w K mg base k f fd ps sp:=by
 subst h
 exact⟨⟨fun vs H Q E q=>q.1,fun A outer s H args us vs Q E _ _ _ _ ⟨_,_,_,_,_,_,_,q,_⟩=>q.elim⟩⟩
def xN{K:Vo}{H:Hp}{a:Addr}{ns:Vu}{sp:aA}(hO:qO H)(hS:SqL K H a (ns.map V.int))(h:sp [.cl (ns.map PV.int)] (fun _=>none) (fun v _=>v = .bl true) gj):wn K 1 sp [.ref a] H (fun v _=>v = .bl true) fun _ _ _=>False:=by
 have hr:∀l:List Int,Reps K H (l.map V.int) (l.map PV.int):=by
  intro l
  induction l with
  |nil=>exact .nil
  |cons x r ih=>exact .cons (.int x) ih
 refine⟨rfl,[.cl (ns.map PV.int)],fun _=>none,_,gj,.cons (.cl (vs:=ns.map V.int) ?_ (hr ns)) .nil,(fun b o e=>by simp at e),h,fun p S' v H' q rv rS g=>?_⟩
 ·rcases hS with(q|q)|q
  ·rcases hO a with z|⟨o,xs,z⟩
   ·rw[z]at q;cases q
   ·rw[z]at q;cases q
  ·exact .inl q
  ·exact .inr q
 ·subst q
  cases rv
  rfl
end L3
namespace L2
open PySem PySem.Spec PyProof.Rows
end L2
namespace HT
open PySem PySem.Spec PyProof.Rows
end HT
namespace L2
open PySem PySem.Spec PyProof.Rows
end L2
namespace L3
open PySem L2
end L3
namespace L2
open PySem PySem.Spec PyProof.Rows
end L2
namespace L3
open PySem L2
end L3
namespace L2
open PySem PySem.Spec PyProof.Rows PySem.AutoSeq1
end L2
namespace L3
open PySem L2
end L3
namespace C
open PySem L2 L3
noncomputable def k_SIDES_FROM:List (a7×Int):=[(Sum.inr "then",1),(Sum.inr "either",1),(Sum.inr "take",3),(Sum.inr "often",1)]
def dU:bv:=(ae (aG 3 (b8 (cm (bf (v3 0) (jK (v3 1)) (jK (c3 (.int 63))))) (.n 0) kn (ar iH [(v3 0),(ah bN (c3 (.int 0)) (v3 0))]) 1 []))
  (ae (aG 4 (ah aL (c3 (.int 7919)) (v3 1)))
  (ae (cU (cm (v3 3)) (.n 2) (aG 4 (ah eL (ah aL (ah fL (v3 4) (c3 (.int 48271))) (ah eL (v3 2) (c3 (.int 2147483629)))) (c3 (.int 2147483647)))))
  (av (li [((c3 (.str "seed")),(v3 4)),((c3 (.str "number")),(c3 (.int 0))),((c3 (.str "left")),(lj (b8 (cm (v3 3)) (.n 0) (a6 (ah ut (v3 0) (ah pd (c3 (.int 10)) (c3 (.int 18))))) (v3 0) 1 [])))])))))
def dW:bv:=(ae (iO (nz (a6 (ah (bJ false) (ah ao (v3 0) (c3 (.str "number"))) (c3 (.int 0)))) (a6 (ah rE (ar bA [(ah ao (v3 0) (c3 (.str "left")))]) (c3 (.int 0))))) (jm (k_ "list" nE (ah ao (v3 0) (c3 (.str "left"))) []) (v3 0) (c3 (.str "number"))))
  (ae (aG 2 (ah ao (v3 0) (c3 (.str "number"))))
  (ae (bR (a6 (ah rE (v3 2) (c3 (.int 0)))) (ae (jm (ah iQ (v3 2) (v3 1)) (v3 0) (c3 (.str "number")))
  (av (ah eL (v3 2) (v3 1)))) aS)
  (ae (aG 3 (ah eL (ah aL (ah fL (ah ao (v3 0) (c3 (.str "seed"))) (c3 (.int 48271))) (c3 (.int 7919))) (c3 (.int 2147483647))))
  (ae (jm (ah eL (ah aL (ah fL (v3 3) (c3 (.int 40692))) (c3 (.int 104729))) (c3 (.int 2147483399))) (v3 0) (c3 (.str "seed")))
  (ae (aG 4 (ah eL (ah fL (ah ao (v3 0) (c3 (.str "seed"))) (ah ao (v3 0) (c3 (.str "seed")))) (c3 (.int 2147483563))))
  (av (ah eL (ah aL (ah fL (ah eL (ah fL (v3 3) (v3 3)) (c3 (.int 2147483629))) (c3 (.int 2147483563))) (v3 4)) (v3 1)))))))))
def fc:bv:=(ae (nF 2 3 (ar iH [(v3 0),(ah bN (c3 (.int 0)) (v3 0))]) (v3 1))
  (ae (iO (a6 (ah rE (v3 3) (c3 (.int 0)))) (nF 2 3 (v3 3) (ah eL (v3 2) (v3 3))))
  (av (aJ [(ah iQ (v3 0) (v3 2)),(ah iQ (v3 1) (v3 2))]))))
def dm(yB:aA):bv:=(ae (aG 2 (c3 (.str "abcdefghijklmnopqrstuvwxyz")))
  (ae (aG 3 (dj [(c3 (.str "jars")),(c3 (.str "deed")),(c3 (.str "rest")),(c3 (.str "pay")),(c3 (.str "put")),(c3 (.str "then")),(c3 (.str "either")),(c3 (.str "take")),(c3 (.str "often")),(c3 (.str "use"))]))
  (ae (aG 5 (k_ "str" jL (c3 (.str "")) [(b8 (eJ (af yB [(v3 0),(c3 (.int 6))])) (.n 0) kn (ah ao (v3 2) (af yB [(v3 1),(c3 (.int 26))])) 1 [0,2])]))
  (ae (iN 6 7 8 (aJ [(af yB [(v3 0),(ah aL (ar bA [(v3 5)]) (c3 (.int 1)))]),(af yB [(v3 0),(c3 (.int 26))]),(ah (bJ false) (af yB [(v3 0),(c3 (.int 2))]) (c3 (.int 0)))]))
  (ae (aG 9 (dj []))
  (ae (cU (eJ (v3 1)) (.n 4) (ae (aG 10 (ah aL (ah aL (bf (v3 5) lE (jK (v3 6))) (ah ao (v3 2) (ah eL (ah aL (v3 7) (v3 4)) (c3 (.int 26))))) (bf (v3 5) (jK (v3 6)) lE)))
  (ae (bR (gv (a6 (v3 8))) (aG 10 (k_ "str" jL (c3 (.str "")) [(b8 (eJ (ah aL (c3 (.int 1)) (af yB [(v3 0),(c3 (.int 6))]))) (.n 0) kn (ah ao (v3 2) (af yB [(v3 1),(c3 (.int 26))])) 1 [0,2])])) aS)
  (ae (iO (jH (a6 (ah (ik false) (v3 10) (v3 3))) (a6 (ah (ik false) (v3 10) (v3 9)))) (aG 10 (ah aL (ah ao (v3 2) (ah eL (ah aL (k_ "str" gy (v3 2) [(ah ao (v3 10) (c3 (.int 0)))]) (c3 (.int 1))) (c3 (.int 26)))) (bf (v3 10) (jK (c3 (.int 1))) lE))))
  (eW (k_ "list" b_ (v3 9) [(v3 10)]))))))
  (av (v3 9))))))))
def dX(yB Be:aA):bv:=(ae (aG 1 (af yB [(v3 0),(c3 (.int 4))]))
  (ae (bR (a6 (ah (bJ false) (v3 1) (c3 (.int 0)))) (av (aJ [(c3 (.int 0)),(c3 (.int 1))])) aS)
  (ae (bR (a6 (ah nK (v3 1) (c3 (.int 3)))) (av (aJ [(ah aL (c3 (.int 1)) (af yB [(v3 0),(c3 (.int 5))])),(c3 (.int 1))])) aS)
  (av (af Be [(af yB [(v3 0),(c3 (.int 1000))]),(ah aL (c3 (.int 1)) (af yB [(v3 0),(c3 (.int 9))]))])))))
def dY(yB A0:aA):bv:=(ae (aG 2 (af yB [(v3 0),(c3 (.int 7))]))
  (ae (bR (a6 (ah (bJ false) (v3 2) (c3 (.int 0)))) (av (aJ [(c3 (.str "rest"))])) aS)
  (ae (bR (jH (a6 (ah nK (v3 2) (c3 (.int 4)))) (a6 (ah (bJ false) (ar bA [(v3 1)]) (c3 (.int 0))))) (av (aJ [(c3 (.str "pay")),(af A0 [(v3 0)])])) aS)
  (ae (aG 3 (ah ao (dj [(c3 (.int 1)),(c3 (.int 2)),(ah aL (c3 (.int 1)) (af yB [(v3 0),(c3 (.int 9))]))]) (af yB [(v3 0),(c3 (.int 3))])))
  (av (aJ [(c3 (.str "put")),(ah ao (v3 1) (af yB [(v3 0),(ar bA [(v3 1)])])),(v3 3)]))))))
def dZ(yB A1 s0:aA):bv:=(ae (aG 4 (af yB [(v3 0),(c3 (.int 12))]))
  (ae (bR (jH (a6 (ah (bJ false) (v3 3) (c3 (.int 0)))) (jH (a6 (ah nK (ah ao (v3 2) (c3 (.int 0))) (c3 (.int 2)))) (a6 (ah nK (v3 4) (c3 (.int 3)))))) (av (af A1 [(v3 0),(v3 1)])) aS)
  (ae (bR (a6 (ah nK (v3 4) (c3 (.int 5)))) (ae (jm (ah bN (ah ao (v3 2) (c3 (.int 0))) (c3 (.int 1))) (v3 2) (c3 (.int 0)))
  (av (aJ [(c3 (.str "often")),(af s0 [(v3 0),(v3 1),(v3 2),(ah bN (v3 3) (c3 (.int 1)))])]))) aS)
  (ae (jm (ah bN (ah ao (v3 2) (c3 (.int 0))) (c3 (.int 2))) (v3 2) (c3 (.int 0)))
  (ae (aG 5 (af s0 [(v3 0),(v3 1),(v3 2),(ah bN (v3 3) (c3 (.int 1)))]))
  (ae (aG 6 (af s0 [(v3 0),(v3 1),(v3 2),(ah bN (v3 3) (c3 (.int 1)))]))
  (ae (bR (a6 (ah nK (v3 4) (c3 (.int 8)))) (av (aJ [(c3 (.str "then")),(v3 5),(v3 6)])) aS)
  (ae (bR (jH (a6 (ah (bJ false) (v3 4) (c3 (.int 8)))) (a6 (ah (bJ false) (ar bA [(v3 1)]) (c3 (.int 0))))) (av (aJ [(c3 (.str "either")),(v3 5),(v3 6)])) aS)
  (ae (aG 7 (ah ao (dj [(c3 (.int 1)),(c3 (.int 1)),(c3 (.int 2)),(ah aL (c3 (.int 1)) (af yB [(v3 0),(c3 (.int 9))]))]) (af yB [(v3 0),(c3 (.int 4))])))
  (av (aJ [(c3 (.str "take")),(ah ao (v3 1) (af yB [(v3 0),(ar bA [(v3 1)])])),(v3 7),(v3 5),(v3 6)])))))))))))
def fe:bv:=(av (bf (v3 0) (jK (mS C.k_SIDES_FROM (ah ao (v3 0) (c3 (.int 0))) (ar bA [(v3 0)]))) lE))
def ff(Bf s0:aA):bv:=(ae (aG 1 (dj [(v3 0)]))
  (ae (cU (cm (af Bf [(v3 0)])) (.n 2) (eW (k_ "list" eB (v3 1) [(af s0 [(v3 2)])])))
  (av (v3 1))))
def iS:bv:=(av (ah ao (v3 0) (ah aL (kP dJ (c3 (.int 2))) (ah ao (v3 1) (c3 (.int 0))))))
def ku(zn:aA):bv:=(av (ar bA [(af zn [(v3 0)])]))
def gD:bv:=(av (ah (ik true) (ah ao (v3 0) (c3 (.int 0))) (aJ [(c3 (.str "rest")),(c3 (.str "then"))])))
def gE(zn Bv:aA):bv:=(av (ar bA [(b8 (cm (af zn [(v3 0)])) (.n 0) (a6 (af Bv [(v3 0)])) (v3 0) 1 [])]))
def kw(y_:aA):bv:=(ae (bR (a6 (ah (bJ false) (af y_ [(v3 0)]) (c3 (.int 0)))) (av (v3 2)) aS)
  (av (v3 1)))
def bO(y_ z7 s0 s1 s2 s3:aA):bv:=(ae (aG 3 (ah aL (v3 1) (af y_ [(ah ao (v3 0) (c3 (.int 1)))])))
  (ae (aG 4 (af z7 [(ah ao (v3 0) (c3 (.int 2))),(v3 3),(v3 2)]))
  (av (ah aL (af s3 [(ah ao (v3 0) (c3 (.int 1))),(v3 1),(v3 4)]) (af s3 [(ah ao (v3 0) (c3 (.int 2))),(v3 3),(v3 2)])))))
def bm(y_ z7 s0 s1 s2 s3:aA):bv:=(ae (aG 3 (ah ao (v3 0) (kP dJ (c3 (.int 2)))))
  (ae (aG 4 (ah ao (v3 0) (kP dJ (c3 (.int 1)))))
  (ae (aG 5 (ah aL (ah aL (v3 1) (c3 (.int 1))) (af y_ [(v3 3)])))
  (ae (aG 6 (ah aL (bf (v3 0) lE (jK (kP dJ (c3 (.int 2))))) (aJ [(af z7 [(v3 3),(ah aL (v3 1) (c3 (.int 1))),(v3 2)]),(af z7 [(v3 4),(v3 5),(v3 2)])])))
  (av (ah aL (ah aL (aJ [(v3 6)]) (af s3 [(v3 3),(ah aL (v3 1) (c3 (.int 1))),(v3 2)])) (af s3 [(v3 4),(v3 5),(v3 2)])))))))
def bx(z7 s0 s1 s2 s3:aA):bv:=(ae (aG 3 (aJ [(c3 (.str "often")),(af z7 [(ah ao (v3 0) (c3 (.int 1))),(ah aL (v3 1) (c3 (.int 1))),(v3 1)]),(v3 2)]))
  (av (ah aL (aJ [(v3 3)]) (af s3 [(ah ao (v3 0) (c3 (.int 1))),(ah aL (v3 1) (c3 (.int 1))),(v3 1)]))))
def eC(s0 s1 s2 s3:aA):bv:=(ae (aG 3 (ah ao (v3 0) (c3 (.int 0))))
  (ae (bR (a6 (ah (bJ false) (v3 3) (c3 (.str "rest")))) (av (aJ [])) aS)
  (ae (bR (a6 (ah (bJ false) (v3 3) (c3 (.str "then")))) (av (af s0 [(v3 0),(v3 1),(v3 2)])) aS)
  (ae (bR (a6 (ah (bJ false) (v3 3) (c3 (.str "often")))) (av (af s2 [(v3 0),(v3 1),(v3 2)])) aS)
  (ae (bR (a6 (ah (ik false) (v3 3) (aJ [(c3 (.str "either")),(c3 (.str "take"))]))) (av (af s1 [(v3 0),(v3 1),(v3 2)])) aS)
  (av (aJ [(ah aL (v3 0) (aJ [(v3 2)]))])))))))
def kx(Bw y_:aA):bv:=(av (ah aL (af Bw [(v3 0),(c3 (.int 0)),(af y_ [(v3 0)])]) (aJ [(aJ [(c3 (.str "end"))])])))
def cM(s0:aA):bv:=(ae (bR (a6 (ah (bJ false) (ah ao (v3 0) (c3 (.int 0))) (c3 (.str "then")))) (av (aJ [(af s0 [(ah ao (v3 0) (c3 (.int 1)))]),(af s0 [(ah ao (v3 0) (c3 (.int 2)))])])) aS)
  (ae (bR (a6 (ah (bJ false) (ah ao (v3 0) (c3 (.int 0))) (c3 (.str "either")))) (av (aJ [(c3 (.int 0)),(af s0 [(ah ao (v3 0) (c3 (.int 1)))])])) aS)
  (ae (bR (a6 (ah (bJ false) (ah ao (v3 0) (c3 (.int 0))) (c3 (.str "take")))) (av (aJ [(c3 (.int 1)),(af s0 [(ah ao (v3 0) (c3 (.int 4)))])])) aS)
  (av (aJ [])))))
def cn(zn:aA):bv:=(av (b8 (ld (af zn [(v3 0)])) (.tp (.cons (.n 0) (.cons (.n 1) .nil))) (a6 (ah (bJ false) (ah ao (v3 1) (c3 (.int 0))) (c3 (.str "often")))) (v3 0) 2 []))
def cO(B4 zf s0:aA):bv:=(ae (bR (a6 (ah (bJ false) (v3 1) (c3 (.int 0)))) (av (v3 2)) aS)
  (ae (bR (a6 (ah (bJ false) (ah ao (v3 0) (c3 (.int 0))) (c3 (.str "often")))) (av (aJ [(aJ [(c3 (.int 1)),(af s0 [(ah ao (v3 0) (c3 (.int 1))),(ah bN (v3 1) (c3 (.int 1))),(v3 2)])])])) aS)
  (ae (aG 3 (ah ao (v3 0) (kP dJ (c3 (.int 2)))))
  (ae (aG 4 (ah ao (v3 0) (kP dJ (c3 (.int 1)))))
  (ae (aG 5 (ah aL (c3 (.int 1)) (af B4 [(v3 3)])))
  (ae (aG 6 (nA (a6 (ah nK (v3 1) (v3 5))) (c3 (.int 0)) (c3 (.int 1))))
  (ae (aG 7 (nA (a6 (ah (bJ false) (v3 6) (c3 (.int 0)))) (af s0 [(v3 3),(ah bN (v3 1) (c3 (.int 1))),(v3 2)]) (af s0 [(v3 4),(ah bN (v3 1) (v3 5)),(v3 2)])))
  (ae (bR (a6 (ah (bJ true) (ah ao (v3 0) (c3 (.int 0))) (c3 (.str "then")))) (av (aJ [(v3 6),(v3 7)])) aS)
  (ae (bR (a6 (ah (bJ false) (v3 6) (c3 (.int 0)))) (av (aJ [(v3 7),(af zf [(v3 4)])])) aS)
  (av (aJ [(af zf [(v3 3)]),(v3 7)])))))))))))
def iT(AE zo:aA):bv:=(av (af AE [(v3 0),(ah ao (af zo [(v3 0)]) (v3 1)),(v3 2)]))
def d0(yB s0:aA):bv:=(ae (bR (nz (a6 (ah (bJ false) (ah ao (v3 1) (c3 (.int 0))) (c3 (.str "pay")))) (a6 (ah (bJ false) (af yB [(v3 0),(c3 (.int 2))]) (c3 (.int 0))))) (av (aJ [(c3 (.str "use")),(ah ao (v3 2) (af yB [(v3 0),(ar bA [(v3 2)])]))])) aS)
  (ae (bR (a6 (ah (ik false) (ah ao (v3 1) (c3 (.int 0))) (aJ [(c3 (.str "then")),(c3 (.str "either")),(c3 (.str "take"))]))) (ae (aG 3 (af s0 [(v3 0),(ah ao (v3 1) (kP dJ (c3 (.int 2)))),(v3 2)]))
  (av (ah aL (bf (v3 1) lE (jK (kP dJ (c3 (.int 2))))) (aJ [(v3 3),(af s0 [(v3 0),(ah ao (v3 1) (kP dJ (c3 (.int 1)))),(v3 2)])])))) aS)
  (ae (bR (a6 (ah (bJ false) (ah ao (v3 1) (c3 (.int 0))) (c3 (.str "often")))) (av (aJ [(c3 (.str "often")),(af s0 [(v3 0),(ah ao (v3 1) (c3 (.int 1))),(v3 2)])])) aS)
  (av (v3 1)))))
def fg:bv:=(av (dG (ar ck [(v3 0),(c3 (.ty "int"))]) (k7 (ar ck [(v3 0),(c3 (.ty "bool"))]))))
def gF(z_:aA):bv:=(av (dG (af z_ [(v3 0)]) (ah ut (v3 0) (c3 (.int 1)))))
def dn(Bx s0 s1:aA):bv:=(ae (bR (jH (gv (a6 (ar ck [(v3 1),(c3 (.ty "tuple"))]))) (a6 (ah (bJ true) (ar bA [(v3 1)]) (c3 (.int 2))))) (av (c3 (.bl false))) aS)
  (av (dG (af Bx [(ah ao (v3 1) (c3 (.int 0)))]) (af s1 [(v3 0),(ah ao (v3 1) (c3 (.int 1)))]))))
def dr(z_ BH s0 s1:aA):bv:=(ae (bR (gv (a6 (ar ck [(v3 1),(c3 (.ty "tuple"))]))) (av (c3 (.bl false))) aS)
  (ae (aG 2 (ah ao (v3 0) (c3 (.int 0))))
  (ae (bR (a6 (ah (bJ false) (v3 2) (c3 (.str "often")))) (av (ar rg [(b8 (cm (v3 1)) (.n 0) kn (af s0 [(ah ao (v3 1) (c3 (.int 1))),(v3 0)]) 1 [0])])) aS)
  (ae (bR (a6 (ah (ik true) (v3 2) (aJ [(c3 (.str "then")),(c3 (.str "either")),(c3 (.str "take"))]))) (av (ah (bJ false) (v3 1) (aJ []))) aS)
  (ae (bR (a6 (ah (bJ true) (ar bA [(v3 1)]) (c3 (.int 2)))) (av (c3 (.bl false))) aS)
  (ae (bR (a6 (ah (bJ false) (v3 2) (c3 (.str "then")))) (av (dG (af s1 [(ah ao (v3 0) (c3 (.int 1))),(ah ao (v3 1) (c3 (.int 0)))]) (af s1 [(ah ao (v3 0) (c3 (.int 2))),(ah ao (v3 1) (c3 (.int 1)))]))) aS)
  (av (dG (af z_ [(ah ao (v3 1) (c3 (.int 0)))]) (dG (ah (ik false) (ah ao (v3 1) (c3 (.int 0))) (aJ [(c3 (.int 0)),(c3 (.int 1))])) (af s1 [(af BH [(v3 0),(v3 1)]),(ah ao (v3 1) (c3 (.int 1)))]))))))))))
def du(yB s0:aA):bv:=(ae (bR (a6 (ah (bJ false) (ah ao (v3 1) (c3 (.int 0))) (c3 (.str "then")))) (ae (aG 3 (af s0 [(v3 0),(ah ao (v3 1) (c3 (.int 1))),(v3 2)]))
  (av (aJ [(v3 3),(af s0 [(v3 0),(ah ao (v3 1) (c3 (.int 2))),(v3 2)])]))) aS)
  (ae (bR (jH (a6 (ah (bJ false) (ah ao (v3 1) (c3 (.int 0))) (c3 (.str "either")))) (a6 (ah (bJ false) (ah ao (v3 1) (c3 (.int 0))) (c3 (.str "take"))))) (ae (aG 4 (af yB [(v3 0),(c3 (.int 2))]))
  (av (aJ [(v3 4),(af s0 [(v3 0),(ah ao (v3 1) (ah bN (v3 4) (c3 (.int 2)))),(v3 2)])]))) aS)
  (ae (aG 5 (dj []))
  (ae (cU (eJ (ah fL (af yB [(v3 0),(c3 (.int 3))]) (ar fM [(ah (bJ false) (ah ao (v3 1) (c3 (.int 0))) (c3 (.str "often")))]))) (.n 6) (bR (a6 (ah rE (ah ao (v3 2) (c3 (.int 0))) (c3 (.int 0)))) (ae (jm (ah bN (ah ao (v3 2) (c3 (.int 0))) (c3 (.int 1))) (v3 2) (c3 (.int 0)))
  (eW (k_ "list" b_ (v3 5) [(aJ [(ah aL (c3 (.int 1)) (af yB [(v3 0),(c3 (.int 3))])),(af s0 [(v3 0),(ah ao (v3 1) (c3 (.int 1))),(v3 2)])])]))) aS))
  (av (ar dk [(v3 5)]))))))
end C
namespace Zu
open PySem Zt
open Sem (wp)
end Zu
namespace L2
open PySem PySem.Spec PyProof.Rows
end L2
namespace L3
open PySem L2
end L3
namespace L2
open PySem PySem.Spec PyProof.Rows
end L2
namespace L3
open PySem L2
end L3
namespace C
open PySem L2 L3
end C
namespace Zv
open PySem
open Sem (wp)
end Zv
namespace L2
open PySem PySem.Spec PyProof.Rows
end L2
namespace L3
open PySem L2
end L3
namespace L2
open PySem PySem.Spec PyProof.Rows
end L2
namespace L3
open PySem L2
end L3
namespace C
open PySem L2 L3
end C
namespace L3
open PySem L2 Xc
end L3
namespace L3
open PySem L2
end L3
namespace L2
open PySem PySem.Spec PyProof.Rows Xc
end L2
namespace L3
open PySem L2 Xc
section
variable {P:Program} {w:World} {K:Vo} {mg:Vr} {base:Heap}
structure bb (K:Vo) (mg:Vr) (x:Str) (st:Stmt) (ps:Vs):Prop where
 ex:∃f fd,wQ K mg x st ps f fd
structure yV (P:Program) (w:World) (K:Vo) (mg:Vr) (base:Heap) (k:Nat) (x:Str) (n:Nat) (sp:aA):Prop where
 ex:∃f fd ps,ps.length=n/\Cs P w K mg base k f fd ps sp/\mg x=some (.ref f)/\PySem.W.keepIn K (.ref f)=true/\Binds K fd ps []
def eE{x:Str}{st:Stmt}{ps:Vs}{k n:Nat}{t:bv}{sp:aA}(N:Vs)(O:bb K mg x st ps)
  (hbody:∀(f:Addr) (cdv:Value) (A:Around) (outer:List Env) (s:Shared) (H:Hp) (E:XK),Room k (A.deeper (PyProof.Rows.envOfC x (aN st) s.heap.objs.size f cdv))->N.Nodup->iE (xM P w K mg base N x st f cdv A outer s H E) (bu st) t) (e:sp=a8 N.length t)
  (hn:ps.length=n:=by rfl) (S:eu N ps (aN st):=by exact⟨rfl,rfl,rfl,by decide +kernel,rfl,by decide +kernel,by decide +kernel⟩):yV P w K mg base (k+1) x n sp:=by
 subst e
 obtain⟨f,fd,o⟩:=O.ex
 exact⟨f,fd,ps,hn,yb o.F S fun cdv A outer s H E hr=>hbody f cdv A outer s H E hr S.nd,o.m,o.k,o.b⟩
def yu{x:Str}{st:Stmt}{ps:Vs}{k:Nat}{t:bv}{sp:aA}{f:Addr}{fd:FuncData}(N:Vs)(o:wQ K mg x st ps f fd)
  (hbody:∀(f:Addr) (cdv:Value) (A:Around) (outer:List Env) (s:Shared) (H:Hp) (E:XK),Room k (A.deeper (PyProof.Rows.envOfC x (aN st) s.heap.objs.size f cdv))->N.Nodup->iE (xM P w K mg base N x st f cdv A outer s H E) (bu st) t) (e:sp=a8 N.length t)
  (S:eu N ps (aN st):=by exact⟨rfl,rfl,rfl,by decide +kernel,rfl,by decide +kernel,by decide +kernel⟩):Cs P w K mg base (k+1) f fd ps sp:=by
 subst e
 exact yb o.F S fun cdv A outer s H E hr=>hbody f cdv A outer s H E hr S.nd
def ma:aA:=fun _ _ _ _=>False
theorem yV.zero{x:Str}{st:Stmt}{ps:Vs}{k n:Nat}(O:bb K mg x st ps)(hn:ps.length=n:=by rfl):yV P w K mg base k x n ma:=by
 obtain⟨f,fd,o⟩:=O.ex
 exact⟨f,fd,ps,hn,.zero rfl,o.m,o.k,o.b⟩
theorem lm{b n:Nat}{x:Str}{st:Stmt}{ps:Vs}{r:Nat->aA}(O:bb K mg x st ps)(h:∀j,yV P w K mg base (b+j) x n (r j)->yV P w K mg base (b+j+1) x n (r (j+1)))(h0:r 0=ma)(hn:ps.length=n:=by rfl):∀j,yV P w K mg base (b+j) x n (r j)
 |0=>by rw[h0];exact .zero O hn
 |j+1=>h j (lm O h h0 hn j)
end
section
variable {X:Cx} {a b e o:Expr} {es:List Expr} {ta tb te to:aW} {ts:List aW} {x c m f:Str} {p pos apos cpos:Pos} {j k n:Nat} {sp:aA}
def c4(O:yV X.prog X.w X.K X.mg X.base k x n sp)(hr:Room j X.A)(ha:kf X (e::es) ts)(hj:k<=j:=by omega)(hl:ts.length=n:=by rfl)(hg:Gl X x:=by rfl)(he:starEach (e::es) X.env=(false,eval e X.env)::starEach es X.env:=by rfl)(hdb:(x == ("__debug__":Str))=false:=by decide)(hpl:(backTo pos (starEach es X.env)).any (·.1)=false:=by rfl) :
  aZ X (.Call (.Name x p) (e::es) [] pos) (af sp ts):=by
 obtain⟨f,fd,ps,hn,F,h1,h2,h3⟩:=O.ex
 exact ul F (hr.mono hj) hg h1 h2 h3 he ha (hl.trans hn.symm) hdb hpl
def cB{id:String}{r:mM}(hc:eV X (.builtin id) r)(hm:X.mg x=none)(ha:kf X (e::es) ts)(hg:Gl X x:=by rfl)(hv:bootBuiltins x=some (.builtin id):=by decide +kernel)(he:starEach (e::es) X.env=(false,eval e X.env)::starEach es X.env:=by rfl)
  (hnn:x ≠ "__name__":=by decide) (hdb:(x == ("__debug__":Str))=false:=by decide) (hpl:(backTo pos (starEach es X.env)).any (·.1)=false:=by rfl):aZ X (.Call (.Name x p) (e::es) [] pos) (ar r ts):=re hc hg hm hv he ha hnn hdb hpl
def cT{id:String}{r:mM}(hc:eV X (.type id) r)(hm:X.mg x=none)(ha:kf X (e::es) ts)(hg:Gl X x:=by rfl)(hv:bootBuiltins x=some (.type id):=by decide +kernel)(he:starEach (e::es) X.env=(false,eval e X.env)::starEach es X.env:=by rfl)
  (hnn:x ≠ "__name__":=by decide) (hdb:(x == ("__debug__":Str))=false:=by decide) (hpl:(backTo pos (starEach es X.env)).any (·.1)=false:=by rfl):aZ X (.Call (.Name x p) (e::es) [] pos) (ar r ts):=rf hc hg hm hv he ha hnn hdb hpl
def lc{r:List Expr}(ha:aZ X a ta)(hr:kf X r ts)(hs:starEach (a::r) X.env=(false,eval a X.env)::starEach r X.env:=by rfl):kf X (a::r) (ta::ts):=oW hs ha hr
def l1(ha:aZ X a ta)(hs:starEach [a] X.env=(false,eval a X.env)::starEach [] X.env:=by rfl):kf X [a] [ta]:=oW hs ha fI
def bB{i:Int}{q:Nat}{p2:Pos}(hr:Room j X.A)(ha:aZ X a ta)(hs:ie (.Constant (.int i) q p2):=by exact fun _ _=>rfl):aZ X (.Subscript a (.Constant (.int i) q p2) pos) (ah ao ta (c3 (.int i))):=we (ya (hu1 hr)) ha ab hs
def eY(hr:Room j X.A)(ha:aZ X a ta)(hb:aZ X b tb)(hs:ie b:=by exact fun _ _=>rfl):aZ X (.Subscript a b pos) (ah ao ta tb):=we (ya (hu1 hr)) ha hb hs
def fh(hr:Room j X.A)(ha:aZ X a ta)(hb:aZ X b tb):lW X (.Compare a [.Eq] [b] pos) (a6 (ah (bJ false) ta tb)):=bg (jJ (iR hr)) ha hb (aT _)
def vd(hr:Room j X.A)(ha:aZ X a ta)(hb:aZ X b tb):lW X (.Compare a [.NotEq] [b] pos) (a6 (ah (bJ true) ta tb)):=bg (wa (iR hr)) ha hb (aT _)
def s4(i:Nat){pos':Pos}(nd:X.N.Nodup)(he:aZ X e te)(hi:X.N[i]?=some x:=by rfl)(hx:sa X.env.scope x:=by first|exact Or.inl rfl|exact Or.inr rfl)(hs:swapsWith e (some (.Name x pos')) pos.line X.env=pure false:=by rfl)
  (hf:X.fn x=true\/X.env.scope.names.lookup x=some .local:=by first|exact .inl rfl|exact .inr rfl|assumption):mK X (.Assign [.Name x pos'] e pos) (aG i te):=wm nd hi hx he hs hf
def gn(i:Nat)(nd:X.N.Nodup)(hi:X.N[i]?=some x:=by rfl)(hx:sa X.env.scope x:=by first|exact Or.inl rfl|exact Or.inr rfl)(hf:X.fn x=true\/X.env.scope.names.lookup x=some .local:=by first|exact .inl rfl|exact .inr rfl|assumption):rq X (.Name x pos) (.n i):=yt i nd hi hx hf
def yv{px:Pos}{kvs:List (a7×Int)}{g:Expr}{tg:aW}(hr:Room j X.A)(hD:∃a,X.mg x=some (.ref a)/\KD X.prog X.w X.K a (kvs.map fun kv=>(kv.1,V.int kv.2)))(he:aZ X e te)(hf:aZ X g tg)(hg:Gl X x:=by rfl)(m:M2 X (.Name x px) "get" apos e g cpos:=by exact⟨rfl,rfl,rfl,rfl⟩)
  (hd:(x == ("__debug__":Str))=false:=by decide):aZ X (.Call (.Attribute (.Name x px) "get" apos) [e,g] [] cpos) (mS kvs te tg):=let ⟨_,h1,h2⟩:=hD;uq (hu1 hr) hg h1 h2 he hf m hd
end
structure uv (T:String) (name:Str) (id:String):Prop where
 pa:PlainAttrs T
 slot:Slot T name id
 ty:typeOf (.builtin id)=pure (.type "method_descriptor")
section
variable {X:Cx} {e o:Expr} {es:List Expr} {to:aW} {ts:List aW} {name:Str} {T id:String} {p pos apos cpos:Pos} {r:o5}
def gG:uv "list" "append" "list.append":=⟨Hi,PySem.F.slot_list_append,PySem.F.type_list_append⟩
def nL:uv "list" "extend" "list.extend":=⟨Hi,PySem.F.slot_list_extend,PySem.F.type_list_extend⟩
def uw:uv "list" "pop" "list.pop":=⟨Hi,PySem.F.slot_list_pop,PySem.F.type_list_pop⟩
def mT:uv "str" "join" "str.join":=⟨PySem.F.plainAttrs_str,PySem.F.slot_str_join,PySem.F.type_str_join⟩
def pe:uv "str" "index" "str.index":=⟨PySem.F.plainAttrs_str,PySem.F.slot_str_index,PySem.F.type_str_index⟩
def ux(k:uv T name id)(hm:rj X id r)(ho:aZ X o to)(ha:kf X (e::es) ts)(hs:starEach (e::es) X.env=(false,eval e X.env)::starEach es X.env:=by rfl)
  (hbase:attributeBase o name X.env (eval o X.env)=eval o X.env:=by rfl)
  (hfew:((backTo cpos (starEach (e::es) X.env)).all (fun x=>!x.1)&&(backToKw cpos (keywordEach [] X.env)).all (fun x=>x.1.isSome)
   && decide ((e::es).length+([]:List Keyword).length+(if ([]:List Keyword).isEmpty then 0 else 1) < 30))=true:=by rfl)
  (hline:(apos.endLine == cpos.line)=true:=by rfl) (hplain:(backTo cpos (starEach es X.env)).any (·.1)=false:=by rfl):aZ X (.Call (.Attribute o name apos) (e::es) [] cpos) (k_ T r to ts):=xH k.pa k.slot k.ty hm hs ho ha hbase hfew hline hplain
def xO(k:uv T name id)(hm:rj X id r)(ho:aZ X o to)
  (hbase:attributeBase o name X.env (eval o X.env)=eval o X.env:=by rfl) (hline:(apos.endLine == cpos.line)=true:=by rfl):aZ X (.Call (.Attribute o name apos) [] [] cpos) (k_ T r to []):=wj k.pa k.slot k.ty hm ho hbase hline
end
section
variable {X:Cx} {tg iter elt:Expr} {ifs:List Expr} {scope:Scope} {pos:Pos} {ti:qg} {g:Tg} {tc:hV} {te:aW}
def ve(fs:Vs)(own:Nat)(fr:List Nat)(N:Vs)(hi:sw X tg iter ti)(hg:∀B,rq (X.z6 N scope fs B) tg g)(hf:∀B,vc (X.z6 N scope fs B) ifs tc)(he:∀B,aZ (X.z6 N scope fs B) elt te)
  (B3:g.under own=true:=by rfl) (hc:X.calm=true:=by rfl) (hclos:closureFor scope X.env=pure (bT X.env fs):=by rfl) (hcell:∀y∈scope.names,y.2 ≠ .cell:=by decide +kernel) (hkind:scope.kind = .function:=by rfl)
  (hnames:∀x∈scope.names,x.2 = .local->scope.names.lookup x.1=some .local:=by decide +kernel) (hcl:bK X.env fs:=by repeat' first|exact trivial|exact⟨_,rfl⟩|constructor) (hhas:j9 (relabel scope X.env).names (bT X.env fs)=true:=by rfl)
  (hlen:N.length=own+fr.length:=by rfl) (hN:(N.drop own).map some=fr.map (fun j=>X.N[j]?):=by rfl) (hF:zg X.env scope (bT X.env fs) (N.drop own):=by repeat' first|exact trivial|exact .inl rfl|exact .inr rfl|exact rfl|apply And.intro)
  (hs:∀x,foldedSetIterable iter X.env x=pure x:=by intro _;rfl):aZ X (.ListComp elt [⟨tg,iter,ifs,0⟩] scope pos) (b8 ti g tc te own fr):=uh fs own fr N B3 hc hclos hcell hkind hnames hcl hhas hlen hN hF hi hg hf he hs
def yc(fs:Vs)(own:Nat)(fr:List Nat)(N:Vs)(i:Nat){y:Str}{py spos:Pos}(hX:X.N.Nodup)(hi:sw X tg iter ti)(hg:∀B,rq (X.z6 N scope fs B) tg g)(hf:∀B,vc (X.z6 N scope fs B) ifs tc)(he:∀B,aZ (X.z6 N scope fs B) elt te)
  (hix:X.N[i]?=some y:=by rfl) (hy:X.env.scope.names.lookup y=some .local:=by rfl) (hsw:swapsWith (.ListComp elt [⟨tg,iter,ifs,0⟩] scope pos) (some (.Name y py)) spos.line X.env=pure true:=by rfl)
  (B3:g.under own=true:=by rfl) (hc:X.calm=true:=by rfl) (hclos:closureFor scope X.env=pure (bT X.env fs):=by rfl) (hcell:∀y∈scope.names,y.2 ≠ .cell:=by decide +kernel) (hkind:scope.kind = .function:=by rfl)
  (hnames:∀x∈scope.names,x.2 = .local->scope.names.lookup x.1=some .local:=by decide +kernel) (hcl:bK X.env fs:=by repeat' first|exact trivial|exact⟨_,rfl⟩|constructor) (hhas:j9 (relabel scope X.env).names (bT X.env fs)=true:=by rfl)
  (hlen:N.length=own+fr.length:=by rfl) (hN:(N.drop own).map some=fr.map (fun j=>X.N[j]?):=by rfl) (hF:zg X.env scope (bT X.env fs) (N.drop own):=by repeat' first|exact trivial|exact .inl rfl|exact .inr rfl|exact rfl|apply And.intro)
  (hs:∀x,foldedSetIterable iter X.env x=pure x:=by intro _;rfl):mK X (.Assign [.Name y py] (.ListComp elt [⟨tg,iter,ifs,0⟩] scope pos) spos) (aG i (b8 ti g tc te own fr)):=uk fs own fr N hX hix hy hsw B3 hc hclos hcell hkind hnames hcl hhas hlen hN hF hi hg hf he hs
end
section
variable {X:Cx} {e:Expr} {es:List Expr} {ts:List aW} {x:Str} {p pos cpos:Pos} {ks:Vs} {j:Nat}
def uy{n:String}(hm:X.mg x=none)(hg:Gl X x:=by rfl)(hv:bootBuiltins x=some (.type n):=by decide +kernel)(hn:x ≠ "__name__":=by decide)(hd:(x == ("__debug__":Str))=false:=by decide):aZ X (.Name x pos) (c3 (.ty n)):=xG hg hm hv hn hd
end
end L3
namespace L2
open PySem PySem.Spec PyProof.Rows
end L2
namespace L3
open PySem L2
end L3
namespace CY
open PySem L2 L3
end CY
namespace L3
open PySem L2
theorem lp:∀{a b:List Char},a.map Char.toNat=b.map Char.toNat->a=b
 |[],[],_=>rfl
 |[],_::_,h=>by simp at h
 |_::_,[],h=>by simp at h
 |x::a,y::b,h=>by
  simp only[FO,G7]at h
  rw[lp h.2,Char.toNat_inj.mp h.1]
def al{a b:String}:(Str.ofString a=Str.ofString b)↔a=b:=by
 refine⟨fun h=>?_,fun h=>by rw[h]⟩
 rw[Str.ofString_eq_toList,Str.ofString_eq_toList]at h
 have h':a.toList.map Char.toNat=b.toList.map Char.toNat:=by
  have:=F5 (fun s:Str=>s.cps.toList) h
  simpa using this
 exact String.toList_inj.mp (lp h')
def sS{a b:String}:((Sum.inr (Str.ofString a):a7)=Sum.inr (Str.ofString b))↔a=b:=by
 rw[Sum.inr.injEq,al]
def rG{i j:Int}(h1:-(2 ^ 64) < i)(h2:i < 2 ^ 64):IntMulOk i j:=(show BY i j from .inl ⟨h1,h2⟩).ok
def rH{i j:Int}(h1:-(2 ^ 64) < j)(h2:j < 2 ^ 64):IntMulOk i j:=(show BY i j from .inr ⟨h1,h2⟩).ok
def fO{i j:Int}(h:0<=j):i.fmod j=i % j:=Int.fmod_eq_emod_of_nonneg i h
def wq{i j:Int}(h:0<=j):i.fdiv j=i / j:=Int.fdiv_eq_ediv_of_nonneg i h
def xP{i j:Int}(h:0 < j)(h2:j < 2 ^ 64):k8 i j:=⟨by omega,Ij (show j.natAbs < 2 ^ 64 by omega) (Nat.pow_lt_pow_right (by decide) (by decide))⟩
def zS(d l:Addr)(S S':ax):Prop:=∀a o,S a=some o->a≠d->a≠l->S' a=some o
def zS.refl{d l:Addr}{S:ax}:zS d l S S:=fun _ _ h _ _=>h
def zS.trans{d l:Addr}{S S1 S2:ax}(a:zS d l S S1)(b:zS d l S1 S2):zS d l S S2:=fun x o h h1 h2=>b x o (a x o h h1 h2) h1 h2
def zS.upd{d l:Addr}{S:ax}{o:SO}:zS d l S (aD S d o):=fun x u h h1 h2=>by rw[aq h1];exact h
def zS.E7{d l:Addr}{S:ax}{o:SO}:zS d l S (aD S l o):=fun x u h h1 h2=>by rw[aq h2];exact h
def zS.new{d l p:Addr}{S:ax}{o:SO}(h:S p=none):zS d l S (aD S p o):=fun x u hx h1 h2=>by rw[aq (fun e=>by rw[e,h]at hx;cases hx)];exact hx
end L3
local macro_rules | `(tactic| walk_at "x")=>`(tactic| ((try dsimp only [L3.ae,L3.aG,L3.av,L3.eW,L3.bR,L3.aS,L3.ah,L3.v3,L3.c3,L3.lk,L3.bL,L3.ar,L3.af,L3.k_,L3.a6,L3.nz,L3.jH,L3.gv,L3.dG,L3.k7,L3.nA,L3.jm,L3.nF,L3.iN,L3.aJ,L3.dj,L3.kP,L3.dJ,L3.ao,L3.ki,L3.bf,L3.lE,L3.jK,L3.l5,L3.e_,L3.eU,L3.bN,L3.eL,L3.iQ,L3.pd,L3.nK,L3.rE,L3.ut,L3.bJ,L3.t9,L3.aL,L3.fL,L3.bA,L3.iH,L3.fM,L3.dk,L3.nB,List.set_cons_zero,List.set_cons_succ,List.set_nil,L3.vb,L3.gB,L3.nE,L3.b8,L3.cm,L3.gX,L3.cU,L3.ko,L3.Tg.put,L3.Tg.zL,L3.li,L3.gC,L3.lj,L3.eJ,L3.ld,L3.b_,L3.eB,List.reduceReplicate,List.map_cons,List.map_nil,List.cons_append,List.nil_append]); (try simp only [L3.ae,L3.aG,L3.av,L3.eW,L3.bR,L3.aS,L3.ah,L3.v3,L3.c3,L3.lk,L3.bL,L3.ar,L3.af,L3.k_,L3.a6,L3.nz,L3.jH,L3.gv,L3.dG,L3.k7,L3.nA,L3.jm,L3.nF,L3.iN,L3.aJ,L3.dj,L3.kP,L3.dJ,L3.ao,L3.ki,L3.bf,L3.lE,L3.jK,L3.l5,L3.e_,L3.eU,L3.bN,L3.eL,L3.iQ,L3.pd,L3.nK,L3.rE,L3.ut,L3.bJ,L3.t9,L3.aL,L3.fL,L3.bA,L3.iH,L3.fM,L3.dk,L3.nB,List.set_cons_zero,List.set_cons_succ,List.set_nil,L3.vb,L3.gB,L3.nE,L3.b8,L3.cm,L3.gX,L3.cU,L3.ko,L3.Tg.put,L3.Tg.zL,L3.li,L3.gC,L3.lj,L3.eJ,L3.ld,L3.b_,L3.eB,List.reduceReplicate,FO,Hv,List.cons_append,List.nil_append])))
namespace C
open PySem L2 L3
noncomputable def bq(seed number:Int)(l:Addr):List (a7×PV):=[(Sum.inr "seed",.int seed),(Sum.inr "number",.int number),(Sum.inr "left",.ref l)]
structure Am (S:ax) (d l:Addr) (seed number:Int) (left:Vu):Prop where
 d:S d=some (.dct (bq seed number l))
 l:S l=some (.lst (left.map PV.int))
 s0:0<=seed
 s1:seed < 2147483647
 nm:0<=number
 lf:∀x∈left,0<=x
 ln:left.length<=100
def yK(S:ax)(d l:Addr):Prop:=∃seed number left,Am S d l seed number left
def Am.ne{S:ax}{d l:Addr}{seed number:Int}{left:Vu}(D:Am S d l seed number left):d≠l:=fun e=>by
 have h:=D.d
 rw[e,D.l]at h
 cases h
def yK.new{S:ax}{d l p:Addr}{o:SO}(D:yK S d l)(h:S p=none):yK (aD S p o) d l:=by
 obtain⟨s,n,f,D⟩:=D
 refine⟨s,n,f,?_,?_,D.s0,D.s1,D.nm,D.lf,D.ln⟩
 ·rw[aq (fun e=>by have:=D.d;rw[e,h]at this;cases this)];exact D.d
 ·rw[aq (fun e=>by have:=D.l;rw[e,h]at this;cases this)];exact D.l
def yK.upd{S:ax}{d l p:Addr}{o:SO}(D:yK S d l)(h1:p≠d)(h2:p≠l):yK (aD S p o) d l:=by
 obtain⟨s,n,f,D⟩:=D
 exact⟨s,n,f,by rw[aq h1.symm];exact D.d,by rw[aq h2.symm];exact D.l,D.s0,D.s1,D.nm,D.lf,D.ln⟩
def yK.free{S:ax}{d l p:Addr}(D:yK S d l)(h:S p=none):p≠d/\p≠l:=by
 obtain⟨s,n,f,D⟩:=D
 exact⟨(fun e=>by have:=D.d;rw[<-e,h]at this;cases this),(fun e=>by have:=D.l;rw[<-e,h]at this;cases this)⟩
def iU(s n m:Int)(l:Addr):kl (bq s n l) (Sum.inr "number") (.int m)=bq s m l:=by
 simp[kl,bq,sS,al]
def ph(s n m:Int)(l:Addr):kl (bq s n l) (Sum.inr "seed") (.int m)=bq m n l:=by
 simp[kl,bq,sS,al]
def uA(s n:Int)(l:Addr):jl (bq s n l) (Sum.inr "seed")=some (.int s):=by simp[jl,bq,sS,al]
def pk(s n:Int)(l:Addr):jl (bq s n l) (Sum.inr "number")=some (.int n):=by simp[jl,bq,sS,al]
def uB(s n:Int)(l:Addr):jl (bq s n l) (Sum.inr "left")=some (.ref l):=by simp[jl,bq,sS,al]
abbrev bt(w:aA):Prop:=∀{S:ax} {d l:Addr} {m:Int} {Q:bS} {E:b9},yK S d l->0 < m->m < 2 ^ 62->(∀r S',0<=r->r < m->yK S' d l->zS d l S S'->Q (.int r) S')->w [.ref d,.int m] S Q E
def yE:bt (a8 5 dW):=by
  intro S d l m Q E D h0 h1 k
  obtain⟨seed,number,left,D⟩:=D
  have hne:=D.ne
  have hsz:∀a b,(bq a b l).length < sizeLine:=fun _ _=>cR (by show 3<=1000;decide)
  have fin:∀num Br S1,Am S1 d l seed num Br->zS d l S S1->¬(num=0/\0 < Br.length)->
      (if 0 < num then k8 num m/\(bq seed num l).length < sizeLine/\m≠0/\Q (PV.int (num.fmod m)) (aD S1 d (SO.dct (bq seed (num.fdiv m) l)))
       else IntMulOk seed 48271/\(2147483647:Int)≠0/\IntMulOk ((seed * 48271+7919).fmod 2147483647) 40692/\(2147483399:Int)≠0/\(bq seed num l).length < sizeLine/\
        IntMulOk (((seed * 48271+7919).fmod 2147483647 * 40692+104729).fmod 2147483399) (((seed * 48271+7919).fmod 2147483647 * 40692+104729).fmod 2147483399)/\(2147483563:Int)≠0/\
        IntMulOk ((seed * 48271+7919).fmod 2147483647) ((seed * 48271+7919).fmod 2147483647)/\(2147483629:Int)≠0/\
        IntMulOk (((seed * 48271+7919).fmod 2147483647 * (seed * 48271+7919).fmod 2147483647).fmod 2147483629) 2147483563/\m≠0/\
        Q (PV.int ((((seed * 48271+7919).fmod 2147483647 * (seed * 48271+7919).fmod 2147483647).fmod 2147483629 * 2147483563+((((seed * 48271+7919).fmod 2147483647 * 40692+104729).fmod 2147483399) * (((seed * 48271+7919).fmod 2147483647 * 40692+104729).fmod 2147483399)).fmod 2147483563).fmod m))
          (aD S1 d (SO.dct (bq (((seed * 48271+7919).fmod 2147483647 * 40692+104729).fmod 2147483399) num l)))):=by
    intro num Br S1 D1 O1 hz
    split
    . rename_i hp
      rw[fO (HX h0),wq (HX h0)]
      refine⟨xP h0 (by omega),hsz _ _,by omega,k _ _ (Int.emod_nonneg _ (by omega)) (HZ _ h0) ⟨seed,num / m,Br,ac,by rw[aq hne.symm];exact D1.l,D1.s0,D1.s1,Int.ediv_nonneg D1.nm (HX h0),D1.lf,D1.ln⟩ (O1.trans .upd)⟩
    . have e1:∀x:Int,x.fmod 2147483647=x % 2147483647:=fun x=>fO (by decide)
      have e2:∀x:Int,x.fmod 2147483399=x % 2147483399:=fun x=>fO (by decide)
      simp only[e1,e2,fO (HX h0)]
      have p1:=D1.s0
      have p2:=D1.s1
      refine⟨rH (by decide) (by decide),by decide,rH (by decide) (by decide),by decide,hsz _ _,rG (by omega) (by omega),by decide,rG (by omega) (by omega),by decide,rH (by decide) (by decide),by omega,
        k _ _ (Int.emod_nonneg _ (by omega)) (HZ _ h0) ⟨_,num,Br,ac,by rw[aq hne.symm];exact D1.l,by omega,by omega,D1.nm,D1.lf,D1.ln⟩ (O1.trans .upd)⟩
  unfold a8 dW
  rw[show aw 5 [PV.ref d,PV.int m]=[some (.ref d),some (.int m),none,none,none] from rfl]
  simp only[ae]
  refine⟨fun n σ S'=>σ=[some (.ref d),some (.int m),none,none,none]/\∃number left,Am S' d l seed number left/\left.length=n/\zS d l S S',⟨_,rfl,number,left,D,rfl,.refl⟩,?_⟩
  rintro n σ S1 ⟨rfl,num,Br,D1,hn,O1⟩
  walk_at "x"
  simp only[D1.d,D1.l,pk,uB,uA,ph,iU,ac,FH,FF]
  have hlen:(List.map PV.int Br).length=Br.length:=Fx ..
  rw[hlen]
  split
  . rename_i hz
    subst hz
    split
    . rename_i hl
      refine⟨fun σ S'=>σ=[some (.ref d),some (.int m),none,none,none]/\∃number left,Am S' d l seed number left/\left.length < n/\zS d l S S',?_,?_⟩
      . rintro σ' S' ⟨rfl,a,b,h2,h3,h4⟩
        exact⟨_,h3,rfl,a,b,h2,rfl,h4⟩
      . have hl':0 < Br.length:=by omega
        obtain⟨pre,x,rfl⟩:∃pre x,Br=pre++[x]:=by
          refine⟨Br.dropLast,Br.getLast (by intro e;rw[e]at hl';simp at hl'),(List.dropLast_concat_getLast _).symm⟩
        refine⟨trivial,?_⟩
        rw[show(List.map PV.int (pre++[x]))[(pre++[x]).length - 1]?=some (.int x) by simp,show(List.map PV.int (pre++[x])).dropLast=pre.map PV.int by simp]
        simp only[aq hne,D1.d,iU]
        refine⟨hsz _ _,trivial,x,pre,⟨ac,by rw[aq hne.symm,ac],D1.s0,D1.s1,D1.lf x (by simp),fun y hy=>D1.lf y (by simp[hy]),by have:=D1.ln;simp at this;omega⟩,?_,O1.trans (zS.E7.trans .upd)⟩
        rw[<-hn];simp
    . rename_i hl
      exact fin 0 Br S1 D1 O1 (fun z=>hl (by omega))
  . rename_i hz
    rw[if_neg (by decide)]
    exact fin num Br S1 D1 O1 (fun z=>hz z.1)
end C
namespace L3
open PySem L2
def Ext(S S':ax):Prop:=∀a o,S a=some o->S' a=some o
def Ext.refl{S:ax}:Ext S S:=fun _ _ h=>h
def Ext.trans{S S1 S2:ax}(a:Ext S S1)(b:Ext S1 S2):Ext S S2:=fun x o h=>b x o (a x o h)
def Ext.new{S:ax}{p:Addr}{o:SO}(h:S p=none):Ext S (aD S p o):=fun x u hx=>by rw[aq (fun e=>by rw[e,h]at hx;cases hx)];exact hx
def Ext.free{S S':ax}(e:Ext S S'){p:Addr}(h:S' p=none):S p=none:=by
 cases q:S p with
 |none=>rfl
 |some o=>rw[e p o q]at h;cases h
theorem dv{g:Tg}{tc:hV}{te:aW}{σ':b5}{keep:ax->Prop}{fin:List PV->ax->Prop}{S:ax}(f:PV->PV)(c:PV->Bool)(hk:keep S):∀(items ys:List PV),
  (∀x∈items,∃σ2,g.put x σ'=some σ2/\(∀Q:Bool->ax->Prop,Q (c x) S->tc σ2 S Q gj)/\(c x=true->∀Q:bS,Q (f x) S->te σ2 S Q gj))->ys.length+items.length<=sizeLine->fin (ys++(items.filter c).map f) S->dR g tc te σ' keep fin items ys S
 |[],ys,_,hl,hf=>⟨hk,by simpa using hl,by simpa using hf⟩
 |x::r,ys,h,hl,hf=>by
  obtain⟨σ2,e,h1,h2⟩:=h x (by simp)
  refine⟨hk,by simp at hl;omega,?_⟩
  rw[e]
  refine h1 _ ?_
  cases hc:c x with
  |true=>
   rw[if_pos rfl]
   refine h2 hc _ (dv f c hk r (ys++[f x]) (fun y hy=>h y (by simp[hy])) (by simp at hl ⊢;omega) ?_)
   rw[Ih,hc,if_pos rfl]at hf
   simpa using hf
  |false=>
   rw[if_neg (by decide)]
   refine dv f c hk r ys (fun y hy=>h y (by simp[hy])) (by simp at hl ⊢;omega) ?_
   rw[Ih,hc,if_neg (by decide)]at hf
   exact hf
def nM{g:Tg}{te:aW}{σ':b5}{keep:ax->Prop}{fin:List PV->ax->Prop}{S:ax}(f:PV->PV){items:List PV}(hk:keep S)
  (h:∀x∈items,∃σ2,g.put x σ'=some σ2/\∀Q:bS,Q (f x) S->te σ2 S Q gj) (hl:items.length<=sizeLine) (hf:fin (items.map f) S):dR g kn te σ' keep fin items [] S:=by
 refine dv f (fun _=>true) hk items [] (fun x hx=>?_) (by simpa using hl) (by rw[List.filter_eq_self.mpr (fun _ _=>rfl)];exact hf)
 obtain⟨σ2,e,k⟩:=h x hx
 exact⟨σ2,e,fun Q q=>q,fun _=>k⟩
theorem jQ{g:Tg}{tc:hV}{te:aW}{σ':b5}{keep:ax->Prop}{fin:List PV->ax->Prop}{items:List PV}(Iv:List PV->List PV->ax->Prop)(hk:∀done ys S,Iv done ys S->keep S/\ys.length<=sizeLine)
  (step:∀done x rest ys S (K:List PV->ax->Prop),items=done++x::rest->Iv done ys S->(∀ys' S',Iv (done++[x]) ys' S'->K ys' S')->match g.put x σ' with
   |some σ2=>tc σ2 S (fun b S3=>if b=true then te σ2 S3 (fun y S4=>K (ys++[y]) S4) gj else K ys S3) gj
   |none=>False)
  (hf:∀ys S,Iv items ys S->fin ys S):∀(rest done ys:List PV) (S:ax),items=done++rest->Iv done ys S->dR g tc te σ' keep fin rest ys S
 |[],done,ys,S,e,h=>by
  rw[Gb]at e
  exact⟨(hk _ _ _ h).1,(hk _ _ _ h).2,hf ys S (e▸h)⟩
 |x::rest,done,ys,S,e,h=>by
  refine⟨(hk _ _ _ h).1,(hk _ _ _ h).2,?_⟩
  exact step done x rest ys S (fun ys' S'=>dR g tc te σ' keep fin rest ys' S') e h fun ys' S' h'=>jQ Iv hk step hf rest (done++[x]) ys' S' (by rw[e];simp) h'
theorem lr{g:Tg}{tb:bv}{D:k6}{keep:ax->Prop}{items:List PV}(Iv:List PV->b5->ax->Prop)(hk:∀done σ S,Iv done σ S->keep S)
  (step:∀done x rest σ S (K:b5->ax->Prop),items=done++x::rest->Iv done σ S->(∀σ' S',Iv (done++[x]) σ' S'->K σ' S')->match g.put x σ with
   |some σ'=>tb { D with nx:=K,ct:=K,bk:=D.nx } σ' S
   |none=>False)
  (hd:∀σ S,Iv items σ S->D.nx σ S):∀(rest done:List PV) (σ:b5) (S:ax),items=done++rest->Iv done σ S->lg g tb D keep rest σ S
 |[],done,σ,S,e,h=>by
  rw[Gb]at e
  exact⟨hk _ _ _ h,hd σ S (e▸h)⟩
 |x::rest,done,σ,S,e,h=>
  ⟨hk _ _ _ h,step done x rest σ S (lg g tb D keep rest) e h fun σ' S' h'=>lr Iv hk step hd rest (done++[x]) σ' S' (by rw[e];simp) h'⟩
def cb{g:Tg}{tb:bv}{D:k6}{keep:ax->Prop}{items:List PV}{σ:b5}{S:ax}(Iv:List PV->b5->ax->Prop)(h0:Iv [] σ S)(hk:∀done σ S,Iv done σ S->keep S)
  (step:∀done x rest σ S (K:b5->ax->Prop),items=done++x::rest->Iv done σ S->(∀σ' S',Iv (done++[x]) σ' S'->K σ' S')->match g.put x σ with
   |some σ'=>tb { D with nx:=K,ct:=K,bk:=D.nx } σ' S
   |none=>False)
  (hd:∀σ S,Iv items σ S->D.nx σ S):lg g tb D keep items σ S:=lr Iv hk step hd items [] σ S rfl h0
def d3{g:Tg}{tc:hV}{te:aW}{σ':b5}{keep:ax->Prop}{fin:List PV->ax->Prop}{items:List PV}{S:ax}(Iv:List PV->List PV->ax->Prop)(h0:Iv [] [] S)(hk:∀done ys S,Iv done ys S->keep S/\ys.length<=sizeLine)
  (step:∀done x rest ys S (K:List PV->ax->Prop),items=done++x::rest->Iv done ys S->(∀ys' S',Iv (done++[x]) ys' S'->K ys' S')->match g.put x σ' with
   |some σ2=>tc σ2 S (fun b S3=>if b=true then te σ2 S3 (fun y S4=>K (ys++[y]) S4) gj else K ys S3) gj
   |none=>False)
  (hf:∀ys S,Iv items ys S->fin ys S):dR g tc te σ' keep fin items [] S:=jQ Iv hk step hf items [] [] S rfl h0
def aj{t u:bv}{D:k6}{σ:b5}{S:ax}(h:∀N:b5->ax->Prop,(∀σ S,u D σ S->N σ S)->t { D with nx:=N } σ S):ae t u D σ S:=h (u D) fun _ _ q=>q
def fi{n:Nat}{b:bv}{args:List PV}{S:ax}{Q:bS}{E:b9}(h:b { nx:=fun _ S'=>Q .non S',rt:=Q,ex:=gj } (aw n args) S):a8 n b args S Q E:=h
def pp{α β:Type}(f:α->β)(xs:List α)(lo hi:Option Int):b6 (xs.map f) lo hi=(b6 xs lo hi).map f:=by
 unfold b6
 rw[Fx,List.map_take,List.map_drop]
def iV{α:Type}(xs:List α)(lo hi:Option Int):(b6 xs lo hi).length<=xs.length:=by
 unfold b6
 rw[Ge,Gj]
 omega
def aI{n:Nat}(h:n<=1000):n<=sizeLine:=Hl (cR h)
section
variable {α:Type} {a b c d e:α} {l:List α}
def md:zk (a::l) 0=some a:=by simp[zk,lP]
def uC:zk (a::b::l) 1=some b:=dh (j:=1) rfl
def xQ:zk (a::b::c::l) 2=some c:=dh (j:=2) rfl
def yw:zk (a::b::c::d::e::l) 4=some e:=dh (j:=4) rfl
def uD:zk [a] (-1)=some a:=rfl
def uE:zk [a,b] (-1)=some b:=rfl
def uF:zk [a,b,c] (-1)=some c:=rfl
def uG:zk [a,b,c,d] (-1)=some d:=rfl
def uH:zk [a,b,c,d,e] (-1)=some e:=rfl
def uI:zk [a,b] (-2)=some a:=rfl
def uJ:zk [a,b,c] (-2)=some b:=rfl
def uK:zk [a,b,c,d] (-2)=some c:=rfl
def uL:zk [a,b,c,d,e] (-2)=some d:=rfl
end
def cV(lo:Int)(n:Nat):(bh lo n).length=n:=by simp[bh]
end L3
namespace C
open PySem L2 L3
abbrev ls(w:aA):Prop:=∀{S:ax} {ns:Vu} {b:Int} {Q:bS} {E:b9},ns.length<=63->0<=b->b < 1000->(∀d l S',S d=none->S l=none->yK S' d l->Ext S S'->Q (.ref d) S')->w [.cl (ns.map PV.int),.int b] S Q E
def AJ:ls (a8 5 dU):=by
 intro S ns b Q E hn h0 h1 k
 unfold a8 dU
 rw[show aw 5 [PV.cl (ns.map PV.int),PV.int b]=[some (.cl (ns.map PV.int)),some (.int b),none,none,none] from rfl]
 walk_at "x"
 intro p hp
 rw[ac]
 dsimp only
 rw[pp]
 have hx:(b6 ns (some b) (some 63)).length<=63:=FI (iV _ _ _) hn
 generalize b6 ns (some b) (some 63)=xs at hx
 refine nM (fun v=>match v with | .int i=>.int (if 0 - i > i then 0 - i else i)|v=>v) ac (fun x hx=>?_) (aI (by rw[Fx];omega)) ?_
 ·obtain⟨i,hi,rfl⟩:=Gn.mp hx
  refine⟨[some (.int i)],rfl,fun Q q=>?_⟩
  walk_at "x"
  exact q
 intro p2 hp2
 rw[ac]
 dsimp only
 rw[Hy]
 have e0:(xs.map ((fun v=>match v with | .int i=>.int (if 0 - i > i then 0 - i else i)|v=>v) ∘ PV.int))=(xs.map fun i=>if 0 - i > i then 0 - i else i).map PV.int:=by
  rw[Hy];rfl
 rw[e0]
 have hy:((xs.map fun i=>if 0 - i > i then 0 - i else i)).length<=63:=by rw[Fx];exact hx
 have B_:∀y∈xs.map (fun i:Int=>if 0 - i > i then 0 - i else i),0<=y:=by
  intro y hy
  obtain⟨i,_,rfl⟩:=Gn.mp hy
  split<;>omega
 generalize (xs.map fun i=>if 0 - i > i then 0 - i else i)=ys at hy B_
 have h2:p2≠p:=fun e=>by rw[e,ac]at hp2;cases hp2
 have hp2':S p2=none:=by rw[<-hp2,aq h2]
 refine cb (fun done σ S'=>S'=aD (aD S p (.lst (xs.map PV.int))) p2 (.lst (ys.map PV.int))/\∃v2 n,0<=n/\n < 2147483647/\σ=[some (.cl (ns.map PV.int)),some (.int b),v2,some (.ref p2),some (.int n)]) ⟨rfl,none,7919+b,by omega,by omega,rfl⟩ (fun done σ S' h=>by rw[h.1];exact ac) ?_ ?_
 ·rintro done x rest σ S' K e ⟨rfl,v2,n,n0,n1,rfl⟩ hK
  obtain⟨i,hi,rfl⟩:∃i,i∈ys/\x = .int i:=by
   have:x∈ys.map PV.int:=by rw[e];simp
   obtain⟨i,hi,rfl⟩:=Gn.mp this
   exact⟨i,hi,rfl⟩
  walk_at "x"
  refine⟨rH (by decide) (by decide),by decide,by decide,hK _ _ ⟨rfl,_,_,?_,?_,rfl⟩⟩
  ·rw[fO (by decide)];omega
  ·rw[fO (i:=(n * 48271+_)) (by decide)];omega
 ·rintro σ S' ⟨rfl,v2,n,n0,n1,rfl⟩
  walk_at "x"
  intro d hd
  have hd2:d≠p2:=fun e=>by rw[e,ac]at hd;cases hd
  rw[aq hd2]at hd
  have hd1:d≠p:=fun e=>by rw[e,ac]at hd;cases hd
  rw[aq hd1]at hd
  rw[aq hd2.symm,ac]
  dsimp only
  refine dv (fun v=>v) (fun v=>match v with | .int i=>decide (10 ^ 18<=i)|_=>false) (by rw[aq hd2.symm,ac]) _ [] (fun x hx=>?_) (by rw[Fx];exact aI (by simp;omega)) ?_
  ·obtain⟨i,hi,rfl⟩:=Gn.mp hx
   refine⟨[some (.int i)],rfl,fun Q q=>?_,fun _ Q q=>?_⟩
   ·walk_at "x"
    exact⟨⟨by decide,by decide,by decide⟩,q⟩
   ·walk_at "x"
    exact q
  intro p3 hp3
  rw[ac]
  intro l hl
  have e3:([]++List.map (fun v:PV=>v) (List.filter (fun v=>match v with | .int i=>decide (10 ^ 18<=i)|_=>false) (List.map PV.int ys)))=(ys.filter fun i=>decide (10 ^ 18<=i)).map PV.int:=by
   rw[List.nil_append,List.map_id',List.filter_map]
   rfl
  rw[e3]at hl ⊢
  rw[<-List.map_reverse]
  generalize Es:aD (aD (aD (aD S p (SO.lst (List.map PV.int xs))) p2 (SO.lst (List.map PV.int ys))) d (SO.dct [])) p3 (SO.lst (List.map PV.int (List.filter (fun i=>decide (10 ^ 18<=i)) ys)))=S3 at hl ⊢
  have Eu:S3 d=some (.dct []):=by rw[<-Es,aq (fun e=>by rw[<-e,ac]at hp3;cases hp3),ac]
  have Ev:l≠d:=fun e=>by rw[e,Eu]at hl;cases hl
  have DL:Ext S S3:=by
   rw[<-Es]
   refine(Ext.new hp).trans ((Ext.new hp2).trans ((Ext.new ?_).trans (.new hp3)))
   rw[aq hd2,aq hd1];exact hd
  refine⟨by rw[aq Ev.symm];exact Eu,?_⟩
  have e4:lh [(PV.str "seed",PV.int n),(PV.str "number",PV.int 0),(PV.str "left",PV.ref l)]=some (bq n 0 l):=rfl
  rw[e4]
  have e5:kq [] (bq n 0 l)=bq n 0 l:=by simp[kq,bq,kl,sS,al]
  dsimp only
  rw[e5]
  refine k d l _ hd (DL.free hl) ⟨n,0,_,ac,by rw[aq Ev,ac],n0,n1,Int.le_refl _,fun y hy=>?_,?_⟩ ?_
  ·exact B_ y (HK.mp (List.mem_reverse.mp hy)).1
  ·rw[List.length_reverse]
   exact FI (HE _ _) (by omega)
  ·intro a o ha
   have had:a≠d:=fun e=>by rw[e,hd]at ha;cases ha
   rw[aq had,aq (fun e=>by rw[e,DL.free hl]at ha;cases ha)]
   exact DL a o ha
end C
namespace L3
open PySem L2
theorem iW(S:ax):∀zs:List Str,zK S (zs.map PV.str) (zs.map PyData.str)
 |[]=>.nil
 |z::r=>.cons (.str z) (iW S r)
theorem d4:∀{zs:Vs},(∀z∈zs,PyData.strOk z=true)->PyData.canLayAll0 (zs.map PyData.str)=true
 |[],_=>rfl
 |z::r,h=>by
  show(PyData.canLay0 (.str z)&&PyData.canLayAll0 (r.map PyData.str))=true
  rw[d4 fun y hy=>h y (by simp[hy])]
  have:PyData.canLay0 (.str z)=true:=h z (by simp)
  rw[this];rfl
def iX(z:Str)(zs:Vs):dH (.str z) (zs.map PyData.str)=decide (z∈zs):=by
 unfold dH
 rw[List.any_map,GL,List.any_eq_true,decide_eq_true_iff]
 constructor
 ·rintro⟨y,hy,e⟩
  have e':(y == z)=true:=e
  exact(eq_of_beq e')▸hy
 ·intro h
  exact⟨z,h,beq_self_eq_true z⟩
def mU{neg:Bool}{z:Str}{zs:Vs}{a:Addr}{S:ax}{Q:bS}(hS:S a=some (.lst (zs.map PV.str)))(hz:PyData.strOk z=true)(hzs:∀y∈zs,PyData.strOk y=true)(q:Q (.bl (neg != decide (z∈zs))) S):ik neg (.str z) (.ref a) S Q:=by
 unfold ik
 simp only[hS]
 exact⟨_,_,.str z,iW S zs,hz,d4 hzs,by show 0<=150;decide,by rw[iX];exact q⟩
def aR{neg:Bool}{z:Str}{zs:Vs}{S:ax}{Q:bS}(hz:PyData.strOk z=true)(hzs:∀y∈zs,PyData.strOk y=true)(q:Q (.bl (neg != decide (z∈zs))) S):ik neg (.str z) (.tup (zs.map PV.str)) S Q:=by
 unfold ik
 exact⟨_,_,.str z,iW S zs,hz,d4 hzs,by show 0<=150;decide,by rw[iX];exact q⟩
end L3
namespace C
open PySem L2 L3 Wd
abbrev ky(w:aA):Prop:=∀{S:ax} {t b:Int} {Q:bS} {E:b9},0 < b->b.natAbs < 2 ^ 8000->Q (.tup [.int (M3.ke t b),.int (M3.k5 t b)]) S->w [.int t,.int b] S Q E
def Bg:ky (a8 4 fc):=by
 intro S t b Q E hb hs k
 unfold a8 fc
 rw[show aw 4 [PV.int t,PV.int b]=[some (.int t),some (.int b),none,none] from rfl]
 simp only[ae]
 walk_at "x"
 refine⟨fun n σ S'=>S'=S/\∃x y:Int,σ=[some (.int t),some (.int b),some (.int x),some (.int y)]/\0<=x/\0<=y/\Int.gcd x y=Int.gcd t b/\y.toNat=n,⟨_,rfl,_,b,rfl,by split<;>omega,by omega,?_,rfl⟩,?_⟩
 ·split
  ·rw[show(0 - t) = -t by omega,Int.neg_gcd]
  ·rfl
 rintro n σ S' ⟨rfl,x,y,rfl,hx,hy,hg,rfl⟩
 walk_at "x"
 simp only[FF]
 split
 ·rename_i hp
  refine⟨fun σ' Ca=>Ca=S'/\∃x' y':Int,σ'=[some (.int t),some (.int b),some (.int x'),some (.int y')]/\0<=x'/\0<=y'/\Int.gcd x' y'=Int.gcd t b/\y'.toNat < y.toNat,?_,?_⟩
  ·rintro σ' Ca ⟨rfl,x',y',rfl,h1,h2,h3,h4⟩
   exact⟨_,h4,rfl,x',y',rfl,h1,h2,h3,rfl⟩
  ·walk_at "x"
   have e:x.fmod y=x % y:=fO hy
   have l1:=Int.emod_nonneg x (b:=y) (by omega)
   have l2:=HZ x hp
   refine⟨by omega,trivial,y,x.fmod y,rfl,hy,by omega,?_,by omega⟩
   rw[M3.oQ];exact hg
 ·rename_i hp
  have B_:y=0:=by omega
  subst B_
  have E8:x=(Int.gcd t b:Int):=by
   rw[<-hg]
   rw[Int.gcd_zero_right]
   omega
  subst E8
  have gp:(0:Int) < (Int.gcd t b:Int):=HP.mpr (M3.fH (by omega))
  have gl:=M3.tX (t:=t) (b:=b) (by omega)
  have cd:∀z,k8 z (Int.gcd t b:Int):=fun z=>⟨by omega,Nat.lt_of_le_of_lt (by omega) hs⟩
  refine⟨cd _,cd _,?_⟩
  have d1:=(M3.oP (t:=t) (b:=b) (by omega))
  rw[if_neg (by omega)]at d1
  rw[d1.1,d1.2]
  exact k
structure wt (x y:Int):Prop where
 low:M3.x8 x y
 x0:0<=x
 x1:x<=999
 y1:y<=9
def nN{n:Nat}(h:n < 2 ^ 64):n < 2 ^ 8000:=Ij h (Nat.pow_lt_pow_right (by decide) (by decide))
abbrev iY(w:aA):Prop:=∀{S:ax} {d l:Addr} {Q:bS} {E:b9},yK S d l->(∀x y S',wt x y->yK S' d l->zS d l S S'->Q (.tup [.int x,.int y]) S')->w [.ref d] S Q E
def AK{wd wl:aA}(yE:bt wd)(Bg:ky wl):iY (a8 2 (dX wd wl)):=by
 intro S d l Q E D k
 unfold a8 dX
 rw[show aw 2 [PV.ref d]=[some (.ref d),none] from rfl]
 walk_at "x"
 refine yE D (by decide) (by decide) fun r S1 r0 r1 D1 O1=>?_
 simp only[FH,FF]
 split
 ·exact k 0 1 S1 ⟨⟨by decide,by decide⟩,by decide,by decide,by decide⟩ D1 O1
 ·split
  ·refine yE D1 (by decide) (by decide) fun r2 S2 a0 a1 D2 O2=>?_
   exact k _ 1 S2 ⟨⟨by decide,Int.gcd_one_right _⟩,by omega,by omega,by decide⟩ D2 (O1.trans O2)
  ·refine yE D1 (by decide) (by decide) fun r2 S2 a0 a1 D2 O2=>yE D2 (by decide) (by decide) fun r3 S3 b0 b1 D3 O3=>?_
   refine Bg (by omega) (nN (by omega)) ?_
   have z:=M3.oR (t:=r2) (b:=1+r3) (T:=999) (B:=9) (by omega) (by omega) (by omega) (by omega) (by omega) (by decide) (by decide)
   refine k _ _ S3 ⟨M3.mJ (by omega),?_,z.2.1,z.2.2.2⟩ D3 (O1.trans (O2.trans O3))
   unfold M3.ke
   rw[if_neg (by omega)]
   exact Int.ediv_nonneg a0 (by omega)
def nO{r:Int}(h0:0<=r)(h1:r < 26):∃c,zk abc.cps.toList r=some c/\97<=c/\c<=122:=by
 obtain⟨n,rfl⟩:=GS h0
 have q:=kc n
 rw[Nat.mod_eq_of_lt (by omega)]at q
 exact⟨_,q,by omega,by omega⟩
def fj{z:Str}(h:IsW z):PyData.strOk z=true:=by
 unfold PyData.strOk
 rw[Array.all_eq_true']
 intro c hc
 have:=h.sm c (by simpa using hc)
 simp;omega
def rJ:∀z∈zm,PyData.strOk z=true:=by decide +kernel
theorem gH:∀zs:List Str,texts (zs.map PV.str)=some zs
 |[]=>rfl
 |z::r=>by show(texts (r.map PV.str)).map (z::·)=_;rw[gH r];rfl
def nP:("":Str).length=0:=by decide +kernel
def jR{cs:List Nat}(h:cs.length<=1000):((cs.map j_).map (·.length)).sum+(cs.map j_).length * ("":Str).length<=1000000:=by
 rw[qW,nP]
 omega
def iZ{w__law_draw:aA}(yE:bt w__law_draw){S:ax}{d l:Addr}{σ:b5}{n:Int}{fin:List PV->ax->Prop}(D:yK S d l)(hn:n.toNat<=100)(h1:lk σ 1=some (.ref d))(h2:lk σ 2=some (.str abc))(hσ:∃x,σ=[x,some (.ref d),some (.str abc)])
  (k:∀(cs:List Nat) S',cs.length=n.toNat->(∀c∈cs,97<=c/\c<=122)->yK S' d l->zS d l S S'->fin ((cs.map j_).map PV.str) S') :
  dR (Tg.n 0) kn (ah ao (v3 2) (af w__law_draw [v3 1,c3 (.int 26)])) σ (fun _=>True) fin (bh 0 n.toNat) [] S:=by
 obtain⟨x0,rfl⟩:=hσ
 refine d3 (fun done ys S'=>∃cs:List Nat,ys=(cs.map j_).map PV.str/\cs.length=done.length/\done.length<=n.toNat/\(∀c∈cs,97<=c/\c<=122)/\yK S' d l/\zS d l S S') ⟨[],rfl,rfl,Gq _,by simp,D,.refl⟩ ?_ ?_ ?_
 ·rintro done ys S' ⟨cs,rfl,e,hd,_⟩
  exact⟨trivial,aI (by rw[Fx,Fx,e];omega)⟩
 ·rintro done x rest ys S' K e ⟨cs,rfl,e2,hd,hc,D',O'⟩ hK
  have hlen:done.length+1<=n.toNat:=by
   have:=F5 List.length e
   rw[cV,Fv,FG]at this
   omega
  walk_at "x"
  simp only[kn,F8]
  refine yE D' (by decide) (by decide) fun r S2 r0 r1 D2 O2=>⟨ig.1,?_⟩
  obtain⟨c,ec,c0,c1⟩:=nO r0 r1
  rw[ec]
  refine hK _ _ ⟨cs++[c],by simp,by simp[e2],by simpa using hlen,fun y hy=>?_,D2,O'.trans O2⟩
  rcases F4.mp hy with hy|hy
  ·exact hc y hy
  ·rw[F2.mp hy];exact⟨c0,c1⟩
 ·rintro ys S' ⟨cs,rfl,e,hd,hc,D',O'⟩
  exact k cs S' (by rw[e,cV]) hc D' O'
theorem lu{f:Str->List Nat}(r:List Nat):∀xs:List Str,(xs.map f).Nodup->(xs.filter fun z=>f z == r).length<=1
 |[],_=>Gq _
 |x::xs,h=>by
  rw[FO,Gv]at h
  rw[Ih]
  by_cases e:(f x == r)=true
  ·rw[if_pos e]
   have no:(xs.filter fun z=>f z == r)=[]:=by
    refine List.filter_eq_nil_iff.mpr fun z hz q=>h.1 ?_
    rw[eq_of_beq e,<-eq_of_beq q]
    exact Gn.mpr ⟨z,hz,rfl⟩
   rw[no]
   exact Ft _
  ·rw[if_neg e]
   exact lu r xs h.2
def pq(r:List Nat):(zm.filter fun z=>z.cps.toList.tail == r).length<=1:=lu (f:=fun z=>z.cps.toList.tail) r zm (by decide +kernel)
def me(r:List Nat)(c:Nat)(ns:Vs)(h:ns.length < 17):∃j,j < 26/\cand r (c+j) ∉ zm++ns:=by
 obtain⟨j,hj,free⟩:=ny r c ((zm.filter fun z=>z.cps.toList.tail == r)++ns) (by rw[Fv];have:=pq r;omega)
 refine⟨j,hj,fun hm=>free ?_⟩
 rcases F4.mp hm with q|q
 ·exact Gp _ (HK.mpr ⟨q,by simp[cand]⟩)
 ·exact FZ _ q
abbrev gI(w:aA):Prop:=∀{S:ax} {d l:Addr} {m:Int} {Q:bS} {E:b9},yK S d l->0<=m->m<=17->(∀p (ns:Vs) S',ns.length=m.toNat->ns.Nodup->(∀z∈ns,IsW z/\z ∉ zm)->S p=none->p≠d->p≠l->S' p=some (.lst (ns.map PV.str))->yK S' d l->zS d l S S'->Q (.ref p) S')->w [.ref d,.int m] S Q E
def Ax{wd:aA}(yE:bt wd):gI (a8 11 (dm wd)):=by
 intro S d l m Q E D h0 h1 k
 unfold dm
 refine fi ?_
 rw[show aw 11 [PV.ref d,PV.int m]=[some (.ref d),some (.int m),none,none,none,none,none,none,none,none,none] from rfl]
 refine aj fun N hN=>?_
 walk_at "x"
 refine hN _ _ (aj fun N hN=>?_)
 walk_at "x"
 intro pT hT
 have dT:=D.free hT
 have D0:yK (aD S pT (.lst (zm.map PV.str))) d l:=D.new hT
 have Ew:(aD S pT (.lst (zm.map PV.str))) pT=some (.lst (zm.map PV.str)):=ac
 have O0:zS d l S (aD S pT (.lst (zm.map PV.str))):=.new hT
 have eK:[PV.str "jars",PV.str "deed",PV.str "rest",PV.str "pay",PV.str "put",PV.str "then",PV.str "either",PV.str "take",PV.str "often",PV.str "use"]=zm.map PV.str:=rfl
 rw[eK]
 generalize aD S pT (.lst (zm.map PV.str))=S0 at D0 Ew O0 ⊢
 refine hN _ _ (aj fun N hN=>?_)
 walk_at "x"
 refine⟨trivial,yE D0 (by decide) (by decide) fun n S1 n0 n1 D1 O1=>⟨by omega,by omega,?_⟩⟩
 refine iZ yE D1 (by omega) rfl rfl ⟨_,rfl⟩ fun cs S2 hl hc D2 O2 pj hj=>?_
 simp only[jL,ac,gH]
 refine⟨jR (by omega),?_⟩
 rw[show Txt.join (Str.ofString "") (cs.map j_)=⟨cs.toArray⟩from iD cs]
 refine hN _ _ (aj fun N hN=>?_)
 walk_at "x"
 have hcl:cs.length<=5:=by omega
 have lc:(⟨cs.toArray⟩:Str).length=cs.length:=Fy
 refine⟨by rw[lc];exact aI (by omega),yE (D2.new hj) (by rw[lc];omega) (by rw[lc];omega) fun at' S3 a0 a1 D3 O3=>yE D3 (by decide) (by decide) fun tu S4 t0 t1 D4 O4=>yE D4 (by decide) (by decide) fun nr S5 r0 r1 D5 O5=>?_⟩
 rw[lc]at a1
 obtain⟨an,rfl⟩:=GS a0
 obtain⟨tn,rfl⟩:=GS t0
 refine hN _ _ (aj fun N hN=>?_)
 walk_at "x"
 intro q hq
 have dq:=D5.free hq
 have OA:zS d l S0 S5:=O1.trans (O2.trans ((zS.new hj).trans (O3.trans (O4.trans O5))))
 have DM:=OA _ _ Ew dT.1 dT.2
 have Ex:pT≠q:=fun e=>by rw[e,hq]at DM;cases DM
 have Ey:S q=none:=by
  cases e:S q with
  |none=>rfl
  |some o=>rw[OA _ _ (O0 _ _ e dq.1 dq.2) dq.1 dq.2]at hq;cases hq
 refine hN _ _ (aj fun N hN=>?_)
 simp only[cU,eJ,v3,lk]
 refine⟨by omega,by omega,?_⟩
 refine cb (fun done σ S'=>∃(ns:Vs) (v4 v10:Option PV) (near:Bool),σ=[some (.ref d),some (.int m),some (.str abc),some (.ref pT),v4,some (.str ⟨cs.toArray⟩),some (.int an),some (.int tn),some (.bl near),some (.ref q),v10]/\ns.length=done.length/\ns.Nodup/\(∀z∈ns,IsW z/\z ∉ zm)/\S' q=some (.lst (ns.map PV.str))/\S' pT=some (.lst (zm.map PV.str))/\yK S' d l/\zS d l S S')
  ⟨[],_,_,_,rfl,rfl,List.nodup_nil,(fun z hz=>nomatch hz),ac,by rw[aq Ex];exact DM,D5.new hq,O0.trans (OA.trans (.new hq))⟩ (fun _ _ _ _=>trivial) ?_ ?_
 ·rintro done x rest σ S6 K e ⟨ns,v4,v10,near,rfl,DN,DO,w6,C9,DP,D6,O6⟩ hK
  have hlen:done.length < m.toNat:=by
   have:=F5 List.length e
   rw[cV,Fv,FG]at this
   omega
  have hx:x = .int (0+(done.length:Nat)):=by
   have h2:=F5 (fun l=>l[done.length]?) e
   simp only[F9 (Ft _),Nat.sub_self,List.getElem?_cons_zero]at h2
   unfold bh at h2
   rw[FY,HU hlen]at h2
   simpa using h2.symm
  subst hx
  -- the tail: a word is changed E9 it is new,then laid down
  have ql:∀(z:Str) (v4:Option PV) (S7:ax),IsW z->S7 q=some (.lst (ns.map PV.str))->S7 pT=some (.lst (zm.map PV.str))->yK S7 d l->zS d l S S7->
    ae (iO (jH (a6 (ah (ik false) (v3 10) (v3 3))) (a6 (ah (ik false) (v3 10) (v3 9)))) (aG 10 (ah aL (ah ao (v3 2) (ah eL (ah aL (k_ "str" gy (v3 2) [(ah ao (v3 10) (c3 (.int 0)))]) (c3 (.int 1))) (c3 (.int 26)))) (bf (v3 10) (jK (c3 (.int 1))) lE))))
     (eW (k_ "list" b_ (v3 9) [(v3 10)])) { nx:=K,rt:=Q,ex:=gj,bk:=N,ct:=K } [some (.ref d),some (.int m),some (.str abc),some (.ref pT),v4,some (.str ⟨cs.toArray⟩),some (.int an),some (.int tn),some (.bl near),some (.ref q),some (.str z)] S7:=by
   intro z v4 S7 hz Ez EA D7 O7
   obtain⟨i,r,rfl,hi,E_,hrs⟩:=hz.cand
   obtain⟨j,hj,free⟩:=me r i ns (by omega)
   refine⟨fun mm σ S'=>∃t,σ=[some (.ref d),some (.int m),some (.str abc),some (.ref pT),v4,some (.str ⟨cs.toArray⟩),some (.int an),some (.int tn),some (.bl near),some (.ref q),some (.str (cand r (i+t)))]/\S'=S7/\t<=j/\mm=j - t,⟨j,0,rfl,rfl,Gq _,rfl⟩,?_⟩
   rintro mm σ S' ⟨t,rfl,rfl,ht,rfl⟩
   have hw:=oN E_ hrs (i+t)
   have DQ:∀y∈ns,PyData.strOk y=true:=fun y hy=>fj (w6 y hy).1
   have go:t < j->∃N:b5->ax->Prop,(∀σ' Ca,N σ' Ca->∃m',m' < j - t/\∃t',σ'=[some (.ref d),some (.int m),some (.str abc),some (.ref pT),v4,some (.str ⟨cs.toArray⟩),some (.int an),some (.int tn),some (.bl near),some (.ref q),some (.str (cand r (i+t')))]/\Ca=S'/\t'<=j/\m'=j - t')/\
     N ([some (.ref d),some (.int m),some (.str abc),some (.ref pT),v4,some (.str ⟨cs.toArray⟩),some (.int an),some (.int tn),some (.bl near),some (.ref q),some (.str (cand r (i+(t+1))))]) S':=fun lt=>
    ⟨fun σ' Ca=>σ'=[some (.ref d),some (.int m),some (.str abc),some (.ref pT),v4,some (.str ⟨cs.toArray⟩),some (.int an),some (.int tn),some (.bl near),some (.ref q),some (.str (cand r (i+(t+1))))]/\Ca=S',fun σ' Ca ⟨e1,e2⟩=>⟨j - (t+1),by omega,t+1,e1,e2,by omega,rfl⟩,rfl,rfl⟩
   have C_:((((i+t) % 26:Nat):Int)+1).fmod 26=(((i+t+1) % 26:Nat):Int):=by rw[fO (by decide)];omega
   walk_at "x"
   refine mU EA (fj hw) rJ ?_
   simp only[FH,FF]
   split
   ·rename_i g
    have lt:t < j:=Nat.lt_of_le_of_ne ht fun e=>by subst e;exact free (Gp _ g)
    obtain⟨N,hN,hn⟩:=go lt
    rw[if_pos trivial]
    refine⟨N,hN,trivial,hw.line,?_⟩
    rw[jF]
    simp only[gy,oK _ (Nat.mod_lt _ (by decide))]
    refine⟨by decide,ig.1,?_⟩
    rw[C_,kc (i+t+1)]
    refine⟨hw.line,?_,?_⟩
    ·rw[eA]
     exact aI (show 1+r.toArray.size<=1000 by rw[Fy];omega)
    ·rw[eA,jG]
     exact hn
   ·rename_i g
    refine mU Ez (fj hw) DQ ?_
    simp only[FH,FF]
    split
    ·rename_i g2
     have lt:t < j:=Nat.lt_of_le_of_ne ht fun e=>by subst e;exact free (FZ _ g2)
     obtain⟨N,hN,hn⟩:=go lt
     refine⟨N,hN,trivial,hw.line,?_⟩
     rw[jF]
     simp only[gy,oK _ (Nat.mod_lt _ (by decide))]
     refine⟨by decide,ig.1,?_⟩
     rw[C_,kc (i+t+1)]
     refine⟨hw.line,?_,?_⟩
     ·rw[eA]
      exact aI (show 1+r.toArray.size<=1000 by rw[Fy];omega)
     ·rw[eA,jG]
      exact hn
    ·rename_i g2
     simp only[Ez]
     refine⟨trivial,by rw[Fx];exact cR (by omega),hK _ _ ⟨ns++[cand r (i+t)],_,_,_,rfl,by simp[DN],List.nodup_append.mpr ⟨DO,by simp,fun a ha b hb e=>?_⟩,fun z hz=>?_,by rw[GC];exact ac,by rw[aq Ex];exact EA,D7.upd dq.1 dq.2,fun a o ha h1 h2=>?_⟩⟩
     ·rw[F2.mp hb]at e
      exact g2 (e▸ha)
     ·rcases F4.mp hz with hz|hz
      ·exact w6 z hz
      ·rw[F2.mp hz]
       exact⟨hw,g⟩
     ·rw[aq (fun e=>by rw[e,Ey]at ha;cases ha)]
      exact O7 a o ha h1 h2
  obtain⟨pw,Fa,pl2⟩:=qX hcl hc (a:=an) (i:=(tn+done.length) % 26) (by omega) (Nat.mod_lt _ (by decide))
  have C_:((tn:Int)+(0+(done.length:Int))).fmod 26=(((tn+done.length) % 26:Nat):Int):=by rw[fO (by decide)];omega
  have EB:(⟨cs.toArray⟩:Str).length<=sizeLine:=by rw[lc];exact aI (by omega)
  simp only[Tg.put]
  refine aj fun N2 An=>?_
  walk_at "x"
  refine⟨EB,by decide,ig.1,?_⟩
  rw[C_,kc (tn+done.length)]
  refine⟨FI (Nat.add_le_add Fa (Ft 1)) (by decide),EB,FI (Nat.le_of_eq (Array.size_append).symm) (FI pw.len (by decide)),?_⟩
  refine An _ _ (aj fun N3 EC=>?_)
  walk_at "x"
  split
  ·refine⟨trivial,yE D6 (by decide) (by decide) fun n2 Sa m0 m1 Da Oa=>⟨by omega,by omega,?_⟩⟩
   refine iZ yE Da (by omega) rfl rfl ⟨_,rfl⟩ fun Ct Sb hl2 hc2 Db Ob Fb hj2=>?_
   simp only[jL,ac,gH]
   refine⟨jR (by omega),?_⟩
   rw[show Txt.join (Str.ofString "") (Ct.map j_)=⟨Ct.toArray⟩from iD Ct]
   refine EC _ _ ?_
   have wz:IsW (⟨Ct.toArray⟩:Str):=⟨fun e=>by have e':Ct=[]:=e;rw[e']at hl2;simp at hl2;omega,by show Ct.length<=6;omega,hc2⟩
   have OB:zS d l S6 (aD Sb Fb (.lst ((Ct.map j_).map PV.str))):=Oa.trans (Ob.trans (.new hj2))
   exact ql _ _ _ wz (OB _ _ C9 dq.1 dq.2) (OB _ _ DP dT.1 dT.2) (Db.new hj2) (O6.trans OB)
  ·exact EC _ _ (ql _ _ S6 pw C9 DP D6 O6)
 ·rintro σ S6 ⟨ns,v4,v10,near,rfl,DN,DO,w6,C9,DP,D6,O6⟩
  refine hN _ _ ?_
  walk_at "x"
  exact k q ns S6 (by rw[DN,cV]) DO w6 Ey dq.1 dq.2 C9 D6 O6
inductive Bd where
 |rest|pay (x y:Int)|put (z:Str) (m:Int)|use (z:Str)|yR (a:Bd)|yF (a b:Bd)|y7 (a b:Bd)|y8 (z:Str) (m:Int) (a b:Bd)
noncomputable def Bd.pv:Bd->PV
 | .rest=>.tup [.str "rest"]
 | .pay x y=>.tup [.str "pay",.tup [.int x,.int y]]
 | .put z m=>.tup [.str "put",.str z,.int m]
 | .use z=>.tup [.str "use",.str z]
 | .yR a=>.tup [.str "often",a.pv]
 | .yF a b=>.tup [.str "then",a.pv,b.pv]
 | .y7 a b=>.tup [.str "either",a.pv,b.pv]
 | .y8 z m a b=>.tup [.str "take",.str z,.int m,a.pv,b.pv]
noncomputable def Bd.dep:Bd->Nat
 | .yR a=>a.dep+1
 | .yF a b=>max a.dep b.dep+1
 | .y7 a b=>max a.dep b.dep+1
 | .y8 _ _ a b=>max a.dep b.dep+1
 |_=>1
noncomputable def Bd.size:Bd->Nat
 | .yR a=>a.size+1
 | .yF a b=>a.size+b.size+1
 | .y7 a b=>a.size+b.size+1
 | .y8 _ _ a b=>a.size+b.size+1
 |_=>1
noncomputable def Bd.good(js us:Vs):Bd->Prop
 | .rest=>True
 | .pay x y=>wt x y
 | .put z m=>z∈js/\1<=m/\m<=9
 | .use z=>z∈us
 | .yR a=>a.good js us
 | .yF a b=>a.good js us/\b.good js us
 | .y7 a b=>a.good js us/\b.good js us
 | .y8 z m a b=>z∈js/\1<=m/\m<=9/\a.good js us/\b.good js us
def Bd.yM(t:Bd):1<=t.dep:=by cases t<;>simp[Bd.dep]
def fP{α:Type}{xs:List α}{r:Int}(h0:0<=r)(h1:r < xs.length):∃v,zk xs r=some v/\v∈xs:=by
 obtain⟨n,rfl⟩:=GS h0
 have hn:n < xs.length:=by omega
 exact⟨xs[n],dh (by simp[hn]),Ig hn⟩
noncomputable def Bd.leaf:Bd->Prop
 | .rest=>True
 | .pay _ _=>True
 | .put _ _=>True
 |_=>False
def Bd.A2{t:Bd}(h:t.leaf):t.dep=1/\t.size=1:=by cases t<;>first|exact⟨rfl,rfl⟩|exact h.elim
abbrev i3(w:aA):Prop:=∀{S:ax} {d l:Addr} {js:Vs} {Q:bS} {E:b9},yK S d l->js.length < 2 ^ 61->(∀(t:Bd) S',t.leaf->t.good js []->yK S' d l->zS d l S S'->Q t.pv S')->w [.ref d,.tup (js.map PV.str)] S Q E
def AL{wd wc:aA}(yE:bt wd)(AK:iY wc):i3 (a8 4 (dY wd wc)):=by
 intro S d l js Q E D hj k
 unfold dY
 refine fi ?_
 rw[show aw 4 [PV.ref d,PV.tup (js.map PV.str)]=[some (.ref d),some (.tup (js.map PV.str)),none,none] from rfl]
 refine aj fun N hN=>?_
 walk_at "x"
 refine yE D (by decide) (by decide) fun r S1 r0 r1 D1 O1=>?_
 refine hN _ _ (aj fun N hN=>?_)
 walk_at "x"
 simp only[FH,FF]
 split
 ·exact k .rest S1 trivial trivial D1 O1
 refine hN _ _ (aj fun N hN=>?_)
 walk_at "x"
 simp only[FH,FF,Fx]
 have pay:wc [.ref d] S1 (fun x S=>Q (.tup [.str "pay",x]) S) gj:=AK D1 fun x y S2 c D2 O2=>k (.pay x y) S2 trivial c D2 (O1.trans O2)
 split
 ·rw[if_pos trivial];exact pay
 split
 ·exact pay
 rename_i hr hz
 refine hN _ _ (aj fun N hN=>?_)
 walk_at "x"
 refine yE D1 (by decide) (by decide) fun r2 S2 a0 a1 D2 O2 p hp=>yE (D2.new hp) (by decide) (by decide) fun r3 S3 b0 b1 D3 O3=>?_
 have dp:=D2.free hp
 have hp3:=O3 _ _ (ac (S:=S2) (o:=.lst [.int 1,.int 2,.int (1+r2)])) dp.1 dp.2
 simp only[hp3]
 obtain⟨v,hv,hm⟩:=fP (xs:=[PV.int 1,.int 2,.int (1+r2)]) b0 (by simpa using b1)
 rw[hv]
 obtain⟨m,rfl,m0,m1⟩:∃m,v = .int m/\1<=m/\m<=9:=by
  simp only[FE,FN,Gi]at hm
  rcases hm with rfl|rfl|rfl
  ·exact⟨1,rfl,by omega,by omega⟩
  ·exact⟨2,rfl,by omega,by omega⟩
  ·exact⟨1+r2,rfl,by omega,by omega⟩
 refine hN _ _ ?_
 walk_at "x"
 simp only[Fx]
 refine yE D3 (by omega) (by omega) fun r4 S4 c0 c1 D4 O4=>?_
 obtain⟨w,hw,DR⟩:=fP (xs:=js.map PV.str) c0 (by rw[Fx];exact c1)
 dsimp only
 rw[hw]
 obtain⟨z,hz,rfl⟩:=Gn.mp DR
 exact k (.put z m) S4 trivial ⟨hz,m0,m1⟩ D4 (O1.trans (O2.trans ((zS.new hp).trans (O3.trans O4))))
def Aa(d l x:Addr)(S S':ax):Prop:=∀a o,S a=some o->a≠d->a≠l->a≠x->S' a=some o
theorem _root_.L3.zS.x{d l x:Addr}{S S':ax}(h:zS d l S S'):Aa d l x S S':=fun a o e h1 h2 _=>h a o e h1 h2
def Aa.trans{d l x:Addr}{S S1 S2:ax}(a:Aa d l x S S1)(b:Aa d l x S1 S2):Aa d l x S S2:=fun y o h h1 h2 h3=>b y o (a y o h h1 h2 h3) h1 h2 h3
def Aa.upd{d l x:Addr}{S:ax}{o:SO}:Aa d l x S (aD S x o):=fun y u h h1 h2 h3=>by rw[aq h3];exact h
abbrev fQ(n:Nat)(w:aA):Prop:=∀{S:ax} {d l x:Addr} {js:Vs} {left down:Int} {Q:bS} {E:b9},yK S d l->S x=some (.lst [.int left])->x≠d->x≠l->js.length < 2 ^ 61->0<=left->left < 2 ^ 61->0<=down->down < n->
  (∀(t:Bd) S' left',t.good js []->(t.dep:Int)<=down+1->0<=left'->(t.size:Int)+left'<=left+1->yK S' d l->S' x=some (.lst [.int left'])->Aa d l x S S'->Q t.pv S')->w [.ref d,.tup (js.map PV.str),.ref x,.int down] S Q E
def AM{wd wl rb:aA}(yE:bt wd)(AL:i3 wl)(n:Nat)(ih:fQ n rb):fQ (n+1) (a8 8 (dZ wd wl rb)):=by
 intro S d l x js left down Q E D hx hxd AN hj h0 h1 h2 h3 k
 unfold dZ
 refine fi ?_
 rw[show aw 8 [PV.ref d,PV.tup (js.map PV.str),PV.ref x,PV.int down]=[some (.ref d),some (.tup (js.map PV.str)),some (.ref x),some (.int down),none,none,none,none] from rfl]
 refine aj fun N hN=>?_
 walk_at "x"
 refine yE D (by decide) (by decide) fun r S1 r0 r1 D1 O1=>?_
 have Dc:=O1 _ _ hx hxd AN
 refine hN _ _ (aj fun N hN=>?_)
 walk_at "x"
 have a0:zk [PV.int left] 0=some (.int left):=rfl
 simp only[FH,FF,Dc,a0]
 have lf:wl [.ref d,.tup (js.map PV.str)] S1 Q gj:=AL D1 hj fun t S2 hl hg D2 O2=>k t S2 left hg (by rw[(Bd.A2 hl).1];omega) h0 (by rw[(Bd.A2 hl).2];omega) D2 (O2 _ _ Dc hxd AN) (O1.x.trans O2.x)
 split
 ·rw[if_pos trivial];exact lf
 split
 ·rw[if_pos trivial];exact lf
 split
 ·exact lf
 rename_i hd hl hf
 refine hN _ _ (aj fun N hN=>?_)
 simp only[bR,a6,ah,v3,c3,lk,nK,e_,FF]
 have ED:lP [PV.int left].length 0=some 0:=rfl
 split
 ·refine aj fun N2 An=>?_
  walk_at "x"
  simp only[Dc,a0,ED]
  refine An _ _ ?_
  walk_at "x"
  refine ih (left:=left - 1) (D1.upd hxd AN) ac hxd AN hj (by omega) (by omega) (by omega) (by omega) fun t S2 l2 hg hdp q0 q1 D2 DS O2=>?_
  exact k (.yR t) S2 l2 hg (by simp only[Bd.dep];omega) q0 (by simp only[Bd.size];omega) D2 DS (O1.x.trans (Aa.upd.trans O2))
 ·refine hN _ _ (aj fun N hN=>?_)
  walk_at "x"
  simp only[Dc,a0,ED]
  refine hN _ _ (aj fun N hN=>?_)
  walk_at "x"
  refine ih (left:=left - 2) (D1.upd hxd AN) ac hxd AN hj (by omega) (by omega) (by omega) (by omega) fun ta S2 l2 ga da q0 q1 D2 DS O2=>?_
  refine hN _ _ (aj fun N hN=>?_)
  walk_at "x"
  refine ih (left:=l2) D2 DS hxd AN hj q0 (by omega) (by omega) (by omega) fun tb S3 l3 gb db p0 p1 D3 DT O3=>?_
  have OA:Aa d l x S S3:=O1.x.trans (Aa.upd.trans (O2.trans O3))
  refine hN _ _ (aj fun N hN=>?_)
  walk_at "x"
  simp only[FF]
  split
  ·exact k (.yF ta tb) S3 l3 ⟨ga,gb⟩ (by simp only[Bd.dep];omega) p0 (by simp only[Bd.size];omega) D3 DT OA
  refine hN _ _ (aj fun N hN=>?_)
  walk_at "x"
  simp only[FH,FF,Fx]
  have ei:Q (Bd.y7 ta tb).pv S3:=k (.y7 ta tb) S3 l3 ⟨ga,gb⟩ (by simp only[Bd.dep];omega) p0 (by simp only[Bd.size];omega) D3 DT OA
  split
  ·rw[if_pos trivial];exact ei
  split
  ·exact ei
  rename_i hz8 hz
  refine hN _ _ (aj fun N hN=>?_)
  walk_at "x"
  refine yE D3 (by decide) (by decide) fun r2 S4 e0 e1 D4 O4 p hp=>yE (D4.new hp) (by decide) (by decide) fun r3 S5 b0 b1 D5 O5=>?_
  have dp:=D4.free hp
  have hp3:=O5 _ _ (ac (S:=S4) (o:=.lst [.int 1,.int 1,.int 2,.int (1+r2)])) dp.1 dp.2
  simp only[hp3]
  obtain⟨v,hv,hm⟩:=fP (xs:=[PV.int 1,.int 1,.int 2,.int (1+r2)]) b0 (by simpa using b1)
  rw[hv]
  obtain⟨m,rfl,m0,m1⟩:∃m,v = .int m/\1<=m/\m<=9:=by
   simp only[FE,FN,Gi]at hm
   rcases hm with rfl|rfl|rfl|rfl
   ·exact⟨1,rfl,by omega,by omega⟩
   ·exact⟨1,rfl,by omega,by omega⟩
   ·exact⟨2,rfl,by omega,by omega⟩
   ·exact⟨1+r2,rfl,by omega,by omega⟩
  refine hN _ _ ?_
  walk_at "x"
  simp only[Fx]
  refine yE D5 (by omega) (by omega) fun r4 S6 c0 c1 D6 O6=>?_
  obtain⟨w,hw,DR⟩:=fP (xs:=js.map PV.str) c0 (by rw[Fx];exact c1)
  dsimp only
  rw[hw]
  obtain⟨z,hz,rfl⟩:=Gn.mp DR
  have DU:=O4 _ _ DT hxd AN
  have Fc:x≠p:=fun e=>by rw[e,hp]at DU;cases DU
  have Fd:=O6 _ _ (O5 _ _ (show aD S4 p _ x=some (.lst [.int l3]) by rw[aq Fc];exact DU) hxd AN) hxd AN
  exact k (.y8 z m ta tb) S6 l3 ⟨hz,m0,m1,ga,gb⟩ (by simp only[Bd.dep];omega) p0 (by simp only[Bd.size];omega) D6 Fd (OA.trans (O4.x.trans ((zS.new hp).x.trans (O5.x.trans O6.x))))
end C
local macro_rules | `(tactic| walk_at "w")=>`(tactic| simp only [L3.ae,L3.aG,L3.av,L3.eW,L3.bR,L3.aS,L3.ah,L3.v3,L3.c3,L3.lk,L3.bL,L3.ar,L3.af,L3.k_,L3.a6,L3.nz,L3.jH,L3.gv,L3.dG,L3.k7,L3.nA,L3.jm,L3.nF,L3.iN,L3.aJ,L3.dj,L3.kP,L3.dJ,L3.ao,L3.ki,L3.bf,L3.lE,L3.jK,L3.l5,L3.e_,L3.eU,L3.bN,L3.eL,L3.iQ,L3.pd,L3.nK,L3.rE,L3.ut,L3.bJ,L3.t9,L3.aL,L3.fL,L3.bA,L3.iH,L3.fM,L3.dk,L3.nB,List.set_cons_zero,List.set_cons_succ,List.set_nil,L3.vb,L3.gB,L3.nE,L3.b8,L3.cm,L3.gX,L3.cU,L3.ko,L3.Tg.put,L3.Tg.zL,L3.li,L3.gC,L3.lj,L3.eJ,L3.ld,L3.b_,L3.eB,List.reduceReplicate,FO,Hv,List.cons_append,List.nil_append,L3.md,L3.uC,L3.xQ,L3.yw,L3.uD,L3.uE,L3.uF,L3.uG,L3.uH,L3.uI,L3.uJ,L3.uK,L3.uL,L3.al,String.reduceEq,G3,HA,FH,Bool.true_bne,GH,GU,F8,F0,Fz,reduceIte,ite_true,ite_false])
local macro_rules | `(tactic| walk_at "y")=>`(tactic| ((try walk_at "x"); (try walk_at "w")))
namespace C
open PySem L2 L3 Wd
def yK.ext{S S':ax}{d l:Addr}(D:yK S d l)(e:Ext S S'):yK S' d l:=by
 obtain⟨s,n,f,D⟩:=D
 exact⟨s,n,f,e _ _ D.d,e _ _ D.l,D.s0,D.s1,D.nm,D.lf,D.ln⟩
def _root_.L3.Ext.put{p:Addr}{S S':ax}{o:SO}(O:Ext S S')(h:S p=none):Ext S (aD S' p o):=fun x u hx=>by rw[aq (fun e=>by rw[e,h]at hx;cases hx)];exact O x u hx
def uM{α:Type}{xs:List α}{n:Nat}(h:n<=xs.length):b6 xs none (some (n:Int))=xs.take n:=by
 unfold b6
 rw[HT.iw,HT.ic,List.drop_zero,HQ h]
 rfl
def uN{α:Type}{xs:List α}{n:Nat}(h:n<=xs.length):b6 xs (some (n:Int)) none=xs.drop n:=by
 unfold b6
 rw[HT.iw,HT.ic,HQ h,List.take_of_length_le]
 rw[Gj]
 exact Ft _
def kz{x:PV}{n:Nat}{a b:List PV}(e:bh 0 n=a++x::b):x = .int a.length/\a.length < n:=by
 have h1:(bh 0 n)[a.length]?=some x:=by rw[e];simp
 unfold bh at h1
 rw[FY]at h1
 have hl:a.length < n:=by
  have:=F5 List.length e
  rw[cV,Fv,FG]at this
  omega
 rw[HU hl]at h1
 simp at h1
 exact⟨h1.symm,hl⟩
def i5{α:Type}{xs:List α}{n:Nat}{v:α}(h:xs[n]?=some v):zk xs (n:Int)=some v:=dh h
noncomputable def Bd.sides:Bd->List Bd
 | .yR a=>[a]
 | .yF a b=>[a,b]
 | .y7 a b=>[a,b]
 | .y8 _ _ a b=>[a,b]
 |_=>[]
noncomputable def Bd.parts:Bd->List Bd
 | .yR a=>.yR a::a.parts
 | .yF a b=>.yF a b::(a.parts++b.parts)
 | .y7 a b=>.y7 a b::(a.parts++b.parts)
 | .y8 z m a b=>.y8 z m a b::(a.parts++b.parts)
 |t=>[t]
def Bd.A3(t:Bd):t.parts=t::t.sides.flatMap Bd.parts:=by cases t<;>simp[Bd.parts,Bd.sides]
theorem Bd.yG:∀t:Bd,t.parts.length=t.size
 | .rest=>rfl
 | .pay _ _=>rfl
 | .put _ _=>rfl
 | .use _=>rfl
 | .yR a=>by simp only[Bd.parts,Bd.size,List.length_cons,a.yG]
 | .yF a b=>by simp only[Bd.parts,Bd.size,List.length_cons,Fv,a.yG,b.yG]
 | .y7 a b=>by simp only[Bd.parts,Bd.size,List.length_cons,Fv,a.yG,b.yG]
 | .y8 _ _ a b=>by simp only[Bd.parts,Bd.size,List.length_cons,Fv,a.yG,b.yG]
def Bd.BI{t u:Bd}(h:u∈t.sides):u.dep < t.dep/\u.size < t.size:=by
 cases t<;>simp[Bd.sides]at h
 ·subst h;simp[Bd.dep,Bd.size]
 all_goals (rcases h with rfl|rfl<;>simp only[Bd.dep,Bd.size]<;>omega)
abbrev gJ(w:aA):Prop:=∀{S:ax} {t:Bd} {Q:bS} {E:b9},Q (.tup (t.sides.map Bd.pv)) S->w [t.pv] S Q E
def Ay:gJ (a8 1 fe):=by
 intro S t Q E k
 unfold fe
 refine fi ?_
 rw[show aw 1 [t.pv]=[some t.pv] from rfl]
 cases t<;>(unfold Bd.pv;walk_at "y"; simp only[mS,ah,v3,lk,c3,ao,md,ki,ar,bL,bA,k_SIDES_FROM,List.find?,sS,String.reduceEq,G3,HA,Option.map,Option.getD];exact k)
abbrev bD(n:Nat)(w:aA):Prop:=∀{S:ax} {t:Bd} {Q:bS} {E:b9},t.dep<=n->t.size<=900->(∀p S',S p=none->Ext S S'->S' p=some (.lst (t.parts.map Bd.pv))->Q (.ref p) S')->w [t.pv] S Q E
def zp{xs s0:aA}(Ay:gJ xs)(n:Nat)(ih:bD n s0):bD (n+1) (a8 3 (ff xs s0)):=by
 intro S t Q E hd hs k
 unfold ff
 refine fi ?_
 rw[show aw 3 [t.pv]=[some t.pv,none,none] from rfl]
 refine aj fun N hN=>?_
 walk_at "x"
 intro p hp
 have X0:Ext S (aD S p (.lst [t.pv])):=.new hp
 have hp0:(aD S p (.lst [t.pv])) p=some (.lst [t.pv]):=ac
 generalize aD S p (.lst [t.pv])=S0 at X0 hp0
 refine hN _ _ (aj fun N hN=>?_)
 simp only[cU,cm,af,bL,v3,lk]
 refine Ay ?_
 simp only[gX]
 refine cb (fun done σ S'=>∃(ts:List Bd) (x:Option PV) (rs:List Bd),done=ts.map Bd.pv/\t.sides=ts++rs/\σ=[some t.pv,some (.ref p),x]/\Ext S S'/\S' p=some (.lst ((t::ts.flatMap Bd.parts).map Bd.pv))) ⟨[],_,t.sides,rfl,rfl,rfl,X0,hp0⟩ (fun _ _ _ _=>trivial) ?_ ?_
 ·rintro done x rest σ S1 K e ⟨ts,y,rs,rfl,es,rfl,X1,h1⟩ hK
  rw[es,GC]at e
  have e2:=Hj e
  rcases rs with _|⟨r,rs⟩
  ·cases e2
  rw[FO,G7]at e2
  obtain⟨rfl,e3⟩:=e2
  have hr:r∈t.sides:=by rw[es];simp
  have hrd:=Bd.BI hr
  walk_at "x"
  refine⟨by rw[h1];trivial,ih (t:=r) (by omega) (by omega) fun q S2 hq X2 h2=>?_⟩
  simp only[X2 _ _ h1,h2]
  have hlen:(t::ts.flatMap Bd.parts).length+r.parts.length<=t.size:=by
   rw[<-Bd.yG t,Bd.A3 t,es,HV,GO]
   simp only[List.length_cons,Fv]
   omega
  refine⟨aI (by simp only[Fx]at *;omega),?_⟩
  refine hK _ _ ⟨ts++[r],_,rs,by simp,by rw[es];simp,rfl,(X1.trans X2).put hp,?_⟩
  rw[ac,HV]
  simp
 ·rintro σ S1 ⟨ts,y,rs,e,es,rfl,X1,h1⟩
  refine hN _ _ ?_
  walk_at "x"
  have ez:rs=[]:=by
   have:=F5 List.length e
   rw[es]at this
   simp at this
   exact this
  subst ez
  rw[Gb]at es
  rw[<-es,<-Bd.A3]at h1
  exact k p S1 hp X1 h1
noncomputable def heads:List Str:=["rest","pay","put","use","often","then","either","take"]
def aP:∀z∈heads,PyData.strOk z=true:=by decide +kernel
def pr{xs:List PV}{x:PV}{a b:List PV}(e:L3.a9 xs=a++x::b):∃y,x = .tup [.int a.length,y]/\xs[a.length]?=some y:=by
 have h1:(L3.a9 xs)[a.length]?=some x:=by rw[e];simp
 unfold L3.a9 at h1
 rw[HJ]at h1
 cases h:xs[a.length]? with
 |none=>rw[h]at h1;cases h1
 |some y=>
  rw[h]at h1
  simp only[Option.map_some,Ic]at h1
  exact⟨y,h1.symm,rfl⟩
inductive z8 (S:ax) (d l:Addr) (us:Vs):PV->Prop
 |ref {a:Addr}:S a=some (.lst (us.map PV.str))->a≠d->a≠l->z8 S d l us (.ref a)
 |tup:z8 S d l us (.tup (us.map PV.str))
def z8.CF{S S':ax}{d l:Addr}{us:Vs}{v:PV}(h:z8 S d l us v)(O:zS d l S S'):z8 S' d l us v:=by
 cases h with
 |ref h h1 h2=>exact .ref (O _ _ h h1 h2) h1 h2
 |tup=>exact .tup
def il{α:Type}{a b c:α}:b6 [a,b,c] none (some (-2))=[a]:=rfl
def kA{α:Type}{a b c d e:α}:b6 [a,b,c,d,e] none (some (-2))=[a,b,c]:=rfl
abbrev fR(n:Nat)(w:aA):Prop:=∀{S:ax} {d l:Addr} {js us:Vs} {t:Bd} {v:PV} {Q:bS} {E:b9},yK S d l->z8 S d l us v->0 < us.length->us.length < 2 ^ 61->t.dep<=n->t.good js []->
  (∀(u:Bd) S',u.good js us->u.dep=t.dep->u.size=t.size->yK S' d l->zS d l S S'->Q u.pv S')->w [.ref d,t.pv,v] S Q E
def bE:∀z∈(["then","either","take"]:Vs),PyData.strOk z=true:=by decide +kernel
def AO{xd s0:aA}(yE:bt xd)(n:Nat)(ih:fR n s0):fR (n+1) (a8 4 (d0 xd s0)):=by
 intro S d l js us t v Q E D hn Cu hu1 hd hg k
 unfold d0
 refine fi ?_
 rw[show aw 4 [PV.ref d,t.pv,v]=[some (.ref d),some t.pv,some v,none] from rfl]
 have e3:([PV.str "then",PV.str "either",PV.str "take"]:List PV)=(["then","either","take"]:Vs).map PV.str:=rfl
 have BJ:∀m,m<=5->m<=sizeLine:=fun m h=>aI (by omega)
 cases t with
 |rest=>
  unfold Bd.pv
  walk_at "y"
  rw[e3]
  refine aR (aP _ (by simp[heads])) bE ?_
  simp[al]
  exact k .rest S trivial rfl rfl D .refl
 |put z m=>
  unfold Bd.pv
  walk_at "y"
  rw[e3]
  refine aR (aP _ (by simp[heads])) bE ?_
  simp[al]
  exact k (.put z m) S hg rfl rfl D .refl
 |use z=>cases hg
 |pay x y=>
  refine aj fun N hN=>?_
  unfold Bd.pv
  walk_at "y"
  refine yE D (by decide) (by decide) fun r S1 r0 r1 D1 O1=>?_
  simp only[FF]
  split
  ·have fin:∀(q:Int) (S2:ax),0<=q->q < us.length->yK S2 d l->zS d l S1 S2->∃z,zk (us.map PV.str) q=some (.str z)/\Q (.tup [.str "use",.str z]) S2:=by
    intro q S2 q0 q1 D2 O2
    obtain⟨w,hw,hm⟩:=fP (xs:=us.map PV.str) q0 (by rw[Fx];exact q1)
    obtain⟨z,hz,rfl⟩:=Gn.mp hm
    exact⟨z,hw,k (.use z) S2 hz rfl rfl D2 (O1.trans O2)⟩
   cases hn with
   |ref h h1 h2=>
    have h':=O1 _ _ h h1 h2
    simp only[h',Fx]
    refine yE (m:=us.length) D1 (by omega) (by omega) fun q S2 q0 q1 D2 O2=>?_
    obtain⟨z,hz,qz⟩:=fin q S2 q0 q1 D2 O2
    simp only[O2 _ _ h' h1 h2,hz]
    exact qz
   |tup=>
    simp only[Fx]
    refine yE (m:=us.length) D1 (by omega) (by omega) fun q S2 q0 q1 D2 O2=>?_
    obtain⟨z,hz,qz⟩:=fin q S2 q0 q1 D2 O2
    simp only[hz]
    exact qz
  ·refine hN _ _ ?_
   walk_at "y"
   rw[e3]
   refine aR (aP _ (by simp[heads])) bE ?_
   simp[al]
   exact k (.pay x y) S1 hg rfl rfl D1 O1
 |yR a=>
  simp only[Bd.dep]at hd
  unfold Bd.pv
  walk_at "y"
  rw[e3]
  refine aR (aP _ (by simp[heads])) bE ?_
  simp[al]
  refine ih (t:=a) D hn Cu hu1 (by omega) hg fun u S1 g e1 e2 D1 O1=>?_
  exact k (.yR u) S1 g (by simp only[Bd.dep,e1]) (by simp only[Bd.size,e2]) D1 O1
 |yF a b=>
  simp only[Bd.dep]at hd
  refine aj fun N hN=>?_
  unfold Bd.pv
  walk_at "y"
  refine hN _ _ (aj fun N hN=>?_)
  walk_at "y"
  rw[e3]
  refine aR (aP _ (by simp[heads])) bE ?_
  simp[al]
  refine ih (t:=a) D hn Cu hu1 (by omega) hg.1 fun u S1 g e1 e2 D1 O1=>?_
  refine ih (t:=b) D1 (hn.CF O1) Cu hu1 (by omega) hg.2 fun u2 S2 g2 CS CT D2 O2=>?_
  rw[il]
  refine⟨BJ _ (by decide),k (.yF u u2) S2 ⟨g,g2⟩ (by simp only[Bd.dep,e1,CS]) (by simp only[Bd.size,e2,CT]) D2 (O1.trans O2)⟩
 |y7 a b=>
  simp only[Bd.dep]at hd
  refine aj fun N hN=>?_
  unfold Bd.pv
  walk_at "y"
  refine hN _ _ (aj fun N hN=>?_)
  walk_at "y"
  rw[e3]
  refine aR (aP _ (by simp[heads])) bE ?_
  simp[al]
  refine ih (t:=a) D hn Cu hu1 (by omega) hg.1 fun u S1 g e1 e2 D1 O1=>?_
  refine ih (t:=b) D1 (hn.CF O1) Cu hu1 (by omega) hg.2 fun u2 S2 g2 CS CT D2 O2=>?_
  rw[il]
  refine⟨BJ _ (by decide),k (.y7 u u2) S2 ⟨g,g2⟩ (by simp only[Bd.dep,e1,CS]) (by simp only[Bd.size,e2,CT]) D2 (O1.trans O2)⟩
 |y8 z m a b=>
  simp only[Bd.dep]at hd
  refine aj fun N hN=>?_
  unfold Bd.pv
  walk_at "y"
  refine hN _ _ (aj fun N hN=>?_)
  walk_at "y"
  rw[e3]
  refine aR (aP _ (by simp[heads])) bE ?_
  simp[al]
  refine ih (t:=a) D hn Cu hu1 (by omega) hg.2.2.2.1 fun u S1 g e1 e2 D1 O1=>?_
  refine ih (t:=b) D1 (hn.CF O1) Cu hu1 (by omega) hg.2.2.2.2 fun u2 S2 g2 CS CT D2 O2=>?_
  rw[kA]
  refine⟨BJ _ (by simp),k (.y8 z m u u2) S2 ⟨hg.1,hg.2.1,hg.2.2.1,g,g2⟩ (by simp only[Bd.dep,e1,CS]) (by simp only[Bd.size,e2,CT]) D2 (O1.trans O2)⟩
inductive zj (L:Nat):Nat->PV->Prop
 |int {n:Nat} (i:Int):zj L n (.int i)
 |tup {n:Nat} {xs:List PV}:xs.length<=L->(∀x∈xs,zj L n x)->zj L (n+1) (.tup xs)
def zj.mono{L M n m:Nat}{v:PV}(h:zj L n v)(hL:L<=M):n<=m->zj M m v:=by
 induction h generalizing m with
 |int i=>exact fun _=>.int i
 |@tup n xs hl _ ih=>
  intro hm
  cases m with
  |zero=>omega
  |succ m=>exact .tup (FI hl hL) fun x hx=>ih x hx (by omega)
theorem mV{S:ax}:∀{xs:List PV},(∀x∈xs,∃d,Dat S x d/\d.canLay0=true)->∃ds,zK S xs ds/\PyData.canLayAll0 ds=true/\ds.length=xs.length
 |[],_=>⟨[],.nil,by simp[PyData.canLayAll0],rfl⟩
 |x::r,h=>by
  obtain⟨d,hd,hc⟩:=h x (by simp)
  obtain⟨ds,hds,hcs,hl⟩:=mV fun y hy=>h y (F1 _ hy)
  exact⟨d::ds,.cons hd hds,by simp[PyData.canLayAll0,hc,hcs],by simp[hl]⟩
inductive Bs (L:Nat):Nat->PV->Prop
 |int {n:Nat} (i:Int):Bs L n (.int i)
 |str {n:Nat} {z:Str}:PyData.strOk z=true->Bs L n (.str z)
 |tup {n:Nat} {xs:List PV}:xs.length<=L->(∀x∈xs,Bs L n x)->Bs L (n+1) (.tup xs)
def zj.x{L n:Nat}{v:PV}(h:zj L n v):Bs L n v:=by
 induction h with
 |int i=>exact .int i
 |tup hl _ ih=>exact .tup hl ih
def Bs.dat{L n:Nat}{v:PV}{S:ax}(h:Bs L n v):∃d,Dat S v d/\d.canLay0=true:=by
 induction h with
 |int i=>exact⟨_,.int i,by simp[PyData.canLay0]⟩
 |str h=>exact⟨_,.str _,by simpa [PyData.canLay0]using h⟩
 |tup _ _ ih=>
  obtain⟨ds,hds,hcs,_⟩:=mV ih
  exact⟨_,.tup hds,by simpa [PyData.canLay0]using hcs⟩
def Bs.eq_nil{L n:Nat}{xs:List PV}{S:ax}{Q:bS}(h:Bs L n (.tup xs))(q:Q (.bl (decide (xs=[]))) S):bJ false (.tup xs) (.tup []) S Q:=by
 unfold bJ
 obtain⟨d,hd,hc⟩:=h.dat (S:=S)
 refine⟨d,.tuple [],hd,.tup .nil,hc,by simp[PyData.canLay0,PyData.canLayAll0],FI (Nat.min_le_right _ _) (by simp[PyData.depth,PyData.depthAll]),?_⟩
 cases hd with
 |tup hs=>
  cases hs with
  |nil=>simpa [PyData.eqv,PyData.eqvAll]using q
  |cons _ _=>simpa [PyData.eqv,PyData.eqvAll]using q
def xR{neg:Bool}{i:Int}{S:ax}{Q:bS}(q:Q (.bl (neg != (decide (i=0) || decide (i=1)))) S):ik neg (.int i) (.tup [.int 0,.int 1]) S Q:=by
 unfold ik
 refine⟨_,_,.int i,.cons (.int 0) (.cons (.int 1) .nil),by simp[PyData.canLay0],by simp[PyData.canLay0,PyData.canLayAll0],by simp[PyData.depth],?_⟩
 have e:dH (.int i) [.int 0,.int 1]=(decide (i=0) || decide (i=1)):=by
  simp only[dH,List.any_cons,List.any_nil,PyData.eqv,Bool.or_false]
  rw[GL]
  simp only[Bool.or_eq_true,beq_iff_eq,FF]
  omega
 rw[e]
 exact q
noncomputable def aK:Bd->PV->Bool
 | .yR a,.tup gs=>gs.all fun g=>match g with | .tup [.int m,tr]=>decide (1<=m)&&aK a tr|_=>false
 | .yF a b,.tup [x,y]=>aK a x&&aK b y
 | .y7 a b,.tup [.int i,y]=>if i=0 then aK a y else if i=1 then aK b y else false
 | .y8 _ _ a b,.tup [.int i,y]=>if i=0 then aK a y else if i=1 then aK b y else false
 | .rest,.tup []=>true
 | .pay _ _,.tup []=>true
 | .put _ _,.tup []=>true
 | .use _,.tup []=>true
 |_,_=>false
noncomputable def dw(a:Bd):PV->Bool
 | .tup [.int m,tr]=>decide (1<=m)&&aK a tr
 |_=>false
def cp(a b:Bd)(x y:PV):aK (.yF a b) (.tup [x,y])=(aK a x&&aK b y):=rfl
def fS(a b:Bd)(i:Int)(y:PV):aK (.y7 a b) (.tup [.int i,y])=if i=0 then aK a y else if i=1 then aK b y else false:=rfl
def fT(z:Str)(m:Int)(a b:Bd)(i:Int)(y:PV):aK (.y8 z m a b) (.tup [.int i,y])=if i=0 then aK a y else if i=1 then aK b y else false:=rfl
def cq(a:Bd)(gs:List PV):aK (.yR a) (.tup gs)=gs.all (dw a):=rfl
section
variable {S:ax} {Q:bS} {i:Int} {xs:List PV} {b:Bool}
def pA:ck [.int i,.ty "int"] S Q=Q (.bl true) S:=by simp[ck,nC,hZ,cN]
def pB:ck [.int i,.ty "bool"] S Q=Q (.bl false) S:=by simp[ck,nC,hZ,cN]
def pC:ck [.int i,.ty "tuple"] S Q=Q (.bl false) S:=by simp[ck,nC,hZ,cN]
def uO:ck [.tup xs,.ty "int"] S Q=Q (.bl false) S:=by simp[ck,nC,hZ,cN]
def mf:ck [.tup xs,.ty "tuple"] S Q=Q (.bl true) S:=by simp[ck,nC,hZ,cN]
def uP{z:Str}:ck [.str z,.ty "int"] S Q=Q (.bl false) S:=by simp[ck,nC,hZ,cN]
def pD{z:Str}:ck [.str z,.ty "tuple"] S Q=Q (.bl false) S:=by simp[ck,nC,hZ,cN]
end
noncomputable def isInt:PV->Bool | .int _=>true|_=>false
abbrev eF(w:aA):Prop:=∀{S:ax} {L n:Nat} {v:PV} {Q:bS} {E:b9},Bs L n v->Q (.bl (isInt v)) S->w [v] S Q E
def zV:eF (a8 1 fg):=by
 intro S L n v Q E h k
 unfold fg
 refine fi ?_
 rw[show aw 1 [v]=[some v] from rfl]
 cases h with
 |int i=>
  walk_at "x"
  simp only[pA,pB,F8,GU]
  exact k
 |str hz=>
  walk_at "x"
  simp only[uP,Fz,F0]
  exact k
 |tup hl hx=>
  walk_at "x"
  simp only[uO,Fz,F0]
  exact k
noncomputable def mh:PV->Bool | .int m=>decide (1<=m)|_=>false
abbrev i7(w:aA):Prop:=∀{S:ax} {L n:Nat} {v:PV} {Q:bS} {E:b9},Bs L n v->Q (.bl (mh v)) S->w [v] S Q E
def AQ{x:aA}(zV:eF x):i7 (a8 1 (gF x)):=by
 intro S L n v Q E h k
 unfold gF
 refine fi ?_
 rw[show aw 1 [v]=[some v] from rfl]
 walk_at "x"
 refine zV h ?_
 cases h with
 |int i=>exact k
 |str hz=>exact k
 |tup hl hx=>exact k
abbrev fk(w:aA):Prop:=∀{S:ax} {a b:Bd} {hd:List PV} {i:Int} {y:PV} {Q:bS} {E:b9},(i=0\/i=1)->hd.length<=3->Q (if i=0 then a.pv else b.pv) S->w [.tup (hd++[a.pv,b.pv]),.tup [.int i,y]] S Q E
def Ao:fk (a8 2 iS):=by
 intro S a b hd i y Q E hi hl k
 unfold iS
 refine fi ?_
 rw[show aw 2 [PV.tup (hd++[a.pv,b.pv]),PV.tup [.int i,y]]=[some (.tup (hd++[a.pv,b.pv])),some (.tup [.int i,y])] from rfl]
 walk_at "y"
 have e:zk (hd++[a.pv,b.pv]) (-2+i)=some (if i=0 then a.pv else b.pv):=by
  unfold zk lP
  rcases hi with rfl|rfl
  ·rw[if_neg (by omega),if_pos (by simp;omega)]
   have:(-2+0+((hd++[a.pv,b.pv]).length:Int)).toNat=hd.length:=by simp;omega
   rw[this,if_pos rfl]
   show(hd++[a.pv,b.pv])[hd.length]?=some a.pv
   simp
  ·rw[if_neg (by omega),if_pos (by simp;omega)]
   have:(-2+1+((hd++[a.pv,b.pv]).length:Int)).toNat=hd.length+1:=by simp;omega
   rw[this,if_neg (by decide)]
   show(hd++[a.pv,b.pv])[hd.length+1]?=some b.pv
   simp
 rw[e]
 exact k
abbrev bF(n:Nat)(w:aA):Prop:=∀{S:ax} {L m:Nat} {t:Bd} {v:PV} {Q:bS} {E:b9},t.dep<=n->Bs L m v->L<=1000->(∀S',Ext S S'->Q (.bl (aK t v)) S')->w [t.pv,v] S Q E
abbrev gK(n:Nat)(w:aA):Prop:=∀{S:ax} {L m:Nat} {t:Bd} {v:PV} {Q:bS} {E:b9},t.dep<=n->Bs L m v->L<=1000->(∀S',Ext S S'->Q (.bl (dw t v)) S')->w [t.pv,v] S Q E
def pE{a:Bd}{xs:List PV}(h:xs.length≠2):dw a (.tup xs)=false:=by
 unfold dw
 split
 ·rename_i e;cases e;exact absurd rfl h
 ·rfl
def i8{xs:List PV}(h:xs.length=2):∃x y,xs=[x,y]:=by
 match xs,h with
 |[x,y],_=>exact⟨x,y,rfl⟩
def pF{xm s0 s1:aA}(n:Nat)(AQ:i7 xm)(ih:bF n s1):gK n (a8 2 (dn xm s0 s1)):=by
 intro S L m t v Q E hd h hL k
 unfold dn
 refine fi ?_
 rw[show aw 2 [t.pv,v]=[some t.pv,some v] from rfl]
 cases h with
 |int i=>
  walk_at "x"
  simp only[pC,GU,F8]
  exact k S .refl
 |str hz=>
  walk_at "x"
  simp only[pD,GU,F8]
  exact k S .refl
 |@tup m xs hl hx=>
  refine aj fun N hN=>?_
  walk_at "x"
  simp only[mf,GH,Fz,F0]
  by_cases h2:xs.length=2
  ·obtain⟨x,y,rfl⟩:=i8 h2
   have e:(true != decide (((([x,y]:List PV).length:Nat):Int)=2))=false:=rfl
   rw[e]
   simp only[Fz,F0]
   refine hN _ _ ?_
   walk_at "y"
   have hy:=hx y (by simp)
   refine AQ (hx x (by simp)) ?_
   cases x with
   |int i=>
    by_cases hi:1<=i
    ·simp only[mh,Gm hi,F8]
     refine ih hd hy hL fun S' X=>?_
     have:=k S' X
     simp only[dw,Gm hi,Bool.true_and]at this
     exact this
    ·simp only[mh,FQ hi,Fz,F0]
     have:=k S .refl
     simp only[dw,FQ hi,Bool.false_and]at this
     exact this
   |_=>exact k S .refl
  ·have e:(true != decide (((xs.length:Nat):Int)=2))=true:=by
    rw[FQ (by omega)];rfl
   rw[e]
   simp only[F8]
   have:=k S .refl
   rw[pE h2]at this
   exact this
def fU{a b:Bd}{xs:List PV}(h:xs.length≠2):aK (.yF a b) (.tup xs)=false:=by
 match xs,h with
 |[],_=>rfl
 |[_],_=>rfl
 |[_,_],h=>exact absurd rfl h
 |_::_::_::_,_=>rfl
def fV{a b:Bd}{xs:List PV}(h:xs.length≠2):aK (.y7 a b) (.tup xs)=false:=by
 match xs,h with
 |[],_=>rfl
 |[x],_=>cases x<;>rfl
 |[_,_],h=>exact absurd rfl h
 |x::_::_::_,_=>cases x<;>rfl
def fW{z:Str}{m:Int}{a b:Bd}{xs:List PV}(h:xs.length≠2):aK (.y8 z m a b) (.tup xs)=false:=by
 match xs,h with
 |[],_=>rfl
 |[x],_=>cases x<;>rfl
 |[_,_],h=>exact absurd rfl h
 |x::_::_::_,_=>cases x<;>rfl
def cW(t:Bd)(z:Str):aK t (.str z)=false:=by cases t<;>rfl
def cX(t:Bd)(i:Int):aK t (.int i)=false:=by cases t<;>rfl
noncomputable def Bd.plain:Bd->Bool
 | .rest=>true
 | .pay _ _=>true
 | .put _ _=>true
 | .use _=>true
 |_=>false
def i9{t:Bd}(h:t.plain=true)(xs:List PV):aK t (.tup xs)=decide (xs=[]):=by
 cases t<;>simp[Bd.plain]at h<;>(cases xs with
  |nil=>show true=_;simp
  |cons=>show false=_;simp)
noncomputable def Bd.hd:Bd->Str
 | .rest=>"rest" | .pay _ _=>"pay" | .put _ _=>"put" | .use _=>"use" | .yR _=>"often" | .yF _ _=>"then" | .y7 _ _=>"either" | .y8 _ _ _ _=>"take"
noncomputable def Bd.tl:Bd->List PV
 | .rest=>[] | .pay x y=>[.tup [.int x,.int y]] | .put z m=>[.str z,.int m] | .use z=>[.str z] | .yR a=>[a.pv] | .yF a b=>[a.pv,b.pv] | .y7 a b=>[a.pv,b.pv] | .y8 z m a b=>[.str z,.int m,a.pv,b.pv]
def Bd.AG(t:Bd):t.pv = .tup (.str t.hd::t.tl):=by cases t<;>rfl
def Bd.BK(t:Bd):PyData.strOk t.hd=true:=by cases t<;>exact aP _ (by simp[heads,Bd.hd])
def Bd.Bh(t:Bd):t.hd=("then":Str)↔∃a b,t = .yF a b:=by cases t<;>simp[Bd.hd,al]
def Bd.Bi(t:Bd):t.hd=("often":Str)↔∃a,t = .yR a:=by cases t<;>simp[Bd.hd,al]
def Bd.BL(t:Bd):t.hd ∉ (["then","either","take"]:Vs)↔(t.plain=true\/∃a,t = .yR a):=by cases t<;>simp[Bd.hd,al,Bd.plain]
def rK:([PV.str "then",PV.str "either",PV.str "take"]:List PV)=(["then","either","take"]:Vs).map PV.str:=rfl
theorem jS:∀bs:List Bool,iI (bs.map PV.bl)=some bs
 |[]=>rfl
 |b::bs=>by rw[FO];unfold iI;rw[jS bs];rfl
def pG{xw xc s0 s1:aA}(n:Nat)(zV:eF xw)(Ao:fk xc)(Fe:gK n s0)(De:bF n s1):bF (n+1) (a8 3 (dr xw xc s0 s1)):=by
 intro S L m t v Q E hd h hL k
 unfold dr
 refine fi ?_
 rw[show aw 3 [t.pv,v]=[some t.pv,some v,none] from rfl]
 cases h with
 |int i=>
  walk_at "x"
  simp only[pC,GU,F8]
  have:=k S .refl
  rw[cX]at this
  exact this
 |str hz=>
  walk_at "x"
  simp only[pD,GU,F8]
  have:=k S .refl
  rw[cW]at this
  exact this
 |@tup m xs hl hx=>
  refine aj fun N hN=>?_
  walk_at "x"
  simp only[mf,GH,Fz,F0]
  refine hN _ _ (aj fun N hN=>?_)
  rw[Bd.AG]
  walk_at "y"
  refine hN _ _ (aj fun N hN=>?_)
  walk_at "x"
  simp only[FH,FF]
  by_cases ho:t.hd=("often":Str)
  ·rw[if_pos ho]
   obtain⟨a,rfl⟩:=(Bd.Bi t).mp ho
   simp only[Bd.dep]at hd
   refine d3 (fun done ys S'=>ys=(done.map (dw a)).map PV.bl/\done.length<=xs.length/\Ext S S') ⟨rfl,Gq _,.refl⟩ ?_ ?_ ?_
   ·rintro done ys S' ⟨rfl,hdl,X⟩
    exact⟨trivial,aI (by rw[Fx,Fx];omega)⟩
   ·rintro done x rest ys S' K e ⟨rfl,hdl,X⟩ hK
    walk_at "y"
    simp only[kn,F8,Bd.tl,uC,md]
    refine Fe (t:=a) (by omega) (hx x (by rw[e];simp)) hL fun S2 X2=>?_
    exact hK _ _ ⟨by simp,by rw[e];simp,X.trans X2⟩
   ·rintro ys S' ⟨rfl,hdl,X⟩
    intro p hp
    simp only[rg,ac,jS]
    have:=k _ (X.trans (.new (o:=.lst ((xs.map (dw a)).map PV.bl)) hp))
    rw[cq]at this
    have e:(xs.map (dw a)).all id=xs.all (dw a):=by rw[List.all_map];rfl
    rw[e]
    exact this
  rw[if_neg ho]
  refine hN _ _ (aj fun N hN=>?_)
  walk_at "x"
  rw[rK]
  refine aR (Bd.BK t) bE ?_
  by_cases h3:t.hd∈(["then","either","take"]:Vs)
  ·rw[Gm h3]
   simp only[Ie,Fz,F0]
   refine hN _ _ (aj fun N hN=>?_)
   walk_at "x"
   by_cases h2:xs.length=2
   ·obtain⟨x,y,rfl⟩:=i8 h2
    have e:(true != decide (((([x,y]:List PV).length:Nat):Int)=2))=false:=rfl
    rw[e]
    simp only[Fz,F0]
    have DV:=hx x (by simp)
    have B_:=hx y (by simp)
    refine hN _ _ (aj fun N hN=>?_)
    walk_at "x"
    simp only[FH,FF]
    by_cases ht:t.hd=("then":Str)
    ·rw[if_pos ht]
     obtain⟨a,b,rfl⟩:=(Bd.Bh t).mp ht
     simp only[Bd.dep]at hd
     simp only[Bd.tl,uC,md]
     refine De (t:=a) (by omega) DV hL fun S2 X2=>?_
     cases ea:aK a x with
     |true=>
      simp only[F8,xQ,uC]
      refine De (t:=b) (by omega) B_ hL fun S3 X3=>?_
      have:=k S3 (X2.trans X3)
      simp only[cp,ea,Bool.true_and]at this
      exact this
     |false=>
      have:=k S2 X2
      simp only[cp,ea,Bool.false_and]at this
      simpa using this
    ·rw[if_neg ht]
     refine hN _ _ ?_
     have sel:∃(hd2:List PV) (a b:Bd),t.pv = .tup (hd2++[a.pv,b.pv])/\hd2.length<=3/\a.dep<=n/\b.dep<=n/\(∀(i:Int),aK t (.tup [.int i,y])=if i=0 then aK a y else if i=1 then aK b y else false)/\(isInt x=false->aK t (.tup [x,y])=false):=by
      cases t with
      |y7 a b=>exact⟨[.str "either"],a,b,rfl,by simp,by simp only[Bd.dep]at hd;omega,by simp only[Bd.dep]at hd;omega,fun i=>rfl,fun h=>by cases x<;>first|rfl|cases h⟩
      |y8 z mm a b=>exact⟨[.str "take",.str z,.int mm],a,b,rfl,by simp,by simp only[Bd.dep]at hd;omega,by simp only[Bd.dep]at hd;omega,fun i=>rfl,fun h=>by cases x<;>first|rfl|cases h⟩
      |yF a b=>exact absurd rfl ht
      |yR a=>exact absurd rfl ho
      |rest=>simp[Bd.hd,al]at h3
      |pay=>simp[Bd.hd,al]at h3
      |put=>simp[Bd.hd,al]at h3
      |use=>simp[Bd.hd,al]at h3
     obtain⟨hd2,a,b,Ff,hl2,hda,hdb,CU,CV⟩:=sel
     rw[<-Bd.AG,Ff]
     walk_at "y"
     refine zV DV ?_
     cases x with
     |int i=>
      simp only[isInt,F8]
      refine xR ?_
      simp only[FH]
      by_cases h01:i=0\/i=1
      ·have DW:(decide (i=0) || decide (i=1))=true:=by simpa using h01
       rw[DW]
       simp only[F8]
       refine Ao h01 hl2 ?_
       have ek:∀S',Ext S S'->Q (.bl (if i=0 then aK a y else aK b y)) S':=fun S' X=>by
        have:=k S' X
        rw[CU]at this
        rcases h01 with rfl|rfl
        ·exact this
        ·exact this
       rcases h01 with rfl|rfl
       ·exact De (t:=a) hda B_ hL ek
       ·exact De (t:=b) hdb B_ hL ek
      ·have DW:(decide (i=0) || decide (i=1))=false:=by simpa using h01
       rw[DW]
       have:=k S .refl
       rw[CU,if_neg (fun h=>h01 (.inl h)),if_neg (fun h=>h01 (.inr h))]at this
       simpa using this
     |tup xs=>
      have:=k S .refl
      rw[CV rfl]at this
      simpa [isInt]using this
     |str z=>
      have:=k S .refl
      rw[CV rfl]at this
      simpa [isInt]using this
     |_=>cases DV
   ·have e:(true != decide (((xs.length:Nat):Int)=2))=true:=by
     rw[FQ (by omega)];rfl
    rw[e]
    simp only[F8]
    have:=k S .refl
    have en:aK t (.tup xs)=false:=by
     cases t with
     |y7 a b=>exact fV h2
     |y8 z mm a b=>exact fW h2
     |yF a b=>exact fU h2
     |yR a=>exact absurd rfl ho
     |rest=>simp[Bd.hd,al]at h3
     |pay=>simp[Bd.hd,al]at h3
     |put=>simp[Bd.hd,al]at h3
     |use=>simp[Bd.hd,al]at h3
    rw[en]at this
    exact this
  ·rw[FQ h3]
   simp only[Bool.bne_false,bne_iff_ne,Bool.true_bne,GU,F8]
   have hp:t.plain=true:=by
    rcases(Bd.BL t).mp h3 with hp|⟨a,rfl⟩
    ·exact hp
    ·exact absurd rfl ho
   refine Bs.eq_nil (.tup hl hx) ?_
   have:=k S .refl
   rw[i9 hp]at this
   exact this
def kB{a b:PV}{hd:List PV}{i:Int}(hi:i=0\/i=1):zk (hd++[a,b]) (i - 2)=some (if i=0 then a else b):=by
 unfold zk lP
 rcases hi with rfl|rfl
 ·rw[if_neg (by omega),if_pos (by simp;omega)]
  have:(0 - 2+((hd++[a,b]).length:Int)).toNat=hd.length:=by simp;omega
  rw[this,if_pos rfl]
  show(hd++[a,b])[hd.length]?=some a
  simp
 ·rw[if_neg (by omega),if_pos (by simp;omega)]
  have:(1 - 2+((hd++[a,b]).length:Int)).toNat=hd.length+1:=by simp;omega
  rw[this,if_neg (by decide)]
  show(hd++[a,b])[hd.length+1]?=some b
  simp
def zj.nil{L n:Nat}:zj L (n+1) (.tup []):=.tup (Gq _) (by simp)
def zj.two{L n:Nat}{a b:PV}(hL:2<=L)(ha:zj L n a)(hb:zj L n b):zj L (n+1) (.tup [a,b]):=.tup hL fun x hx=>by
 simp only[FE,FN,Gi]at hx
 rcases hx with rfl|rfl
 ·exact ha
 ·exact hb
noncomputable def Bd.zW:Bd->Bool
 | .rest=>false
 | .yF _ _=>false
 |_=>true
noncomputable def Bd.rows:Bd->Nat
 | .rest=>0
 | .yR a=>a.rows+1
 | .yF a b=>a.rows+b.rows
 | .y7 a b=>a.rows+b.rows+1
 | .y8 _ _ a b=>a.rows+b.rows+1
 |_=>1
theorem Bd.yJ:∀t:Bd,(t.parts.filter Bd.zW).length=t.rows
 | .rest=>rfl
 | .pay _ _=>rfl
 | .put _ _=>rfl
 | .use _=>rfl
 | .yR a=>by simp only[Bd.parts,Bd.rows];rw[GV rfl,FG,a.yJ]
 | .yF a b=>by simp only[Bd.parts,Bd.rows];rw[List.filter_cons_of_neg (by simp[Bd.zW]),GZ,Fv,a.yJ,b.yJ]
 | .y7 a b=>by simp only[Bd.parts,Bd.rows];rw[GV rfl,FG,GZ,Fv,a.yJ,b.yJ]
 | .y8 _ _ a b=>by simp only[Bd.parts,Bd.rows];rw[GV rfl,FG,GZ,Fv,a.yJ,b.yJ]
def Bd.yP(t:Bd):t.rows<=t.size:=by
 rw[<-t.yJ,<-t.yG];exact HE _ _
noncomputable def Bd.beg(t:Bd)(first behind:Int):Int:=if t.rows=0 then behind else first
noncomputable def Bd.rowsOf:Bd->Int->Int->List PV
 | .rest,_,_=>[]
 | .pay x y,_,n=>[.tup [.str "pay",.tup [.int x,.int y],.int n]]
 | .put z m,_,n=>[.tup [.str "put",.str z,.int m,.int n]]
 | .use z,_,n=>[.tup [.str "use",.str z,.int n]]
 | .yR a,f,n=>.tup [.str "often",.int (a.beg (f+1) f),.int n]::a.rowsOf (f+1) f
 | .yF a b,f,n=>a.rowsOf f (b.beg (f+a.rows) n)++b.rowsOf (f+a.rows) n
 | .y7 a b,f,n=>.tup [.str "either",.int (a.beg (f+1) n),.int (b.beg (f+1+a.rows) n)]::(a.rowsOf (f+1) n++b.rowsOf (f+1+a.rows) n)
 | .y8 z m a b,f,n=>.tup [.str "take",.str z,.int m,.int (a.beg (f+1) n),.int (b.beg (f+1+a.rows) n)]::(a.rowsOf (f+1) n++b.rowsOf (f+1+a.rows) n)
theorem Bd.yC:∀(t:Bd) (f n:Int),(t.rowsOf f n).length=t.rows
 | .rest,_,_=>rfl
 | .pay _ _,_,_=>rfl
 | .put _ _,_,_=>rfl
 | .use _,_,_=>rfl
 | .yR a,f,n=>by simp only[Bd.rowsOf,Bd.rows,List.length_cons];rw[a.yC]
 | .yF a b,f,n=>by simp only[Bd.rowsOf,Bd.rows,Fv];rw[a.yC,b.yC]
 | .y7 a b,f,n=>by simp only[Bd.rowsOf,Bd.rows,Fv,List.length_cons];rw[a.yC,b.yC]
 | .y8 _ _ a b,f,n=>by simp only[Bd.rowsOf,Bd.rows,Fv,List.length_cons];rw[a.yC,b.yC]
noncomputable def Bd.yQ(t:Bd):List PV:=t.rowsOf 0 t.rows++[.tup [.str "end"]]
abbrev fm(w:aA):Prop:=∀{S:ax} {t:Bd} {Q:bS} {E:b9},Q (.bl t.zW) S->w [t.pv] S Q E
def wu:∀z∈(["rest","then"]:Vs),PyData.strOk z=true:=by decide +kernel
def i_:∀z∈(["either","take"]:Vs),PyData.strOk z=true:=by decide +kernel
def Bd.By(t:Bd):(true != decide (t.hd∈(["rest","then"]:Vs)))=t.zW:=by cases t<;>simp[Bd.hd,al,Bd.zW]
def Ap:fm (a8 1 gD):=by
 intro S t Q E k
 unfold gD
 refine fi ?_
 rw[show aw 1 [t.pv]=[some t.pv] from rfl,Bd.AG]
 simp only[av,ah,v3,lk,c3,ao,md,aJ,bL]
 rw[show([PV.str "rest",PV.str "then"]:List PV)=(["rest","then"]:Vs).map PV.str from rfl]
 refine aR (Bd.BK t) wu ?_
 rw[Bd.By]
 exact k
abbrev bV(n:Nat)(w:aA):Prop:=∀{S:ax} {t:Bd} {Q:bS} {E:b9},t.dep<=n->t.size<=900->(∀S',Ext S S'->Q (.int t.rows) S')->w [t.pv] S Q E
def nQ{xp xh:aA}(n:Nat)(zp:bD n xp)(Ap:fm xh):bV n (a8 1 (gE xp xh)):=by
 intro S t Q E hd hs k
 unfold gE
 refine fi ?_
 rw[show aw 1 [t.pv]=[some t.pv] from rfl]
 walk_at "x"
 refine zp hd hs fun p S1 hp X1 h1=>?_
 simp only[h1]
 refine d3 (fun done ys S'=>∃(ts rs:List Bd),done=ts.map Bd.pv/\t.parts=ts++rs/\ys=(ts.filter Bd.zW).map Bd.pv/\Ext S S'/\S' p=some (.lst (t.parts.map Bd.pv))) ⟨[],t.parts,rfl,rfl,rfl,X1,h1⟩ ?_ ?_ ?_
 ·rintro done ys S' ⟨ts,rs,rfl,e,rfl,X,h⟩
  refine⟨h,aI ?_⟩
  rw[Fx]
  have a:=HE Bd.zW ts
  have b:=F5 List.length e
  rw[t.yG,Fv]at b
  omega
 ·rintro done x rest ys S' K e ⟨ts,rs,rfl,es,rfl,X,h⟩ hK
  rw[es,GC]at e
  have e2:=Hj e
  rcases rs with _|⟨r,rs⟩
  ·cases e2
  rw[FO,G7]at e2
  obtain⟨rfl,e3⟩:=e2
  walk_at "x"
  refine Ap ?_
  cases hr:r.zW with
  |true=>
   simp only[F8]
   exact hK _ _ ⟨ts++[r],rs,by simp,by rw[es];simp,by rw[GZ,GV hr];simp,X,h⟩
  |false=>
   simp only[Fz,F0]
   exact hK _ _ ⟨ts++[r],rs,by simp,by rw[es];simp,by rw[GZ,List.filter_cons_of_neg (by rw[hr];decide)];simp,X,h⟩
 rintro ys S' ⟨ts,rs,e,es,rfl,X,h⟩
 intro q hq
 rw[ac]
 have ez:rs=[]:=by
  have:=F5 List.length e
  rw[es]at this
  simp at this
  exact this
 subst ez
 rw[Gb]at es
 dsimp only
 rw[<-es,Fx,t.yJ]
 exact k _ (X.trans (.new hq))
abbrev fX(n:Nat)(w:aA):Prop:=∀{S:ax} {t:Bd} {f b:Int} {Q:bS} {E:b9},t.dep<=n->t.size<=900->(∀S',Ext S S'->Q (.int (t.beg f b)) S')->w [t.pv,.int f,.int b] S Q E
def pH{xr:aA}(n:Nat)(A4:bV n xr):fX n (a8 3 (kw xr)):=by
 intro S t f b Q E hd hs k
 unfold kw
 refine fi ?_
 rw[show aw 3 [t.pv,PV.int f,PV.int b]=[some t.pv,some (.int f),some (.int b)] from rfl]
 walk_at "x"
 refine A4 hd hs fun S' X=>?_
 have:=k S' X
 unfold Bd.beg at this
 simp only[FH,FF]
 by_cases h0:t.rows=0
 ·rw[if_pos (by omega)]
  rw[if_pos h0]at this
  exact this
 ·rw[if_neg (by omega)]
  rw[if_neg h0]at this
  exact this
abbrev bW(n:Nat)(w:aA):Prop:=∀{S:ax} {t:Bd} {f b:Int} {Q:bS} {E:b9},t.dep<=n->t.size<=400->(∀S',Ext S S'->Q (.tup (t.rowsOf f b)) S')->w [t.pv,.int f,.int b] S Q E
abbrev gL(n:Nat)(w:aA):Prop:=∀{S:ax} {t u:Bd} {f b:Int} {Q:bS} {E:b9},t.dep<=n->u.dep<=n->(Bd.yF t u).size<=400->(∀S',Ext S S'->Q (.tup ((Bd.yF t u).rowsOf f b)) S')->w [(Bd.yF t u).pv,.int f,.int b] S Q E
abbrev ja(n:Nat)(w:aA):Prop:=∀{S:ax} {t:Bd} {f b:Int} {Q:bS} {E:b9},t.dep<=n->(Bd.yR t).size<=400->(∀S',Ext S S'->Q (.tup ((Bd.yR t).rowsOf f b)) S')->w [(Bd.yR t).pv,.int f,.int b] S Q E
abbrev kC(n:Nat)(w:aA):Prop:=∀{S:ax} {t:Bd} {f b:Int} {Q:bS} {E:b9},t.dep<=n+1->t.hd∈(["either","take"]:Vs)->t.size<=400->(∀S',Ext S S'->Q (.tup (t.rowsOf f b)) S')->w [t.pv,.int f,.int b] S Q E
def pI{xr xb s0 s1 s2 s3:aA}(n m:Nat)(hm:n<=m)(A4:bV m xr)(A5:fX m xb)(ih:bW n s3):gL n (a8 5 (bO xr xb s0 s1 s2 s3)):=by
 intro S t u f b Q E ht hu hs k
 unfold bO
 refine fi ?_
 simp only[Bd.size]at hs
 rw[show aw 5 [(Bd.yF t u).pv,PV.int f,PV.int b]=[some (.tup [.str "then",t.pv,u.pv]),some (.int f),some (.int b),none,none] from rfl]
 refine aj fun N hN=>?_
 walk_at "y"
 refine A4 (by omega) (by omega) fun S1 X1=>?_
 refine hN _ _ (aj fun N hN=>?_)
 walk_at "y"
 refine A5 (by omega) (by omega) fun S2 X2=>?_
 refine hN _ _ ?_
 walk_at "y"
 refine ih ht (by omega) fun S3 X3=>?_
 refine ih hu (by omega) fun S4 X4=>?_
 have a:=t.yP
 have c:=u.yP
 refine⟨aI (by rw[Bd.yC,Bd.yC];omega),?_⟩
 exact k S4 (X1.trans (X2.trans (X3.trans X4)))
def rL{xb s0 s1 s2 s3:aA}(n m:Nat)(hm:n<=m)(A5:fX m xb)(ih:bW n s3):ja n (a8 4 (bx xb s0 s1 s2 s3)):=by
 intro S t f b Q E ht hs k
 unfold bx
 refine fi ?_
 simp only[Bd.size]at hs
 rw[show aw 4 [(Bd.yR t).pv,PV.int f,PV.int b]=[some (.tup [.str "often",t.pv]),some (.int f),some (.int b),none] from rfl]
 refine aj fun N hN=>?_
 walk_at "y"
 refine A5 (by omega) (by omega) fun S1 X1=>?_
 refine hN _ _ ?_
 walk_at "y"
 refine ih ht (by omega) fun S3 X3=>?_
 have a:=t.yP
 refine⟨aI (by rw[Bd.yC];simp;omega),?_⟩
 exact k S3 (X1.trans X3)
def uQ{xr xb s0 s1 s2 s3:aA}(n m:Nat)(hm:n<=m)(A4:bV m xr)(A5:fX m xb)(ih:bW n s3):kC n (a8 7 (bm xr xb s0 s1 s2 s3)):=by
 intro S t f b Q E hd hh hs k
 unfold bm
 refine fi ?_
 cases t with
 |y7 t u=>
  simp only[Bd.size]at hs
  simp only[Bd.dep]at hd
  rw[show aw 7 [(Bd.y7 t u).pv,PV.int f,PV.int b]=[some (.tup [.str "either",t.pv,u.pv]),some (.int f),some (.int b),none,none,none,none] from rfl]
  refine aj fun N hN=>?_
  walk_at "y"
  refine hN _ _ (aj fun N hN=>?_)
  walk_at "y"
  refine hN _ _ (aj fun N hN=>?_)
  walk_at "y"
  refine A4 (by omega) (by omega) fun S1 X1=>?_
  refine hN _ _ (aj fun N hN=>?_)
  walk_at "y"
  refine A5 (by omega) (by omega) fun S2 X2=>?_
  refine A5 (by omega) (by omega) fun S3 X3=>?_
  rw[il]
  refine⟨aI (by simp),?_⟩
  refine hN _ _ ?_
  walk_at "y"
  refine ih (by omega) (by omega) fun S4 X4=>?_
  have a:=t.yP
  have c:=u.yP
  refine⟨aI (by rw[Bd.yC];simp;omega),?_⟩
  refine ih (by omega) (by omega) fun S5 X5=>?_
  refine⟨aI (by rw[Fv,Bd.yC,Bd.yC];simp;omega),?_⟩
  exact k S5 (X1.trans (X2.trans (X3.trans (X4.trans X5))))
 |y8 z q t u=>
  simp only[Bd.size]at hs
  simp only[Bd.dep]at hd
  rw[show aw 7 [(Bd.y8 z q t u).pv,PV.int f,PV.int b]=[some (.tup [.str "take",.str z,.int q,t.pv,u.pv]),some (.int f),some (.int b),none,none,none,none] from rfl]
  refine aj fun N hN=>?_
  walk_at "y"
  refine hN _ _ (aj fun N hN=>?_)
  walk_at "y"
  refine hN _ _ (aj fun N hN=>?_)
  walk_at "y"
  refine A4 (by omega) (by omega) fun S1 X1=>?_
  refine hN _ _ (aj fun N hN=>?_)
  walk_at "y"
  refine A5 (by omega) (by omega) fun S2 X2=>?_
  refine A5 (by omega) (by omega) fun S3 X3=>?_
  rw[kA]
  refine⟨aI (by simp),?_⟩
  refine hN _ _ ?_
  walk_at "y"
  refine ih (by omega) (by omega) fun S4 X4=>?_
  have a:=t.yP
  have c:=u.yP
  refine⟨aI (by rw[Bd.yC];simp;omega),?_⟩
  refine ih (by omega) (by omega) fun S5 X5=>?_
  refine⟨aI (by rw[Fv,Bd.yC,Bd.yC];simp;omega),?_⟩
  exact k S5 (X1.trans (X2.trans (X3.trans (X4.trans X5))))
 |_=>simp[Bd.hd,al]at hh
def uR{s0 s1 s2 s3:aA}(n:Nat)(Fg:gL n s0)(ih1:kC n s1)(ih2:ja n s2):bW (n+1) (a8 4 (eC s0 s1 s2 s3)):=by
 intro S t f b Q E hd hs k
 unfold eC
 refine fi ?_
 rw[show aw 4 [t.pv,PV.int f,PV.int b]=[some t.pv,some (.int f),some (.int b),none] from rfl]
 refine aj fun N hN=>?_
 simp only[aG,ah,v3,lk,c3]
 have e0:=t.AG
 rw[e0]
 simp only[ao,md,List.set_cons_zero,List.set_cons_succ]
 rw[<-e0]
 refine hN _ _ (aj fun N hN=>?_)
 walk_at "x"
 simp only[FH,FF]
 by_cases h0:t.hd=("rest":Str)
 ·rw[if_pos h0]
  have:=k S .refl
  cases t with
  |rest=>exact this
  |_=>simp[Bd.hd,al]at h0
 rw[if_neg h0]
 refine hN _ _ (aj fun N hN=>?_)
 walk_at "x"
 simp only[FH,FF]
 by_cases h1:t.hd=("then":Str)
 ·rw[if_pos h1]
  obtain⟨a,c,rfl⟩:=t.Bh.mp h1
  simp only[Bd.dep]at hd
  exact Fg (by omega) (by omega) hs k
 rw[if_neg h1]
 refine hN _ _ (aj fun N hN=>?_)
 walk_at "x"
 simp only[FH,FF]
 by_cases h2:t.hd=("often":Str)
 ·rw[if_pos h2]
  obtain⟨a,rfl⟩:=t.Bi.mp h2
  simp only[Bd.dep]at hd
  exact ih2 (by omega) hs k
 rw[if_neg h2]
 refine hN _ _ (aj fun N hN=>?_)
 simp only[bR,a6,ah,v3,lk,c3,aJ,bL]
 rw[show([PV.str "either",PV.str "take"]:List PV)=(["either","take"]:Vs).map PV.str from rfl]
 refine aR t.BK i_ ?_
 simp only[FH,FF]
 by_cases h3:t.hd∈(["either","take"]:Vs)
 ·rw[if_pos h3]
  walk_at "x"
  exact ih1 hd h3 hs k
 rw[if_neg h3]
 simp only[aS]
 refine hN _ _ ?_
 walk_at "x"
 have:=k S .refl
 cases t with
 |rest=>exact absurd rfl h0
 |yF=>exact absurd rfl h1
 |yR=>exact absurd rfl h2
 |y7=>simp[Bd.hd,al]at h3
 |y8=>simp[Bd.hd,al]at h3
 |pay=>exact⟨aI (by simp),this⟩
 |put=>exact⟨aI (by simp),this⟩
 |use=>exact⟨aI (by simp),this⟩
abbrev gM(n:Nat)(w:aA):Prop:=∀{S:ax} {t:Bd} {Q:bS} {E:b9},t.dep<=n->t.size<=400->(∀S',Ext S S'->Q (.tup t.yQ) S')->w [t.pv] S Q E
def Az{xo xr:aA}(n:Nat)(BM:bW n xo)(A4:bV n xr):gM n (a8 1 (kx xo xr)):=by
 intro S t Q E hd hs k
 unfold kx
 refine fi ?_
 rw[show aw 1 [t.pv]=[some t.pv] from rfl]
 walk_at "x"
 refine A4 hd (by omega) fun S1 X1=>?_
 refine BM hd hs fun S2 X2=>?_
 have a:=t.yP
 refine⟨aI (by rw[Bd.yC];simp;omega),?_⟩
 exact k S2 (X1.trans X2)
noncomputable def Bd.ptrace:Bd->PV
 | .yF a b=>.tup [a.ptrace,b.ptrace]
 | .y7 a _=>.tup [.int 0,a.ptrace]
 | .y8 _ _ _ b=>.tup [.int 1,b.ptrace]
 |_=>.tup []
abbrev cY(n:Nat)(w:aA):Prop:=∀{S:ax} {t:Bd} {Q:bS} {E:b9},t.dep<=n->Q t.ptrace S->w [t.pv] S Q E
def AA{s0:aA}(n:Nat)(ih:cY n s0):cY (n+1) (a8 1 (cM s0)):=by
 intro S t Q E hd k
 unfold cM
 refine fi ?_
 rw[show aw 1 [t.pv]=[some t.pv] from rfl]
 cases t with
 |yF a b=>
  simp only[Bd.dep]at hd
  rw[show(Bd.yF a b).pv = .tup [.str "then",a.pv,b.pv] from rfl]
  walk_at "y"
  refine ih (by omega) ?_
  exact ih (by omega) k
 |y7 a b=>
  simp only[Bd.dep]at hd
  rw[show(Bd.y7 a b).pv = .tup [.str "either",a.pv,b.pv] from rfl]
  walk_at "y"
  exact ih (by omega) k
 |y8 z m a b=>
  simp only[Bd.dep]at hd
  rw[show(Bd.y8 z m a b).pv = .tup [.str "take",.str z,.int m,a.pv,b.pv] from rfl]
  walk_at "y"
  exact ih (by omega) k
 |yR a=>
  rw[show(Bd.yR a).pv = .tup [.str "often",a.pv] from rfl]
  walk_at "y"
  exact k
 |rest=>
  rw[show(Bd.rest).pv = .tup [.str "rest"] from rfl]
  walk_at "y"
  exact k
 |pay x y=>
  rw[show(Bd.pay x y).pv = .tup [.str "pay",.tup [.int x,.int y]] from rfl]
  walk_at "y"
  exact k
 |put z m=>
  rw[show(Bd.put z m).pv = .tup [.str "put",.str z,.int m] from rfl]
  walk_at "y"
  exact k
 |use z=>
  rw[show(Bd.use z).pv = .tup [.str "use",.str z] from rfl]
  walk_at "y"
  exact k
noncomputable def Bd.Ag:Bd->Bool | .yR _=>true|_=>false
def Bd.BN(t:Bd):decide (t.hd=("often":Str))=t.Ag:=by cases t<;>simp[Bd.hd,al,Bd.Ag]
noncomputable def aE:Nat->List Bd->List Nat
 |_,[]=>[]
 |i,t::r=>if t.Ag then i::aE (i+1) r else aE (i+1) r
theorem fo:∀(i:Nat) (xs ys:List Bd),aE i (xs++ys)=aE i xs++aE (i+xs.length) ys
 |i,[],ys=>by simp[aE]
 |i,x::xs,ys=>by
  rw[HG]
  simp only[aE]
  rw[fo (i+1) xs ys,FG,show i+1+xs.length=i+(xs.length+1) by omega]
  split<;>rfl
theorem fq:∀(i:Nat) (xs:List Bd),(aE i xs).length<=xs.length
 |_,[]=>Ft _
 |i,t::r=>by
  simp only[aE]
  have:=fq (i+1) r
  split
  ·simp only[List.length_cons];omega
  ·simp only[List.length_cons];omega
theorem ce:∀(i j:Nat) (xs:List Bd),aE (i+j) xs=(aE j xs).map (i+·)
 |i,j,[]=>rfl
 |i,j,t::r=>by
  simp only[aE]
  rw[show i+j+1=i+(j+1) by omega,ce i (j+1) r]
  split<;>simp
noncomputable def Bd.yN(t:Bd):List Nat:=aE 0 t.parts
abbrev im(n:Nat)(w:aA):Prop:=∀{S:ax} {t:Bd} {Q:bS} {E:b9},t.dep<=n->t.size<=900->(∀p S',S p=none->Ext S S'->S' p=some (.lst (t.yN.map fun i:Nat=>PV.int (i:Int)))->Q (.ref p) S')->w [t.pv] S Q E
def uS{xp:aA}(n:Nat)(zp:bD n xp):im n (a8 1 (cn xp)):=by
 intro S t Q E hd hs k
 unfold cn
 refine fi ?_
 rw[show aw 1 [t.pv]=[some t.pv] from rfl]
 walk_at "x"
 refine zp hd hs fun p S1 hp X1 h1=>?_
 simp only[h1]
 refine d3 (fun done ys S'=>done.length<=t.parts.length/\ys=(aE 0 (t.parts.take done.length)).map (fun i:Nat=>PV.int (i:Int))/\Ext S S'/\S' p=some (.lst (t.parts.map Bd.pv))) ⟨Gq _,rfl,X1,h1⟩ ?_ ?_ ?_
 ·rintro done ys S' ⟨hl,rfl,X,h⟩
  refine⟨h,aI ?_⟩
  rw[Fx]
  have a:=fq 0 (t.parts.take done.length)
  rw[Ge,t.yG]at a
  omega
 ·rintro done x rest ys S' K e ⟨hl,rfl,X,h⟩ hK
  obtain⟨y,rfl,hy⟩:=pr e
  rw[FY]at hy
  cases hz:t.parts[done.length]? with
  |none=>rw[hz]at hy;cases hy
  |some r=>
   rw[hz]at hy
   cases hy
   have hlt:done.length < t.parts.length:=(FU.mp hz).1
   have et:aE 0 (t.parts.take (done.length+1))=aE 0 (t.parts.take done.length)++(if r.Ag then [done.length] else []):=by
    rw[List.take_succ,hz,Option.toList_some,fo,Ge,HQ hl,Hz]
    simp only[aE]
   walk_at "x"
   rw[Bd.AG]
   simp only[md,FH,r.BN]
   cases hr:r.Ag with
   |true=>
    simp only[F8]
    refine hK _ _ ⟨by rw[Fv];exact hlt,?_,X,h⟩
    rw[Fv,Gg,et,hr,if_pos rfl]
    simp
   |false=>
    simp only[Fz,F0]
    refine hK _ _ ⟨by rw[Fv];exact hlt,?_,X,h⟩
    rw[Fv,Gg,et,hr,if_neg (by decide),Gb]
 rintro ys S' ⟨hl,rfl,X,h⟩
 intro q hq
 have el:(L3.a9 (t.parts.map Bd.pv)).length=t.parts.length:=by simp[L3.a9]
 rw[el,List.take_length]
 refine k q _ (X.free hq) (X.trans (.new hq)) ac
abbrev gN(n:Nat)(w:aA):Prop:=∀{S:ax} {t:Bd} {Q:bS} {E:b9},t.dep<=n->t.size<=900->(∀S',Ext S S'->Q (.int t.size) S')->w [t.pv] S Q E
def nR{xp:aA}(n:Nat)(zp:bD n xp):gN n (a8 1 (ku xp)):=by
 intro S t Q E hd hs k
 unfold ku
 refine fi ?_
 rw[show aw 1 [t.pv]=[some t.pv] from rfl]
 walk_at "x"
 refine zp hd hs fun p S1 hp X1 h1=>?_
 simp only[h1,Fx,t.yG]
 exact k S1 X1
noncomputable def Bd.led:Bd->Nat->PV->PV
 |_,0,v=>v
 | .yR a,p+1,v=>.tup [.tup [.int 1,a.led p v]]
 | .yF a b,p+1,v=>if p < a.size then .tup [a.led p v,b.ptrace] else .tup [a.ptrace,b.led (p - a.size) v]
 | .y7 a b,p+1,v=>if p < a.size then .tup [.int 0,a.led p v] else .tup [.int 1,b.led (p - a.size) v]
 | .y8 _ _ a b,p+1,v=>if p < a.size then .tup [.int 0,a.led p v] else .tup [.int 1,b.led (p - a.size) v]
 |_,_+1,v=>v
abbrev fY(n:Nat)(w:aA):Prop:=∀{S:ax} {t:Bd} {p:Nat} {v:PV} {Q:bS} {E:b9},t.dep<=n->t.size<=900->p < t.size->(∀S',Ext S S'->Q (t.led p v) S')->w [t.pv,.int p,v] S Q E
def rM{xp xt s0:aA}(n m:Nat)(hm:n<=m)(Cv:gN m xp)(Cb:cY m xt)(ih:fY n s0):fY (n+1) (a8 8 (cO xp xt s0)):=by
 intro S t p v Q E hd hs hp k
 unfold cO
 refine fi ?_
 rw[show aw 8 [t.pv,PV.int p,v]=[some t.pv,some (.int p),some v,none,none,none,none,none] from rfl]
 refine aj fun N hN=>?_
 walk_at "x"
 simp only[FH,FF]
 cases p with
 |zero=>
  rw[if_pos (show((0:Nat):Int)=0 from rfl)]
  have:=k S .refl
  cases t<;>exact this
 |succ p=>
  rw[if_neg (by omega)]
  refine hN _ _ (aj fun N hN=>?_)
  have ep:(((p+1:Nat):Int) - 1)=(p:Int):=by omega
  cases t with
  |yR a=>
   simp only[Bd.size]at hs hp
   simp only[Bd.dep]at hd
   rw[show(Bd.yR a).pv = .tup [.str "often",a.pv] from rfl]
   walk_at "y"
   rw[ep]
   exact ih (by omega) (by omega) (by omega) k
  |rest=>simp only[Bd.size]at hp;omega
  |pay=>simp only[Bd.size]at hp;omega
  |put=>simp only[Bd.size]at hp;omega
  |use=>simp only[Bd.size]at hp;omega
  |yF a b=>
   simp only[Bd.size]at hs hp
   simp only[Bd.dep]at hd
   rw[show(Bd.yF a b).pv = .tup [.str "then",a.pv,b.pv] from rfl]
   walk_at "y"
   refine hN _ _ (aj fun N hN=>?_)
   walk_at "y"
   refine hN _ _ (aj fun N hN=>?_)
   walk_at "y"
   refine hN _ _ (aj fun N hN=>?_)
   walk_at "y"
   refine Cv (by omega) (by omega) fun S1 X1=>?_
   refine hN _ _ (aj fun N hN=>?_)
   walk_at "x"
   by_cases hl:p < a.size
   ·have e1:decide (((p+1:Nat):Int) < 1+(a.size:Int))=true:=Gm (by omega)
    rw[e1]
    simp only[F8]
    refine hN _ _ (aj fun N hN=>?_)
    walk_at "y"
    rw[ep]
    refine ih (by omega) (by omega) hl fun S2 X2=>?_
    refine hN _ _ (aj fun N hN=>?_)
    walk_at "y"
    refine hN _ _ (aj fun N hN=>?_)
    walk_at "y"
    refine Cb (by omega) ?_
    have:=k S2 (X1.trans X2)
    simp only[Bd.led,if_pos hl]at this
    exact this
   ·have e1:decide (((p+1:Nat):Int) < 1+(a.size:Int))=false:=FQ (by omega)
    rw[e1]
    simp only[Fz,F0]
    refine hN _ _ (aj fun N hN=>?_)
    have e2:(((p+1:Nat):Int) - (1+(a.size:Int)))=((p - a.size:Nat):Int):=by omega
    have e4:decide ((1:Int)=0)=false:=by decide
    walk_at "y"
    simp only[e4,Fz,F0]
    rw[e2]
    refine ih (by omega) (by omega) (by omega) fun S2 X2=>?_
    refine hN _ _ (aj fun N hN=>?_)
    walk_at "y"
    refine hN _ _ (aj fun N hN=>?_)
    walk_at "y"
    simp only[e4,Fz,F0]
    refine hN _ _ ?_
    walk_at "y"
    refine Cb (by omega) ?_
    have:=k S2 (X1.trans X2)
    simp only[Bd.led,if_neg hl]at this
    exact this
  |y7 a b=>
   simp only[Bd.size]at hs hp
   simp only[Bd.dep]at hd
   rw[show(Bd.y7 a b).pv = .tup [.str "either",a.pv,b.pv] from rfl]
   walk_at "y"
   refine hN _ _ (aj fun N hN=>?_)
   walk_at "y"
   refine hN _ _ (aj fun N hN=>?_)
   walk_at "y"
   refine hN _ _ (aj fun N hN=>?_)
   walk_at "y"
   refine Cv (by omega) (by omega) fun S1 X1=>?_
   refine hN _ _ (aj fun N hN=>?_)
   walk_at "x"
   by_cases hl:p < a.size
   ·have e1:decide (((p+1:Nat):Int) < 1+(a.size:Int))=true:=Gm (by omega)
    rw[e1]
    simp only[F8]
    refine hN _ _ (aj fun N hN=>?_)
    walk_at "y"
    rw[ep]
    refine ih (by omega) (by omega) hl fun S2 X2=>?_
    refine hN _ _ (aj fun N hN=>?_)
    walk_at "y"
    have:=k S2 (X1.trans X2)
    simp only[Bd.led,if_pos hl]at this
    exact this
   ·have e1:decide (((p+1:Nat):Int) < 1+(a.size:Int))=false:=FQ (by omega)
    rw[e1]
    simp only[Fz,F0]
    refine hN _ _ (aj fun N hN=>?_)
    have e2:(((p+1:Nat):Int) - (1+(a.size:Int)))=((p - a.size:Nat):Int):=by omega
    have e4:decide ((1:Int)=0)=false:=by decide
    walk_at "y"
    simp only[e4,Fz,F0]
    rw[e2]
    refine ih (by omega) (by omega) (by omega) fun S2 X2=>?_
    refine hN _ _ (aj fun N hN=>?_)
    walk_at "y"
    have:=k S2 (X1.trans X2)
    simp only[Bd.led,if_neg hl]at this
    exact this
  |y8 z q a b=>
   simp only[Bd.size]at hs hp
   simp only[Bd.dep]at hd
   rw[show(Bd.y8 z q a b).pv = .tup [.str "take",.str z,.int q,a.pv,b.pv] from rfl]
   walk_at "y"
   refine hN _ _ (aj fun N hN=>?_)
   walk_at "y"
   refine hN _ _ (aj fun N hN=>?_)
   walk_at "y"
   refine hN _ _ (aj fun N hN=>?_)
   walk_at "y"
   refine Cv (by omega) (by omega) fun S1 X1=>?_
   refine hN _ _ (aj fun N hN=>?_)
   walk_at "x"
   by_cases hl:p < a.size
   ·have e1:decide (((p+1:Nat):Int) < 1+(a.size:Int))=true:=Gm (by omega)
    rw[e1]
    simp only[F8]
    refine hN _ _ (aj fun N hN=>?_)
    walk_at "y"
    rw[ep]
    refine ih (by omega) (by omega) hl fun S2 X2=>?_
    refine hN _ _ (aj fun N hN=>?_)
    walk_at "y"
    have:=k S2 (X1.trans X2)
    simp only[Bd.led,if_pos hl]at this
    exact this
   ·have e1:decide (((p+1:Nat):Int) < 1+(a.size:Int))=false:=FQ (by omega)
    rw[e1]
    simp only[Fz,F0]
    refine hN _ _ (aj fun N hN=>?_)
    have e2:(((p+1:Nat):Int) - (1+(a.size:Int)))=((p - a.size:Nat):Int):=by omega
    have e4:decide ((1:Int)=0)=false:=by decide
    walk_at "y"
    simp only[e4,Fz,F0]
    rw[e2]
    refine ih (by omega) (by omega) (by omega) fun S2 X2=>?_
    refine hN _ _ (aj fun N hN=>?_)
    walk_at "y"
    have:=k S2 (X1.trans X2)
    simp only[Bd.led,if_neg hl]at this
    exact this
abbrev kD(n:Nat)(w:aA):Prop:=∀{S:ax} {t:Bd} {i p:Nat} {v:PV} {Q:bS} {E:b9},t.dep<=n->t.size<=900->t.yN[i]?=some p->(∀S',Ext S S'->Q (t.led p v) S')->w [t.pv,.int i,v] S Q E
theorem jT:∀{i p:Nat} {xs:List Bd},p∈aE i xs->i<=p/\p < i+xs.length
 |i,p,[],h=>by simp[aE]at h
 |i,p,t::r,h=>by
  simp only[aE]at h
  have hrec:p∈aE (i+1) r->i<=p/\p < i+(t::r).length:=fun h=>by
   have:=jT h
   rw[FG]
   omega
  split at h
  ·rcases FE.mp h with rfl|h
   ·rw[FG];omega
   ·exact hrec h
  ·exact hrec h
def Bd.A6{t:Bd}{p:Nat}(h:p∈t.yN):p < t.size:=by
 have:=jT h
 rw[t.yG]at this
 omega
def Bj{xl xo:aA}(n:Nat)(DX:fY n xl)(BM:im n xo):kD n (a8 3 (iT xl xo)):=by
 intro S t i p v Q E hd hs hi k
 unfold iT
 refine fi ?_
 rw[show aw 3 [t.pv,PV.int i,v]=[some t.pv,some (.int i),some v] from rfl]
 walk_at "x"
 refine BM hd hs fun q S1 hq X1 h1=>?_
 simp only[h1]
 rw[i5 (v:=PV.int (p:Int)) (by rw[FY,hi];rfl)]
 exact DX hd hs (Bd.A6 (Gh hi)) fun S2 X2=>k S2 (X1.trans X2)
mutual
/-- no great whole number within -/
noncomputable def b7(b:Nat):PV->Bool
 | .int i=>decide (i.natAbs<=b)
 | .tup xs=>intBs b xs
 |_=>true
noncomputable def intBs(b:Nat):List PV->Bool
 |[]=>true
 |x::r=>b7 b x&&intBs b r
end
theorem intBs_iff{b:Nat}:∀{xs:List PV},intBs b xs=true↔∀x∈xs,b7 b x=true
 |[]=>by simp[intBs]
 |x::r=>by simp[intBs,intBs_iff (xs:=r)]
def lv{b:Nat}{i:Int}(h:i.natAbs<=b):b7 b (.int i)=true:=by simp[b7,h]
def lw{b:Nat}{xs:List PV}(h:∀x∈xs,b7 b x=true):b7 b (.tup xs)=true:=by simp only[b7];exact intBs_iff.mpr h
def bc{b:Nat}{xs:List PV}(h:b7 b (.tup xs)=true):∀x∈xs,b7 b x=true:=by simp only[b7]at h;exact intBs_iff.mp h
def a_{b:Nat}{x y:PV}(hx:b7 b x=true)(hy:b7 b y=true):b7 b (.tup [x,y])=true:=by simp[b7,intBs,hx,hy]
abbrev io(n:Nat)(w:aA):Prop:=∀{S:ax} {d l x:Addr} {t:Bd} {left:Int} {Q:bS} {E:b9},yK S d l->S x=some (.lst [.int left])->x≠d->x≠l->0<=left->t.dep<=n->
  (∀v S' left',aK t v=true->zj 2 (2 * t.dep) v->b7 3 v=true->0<=left'->left'<=left->yK S' d l->S' x=some (.lst [.int left'])->Aa d l x S S'->Q v S')->w [.ref d,t.pv,.ref x] S Q E
def uT{xd s0:aA}(yE:bt xd)(n:Nat)(ih:io n s0):io (n+1) (a8 7 (du xd s0)):=by
 intro S d l x t left Q E D hx hxd AN h0 hd k
 unfold du
 refine fi ?_
 rw[show aw 7 [PV.ref d,t.pv,PV.ref x]=[some (.ref d),some t.pv,some (.ref x),none,none,none,none] from rfl]
 refine aj fun N hN=>?_
 simp only[bR,a6,ah,v3,lk,c3]
 rw[Bd.AG]
 simp only[ao,md,bJ,FH,FF]
 by_cases ht:t.hd=("then":Str)
 ·rw[if_pos ht]
  obtain⟨a,b,rfl⟩:=(Bd.Bh t).mp ht
  simp only[Bd.dep]at hd
  walk_at "y"
  simp only[Bd.tl,uC,xQ]
  refine ih (t:=a) D hx hxd AN h0 (by omega) fun v1 S1 l1 i1 t1 n1 q0 q1 D1 x1 O1=>?_
  refine ih (t:=b) D1 x1 hxd AN q0 (by omega) fun v2 S2 l2 i2 t2 n2 r0 r1 D2 x2 O2=>?_
  exact k (.tup [v1,v2]) S2 l2 (by rw[cp,i1,i2];rfl) ((zj.two (Ft _) (t1.mono (Ft _) (show _<=2 * max a.dep b.dep by omega)) (t2.mono (Ft _) (by omega))).mono (Ft _) (by simp only[Bd.dep];omega)) (a_ n1 n2) r0 (by omega) D2 x2 (O1.trans O2)
 rw[if_neg ht]
 refine hN _ _ (aj fun N hN=>?_)
 simp only[bR,jH,a6,ah,v3,lk,c3]
 simp only[ao,md,bJ,FH,FF]
 have two:∀(hd2:List PV) (a b:Bd) (N':b5->ax->Prop),.str t.hd::t.tl=hd2++[a.pv,b.pv]->a.dep<=n->b.dep<=n->(t.dep=max a.dep b.dep+1)->(∀(i:Int) y,aK t (.tup [.int i,y])=if i=0 then aK a y else if i=1 then aK b y else false)->
   ae (aG 4 (af xd [v3 0,c3 (.int 2)])) (av (aJ [v3 4,af s0 [v3 0,ah ao (v3 1) (ah bN (v3 4) (c3 (.int 2))),v3 2]])) { nx:=N',rt:=Q,ex:=gj } [some (.ref d),some (.tup (.str t.hd::t.tl)),some (.ref x),none,none,none,none] S:=by
  intro hd2 a b N' e hda hdb DY CU
  rw[e]
  refine aj fun N2 An=>?_
  walk_at "x"
  refine yE D (by decide) (by decide) fun i S1 i0 i1 D1 O1=>?_
  refine An _ _ ?_
  have hi:i=0\/i=1:=by omega
  walk_at "x"
  rw[kB hi]
  have go:∀c:Bd,c.dep<=n->c.dep<=max a.dep b.dep->(∀y,aK t (.tup [.int i,y])=aK c y)->s0 [.ref d,c.pv,.ref x] S1 (fun v S2=>Q (.tup [.int i,v]) S2) gj:=fun c hc hc2 ec=>by
   refine ih (t:=c) D1 (O1 _ _ hx hxd AN) hxd AN h0 hc fun v1 S2 l1 j1 t1 n1 q0 q1 D2 x1 O2=>?_
   exact k (.tup [.int i,v1]) S2 l1 (by rw[ec,j1]) ((zj.two (Ft _) (.int i) t1).mono (Ft _) (by rw[DY];omega)) (a_ (lv (by rcases hi with rfl|rfl<;>decide)) n1) q0 q1 D2 x1 (O1.x.trans O2)
  rcases hi with rfl|rfl
  ·exact go a hda (Nat.le_max_left _ _) fun y=>by rw[CU];rfl
  ·exact go b hdb (Nat.le_max_right _ _) fun y=>by rw[CU];rfl
 by_cases he:t.hd=("either":Str)
 ·rw[if_pos he,if_pos trivial]
  cases t with
  |y7 a b=>simp only[Bd.dep]at hd;exact two [.str "either"] a b _ rfl (by omega) (by omega) rfl (fun _ _=>rfl)
  |_=>simp[Bd.hd,al]at he
 rw[if_neg he]
 by_cases hk:t.hd=("take":Str)
 ·rw[if_pos hk]
  cases t with
  |y8 z mm a b=>simp only[Bd.dep]at hd;exact two [.str "take",.str z,.int mm] a b _ rfl (by omega) (by omega) rfl (fun _ _=>rfl)
  |_=>simp[Bd.hd,al]at hk
 rw[if_neg hk]
 refine hN _ _ (aj fun N hN=>?_)
 walk_at "x"
 intro pf hpf
 have Cc:=D.free hpf
 have hpx:pf≠x:=fun h=>by rw[h,hx]at hpf;cases hpf
 have D1:yK (aD S pf (.lst [])) d l:=D.new hpf
 have x1:(aD S pf (.lst [])) x=some (.lst [.int left]):=by rw[aq hpx.symm];exact hx
 have O1:Aa d l x S (aD S pf (.lst [])):=(zS.new hpf).x
 have f1:(aD S pf (.lst [])) pf=some (.lst []):=ac
 generalize aD S pf (.lst [])=S1 at D1 x1 O1 f1
 refine hN _ _ (aj fun N hN=>?_)
 simp only[cU,eJ,ah,af,bL,ar,v3,lk,c3]
 refine yE D1 (by decide) (by decide) fun r S2 r0 r1 D2 O2=>?_
 have x2:=O2 _ _ x1 hxd AN
 have f2:=O2 _ _ f1 Cc.1 Cc.2
 have EE:=O1.trans (O2.x (x:=x))
 simp only[ao,md,bJ,fM,fL,FH,FF]
 by_cases ho:t.hd=("often":Str)
 ·rw[if_pos ho]
  refine⟨rG (by omega) (by omega),by omega,by omega,?_⟩
  obtain⟨a,rfl⟩:=(Bd.Bi t).mp ho
  simp only[Bd.dep]at hd
  obtain⟨rr,er⟩:∃rr:Nat,r * 1=(rr:Int):=⟨r.toNat,by omega⟩
  rw[er,GN]
  refine cb (fun done σ S'=>∃(vs:List PV) (l2:Int) (x6:Option PV),σ=[some (.ref d),some (Bd.yR a).pv,some (.ref x),none,none,some (.ref pf),x6]/\vs.length<=done.length/\done.length<=rr/\(∀v∈vs,dw a v=true/\zj 2 (2 * a.dep+1) v/\b7 3 v=true)/\0<=l2/\l2<=left/\yK S' d l/\S' x=some (.lst [.int l2])/\S' pf=some (.lst vs)/\Aa d l x S S') ⟨[],left,_,rfl,Ft _,Gq _,by simp,h0,Int.le_refl _,D2,x2,f2,EE⟩ (fun _ _ _ _=>trivial) ?_ ?_
  ·rintro done y rest σ S3 K e ⟨vs,l2,x6,rfl,hv,hdl,hvs,q0,q1,D3,x3,f3,O3⟩ hK
   obtain⟨rfl,hi⟩:=kz e
   simp only[Tg.put,List.set_cons_succ,List.set_cons_zero]
   simp only[bR,a6,ah,v3,lk,c3,ao,x3,md,rE,e_,FF]
   by_cases hl2:0 < l2
   ·rw[if_pos hl2]
    refine aj fun N2 An=>?_
    walk_at "x"
    simp only[x3,md,lP]
    have e1:(if (0:Int)<=0 then if (0:Int) < (([PV.int l2]:List PV).length:Nat) then some (0:Int).toNat else none else if -((([PV.int l2]:List PV).length:Nat):Int)<=0 then some (0+((([PV.int l2]:List PV).length:Nat):Int)).toNat else none)=some 0:=rfl
    rw[e1]
    dsimp only
    have D4:yK (aD S3 x (.lst [.int (l2 - 1)])) d l:=D3.upd hxd AN
    have x4:(aD S3 x (.lst [.int (l2 - 1)])) x=some (.lst [.int (l2 - 1)]):=ac
    have f4:(aD S3 x (.lst [.int (l2 - 1)])) pf=some (.lst vs):=by rw[aq hpx];exact f3
    have O4:Aa d l x S (aD S3 x (.lst [.int (l2 - 1)])):=O3.trans .upd
    refine An _ _ ?_
    show eW _ _ _ (aD S3 x (.lst [.int (l2 - 1)]))
    generalize aD S3 x (.lst [.int (l2 - 1)])=S4 at D4 x4 f4 O4
    walk_at "x"
    refine⟨by rw[f4];trivial,yE D4 (by decide) (by decide) fun m S5 m0 m1 D5 O5=>?_⟩
    dsimp only
    unfold Bd.pv
    simp only[uC]
    refine ih (t:=a) D5 (O5 _ _ x4 hxd AN) hxd AN (by omega) (by omega) fun v S6 l6 i6 t6 n6 a0 a1 D6 x6 O6=>?_
    have f6:=O6 _ _ (O5 _ _ f4 Cc.1 Cc.2) Cc.1 Cc.2 hpx
    simp only[f6]
    refine⟨FL (show _ < 1000 by omega) (by decide),?_⟩
    refine hK _ _ ⟨vs++[.tup [.int (1+m),v]],l6,_,rfl,by simp;omega,by rw[Fv];exact hi,fun w hw=>?_,a0,by omega,D6.upd Cc.1 Cc.2,by rw[aq hpx.symm];exact x6,ac,?_⟩
    ·rcases F4.mp hw with hw|hw
     ·exact hvs w hw
     ·rw[F2.mp hw]
      exact⟨by simp[dw,i6];omega,zj.two (Ft _) (.int _) t6,a_ (lv (by omega)) n6⟩
    ·intro b o hb h1 h2 h3
     have Fh:b≠pf:=fun h=>by rw[h,hpf]at hb;cases hb
     rw[aq Fh]
     exact O6 _ _ (O5 _ _ (O4 _ _ hb h1 h2 h3) h1 h2) h1 h2 h3
   ·rw[if_neg hl2]
    exact hK _ _ ⟨vs,l2,_,rfl,by simp;omega,by rw[Fv];exact hi,hvs,q0,q1,D3,x3,f3,O3⟩
  ·rintro σ S3 ⟨vs,l2,x6,rfl,hv,hdl,hvs,q0,q1,D3,x3,f3,O3⟩
   refine hN _ _ ?_
   walk_at "x"
   simp only[f3]
   refine k (.tup vs) S3 l2 ?_ (.tup (by omega) fun v hv=>(hvs v hv).2.1) (lw fun v hv=>(hvs v hv).2.2) q0 q1 D3 x3 O3
   rw[cq,Gz]
   exact fun v hv=>(hvs v hv).1
 ·rw[if_neg ho]
  refine⟨rG (by omega) (by omega),by omega,by omega,?_⟩
  rw[Int.mul_zero]
  refine⟨trivial,?_⟩
  refine hN _ _ ?_
  walk_at "x"
  simp only[f2]
  have hp:t.plain=true:=by
   cases t with
   |yR a=>exact absurd rfl ho
   |yF=>exact absurd rfl ht
   |y7=>exact absurd rfl he
   |y8=>exact absurd rfl hk
   |_=>rfl
  refine k (.tup []) S2 left (by rw[i9 hp];rfl) (zj.nil.mono (Ft _) (show 0+1<=_ by have:=t.yM;omega)) rfl h0 (Int.le_refl _) D2 x2 EE
abbrev Dd:=List PV×Nat
noncomputable def gO(d:Dd):PV:=.tup [.tup d.1,.int d.2]
noncomputable def jU(i:Nat):PV:=.int (i:Int)
noncomputable def br(f:PV->List Dd):PV->List Dd
 | .tup [.int m,y]=>(List.replicate m.toNat (([.str "often"],0)::f y)).flatten
 |_=>[]
noncomputable def Bd.yD:Bd->PV->List Dd
 | .yR a,.tup xs=>xs.flatMap (br fun y=>a.yD y)++[([.str "often"],1)]
 | .yF a b,.tup [x,y]=>a.yD x++b.yD y
 | .y7 a b,.tup [.int i,y]=>([.str "either"],i.toNat)::(if i=0 then a.yD y else b.yD y)
 | .y8 z m a b,.tup [.int i,y]=>([.str "take",.str z,.int m],i.toNat)::(if i=0 then a.yD y else b.yD y)
 | .pay x y,_=>[([.str "pay",.tup [.int x,.int y]],0)]
 | .put z m,_=>[([.str "put",.str z,.int m],0)]
 | .use z,_=>[([.str "use",.str z],0)]
 |_,_=>[]
def cr(a:Bd)(xs:List PV):(Bd.yR a).yD (.tup xs)=xs.flatMap (br fun y=>a.yD y)++[([.str "often"],1)]:=rfl
def cu(a b:Bd)(x y:PV):(Bd.yF a b).yD (.tup [x,y])=a.yD x++b.yD y:=rfl
def cv(a b:Bd)(i:Int)(y:PV):(Bd.y7 a b).yD (.tup [.int i,y])=([.str "either"],i.toNat)::(if i=0 then a.yD y else b.yD y):=rfl
def cw(z:Str)(m:Int)(a b:Bd)(i:Int)(y:PV):(Bd.y8 z m a b).yD (.tup [.int i,y])=([.str "take",.str z,.int m],i.toNat)::(if i=0 then a.yD y else b.yD y):=rfl
noncomputable def bC(h:Str):Nat:=if h∈(["either","take","often"]:Vs) then 2 else 1
def sx(ws:List PV):Prop:=∃ds:List PyData,(∀S,zK S ws ds)/\PyData.canLayAll0 ds=true/\PyData.depthAll ds<=100/\PyData.eqvAll ds ds=true
def jn(R:List PV)(a:Nat)(d:Dd)(b:Nat):Prop:=∃(h:Str) (r:List PV) (ts:List Nat),d.1 = .str h::r/\PyData.strOk h=true/\sx d.1/\R[a]?=some (.tup (d.1++ts.map jU))/\ts.length=bC h/\ts[d.2]?=some b/\b < R.length
inductive Wk (R:List PV):Nat->List Dd->Nat->List Nat->Prop
 |nil {a:Nat}:Wk R a [] a []
 |cons {a b c:Nat} {d:Dd} {ds:List Dd} {vis:List Nat}:jn R a d b->Wk R b ds c vis->Wk R a (d::ds) c (b::vis)
def Wk.app{R:List PV}{a b c:Nat}{xs ys:List Dd}{u v:List Nat}(h:Wk R a xs b u)(g:Wk R b ys c v):Wk R a (xs++ys) c (u++v):=by
 induction h with
 |nil=>exact g
 |cons s _ ih=>exact .cons s (ih g)
def Wk.last{R:List PV}{a b:Nat}{xs:List Dd}{u:List Nat}(h:Wk R a xs b u):∃pre,a::u=pre++[b]:=by
 induction h with
 |nil=>exact⟨[],rfl⟩
 |@cons a b c d ds vis s _ ih=>
  obtain⟨pre,e⟩:=ih
  exact⟨a::pre,by rw[e];rfl⟩
def Seg(R:List PV)(f:Nat)(rs:List PV):Prop:=∀i x,rs[i]?=some x->R[f+i]?=some x
def Seg.cons{R:List PV}{f:Nat}{x:PV}{rs:List PV}(h:Seg R f (x::rs)):R[f]?=some x/\Seg R (f+1) rs:=
 ⟨by simpa using h 0 x rfl,fun i y hy=>by have:=h (i+1) y (by simpa using hy);rw[show f+1+i=f+(i+1) by omega];exact this⟩
def Seg.app{R:List PV}{f:Nat}{xs ys:List PV}(h:Seg R f (xs++ys)):Seg R f xs/\Seg R (f+xs.length) ys:=
 ⟨fun i y hy=>h i y (by rw[F3 (FU.mp hy).1];exact hy),fun i y hy=>by
  have:=h (xs.length+i) y (by rw[F9 (by omega),Hh];exact hy)
  rw[show f+xs.length+i=f+(xs.length+i) by omega];exact this⟩
noncomputable def Bd.yH(t:Bd)(f n:Nat):Nat:=if t.rows=0 then n else f
def Bd.yS(t:Bd)(f n:Nat):t.beg (f:Int) (n:Int)=((t.yH f n:Nat):Int):=by
 unfold Bd.beg Bd.yH
 split<;>rfl
def bn{R:List PV}{t:Bd}{f n:Nat}{g m:Int}(h:Seg R f (t.rowsOf g m))(hn:n < R.length):t.yH f n < R.length:=by
 unfold Bd.yH
 split
 ·exact hn
 ·rename_i h0
  have hl:=t.yC g m
  have h1:0 < (t.rowsOf g m).length:=by omega
  have:=h 0 _ (F6 h1)
  exact(FU.mp this).1
def kE{ws:List PV}{ds:List PyData}(h:∀S,zK S ws ds)(h1:PyData.canLayAll0 ds=true)(h2:PyData.depthAll ds<=100)(h3:PyData.eqvAll ds ds=true):sx ws:=⟨ds,h,h1,h2,h3⟩
def ip{z:Str}(h:PyData.strOk z=true):sx [.str z]:=kE (ds:=[.str z]) (fun _=>.cons (.str _) .nil) (by simp[PyData.canLayAll0,PyData.canLay0,h]) (by simp[PyData.depthAll,PyData.depth]) (by simp[PyData.eqvAll,PyData.eqv])
def rN{z y:Str}(h:PyData.strOk z=true)(h2:PyData.strOk y=true):sx [.str z,.str y]:=kE (ds:=[.str z,.str y]) (fun _=>.cons (.str _) (.cons (.str _) .nil)) (by simp[PyData.canLayAll0,PyData.canLay0,h,h2]) (by simp[PyData.depthAll,PyData.depth]) (by simp[PyData.eqvAll,PyData.eqv])
def gP{z y:Str}{m:Int}(h:PyData.strOk z=true)(h2:PyData.strOk y=true):sx [.str z,.str y,.int m]:=kE (ds:=[.str z,.str y,.int m]) (fun _=>.cons (.str _) (.cons (.str _) (.cons (.int _) .nil))) (by simp[PyData.canLayAll0,PyData.canLay0,h,h2]) (by simp[PyData.depthAll,PyData.depth]) (by simp[PyData.eqvAll,PyData.eqv])
def rO{z:Str}{x y:Int}(h:PyData.strOk z=true):sx [.str z,.tup [.int x,.int y]]:=kE (ds:=[.str z,.tuple [.int x,.int y]]) (fun _=>.cons (.str _) (.cons (.tup (.cons (.int _) (.cons (.int _) .nil))) .nil)) (by simp[PyData.canLayAll0,PyData.canLay0,h]) (by simp[PyData.depthAll,PyData.depth]) (by simp[PyData.eqvAll,PyData.eqv])
def jb:bC ("often":Str)=2:=by simp[bC]
def gZ:bC ("either":Str)=2:=by simp[bC]
def jV:bC ("take":Str)=2:=by simp[bC]
def pJ:bC ("pay":Str)=1:=by simp[bC,al]
def pK:bC ("put":Str)=1:=by simp[bC,al]
def pL:bC ("use":Str)=1:=by simp[bC,al]
def eM{z:String}(h:(z:Str)∈heads):PyData.strOk (z:Str)=true:=aP _ h
theorem pM{R:List PV}{f:Nat}{xs:List Dd}{u:List Nat}(h:Wk R f xs f u):∀m:Nat,∃v,Wk R f (List.replicate m xs).flatten f v
 |0=>⟨[],.nil⟩
 |m+1=>by
  obtain⟨v,hv⟩:=pM h m
  rw[Gf,Gu]
  exact⟨_,h.app hv⟩
theorem sy{R:List PV}{f:Nat}{a:Bd}(h:∀y,aK a y=true->∃u,Wk R f (([.str "often"],0)::a.yD y) f u):∀xs:List PV,xs.all (dw a)=true->∃v,Wk R f (xs.flatMap (br fun y=>a.yD y)) f v
 |[],_=>⟨[],.nil⟩
 |x::xs,e=>by
  rw[List.all_cons,Gy]at e
  obtain⟨v,hv⟩:=sy h xs e.2
  rw[GO]
  have e1:=e.1
  unfold dw at e1
  split at e1
  ·rename_i m tr
   rw[Gy]at e1
   obtain⟨u,hu⟩:=h tr e1.2
   obtain⟨w,hw⟩:=pM hu m.toNat
   exact⟨_,Wk.app hw hv⟩
  ·cases e1
def mi{a b:Bd}{v:PV}(h:aK (.yF a b) v=true):∃x y,v = .tup [x,y]/\aK a x=true/\aK b y=true:=by
 cases v with
 |tup xs=>
  by_cases h2:xs.length=2
  ·obtain⟨x,y,rfl⟩:=i8 h2
   rw[cp,Gy]at h
   exact⟨x,y,rfl,h⟩
  ·rw[fU h2]at h;cases h
 |int i=>rw[cX]at h;cases h
 |str z=>rw[cW]at h;cases h
 |_=>cases h
def mj{a b:Bd}{v:PV}(h:aK (.y7 a b) v=true):∃i y,v = .tup [.int i,y]/\((i=0/\aK a y=true)\/(i=1/\aK b y=true)):=by
 cases v with
 |tup xs=>
  by_cases h2:xs.length=2
  ·obtain⟨x,y,rfl⟩:=i8 h2
   cases x with
   |int i=>
    rw[fS]at h
    refine⟨i,y,rfl,?_⟩
    by_cases h0:i=0
    ·rw[if_pos h0]at h;exact .inl ⟨h0,h⟩
    ·rw[if_neg h0]at h
     by_cases h1:i=1
     ·rw[if_pos h1]at h;exact .inr ⟨h1,h⟩
     ·rw[if_neg h1]at h;cases h
   |_=>cases h
  ·rw[fV h2]at h;cases h
 |int i=>rw[cX]at h;cases h
 |str z=>rw[cW]at h;cases h
 |_=>cases h
def ml{z:Str}{m:Int}{a b:Bd}{v:PV}(h:aK (.y8 z m a b) v=true):∃i y,v = .tup [.int i,y]/\((i=0/\aK a y=true)\/(i=1/\aK b y=true)):=by
 cases v with
 |tup xs=>
  by_cases h2:xs.length=2
  ·obtain⟨x,y,rfl⟩:=i8 h2
   cases x with
   |int i=>
    rw[fT]at h
    refine⟨i,y,rfl,?_⟩
    by_cases h0:i=0
    ·rw[if_pos h0]at h;exact .inl ⟨h0,h⟩
    ·rw[if_neg h0]at h
     by_cases h1:i=1
     ·rw[if_pos h1]at h;exact .inr ⟨h1,h⟩
     ·rw[if_neg h1]at h;cases h
   |_=>cases h
  ·rw[fW h2]at h;cases h
 |int i=>rw[cX]at h;cases h
 |str z=>rw[cW]at h;cases h
 |_=>cases h
def pN{a:Bd}{v:PV}(h:aK (.yR a) v=true):∃xs,v = .tup xs/\xs.all (dw a)=true:=by
 cases v with
 |tup xs=>rw[cq]at h;exact⟨xs,rfl,h⟩
 |int i=>rw[cX]at h;cases h
 |str z=>rw[cW]at h;cases h
 |_=>cases h
section
variable {js us:Vs} (hj:∀z∈js,IsW z) (hu:∀z∈us,IsW z)
def fZ{R:List PV}{f n k:Nat}{a:Bd}(h:R[f]?=some (.tup [.str "often",.int (a.beg ((f:Int)+1) f),.int n])):jn R f ([.str "often"],k) ([a.yH (f+1) f,n][k]?.getD n)↔(k < 2/\[a.yH (f+1) f,n][k]?.getD n < R.length):=by
 constructor
 ·rintro⟨h',r,ts,e,_,_,e2,e3,e4,e5⟩
  refine⟨?_,e5⟩
  cases e
  rw[jb]at e3
  have:=(FU.mp e4).1
  dsimp only at this
  omega
 ·rintro⟨hk,hlt⟩
  refine⟨"often",[],[a.yH (f+1) f,n],rfl,eM (by simp[heads]),ip (eM (by simp[heads])),?_,by rw[jb];rfl,?_,hlt⟩
  ·rw[h,show((f:Int)+1)=((f+1:Nat):Int)from rfl,Bd.yS]
   rfl
  ·rcases k with _|_|k
   ·rfl
   ·rfl
   ·omega
include hj hu
theorem bP:∀(t:Bd) (R:List PV) (f n:Nat) (v:PV),aK t v=true->t.good js us->Seg R f (t.rowsOf f n)->n < R.length->∃u,Wk R (t.yH f n) (t.yD v) n u
 | .rest,R,f,n,v,_,_,_,_=>⟨[],.nil⟩
 | .pay x y,R,f,n,v,_,_,hs,hn=>by
  have h0:=(Seg.cons hs).1
  exact⟨[n],.cons ⟨"pay",[.tup [.int x,.int y]],[n],rfl,eM (by simp[heads]),rO (eM (by simp[heads])),h0,by rw[pJ];rfl,rfl,hn⟩ .nil⟩
 | .put z m,R,f,n,v,_,g,hs,hn=>by
  have h0:=(Seg.cons hs).1
  exact⟨[n],.cons ⟨"put",[.str z,.int m],[n],rfl,eM (by simp[heads]),gP (eM (by simp[heads])) (fj (hj z g.1)),h0,by rw[pK];rfl,rfl,hn⟩ .nil⟩
 | .use z,R,f,n,v,_,g,hs,hn=>by
  have h0:=(Seg.cons hs).1
  exact⟨[n],.cons ⟨"use",[.str z],[n],rfl,eM (by simp[heads]),rN (eM (by simp[heads])) (fj (hu z g)),h0,by rw[pL];rfl,rfl,hn⟩ .nil⟩
 | .yR a,R,f,n,v,hv,g,hs,hn=>by
  have ⟨h0,hs'⟩:=Seg.cons hs
  have hf:f < R.length:=(FU.mp h0).1
  have hs2:Seg R (f+1) (a.rowsOf ((f+1:Nat):Int) (f:Int)):=hs'
  have s0:jn R f ([.str "often"],0) (a.yH (f+1) f):=(fZ (k:=0) h0).mpr ⟨by omega,bn hs2 hf⟩
  have s1:jn R f ([.str "often"],1) n:=(fZ (k:=1) h0).mpr ⟨by omega,hn⟩
  have e:(Bd.yR a).yH f n=f:=by unfold Bd.yH;rw[if_neg (by simp[Bd.rows])]
  rw[e]
  cases v with
  |tup xs=>
   rw[cq]at hv
   obtain⟨w,hw⟩:=sy (R:=R) (f:=f) (a:=a) (fun y hy=>by
    obtain⟨u,BO⟩:=bP a R (f+1) f y hy g hs2 hf
    exact⟨_,.cons s0 BO⟩) xs hv
   exact⟨_,Wk.app hw (.cons s1 .nil)⟩
  |int i=>rw[cX]at hv;cases hv
  |str z=>rw[cW]at hv;cases hv
  |_=>cases hv
 | .yF a b,R,f,n,v,hv,g,hs,hn=>by
  simp only[Bd.rowsOf]at hs
  have ⟨ha,hb⟩:=Seg.app hs
  rw[Bd.yC]at hb
  have hb2:Seg R (f+a.rows) (b.rowsOf ((f+a.rows:Nat):Int) (n:Int)):=hb
  have eb:b.beg ((f:Int)+(a.rows:Int)) (n:Int)=((b.yH (f+a.rows) n:Nat):Int):=Bd.yS b (f+a.rows) n
  rw[eb]at ha
  have e:(Bd.yF a b).yH f n=a.yH f (b.yH (f+a.rows) n):=by
   unfold Bd.yH
   have er:(Bd.yF a b).rows=a.rows+b.rows:=rfl
   by_cases h1:a.rows=0
   ·rw[if_pos h1]
    by_cases h2:b.rows=0
    ·rw[if_pos h2,if_pos (by omega)]
    ·rw[if_neg h2,if_neg (by omega)];omega
   ·rw[if_neg h1,if_neg (by omega)]
  rw[e]
  obtain⟨x,y,rfl,hx,hy⟩:=mi hv
  obtain⟨u,BO⟩:=bP a R f _ x hx g.1 ha (bn hb2 hn)
  obtain⟨w,hw⟩:=bP b R _ n y hy g.2 hb2 hn
  exact⟨_,Wk.app BO hw⟩
 | .y7 a b,R,f,n,v,hv,g,hs,hn=>by
  simp only[Bd.rowsOf]at hs
  have ⟨h0,hs'⟩:=Seg.cons hs
  have ⟨ha,hb⟩:=Seg.app hs'
  rw[Bd.yC]at hb
  have ha2:Seg R (f+1) (a.rowsOf ((f+1:Nat):Int) (n:Int)):=ha
  have hb2:Seg R (f+1+a.rows) (b.rowsOf ((f+1+a.rows:Nat):Int) (n:Int)):=hb
  have e:(Bd.y7 a b).yH f n=f:=by unfold Bd.yH;rw[if_neg (by simp[Bd.rows])]
  rw[e]
  have st:∀k m,[a.yH (f+1) n,b.yH (f+1+a.rows) n][k]?=some m->jn R f ([.str "either"],k) m:=fun k m hk=>by
   have hm:m < R.length:=by
    have:=Gh hk
    simp only[FE,FN,Gi]at this
    rcases this with rfl|rfl
    ·exact bn ha2 hn
    ·exact bn hb2 hn
   refine⟨"either",[],[a.yH (f+1) n,b.yH (f+1+a.rows) n],rfl,eM (by simp[heads]),ip (eM (by simp[heads])),?_,by rw[gZ];rfl,hk,hm⟩
   rw[h0,show((f:Int)+1)=((f+1:Nat):Int)from rfl,Bd.yS,show(((f+1:Nat):Int)+(a.rows:Int))=((f+1+a.rows:Nat):Int)from rfl,Bd.yS]
   rfl
  obtain⟨i,y,rfl,hi⟩:=mj hv
  rcases hi with⟨rfl,hy⟩|⟨rfl,hy⟩
  ·obtain⟨u,BO⟩:=bP a R (f+1) n y hy g.1 ha2 hn
   exact⟨_,.cons (st 0 _ rfl) BO⟩
  ·obtain⟨u,BO⟩:=bP b R (f+1+a.rows) n y hy g.2 hb2 hn
   exact⟨_,.cons (st 1 _ rfl) BO⟩
 | .y8 z m a b,R,f,n,v,hv,g,hs,hn=>by
  simp only[Bd.rowsOf]at hs
  have ⟨h0,hs'⟩:=Seg.cons hs
  have ⟨ha,hb⟩:=Seg.app hs'
  rw[Bd.yC]at hb
  have ha2:Seg R (f+1) (a.rowsOf ((f+1:Nat):Int) (n:Int)):=ha
  have hb2:Seg R (f+1+a.rows) (b.rowsOf ((f+1+a.rows:Nat):Int) (n:Int)):=hb
  have e:(Bd.y8 z m a b).yH f n=f:=by unfold Bd.yH;rw[if_neg (by simp[Bd.rows])]
  rw[e]
  have st:∀k q,[a.yH (f+1) n,b.yH (f+1+a.rows) n][k]?=some q->jn R f ([.str "take",.str z,.int m],k) q:=fun k q hk=>by
   have hm:q < R.length:=by
    have:=Gh hk
    simp only[FE,FN,Gi]at this
    rcases this with rfl|rfl
    ·exact bn ha2 hn
    ·exact bn hb2 hn
   refine⟨"take",[.str z,.int m],[a.yH (f+1) n,b.yH (f+1+a.rows) n],rfl,eM (by simp[heads]),gP (eM (by simp[heads])) (fj (hj z g.1)),?_,by rw[jV];rfl,hk,hm⟩
   rw[h0,show((f:Int)+1)=((f+1:Nat):Int)from rfl,Bd.yS,show(((f+1:Nat):Int)+(a.rows:Int))=((f+1+a.rows:Nat):Int)from rfl,Bd.yS]
   rfl
  obtain⟨i,y,rfl,hi⟩:=ml hv
  rcases hi with⟨rfl,hy⟩|⟨rfl,hy⟩
  ·obtain⟨u,BO⟩:=bP a R (f+1) n y hy g.2.2.2.1 ha2 hn
   exact⟨_,.cons (st 0 _ rfl) BO⟩
  ·obtain⟨u,BO⟩:=bP b R (f+1+a.rows) n y hy g.2.2.2.2 hb2 hn
   exact⟨_,.cons (st 1 _ rfl) BO⟩
end
theorem Bd.tr_plain:∀t:Bd,aK t t.ptrace=true
 | .rest=>rfl
 | .pay _ _=>rfl
 | .put _ _=>rfl
 | .use _=>rfl
 | .yR a=>by rw[show(Bd.yR a).ptrace = .tup [] from rfl,cq];rfl
 | .yF a b=>by simp only[Bd.ptrace,cp,a.tr_plain,b.tr_plain];rfl
 | .y7 a b=>by simp only[Bd.ptrace,fS,F8];exact a.tr_plain
 | .y8 _ _ a b=>by simp only[Bd.ptrace];rw[fT,if_neg (by decide),if_pos rfl];exact b.tr_plain
theorem Bd.zb:∀t:Bd,zj 2 (2 * t.dep) t.ptrace
 | .rest=>zj.nil
 | .pay _ _=>zj.nil
 | .put _ _=>zj.nil
 | .use _=>zj.nil
 | .yR a=>zj.nil.mono (Ft _) (show 0+1<=2 * (a.dep+1) by omega)
 | .yF a b=>by
  have ha:=a.zb.mono (Ft _) (show 2 * a.dep<=2 * max a.dep b.dep by omega)
  have hb:=b.zb.mono (Ft _) (show 2 * b.dep<=2 * max a.dep b.dep by omega)
  exact(zj.two (Ft _) ha hb).mono (Ft _) (by simp only[Bd.dep];omega)
 | .y7 a b=>(zj.two (Ft _) (.int 0) a.zb).mono (Ft _) (by simp only[Bd.dep];omega)
 | .y8 _ _ a b=>(zj.two (Ft _) (.int 1) b.zb).mono (Ft _) (by simp only[Bd.dep];omega)
theorem Bd.zc:∀t:Bd,b7 3 t.ptrace=true
 | .rest=>rfl
 | .pay _ _=>rfl
 | .put _ _=>rfl
 | .use _=>rfl
 | .yR a=>rfl
 | .yF a b=>a_ a.zc b.zc
 | .y7 a b=>a_ rfl a.zc
 | .y8 _ _ a b=>a_ rfl b.zc
noncomputable def dl:Nat->Nat
 |0=>0
 |n+1=>7+6 * dl n
def dy{n m:Nat}(h:n<=m):dl n<=dl m:=by
 induction h with
 |refl=>exact Ft _
 |step _ ih=>simp only[dl];omega
def bz{L n:Nat}{xs:List PV}(h:zj L n (.tup xs)):xs.length<=L/\∀x∈xs,∃m,zj L m x:=by
 cases h with
 |tup hl hx=>exact⟨hl,fun x hm=>⟨_,hx x hm⟩⟩
theorem iq{α:Type}(xs:List α):∀m:Nat,(List.replicate m xs).flatten.length=m * xs.length
 |0=>by simp
 |m+1=>by rw[Gf,Gu,Fv,iq xs m,Nat.add_mul];omega
theorem aV:∀(t:Bd) (v:PV) (n:Nat),aK t v=true->zj 2 n v->b7 3 v=true->(t.yD v).length<=dl t.dep
 | .rest,v,_,_,_,_=>Gq _
 | .pay _ _,v,_,_,_,_=>show 1<=7+6 * 0 by omega
 | .put _ _,v,_,_,_,_=>show 1<=7+6 * 0 by omega
 | .use _,v,_,_,_,_=>show 1<=7+6 * 0 by omega
 | .yF a b,v,n,hv,ht,hb=>by
  obtain⟨x,y,rfl,hx,hy⟩:=mi hv
  have hm:=(bz ht).2
  have hi:=bc hb
  obtain⟨m1,h1⟩:=hm x (by simp)
  obtain⟨m2,h2⟩:=hm y (by simp)
  have la:=aV a x m1 hx h1 (hi x (by simp))
  have lb:=aV b y m2 hy h2 (hi y (by simp))
  have da:=dy (show a.dep<=max a.dep b.dep by omega)
  have db:=dy (show b.dep<=max a.dep b.dep by omega)
  simp only[cr,cu,cv,cw,Bd.dep,dl,Fv]
  omega
 | .y7 a b,v,n,hv,ht,hb=>by
  obtain⟨i,y,rfl,hi⟩:=mj hv
  obtain⟨m2,h2⟩:=(bz ht).2 y (by simp)
  have hy:=bc hb y (by simp)
  have da:=dy (show a.dep<=max a.dep b.dep by omega)
  have db:=dy (show b.dep<=max a.dep b.dep by omega)
  simp only[cr,cu,cv,cw,Bd.dep,dl,List.length_cons]
  rcases hi with⟨rfl,hq⟩|⟨rfl,hq⟩
  ·have:=aV a y m2 hq h2 hy
   rw[if_pos rfl]
   omega
  ·have:=aV b y m2 hq h2 hy
   rw[if_neg (by decide)]
   omega
 | .y8 z m a b,v,n,hv,ht,hb=>by
  obtain⟨i,y,rfl,hi⟩:=ml hv
  obtain⟨m2,h2⟩:=(bz ht).2 y (by simp)
  have hy:=bc hb y (by simp)
  have da:=dy (show a.dep<=max a.dep b.dep by omega)
  have db:=dy (show b.dep<=max a.dep b.dep by omega)
  simp only[cr,cu,cv,cw,Bd.dep,dl,List.length_cons]
  rcases hi with⟨rfl,hq⟩|⟨rfl,hq⟩
  ·have:=aV a y m2 hq h2 hy
   rw[if_pos rfl]
   omega
  ·have:=aV b y m2 hq h2 hy
   rw[if_neg (by decide)]
   omega
 | .yR a,v,n,hv,ht,hb=>by
  obtain⟨xs,rfl,hx⟩:=pN hv
  obtain⟨hl,hm⟩:=bz ht
  have hi:=bc hb
  have one:∀g∈xs,(br (fun y=>a.yD y) g).length<=3 * (1+dl a.dep):=fun g hg=>by
   have hgo:=Gz.mp hx g hg
   unfold dw at hgo
   split at hgo
   ·rename_i m tr
    rw[Gy]at hgo
    obtain⟨k,hk⟩:=hm _ hg
    obtain⟨k2,hk2⟩:=(bz hk).2 tr (by simp)
    have hb2:=bc (hi _ hg)
    have CW:=hb2 (.int m) (by simp)
    have:=aV a tr k2 hgo.2 hk2 (hb2 tr (by simp))
    simp only[b7,FF]at CW
    simp only[br]
    rw[iq,FG]
    exact Nat.mul_le_mul (by omega) (by omega)
   ·cases hgo
  have all:∀ys:List PV,(∀g∈ys,(br (fun y=>a.yD y) g).length<=3 * (1+dl a.dep))->(ys.flatMap (br fun y=>a.yD y)).length<=ys.length * (3 * (1+dl a.dep)):=by
   intro ys
   induction ys with
   |nil=>intro _;simp
   |cons y ys ih=>
    intro h
    rw[GO,Fv,FG,Nat.add_mul]
    have h1:=h y (by simp)
    have h2:=ih fun g hg=>h g (by simp[hg])
    omega
  have:=all xs one
  have h2:xs.length * (3 * (1+dl a.dep))<=2 * (3 * (1+dl a.dep)):=Nat.mul_le_mul_right _ hl
  simp only[cr,cu,cv,cw,Bd.dep,dl,Fv,List.length_singleton]
  omega
noncomputable def Bd.rowAt:Bd->Nat->Nat
 |_,0=>0
 | .yR a,p+1=>1+a.rowAt p
 | .yF a b,p+1=>if p < a.size then a.rowAt p else a.rows+b.rowAt (p - a.size)
 | .y7 a b,p+1=>1+if p < a.size then a.rowAt p else a.rows+b.rowAt (p - a.size)
 | .y8 _ _ a b,p+1=>1+if p < a.size then a.rowAt p else a.rows+b.rowAt (p - a.size)
 |_,_+1=>0
noncomputable def cZ:PV:=.tup []
def c_{a b:Bd}{p:Nat}{c:Bd}(h:(a.parts++b.parts)[p]?=some c):(p < a.size/\a.parts[p]?=some c)\/(¬p < a.size/\b.parts[p - a.size]?=some c):=by
 rw[List.getElem?_append,a.yG]at h
 by_cases hp:p < a.size
 ·rw[if_pos hp]at h;exact .inl ⟨hp,h⟩
 ·rw[if_neg hp]at h;exact .inr ⟨hp,h⟩
theorem bo:∀(t:Bd) (p:Nat) (c:Bd),t.parts[p]?=some (.yR c)->aK t (t.led p cZ)=true/\zj 2 (2 * t.dep) (t.led p cZ)/\b7 3 (t.led p cZ)=true
 | .rest,p,c,h=>by rcases p with _|p<;>simp[Bd.parts]at h
 | .pay _ _,p,c,h=>by rcases p with _|p<;>simp[Bd.parts]at h
 | .put _ _,p,c,h=>by rcases p with _|p<;>simp[Bd.parts]at h
 | .use _,p,c,h=>by rcases p with _|p<;>simp[Bd.parts]at h
 | .yR a,0,c,h=>⟨by rw[show(Bd.yR a).led 0 cZ = .tup [] from rfl,cq];rfl,zj.nil.mono (Ft _) (show 0+1<=2 * (a.dep+1) by omega),rfl⟩
 | .yR a,p+1,c,h=>by
  simp only[Bd.parts,List.getElem?_cons_succ]at h
  obtain⟨h1,h2,h3⟩:=bo a p c h
  simp only[Bd.led]
  refine⟨?_,?_,lw fun x hx=>by rw[F2.mp hx];exact a_ rfl h3⟩
  ·rw[cq];simp[dw,h1]
  ·exact(zj.tup (n:=2 * a.dep+1) (by simp) fun x hx=>by rw[F2.mp hx];exact zj.two (Ft _) (.int 1) h2).mono (Ft _) (by simp only[Bd.dep];omega)
 | .yF a b,0,c,h=>by simp[Bd.parts]at h
 | .yF a b,p+1,c,h=>by
  simp only[Bd.parts,List.getElem?_cons_succ]at h
  have fa:∀{v:PV},zj 2 (2 * a.dep) v->zj 2 (2 * max a.dep b.dep) v:=fun h=>h.mono (Ft _) (by omega)
  have fb:∀{v:PV},zj 2 (2 * b.dep) v->zj 2 (2 * max a.dep b.dep) v:=fun h=>h.mono (Ft _) (by omega)
  simp only[Bd.led]
  rcases c_ h with⟨hp,h⟩|⟨hp,h⟩
  ·obtain⟨h1,h2,h3⟩:=bo a p c h
   rw[if_pos hp]
   exact⟨by rw[cp,h1,b.tr_plain];rfl,(zj.two (Ft _) (fa h2) (fb b.zb)).mono (Ft _) (by simp only[Bd.dep];omega),a_ h3 b.zc⟩
  ·obtain⟨h1,h2,h3⟩:=bo b _ c h
   rw[if_neg hp]
   exact⟨by rw[cp,h1,a.tr_plain];rfl,(zj.two (Ft _) (fa a.zb) (fb h2)).mono (Ft _) (by simp only[Bd.dep];omega),a_ a.zc h3⟩
 | .y7 a b,0,c,h=>by simp[Bd.parts]at h
 | .y7 a b,p+1,c,h=>by
  simp only[Bd.parts,List.getElem?_cons_succ]at h
  simp only[Bd.led]
  rcases c_ h with⟨hp,h⟩|⟨hp,h⟩
  ·obtain⟨h1,h2,h3⟩:=bo a p c h
   rw[if_pos hp]
   exact⟨by rw[fS,if_pos rfl];exact h1,(zj.two (Ft _) (.int 0) h2).mono (Ft _) (by simp only[Bd.dep];omega),a_ rfl h3⟩
  ·obtain⟨h1,h2,h3⟩:=bo b _ c h
   rw[if_neg hp]
   exact⟨by rw[fS,if_neg (by decide),if_pos rfl];exact h1,(zj.two (Ft _) (.int 1) h2).mono (Ft _) (by simp only[Bd.dep];omega),a_ rfl h3⟩
 | .y8 z m a b,0,c,h=>by simp[Bd.parts]at h
 | .y8 z m a b,p+1,c,h=>by
  simp only[Bd.parts,List.getElem?_cons_succ]at h
  simp only[Bd.led]
  rcases c_ h with⟨hp,h⟩|⟨hp,h⟩
  ·obtain⟨h1,h2,h3⟩:=bo a p c h
   rw[if_pos hp]
   exact⟨by rw[fT,if_pos rfl];exact h1,(zj.two (Ft _) (.int 0) h2).mono (Ft _) (by simp only[Bd.dep];omega),a_ rfl h3⟩
  ·obtain⟨h1,h2,h3⟩:=bo b _ c h
   rw[if_neg hp]
   exact⟨by rw[fT,if_neg (by decide),if_pos rfl];exact h1,(zj.two (Ft _) (.int 1) h2).mono (Ft _) (by simp only[Bd.dep];omega),a_ rfl h3⟩
section
variable {js us:Vs} (hj:∀z∈js,IsW z) (hu:∀z∈us,IsW z)
include hj hu
theorem b3:∀(t:Bd) (p:Nat) (c:Bd) (R:List PV) (f n:Nat),t.parts[p]?=some (.yR c)->t.good js us->Seg R f (t.rowsOf f n)->n < R.length->∃u,Wk R (t.yH f n) (t.yD (t.led p cZ)) n u/\f+t.rowAt p∈t.yH f n::u
 | .rest,p,c,R,f,n,h,_,_,_=>by rcases p with _|p<;>simp[Bd.parts]at h
 | .pay _ _,p,c,R,f,n,h,_,_,_=>by rcases p with _|p<;>simp[Bd.parts]at h
 | .put _ _,p,c,R,f,n,h,_,_,_=>by rcases p with _|p<;>simp[Bd.parts]at h
 | .use _,p,c,R,f,n,h,_,_,_=>by rcases p with _|p<;>simp[Bd.parts]at h
 | .yR a,0,c,R,f,n,h,g,hs,hn=>by
  have e:(Bd.yR a).yH f n=f:=by unfold Bd.yH;rw[if_neg (by simp[Bd.rows])]
  obtain⟨u,hw⟩:=bP hj hu (.yR a) R f n ((Bd.yR a).led 0 cZ) (bo (.yR a) 0 c h).1 g hs hn
  exact⟨u,hw,by rw[e];simp[Bd.rowAt]⟩
 | .yR a,p+1,c,R,f,n,h,g,hs,hn=>by
  simp only[Bd.parts,List.getElem?_cons_succ]at h
  have ⟨h0,hs'⟩:=Seg.cons hs
  have hf:f < R.length:=(FU.mp h0).1
  have hs2:Seg R (f+1) (a.rowsOf ((f+1:Nat):Int) (f:Int)):=hs'
  have s0:jn R f ([.str "often"],0) (a.yH (f+1) f):=(fZ (k:=0) h0).mpr ⟨by omega,bn hs2 hf⟩
  have s1:jn R f ([.str "often"],1) n:=(fZ (k:=1) h0).mpr ⟨by omega,hn⟩
  have e:(Bd.yR a).yH f n=f:=by unfold Bd.yH;rw[if_neg (by simp[Bd.rows])]
  obtain⟨u,hw,hm⟩:=b3 a p c R (f+1) f h g hs2 hf
  have ed:(Bd.yR a).yD ((Bd.yR a).led (p+1) cZ)=(([.str "often"],0)::a.yD (a.led p cZ))++[([.str "often"],1)]:=by
   simp only[Bd.led,cr,cu,cv,cw,GO,List.flatMap_nil,br]
   rw[show(1:Int).toNat=1 from rfl]
   simp
  rw[e,ed]
  refine⟨_,Wk.app (.cons s0 hw) (.cons s1 .nil),?_⟩
  rw[show f+(Bd.yR a).rowAt (p+1)=f+1+a.rowAt p by simp only[Bd.rowAt];omega]
  exact F1 _ (Gp _ hm)
 | .yF a b,0,c,R,f,n,h,_,_,_=>by simp[Bd.parts]at h
 | .yF a b,p+1,c,R,f,n,h,g,hs,hn=>by
  simp only[Bd.parts,List.getElem?_cons_succ]at h
  simp only[Bd.rowsOf]at hs
  have ⟨ha,hb⟩:=Seg.app hs
  rw[Bd.yC]at hb
  have hb2:Seg R (f+a.rows) (b.rowsOf ((f+a.rows:Nat):Int) (n:Int)):=hb
  have eb:b.beg ((f:Int)+(a.rows:Int)) (n:Int)=((b.yH (f+a.rows) n:Nat):Int):=Bd.yS b (f+a.rows) n
  rw[eb]at ha
  have e:(Bd.yF a b).yH f n=a.yH f (b.yH (f+a.rows) n):=by
   unfold Bd.yH
   have er:(Bd.yF a b).rows=a.rows+b.rows:=rfl
   by_cases h1:a.rows=0
   ·rw[if_pos h1]
    by_cases h2:b.rows=0
    ·rw[if_pos h2,if_pos (by omega)]
    ·rw[if_neg h2,if_neg (by omega)];omega
   ·rw[if_neg h1,if_neg (by omega)]
  rw[e]
  rcases c_ h with⟨hp,h⟩|⟨hp,h⟩
  ·obtain⟨u,hw,hm⟩:=b3 a p c R f _ h g.1 ha (bn hb2 hn)
   obtain⟨w,Cw⟩:=bP hj hu b R _ n _ b.tr_plain g.2 hb2 hn
   have ed:(Bd.yF a b).yD ((Bd.yF a b).led (p+1) cZ)=a.yD (a.led p cZ)++b.yD b.ptrace:=by simp only[Bd.led,if_pos hp,cr,cu,cv,cw]
   rw[ed]
   refine⟨_,Wk.app hw Cw,?_⟩
   rw[show f+(Bd.yF a b).rowAt (p+1)=f+a.rowAt p by simp only[Bd.rowAt,if_pos hp]]
   rw[<-HG]
   exact Gp _ hm
  ·obtain⟨u,hw⟩:=bP hj hu a R f _ _ a.tr_plain g.1 ha (bn hb2 hn)
   obtain⟨w,Cw,hm⟩:=b3 b _ c R _ n h g.2 hb2 hn
   have ed:(Bd.yF a b).yD ((Bd.yF a b).led (p+1) cZ)=a.yD a.ptrace++b.yD (b.led (p - a.size) cZ):=by simp only[Bd.led,if_neg hp,cr,cu,cv,cw]
   rw[ed]
   refine⟨_,Wk.app hw Cw,?_⟩
   rw[show f+(Bd.yF a b).rowAt (p+1)=f+a.rows+b.rowAt (p - a.size) by simp only[Bd.rowAt,if_neg hp];omega]
   obtain⟨pre,ep⟩:=hw.last
   rw[<-HG,ep]
   rcases FE.mp hm with hm|hm
   ·rw[hm];simp
   ·exact FZ _ hm
 | .y7 a b,0,c,R,f,n,h,_,_,_=>by simp[Bd.parts]at h
 | .y7 a b,p+1,c,R,f,n,h,g,hs,hn=>by
  simp only[Bd.parts,List.getElem?_cons_succ]at h
  simp only[Bd.rowsOf]at hs
  have ⟨h0,hs'⟩:=Seg.cons hs
  have ⟨ha,hb⟩:=Seg.app hs'
  rw[Bd.yC]at hb
  have ha2:Seg R (f+1) (a.rowsOf ((f+1:Nat):Int) (n:Int)):=ha
  have hb2:Seg R (f+1+a.rows) (b.rowsOf ((f+1+a.rows:Nat):Int) (n:Int)):=hb
  have e:(Bd.y7 a b).yH f n=f:=by unfold Bd.yH;rw[if_neg (by simp[Bd.rows])]
  rw[e]
  have st:∀k m,[a.yH (f+1) n,b.yH (f+1+a.rows) n][k]?=some m->jn R f ([.str "either"],k) m:=fun k m hk=>by
   have hm:m < R.length:=by
    have:=Gh hk
    simp only[FE,FN,Gi]at this
    rcases this with rfl|rfl
    ·exact bn ha2 hn
    ·exact bn hb2 hn
   refine⟨"either",[],[a.yH (f+1) n,b.yH (f+1+a.rows) n],rfl,eM (by simp[heads]),ip (eM (by simp[heads])),?_,by rw[gZ];rfl,hk,hm⟩
   rw[h0,show((f:Int)+1)=((f+1:Nat):Int)from rfl,Bd.yS,show(((f+1:Nat):Int)+(a.rows:Int))=((f+1+a.rows:Nat):Int)from rfl,Bd.yS]
   rfl
  rcases c_ h with⟨hp,h⟩|⟨hp,h⟩
  ·obtain⟨u,hw,hm⟩:=b3 a p c R (f+1) n h g.1 ha2 hn
   have ed:(Bd.y7 a b).yD ((Bd.y7 a b).led (p+1) cZ)=([.str "either"],0)::a.yD (a.led p cZ):=by simp only[Bd.led,if_pos hp,cr,cu,cv,cw];rfl
   rw[ed]
   refine⟨_,.cons (st 0 _ rfl) hw,?_⟩
   rw[show f+(Bd.y7 a b).rowAt (p+1)=f+1+a.rowAt p by simp only[Bd.rowAt,if_pos hp];omega]
   exact F1 _ hm
  ·obtain⟨u,hw,hm⟩:=b3 b _ c R (f+1+a.rows) n h g.2 hb2 hn
   have ed:(Bd.y7 a b).yD ((Bd.y7 a b).led (p+1) cZ)=([.str "either"],1)::b.yD (b.led (p - a.size) cZ):=by simp only[Bd.led,if_neg hp,cr,cu,cv,cw];rfl
   rw[ed]
   refine⟨_,.cons (st 1 _ rfl) hw,?_⟩
   rw[show f+(Bd.y7 a b).rowAt (p+1)=f+1+a.rows+b.rowAt (p - a.size) by simp only[Bd.rowAt,if_neg hp];omega]
   exact F1 _ hm
 | .y8 z m a b,0,c,R,f,n,h,_,_,_=>by simp[Bd.parts]at h
 | .y8 z m a b,p+1,c,R,f,n,h,g,hs,hn=>by
  simp only[Bd.parts,List.getElem?_cons_succ]at h
  simp only[Bd.rowsOf]at hs
  have ⟨h0,hs'⟩:=Seg.cons hs
  have ⟨ha,hb⟩:=Seg.app hs'
  rw[Bd.yC]at hb
  have ha2:Seg R (f+1) (a.rowsOf ((f+1:Nat):Int) (n:Int)):=ha
  have hb2:Seg R (f+1+a.rows) (b.rowsOf ((f+1+a.rows:Nat):Int) (n:Int)):=hb
  have e:(Bd.y8 z m a b).yH f n=f:=by unfold Bd.yH;rw[if_neg (by simp[Bd.rows])]
  rw[e]
  have st:∀k q,[a.yH (f+1) n,b.yH (f+1+a.rows) n][k]?=some q->jn R f ([.str "take",.str z,.int m],k) q:=fun k q hk=>by
   have hm:q < R.length:=by
    have:=Gh hk
    simp only[FE,FN,Gi]at this
    rcases this with rfl|rfl
    ·exact bn ha2 hn
    ·exact bn hb2 hn
   refine⟨"take",[.str z,.int m],[a.yH (f+1) n,b.yH (f+1+a.rows) n],rfl,eM (by simp[heads]),gP (eM (by simp[heads])) (fj (hj z g.1)),?_,by rw[jV];rfl,hk,hm⟩
   rw[h0,show((f:Int)+1)=((f+1:Nat):Int)from rfl,Bd.yS,show(((f+1:Nat):Int)+(a.rows:Int))=((f+1+a.rows:Nat):Int)from rfl,Bd.yS]
   rfl
  rcases c_ h with⟨hp,h⟩|⟨hp,h⟩
  ·obtain⟨u,hw,hm⟩:=b3 a p c R (f+1) n h g.2.2.2.1 ha2 hn
   have ed:(Bd.y8 z m a b).yD ((Bd.y8 z m a b).led (p+1) cZ)=([.str "take",.str z,.int m],0)::a.yD (a.led p cZ):=by simp only[Bd.led,if_pos hp,cr,cu,cv,cw];rfl
   rw[ed]
   refine⟨_,.cons (st 0 _ rfl) hw,?_⟩
   rw[show f+(Bd.y8 z m a b).rowAt (p+1)=f+1+a.rowAt p by simp only[Bd.rowAt,if_pos hp];omega]
   exact F1 _ hm
  ·obtain⟨u,hw,hm⟩:=b3 b _ c R (f+1+a.rows) n h g.2.2.2.2 hb2 hn
   have ed:(Bd.y8 z m a b).yD ((Bd.y8 z m a b).led (p+1) cZ)=([.str "take",.str z,.int m],1)::b.yD (b.led (p - a.size) cZ):=by simp only[Bd.led,if_neg hp,cr,cu,cv,cw];rfl
   rw[ed]
   refine⟨_,.cons (st 1 _ rfl) hw,?_⟩
   rw[show f+(Bd.y8 z m a b).rowAt (p+1)=f+1+a.rows+b.rowAt (p - a.size) by simp only[Bd.rowAt,if_neg hp];omega]
   exact F1 _ hm
end
noncomputable def d5:PV->Bool | .tup (.str h::_)=>decide (h=("often":Str))|_=>false
noncomputable def aQ:Nat->List PV->List Nat
 |_,[]=>[]
 |i,x::r=>if d5 x then i::aQ (i+1) r else aQ (i+1) r
theorem bG:∀(i:Nat) (xs ys:List PV),aQ i (xs++ys)=aQ i xs++aQ (i+xs.length) ys
 |i,[],ys=>by simp[aQ]
 |i,x::xs,ys=>by
  rw[HG]
  simp only[aQ]
  rw[bG (i+1) xs ys,FG,show i+1+xs.length=i+(xs.length+1) by omega]
  split<;>rfl
theorem g6:∀(i:Nat) (xs:List PV),(aQ i xs).length<=xs.length
 |_,[]=>Ft _
 |i,t::r=>by
  simp only[aQ]
  have:=g6 (i+1) r
  split<;>simp only[List.length_cons]<;>omega
def uU(a b:Bd)(i:Nat):aE i (a.parts++b.parts)=a.yN.map (i+·)++b.yN.map (i+a.size+·):=by
 rw[fo,a.yG,<-Nat.add_zero i,ce,show i+0+a.size=(i+a.size)+0 by omega,ce]
 simp[Bd.yN]
def kF{a b:Bd}{k:Nat}{F:Nat->Nat}(Fi:∀p,p < a.size->F (p+1)=k+a.rowAt p)(Fj:∀p,F (p+a.size+1)=k+(a.rows+b.rowAt p)){f:Nat}:(aE 1 (a.parts++b.parts)).map (fun p=>f+F p)=a.yN.map (fun p=>(f+k)+a.rowAt p)++b.yN.map (fun p=>(f+k+a.rows)+b.rowAt p):=by
 rw[uU,GC,Hy,Hy]
 congr 1
 ·refine HW fun p hp=>?_
  show f+F (1+p)=_
  rw[Nat.add_comm 1 p,Fi p (Bd.A6 hp)]
  omega
 ·refine HW fun p hp=>?_
  show f+F (1+a.size+p)=_
  rw[show 1+a.size+p=p+a.size+1 by omega,Fj p]
  omega
theorem b4:∀(t:Bd) (f:Nat) (g n:Int),aQ f (t.rowsOf g n)=t.yN.map fun p=>f+t.rowAt p
 | .rest,_,_,_=>rfl
 | .pay _ _,_,_,_=>by simp[Bd.rowsOf,aQ,d5,al,Bd.yN,Bd.parts,aE,Bd.Ag]
 | .put _ _,_,_,_=>by simp[Bd.rowsOf,aQ,d5,al,Bd.yN,Bd.parts,aE,Bd.Ag]
 | .use _,_,_,_=>by simp[Bd.rowsOf,aQ,d5,al,Bd.yN,Bd.parts,aE,Bd.Ag]
 | .yR a,f,g,n=>by
  simp only[Bd.rowsOf,aQ,d5,G3,F8]
  rw[b4 a]
  simp only[Bd.yN,Bd.parts,aE,Bd.Ag,F8,FO]
  rw[show aE (0+1) a.parts=aE (1+0) a.parts from rfl,ce,Hy]
  congr 1
  refine HW fun p hp=>?_
  show f+1+a.rowAt p=f+(Bd.yR a).rowAt (1+p)
  rw[Nat.add_comm 1 p]
  simp only[Bd.rowAt]
  omega
 | .yF a b,f,g,n=>by
  simp only[Bd.rowsOf]
  rw[bG,b4 a,b4 b,Bd.yC]
  rw[show(Bd.yF a b).yN=aE 1 (a.parts++b.parts)from rfl]
  rw[kF (a:=a) (b:=b) (k:=0) (fun p hp=>by simp only[Bd.rowAt,if_pos hp];omega) (fun p=>by rw[show p+a.size+1=(p+a.size)+1 from rfl];simp only[Bd.rowAt];rw[if_neg (by omega),Ia];omega)]
  simp
 | .y7 a b,f,g,n=>by
  simp only[Bd.rowsOf,aQ]
  rw[if_neg (by simp[d5,al]),bG,b4 a,b4 b,Bd.yC]
  rw[show(Bd.y7 a b).yN=aE 1 (a.parts++b.parts)from rfl]
  rw[kF (a:=a) (b:=b) (k:=1) (fun p hp=>by simp only[Bd.rowAt,if_pos hp]) (fun p=>by simp only[Bd.rowAt];rw[if_neg (by omega),Ia])]
 | .y8 z m a b,f,g,n=>by
  simp only[Bd.rowsOf,aQ]
  rw[if_neg (by simp[d5,al]),bG,b4 a,b4 b,Bd.yC]
  rw[show(Bd.y8 z m a b).yN=aE 1 (a.parts++b.parts)from rfl]
  rw[kF (a:=a) (b:=b) (k:=1) (fun p hp=>by simp only[Bd.rowAt,if_pos hp]) (fun p=>by simp only[Bd.rowAt];rw[if_neg (by omega),Ia])]
end C
namespace G17
open PySem L2 L3
noncomputable def bj(i:Nat):Stmt:=PySem.Challenge.pw_dueworth_k17_whole_traces_gone_by_charts.main.body.getD i (.Pass ⟨0,0,0,0⟩)
structure Txt (P:Program) (w:World) (K:Vo) (mg:Vr):Prop where
 o_sides_of:bb K mg "sides_of" (bj 2) ["body"]
 o_parts_in:bb K mg "parts_in" (bj 3) ["body"]
 o_parts:bb K mg "parts" (bj 4) ["body"]
 o_has_row:bb K mg "has_row" (bj 6) ["part"]
 o_rows_in:bb K mg "rows_in" (bj 7) ["body"]
 o_begin:bb K mg "begin" (bj 8) ["body","first","behind"]
 o_rows_of_then:bb K mg "rows_of_then" (bj 9) ["body","first","behind"]
 o_rows_of_choice:bb K mg "rows_of_choice" (bj 10) ["body","first","behind"]
 o_rows_of_often:bb K mg "rows_of_often" (bj 11) ["body","first","behind"]
 o_rows_of:bb K mg "rows_of" (bj 12) ["body","first","behind"]
 o_chart:bb K mg "chart" (bj 13) ["body"]
 o_is_whole:bb K mg "is_whole" (bj 15) ["thing"]
 o_is_many:bb K mg "is_many" (bj 16) ["thing"]
 o_is_going:bb K mg "is_going" (bj 17) ["body","going"]
 o_is_trace:bb K mg "is_trace" (bj 18) ["body","trace"]
 o_chosen:bb K mg "chosen" (bj 19) ["body","trace"]
 o_plain_trace:bb K mg "plain_trace" (bj 20) ["body"]
 o_often_places:bb K mg "often_places" (bj 21) ["body"]
 o_oftens:bb K mg "oftens" (bj 22) ["body"]
 o_led_to_part:bb K mg "led_to_part" (bj 23) ["body","place","trace"]
 o_led_to:bb K mg "led_to" (bj 24) ["body","number","goings"]
 o__law_deal:bb K mg "_law_deal" (bj 26) ["_law_script","_law_base"]
 o__law_draw:bb K mg "_law_draw" (bj 27) ["_law_deal_here","_law_many"]
 o__law_words:bb K mg "_law_words" (bj 28) ["_law_deal_here","_law_many"]
 o__law_low:bb K mg "_law_low" (bj 29) ["_law_top","_law_bottom"]
 o__law_cost:bb K mg "_law_cost" (bj 30) ["_law_deal_here"]
 o__law_leaf:bb K mg "_law_leaf" (bj 31) ["_law_deal_here","_law_jars"]
 o__law_body:bb K mg "_law_body" (bj 32) ["_law_deal_here","_law_jars","_law_left","_law_down"]
 o__law_trace:bb K mg "_law_trace" (bj 33) ["_law_deal_here","_law_body_here","_law_left"]
 o__law_used:bb K mg "_law_used" (bj 34) ["_law_deal_here","_law_body_here","_law_names"]
 o__law_done:bb K mg "_law_done" (bj 35) ["_law_body_here","_law_trace_here"]
 o__law_gone:bb K mg "_law_gone" (bj 36) ["_law_rows","_law_deeds"]
 o__law_ends:bb K mg "_law_ends" (bj 37) ["_law_body_here","_law_rows","_law_trace_here"]
 o__law_right:bb K mg "_law_right" (bj 38) ["_law_deal_here","_law_body_here"]
 CZ:mg "all" = none
 BP:mg "bool" = none
 A7:mg "enumerate" = none
 Bt:mg "int" = none
 yO:mg "isinstance" = none
 yW:mg "len" = none
 Cy:mg "list" = none
 Cd:mg "max" = none
 zv:mg "range" = none
 Bl:mg "reversed" = none
 Ah:mg "tuple" = none
 AR:∃a,mg "SIDES_FROM" = some (.ref a)/\KD P w K a (C.k_SIDES_FROM.map fun kv=>(kv.1,V.int kv.2))
section
variable {P:Program} {w:World} {K:Vo} {mg:Vr} {base:Heap}
def xS:(["part"]:Vs).Nodup:=by decide +kernel
def xT:(["going","body"]:Vs).Nodup:=by decide +kernel
def wv:(["place","part"]:Vs).Nodup:=by decide +kernel
def ww:(["_law_one"]:Vs).Nodup:=by decide +kernel
def xU:(["_law_k","_law_deal_here","_law_letters"]:Vs).Nodup:=by decide +kernel
def xV:(["_law_j","_law_deal_here","_law_letters"]:Vs).Nodup:=by decide +kernel
def xW:(["_law_at","_law_rows"]:Vs).Nodup:=by decide +kernel
def ft:aA:=a8 1 C.fe
def lx(T:Txt P w K mg):yV P w K mg base 1 "sides_of" 1 ft:=eE ["body"] T.o_sides_of (fun _ _ _ _ _ _ _ hr nd=>(ag (am (bw (ad 0) (bM (yv hr T.AR (bB hr (ad 0)) (cB bp T.yW (l1 (ad 0))))) cL)))) rfl
noncomputable def dz:Nat->aA
 |0=>ma
 |n+1=>a8 3 (C.ff ft (dz n))
def dA:aA:=dz 12
def d6(T:Txt P w K mg):yV P w K mg base 13 "parts_in" 1 dA:=lm (b:=1) (r:=dz) T.o_parts_in (fun n R0=>eE ["body","found","side"] T.o_parts_in (fun _ _ _ _ _ _ _ hr nd=>(aa (s4 1 nd (cj (l1 (ad 0))))
  (aa (fN Gd rfl (gY (c4 (lx T) hr (l1 (ad 0)))) (gn 2 nd) (ag (kj (ux nL o7 (ad 1) (l1 (c4 R0 hr (l1 (ad 2))))))))
  (ag (am (ad 1)))))) rfl) rfl rfl 12
def kG:aA:=a8 1 (C.ku dA)
def pO(T:Txt P w K mg):yV P w K mg base 14 "parts" 1 kG:=eE ["body"] T.o_parts (fun _ _ _ _ _ _ _ hr nd=>(ag (am (cB bp T.yW (l1 (c4 (d6 T) hr (l1 (ad 0)))))))) rfl
def gQ:aA:=a8 1 C.gD
def mn(T:Txt P w K mg):yV P w K mg base 1 "has_row" 1 gQ:=eE ["part"] T.o_has_row (fun _ _ _ _ _ _ _ hr nd=>(ag (am (eR (iG (eX hr)) (bB hr (ad 0)) (aC (lc ap (l1 ap))) rfl)))) rfl
def bH:aA:=a8 1 (C.gE dA gQ)
def dB(T:Txt P w K mg):yV P w K mg base 14 "rows_in" 1 bH:=eE ["body"] T.o_rows_in (fun _ _ _ _ _ _ _ hr nd=>(ag (am (cB bp T.yW (l1 (ve [] 1 [] ["part"] (gY (c4 (d6 T) hr (l1 (ad 0)))) (fun _=>(gn 0 xS)) (fun _=>(mR (dP (c4 (mn T) hr (l1 (ad 0)))))) (fun _=>(ad 0)))))))) rfl
def cC:aA:=a8 3 (C.kw bH)
def f7(T:Txt P w K mg):yV P w K mg base 15 "begin" 3 cC:=eE ["body","first","behind"] T.o_begin (fun _ _ _ _ _ _ _ hr nd=>(aa (aX (fh hr (c4 (dB T) hr (l1 (ad 0))) ab) (ag (am (ad 2))) aF)
  (ag (am (ad 1))))) rfl
noncomputable def ai:Nat->aA×aA×aA×aA
 |0=>(ma,ma,ma,ma)
 |n+1=>(a8 5 (C.bO bH cC (ai n).1 (ai n).2.1 (ai n).2.2.1 (ai n).2.2.2),a8 7 (C.bm bH cC (ai n).1 (ai n).2.1 (ai n).2.2.1 (ai n).2.2.2),a8 4 (C.bx cC (ai n).1 (ai n).2.1 (ai n).2.2.1 (ai n).2.2.2),a8 4 (C.eC (ai n).1 (ai n).2.1 (ai n).2.2.1 (ai n).2.2.2))
def bi(n:Nat):aA:=(ai n).1
def ba(n:Nat):aA:=(ai n).2.1
def bd(n:Nat):aA:=(ai n).2.2.1
def eG(n:Nat):aA:=(ai n).2.2.2
def h_(T:Txt P w K mg)(n:Nat){s0 s1 s2 s3:aA}(R0:yV P w K mg base (15+n) "rows_of_then" 3 s0)(R1:yV P w K mg base (15+n) "rows_of_choice" 3 s1)(R2:yV P w K mg base (15+n) "rows_of_often" 3 s2)(R3:yV P w K mg base (15+n) "rows_of" 3 s3):yV P w K mg base (15+n+1) "rows_of_then" 3 (a8 5 (C.bO bH cC s0 s1 s2 s3)):=eE ["body","first","behind","second","onward"] T.o_rows_of_then (fun _ _ _ _ _ _ _ hr nd=>(aa (s4 3 nd (az au (ad 1) (c4 (dB T) hr (l1 (bB hr (ad 0))))))
  (aa (s4 4 nd (c4 (f7 T) hr (lc (bB hr (ad 0)) (lc (ad 3) (l1 (ad 2))))))
  (ag (am (az au (c4 R3 hr (lc (bB hr (ad 0)) (lc (ad 1) (l1 (ad 4))))) (c4 R3 hr (lc (bB hr (ad 0)) (lc (ad 3) (l1 (ad 2))))))))))) rfl
def f8(T:Txt P w K mg)(n:Nat){s0 s1 s2 s3:aA}(R0:yV P w K mg base (15+n) "rows_of_then" 3 s0)(R1:yV P w K mg base (15+n) "rows_of_choice" 3 s1)(R2:yV P w K mg base (15+n) "rows_of_often" 3 s2)(R3:yV P w K mg base (15+n) "rows_of" 3 s3):yV P w K mg base (15+n+1) "rows_of_choice" 3 (a8 7 (C.bm bH cC s0 s1 s2 s3)):=eE ["body","first","behind","one","other","second","row"] T.o_rows_of_choice (fun _ _ _ _ _ _ _ hr nd=>(aa (s4 3 nd (eY hr (ad 0) (gx bU ab)))
  (aa (s4 4 nd (eY hr (ad 0) (gx bU ab)))
  (aa (s4 5 nd (az au (az au (ad 1) ab) (c4 (dB T) hr (l1 (ad 3)))))
  (aa (s4 6 nd (az au (bw (ad 0) cL (bM (gx bU ab))) (aC (lc (c4 (f7 T) hr (lc (ad 3) (lc (az au (ad 1) ab) (l1 (ad 2))))) (l1 (c4 (f7 T) hr (lc (ad 4) (lc (ad 5) (l1 (ad 2))))))))))
  (ag (am (az au (az au (aC (l1 (ad 6))) (c4 R3 hr (lc (ad 3) (lc (az au (ad 1) ab) (l1 (ad 2)))))) (c4 R3 hr (lc (ad 4) (lc (ad 5) (l1 (ad 2))))))))))))) rfl
def gR(T:Txt P w K mg)(n:Nat){s0 s1 s2 s3:aA}(R0:yV P w K mg base (15+n) "rows_of_then" 3 s0)(R1:yV P w K mg base (15+n) "rows_of_choice" 3 s1)(R2:yV P w K mg base (15+n) "rows_of_often" 3 s2)(R3:yV P w K mg base (15+n) "rows_of" 3 s3):yV P w K mg base (15+n+1) "rows_of_often" 3 (a8 4 (C.bx cC s0 s1 s2 s3)):=eE ["body","first","behind","row"] T.o_rows_of_often (fun _ _ _ _ _ _ _ hr nd=>(aa (s4 3 nd (aC (lc ap (lc (c4 (f7 T) hr (lc (bB hr (ad 0)) (lc (az au (ad 1) ab) (l1 (ad 1))))) (l1 (ad 2))))))
  (ag (am (az au (aC (l1 (ad 3))) (c4 R3 hr (lc (bB hr (ad 0)) (lc (az au (ad 1) ab) (l1 (ad 1)))))))))) rfl
def mo(T:Txt P w K mg)(n:Nat){s0 s1 s2 s3:aA}(R0:yV P w K mg base (15+n) "rows_of_then" 3 s0)(R1:yV P w K mg base (15+n) "rows_of_choice" 3 s1)(R2:yV P w K mg base (15+n) "rows_of_often" 3 s2)(R3:yV P w K mg base (15+n) "rows_of" 3 s3):yV P w K mg base (15+n+1) "rows_of" 3 (a8 4 (C.eC s0 s1 s2 s3)):=eE ["body","first","behind","head"] T.o_rows_of (fun _ _ _ _ _ _ _ hr nd=>(aa (s4 3 nd (bB hr (ad 0)))
  (aa (aX (fh hr (ad 3) ap) (ag (am (aC fI))) aF)
  (aa (aX (fh hr (ad 3) ap) (ag (am (c4 R0 hr (lc (ad 0) (lc (ad 1) (l1 (ad 2))))))) aF)
  (aa (aX (fh hr (ad 3) ap) (ag (am (c4 R2 hr (lc (ad 0) (lc (ad 1) (l1 (ad 2))))))) aF)
  (aa (aX (bg (iF (eX hr)) (ad 3) (aC (lc ap (l1 ap))) rfl) (ag (am (c4 R1 hr (lc (ad 0) (lc (ad 1) (l1 (ad 2))))))) aF)
  (ag (am (aC (l1 (az au (ad 0) (aC (l1 (ad 2)))))))))))))) rfl
theorem de(T:Txt P w K mg):∀n:Nat,yV P w K mg base (15+n) "rows_of_then" 3 (bi n)/\yV P w K mg base (15+n) "rows_of_choice" 3 (ba n)/\yV P w K mg base (15+n) "rows_of_often" 3 (bd n)/\yV P w K mg base (15+n) "rows_of" 3 (eG n)
 |0=>⟨.zero T.o_rows_of_then,.zero T.o_rows_of_choice,.zero T.o_rows_of_often,.zero T.o_rows_of⟩
 |n+1=>let ⟨h0,h1,h2,h3⟩:=de T n;⟨h_ T n h0 h1 h2 h3,f8 T n h0 h1 h2 h3,gR T n h0 h1 h2 h3,mo T n h0 h1 h2 h3⟩
def jW:aA:=eG 12
def mq(T:Txt P w K mg):yV P w K mg base 27 "rows_of" 3 jW:=(de T 12).2.2.2
def kH:aA:=a8 1 (C.kx jW bH)
def pP(T:Txt P w K mg):yV P w K mg base 28 "chart" 1 kH:=eE ["body"] T.o_chart (fun _ _ _ _ _ _ _ hr nd=>(ag (am (az au (c4 (mq T) hr (lc (ad 0) (lc ab (l1 (c4 (dB T) hr (l1 (ad 0))))))) (aC (l1 (aC (l1 ap)))))))) rfl
def cx:aA:=a8 1 C.fg
def g7(T:Txt P w K mg):yV P w K mg base 1 "is_whole" 1 cx:=eE ["thing"] T.o_is_whole (fun _ _ _ _ _ _ _ hr nd=>(ag (am (gV (cB iK T.yO (lc (ad 0) (l1 (uy T.Bt)))) (jI (v5 (cB iK T.yO (lc (ad 0) (l1 (uy T.BP)))))))))) rfl
def eI:aA:=a8 1 (C.gF cx)
def mr(T:Txt P w K mg):yV P w K mg base 2 "is_many" 1 eI:=eE ["thing"] T.o_is_many (fun _ _ _ _ _ _ _ hr nd=>(ag (am (gV (c4 (g7 T) hr (l1 (ad 0))) (jI (eR uu (ad 0) ab (aT _))))))) rfl
def f9:aA:=a8 2 C.iS
def nS(T:Txt P w K mg):yV P w K mg base 1 "chosen" 2 f9:=eE ["body","trace"] T.o_chosen (fun _ _ _ _ _ _ _ hr nd=>(ag (am (eY hr (ad 0) (az au (gx bU ab) (bB hr (ad 1))))))) rfl
noncomputable def bI:Nat->aA×aA
 |0=>(ma,ma)
 |n+1=>(a8 2 (C.dn eI (bI n).1 (bI n).2),a8 3 (C.dr cx f9 (bI n).1 (bI n).2))
def fu(n:Nat):aA:=(bI n).1
def fw(n:Nat):aA:=(bI n).2
def ly(T:Txt P w K mg)(n:Nat){s0 s1:aA}(R0:yV P w K mg base (2+n) "is_going" 2 s0)(R1:yV P w K mg base (2+n) "is_trace" 2 s1):yV P w K mg base (2+n+1) "is_going" 2 (a8 2 (C.dn eI s0 s1)):=eE ["body","going"] T.o_is_going (fun _ _ _ _ _ _ _ hr nd=>(aa (aX (nZ (gw (fJ (dP (cB iK T.yO (lc (ad 1) (l1 (uy T.Ah)))))) (eS (vd hr (cB bp T.yW (l1 (ad 1))) ab)))) (ag (am hW)) aF)
  (ag (am (gV (c4 (mr T) hr (l1 (bB hr (ad 1)))) (jI (c4 R1 hr (lc (ad 0) (l1 (bB hr (ad 1))))))))))) rfl
def lz(T:Txt P w K mg)(n:Nat){s0 s1:aA}(R0:yV P w K mg base (2+n) "is_going" 2 s0)(R1:yV P w K mg base (2+n) "is_trace" 2 s1):yV P w K mg base (2+n+1) "is_trace" 2 (a8 3 (C.dr cx f9 s0 s1)):=eE ["body","trace","head"] T.o_is_trace (fun _ _ _ _ _ _ _ hr nd=>(aa (aX (fJ (dP (cB iK T.yO (lc (ad 1) (l1 (uy T.Ah)))))) (ag (am hW)) aF)
  (aa (s4 2 nd (bB hr (ad 0)))
  (aa (aX (fh hr (ad 2) ap) (ag (am (cB (wf rfl) T.CZ (l1 (ve ["body"] 1 [0] ["going","body"] (gY (ad 1)) (fun _=>(gn 0 xT)) (fun _=>mQ) (fun _=>(c4 R0 hr (lc (bB hr (ad 1)) (l1 (ad 0)))))))))) aF)
  (aa (aX (bg (iG (eX hr)) (ad 2) (aC (lc ap (lc ap (l1 ap)))) rfl) (ag (am (eR (jJ (iR hr)) (ad 1) (aC fI) (aT _)))) aF)
  (aa (aX (vd hr (cB bp T.yW (l1 (ad 1))) ab) (ag (am hW)) aF)
  (aa (aX (fh hr (ad 2) ap) (ag (am (gV (c4 R1 hr (lc (bB hr (ad 0)) (l1 (bB hr (ad 1))))) (jI (c4 R1 hr (lc (bB hr (ad 0)) (l1 (bB hr (ad 1))))))))) aF)
  (ag (am (gV (c4 (g7 T) hr (l1 (bB hr (ad 1)))) (gV (eR (iF (eX hr)) (bB hr (ad 1)) (aC (lc ab (l1 ab))) rfl) (jI (c4 R1 hr (lc (c4 (nS T) hr (lc (ad 0) (l1 (ad 1)))) (l1 (bB hr (ad 1))))))))))))))))) rfl
theorem f_(T:Txt P w K mg):∀n:Nat,yV P w K mg base (2+n) "is_going" 2 (fu n)/\yV P w K mg base (2+n) "is_trace" 2 (fw n)
 |0=>⟨.zero T.o_is_going,.zero T.o_is_trace⟩
 |n+1=>let ⟨h0,h1⟩:=f_ T n;⟨ly T n h0 h1,lz T n h0 h1⟩
def fx:aA:=fw 12
def lA(T:Txt P w K mg):yV P w K mg base 14 "is_trace" 2 fx:=(f_ T 12).2
noncomputable def bX:Nat->aA
 |0=>ma
 |n+1=>a8 1 (C.cM (bX n))
def cP:aA:=bX 12
def cy(T:Txt P w K mg):yV P w K mg base 12 "plain_trace" 1 cP:=lm (b:=0) (r:=bX) T.o_plain_trace (fun n R0=>eE ["body"] T.o_plain_trace (fun _ _ _ _ _ _ _ hr nd=>(aa (aX (fh hr (bB hr (ad 0)) ap) (ag (am (aC (lc (c4 R0 hr (l1 (bB hr (ad 0)))) (l1 (c4 R0 hr (l1 (bB hr (ad 0))))))))) aF)
  (aa (aX (fh hr (bB hr (ad 0)) ap) (ag (am (aC (lc ab (l1 (c4 R0 hr (l1 (bB hr (ad 0))))))))) aF)
  (aa (aX (fh hr (bB hr (ad 0)) ap) (ag (am (aC (lc ab (l1 (c4 R0 hr (l1 (bB hr (ad 0))))))))) aF)
  (ag (am (aC fI))))))) rfl) rfl rfl 12
def bQ:aA:=a8 1 (C.cn dA)
def dI(T:Txt P w K mg):yV P w K mg base 14 "often_places" 1 bQ:=eE ["body"] T.o_often_places (fun _ _ _ _ _ _ _ hr nd=>(ag (am (ve [] 2 [] ["place","part"] (uf rfl rfl T.A7 (by decide +kernel) (l1 (c4 (d6 T) hr (l1 (ad 0))))) (fun _=>(xI rfl (gA (gn 0 wv) (gA (gn 1 wv) o_)))) (fun _=>(mR (fh hr (bB hr (ad 1)) ap))) (fun _=>(ad 0)))))) rfl
def jc(zo:aA):bv:=(av (ar bA [(af zo [(v3 0)])]))
def jd:aA:=a8 1 (jc bQ)
def nT(T:Txt P w K mg):yV P w K mg base 15 "oftens" 1 jd:=eE ["body"] T.o_oftens (fun _ _ _ _ _ _ _ hr nd=>(ag (am (cB bp T.yW (l1 (c4 (dI T) hr (l1 (ad 0)))))))) rfl
noncomputable def bY:Nat->aA
 |0=>ma
 |n+1=>a8 8 (C.cO kG cP (bY n))
def eZ:aA:=bY 12
def je(T:Txt P w K mg):yV P w K mg base 26 "led_to_part" 3 eZ:=lm (b:=14) (r:=bY) T.o_led_to_part (fun n R0=>eE ["body","place","trace","one","other","second","side","inner"] T.o_led_to_part (fun _ _ _ _ _ _ _ hr nd=>(aa (aX (fh hr (ad 1) ab) (ag (am (ad 2))) aF)
  (aa (aX (fh hr (bB hr (ad 0)) ap) (ag (am (aC (l1 (aC (lc ab (l1 (c4 R0 hr (lc (bB hr (ad 0)) (lc (az cA (ad 1) ab) (l1 (ad 2)))))))))))) aF)
  (aa (s4 3 nd (eY hr (ad 0) (gx bU ab)))
  (aa (s4 4 nd (eY hr (ad 0) (gx bU ab)))
  (aa (s4 5 nd (az au ab (c4 (pO T) hr (l1 (ad 3)))))
  (aa (s4 6 nd (ss (bg ll (ad 1) (ad 5) (aT _)) ab ab))
  (aa (s4 7 nd (ss (fh hr (ad 6) ab) (c4 R0 hr (lc (ad 3) (lc (az cA (ad 1) ab) (l1 (ad 2))))) (c4 R0 hr (lc (ad 4) (lc (az cA (ad 1) (ad 5)) (l1 (ad 2)))))))
  (aa (aX (vd hr (bB hr (ad 0)) ap) (ag (am (aC (lc (ad 6) (l1 (ad 7)))))) aF)
  (aa (aX (fh hr (ad 6) ab) (ag (am (aC (lc (ad 7) (l1 (c4 (cy T) hr (l1 (ad 4)))))))) aF)
  (ag (am (aC (lc (c4 (cy T) hr (l1 (ad 3))) (l1 (ad 7)))))))))))))))) rfl) rfl rfl 12
def jf:aA:=a8 3 (C.iT eZ bQ)
def nU(T:Txt P w K mg):yV P w K mg base 27 "led_to" 3 jf:=eE ["body","number","goings"] T.o_led_to (fun _ _ _ _ _ _ _ hr nd=>(ag (am (c4 (je T) hr (lc (ad 0) (lc (eY hr (c4 (dI T) hr (l1 (ad 0))) (ad 1)) (l1 (ad 2)))))))) rfl
def g_:aA:=a8 5 C.dU
def kI(T:Txt P w K mg):yV P w K mg base 1 "_law_deal" 2 g_:=eE ["_law_script","_law_base","_law_one","_law_some","_law_number"] T.o__law_deal (fun _ _ _ _ _ _ _ hr nd=>(aa (yc [] 1 [] ["_law_one"] 3 nd (gY (bw (ad 0) (bM (ad 1)) (bM ab))) (fun _=>(gn 0 ww)) (fun _=>mQ) (fun _=>(cB (o2 rfl) T.Cd (lc (ad 0) (l1 (az cA ab (ad 0)))))))
  (aa (s4 4 nd (az au ab (ad 1)))
  (aa (fN Gd rfl (gY (ad 3)) (gn 2 nd) (ag (s4 4 nd (az dS (az au (az dQ (ad 4) ab) (az dS (ad 2) ab)) ab))))
  (ag (am (uo (kr ap (ad 4) (kr ap ab (kr ap (ur nq rfl (ve [] 1 [] ["_law_one"] (gY (ad 3)) (fun _=>(gn 0 ww)) (fun _=>(mR (bg uu (ad 0) (az wo ab ab) (aT _)))) (fun _=>(ad 0))) rfl T.Cy rfl T.Bl) um)))))))))) rfl
def w__law_draw:aA:=a8 5 C.dW
def ak(T:Txt P w K mg):yV P w K mg base 1 "_law_draw" 2 w__law_draw:=eE ["_law_deal_here","_law_many","_law_number","_law_one","_law_other"] T.o__law_draw (fun _ _ _ _ _ _ _ hr nd=>(aa (km Gd (nZ (sr (fh hr (eY hr (ad 0) ap) ab) (oY (bg rF (cB bp T.yW (l1 (eY hr (ad 0) ap))) ab (aT _))))) (ag (jM (hu1 hr) (xO uw wk (eY hr (ad 0) ap)) (ad 0) ap)))
  (aa (s4 2 nd (eY hr (ad 0) ap))
  (aa (aX (bg rF (ad 2) ab (aT _)) (aa (jM (hu1 hr) (az l_ (ad 2) (ad 1)) (ad 0) ap)
  (ag (am (az dS (ad 2) (ad 1))))) aF)
  (aa (s4 3 nd (az dS (az au (az dQ (eY hr (ad 0) ap) ab) ab) ab))
  (aa (jM (hu1 hr) (az dS (az au (az dQ (ad 3) ab) ab) ab) (ad 0) ap)
  (aa (s4 4 nd (az dS (az dQ (eY hr (ad 0) ap) (eY hr (ad 0) ap)) ab))
  (ag (am (az dS (az au (az dQ (az dS (az dQ (ad 3) (ad 3)) ab) ab) (ad 4)) (ad 1))))))))))) rfl
def dC:aA:=a8 11 (C.dm w__law_draw)
def jo(T:Txt P w K mg):yV P w K mg base 2 "_law_words" 2 dC:=eE ["_law_deal_here","_law_many","_law_letters","_law_taken","_law_k","_law_core","_law_at","_law_turn","_law_near","_law_found","_law_name"] T.o__law_words (fun _ _ _ _ _ _ _ hr nd=>(aa (s4 2 nd ap)
  (aa (s4 3 nd (cj (lc ap (lc ap (lc ap (lc ap (lc ap (lc ap (lc ap (lc ap (lc ap (l1 ap))))))))))))
  (aa (s4 5 nd (ux mT o8 ap (l1 (ve ["_law_letters","_law_deal_here"] 1 [0,2] ["_law_k","_law_deal_here","_law_letters"] (bZ rfl rfl T.zv (l1 (c4 (ak T) hr (lc (ad 0) (l1 ab))))) (fun _=>(gn 0 xU)) (fun _=>mQ) (fun _=>(eY hr (ad 2) (c4 (ak T) hr (lc (ad 1) (l1 ab)))))))))
  (aa (rn (i:=6) (j:=7) (k:=8) rfl nd rfl rfl rfl rfl rfl rfl (aC (lc (c4 (ak T) hr (lc (ad 0) (l1 (az au (cB bp T.yW (l1 (ad 5))) ab)))) (lc (c4 (ak T) hr (lc (ad 0) (l1 ab))) (l1 (eR (jJ (iR hr)) (c4 (ak T) hr (lc (ad 0) (l1 ab))) ab (aT _)))))))
  (aa (s4 9 nd (cj fI))
  (aa (fN Gd rfl (bZ rfl rfl T.zv (l1 (ad 1))) (gn 4 nd) (aa (s4 10 nd (az au (az au (bw (ad 5) cL (bM (ad 6))) (eY hr (ad 2) (az dS (az au (ad 7) (ad 4)) ab))) (bw (ad 5) (bM (ad 6)) cL)))
  (aa (aX (fJ (dP (ad 8))) (ag (s4 10 nd (ux mT o8 ap (l1 (ve ["_law_letters","_law_deal_here"] 1 [0,2] ["_law_j","_law_deal_here","_law_letters"] (bZ rfl rfl T.zv (l1 (az au ab (c4 (ak T) hr (lc (ad 0) (l1 ab)))))) (fun _=>(gn 0 xV)) (fun _=>mQ) (fun _=>(eY hr (ad 2) (c4 (ak T) hr (lc (ad 1) (l1 ab)))))))))) aF)
  (aa (km Gd (nZ (gw (bg (iF (eX hr)) (ad 10) (ad 3) rfl) (eS (bg (iF (eX hr)) (ad 10) (ad 9) rfl)))) (ag (s4 10 nd (az au (eY hr (ad 2) (az dS (az au (ux pe rm (ad 2) (l1 (bB hr (ad 10)))) ab) ab)) (bw (ad 10) (bM ab) cL)))))
  (ag (kj (ux gG iL (ad 9) (l1 (ad 10)))))))))
  (ag (am (ad 9)))))))))) rfl
def fy:aA:=a8 4 C.fc
def lB(T:Txt P w K mg):yV P w K mg base 1 "_law_low" 2 fy:=eE ["_law_top","_law_bottom","_law_one","_law_other"] T.o__law_low (fun _ _ _ _ _ _ _ hr nd=>(aa (sv (i:=2) (j:=3) rfl nd rfl rfl (by decide) rfl rfl (lc (cB (o2 rfl) T.Cd (lc (ad 0) (l1 (az cA ab (ad 0))))) (l1 (ad 1))))
  (aa (km Gd (bg rF (ad 3) ab (aT _)) (ag (sv (i:=2) (j:=3) rfl nd rfl rfl (by decide) rfl rfl (lc (ad 3) (l1 (az dS (ad 2) (ad 3)))))))
  (ag (am (aC (lc (az l_ (ad 0) (ad 2)) (l1 (az l_ (ad 1) (ad 2)))))))))) rfl
def d9:aA:=a8 2 (C.dX w__law_draw fy)
def kJ(T:Txt P w K mg):yV P w K mg base 2 "_law_cost" 1 d9:=eE ["_law_deal_here","_law_form"] T.o__law_cost (fun _ _ _ _ _ _ _ hr nd=>(aa (s4 1 nd (c4 (ak T) hr (lc (ad 0) (l1 ab))))
  (aa (aX (fh hr (ad 1) ab) (ag (am (aC (lc ab (l1 ab))))) aF)
  (aa (aX (bg ll (ad 1) ab (aT _)) (ag (am (aC (lc (az au ab (c4 (ak T) hr (lc (ad 0) (l1 ab)))) (l1 ab))))) aF)
  (ag (am (c4 (lB T) hr (lc (c4 (ak T) hr (lc (ad 0) (l1 ab))) (l1 (az au ab (c4 (ak T) hr (lc (ad 0) (l1 ab))))))))))))) rfl
def d_:aA:=a8 4 (C.dY w__law_draw d9)
def kK(T:Txt P w K mg):yV P w K mg base 3 "_law_leaf" 2 d_:=eE ["_law_deal_here","_law_jars","_law_form","_law_many"] T.o__law_leaf (fun _ _ _ _ _ _ _ hr nd=>(aa (s4 2 nd (c4 (ak T) hr (lc (ad 0) (l1 ab))))
  (aa (aX (fh hr (ad 2) ab) (ag (am (aC (l1 ap)))) aF)
  (aa (aX (nZ (gw (bg ll (ad 2) ab (aT _)) (eS (fh hr (cB bp T.yW (l1 (ad 1))) ab)))) (ag (am (aC (lc ap (l1 (c4 (kJ T) hr (l1 (ad 0)))))))) aF)
  (aa (s4 3 nd (eY hr (cj (lc ab (lc ab (l1 (az au ab (c4 (ak T) hr (lc (ad 0) (l1 ab)))))))) (c4 (ak T) hr (lc (ad 0) (l1 ab)))))
  (ag (am (aC (lc ap (lc (eY hr (ad 1) (c4 (ak T) hr (lc (ad 0) (l1 (cB bp T.yW (l1 (ad 1))))))) (l1 (ad 3)))))))))))) rfl
noncomputable def cD:Nat->aA
 |0=>ma
 |n+1=>a8 8 (C.dZ w__law_draw d_ (cD n))
def hG:aA:=cD 12
def kL(T:Txt P w K mg):yV P w K mg base 15 "_law_body" 4 hG:=lm (b:=3) (r:=cD) T.o__law_body (fun n R0=>eE ["_law_deal_here","_law_jars","_law_left","_law_down","_law_form","_law_one","_law_other","_law_many"] T.o__law_body (fun _ _ _ _ _ _ _ hr nd=>(aa (s4 4 nd (c4 (ak T) hr (lc (ad 0) (l1 ab))))
  (aa (aX (nZ (gw (fh hr (ad 3) ab) (gw (bg ll (bB hr (ad 2)) ab (aT _)) (eS (bg ll (ad 4) ab (aT _)))))) (ag (am (c4 (kK T) hr (lc (ad 0) (l1 (ad 1)))))) aF)
  (aa (aX (bg ll (ad 4) ab (aT _)) (aa (jM (hu1 hr) (az cA (bB hr (ad 2)) ab) (ad 2) ab)
  (ag (am (aC (lc ap (l1 (c4 R0 hr (lc (ad 0) (lc (ad 1) (lc (ad 2) (l1 (az cA (ad 3) ab)))))))))))) aF)
  (aa (jM (hu1 hr) (az cA (bB hr (ad 2)) ab) (ad 2) ab)
  (aa (s4 5 nd (c4 R0 hr (lc (ad 0) (lc (ad 1) (lc (ad 2) (l1 (az cA (ad 3) ab)))))))
  (aa (s4 6 nd (c4 R0 hr (lc (ad 0) (lc (ad 1) (lc (ad 2) (l1 (az cA (ad 3) ab)))))))
  (aa (aX (bg ll (ad 4) ab (aT _)) (ag (am (aC (lc ap (lc (ad 5) (l1 (ad 6))))))) aF)
  (aa (aX (nZ (gw (fh hr (ad 4) ab) (eS (fh hr (cB bp T.yW (l1 (ad 1))) ab)))) (ag (am (aC (lc ap (lc (ad 5) (l1 (ad 6))))))) aF)
  (aa (s4 7 nd (eY hr (cj (lc ab (lc ab (lc ab (l1 (az au ab (c4 (ak T) hr (lc (ad 0) (l1 ab))))))))) (c4 (ak T) hr (lc (ad 0) (l1 ab)))))
  (ag (am (aC (lc ap (lc (eY hr (ad 1) (c4 (ak T) hr (lc (ad 0) (l1 (cB bp T.yW (l1 (ad 1))))))) (lc (ad 7) (lc (ad 5) (l1 (ad 6))))))))))))))))))) rfl) rfl rfl 12
noncomputable def cf:Nat->aA
 |0=>ma
 |n+1=>a8 7 (C.du w__law_draw (cf n))
def gc:aA:=cf 12
def jp(T:Txt P w K mg):yV P w K mg base 13 "_law_trace" 3 gc:=lm (b:=1) (r:=cf) T.o__law_trace (fun n R0=>eE ["_law_deal_here","_law_body_here","_law_left","_law_one","_law_side","_law_found","_law_k"] T.o__law_trace (fun _ _ _ _ _ _ _ hr nd=>(aa (aX (fh hr (bB hr (ad 1)) ap) (aa (s4 3 nd (c4 R0 hr (lc (ad 0) (lc (bB hr (ad 1)) (l1 (ad 2))))))
  (ag (am (aC (lc (ad 3) (l1 (c4 R0 hr (lc (ad 0) (lc (bB hr (ad 1)) (l1 (ad 2))))))))))) aF)
  (aa (aX (nZ (gw (fh hr (bB hr (ad 1)) ap) (eS (fh hr (bB hr (ad 1)) ap)))) (aa (s4 4 nd (c4 (ak T) hr (lc (ad 0) (l1 ab))))
  (ag (am (aC (lc (ad 4) (l1 (c4 R0 hr (lc (ad 0) (lc (eY hr (ad 1) (az cA (ad 4) ab)) (l1 (ad 2))))))))))) aF)
  (aa (s4 5 nd (cj fI))
  (aa (fN Gd rfl (bZ rfl rfl T.zv (l1 (az dQ (c4 (ak T) hr (lc (ad 0) (l1 ab))) (cT su T.Bt (l1 (eR (jJ (iR hr)) (bB hr (ad 1)) ap (aT _))))))) (gn 6 nd) (ag (aX (bg rF (bB hr (ad 2)) ab (aT _)) (aa (jM (hu1 hr) (az cA (bB hr (ad 2)) ab) (ad 2) ab)
  (ag (kj (ux gG iL (ad 5) (l1 (aC (lc (az au ab (c4 (ak T) hr (lc (ad 0) (l1 ab)))) (l1 (c4 R0 hr (lc (ad 0) (lc (bB hr (ad 1)) (l1 (ad 2))))))))))))) aF)))
  (ag (am (cT mO T.Ah (l1 (ad 5)))))))))) rfl) rfl rfl 12
noncomputable def cE:Nat->aA
 |0=>ma
 |n+1=>a8 4 (C.d0 w__law_draw (cE n))
def hJ:aA:=cE 12
def kM(T:Txt P w K mg):yV P w K mg base 13 "_law_used" 3 hJ:=lm (b:=1) (r:=cE) T.o__law_used (fun n R0=>eE ["_law_deal_here","_law_body_here","_law_names","_law_one"] T.o__law_used (fun _ _ _ _ _ _ _ hr nd=>(aa (aX (nZ (sr (fh hr (bB hr (ad 1)) ap) (oY (fh hr (c4 (ak T) hr (lc (ad 0) (l1 ab))) ab)))) (ag (am (aC (lc ap (l1 (eY hr (ad 2) (c4 (ak T) hr (lc (ad 0) (l1 (cB bp T.yW (l1 (ad 2)))))))))))) aF)
  (aa (aX (bg (iF (eX hr)) (bB hr (ad 1)) (aC (lc ap (lc ap (l1 ap)))) rfl) (aa (s4 3 nd (c4 R0 hr (lc (ad 0) (lc (eY hr (ad 1) (gx bU ab)) (l1 (ad 2))))))
  (ag (am (az au (bw (ad 1) cL (bM (gx bU ab))) (aC (lc (ad 3) (l1 (c4 R0 hr (lc (ad 0) (lc (eY hr (ad 1) (gx bU ab)) (l1 (ad 2)))))))))))) aF)
  (aa (aX (fh hr (bB hr (ad 1)) ap) (ag (am (aC (lc ap (l1 (c4 R0 hr (lc (ad 0) (lc (bB hr (ad 1)) (l1 (ad 2)))))))))) aF)
  (ag (am (ad 1))))))) rfl) rfl rfl 12
def ee(s0:aA):bv:=(ae (bR (a6 (ah (bJ false) (ah ao (v3 0) (c3 (.int 0))) (c3 (.str "rest")))) (av (dj [])) aS)
  (ae (bR (a6 (ah (bJ false) (ah ao (v3 0) (c3 (.int 0))) (c3 (.str "then")))) (av (ah aL (af s0 [(ah ao (v3 0) (c3 (.int 1))),(ah ao (v3 1) (c3 (.int 0)))]) (af s0 [(ah ao (v3 0) (c3 (.int 2))),(ah ao (v3 1) (c3 (.int 1)))]))) aS)
  (ae (bR (a6 (ah (ik false) (ah ao (v3 0) (c3 (.int 0))) (aJ [(c3 (.str "either")),(c3 (.str "take"))]))) (av (ah aL (dj [(aJ [(bf (v3 0) lE (jK (kP dJ (c3 (.int 2))))),(ah ao (v3 1) (c3 (.int 0)))])]) (af s0 [(ah ao (v3 0) (ah bN (ah ao (v3 1) (c3 (.int 0))) (c3 (.int 2)))),(ah ao (v3 1) (c3 (.int 1)))]))) aS)
  (ae (bR (a6 (ah (bJ false) (ah ao (v3 0) (c3 (.int 0))) (c3 (.str "often")))) (ae (aG 2 (dj []))
  (ae (cU (cm (v3 1)) (.tp (.cons (.n 3) (.cons (.n 4) .nil))) (aG 2 (ah aL (v3 2) (ah fL (ah aL (dj [(aJ [(aJ [(c3 (.str "often"))]),(c3 (.int 0))])]) (af s0 [(ah ao (v3 0) (c3 (.int 1))),(v3 4)])) (v3 3)))))
  (av (ah aL (v3 2) (dj [(aJ [(aJ [(c3 (.str "often"))]),(c3 (.int 1))])]))))) aS)
  (av (dj [(aJ [(v3 0),(c3 (.int 0))])]))))))
noncomputable def cF:Nat->aA
 |0=>ma
 |n+1=>a8 5 (ee (cF n))
def cG:aA:=cF 12
def gf(T:Txt P w K mg):yV P w K mg base 12 "_law_done" 2 cG:=lm (b:=0) (r:=cF) T.o__law_done (fun n R0=>eE ["_law_body_here","_law_trace_here","_law_found","_law_many","_law_one"] T.o__law_done (fun _ _ _ _ _ _ _ hr nd=>(aa (aX (fh hr (bB hr (ad 0)) ap) (ag (am (cj fI))) aF)
  (aa (aX (fh hr (bB hr (ad 0)) ap) (ag (am (az au (c4 R0 hr (lc (bB hr (ad 0)) (l1 (bB hr (ad 1))))) (c4 R0 hr (lc (bB hr (ad 0)) (l1 (bB hr (ad 1)))))))) aF)
  (aa (aX (bg (iF (eX hr)) (bB hr (ad 0)) (aC (lc ap (l1 ap))) rfl) (ag (am (az au (cj (l1 (aC (lc (bw (ad 0) cL (bM (gx bU ab))) (l1 (bB hr (ad 1))))))) (c4 R0 hr (lc (eY hr (ad 0) (az cA (bB hr (ad 1)) ab)) (l1 (bB hr (ad 1)))))))) aF)
  (aa (aX (fh hr (bB hr (ad 0)) ap) (aa (s4 2 nd (cj fI))
  (aa (fN Gd rfl (gY (ad 1)) (xI rfl (gA (gn 3 nd) (gA (gn 4 nd) o_))) (ag (s4 2 nd (az au (ad 2) (az dQ (az au (cj (l1 (aC (lc (aC (l1 ap)) (l1 ab))))) (c4 R0 hr (lc (bB hr (ad 0)) (l1 (ad 4))))) (ad 3))))))
  (ag (am (az au (ad 2) (cj (l1 (aC (lc (aC (l1 ap)) (l1 ab)))))))))) aF)
  (ag (am (cj (l1 (aC (lc (ad 0) (l1 ab)))))))))))) rfl) rfl rfl 12
def ef:bv:=(ae (aG 2 (c3 (.int 0)))
  (ae (aG 3 (dj [(c3 (.int 0))]))
  (ae (cU (cm (v3 1)) (.tp (.cons (.n 4) (.cons (.n 5) .nil))) (ae (aG 6 (ah ao (v3 0) (v3 2)))
  (ae (aG 7 (ah aL (c3 (.int 1)) (ar fM [(ah (ik false) (ah ao (v3 4) (c3 (.int 0))) (aJ [(c3 (.str "either")),(c3 (.str "take")),(c3 (.str "often"))]))])))
  (ae (bR (jH (a6 (ah (bJ true) (bf (v3 6) lE (jK (kP dJ (v3 7)))) (v3 4))) (a6 (ah (bJ true) (ar bA [(v3 6)]) (ah aL (ar bA [(v3 4)]) (v3 7))))) (av (c3 .non)) aS)
  (ae (aG 2 (ah ao (v3 6) (ah aL (ar bA [(v3 4)]) (v3 5))))
  (ae (bR (jH (gv (a6 (ar ck [(v3 2),(c3 (.ty "int"))]))) (jH (a6 (ar ck [(v3 2),(c3 (.ty "bool"))])) (jH (a6 (ah nK (v3 2) (c3 (.int 0)))) (a6 (ah ut (v3 2) (ar bA [(v3 0)])))))) (av (c3 .non)) aS)
  (eW (k_ "list" b_ (v3 3) [(v3 2)]))))))))
  (av (v3 3)))))
def cH:aA:=a8 8 ef
def gg(T:Txt P w K mg):yV P w K mg base 1 "_law_gone" 2 cH:=eE ["_law_rows","_law_deeds","_law_at","_law_found","_law_words_here","_law_side","_law_row","_law_many"] T.o__law_gone (fun _ _ _ _ _ _ _ hr nd=>(aa (s4 2 nd ab)
  (aa (s4 3 nd (cj (l1 ab)))
  (aa (fN Gd rfl (gY (ad 1)) (xI rfl (gA (gn 4 nd) (gA (gn 5 nd) o_))) (aa (s4 6 nd (eY hr (ad 0) (ad 2)))
  (aa (s4 7 nd (az au ab (cT su T.Bt (l1 (eR (iF (eX hr)) (bB hr (ad 4)) (aC (lc ap (lc ap (l1 ap)))) rfl)))))
  (aa (aX (nZ (gw (vd hr (bw (ad 6) cL (bM (gx bU (ad 7)))) (ad 4)) (eS (vd hr (cB bp T.yW (l1 (ad 6))) (az au (cB bp T.yW (l1 (ad 4))) (ad 7)))))) (ag (am oV)) aF)
  (aa (s4 2 nd (eY hr (ad 6) (az au (cB bp T.yW (l1 (ad 4))) (ad 5))))
  (aa (aX (nZ (gw (fJ (dP (cB iK T.yO (lc (ad 2) (l1 (uy T.Bt)))))) (gw (dP (cB iK T.yO (lc (ad 2) (l1 (uy T.BP))))) (gw (bg ll (ad 2) ab (aT _)) (eS (bg uu (ad 2) (cB bp T.yW (l1 (ad 0))) (aT _))))))) (ag (am oV)) aF)
  (ag (kj (ux gG iL (ad 3) (l1 (ad 2)))))))))))
  (ag (am (ad 3))))))) rfl
def eg(Bm zX zY:aA):bv:=(ae (bR (a6 (ah (t9 true) (af Bm [(v3 0),(v3 2)]) (c3 (.bl true)))) (av (c3 (.bl false))) aS)
  (ae (aG 3 (af zX [(v3 1),(af zY [(v3 0),(v3 2)])]))
  (av (dG (ah (t9 true) (v3 3) (c3 .non)) (dG (ah (bJ false) (ah ao (v3 3) (kP dJ (c3 (.int 1)))) (ah bN (ar bA [(v3 1)]) (c3 (.int 1)))) (ah (bJ false) (ah ao (v3 1) (kP dJ (c3 (.int 1)))) (aJ [(c3 (.str "end"))])))))))
def eh:aA:=a8 4 (eg fx cH cG)
def dD(T:Txt P w K mg):yV P w K mg base 15 "_law_ends" 3 eh:=eE ["_law_body_here","_law_rows","_law_trace_here","_law_found"] T.o__law_ends (fun _ _ _ _ _ _ _ hr nd=>(aa (aX (bg k9 (c4 (lA T) hr (lc (ad 0) (l1 (ad 2)))) hW (aT _)) (ag (am hW)) aF)
  (aa (s4 3 nd (c4 (gg T) hr (lc (ad 1) (l1 (c4 (gf T) hr (lc (ad 0) (l1 (ad 2))))))))
  (ag (am (gV (eR k9 (ad 3) oV (aT _)) (gV (eR (jJ (iR hr)) (eY hr (ad 3) (gx bU ab)) (az cA (cB bp T.yW (l1 (ad 1))) ab) (aT _)) (jI (eR (jJ (iR hr)) (eY hr (ad 1) (gx bU ab)) (aC (l1 ap)) (aT _)))))))))) rfl
def dE(B5 zZ zf AS BQ BR zX zY:aA):bv:=(ae (aG 2 (af B5 [(v3 1)]))
  (ae (bR (jH (gv (a6 (ar ck [(v3 2),(c3 (.ty "tuple"))]))) (gv (a6 (af zZ [(v3 1),(v3 2),(af zf [(v3 1)])])))) (av (c3 (.bl false))) aS)
  (ae (cU (eJ (c3 (.int 3))) (.n 3) (bR (gv (a6 (af zZ [(v3 1),(v3 2),(af AS [(v3 0),(v3 1),(dj [(c3 (.int 4))])])]))) (av (c3 (.bl false))) aS))
  (ae (aG 4 (b8 (eJ (ar bA [(v3 2)])) (.n 0) (a6 (ah (bJ false) (ah ao (ah ao (v3 1) (v3 0)) (c3 (.int 0))) (c3 (.str "often")))) (v3 0) 1 [2]))
  (ae (bR (a6 (ah (bJ true) (af BQ [(v3 1)]) (ar bA [(v3 4)]))) (av (c3 (.bl false))) aS)
  (ae (cU (eJ (ar bA [(v3 4)])) (.n 5) (ae (aG 6 (af BR [(v3 1),(v3 5),(aJ [])]))
  (bR (jH (gv (a6 (af zZ [(v3 1),(v3 2),(v3 6)]))) (a6 (ah (ik true) (ah ao (v3 4) (v3 5)) (af zX [(v3 2),(af zY [(v3 1),(v3 6)])])))) (av (c3 (.bl false))) aS)))
  (av (c3 (.bl true)))))))))
def dF:aA:=a8 7 (dE kH eh cP gc jd jf cH cG)
def jq(T:Txt P w K mg):yV P w K mg base 29 "_law_right" 2 dF:=eE ["_law_deal_here","_law_body_here","_law_rows","_law_turn","_law_places","_law_number","_law_trace_here"] T.o__law_right (fun _ _ _ _ _ _ _ hr nd=>(aa (s4 2 nd (c4 (pP T) hr (l1 (ad 1))))
  (aa (aX (nZ (gw (fJ (dP (cB iK T.yO (lc (ad 2) (l1 (uy T.Ah)))))) (eS (fJ (dP (c4 (dD T) hr (lc (ad 1) (lc (ad 2) (l1 (c4 (cy T) hr (l1 (ad 1)))))))))))) (ag (am hW)) aF)
  (aa (fN Gd rfl (bZ rfl rfl T.zv (l1 ab)) (gn 3 nd) (ag (aX (fJ (dP (c4 (dD T) hr (lc (ad 1) (lc (ad 2) (l1 (c4 (jp T) hr (lc (ad 0) (lc (ad 1) (l1 (cj (l1 ab)))))))))))) (ag (am hW)) aF)))
  (aa (yc ["_law_rows"] 1 [2] ["_law_at","_law_rows"] 4 nd (bZ rfl rfl T.zv (l1 (cB bp T.yW (l1 (ad 2))))) (fun _=>(gn 0 xW)) (fun _=>(mR (fh hr (bB hr (eY hr (ad 1) (ad 0))) ap))) (fun _=>(ad 0)))
  (aa (aX (vd hr (c4 (nT T) hr (l1 (ad 1))) (cB bp T.yW (l1 (ad 4)))) (ag (am hW)) aF)
  (aa (fN Gd rfl (bZ rfl rfl T.zv (l1 (cB bp T.yW (l1 (ad 4))))) (gn 5 nd) (aa (s4 6 nd (c4 (nU T) hr (lc (ad 1) (lc (ad 5) (l1 (aC fI))))))
  (ag (aX (nZ (gw (fJ (dP (c4 (dD T) hr (lc (ad 1) (lc (ad 2) (l1 (ad 6))))))) (eS (bg (iG (eX hr)) (eY hr (ad 4) (ad 5)) (c4 (gg T) hr (lc (ad 2) (l1 (c4 (gf T) hr (lc (ad 1) (l1 (ad 6))))))) rfl)))) (ag (am hW)) aF))))
  (ag (am hW))))))))) rfl
def pQ(A8 AT A9 yB AU A_:aA):bv:=(ae (aG 1 (af A8 [(v3 0),(c3 (.int 0))]))
  (ae (cU (eJ (ah aL (c3 (.int 2)) (ar bA [(bf (v3 0) (jK (c3 (.int 1))) (jK (c3 (.int 4))))]))) (.n 2) (ae (aG 3 (af AT [(v3 1),(c3 (.int 8))]))
  (ae (aG 4 (af A9 [(v3 1),(ar dk [(bf (v3 3) lE (jK (af yB [(v3 1),(c3 (.int 5))])))]),(dj [(c3 (.int 19))]),(c3 (.int 5))]))
  (bR (gv (a6 (af AU [(v3 1),(af A_ [(v3 1),(v3 4),(bf (v3 3) (jK (c3 (.int 4))) lE)])]))) (av (c3 (.bl false))) aS))))
  (av (c3 (.bl true)))))
def lC:aA:=a8 5 (pQ g_ dC hG w__law_draw dF hJ)
def uV(T:Txt P w K mg){f:Addr}{fd:FuncData}(O:wQ K mg "law" (bj 39) ["_law_script"] f fd):Cs P w K mg base 30 f fd ["_law_script"] lC:=yu ["_law_script","_law_deal_here","_law_k","_law_words_here","_law_body_here"] O (fun _ _ _ _ _ _ _ hr nd=>(aa (s4 1 nd (c4 (kI T) hr (lc (ad 0) (l1 ab))))
  (aa (fN Gd rfl (bZ rfl rfl T.zv (l1 (az au ab (cB bp T.yW (l1 (bw (ad 0) (bM ab) (bM ab))))))) (gn 2 nd) (aa (s4 3 nd (c4 (jo T) hr (lc (ad 1) (l1 ab))))
  (aa (s4 4 nd (c4 (kL T) hr (lc (ad 1) (lc (cT mO T.Ah (l1 (bw (ad 3) cL (bM (c4 (ak T) hr (lc (ad 1) (l1 ab))))))) (lc (cj (l1 ab)) (l1 ab))))))
  (ag (aX (fJ (dP (c4 (jq T) hr (lc (ad 1) (l1 (c4 (kM T) hr (lc (ad 1) (lc (ad 4) (l1 (bw (ad 3) (bM ab) cL)))))))))) (ag (am hW)) aF)))))
  (ag (am hW))))) rfl
end
end G17
namespace G17
open PySem L2 L3 Wd
open C
def uW{t:Bd}(h:t.dep<=6):dl t.dep<=65317:=FI (dy h) (by decide)
def fz{n:Nat}(h:n<=1000000):n<=sizeLine:=FI h (by decide)
abbrev df(n:Nat)(w:aA):Prop:=∀{S:ax} {t:Bd} {m:Nat} {v:PV} {Q:bS} {E:b9},t.dep<=n->t.dep<=6->aK t v=true->zj 2 m v->b7 3 v=true->(∀p S',S p=none->Ext S S'->S' p=some (.lst ((t.yD v).map gO))->Q (.ref p) S')->w [t.pv,v] S Q E
def Ai{s0:aA}(n:Nat)(ih:df n s0):df (n+1) (a8 5 (ee s0)):=by
 intro S t m v Q E hd h6 hv ht hb k
 unfold ee
 refine fi ?_
 rw[show aw 5 [t.pv,v]=[some t.pv,some v,none,none,none] from rfl]
 have one:∀(ws:List PV),t.pv = .tup ws->t.yD v=[(ws,0)]->∀p,S p=none->Q (.ref p) (aD S p (.lst [.tup [t.pv,.int 0]])):=fun ws e1 e2 p hp=>k p _ hp (.new hp) (by rw[ac,e2,e1];rfl)
 have el:∀z:String,(z:Str)∈(["either","take"]:Vs)\/(z:Str) ∉ (["either","take"]:Vs):=fun z=>Decidable.em _
 have e2:([PV.str "either",PV.str "take"]:List PV)=(["either","take"]:Vs).map PV.str:=rfl
 cases t with
 |rest=>
  rw[show(Bd.rest).pv = .tup [.str "rest"] from rfl]
  walk_at "y"
  intro p hp
  exact k p _ hp (.new hp) ac
 |yF a b=>
  obtain⟨x,y,rfl,hx,hy⟩:=mi hv
  simp only[Bd.dep]at hd h6
  obtain⟨m1,t1⟩:=(bz ht).2 x (by simp)
  obtain⟨m2,t2⟩:=(bz ht).2 y (by simp)
  have i1:=bc hb x (by simp)
  have i2:=bc hb y (by simp)
  have l1:=FI (aV a x m1 hx t1 i1) (uW (by omega))
  have l2:=FI (aV b y m2 hy t2 i2) (uW (by omega))
  rw[show(Bd.yF a b).pv = .tup [.str "then",a.pv,b.pv] from rfl]
  walk_at "y"
  refine ih (by omega) (by omega) hx t1 i1 fun p S1 hp X1 h1=>?_
  refine ih (by omega) (by omega) hy t2 i2 fun q S2 hq X2 h2=>?_
  simp only[X2 _ _ h1,h2]
  refine⟨fz (by rw[Fx,Fx];omega),fun r hr=>?_⟩
  exact k r _ ((X1.trans X2).free hr) ((X1.trans X2).trans (.new hr)) (by rw[ac,<-GC];rfl)
 |y7 a b=>
  obtain⟨i,y,rfl,hi⟩:=mj hv
  simp only[Bd.dep]at hd h6
  obtain⟨m2,t2⟩:=(bz ht).2 y (by simp)
  have i2:=bc hb y (by simp)
  have Cz:i=0\/i=1:=by rcases hi with⟨h,_⟩|⟨h,_⟩<;>simp[h]
  rw[show(Bd.y7 a b).pv = .tup [.str "either",a.pv,b.pv] from rfl]
  refine aj fun N hN=>?_
  walk_at "y"
  refine hN _ _ (aj fun N hN=>?_)
  walk_at "y"
  refine hN _ _ (aj fun N hN=>?_)
  walk_at "y"
  rw[e2]
  refine aR (aP _ (by simp[heads])) i_ ?_
  simp only[al,String.reduceEq,FE,FN,Gi,or_true,true_or,G3,FH,F8]
  intro p hp
  rw[il,show([PV.str "either",a.pv,b.pv]:List PV)=[.str "either"]++[a.pv,b.pv] from rfl,kB Cz]
  have fin:∀c:Bd,c.dep<=n->c.dep<=6->aK c y=true->(Bd.y7 a b).yD (.tup [.int i,y])=([.str "either"],i.toNat)::c.yD y->s0 [c.pv,y] (aD S p (.lst [.tup [.tup [.str "either"],.int i]])) (fun v S1=>aL (.ref p) v S1 Q) gj:=fun c c1 c2 c3 c4=>by
   have l2:=FI (aV c y m2 c3 t2 i2) (uW c2)
   refine ih c1 c2 c3 t2 i2 fun q S2 hq X2 h2=>?_
   have hp2:=X2 _ _ (ac (S:=S) (a:=p) (o:=.lst [.tup [.tup [.str "either"],.int i]]))
   simp only[aL,hp2,h2]
   refine⟨fz (by rw[Fx];simp;omega),fun r hr=>?_⟩
   have X:=(Ext.new (o:=.lst [.tup [.tup [.str "either"],.int i]]) hp).trans X2
   refine k r _ (X.free hr) (X.trans (.new hr)) ?_
   rw[ac,c4,FO]
   have:(i.toNat:Int)=i:=by omega
   simp only[gO,this,List.cons_append,List.nil_append]
  rcases hi with⟨rfl,hy⟩|⟨rfl,hy⟩
  ·exact fin a (by omega) (by omega) hy rfl
  ·exact fin b (by omega) (by omega) hy rfl
 |y8 z q a b=>
  obtain⟨i,y,rfl,hi⟩:=ml hv
  simp only[Bd.dep]at hd h6
  obtain⟨m2,t2⟩:=(bz ht).2 y (by simp)
  have i2:=bc hb y (by simp)
  have Cz:i=0\/i=1:=by rcases hi with⟨h,_⟩|⟨h,_⟩<;>simp[h]
  rw[show(Bd.y8 z q a b).pv = .tup [.str "take",.str z,.int q,a.pv,b.pv] from rfl]
  refine aj fun N hN=>?_
  walk_at "y"
  refine hN _ _ (aj fun N hN=>?_)
  walk_at "y"
  refine hN _ _ (aj fun N hN=>?_)
  walk_at "y"
  rw[e2]
  refine aR (aP _ (by simp[heads])) i_ ?_
  simp only[al,String.reduceEq,FE,FN,Gi,or_true,true_or,G3,FH,F8]
  intro p hp
  rw[kA,show([PV.str "take",.str z,.int q,a.pv,b.pv]:List PV)=[.str "take",.str z,.int q]++[a.pv,b.pv] from rfl,kB Cz]
  have fin:∀c:Bd,c.dep<=n->c.dep<=6->aK c y=true->(Bd.y8 z q a b).yD (.tup [.int i,y])=([.str "take",.str z,.int q],i.toNat)::c.yD y->s0 [c.pv,y] (aD S p (.lst [.tup [.tup [.str "take",.str z,.int q],.int i]])) (fun v S1=>aL (.ref p) v S1 Q) gj:=fun c c1 c2 c3 c4=>by
   have l2:=FI (aV c y m2 c3 t2 i2) (uW c2)
   refine ih c1 c2 c3 t2 i2 fun r0 S2 hq X2 h2=>?_
   have hp2:=X2 _ _ (ac (S:=S) (a:=p) (o:=.lst [.tup [.tup [.str "take",.str z,.int q],.int i]]))
   simp only[aL,hp2,h2]
   refine⟨fz (by rw[Fx];simp;omega),fun r hr=>?_⟩
   have X:=(Ext.new (o:=.lst [.tup [.tup [.str "take",.str z,.int q],.int i]]) hp).trans X2
   refine k r _ (X.free hr) (X.trans (.new hr)) ?_
   rw[ac,c4,FO]
   have:(i.toNat:Int)=i:=by omega
   simp only[gO,this,List.cons_append,List.nil_append]
  rcases hi with⟨rfl,hy⟩|⟨rfl,hy⟩
  ·exact fin a (by omega) (by omega) hy rfl
  ·exact fin b (by omega) (by omega) hy rfl
 |pay x y=>
  rw[show(Bd.pay x y).pv = .tup [.str "pay",.tup [.int x,.int y]] from rfl]at *
  refine aj fun N hN=>?_
  walk_at "y"
  refine hN _ _ (aj fun N hN=>?_)
  walk_at "y"
  refine hN _ _ (aj fun N hN=>?_)
  walk_at "y"
  rw[e2]
  refine aR (aP _ (by simp[heads])) i_ ?_
  simp only[al,String.reduceEq,FE,FN,Gi,or_self,HA,FH,Fz,F0]
  refine hN _ _ ?_
  walk_at "y"
  exact one _ rfl rfl
 |put z q=>
  rw[show(Bd.put z q).pv = .tup [.str "put",.str z,.int q] from rfl]at *
  refine aj fun N hN=>?_
  walk_at "y"
  refine hN _ _ (aj fun N hN=>?_)
  walk_at "y"
  refine hN _ _ (aj fun N hN=>?_)
  walk_at "y"
  rw[e2]
  refine aR (aP _ (by simp[heads])) i_ ?_
  simp only[al,String.reduceEq,FE,FN,Gi,or_self,HA,FH,Fz,F0]
  refine hN _ _ ?_
  walk_at "y"
  exact one _ rfl rfl
 |use z=>
  rw[show(Bd.use z).pv = .tup [.str "use",.str z] from rfl]at *
  refine aj fun N hN=>?_
  walk_at "y"
  refine hN _ _ (aj fun N hN=>?_)
  walk_at "y"
  refine hN _ _ (aj fun N hN=>?_)
  walk_at "y"
  rw[e2]
  refine aR (aP _ (by simp[heads])) i_ ?_
  simp only[al,String.reduceEq,FE,FN,Gi,or_self,HA,FH,Fz,F0]
  refine hN _ _ ?_
  walk_at "y"
  exact one _ rfl rfl
 |yR a=>
  obtain⟨xs,rfl,hx⟩:=pN hv
  obtain⟨hl,hm⟩:=bz ht
  have hi:=bc hb
  simp only[Bd.dep]at hd h6
  have hla:dl a.dep<=65317:=uW (by omega)
  rw[show(Bd.yR a).pv = .tup [.str "often",a.pv] from rfl]
  refine aj fun N hN=>?_
  walk_at "y"
  refine hN _ _ (aj fun N hN=>?_)
  walk_at "y"
  refine hN _ _ (aj fun N hN=>?_)
  walk_at "y"
  rw[e2]
  refine aR (aP _ (by simp[heads])) i_ ?_
  simp only[al,String.reduceEq,FE,FN,Gi,or_self,HA,FH,Fz,F0]
  refine hN _ _ (aj fun N hN=>?_)
  simp only[bR,a6,ah,v3,lk,c3,ao,md,bJ,FH,G3,F8]
  refine aj fun N2 An=>?_
  walk_at "x"
  intro pf hpf
  refine An _ _ (aj fun N2 An=>?_)
  simp only[cU,cm,v3,lk,gX]
  have hlen:∀gs:List PV,(∀g∈gs,g∈xs)->(gs.flatMap (br fun y=>a.yD y)).length<=gs.length * (3 * (1+dl a.dep)):=by
   intro gs
   induction gs with
   |nil=>intro _;simp
   |cons g gs Fk=>
    intro h
    rw[GO,Fv,FG,Nat.add_mul]
    have h2:=Fk fun g hg=>h g (by simp[hg])
    have CA:=h g (by simp)
    have hgo:=Gz.mp hx g CA
    have h1:(br (fun y=>a.yD y) g).length<=3 * (1+dl a.dep):=by
     unfold dw at hgo
     split at hgo
     ·rename_i q tr
      rw[Gy]at hgo
      obtain⟨k1,hk1⟩:=hm _ CA
      obtain⟨k2,hk2⟩:=(bz hk1).2 tr (by simp)
      have hb2:=bc (hi _ CA)
      have CW:=hb2 (.int q) (by simp)
      have:=aV a tr k2 hgo.2 hk2 (hb2 tr (by simp))
      simp only[b7,FF]at CW
      simp only[br]
      rw[iq,FG]
      exact Nat.mul_le_mul (by omega) (by omega)
     ·cases hgo
    omega
  have hlen2:∀gs:List PV,gs.length<=2->(∀g∈gs,g∈xs)->(gs.flatMap (br fun y=>a.yD y)).length<=400000:=fun gs h1 h2=>by
   have:=hlen gs h2
   have h3:gs.length * (3 * (1+dl a.dep))<=2 * (3 * (1+dl a.dep)):=Nat.mul_le_mul_right _ h1
   omega
  refine cb (fun done σ S'=>∃(pg:Addr) (x3 x4:Option PV) (rs:List PV),xs=done++rs/\σ=[some (.tup [.str "often",a.pv]),some (.tup xs),some (.ref pg),x3,x4]/\Ext S S'/\S' pg=some (.lst ((done.flatMap (br fun y=>a.yD y)).map gO))) ⟨pf,_,_,xs,rfl,rfl,.new hpf,ac⟩ (fun _ _ _ _=>trivial) ?_ ?_
  ·rintro done g rest σ S3 K e ⟨pg,x3,x4,rs,es,rfl,X3,h3⟩ hK
   have CA:g∈xs:=by rw[e];simp
   have hgo:=Gz.mp hx g CA
   have hdx:∀y∈done,y∈xs:=fun y hy=>by rw[e];simp[hy]
   have hdl:done.length+1<=2:=by
    have:=F5 List.length e
    simp only[Fv,List.length_cons]at this
    omega
   have l0:=hlen2 done (by omega) hdx
   unfold dw at hgo
   split at hgo
   ·rename_i q tr
    rw[Gy,FF]at hgo
    obtain⟨k1,hk1⟩:=hm _ CA
    obtain⟨k2,hk2⟩:=(bz hk1).2 tr (by simp)
    have hb2:=bc (hi _ CA)
    have CW:=hb2 (.int q) (by simp)
    simp only[b7,FF]at CW
    have la:=FI (aV a tr k2 hgo.2 hk2 (hb2 tr (by simp))) hla
    walk_at "x"
    intro p1 hp1
    have n1:pg≠p1:=fun h=>by rw[h,hp1]at h3;cases h3
    simp only[uC]
    refine ih (by omega) (by omega) hgo.2 hk2 (hb2 tr (by simp)) fun p2 S4 hp2 X4 h4=>?_
    have DZ:=X4 _ _ (ac (S:=S3) (a:=p1) (o:=.lst [.tup [.tup [.str "often"],.int 0]]))
    have D_:=X4 pg _ (by rw[aq n1];exact h3)
    simp only[DZ,h4]
    refine⟨fz (by rw[Fx];simp;omega),fun p3 hp3=>?_⟩
    rw[ac]
    dsimp only
    have lq:([PV.tup [.tup [.str "often"],.int 0]]++(a.yD tr).map gO).length * q.toNat<=65318 * 3:=Nat.mul_le_mul (by rw[Fv,Fx,Gg];omega) (by omega)
    refine⟨by omega,by omega,fz (by omega),fun p4 EF=>?_⟩
    have n3:pg≠p3:=fun h=>by rw[h,hp3]at D_;cases D_
    have Ea:(aD S4 p3 (.lst ([PV.tup [.tup [.str "often"],.int 0]]++(a.yD tr).map gO))) pg=some (.lst ((done.flatMap (br fun y=>a.yD y)).map gO)):=by rw[aq n3];exact D_
    have n4:pg≠p4:=fun h=>by rw[h,EF]at Ea;cases Ea
    rw[ac,aq n4,Ea]
    dsimp only
    refine⟨fz ?_,fun p5 Fl=>?_⟩
    ·rw[Fx,iq,Nat.mul_comm]
     omega
    refine hK _ _ ⟨p5,_,_,rest,by rw[e];simp,rfl,?_,?_⟩
    ·exact X3.trans ((Ext.new hp1).trans (X4.trans ((Ext.new hp3).trans ((Ext.new EF).trans (.new Fl)))))
    ·rw[ac,HV,GC]
     congr 1
     simp only[GO,List.flatMap_nil,Gb,br,List.map_flatten,List.map_replicate,FO]
     rfl
   ·cases hgo
  ·rintro σ S3 ⟨pg,x3,x4,rs,es,rfl,X3,h3⟩
   refine An _ _ ?_
   walk_at "x"
   intro p1 hp1
   have n1:pg≠p1:=fun h=>by rw[h,hp1]at h3;cases h3
   rw[ac,aq n1,h3]
   dsimp only
   have l0:=hlen2 xs hl fun g hg=>hg
   refine⟨fz (by rw[Fx,Gg];omega),fun p2 hp2=>?_⟩
   refine k p2 _ ((X3.trans (Ext.new hp1)).free hp2) (X3.trans ((Ext.new hp1).trans (.new hp2))) ?_
   rw[ac,show(Bd.yR a).yD (.tup xs)=xs.flatMap (br fun y=>a.yD y)++[([.str "often"],1)] from rfl,GC]
   rfl
def rP{α:Type}{xs ys:List α}{k:Nat}(hk:ys.length=k)(h1:1<=k):b6 (xs++ys) none (some (-(k:Int)))=xs:=by
 unfold b6
 rw[HT.iw,List.drop_zero,Fv]
 have:HT.yT (xs.length+ys.length) (xs.length+ys.length) (some (-(k:Int)))=xs.length:=by
  show(if -(k:Int) < 0 then (-(k:Int)+((xs.length+ys.length:Nat):Int)).toNat else _)=_
  rw[if_pos (by omega)]
  omega
 rw[this,Nat.sub_zero]
 simp
def mW{xs:List PV}{y:PV}:zk (xs++[y]) (-1)=some y:=by
 unfold zk lP
 rw[if_neg (by omega),if_pos (by simp;omega)]
 have:(-1+((xs++[y]).length:Int)).toNat=xs.length:=by simp;omega
 rw[this]
 show(xs++[y])[xs.length]?=some y
 simp
def uX{ws:List PV}{S:ax}{Q:bS}(h:sx ws)(q:Q (.bl false) S):bJ true (.tup ws) (.tup ws) S Q:=by
 obtain⟨ds,h1,h2,h3,h4⟩:=h
 refine⟨.tuple ds,.tuple ds,.tup (h1 S),.tup (h1 S),by simpa [PyData.canLay0]using h2,by simpa [PyData.canLay0]using h2,?_,?_⟩
 ·rw[Nat.min_self]
  simp only[PyData.depth]
  omega
 ·have e:PyData.eqv (.tuple ds) (.tuple ds)=true:=by simpa [PyData.eqv]using h4
  rw[e]
  exact q
def nV:∀z∈(["either","take","often"]:Vs),PyData.strOk z=true:=by decide +kernel
abbrev gh(w:aA):Prop:=∀{S:ax} {R:List PV} {p:Addr} {ds:List Dd} {fin:Nat} {vis:List Nat} {Q:bS} {E:b9},S p=some (.lst (ds.map gO))->Wk R 0 ds fin vis->ds.length<=100000->(∀q S',S q=none->Ext S S'->S' q=some (.lst ((0::vis).map jU))->Q (.ref q) S')->w [.tup R,.ref p] S Q E
def Aj:gh (a8 8 ef):=by
 intro S R p ds fin vis Q E hp hw hl k
 unfold ef
 refine fi ?_
 rw[show aw 8 [PV.tup R,PV.ref p]=[some (.tup R),some (.ref p),none,none,none,none,none,none] from rfl]
 refine aj fun N hN=>?_
 walk_at "x"
 refine hN _ _ (aj fun N hN=>?_)
 walk_at "x"
 intro pf hpf
 have EG:p≠pf:=fun h=>by rw[h,hpf]at hp;cases hp
 have p1:(aD S pf (.lst [.int 0])) p=some (.lst (ds.map gO)):=by rw[aq EG];exact hp
 have f1:(aD S pf (.lst [.int 0])) pf=some (.lst [.int 0]):=ac
 have X1:Ext S (aD S pf (.lst [.int 0])):=.new hpf
 generalize aD S pf (.lst [.int 0])=S1 at p1 f1 X1
 refine hN _ _ (aj fun N hN=>?_)
 simp only[cU,cm,v3,lk,gX,p1]
 refine cb (fun done σ S'=>∃(d1 d2:List Dd) (at_:Nat) (v1 v2:List Nat) (x4 x5 x6 x7:Option PV),done=d1.map gO/\ds=d1++d2/\Wk R at_ d2 fin v2/\vis=v1++v2/\v1.length=d1.length/\σ=[some (.tup R),some (.ref p),some (.int (at_:Int)),some (.ref pf),x4,x5,x6,x7]/\Ext S S'/\S' p=some (.lst (ds.map gO))/\S' pf=some (.lst ((0::v1).map jU))) ⟨[],ds,0,[],vis,_,_,_,_,rfl,rfl,hw,rfl,rfl,rfl,X1,p1,f1⟩ ?_ ?_ ?_
 ·rintro done σ S' ⟨d1,d2,at_,v1,v2,x4,x5,x6,x7,_,_,_,_,_,_,_,h,_⟩
  exact h
 ·rintro done x rest σ S2 K e ⟨d1,d2,at_,v1,v2,x4,x5,x6,x7,rfl,ed,Cw,ev,el,rfl,X2,p2,f2⟩ hK
  rw[ed,GC]at e
  have e3:=Hj e
  rcases d2 with _|⟨d,d2⟩
  ·cases e3
  rw[FO,G7]at e3
  obtain⟨rfl,e4⟩:=e3
  cases Cw with
  |@cons _ b _ _ _ Eb st Fm=>
   obtain⟨h,r,ts,e5,hok,EH,C0,hts,Ce,hb⟩:=st
   obtain⟨ws,sd⟩:=d
   dsimp only at e5 EH C0 Ce
   subst e5
   have hl1:d1.length < 100000:=by
    have:=F5 List.length ed
    simp only[Fv,List.length_cons]at this
    omega
   simp only[gO,Tg.put,Tg.zL,List.set_cons_zero,List.set_cons_succ]
   refine aj fun N2 An=>?_
   walk_at "x"
   rw[i5 C0]
   dsimp only
   refine An _ _ (aj fun N2 An=>?_)
   simp only[aG,ah,ar,bL,v3,lk,c3,ao,md,aJ]
   rw[show([PV.str "either",PV.str "take",PV.str "often"]:List PV)=(["either","take","often"]:Vs).map PV.str from rfl]
   refine aR hok nV ?_
   simp only[fM,aL,FH]
   have em:(1+(if decide (h∈(["either","take","often"]:Vs))=true then (1:Int) else 0))=(ts.length:Int):=by
    rw[hts]
    unfold bC
    by_cases hin:h∈(["either","take","often"]:Vs)
    ·rw[Gm hin,if_pos rfl,if_pos hin];rfl
    ·rw[FQ hin,if_neg (by decide),if_neg hin];rfl
   rw[em]
   have ht1:1<=ts.length:=by rw[hts];unfold bC;split<;>omega
   simp only[List.set_cons_zero,List.set_cons_succ]
   refine An _ _ (aj fun N2 An=>?_)
   simp only[bR,jH,a6,ah,bf,lE,jK,kP,dJ,v3,lk,c3,l5]
   rw[rP (k:=ts.length) (by rw[Fx]) ht1]
   refine uX EH ?_
   simp only[Fz,F0,ar,bL,ah,v3,lk,c3,bA,aL,bJ]
   have Ec:(true != decide (((((PV.str h::r)++ts.map jU).length:Nat):Int)=(((PV.str h::r).length:Nat):Int)+(ts.length:Int)))=false:=by
    rw[Gm (by rw[Fv,Fx];omega)];rfl
   rw[Ec]
   simp only[Fz,F0,aS]
   refine An _ _ (aj fun N2 An=>?_)
   simp only[aG,ah,ar,bL,v3,lk,c3,bA,aL,ao]
   have Fn:zk ((PV.str h::r)++ts.map jU) ((((PV.str h::r).length:Nat):Int)+(sd:Int))=some (.int (b:Int)):=by
    rw[show((((PV.str h::r).length:Nat):Int)+(sd:Int))=(((PV.str h::r).length+sd:Nat):Int)from rfl]
    refine i5 ?_
    rw[F9 (by omega),Hh,FY,Ce]
    rfl
   rw[Fn]
   simp only[List.set_cons_zero,List.set_cons_succ]
   refine An _ _ (aj fun N2 An=>?_)
   walk_at "x"
   simp only[pA,pB,GH,Fz,F0]
   have c1:decide ((b:Int) < 0)=false:=FQ (by omega)
   have c2:decide ((R.length:Int)<=(b:Int))=false:=FQ (by omega)
   simp only[c1,c2,Fz,F0]
   refine An _ _ ?_
   walk_at "x"
   simp only[f2,true_and]
   refine⟨FL (show _ < 1000000 by rw[Fx,FG];omega) (by decide),?_⟩
   refine hK _ _ ⟨d1++[(.str h::r,sd)],d2,b,v1++[b],Eb,_,_,_,_,by simp[gO],by rw[ed];simp,Fm,by rw[ev];simp,by simp[el],rfl,X2.put hpf,by rw[aq EG];exact p2,by rw[ac];simp[jU]⟩
 ·rintro σ S2 ⟨d1,d2,at_,v1,v2,x4,x5,x6,x7,e,ed,Cw,ev,el,rfl,X2,p2,f2⟩
  refine hN _ _ ?_
  walk_at "x"
  have ez:d2=[]:=by
   have:=F5 List.length e
   rw[ed]at this
   simp at this
   exact this
  subst ez
  cases Cw
  rw[Gb]at ev
  subst ev
  exact k pf S2 hpf X2 f2
def rQ{ws:List PV}{S:ax}{Q:bS}(h:sx ws)(q:Q (.bl true) S):bJ false (.tup ws) (.tup ws) S Q:=by
 obtain⟨ds,h1,h2,h3,h4⟩:=h
 refine⟨.tuple ds,.tuple ds,.tup (h1 S),.tup (h1 S),by simpa [PyData.canLay0]using h2,by simpa [PyData.canLay0]using h2,?_,?_⟩
 ·rw[Nat.min_self]
  simp only[PyData.depth]
  omega
 ·have e:PyData.eqv (.tuple ds) (.tuple ds)=true:=by simpa [PyData.eqv]using h4
  rw[e]
  exact q
def uY:PyData.strOk ("end":Str)=true:=by decide +kernel
def dg(t:Bd):t.yQ.length=t.rows+1:=by
 unfold Bd.yQ
 rw[Fv,Bd.yC]
 rfl
def jX(t:Bd):Seg t.yQ 0 (t.rowsOf ((0:Nat):Int) ((t.rows:Nat):Int)):=fun i x h=>by
 rw[Hz]
 unfold Bd.yQ
 have h':(t.rowsOf 0 (t.rows:Int))[i]?=some x:=h
 rw[F3 (FU.mp h').1]
 exact h'
def wx(t:Bd):t.yH 0 t.rows=0:=by
 unfold Bd.yH
 split<;>omega
structure wy (t:Bd) (v:PV):Prop where
 tr:aK t v=true
 th:zj 2 12 v
 ib:b7 3 v=true
abbrev jg(w:aA):Prop:=∀{S:ax} {js us:Vs} {t:Bd} {v:PV} {Q:bS} {E:b9},(∀z∈js,IsW z)->(∀z∈us,IsW z)->t.good js us->t.dep<=6->wy t v->(∀S',Ext S S'->Q (.bl true) S')->w [t.pv,.tup t.yQ,v] S Q E
def Ak{xt xg xd:aA}(Ed:bF 6 xt)(Aj:gh xg)(Ai:df 6 xd):jg (a8 4 (eg xt xg xd)):=by
 intro S js us t v Q E hj hu g h6 hv k
 unfold eg
 refine fi ?_
 rw[show aw 4 [t.pv,PV.tup t.yQ,v]=[some t.pv,some (.tup t.yQ),some v,none] from rfl]
 refine aj fun N hN=>?_
 walk_at "x"
 refine Ed h6 hv.th.x (by decide) fun S1 X1=>?_
 rw[hv.tr]
 simp only[Ie,Fz,F0]
 refine hN _ _ (aj fun N hN=>?_)
 walk_at "x"
 refine Ai h6 h6 hv.tr hv.th hv.ib fun p S2 hp X2 h2=>?_
 obtain⟨vis,hw⟩:=bP hj hu t t.yQ 0 t.rows v hv.tr g (jX t) (by rw[dg];omega)
 rw[wx]at hw
 refine Aj h2 hw (FI (aV t v 12 hv.tr hv.th hv.ib) (FI (uW h6) (by decide))) fun q S3 hq X3 h3=>?_
 refine hN _ _ ?_
 obtain⟨pre,ep⟩:=hw.last
 have e3:((0::vis).map jU)=pre.map jU++[jU t.rows]:=by rw[ep];simp
 rw[e3]at h3
 have ec:t.yQ=t.rowsOf 0 t.rows++[.tup [.str "end"]]:=rfl
 have el:(t.yQ.length:Int) - 1=(t.rows:Int):=by rw[dg];omega
 have a3:=mW (xs:=t.rowsOf 0 t.rows) (y:=.tup [.str "end"])
 rw[<-ec]at a3
 walk_at "x"
 try simp only[Bool.bne_false,F8]
 simp only[h3]
 rw[mW]
 simp only[jU,el,G3,FH,F8]
 rw[a3]
 dsimp only
 have:=rQ (Q:=Q) (ip uY) (k S3 (X1.trans (X2.trans X3)))
 simpa only [bJ,FH]using this
abbrev fA(n:Nat)(w:aA):Prop:=∀{S:ax} {t:Bd} {Q:bS} {E:b9},t.dep<=n->t.size<=900->(∀S',Ext S S'->Q (.int t.yN.length) S')->w [t.pv] S Q E
def nW{xo:aA}(n:Nat)(BM:im n xo):fA n (a8 1 (jc xo)):=by
 intro S t Q E hd hs k
 unfold jc
 refine fi ?_
 rw[show aw 1 [t.pv]=[some t.pv] from rfl]
 walk_at "x"
 refine BM hd hs fun p S1 hp X1 h1=>?_
 simp only[h1,Fx]
 exact k S1 X1
theorem cI:∀(t:Bd) (f n:Int),∀x∈t.rowsOf f n,∃h r,x = .tup (.str h::r)
 | .rest,_,_,x,h=>by simp[Bd.rowsOf]at h
 | .pay _ _,_,_,x,h=>by simp only[Bd.rowsOf,F2]at h;exact⟨_,_,h⟩
 | .put _ _,_,_,x,h=>by simp only[Bd.rowsOf,F2]at h;exact⟨_,_,h⟩
 | .use _,_,_,x,h=>by simp only[Bd.rowsOf,F2]at h;exact⟨_,_,h⟩
 | .yR a,f,n,x,h=>by
  simp only[Bd.rowsOf,FE]at h
  rcases h with h|h
  ·exact⟨_,_,h⟩
  ·exact cI a _ _ x h
 | .yF a b,f,n,x,h=>by
  simp only[Bd.rowsOf,F4]at h
  rcases h with h|h
  ·exact cI a _ _ x h
  ·exact cI b _ _ x h
 | .y7 a b,f,n,x,h=>by
  simp only[Bd.rowsOf,FE,F4]at h
  rcases h with h|h|h
  ·exact⟨_,_,h⟩
  ·exact cI a _ _ x h
  ·exact cI b _ _ x h
 | .y8 _ _ a b,f,n,x,h=>by
  simp only[Bd.rowsOf,FE,F4]at h
  rcases h with h|h|h
  ·exact⟨_,_,h⟩
  ·exact cI a _ _ x h
  ·exact cI b _ _ x h
def pR(t:Bd){x:PV}(h:x∈t.yQ):∃h r,x = .tup (.str h::r):=by
 unfold Bd.yQ at h
 rcases F4.mp h with h|h
 ·exact cI t _ _ x h
 ·rw[F2.mp h];exact⟨_,_,rfl⟩
def nX(t:Bd):aQ 0 t.yQ=t.yN.map t.rowAt:=by
 unfold Bd.yQ
 rw[bG,b4]
 simp[aQ,d5,al]
theorem lD:∀{i p:Nat} {xs:List Bd},p∈aE i xs->∃c,i<=p/\xs[p - i]?=some (.yR c)
 |i,p,[],h=>by simp[aE]at h
 |i,p,t::r,h=>by
  simp only[aE]at h
  have hrec:p∈aE (i+1) r->∃c,i<=p/\(t::r)[p - i]?=some (.yR c):=fun h=>by
   obtain⟨c,h1,h2⟩:=lD h
   refine⟨c,by omega,?_⟩
   rw[show p - i=(p - (i+1))+1 by omega]
   simpa using h2
  split at h
  ·rename_i ho
   rcases FE.mp h with rfl|h
   ·cases t with
    |yR c=>exact⟨c,Ft _,by simp⟩
    |_=>cases ho
   ·exact hrec h
  ·exact hrec h
def rR{x:Nat}{ns:List Nat}{a:Addr}{S:ax}{Q:bS}(h:S a=some (.lst (ns.map jU)))(hx:x∈ns)(q:Q (.bl false) S):ik true (.int (x:Int)) (.ref a) S Q:=by
 have hd:∀ms:List Nat,zK S (ms.map jU) (ms.map fun m:Nat=>PyData.int (m:Int)):=by
  intro ms
  induction ms with
  |nil=>exact .nil
  |cons m ms ih=>exact .cons (.int _) ih
 have hc:∀ms:List Nat,PyData.canLayAll0 (ms.map fun m:Nat=>PyData.int (m:Int))=true:=by
  intro ms
  induction ms with
  |nil=>simp[PyData.canLayAll0]
  |cons m ms ih=>simp[PyData.canLayAll0,PyData.canLay0,ih]
 have hi:dH (.int (x:Int)) (ns.map fun m:Nat=>PyData.int (m:Int))=true:=by
  unfold dH
  rw[List.any_eq_true]
  exact⟨.int (x:Int),Gn.mpr ⟨x,hx,rfl⟩,by simp[PyData.eqv]⟩
 unfold ik
 simp only[h]
 refine⟨.int (x:Int),_,.int _,hd ns,by simp[PyData.canLay0],hc ns,by simp[PyData.depth],?_⟩
 rw[hi]
 exact q
abbrev gS(w:aA):Prop:=∀{S:ax} {d l:Addr} {js us:Vs} {t:Bd} {Q:bS} {E:b9},yK S d l->(∀z∈js,IsW z)->(∀z∈us,IsW z)->t.good js us->t.dep<=6->t.size<=60->(∀S',yK S' d l->Q (.bl true) S')->w [.ref d,t.pv] S Q E
def AB{xc xe xp xt xo xl xg xd:aA}(Az:gM 6 xc)(Ak:jg xe)(AA:cY 6 xp)(C1:io 6 xt)(CB:fA 6 xo)(Bj:kD 6 xl)(Aj:gh xg)(Ai:df 6 xd):gS (a8 7 (dE xc xe xp xt xo xl xg xd)):=by
 intro S d l js us t Q E D hj hu g h6 hs k
 unfold dE
 refine fi ?_
 rw[show aw 7 [PV.ref d,t.pv]=[some (.ref d),some t.pv,none,none,none,none,none] from rfl]
 refine aj fun N hN=>?_
 walk_at "x"
 refine Az h6 (by omega) fun S1 X1=>?_
 have D1:=D.ext X1
 refine hN _ _ (aj fun N hN=>?_)
 walk_at "x"
 simp only[mf,GH,Fz,F0]
 refine AA h6 ?_
 have mk:∀{v:PV},aK t v=true->zj 2 (2 * t.dep) v->b7 3 v=true->wy t v:=fun a b c=>⟨a,b.mono (Ft _) (by omega),c⟩
 refine Ak hj hu g h6 (mk t.tr_plain t.zb t.zc) fun S2 X2=>?_
 simp only[GH,Fz,F0]
 have D2:=D1.ext X2
 refine hN _ _ (aj fun N hN=>?_)
 simp only[cU,eJ,c3]
 refine⟨by decide,by decide,?_⟩
 refine cb (fun done σ S'=>∃y3:Option PV,σ=[some (.ref d),some t.pv,some (.tup t.yQ),y3,none,none,none]/\yK S' d l) ⟨_,rfl,D2⟩ (fun _ _ _ _=>trivial) ?_ ?_
 ·rintro done x rest σ S3 K e ⟨y3,rfl,D3⟩ hK
  simp only[Tg.put,List.set_cons_succ,List.set_cons_zero]
  walk_at "x"
  intro px hpx
  have dx:=D3.free hpx
  refine C1 (D3.new hpx) ac dx.1 dx.2 (by decide) h6 fun v S4 l4 i4 t4 n4 _ _ D4 x4 O4=>?_
  refine Ak hj hu g h6 (mk i4 t4 n4) fun S5 X5=>?_
  simp only[GH,Fz,F0]
  exact hK _ _ ⟨_,rfl,D4.ext X5⟩
 rintro σ S3 ⟨y3,rfl,D3⟩
 refine hN _ _ (aj fun N hN=>?_)
 walk_at "x"
 refine⟨by omega,by rw[dg];have:=t.yP;omega,?_⟩
 rw[GN]
 refine d3 (fun done ys S'=>done.length<=t.yQ.length/\ys=(aQ 0 (t.yQ.take done.length)).map jU/\S'=S3) ⟨Gq _,rfl,rfl⟩ ?_ ?_ ?_
 ·rintro done ys S' ⟨hl,rfl,rfl⟩
  refine⟨trivial,aI ?_⟩
  rw[Fx]
  have a:=g6 0 (t.yQ.take done.length)
  rw[Ge,dg]at a
  have:=t.yP
  omega
 ·rintro done x rest ys S' K e ⟨hl,rfl,rfl⟩ hK
  obtain⟨rfl,hlt⟩:=kz e
  obtain⟨hh,r,er⟩:=pR t (Ig hlt)
  have hat:zk t.yQ (done.length:Int)=some (.tup (.str hh::r)):=i5 (by rw[F6 hlt,er])
  have et:aQ 0 (t.yQ.take (done.length+1))=aQ 0 (t.yQ.take done.length)++(if decide (hh=("often":Str))=true then [done.length] else []):=by
   rw[List.take_succ,F6 hlt,er,Option.toList_some,bG,Ge,HQ hl,Hz]
   rfl
  walk_at "x"
  rw[hat]
  simp only[md,FH]
  cases hr:decide (hh=("often":Str))with
  |true=>
   simp only[F8]
   refine hK _ _ ⟨by rw[Fv];exact hlt,?_,rfl⟩
   rw[Fv,Gg,et,hr,if_pos rfl]
   simp[jU]
  |false=>
   simp only[Fz,F0]
   refine hK _ _ ⟨by rw[Fv];exact hlt,?_,rfl⟩
   rw[Fv,Gg,et,hr,if_neg (by decide),Gb]
 rintro ys S4 ⟨_,rfl,rfl⟩
 rw[cV,List.take_length,nX]
 intro pl hpl
 have D5:yK (aD S4 pl (.lst ((t.yN.map t.rowAt).map jU))) d l:=D3.new hpl
 have dpl:=D3.free hpl
 have h5:(aD S4 pl (.lst ((t.yN.map t.rowAt).map jU))) pl=some (.lst ((t.yN.map t.rowAt).map jU)):=ac
 generalize aD S4 pl (.lst ((t.yN.map t.rowAt).map jU))=S5 at D5 h5
 refine hN _ _ (aj fun N hN=>?_)
 walk_at "x"
 refine CB h6 (by omega) fun S6 X6=>?_
 have Ee:=X6 _ _ h5
 simp only[Ee,Fx,G3,Ie,Fz,F0]
 have Df:t.yN.length<=60:=by
  have:=fq 0 t.parts
  rw[t.yG]at this
  exact FI this hs
 refine hN _ _ (aj fun N hN=>?_)
 simp only[cU,eJ,ar,bL,v3,lk,bA,Ee,Fx]
 refine⟨by omega,by omega,?_⟩
 rw[GN]
 refine cb (fun done σ S'=>∃y5 y6:Option PV,σ=[some (.ref d),some t.pv,some (.tup t.yQ),y3,some (.ref pl),y5,y6]/\yK S' d l/\S' pl=some (.lst ((t.yN.map t.rowAt).map jU))) ⟨_,_,rfl,D5.ext X6,Ee⟩ (fun _ _ _ _=>trivial) ?_ ?_
 ·rintro done x rest σ S7 K e ⟨y5,y6,rfl,D7,h7⟩ hK
  obtain⟨rfl,hlt⟩:=kz e
  simp only[Tg.put,List.set_cons_succ,List.set_cons_zero]
  have hp:=F6 hlt
  generalize t.yN[done.length]=p at hp
  have Fo:p∈t.yN:=Gh hp
  obtain⟨c,_,hc⟩:=lD Fo
  rw[Nat.sub_zero]at hc
  obtain⟨l1,l2,l3⟩:=bo t p c hc
  have ok:=mk l1 l2 l3
  refine aj fun N2 An=>?_
  walk_at "x"
  refine Bj h6 (by omega) hp fun S8 X8=>?_
  refine An _ _ ?_
  have h8:=X8 _ _ h7
  have D8:=D7.ext X8
  walk_at "x"
  refine Ak hj hu g h6 ok fun S9 X9=>?_
  simp only[GH,Fz,F0]
  have h9:=X9 _ _ h8
  simp only[h9]
  have hat:zk ((t.yN.map t.rowAt).map jU) (done.length:Int)=some (.int ((t.rowAt p:Nat):Int)):=i5 (by rw[FY,FY,hp];rfl)
  rw[hat]
  dsimp only
  refine Ai h6 h6 ok.tr ok.th ok.ib fun q Fp hq EI DG=>?_
  obtain⟨vis,hw,hm⟩:=b3 hj hu t p c t.yQ 0 t.rows hc g (jX t) (by rw[dg];omega)
  rw[wx]at hw hm
  rw[Hz]at hm
  refine Aj DG hw (FI (aV t _ 12 ok.tr ok.th ok.ib) (FI (uW h6) (by decide))) fun q2 S11 hq2 EJ h11=>?_
  refine rR h11 hm ?_
  simp only[Fz,F0]
  exact hK _ _ ⟨_,_,rfl,((D8.ext X9).ext EI).ext EJ,EJ _ _ (EI _ _ h9)⟩
 rintro σ S7 ⟨y5,y6,rfl,D7,h7⟩
 refine hN _ _ ?_
 walk_at "x"
 exact k S7 D7
abbrev rT(w:aA):Prop:=∀{ns:Vu} {S:ax} {Q:bS} {E:b9},ns.length<=63->(∀S',Q (.bl true) S')->w [.cl (ns.map PV.int)] S Q E
def iV{α:Type}(xs:List α):(b6 xs (some 1) (some 4)).length<=3:=by
 unfold b6
 rw[Ge]
 have e1:HT.yT xs.length 0 (some 1)=min 1 xs.length:=HT.ic xs.length 0 1
 have e2:HT.yT xs.length xs.length (some 4)=min 4 xs.length:=HT.ic xs.length xs.length 4
 rw[e1,e2]
 omega
def uZ{x0 x1 x2 x3 x4 x5:aA}(AJ:ls x0)(Ax:gI x1)(AM:fQ 12 x2)(yE:bt x3)(AB:gS x4)(AO:fR 12 x5):rT (a8 5 (pQ x0 x1 x2 x3 x4 x5)):=by
 intro ns S Q E hns k
 unfold pQ
 refine fi ?_
 rw[show aw 5 [PV.cl (ns.map PV.int)]=[some (.cl (ns.map PV.int)),none,none,none,none] from rfl]
 refine aj fun N hN=>?_
 walk_at "x"
 refine AJ hns (by decide) (by decide) fun d l S1 _ _ D1 _=>?_
 refine hN _ _ (aj fun N hN=>?_)
 walk_at "x"
 intro p hp
 rw[ac]
 dsimp only
 have hc:=iV (ns.map PV.int)
 have D2:yK (aD S1 p (.lst (b6 (ns.map PV.int) (some 1) (some 4)))) d l:=D1.new hp
 generalize aD S1 p (.lst (b6 (ns.map PV.int) (some 1) (some 4)))=S2 at D2
 generalize (b6 (ns.map PV.int) (some 1) (some 4)).length=cl at hc
 refine⟨by omega,by omega,?_⟩
 obtain⟨rr,er⟩:∃rr:Nat,2+(cl:Int)=(rr:Int):=⟨2+cl,by omega⟩
 rw[er,GN]
 refine cb (fun done σ S'=>∃(y2 y3 y4:Option PV),σ=[some (.cl (ns.map PV.int)),some (.ref d),y2,y3,y4]/\yK S' d l) ⟨_,_,_,rfl,D2⟩ (fun _ _ _ _=>trivial) ?_ ?_
 ·rintro done x rest σ S4 K e ⟨y2,y3,y4,rfl,D4⟩ hK
  simp only[Tg.put,List.set_cons_succ,List.set_cons_zero]
  refine aj fun N2 An=>?_
  walk_at "x"
  refine Ax D4 (by decide) (by decide) fun pw zs S5 hl hnd hw hp Ef hpl Fq D5 O5=>?_
  have hl8:zs.length=8:=hl
  refine An _ _ (aj fun N2 An=>?_)
  walk_at "x"
  refine yE D5 (by decide) (by decide) fun r S6 r0 r1 D6 O6=>?_
  obtain⟨j,rfl⟩:∃j:Nat,r=(j:Int):=⟨r.toNat,by omega⟩
  have w6:=O6 _ _ Fq Ef hpl
  rw[w6]
  dsimp only
  rw[uM (by rw[Fx];omega),<-List.map_take]
  intro p6 EK
  rw[ac]
  dsimp only
  have D7:=D6.new (o:=.lst ((zs.take j).map PV.str)) EK
  have w7:=zS.new (o:=.lst ((zs.take j).map PV.str)) EK _ _ w6 Ef hpl
  generalize aD S6 p6 (.lst ((zs.take j).map PV.str))=S7 at D7 w7
  intro px hpx
  have dx:=D7.free hpx
  refine AM (js:=zs.take j) (D7.new hpx) ac dx.1 dx.2 (by rw[Ge];omega) (by omega) (by omega) (by decide) (by omega) fun t S8 l1 tg td q0 q1 D8 hx8 O8=>?_
  have Fr:zS d l S7 S8:=fun a o ha h1 h2=>O8 a o (by rw[aq (fun e=>by rw[e,hpx]at ha;cases ha)];exact ha) h1 h2 (fun e=>by rw[e,hpx]at ha;cases ha)
  have w8:=Fr _ _ w7 Ef hpl
  refine An _ _ ?_
  walk_at "x"
  rw[w8]
  dsimp only
  rw[show(4:Int)=((4:Nat):Int)from rfl,uN (by rw[Fx];omega),<-List.map_drop]
  intro p8 hp8
  have d8:=D8.free hp8
  refine AO (js:=zs.take j) (us:=zs.drop 4) (D8.new hp8) (.ref ac d8.1 d8.2) (by rw[Gj];omega) (by rw[Gj];omega) (by omega) tg fun u S9 ug ud uz D9 O9=>?_
  refine AB (js:=zs.take j) (us:=zs.drop 4) D9 (fun z hz=>(hw z (List.mem_of_mem_take hz)).1) (fun z hz=>(hw z (List.mem_of_mem_drop hz)).1) ug (by omega) (by omega) fun Fp Fs=>?_
  simp only[GH,Fz,F0]
  exact hK _ _ ⟨_,_,_,rfl,Fs⟩
 ·rintro σ S4 ⟨y2,y3,y4,rfl,D4⟩
  refine hN _ _ ?_
  walk_at "x"
  exact k S4
def fB:bt w__law_draw:=yE
def wA:ky fy:=Bg
def rV:gI dC:=Ax fB
def u4:iY d9:=AK fB wA
def u5:i3 d_:=AL fB u4
theorem pS:∀n,fQ n (cD n)
 |0=>fun _ _ _ _ _ _ _ h0 h1 _=>by omega
 |n+1=>AM fB u5 n (pS n)
theorem pU:∀n,fR n (cE n)
 |0=>fun _ _ _ _ h _ _=>absurd h (by have:=Bd.yM;exact GD.mpr (this _))
 |n+1=>AO fB n (pU n)
theorem wB:∀n,io n (cf n)
 |0=>fun _ _ _ _ _ h _=>absurd h (by have:=Bd.yM;exact GD.mpr (this _))
 |n+1=>uT fB n (wB n)
def mX:eF cx:=zV
def u6:i7 eI:=AQ mX
def pV:fk f9:=Ao
def rW{n m:Nat}{w:aA}(h:bF n w)(hm:m<=n):bF m w:=fun a b c k=>h (FI a hm) b c k
theorem pW:∀n,bF (n / 2) (fw n)/\gK ((n - 1) / 2) (fu n)
 |0=>⟨fun h _ _ _=>absurd h (by have:=Bd.yM;exact GD.mpr (this _)),fun h _ _ _=>absurd h (by have:=Bd.yM;exact GD.mpr (this _))⟩
 |n+1=>by
  obtain⟨a,b⟩:=pW n
  refine⟨?_,?_⟩
  ·rcases Nat.eq_zero_or_pos n with rfl|hn
   ·exact fun h _ _ _=>absurd h (by have:=Bd.yM;exact GD.mpr (this _))
   ·have e:(n+1) / 2=(n - 1) / 2+1:=by omega
    rw[e]
    exact fun{S L m t v Q E} h1 h2 h3 h4=>pG ((n - 1) / 2) mX pV b (rW a (by omega)) (S:=S) (L:=L) (m:=m) (t:=t) (v:=v) (Q:=Q) (E:=E) h1 h2 h3 h4
  ·rw[show(n+1 - 1) / 2=n / 2 from rfl]
   exact fun{S L m t v Q E} h1 h2 h3 h4=>pF (s0:=fu n) (n / 2) u6 a (S:=S) (L:=L) (m:=m) (t:=t) (v:=v) (Q:=Q) (E:=E) h1 h2 h3 h4
def yx:bF 6 fx:=(pW 12).1
def rX:gJ ft:=Ay
theorem ir:∀n,bD n (dz n)
 |0=>fun h _ _=>absurd h (by have:=Bd.yM;exact GD.mpr (this _))
 |n+1=>zp rX n (ir n)
def pX:fm gQ:=Ap
def gi:bV 12 bH:=nQ 12 (ir 12) pX
def kN:fX 12 cC:=pH 12 gi
theorem pY:∀n,n<=12->bW (n / 2) (eG n)/\gL ((n - 1) / 2) (bi n)/\kC ((n - 1) / 2) (ba n)/\ja ((n - 1) / 2) (bd n)
 |0,_=>⟨fun h _ _=>absurd h (by have:=Bd.yM;exact GD.mpr (this _)),fun h _ _ _=>absurd h (by have:=Bd.yM;exact GD.mpr (this _)),fun{S t f b Q E} h hh _ _=>by
   have h1:t.dep<=1:=h
   cases t with
   |y7 a b=>have:=a.yM;simp only[Bd.dep]at h1;omega
   |y8 _ _ a b=>have:=a.yM;simp only[Bd.dep]at h1;omega
   |_=>simp[Bd.hd,al]at hh,fun h _ _=>absurd h (by have:=Bd.yM;exact GD.mpr (this _))⟩
 |n+1,hn=>by
  obtain⟨a,b,c,e⟩:=pY n (by omega)
  have e2:(n+1 - 1) / 2=n / 2:=rfl
  refine⟨?_,?_,?_,?_⟩
  ·rcases Nat.eq_zero_or_pos n with rfl|hn
   ·exact fun h _ _=>absurd h (by have:=Bd.yM;exact GD.mpr (this _))
   ·have e1:(n+1) / 2=(n - 1) / 2+1:=by omega
    rw[e1]
    exact fun{S t f b' Q E} h1 h2 h3=>uR (s3:=eG n) ((n - 1) / 2) b c e (S:=S) (t:=t) (f:=f) (b:=b') (Q:=Q) (E:=E) h1 h2 h3
  ·rw[e2]
   exact fun{S t u f b' Q E} h1 h2 h3 h4=>pI (s0:=bi n) (s1:=ba n) (s2:=bd n) (n / 2) 12 (by omega) gi kN a (S:=S) (t:=t) (u:=u) (f:=f) (b:=b') (Q:=Q) (E:=E) h1 h2 h3 h4
  ·rw[e2]
   exact fun{S t f b' Q E} h1 h2 h3 h4=>uQ (s0:=bi n) (s1:=ba n) (s2:=bd n) (n / 2) 12 (by omega) gi kN a (S:=S) (t:=t) (f:=f) (b:=b') (Q:=Q) (E:=E) h1 h2 h3 h4
  ·rw[e2]
   exact fun{S t f b' Q E} h1 h2 h3=>rL (s0:=bi n) (s1:=ba n) (s2:=bd n) (n / 2) 12 (by omega) kN a (S:=S) (t:=t) (f:=f) (b:=b') (Q:=Q) (E:=E) h1 h2 h3
def rY:gM 6 kH:=Az 6 (pY 12 (Ft _)).1 fun a b k=>gi (FI a (by decide)) b k
theorem kO:∀n,cY n (bX n)
 |0=>fun h _=>absurd h (by have:=Bd.yM;exact GD.mpr (this _))
 |n+1=>AA n (kO n)
def sA:im 12 bQ:=uS 12 (ir 12)
def rZ:gN 12 kG:=nR 12 (ir 12)
theorem pZ:∀n,n<=12->fY n (bY n)
 |0,_=>fun h _ _ _=>absurd h (by have:=Bd.yM;exact GD.mpr (this _))
 |n+1,hn=>rM n 12 (by omega) rZ (kO 12) (pZ n (by omega))
def wC:kD 12 jf:=Bj 12 (pZ 12 (Ft _)) sA
theorem p7:∀n,df n (cF n)
 |0=>fun h _ _ _ _ _=>absurd h (by have:=Bd.yM;exact GD.mpr (this _))
 |n+1=>Ai n (p7 n)
def p9:df 6 cG:=fun a b c e f k=>p7 12 (FI a (by decide)) b c e f k
def p_:gh cH:=Aj
def u7:jg eh:=Ak yx p_ p9
def qb:fA 6 jd:=nW 6 fun a b k=>sA (FI a (by decide)) b k
def r6:gS dF:=AB rY u7 (fun a k=>kO 12 (FI a (by decide)) k) (fun a b c e f g k=>wB 12 a b c e f (FI g (by decide)) k) qb (fun a b c k=>wC (FI a (by decide)) b c k) p_ p9
def qc:∀ns:List Int,ns.length<=63->lC [.cl (ns.map PV.int)] (fun _=>none) (fun v _=>v = .bl true) gj:=fun ns h=>uZ AJ rV (pS 12) fB r6 (pU 12) h fun _=>rfl
end G17
namespace L3
open PySem L2 Xc
def nY{P:List Value->Prop}(h:∀a,P [a])(us:Vv)(hl:us.length=1):P us:=match us,hl with|[_],_=>h _
def qd{P:List Value->Prop}(h:∀a b,P [a,b])(us:Vv)(hl:us.length=2):P us:=match us,hl with|[_,_],_=>h _ _
def qh{P:List Value->Prop}(h:∀a b c,P [a,b,c])(us:Vv)(hl:us.length=3):P us:=match us,hl with|[_,_,_],_=>h _ _ _
def yy{P:List Value->Prop}(h:∀a b c d,P [a,b,c,d])(us:Vv)(hl:us.length=4):P us:=match us,hl with|[_,_,_,_],_=>h _ _ _ _
section
variable {K:Vo} {h:Heap} {mg:Vr} {x c m q:Str} {st:Stmt} {ps fl:Vs}
noncomputable def r9:Option (Option Value)->Bool
 |some none=>true
 |_=>false
def r_{o:Option (Option Value)}(h:r9 o=true):o=some none:=by
 unfold r9 at h;split at h
 ·rfl
 ·cases h
def FnAt(K:Vo)(f:Addr)(m q:Str)(st:Stmt):Prop:=∃(oc kV doc pm cdv ct:Value) (od an:Option Addr) (osl:Array (Option Value)),
 K.lookup f=some ⟨oc,od,.func (PySem.W.fnOf m q (cz st) (bu st) (aN st) .none kV doc pm an cdv ct),osl⟩/\PySem.W.codeIn K cdv q=true/\PySem.W.keepIn K (.ref f)=true
abbrev qe(m q:Str)(st:Stmt)(ps:Vs):Prop:=∀(kV doc pm:Value) (an:Option Addr) (cdv ct:Value) (us:Vv),us.length=ps.length->bindArgs (PySem.W.fnOf m q (cz st) (bu st) (aN st) .none kV doc pm an cdv ct) ⟨us,[]⟩=pure (ps.zip us)
def FnAt.mk{f:Addr}(a:FnAt K f m q st)(hb:qe m q st ps):∃fd,B8 K m q st f fd/\Binds K fd ps []/\PySem.W.keepIn K (.ref f)=true:=by
 obtain⟨oc,kV,doc,pm,cdv,ct,od,an,osl,l,cc,k⟩:=a
 exact⟨_,j7 l cc k,(j7 l cc k).binds hb,k⟩
def zI(K:Vo)(x:Str)(st:Stmt):Prop:=∃f,PySem.W.nsIn K mainGlobals x=some (some (.ref f))/\FnAt K f x x st
def zI.own(X:K.In h)(G:h.Ns mainGlobals mg)(a:zI K x st)(hb:qe x x st ps):bb K mg x st ps:=by
 obtain⟨f,n,a⟩:=a
 obtain⟨fd,F,b,k⟩:=a.mk hb
 exact⟨f,fd,F,b,k,PySem.W.mg_of X G n⟩
def zI.law{fa:Addr}(X:K.In h)(G:h.Ns mainGlobals mg)(a:zI K x st)(hfa:mg x=some (.ref fa))(hb:qe x x st ps):∃kV doc pm an cdv ct,wQ K mg x st ps fa (PySem.W.fnOf x x (cz st) (bu st) (aN st) .none kV doc pm an cdv ct):=by
 obtain⟨f,n,oc,kV,doc,pm,cdv,ct,od,an,osl,l,cc,k⟩:=a
 cases hfa.symm.trans (PySem.W.mg_of X G n)
 exact⟨kV,doc,pm,an,cdv,ct,j7 l cc k,(j7 l cc k).binds hb,k,hfa⟩
def Dg(P:Program)(w:World)(K:Vo)(x:Str)(kvs:List (a7×V)):Prop:=∃a o,PySem.W.nsIn K mainGlobals x=some (some (.ref a))/\K.lookup a=some o/\(a == sysModules)=false/\∃vs,KV kvs vs/\Obj.IsDictOf (aM P w) o vs
def Dg.kd{P:Program}{w:World}{kvs:List (a7×V)}(X:K.In h)(G:h.Ns mainGlobals mg)(a:Dg P w K x kvs):∃a,mg x=some (.ref a)/\KD P w K a kvs:=by
 obtain⟨a,o,n,l,s,vs,h1,h2⟩:=a
 exact⟨a,PySem.W.mg_of X G n,s,o,vs,l,h1,h2⟩
def jh(X:K.In h)(G:h.Ns mainGlobals mg){l:Vs}(a:(l.all fun x=>r9 (PySem.W.nsIn K mainGlobals x))=true)(hx:x∈l:=by decide):mg x=none:=PySem.W.mg_none_of X G (r_ (Gz.mp a x hx))
section
variable {f C:Addr} {oc kV doc pm cdv ct:Value} {od an:Option Addr} {osl:Array (Option Value)}
def yz(n:PySem.W.nsIn K mainGlobals x=some (some (.ref f)))(l:K.lookup f=some ⟨oc,od,.func (PySem.W.fnOf x x (cz st) (bu st) (aN st) .none kV doc pm an cdv ct),osl⟩)(cc:PySem.W.codeIn K cdv x=true)(k:PySem.W.keepIn K (.ref f)=true):zI K x st:=⟨f,n,oc,kV,doc,pm,cdv,ct,od,an,osl,l,cc,k⟩
def yA{P:Program}{w:World}{kvs:List (a7×V)}{o:Obj}(n:PySem.W.nsIn K mainGlobals x=some (some (.ref f)))(l:K.lookup f=some o)(s:(f == sysModules)=false)(v:∃vs,KV kvs vs/\Obj.IsDictOf (aM P w) o vs):Dg P w K x kvs:=⟨f,o,n,l,s,v⟩
end
end
end L3
namespace G17
open PySem L2 L3
def u8{l:PySem.W.OpenLaw}{w:World}{K:Vo}{h:Heap}{mg:Vr}{fa:Addr}(X:K.In h)(G:h.Ns mainGlobals mg)(hfa:mg "law" = some (.ref fa))
  (zM:zI K "sides_of" (bj 2))
  (zN:zI K "parts_in" (bj 3))
  (Aq:zI K "parts" (bj 4))
  (z0:zI K "has_row" (bj 6))
  (z3:zI K "rows_in" (bj 7))
  (Ar:zI K "begin" (bj 8))
  (zd:zI K "rows_of_then" (bj 9))
  (yZ:zI K "rows_of_choice" (bj 10))
  (y9:zI K "rows_of_often" (bj 11))
  (z4:zI K "rows_of" (bj 12))
  (As:zI K "chart" (bj 13))
  (zO:zI K "is_whole" (bj 15))
  (z5:zI K "is_many" (bj 16))
  (zP:zI K "is_going" (bj 17))
  (zQ:zI K "is_trace" (bj 18))
  (Ab:zI K "chosen" (bj 19))
  (zh:zI K "plain_trace" (bj 20))
  (ze:zI K "often_places" (bj 21))
  (Ac:zI K "oftens" (bj 22))
  (zi:zI K "led_to_part" (bj 23))
  (Ad:zI K "led_to" (bj 24))
  (zw:zI K "_law_deal" (bj 26))
  (zx:zI K "_law_draw" (bj 27))
  (zq:zI K "_law_words" (bj 28))
  (zR:zI K "_law_low" (bj 29))
  (zy:zI K "_law_cost" (bj 30))
  (zz:zI K "_law_leaf" (bj 31))
  (zA:zI K "_law_body" (bj 32))
  (zr:zI K "_law_trace" (bj 33))
  (zB:zI K "_law_used" (bj 34))
  (zC:zI K "_law_done" (bj 35))
  (zD:zI K "_law_gone" (bj 36))
  (zE:zI K "_law_ends" (bj 37))
  (zt:zI K "_law_right" (bj 38))
  (zu:Dg l.prog w K "SIDES_FROM" (C.k_SIDES_FROM.map fun kv=>(kv.1,V.int kv.2)))
  (Bz:((["all","bool","enumerate","int","isinstance","len","list","max","range","reversed","tuple"]:Vs).all fun x=>r9 (PySem.W.nsIn K mainGlobals x))=true)
  (BS:zI K "law" (bj 39))
  : ∃fd:FuncData,(∀(s:Shared) (v:Value),BindsTo s fd ⟨[v],[]⟩ [("_law_script",v)])/\∀base:Heap,K.In base->base.Ns mainGlobals mg->jZ l.prog w K mg base sj 30 fa fd ["_law_script"] (wn K 1 lC):=by
 obtain⟨kV,doc,pm,an,cdv,ct,O⟩:=BS.law X G hfa (ps:=["_law_script"]) (fun _ _ _ _ _ _=>nY fun _=>rfl)
 exact⟨_,fun s v=>.of_eq rfl,fun base _ _=>(uV (P:=l.prog) (w:=w) (base:=base) ⟨zM.own X G (fun _ _ _ _ _ _=>nY fun _=>rfl),
  zN.own X G (fun _ _ _ _ _ _=>nY fun _=>rfl),
  Aq.own X G (fun _ _ _ _ _ _=>nY fun _=>rfl),
  z0.own X G (fun _ _ _ _ _ _=>nY fun _=>rfl),
  z3.own X G (fun _ _ _ _ _ _=>nY fun _=>rfl),
  Ar.own X G (fun _ _ _ _ _ _=>qh fun _ _ _=>rfl),
  zd.own X G (fun _ _ _ _ _ _=>qh fun _ _ _=>rfl),
  yZ.own X G (fun _ _ _ _ _ _=>qh fun _ _ _=>rfl),
  y9.own X G (fun _ _ _ _ _ _=>qh fun _ _ _=>rfl),
  z4.own X G (fun _ _ _ _ _ _=>qh fun _ _ _=>rfl),
  As.own X G (fun _ _ _ _ _ _=>nY fun _=>rfl),
  zO.own X G (fun _ _ _ _ _ _=>nY fun _=>rfl),
  z5.own X G (fun _ _ _ _ _ _=>nY fun _=>rfl),
  zP.own X G (fun _ _ _ _ _ _=>qd fun _ _=>rfl),
  zQ.own X G (fun _ _ _ _ _ _=>qd fun _ _=>rfl),
  Ab.own X G (fun _ _ _ _ _ _=>qd fun _ _=>rfl),
  zh.own X G (fun _ _ _ _ _ _=>nY fun _=>rfl),
  ze.own X G (fun _ _ _ _ _ _=>nY fun _=>rfl),
  Ac.own X G (fun _ _ _ _ _ _=>nY fun _=>rfl),
  zi.own X G (fun _ _ _ _ _ _=>qh fun _ _ _=>rfl),
  Ad.own X G (fun _ _ _ _ _ _=>qh fun _ _ _=>rfl),
  zw.own X G (fun _ _ _ _ _ _=>qd fun _ _=>rfl),
  zx.own X G (fun _ _ _ _ _ _=>qd fun _ _=>rfl),
  zq.own X G (fun _ _ _ _ _ _=>qd fun _ _=>rfl),
  zR.own X G (fun _ _ _ _ _ _=>qd fun _ _=>rfl),
  zy.own X G (fun _ _ _ _ _ _=>nY fun _=>rfl),
  zz.own X G (fun _ _ _ _ _ _=>qd fun _ _=>rfl),
  zA.own X G (fun _ _ _ _ _ _=>yy fun _ _ _ _=>rfl),
  zr.own X G (fun _ _ _ _ _ _=>qh fun _ _ _=>rfl),
  zB.own X G (fun _ _ _ _ _ _=>qh fun _ _ _=>rfl),
  zC.own X G (fun _ _ _ _ _ _=>qd fun _ _=>rfl),
  zD.own X G (fun _ _ _ _ _ _=>qd fun _ _=>rfl),
  zE.own X G (fun _ _ _ _ _ _=>qh fun _ _ _=>rfl),
  zt.own X G (fun _ _ _ _ _ _=>qd fun _ _=>rfl),
  jh (x:="all") X G Bz,
  jh (x:="bool") X G Bz,
  jh (x:="enumerate") X G Bz,
  jh (x:="int") X G Bz,
  jh (x:="isinstance") X G Bz,
  jh (x:="len") X G Bz,
  jh (x:="list") X G Bz,
  jh (x:="max") X G Bz,
  jh (x:="range") X G Bz,
  jh (x:="reversed") X G Bz,
  jh (x:="tuple") X G Bz,
  zu.kd X G⟩ O).ok⟩
def xX{l:PySem.W.OpenLaw}{q:Program}{loose:Vs}{XP:(Vr)->Heap->Prop}{YP:World->Heap->Prop}{d:DefRec}{K:Params->PySem.W.Frag}(hn:l.most=some 63)(hdf:d.params.defaults=[])
  (hY:∀(w:World) (h:Heap),YP w h->(K w.params).In h)
  (F:∀(w:World) (mg:Vr) (fa:Addr) (h:Heap),(K w.params).In h->h.Ns mainGlobals mg->mg d.name=some (.ref fa)->
   ∃fd:FuncData,(∀(s:Shared) (u:Value),BindsTo s fd ⟨[u],[]⟩ [("_law_script",u)])/\∀base:Heap,(K w.params).In base->base.Ns mainGlobals mg->jZ l.prog w (K w.params) mg base sj 30 fa fd ["_law_script"] (wn (K w.params) 1 lC)) :
  PySem.W.WalkO q loose XP YP l.row.toRowW d [] (fun f vs=>PySem.call f vs):=
 L2.qP (n:=63) (k:=30) (x:="_law_script") (CX:=fun _=>sj) (sp:=fun w=>wn (K w.params) 1 lC) hn (by decide) hdf ⟨rfl,by decide,by decide,rfl⟩ hY F (fun _ _ a ns hl hO hS=>xN hO hS (qc ns hl)) fun _ _ _ _ _ z=>z
end G17
local macro_rules | `(tactic| walk_at "k")=>`(tactic| (apply L3.yz; k_is; k_is; k_is; k_is))
open PySem PySem.W PyProof.Rows
set_option maxRecDepth 100000 in
set_option maxHeartbeats 0 in
theorem PySem.Challenge.cw_dueworth_k17_whole_traces_gone_by_charts_holds : PySem.Challenge.rw_dueworth_k17_whole_traces_gone_by_charts.Holds := by
 w_on; refine holds_law E17.said fun said => ?_
 refine holds_open (q := E17.vw) (loose := ["SIDES_FROM"]) (Xt := fun s => (xlAt E17.vw [] s && recOk (RowW.records E17.rr) s)) (XP := XL E17.vw []) (N := 2484)
  (Yf := Hook.obs E17.hk) (Ya := Hook.val E17.hk) (YP := Hook.says (kHook E17.early.heap_1 E17.as E17.xY)) E17.left (Hook.of E17.hk) (Hook.keeps E17.hk) (fun s e => xl_of s (G1.mp e).1)
  XL.keeps rfl rfl rfl (fun s e => recFacts_of (G1.mp e).2) rfl (by assumption)
  (by decide +kernel) ⟨rfl, rfl, rfl, rfl, rfl, by decide +kernel⟩ ?hw ?hc
 (case hw => w_witness2)
 k_fill
 refine G17.xX (l := PySem.Challenge.rw_dueworth_k17_whole_traces_gone_by_charts) rfl rfl (fun w h Y => PySem.W.kIn_of Y) ?F
 case F =>
  intro w mg fa h KX G hmg
  refine' G17.u8 KX G hmg ?zM ?zN ?Aq ?z0 ?z3 ?Ar ?zd ?yZ ?y9 ?z4 ?As ?zO ?z5 ?zP ?zQ ?Ab ?zh ?ze ?Ac ?zi ?Ad ?zw ?zx ?zq ?zR ?zy ?zz ?zA ?zr ?zB ?zC ?zD ?zE ?zt ?zu ?Bz ?BS
  (case zM => walk_at "k")
  (case zN => walk_at "k")
  (case Aq => walk_at "k")
  (case z0 => walk_at "k")
  (case z3 => walk_at "k")
  (case Ar => walk_at "k")
  (case zd => walk_at "k")
  (case yZ => walk_at "k")
  (case y9 => walk_at "k")
  (case z4 => walk_at "k")
  (case As => walk_at "k")
  (case zO => walk_at "k")
  (case z5 => walk_at "k")
  (case zP => walk_at "k")
  (case zQ => walk_at "k")
  (case Ab => walk_at "k")
  (case zh => walk_at "k")
  (case ze => walk_at "k")
  (case Ac => walk_at "k")
  (case zi => walk_at "k")
  (case Ad => walk_at "k")
  (case zw => walk_at "k")
  (case zx => walk_at "k")
  (case zq => walk_at "k")
  (case zR => walk_at "k")
  (case zy => walk_at "k")
  (case zz => walk_at "k")
  (case zA => walk_at "k")
  (case zr => walk_at "k")
  (case zB => walk_at "k")
  (case zC => walk_at "k")
  (case zD => walk_at "k")
  (case zE => walk_at "k")
  (case zt => walk_at "k")
  (case zu => apply L3.yA; k_is; k_is; rfl; exact L2.tV _ w [("then", 1, _, _), ("either", 1, _, _), ("take", 3, _, _), ("often", 1, _, _)] _ (by decide +kernel))
  (case Bz => kernel_rfl)
  (case BS => walk_at "k")
#print axioms PySem.Challenge.cw_dueworth_k17_whole_traces_gone_by_charts_holds
