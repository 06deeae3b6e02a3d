import PyProof.Rows.All
import Wide.All
import OpenK.AllK
import Wide.FinOn
import Lean
import PyProof.EqAt
import PyProof.EqKinds
import PyProof.TupleCall
import PySem.Challenge.RW_dueworth_k51_users_priced_and_joined
import Open.Tree
import Open.Head
section
set_option Elab.async false
set_option linter.all false
set_option maxRecDepth 100000
set_option maxHeartbeats 0
abbrev EX:=@PySem.wpAny_bind
abbrev EY:=@PySem.Heap.get?_push_of_some
abbrev EZ:=@List.size_toArray
abbrev E1:=@Nat.le_refl
abbrev E2:=@PySem.wpAny_pure
abbrev E4:=@PySem.Heap.lt_size
abbrev E5:=@List.length_map
abbrev E6:=@List.length_append
abbrev E7:=@Nat.lt_of_lt_of_le
abbrev E8:=@PySem.Heap.get?_push_size
abbrev E9:=@Nat.ne_of_lt
abbrev Fb:=@Array.getElem?_eq_getElem
abbrev Fc:=@Nat.le_trans
abbrev Fd:=@List.map_cons
abbrev Fe:=@List.length_cons
abbrev Ff:=@Bool.false_ne_true
abbrev Fg:=@List.mem_cons
abbrev Fi:=@Bool.false_bne
abbrev Fj:=@decide_eq_true_eq
abbrev Fl:=@List.getElem?_eq_getElem
abbrev Fo:=@List.mem_append_right
abbrev Fp:=@List.getElem?_append_left
abbrev Fq:=@List.getElem?_append_right
abbrev Ft:=@Int.eq_ofNat_of_zero_le
abbrev Fv:=@List.getElem?_map
abbrev Fw:=@PySem.Around.under_plainId
abbrev Fx:=@Bool.false_eq_true
abbrev Fy:=@PyProof.Rows.slot_tuple_getitem
abbrev Fz:=@List.mem_map
abbrev FA:=@List.mem_append
abbrev FD:=@List.length_take
abbrev FE:=@List.length_drop
abbrev FF:=@List.nodup_cons
abbrev FG:=@PySem.wpAny_holding
abbrev FH:=@List.length_replicate
abbrev FI:=@congrArg
abbrev FJ:=@PyProof.Rows.callWith_type1
abbrev FL:=@List.mem_cons_of_mem
abbrev FN:=@Nat.zero_le
abbrev FO:=@List.mem_singleton
abbrev FP:=@decide_eq_false
abbrev FQ:=@Option.some.inj
abbrev FT:=@PySem.Heap.get?_update_other
abbrev FU:=@PySem.mem_of_lookup
abbrev FW:=@PySem.codeAny_builtin
abbrev FY:=@PySem.PassesOwn.never
abbrev FZ:=@List.mem_cons_self
abbrev F0:=@PySem.wpAny_Call_Name_kw
abbrev F1:=@of_decide_eq_false
abbrev F2:=@List.getElem?_replicate
abbrev F3:=@Nat.pow_le_pow_right
abbrev F4:=@PySem.wpAny_newObj_type
abbrev F5:=@Nat.lt_trans
abbrev F6:=@List.map_map
abbrev F7:=@List.replicate_succ
abbrev F8:=@PySem.F.plain_extend_loop
abbrev F9:=@List.of_mem_zip
abbrev Ga:=@List.getElem?_eq_some_iff
abbrev Gb:=@PySem.Heap.get?_update_self
abbrev Gd:=@List.length_singleton
abbrev Ge:=@PySem.builtinLookup_eq_fast
abbrev Gf:=@Nat.succ_le_succ
abbrev Gg:=@Ne.symm
abbrev Gh:=@PySem.plainId_quiet
abbrev Gi:=@PySem.wpAny_mono
abbrev Gj:=@List.map_append
abbrev Gk:=@Option.map_eq_some_iff
abbrev Gm:=@PySem.wpAny_typeOf
abbrev Gn:=@List.map_nil
abbrev Gp:=@Nat.lt_irrefl
abbrev Gq:=@PyProof.Rows.assignInOrder_cons
abbrev Gr:=@PySem.Calls.spliced_cons
abbrev Gs:=@List.getElem?_eq_none
abbrev Gu:=@PySem.wpAny_passesOwn
abbrev Gv:=@List.append_nil
abbrev Gw:=@List.nil_append
abbrev Gx:=@Bool.and_eq_true_iff
abbrev Gy:=@List.mem_append_left
abbrev Gz:=@List.flatten_cons
abbrev GA:=@Int.mul_ediv_cancel_left
abbrev GB:=@if_false
abbrev GC:=@PySem.wpAny_callSpecial?_slot
abbrev GD:=@Int.fdiv_eq_ediv_of_dvd
abbrev GF:=@PySem.F.plainAttrs_list
abbrev GG:=@PySem.wpAny_field
abbrev GH:=@Array.getElem?_eq_none
abbrev GI:=@List.length_nil
abbrev GJ:=@PySem.typeLookup_type
abbrev GK:=@PySem.Calls.spliced_nil
abbrev GL:=@of_decide_eq_true
abbrev GN:=@List.mem_of_getElem?
abbrev GO:=@PySem.call_meets
abbrev GP:=@Nat.le_of_lt
abbrev GQ:=@List.filter_cons
abbrev GR:=@PySem.F.slot_tuple_getattribute
abbrev GS:=@PySem.F.args_tuple_add_2
abbrev GU:=@PySem.F.slot_list_getattribute
abbrev GV:=@List.mem_filter
abbrev GW:=@Bool.eq_iff_iff
abbrev GX:=@PySem.wpAny_updateSeq
abbrev GY:=@Nat.lt_of_le_of_lt
abbrev GZ:=@PySem.F.entry_tuple_add
abbrev G0:=@Nat.add_mul
abbrev G1:=@PySem.wpAny_bindName
abbrev G2:=@PySem.W.cellsFrom_some
abbrev G3:=@List.take_sublist
abbrev G4:=@PySem.F.slot_tuple_add
abbrev G5:=@Int.toNat_natCast
abbrev G6:=@if_true
abbrev G7:=@PySem.Calls.callWith_builtin
abbrev G8:=@List.reverse_cons
abbrev G9:=@decide_eq_true
abbrev Hf:=@PySem.wpAny_seqItems
abbrev Hg:=@List.take_of_length_le
abbrev Hh:=@List.eraseIdxIfInBounds_toArray
abbrev Hi:=@Nat.le_of_ble_eq_true
abbrev Hj:=@PySem.wpAny_rule
abbrev Hl:=@PySem.wpAny_call_entry
abbrev Ho:=@PySem.Heap.size_update
abbrev Hq:=@List.any_cons
abbrev Hr:=@PySem.Calls.evalArgs_plain
abbrev Hs:=@List.mem_of_mem_take
abbrev Ht:=@Nat.pow_lt_pow_right
abbrev Hu:=@PySem.wpAny_execs_nil
abbrev Hv:=@PySem.wpAny_specialOf
abbrev Hw:=@Int.natCast_pos
abbrev Hx:=@List.forIn_cons
abbrev Hy:=@PySem.F.slot_zip_next
abbrev Hz:=@Nat.min_eq_left
abbrev HA:=@beq_eq_false_iff_ne
abbrev HB:=@List.filterMap_cons
abbrev HC:=@Array.length_toList
abbrev HD:=@List.mem_map_of_mem
abbrev HE:=@List.getElem?_range
abbrev HF:=@PySem.F.entry_extend_loop
abbrev HG:=@Nat.ne_of_gt
abbrev HH:=@Int.le_of_lt
abbrev HJ:=@List.mem_range
abbrev HK:=@PySem.Heap.size_push
abbrev HL:=@PySem.callType_codes
abbrev HM:=@Int.emod_lt_of_pos
abbrev HN:=@Nat.not_le
abbrev HP:=@List.length_range
abbrev HQ:=@decide_true
abbrev HR:=@Bool.not_true
abbrev HS:=@List.lookup_cons
abbrev HU:=@List.not_mem_nil
abbrev HV:=@Nat.le_max_right
namespace ET
open PySem PySem.W PyProof.Rows
def eM(tb:String→Option Builtin)(p:Program)(w:World)(n₀:Nat)(ann:Option Value):Nat→SharedT→Thread→Option SharedT
 |0,_,_=>none
 |n+1,s,t=>match through t with
  |true=>some s
  |false=>match stepOk n₀ ann t with
   |false=>none
   |true=>match stepT (denote tb) p w s t with
    |some x=>eM tb p w n₀ ann n x.1 x.2
    |none=>none
theorem iu{tb:String→Option Builtin}{p:Program}{w:World}{n₀:Nat}{ann:Option Value}:∀{n:Nat} {s s':SharedT} {t:Thread},eM tb p w n₀ ann n s t=some s'→topRun tb p w n₀ ann n s.abs t=some s'.abs
 |0,_,_,_,h=>by cases h
 |n+1,s,s',t,h=>by
  unfold eM at h
  unfold topRun
  cases he:through t with
  |true=>rw[he]at h;cases h;rfl
  |false=>
   rw[he]at h
   cases hk:stepOk n₀ ann t with
   |false=>rw[hk]at h;cases h
   |true=>
    rw[hk]at h
    cases hs:stepT (denote tb) p w s t with
    |none=>rw[hs]at h;cases h
    |some r=>rw[hs]at h;rw[stepT_spec hs];exact iu h
def t6:List Obj→BT→Nat→Option (BT×Nat)
 |[],t,n=>some (t,n)
 |o::os,t,n=>match ((t.ins n o).get n).isSome with
  |true=>t6 os (t.ins n o) (n+1)
  |false=>none
theorem ld{life:Life}:∀{os:List Obj} {t t':BT} {n n':Nat},t6 os t n=some (t',n')→absHeap t' n' life=⟨(absHeap t n life).objs++os.toArray,life⟩
 |[],t,t',n,n',h=>by cases h;simp[absHeap]
 |o::os,t,t',n,n',h=>by
  unfold t6 at h
  cases g:((t.ins n o).get n).isSome with
  |false=>rw[g]at h;cases h
  |true=>
   rw[g]at h
   rw[ld h,absHeap_ins g]
   simp[Heap.push]
def eN(tb:String→Option Builtin)(p:Program)(w:World)(N:Nat)(s₀:Shared):Option Shared:=
 match s₀.heap.isNs mainGlobals&&s₀.gens.size == 0 with
 |true=>match t6 s₀.heap.objs.toList .nil 0 with
  |some x=>match eM tb p w x.2 (s₀.heap.nsMap mainGlobals "__annotations__") N ⟨x.1,x.2,s₀.heap.life,s₀.gens,s₀.drawn,s₀.toks,s₀.os⟩ (topStub p)with
   |some s=>match staticsOk (importedModules p.main.body) s₀.heap s.abs.heap&&namesBound p s.abs.heap&&gensDone s.abs&&laidKept s₀.heap s.abs.heap with
    |true=>some s.abs
    |false=>none
   |none=>none
  |none=>none
 |false=>none
theorem kz{tb:String→Option Builtin}{p:Program}{w:World}{N:Nat}{s₀ s:Shared}(h:eN tb p w N s₀=some s):topFrom tb p w N s₀=some s:=by
 unfold eN at h
 unfold topFrom
 cases h1:s₀.heap.isNs mainGlobals&&s₀.gens.size == 0 with
 |false=>rw[h1]at h;cases h
 |true=>
  rw[h1]at h
  dsimp only at h ⊢
  cases h2:t6 s₀.heap.objs.toList .nil 0 with
  |none=>rw[h2]at h;cases h
  |some x=>
   rw[h2]at h
   dsimp only at h
   have e:=ld (life:=s₀.heap.life) h2
   have e':absHeap x.1 x.2 s₀.heap.life=s₀.heap:=by
    rw[e]
    simp[absHeap,BT.list]
   have n':x.2=s₀.heap.objs.size:=by rw[←e',absHeap_size]
   cases h3:eM tb p w x.2 (s₀.heap.nsMap mainGlobals "__annotations__") N ⟨x.1,x.2,s₀.heap.life,s₀.gens,s₀.drawn,s₀.toks,s₀.os⟩ (topStub p)with
   |none=>rw[h3]at h;cases h
   |some r=>
    rw[h3]at h
    dsimp only at h
    have ea:SharedT.abs ⟨x.1,x.2,s₀.heap.life,s₀.gens,s₀.drawn,s₀.toks,s₀.os⟩=s₀:=by
     unfold SharedT.abs
     rw[e']
    have:=iu h3
    rw[ea,n']at this
    rw[this]
    exact h
theorem kA{tb:String→Option Builtin}{p:Program}{w:World}{N:Nat}{s₀:Shared}{α:Type}{f:Shared→α}{a:α}(h:Option.map f (eN tb p w N s₀)=some a):Option.map f (topFrom tb p w N s₀)=some a:=by
 obtain⟨s,h1,h2⟩:=Gk.mp h
 rw[kz h1]
 exact FI some h2
def seenT(p q:Program)(loose:List Str)(Xt:Shared→Bool){α:Type}(Yf:Shared→α)(N:Nat)(u u':World):=
 Option.map (fun c=>Option.map (fun s=>(openSeen q loose (importedModules p.main.body) Xt true s,Yf s)) (eN treeTable p u' N c)) (fencedOpening treeTable p u N)
lay_quick seenT
theorem lg{p q:Program}{loose:List Str}{Xt:Shared→Bool}{α:Type}{Yf:Shared→α}{N:Nat}{u u':World}{r}(h:PySem.W.Fast.tw2787559817927863336 p q loose Xt Yf N u u'=r):seenT p q loose Xt Yf N u u'=r:=by
 rw[PySem.W.Fast.te2787559817927863336]
 exact h
theorem vL{p q:Program}{loose:List Str}{Xt:Shared→Bool}{α:Type}{Yf:Shared→α}{Ya:World→α}{N:Nat}
  (h:∀u:World,seenT p q loose Xt Yf N u u=some (some (openGood q loose,Ya u))):LeftO p q loose Xt Yf Ya N:=fun u=>by
 obtain⟨c,a,b⟩:=Gk.mp (h u)
 unfold openEnds
 rw[a]
 exact kA b
theorem mF{p q:Program}{loose:List Str}{Xt:Shared→Bool}{α:Type}{Yf:Shared→α}{Ya:World→α}{N:Nat}(row:String)
  (h0:∀u:World,seenT p q loose Xt Yf N u (u.withFollow row false)=some (some (openGood q loose,Ya (u.withFollow row false))))
  (h1:∀u:World,seenT p q loose Xt Yf N u (u.withFollow row true)=some (some (openGood q loose,Ya (u.withFollow row true)))):LeftO p q loose Xt Yf Ya N:=fun u=>by
 obtain⟨c,a,b⟩:=Gk.mp (h0 u)
 obtain⟨c',a',b'⟩:=Gk.mp (h1 u)
 have hc:c'=c:=by rw[a]at a';cases a';rfl
 subst hc
 have b:=kA b
 have b':=kA b'
 have hu:=World.withFollow_self u row
 unfold openEnds
 rw[a]
 cases hb:u.params.followText row<;>rw[hb]at hu
 ·rw[hu]at b
  exact b
 ·rw[hu]at b'
  exact b'
end ET
namespace E51
open PySem PySem.W PyProof.Rows
abbrev tp(i:Nat):Stmt:=PySem.Challenge.pw_dueworth_k51_users_priced_and_joined.main.body.getD i (.Pass ⟨0,0,0,0⟩)
/-- the text without what says nothing -/
def vw:Program:={ PySem.Challenge.pw_dueworth_k51_users_priced_and_joined with main:={ PySem.Challenge.pw_dueworth_k51_users_priced_and_joined.main with body:=[tp 1,tp 2,tp 3,tp 5,tp 6,tp 7,tp 9,tp 10,tp 11,tp 12,tp 13,tp 14,tp 15,tp 16,tp 17,tp 18,tp 19,tp 20,tp 21,tp 22,tp 23,tp 24,tp 25,tp 26] } }
abbrev rr:RowW:=OpenRow.toRowW (OpenLaw.row PySem.Challenge.rw_dueworth_k51_users_priced_and_joined)
local macro_rules | `(tactic| o_head $H)=>`(tactic|
 refine holds_open (q:=vw) (loose:=["SIDES_FROM"]) (Xt:=fun s=>(xlAt vw [] s&&recOk (RowW.records rr) s)) (XP:=XL vw []) (N:=1664)
  (Yf:=Hook.obs $H) (Ya:=Hook.val $H) (YP:=Hook.says $H) ?hl (Hook.of $H) (Hook.keeps $H) (fun s e=>xl_of s (Gx.mp e).1)
  XL.keeps rfl rfl rfl (fun s e=>recFacts_of (Gx.mp e).2) rfl (by assumption)
  (by decide +kernel) ⟨rfl,rfl,rfl,rfl,rfl,by decide +kernel⟩ ?hw ?hc)
/-- the law is well said: by the quick twin of the look,with no twin of the program -/
theorem said:OpenLaw.wellSaid PySem.Challenge.rw_dueworth_k51_users_priced_and_joined=true:=(congrFun PySem.W.Fast.te9446332074065402090 _).trans (by kernel_rfl)
/-- says nothing; what lies in the heap is written down by the way -/
theorem early(h:∀P:Prop,P):PySem.Challenge.rw_dueworth_k51_users_priced_and_joined.Holds:=by
 w_on;refine holds_law said fun said=>?_;k_head
 all_goals exact h _
abbrev as:List Addr:=[2,3,15,16,18,19,21,22,23,26,27,28,31,32,33,36,37,38,40,41,43,44,45,48,49,50,52,53,55,56,57,59,60,62,63,64,67,68,69,71,72,74,75,76,78,79,81,82,83,85,86,88,89,90,92,93,95,96,97,99,100,102,103,104,106,107,109,110,111,114,115,116,118,119,121,122,123,126,127,128,130,131,133,134,135,137,138,140,141,142,145,146,147,150,151,152,155,156]
theorem w_(P:Params):as=(early.heap_1 P).map (·.1):=by kernel_rfl
noncomputable abbrev hk:Hook:=kmHook early.heap_1 as w_ [29]
theorem t7(u:World):ET.seenT (OpenLaw.row PySem.Challenge.rw_dueworth_k51_users_priced_and_joined).prog vw ["SIDES_FROM"] (fun s=>(xlAt vw [] s&&recOk (RowW.records rr) s)) (Hook.obs hk) 1664 u (u.withFollow "special-get-raises" false)=some (some (openGood vw ["SIDES_FROM"],Hook.val hk (u.withFollow "special-get-raises" false))):=ET.lg (by kernel_rfl)
theorem t8(u:World):ET.seenT (OpenLaw.row PySem.Challenge.rw_dueworth_k51_users_priced_and_joined).prog vw ["SIDES_FROM"] (fun s=>(xlAt vw [] s&&recOk (RowW.records rr) s)) (Hook.obs hk) 1664 u (u.withFollow "special-get-raises" true)=some (some (openGood vw ["SIDES_FROM"],Hook.val hk (u.withFollow "special-get-raises" true))):=ET.lg (by kernel_rfl)
theorem left:LeftO (OpenLaw.row PySem.Challenge.rw_dueworth_k51_users_priced_and_joined).prog vw ["SIDES_FROM"] (fun s=>(xlAt vw [] s&&recOk (RowW.records rr) s)) (Hook.obs hk) (Hook.val hk) 1664:=ET.mF "special-get-raises" t7 t8
end E51
end
open PySem in
abbrev Vq:=Value->Shared->Prop
open PySem in
abbrev Va:=List (Addr×Obj)
open PySem in
abbrev Vo:=PySem.W.Frag
open PySem in
abbrev Vr:=Str->Option Value
open PySem in
abbrev Vs:=List Str
open PySem in
abbrev Vu:=List Int
open PySem in
abbrev Vv:=List Value
open PySem in
abbrev Vw:=Array Value
set_option Elab.async false
set_option linter.all false
set_option maxRecDepth 100000
namespace L2
open PySem PySem.Spec PyProof.Rows
abbrev aN:=Sum Int Str
noncomputable def iw:aN->Value->Bool
 | .inl k,v=>Value.isInt k v
 | .inr x,v=>Value.isStrOf x v
noncomputable def v5(w:World):aN->Int
 | .inl k=>hashInt k
 | .inr x=>hashStr w x
theorem aW:∀{k:aN} {v:Value},iw k v=true->(∃i t,k=Sum.inl i/\v=Value.int i t)\/(∃x t,k=Sum.inr x/\v=Value.str x t)
 | .inl i,v,h=>by
  obtain⟨t,e⟩:=Value.isInt_shape (k:=i) (v:=v) h
  exact .inl ⟨i,t,rfl,e⟩
 | .inr x,v,h=>by
  obtain⟨t,e⟩:=Value.isStrOf_shape (x:=x) (v:=v) h
  exact .inr ⟨x,t,rfl,e⟩
def lL(i:Int)(t:Tok):iw (.inl i) (.int i t)=true:=by simp[iw,Value.isInt]
def fk(x:Str)(t:Tok):iw (.inr x) (.str x t)=true:=by simp[iw,Value.isStrOf]
def q8(a b:Int):decide ((Sum.inl a:aN)=Sum.inl b)=(a == b):=by
 by_cases e:a=b
 ·subst e;simp
 ·have h:¬(Sum.inl a:aN)=Sum.inl b:=fun q=>e (Sum.inl.inj q)
  rw[FP h]
  exact(HA.mpr e).symm
def q9(a b:Str):decide ((Sum.inr a:aN)=Sum.inr b)=decide (a=b):=by
 by_cases e:a=b
 ·subst e;simp
 ·have h:¬(Sum.inr a:aN)=Sum.inr b:=fun q=>e (Sum.inr.inj q)
  rw[FP h,FP e]
def q_(a:Int)(b:Str):decide ((Sum.inl a:aN)=Sum.inr b)=false:=FP (fun q=>nomatch q)
def re(a:Str)(b:Int):decide ((Sum.inr a:aN)=Sum.inl b)=false:=FP (fun q=>nomatch q)
noncomputable def aB(prog:Program)(w:World):PySem.KeyKind prog w aN where
 is:=iw
 hash:=v5 w
 inj:=fun v a b ha hb=>by
  rcases aW ha with⟨i,t,rfl,rfl⟩|⟨x,t,rfl,rfl⟩
  ·rcases aW hb with⟨j,u,rfl,e⟩|⟨y,u,rfl,e⟩
   ·injection e with e1 _;rw[e1]
   ·exact nomatch e
  ·rcases aW hb with⟨j,u,rfl,e⟩|⟨y,u,rfl,e⟩
   ·exact nomatch e
   ·injection e with e1 _;rw[e1]
 byValue:=fun k v h=>by
  rcases aW h with⟨i,t,rfl,rfl⟩|⟨x,t,rfl,rfl⟩<;>rfl
 pyHash:=fun hv h=>by
  rcases aW hv with⟨i,t,rfl,rfl⟩|⟨x,t,rfl,rfl⟩
  ·exact wpAny_pyHash_int h
  ·exact wpAny_pyHash_str h
 eqBool:=fun hu hv h=>by
  rcases aW hu with⟨i,t,rfl,rfl⟩|⟨x,t,rfl,rfl⟩
  ·rcases aW hv with⟨j,u,rfl,rfl⟩|⟨y,u,rfl,rfl⟩
   ·rw[q8]at h;exact wpAny_eqBool_int h
   ·rw[q_]at h;exact SeqAt.EqAt.int_str i t y u _ _ _ _ h
  ·rcases aW hv with⟨j,u,rfl,rfl⟩|⟨y,u,rfl,rfl⟩
   ·rw[re]at h;exact SeqAt.EqAt.str_int x t j u _ _ _ _ h
   ·rw[q9]at h;exact wpAny_eqBool_str h
 «strs»:=fun k x t v h=>by
  rcases aW h with⟨i,u,rfl,e⟩|⟨y,u,rfl,e⟩
  ·exact nomatch e
  ·injection e with e1 _
   subst e1
   cases v<;>rfl
def jH(prog:Program)(w:World)(i:Int)(t:Tok):(aB prog w).is (.inl i) (.int i t)=true:=lL i t
def jI(prog:Program)(w:World)(x:Str)(t:Tok):(aB prog w).is (.inr x) (.str x t)=true:=fk x t
inductive V where
 |non|bl (b:Bool)|int (i:Int)|str (x:Str)|Aw (b:Array UInt8)|Cg (b:UInt64)|ref (a:Addr)|ty (n:String)
 deriving DecidableEq
noncomputable def RelV:V->Value->Prop
 | .non,u=>u=Value.none
 | .bl b,u=>u=Value.bool b
 | .int i,u=>∃t,u=Value.int i t
 | .str x,u=>∃t,u=Value.str x t
 | .Aw b,u=>∃t,u=Value.bytes b t
 | .Cg b,u=>∃t,u=Value.float b t
 | .ref a,u=>u=Value.ref a
 | .ty n,u=>u=Value.type n
noncomputable abbrev Vals:List V->List Value->Prop:=Paired RelV
theorem Vals.length{xs:List V}{us:Vv}(r:Vals xs us):xs.length=us.length:=Paired.length r
theorem Vals.get:∀{xs:List V} {us:Vv} {i:Nat} {x:V},Vals xs us->xs[i]?=some x->∃u,us[i]?=some u/\RelV x u
 |_,_,_,_,.nil,e=>by simp at e
 |_,_,0,_,.cons r _,e=>by simp at e;subst e;exact⟨_,rfl,r⟩
 |_,_,i+1,x,.cons _ t,e=>by
  obtain⟨u,h1,h2⟩:=Vals.get (i:=i) (x:=x) t (by simpa using e)
  exact⟨u,by simpa using h1,h2⟩
theorem Vals.set{x:V}{u:Value}(r:RelV x u):∀{xs:List V} {us:Vv} (i:Nat),Vals xs us->Vals (xs.set i x) (us.set i u)
 |_,_,_,.nil=>.nil
 |_,_,0,.cons _ t=>.cons r t
 |_,_,i+1,.cons q t=>.cons q (Vals.set r i t)
theorem Vals.append:∀{xs ys:List V} {us ws:Vv},Vals xs us->Vals ys ws->Vals (xs++ys) (us++ws)
 |_,_,_,_,.nil,s=>s
 |_,_,_,_,.cons r t,s=>.cons r (Vals.append t s)
theorem Vals.take:∀{xs:List V} {us:Vv} (n:Nat),Vals xs us->Vals (xs.take n) (us.take n)
 |_,_,0,_=>.nil
 |_,_,_+1,.nil=>.nil
 |_,_,n+1,.cons r t=>.cons r (Vals.take n t)
theorem Vals.drop:∀{xs:List V} {us:Vv} (n:Nat),Vals xs us->Vals (xs.drop n) (us.drop n)
 |_,_,0,r=>r
 |_,_,_+1,.nil=>.nil
 |_,_,n+1,.cons _ t=>Vals.drop n t
noncomputable def RelO:Option V->Option Value->Prop
 |some v,some u=>RelV v u
 |none,none=>True
 |_,_=>False
noncomputable def KV{κ:Type}:List (κ×V)->List (κ×Value)->Prop:=Paired fun(p:κ×V) (q:κ×Value)=>p.1=q.1/\RelV p.2 q.2
noncomputable def kV:aN->V
 | .inl i=>.int i
 | .inr x=>.str x
inductive HO where
 /-- a list -/
 |lst (xs:List V)
 /-- a tuple (never changes) -/
 |tup (xs:List V)
 /-- a dict whose keys are ints and texts; one whose keys are tuples of ints and texts (the empty one is both) -/
 |dK (kvs:List (aN×V))|dT (kvs:List (List aN×V))
 /-- a set of ints: its members,its size -/
 |set (S:Int->Bool) (n:Nat)
 /-- an instance of the class at C,its dict at dx,its attributes -/
 |ins (C dx:Addr) (fs:List (Str×V))
 /-- the dict of the instance at x -/
 |own (x:Addr)
 /-- the dict of an exception -/
 |xd (fs:List (Str×V))
 /-- a bound method,f of x -/
 |met (f x:Addr)
 /-- a range object lo,lo + 1,.. below hi -/
 |Ch (lo hi:Int)
 /-- a thing that is known to the object (the script; a dict while a loop walks it): read,never written while it is so -/
 |frz (o:Obj) (u:HO)
 /-- a code object's table -/
 |zL (ps:Vw)
 /-- any other thing,by what is true of its one object (a def of C9 own: DL a S n:=HO.ext fun h=>..) -/
 |ext (φ:Heap->Prop)
abbrev Hp:=Addr->Option HO
noncomputable def upd(H:Hp)(a:Addr)(o:HO):Hp:=fun b=>if b=a then some o else H b
def ao{H:Hp}{a:Addr}{o:HO}:upd H a o a=some o:=by unfold upd;rw[if_pos rfl]
def ak{H:Hp}{a b:Addr}{o:HO}(h:b≠a):upd H a o b=H b:=by unfold upd;rw[if_neg h]
def t9{H:Hp}{a b:Addr}{o u:HO}(h:H a=some o)(h':H b=some u)(d:o≠u):a≠b:=by
 intro e;subst e;rw[h]at h';exact d (FQ h')
def av{H:Hp}{a b:Addr}{o:HO}(h:H a=some o)(h':H b=none):a≠b:=by
 intro e;subst e;rw[h]at h';cases h'
def yq(h:Heap)(a:Addr)(its:Vw):Prop:=∃o,h.get? a=some o/\o.dict=none/\o.cls = .type "tuple"/\∃n,o.data = .seq its n
def yq.tup{h:Heap}{a:Addr}{its:Vw}(x:yq h a its):IsTup h a its:=let ⟨o,e,_,c,d⟩:=x;⟨o,e,c,d⟩
def yq.new(h:Heap)(its:Vw):yq (h.push { cls:=.type "tuple",data:=.seq its }) h.objs.size its:=⟨_,E8 _ rfl,rfl,rfl,_,rfl⟩
section
variable (P:Program) (w:World)
noncomputable def yh(H:Hp)(h:Heap)(a:Addr):HO->Prop
 | .lst xs=>xs.length<=sizeLine/\∃(its:Vv) (n:Nat),Vals xs its/\h.get? a=some { cls:=.type "list",data:=.seq its.toArray n }
 | .tup xs=>xs.length<=sizeLine/\∃its:List Value,Vals xs its/\yq h a its.toArray
 | .dK kvs=>kvs.length<=sizeLine/\(a == sysModules)=false/\∃vs,KV kvs vs/\h.DictOf (aB P w) a vs
 | .dT kvs=>kvs.length<=sizeLine/\(a == sysModules)=false/\∃xs:List (List aN×Addr×Value),
   Paired (fun(p:List aN×V) (q:List aN×Addr×Value)=>p.1=q.1/\H q.2.1=some (.tup (p.1.map kV))/\RelV p.2 q.2.2) kvs xs/\
   ∃o es ep,h.get? a=some o/\o.ExactDict/\o.data = .dict es ep/\es.toList=xs.map (entryOfKey (tupleKind (aB P w)))/\(xs.map (·.1)).Nodup
 | .set S n=>h.SetOf (intKind P w) a S n
 | .ins C dx fs=>H dx=some (.own a)/\fs.length<=1000/\dx≠a/\h.get? a=some (PySem.W.instObj C dx)/\
   ∃mA,h.Ns1 dx mA/\(∀f,RelO (fs.lookup f) (mA f))/\PySem.Within mA (fs.map (·.1))
 | .own _=>∃o,h.get? a=some o
 | .xd fs=>∃mA,h.Ns1 a mA/\∀f,RelO (fs.lookup f) (mA f)
 | .Ch lo hi=>∃t u v,h.get? a=some { cls:=.type "range",data:=.fields #[.int lo t,.int hi u,.int 1 v] }
 | .frz o u=>h.get? a=some o/\yh H h a u
 | .zL ps=>h.get? a=some { cls:=.none,data:=.fields ps }
 | .met f x=>h.get? a=some (PySem.W.methodObj (.ref f) (.ref x))
 | .ext φ=>φ h/\(∃o,h.get? a=some o)/\∀h1 h2:Heap,φ h1->(∀o,h1.get? a=some o->h2.get? a=some o)->φ h2
def yZ(H:Hp)(h:Heap):Prop:=∀a o,H a=some o->yh P w H h a o
end
section
variable {P:Program} {w:World} {H H':Hp} {h h':Heap} {a:Addr} {o:HO}
theorem yh.lt(x:yh P w H h a o):a < h.objs.size:=by
 cases o with
 |lst xs=>obtain⟨_,_,_,_,e⟩:=x;exact E4 e
 |tup xs=>obtain⟨_,_,_,p⟩:=x;exact p.tup.lt
 |dK kvs=>obtain⟨_,_,_,_,o,_,_,e,_⟩:=x;exact E4 e
 |dT kvs=>obtain⟨_,_,_,_,o,_,_,e,_⟩:=x;exact E4 e
 |set S n=>obtain⟨o,_,_,_,e,_⟩:=x;exact E4 e
 |ins C dx fs=>obtain⟨_,_,_,e,_⟩:=x;exact E4 e
 |own y=>obtain⟨_,e⟩:=x;exact E4 e
 |xd fs=>obtain⟨_,⟨_,_,_,e,_⟩,_⟩:=x;exact E4 e
 |Ch lo hi=>obtain⟨_,_,_,e⟩:=x;exact E4 e
 |frz ob u=>obtain⟨e,_⟩:=x;exact E4 e
 |zL ps=>exact E4 (show h.get? a=some _ from x)
 |met f y=>exact E4 (show h.get? a=some _ from x)
 |ext φ=>obtain⟨_,⟨_,e⟩,_⟩:=x;exact E4 e
theorem Paired.Bc{α β:Type}{F G:α->β->Prop}:∀{l₁:List α} {l₂:List β},Paired F l₁ l₂->(∀a b,F a b->G a b)->Paired G l₁ l₂
 |_,_,.nil,_=>.nil
 |_,_,.cons r t,f=>.cons (f _ _ r) (Paired.Bc t f)
def yh.stay(x:yh P w H h a o)(k:∀b u,(b=a\/H b=some (.own a))->h.get? b=some u->h'.get? b=some u)
  (ho:∀b,H b=some (.own a)->H' b=some (.own a)) (ht:∀b xs,H b=some (.tup xs)->H' b=some (.tup xs)):yh P w H' h' a o:=by
 induction o with
 |lst xs=>obtain⟨z,its,n,r,e⟩:=x;exact⟨z,its,n,r,k _ _ (.inl rfl) e⟩
 |tup xs=>obtain⟨z,its,r,ob,e,c⟩:=x;exact⟨z,its,r,ob,k _ _ (.inl rfl) e,c⟩
 |dK kvs=>obtain⟨z,y,vs,r,ob,es,ep,e,c⟩:=x;exact⟨z,y,vs,r,ob,es,ep,k _ _ (.inl rfl) e,c⟩
 |dT kvs=>
  obtain⟨z,y,xs,r,ob,es,ep,e,c⟩:=x
  exact⟨z,y,xs,Paired.Bc r fun p q z=>⟨z.1,ht _ _ z.2.1,z.2.2⟩,ob,es,ep,k _ _ (.inl rfl) e,c⟩
 |set S n=>obtain⟨ob,es,ep,t,e,c⟩:=x;exact⟨ob,es,ep,t,k _ _ (.inl rfl) e,c⟩
 |ins C dx fs=>
  obtain⟨d,z,ne,e,mA,⟨od,es,ep,e2,c⟩,r⟩:=x
  exact⟨ho _ d,z,ne,k _ _ (.inl rfl) e,mA,⟨od,es,ep,k _ _ (.inr d) e2,c⟩,r⟩
 |own y=>obtain⟨ob,e⟩:=x;exact⟨ob,k _ _ (.inl rfl) e⟩
 |xd fs=>obtain⟨mA,⟨od,es,ep,e,c⟩,r⟩:=x;exact⟨mA,⟨od,es,ep,k _ _ (.inl rfl) e,c⟩,r⟩
 |Ch lo hi=>obtain⟨t,u,v,e⟩:=x;exact⟨t,u,v,k _ _ (.inl rfl) e⟩
 |frz ob u ih=>obtain⟨e,q⟩:=x;exact⟨k _ _ (.inl rfl) e,ih q⟩
 |zL ps=>
  have e:h.get? a=some { cls:=.none,data:=.fields ps }:=x
  show h'.get? a=some { cls:=.none,data:=.fields ps }
  exact k a _ (.inl rfl) e
 |met f y=>
  have e:h.get? a=some (PySem.W.methodObj (.ref f) (.ref y)):=x
  show h'.get? a=some (PySem.W.methodObj (.ref f) (.ref y))
  exact k a _ (.inl rfl) e
 |ext φ=>obtain⟨p,⟨o,e⟩,st⟩:=x;exact⟨st _ _ p fun o q=>k _ _ (.inl rfl) q,⟨o,k _ _ (.inl rfl) e⟩,st⟩
theorem yZ.lt(x:yZ P w H h)(e:H a=some o):a < h.objs.size:=(x a o e).lt
def yZ.fresh(x:yZ P w H h)(e:h.objs.size<=a):H a=none:=by
 cases q:H a with
 |none=>rfl
 |some u=>exact absurd (E7 (x.lt q) e) (Gp _)
def yZ.kept(x:yZ P w H h)(k:∀b u,h.get? b=some u->h'.get? b=some u):yZ P w H h':=fun a o e=>
 (x a o e).stay (fun b u _ q=>k b u q) (fun _ q=>q) fun _ _ q=>q
def yZ.laid(x:yZ P w H h)(k:∀b u,h.get? b=some u->h'.get? b=some u)(hp:h.objs.size<=a)(new:yh P w (upd H a o) h' a o):yZ P w (upd H a o) h':=fun b u e=>by
 have hn:=x.fresh hp
 by_cases hb:b=a
 ·subst hb;rw[ao]at e;cases e;exact new
 ·rw[ak hb]at e
  exact(x b u e).stay (fun c v _ q=>k c v q) (fun c q=>by rw[ak (av q hn)];exact q) fun c xs q=>by rw[ak (av q hn)];exact q
end
def Rd(H:Hp)(a:Addr)(u:HO):Prop:=H a=some u\/∃o,H a=some (.frz o u)
def Rd.ok{P:Program}{w:World}{H:Hp}{h:Heap}{a:Addr}{u:HO}(r:Rd H a u)(x:yZ P w H h):yh P w H h a u:=by
 rcases r with r|⟨o,r⟩
 ·exact x a u r
 ·obtain⟨_,q⟩:=x a _ r
  exact q
noncomputable def t_:Option HO->Prop
 |some (.lst _)=>True
 |some (.dK _)=>True
 |some (.dT _)=>True
 |some (.set _ _)=>True
 |some (.ins _ _ _)=>True
 |some (.ext _)=>True
 |_=>False
section
variable {P:Program} {w:World} {H:Hp} {h h':Heap} {x e:Addr} {o':HO}
def yZ.write(ok:yZ P w H h)(mu:t_ (H x))(he:e=x\/H e=some (.own x))(k:∀b u,b≠e->h.get? b=some u->h'.get? b=some u)(BA:∃u,h'.get? e=some u)
  (new:yh P w (upd H x o') h' x o'):yZ P w (upd H x o') h':=fun b u q=>by
 have BE:∀c y,H c=some (.own y)->c≠x:=fun c y r z=>by subst z;rw[r]at mu;exact mu
 have Ci:∀c xs,H c=some (.tup xs)->c≠x:=fun c xs r z=>by subst z;rw[r]at mu;exact mu
 by_cases hb:b=x
 ·subst hb;rw[ao]at q;cases q;exact new
 ·rw[ak hb]at q
  by_cases Be:b=e
  ·have q':H b=some (.own x):=by
    rcases he with z|z
    ·exact absurd (Be.trans z) hb
    ·rw[Be];exact z
   rw[q]at q';cases q'
   obtain⟨v,hv⟩:=BA
   exact⟨v,by rw[Be];exact hv⟩
  ·refine(ok b u q).stay (fun c v hc r=>k c v ?_ r) (fun c r=>by rw[ak (BE c b r)];exact r) fun c xs r=>by rw[ak (Ci c xs r)];exact r
   rcases hc with rfl|hc
   ·exact Be
   ·rintro rfl
    rcases he with z|z
    ·exact BE c b hc z
    ·rw[hc]at z;cases z;exact hb rfl
end
structure Un (fs ex:List Addr) (H H':Hp) (h h':Heap):Prop where
 keep:∀b o,h.get? b=some o->H b=none->b ∉ fs->b ∉ ex->h'.get? b=some o
 slot:∀b o,h.get? b=some o->H b=none->b∈fs->b ∉ ex->∃sl,h'.get? b=some { o with slots:=sl }
 free:∀b o,h.get? b=some o->H b=none->b ∉ ex->H' b=none
 there:∀b o,h.get? b=some o->b ∉ ex->∃o',h'.get? b=some o'
 tups:∀b xs,H b=some (.tup xs)->H' b=some (.tup xs)
 zB:∀b o u,H b=some (.frz o u)->H' b=some (.frz o u)
 zJ:∀b ps,H b=some (.zL ps)->∃more,H' b=some (.zL (ps++more))
section
variable {fs fs' ex ex':List Addr} {H H1 H2:Hp} {h h1 h2 h':Heap} {a x e:Addr} {o:HO}
def Un.any(u:Un fs ex H H1 h h1){b:Addr}{ob:Obj}(q:h.get? b=some ob)(n:H b=none)(hx:b ∉ ex):∃sl,h1.get? b=some { ob with slots:=sl }:=by
 by_cases hb:b∈fs
 ·exact u.slot b ob q n hb hx
 ·exact⟨ob.slots,u.keep b ob q n hb hx⟩
def Un.kept(k:∀b u,h.get? b=some u->h'.get? b=some u):Un fs ex H H h h':=
 ⟨fun b ob q _ _ _=>k b ob q,fun b ob q _ _ _=>⟨ob.slots,k b ob q⟩,fun _ _ _ n _=>n,fun b ob q _=>⟨ob,k b ob q⟩,fun _ _ q=>q,fun _ _ _ q=>q,fun _ ps q=>⟨#[],by rw[q];simp⟩⟩
def Un.refl:Un fs ex H H h h:=Un.kept fun _ _ q=>q
def Un.laid(k:∀b u,h.get? b=some u->h'.get? b=some u)(hp:h.objs.size<=a)(hn:H a=none):Un fs ex H (upd H a o) h h' where
 keep:=fun b u q _ _ _=>k b u q
 slot:=fun b u q _ _ _=>⟨u.slots,k b u q⟩
 free:=fun b u q n _=>by rw[ak (E9 (E7 (E4 q) hp))];exact n
 there:=fun b u q _=>⟨u,k b u q⟩
 tups:=fun b xs q=>by rw[ak (av q hn)];exact q
 zB:=fun b u xs q=>by rw[ak (av q hn)];exact q
 zJ:=fun b ps q=>⟨#[],by rw[ak (av q hn),q];simp⟩
def Un.write(mu:t_ (H x))(he:e=x\/H e=some (.own x))(k:∀b u,b≠e->h.get? b=some u->h'.get? b=some u)(BA:∃u,h'.get? e=some u):Un fs ex H (upd H x o) h h':=by
 have hx:∀b,H b=none->b≠x:=fun b n z=>by subst z;rw[n]at mu;exact mu
 have hb:∀b,H b=none->b≠e:=fun b n z=>by
  subst z
  rcases he with r|r
  ·exact hx b n r
  ·rw[n]at r;cases r
 have hm:∀b u,H b=some u->¬t_ (some u)->b≠x:=fun b u q nm z=>by subst z;rw[q]at mu;exact nm mu
 refine⟨fun b u q n _ _=>k b u (hb b n) q,fun b u q n _ _=>⟨u.slots,k b u (hb b n) q⟩,fun b u q n _=>by rw[ak (hx b n)];exact n,fun b u q _=>?_,
  fun b xs q=>by rw[ak (hm b _ q fun z=>z)];exact q,fun b u xs q=>by rw[ak (hm b _ q fun z=>z)];exact q,fun b ps q=>⟨#[],by rw[ak (hm b _ q fun z=>z),q];simp⟩⟩
 by_cases Be:b=e
 ·subst Be;exact BA
 ·exact⟨u,k b u Be q⟩
end
noncomputable def vM(h:Heap)(H:Hp):List Addr:=(List.range h.objs.size).filter fun a=>(H a).isSome
noncomputable def gx(h:Heap)(H:Hp):Heap:=PySem.W.hideAll h (vM h H)
def lM(h:Heap)(H:Hp):(gx h H).objs.size=h.objs.size:=PySem.W.hideAll_size _ _
def mG{h:Heap}{H:Hp}{b:Addr}{o:Obj}(e:h.get? b=some o)(n:H b=none):(gx h H).get? b=some o:=
 PySem.W.hideAll_get _ e fun hm=>by
  have q:(H b).isSome=true:=(GV.mp hm).2
  rw[n]at q;simp at q
def oW{h:Heap}{H:Hp}{b:Addr}{o:Obj}(e:(gx h H).get? b=some o):h.get? b=some o/\H b=none:=by
 have e':h.get? b=some o:=PySem.W.of_hideAll (vM h H) e
 refine⟨e',?_⟩
 cases q:H b with
 |none=>rfl
 |some x=>
  have hm:b∈vM h H:=GV.mpr ⟨HJ.mpr (E4 e'),by simp[q]⟩
  have z:(gx h H).get? b=none:=PySem.W.hideAll_none (vM h H) hm
  rw[z]at e;cases e
structure Mod (K:Vo) (mg:Vr) (base:Heap):Prop where
 Bf:K.In base
 glob:base.Ns mainGlobals mg
 blt:∃mb,base.Ns builtinsNs mb/\∀x:Str,x ≠ "__name__"->mb x=bootBuiltins x
 nolimit:base.NoLimit
structure Cx where
 prog:Program
 w:World
 K:Vo
 mg:Vr
 base:Heap
 A:Around
 N:List Str
 s₀:Shared
 H₀:Hp
 env:Env
 outer:List Env
 stack:List Env
 ex:List Addr
 fn:Str->Bool
 calm:Bool
 pn:Va
 xe:Value->Shared->Prop
noncomputable def frs(l:List Env):List Addr:=l.filterMap (·.frame)
noncomputable abbrev Cx.fs(X:Cx):List Addr:=frs X.outer
def ua(sc:Scope)(x:Str):Prop:=sc.names.lookup x=some .local\/sc.names.lookup x=some .cell\/sc.names.lookup x=some .free
def oO(sc:Scope)(x:Str):Prop:=sc.names.lookup x=some .local\/sc.names.lookup x=some .cell
def v6(env:Env)(h:Heap)(m:Vr)(x:Str)(u:Value):Prop:=
 (env.kindOf x=some .local/\m x=some u)\/((env.kindOf x=some .cell\/env.kindOf x=some .free)/\∃c,env.cells.lookup x=some c/\h.IsCell c (some u))
structure Cx.Ok (X:Cx):Prop where
 mod:Mod X.K X.mg X.base
 kind:X.env.scope.kind = .function
 glob:X.env.globals=mainGlobals
 blt:X.env.builtins=builtinsNs
 above:X.s₀.heap.objs.size<=X.env.locals
 inj:∀x y c,X.env.cells.lookup x=some c->X.env.cells.lookup y=some c->x=y
 has:∀x,(X.env.kindOf x=some .cell\/X.env.kindOf x=some .free)->∃c,X.env.cells.lookup x=some c
 A1:∀x c,X.fn x=true->X.env.cells.lookup x=some c->X.s₀.heap.objs.size<=c
 hd:X.calm=true->X.A.handled=none
 frames:X.A.frames=some X.stack
 stk:X.stack=X.outer\/(X.stack=X.env::X.outer/\X.env.frame=some X.env.locals)
 B2:∀b∈X.ex,b≠X.env.locals/\∀x c,X.env.cells.lookup x=some c->c≠b
 bs:∀b o,X.base.get? b=some o->X.s₀.heap.get? b=some o/\X.H₀ b=none
 Ax:X.base.objs.size<=X.s₀.heap.objs.size
 Aa:∀b o,X.base.get? b=some o->b ∉ X.ex
 Am:∀b∈X.ex,b ∉ X.fs
 zj:X.s₀.heap.FunFrames X.base X.outer
 AR:∀b∈X.fs,X.H₀ b=none
structure Inv (X:Cx) (pins:Va) (σ:List (Option V)) (H:Hp) (s:Shared):Prop where
 ok:X.Ok
 os:s.os=X.s₀.os
 bare:AllBare s.gens
 base:Un X.fs X.ex X.H₀ H X.s₀.heap s.heap
 loc:∃m,s.heap.Ns X.env.locals m/\∀(i:Nat) (x:Str) (v:V),X.N[i]?=some x->σ[i]?=some (some v)->ua X.env.scope x->∃u,RelV v u/\v6 X.env s.heap m x u
 cell:∀x c,X.env.cells.lookup x=some c->∃v,s.heap.IsCell c v
 free:H X.env.locals=none
 yJ:∀x c,X.env.cells.lookup x=some c->H c=none\/(X.fn x=false/\∃o u,H c=some (.frz o u))
 pin:∀p∈X.pn++pins,s.heap.get? p.1=some p.2/\H p.1=none/\p.1≠X.env.locals/\p.1 ∉ X.fs/\∀v,p.2.data ≠ .cell v
 hok:yZ X.prog X.w H s.heap
 len:σ.length=X.N.length
section
variable {X:Cx} {pins:Va} {σ:List (Option V)} {H H':Hp} {s:Shared} {h':Heap}
def Cx.Ok.Cj(ok:X.Ok){b:Addr}{o:Obj}(e:X.base.get? b=some o):b ∉ X.fs:=fun hb=>by
 have:=(ok.zj.mem hb).1
 rw[e]at this;cases this
theorem Inv.bs(I:Inv X pins σ H s):∀b o,X.base.get? b=some o->s.heap.get? b=some o/\H b=none:=fun b o e=>
 ⟨I.base.keep b o (I.ok.bs b o e).1 (I.ok.bs b o e).2 (I.ok.Cj e) (I.ok.Aa b o e),I.base.free b o (I.ok.bs b o e).1 (I.ok.bs b o e).2 (I.ok.Aa b o e)⟩
def Inv.bk(I:Inv X pins σ H s):∀b o,X.base.get? b=some o->s.heap.get? b=some o:=fun b o e=>(I.bs b o e).1
theorem Inv.mod(I:Inv X pins σ H s):Mod X.K X.mg X.base:=I.ok.mod
def Inv.AM(I:Inv X pins σ H s):X.K.In s.heap:=I.ok.mod.Bf.keeps I.bk
theorem Inv.lt(I:Inv X pins σ H s):X.env.locals < s.heap.objs.size:=let ⟨_,hn,_⟩:=I.loc;hn.lt
def Inv.sz(I:Inv X pins σ H s):X.s₀.heap.objs.size<=s.heap.objs.size:=Fc I.ok.above (GP I.lt)
def Inv.BF(I:Inv X pins σ H s){a:Addr}(h:s.heap.objs.size<=a):a ∉ X.fs:=fun hb=>by
 obtain⟨_,o,ho,_⟩:=I.ok.zj.mem hb
 exact absurd (E7 (E4 ho) (Fc I.sz h)) (Gp _)
def Inv.A2(I:Inv X pins σ H s):∀x c,X.env.cells.lookup x=some c->c≠X.env.locals:=fun x c e z=>by
 obtain⟨v,o,ho,hd⟩:=I.cell x c e
 obtain⟨m,⟨o',es,ep,ho',hd',_⟩,_⟩:=I.loc
 rw[z,ho']at ho;cases ho;rw[hd']at hd;cases hd
theorem Inv.zj(I:Inv X pins σ H s):s.heap.FunFrames X.base X.outer:=by
 have all:∀(l:List Env),(∀b∈frs l,b∈X.fs)->X.s₀.heap.FunFrames X.base l->s.heap.FunFrames X.base l:=by
  intro l
  induction l with
  |nil=>intro _ _;trivial
  |cons env r ih=>
   intro hs hl
   obtain⟨hk,⟨L,o,hf,hn,ho,hd⟩,hr⟩:=hl
   have hL:L∈X.fs:=hs L (by unfold frs;rw[HB,hf];exact FZ)
   obtain⟨sl,e⟩:=I.base.slot L o ho (I.ok.AR L hL) hL fun z=>I.ok.Am L z hL
   exact⟨hk,⟨L,_,hf,hn,e,hd⟩,ih (fun b hb=>hs b (by unfold frs;rw[HB,hf];exact FL _ hb)) hr⟩
 exact all X.outer (fun _ hb=>hb) I.ok.zj
theorem Inv.stack(I:Inv X pins σ H s):s.heap.FunFrames X.base X.stack:=by
 rcases I.ok.stk with e|⟨e,hf⟩
 ·rw[e];exact I.zj
 ·rw[e]
  obtain⟨m,hn,_⟩:=I.loc
  refine .cons (by rw[I.ok.kind];decide) hf hn ?_ I.zj
  exact Heap.get?_none_of_le (Fc I.ok.Ax I.ok.above)
def Inv.zr(I:Inv X pins σ H s):∀b∈frs X.stack,b∈X.env.locals::X.fs:=fun b hb=>by
 rcases I.ok.stk with e|⟨e,hf⟩
 ·rw[e]at hb;exact FL _ hb
 ·rw[e]at hb
  unfold frs at hb
  rw[HB,hf]at hb
  exact hb
def Inv.Ah(I:Inv X pins σ H s):∀b∈frs X.stack,H b=none:=fun b hb=>by
 rcases Fg.mp (I.zr b hb)with e|hb
 ·rw[e];exact I.free
 ·obtain⟨_,o,ho,_⟩:=I.ok.zj.mem hb
  exact I.base.free b o ho (I.ok.AR b hb) fun z=>I.ok.Am b z hb
def Inv.step{g':Array GenState}{t':Nat}{d':Drawn}{ch:List Addr}(I:Inv X pins σ H s)
  (hch:∀b∈ch,(b∈X.ex\/X.s₀.heap.objs.size<=b)/\b≠X.env.locals/\(∀x c,X.env.cells.lookup x=some c->c≠b)/\∀p∈X.pn++pins,p.1≠b)
  (keep:∀b o,b≠X.env.locals->b ∉ X.fs->b ∉ ch->s.heap.get? b=some o->H b=none->h'.get? b=some o)
  (slot:∀b o,b≠X.env.locals->b∈X.fs->b ∉ ch->s.heap.get? b=some o->H b=none->∃sl,h'.get? b=some { o with slots:=sl }) (free:∀b o,b ∉ ch->s.heap.get? b=some o->H b=none->H' b=none)
  (there:∀b o,b ∉ ch->s.heap.get? b=some o->∃o',h'.get? b=some o')
  (tups:∀b xs,H b=some (.tup xs)->H' b=some (.tup xs)) (zB:∀b o u,H b=some (.frz o u)->H' b=some (.frz o u)) (zJ:∀b ps,H b=some (.zL ps)->∃more,H' b=some (.zL (ps++more)))
  (ns:∀m,s.heap.Ns X.env.locals m->h'.Ns X.env.locals m) (hok:yZ X.prog X.w H' h') (hg:AllBare g') :
  Inv X pins σ H' { s with heap:=h',gens:=g',drawn:=d',toks:=t' }:=by
 have C_:∀b o,X.s₀.heap.get? b=some o->b≠X.env.locals:=fun b o e=>E9 (E7 (E4 e) I.ok.above)
 have B3:∀b o,X.s₀.heap.get? b=some o->b ∉ X.ex->b ∉ ch:=fun b o e hx hb=>by
  rcases(hch b hb).1 with z|z
  ·exact hx z
  ·exact absurd (E7 (E4 e) z) (Gp _)
 have cellK:∀x c,X.env.cells.lookup x=some c->∀v,s.heap.IsCell c v->h'.IsCell c v:=fun x c e v ⟨o,ho,hd⟩=>by
  have BG:c ∉ ch:=fun z=>(hch c z).2.2.1 x c e rfl
  rcases I.yJ x c e with hn|⟨_,ob,u,hz⟩
  ·by_cases hc:c∈X.fs
   ·obtain⟨sl,q⟩:=slot c o (I.A2 x c e) hc BG ho hn
    exact⟨_,q,hd⟩
   ·exact⟨o,keep c o (I.A2 x c e) hc BG ho hn,hd⟩
  ·have e1:s.heap.get? c=some ob:=(I.hok c _ hz).1
   have e2:h'.get? c=some ob:=(hok c _ (zB c ob u hz)).1
   rw[ho]at e1
   cases e1
   exact⟨_,e2,hd⟩
 refine⟨I.ok,I.os,hg,⟨fun b o e n hb hx=>?_,fun b o e n hb hx=>?_,fun b o e n hx=>?_,fun b o e hx=>?_,fun b xs e=>tups b xs (I.base.tups b xs e),fun b o xs e=>zB b o xs (I.base.zB b o xs e),fun b ps e=>?_⟩,?_,fun x c e=>?_,?_,fun x c e=>?_,fun p hp=>?_,hok,I.len⟩
 ·exact keep b o (C_ b o e) hb (B3 b o e hx) (I.base.keep b o e n hb hx) (I.base.free b o e n hx)
 ·obtain⟨sl,e1⟩:=I.base.slot b o e n hb hx
  obtain⟨sl',e2⟩:=slot b _ (C_ b o e) hb (B3 b o e hx) e1 (I.base.free b o e n hx)
  exact⟨sl',e2⟩
 ·obtain⟨o',e1⟩:=I.base.there b o e hx
  exact free b o' (B3 b o e hx) e1 (I.base.free b o e n hx)
 ·obtain⟨o',e1⟩:=I.base.there b o e hx
  exact there b o' (B3 b o e hx) e1
 ·obtain⟨m1,e1⟩:=I.base.zJ b ps e
  obtain⟨m2,e2⟩:=zJ b _ e1
  exact⟨m1++m2,by rw[e2,Array.append_assoc]⟩
 ·obtain⟨m,hn,hl⟩:=I.loc
  refine⟨m,ns m hn,fun i x v e1 e2 e3=>?_⟩
  obtain⟨u,r,l⟩:=hl i x v e1 e2 e3
  refine⟨u,r,?_⟩
  rcases l with l|⟨k,c,e,z⟩
  ·exact .inl l
  ·exact .inr ⟨k,c,e,cellK x c e _ z⟩
 ·obtain⟨v,z⟩:=I.cell x c e
  exact⟨v,cellK x c e v z⟩
 ·obtain⟨m,⟨o,_,_,ho,_⟩,_⟩:=I.loc
  exact free _ o (fun z=>(hch _ z).2.1 rfl) ho I.free
 ·rcases I.yJ x c e with hn|⟨hf,ob,u,hz⟩
  ·obtain⟨v,o,ho,hd⟩:=I.cell x c e
   exact .inl (free c o (fun z=>(hch c z).2.2.1 x c e rfl) ho hn)
  ·exact .inr ⟨hf,ob,u,zB c ob u hz⟩
 ·obtain⟨e,n,ne,nf,d⟩:=I.pin p hp
  have BG:p.1 ∉ ch:=fun z=>(hch p.1 z).2.2.2 p hp rfl
  exact⟨keep p.1 p.2 ne nf BG e n,free p.1 p.2 BG e n,ne,nf,d⟩
def Inv.un{t':Nat}(I:Inv X pins σ H s)(u:Un X.fs [] H H' s.heap h')(hok:yZ X.prog X.w H' h'):Inv X pins σ H' { s with heap:=h',toks:=t' }:=by
 obtain⟨m,⟨o,es,ep,ho,r⟩,_⟩:=id I.loc
 obtain⟨sl,hL⟩:=u.any ho I.free (by simp)
 exact I.step (g':=s.gens) (d':=s.drawn) (ch:=[]) (fun _ z=>nomatch z) (fun b o _ hb _ e n=>u.keep b o e n hb (by simp)) (fun b o _ hb _ e n=>u.slot b o e n hb (by simp)) (fun b o _ e n=>u.free b o e n (by simp)) (fun b o _ e=>u.there b o e (by simp)) u.tups u.zB u.zJ (fun m' hm=>by
  obtain⟨o',es',Ck,ho',r'⟩:=hm
  rw[ho]at ho';cases ho'
  exact⟨_,es',Ck,hL,r'⟩) hok I.bare
def Inv.call{g':Array GenState}{t':Nat}{d':Drawn}{ch:List Addr}(I:Inv X pins σ H s)(u:Un (frs X.stack) ch H H' s.heap h')(hok:yZ X.prog X.w H' h')(hg:AllBare g')
  (hch:∀b∈ch,(b∈X.ex\/X.s₀.heap.objs.size<=b)/\b≠X.env.locals/\(∀x c,X.env.cells.lookup x=some c->c≠b)/\∀p∈X.pn++pins,p.1≠b) :
  Inv X pins σ H' { s with heap:=h',gens:=g',drawn:=d',toks:=t' }:=by
 obtain⟨m,⟨o,es,ep,ho,r⟩,_⟩:=id I.loc
 obtain⟨sl,hL⟩:=u.any ho I.free fun z=>(hch _ z).2.1 rfl
 exact I.step (ch:=ch) hch (fun b o hL hb hc e n=>u.keep b o e n (fun z=>(Fg.mp (I.zr b z)).elim hL hb) hc) (fun b o _ _ hc e n=>u.any e n hc) (fun b o hc e n=>u.free b o e n hc) (fun b o hc e=>u.there b o e hc) u.tups u.zB u.zJ (fun m' hm=>by
  obtain⟨o',es',Ck,ho',r'⟩:=hm
  rw[ho]at ho';cases ho'
  exact⟨_,es',Ck,hL,r'⟩) hok hg
def Inv.turned{t':Nat}{it:Addr}(I:Inv X pins σ H s)(k:∀b o,b≠it->s.heap.get? b=some o->h'.get? b=some o)(hn:H it=none)(hL:it≠X.env.locals)
  (h1:it∈X.ex\/X.s₀.heap.objs.size<=it) (h2:∀x c,X.env.cells.lookup x=some c->c≠it) (h3:∀p∈X.pn++pins,p.1≠it):Inv X pins σ H { s with heap:=h',toks:=t' }:=by
 have Dc:∀b u,H b=some u->b≠it:=fun b u e z=>by rw[z,hn]at e;cases e
 refine I.step (g':=s.gens) (d':=s.drawn) (ch:=[it]) (fun b hb=>?_) (fun b o _ _ hc e _=>k b o (fun z=>hc (by simp[z])) e) (fun b o _ _ hc e _=>⟨o.slots,k b o (fun z=>hc (by simp[z])) e⟩) (fun _ _ _ _ n=>n)
  (fun b o hc e=>⟨o,k b o (fun z=>hc (by simp[z])) e⟩) (fun _ _ e=>e) (fun _ _ _ e=>e) (fun b ps e=>⟨#[],by rw[e];simp⟩) (fun m hm=>?_) (fun b u e=>?_) I.bare
 ·have e:b=it:=by simpa using hb
  subst e
  exact⟨h1,hL,h2,h3⟩
 ·obtain⟨o,es,ep,ho,r⟩:=hm
  exact⟨o,es,ep,k _ o (Gg hL) ho,r⟩
 ·refine(I.hok b u e).stay (fun c v hc q=>k c v ?_ q) (fun _ q=>q) fun _ _ q=>q
  rcases hc with z|z
  ·rw[z];exact Dc b u e
  ·exact Dc c _ z
def Inv.tok(I:Inv X pins σ H s)(t:Nat):Inv X pins σ H { s with toks:=t }:=I.un (h':=s.heap) (t':=t) Un.refl I.hok
theorem Inv.kept{t':Nat}(I:Inv X pins σ H s)(k:∀b u,s.heap.get? b=some u->h'.get? b=some u):Inv X pins σ H { s with heap:=h',toks:=t' }:=I.un (Un.kept k) (I.hok.kept k)
theorem Inv.laid{a:Addr}{o:HO}{t':Nat}(I:Inv X pins σ H s)(k:∀b u,s.heap.get? b=some u->h'.get? b=some u)(hp:s.heap.objs.size<=a)(new:yh X.prog X.w (upd H a o) h' a o) :
  Inv X pins σ (upd H a o) { s with heap:=h',toks:=t' }:=I.un (Un.laid k hp (I.hok.fresh hp)) (I.hok.laid k hp new)
theorem Inv.write{x e:Addr}{o:HO}{t':Nat}(I:Inv X pins σ H s)(mu:t_ (H x))(he:e=x\/H e=some (.own x))(k:∀b u,b≠e->s.heap.get? b=some u->h'.get? b=some u)(BA:∃u,h'.get? e=some u)
  (new:yh X.prog X.w (upd H x o) h' x o):Inv X pins σ (upd H x o) { s with heap:=h',toks:=t' }:=I.un (Un.write mu he k BA) (I.hok.write mu he k BA new)
def Inv.weak{σ':List (Option V)}(I:Inv X pins σ H s)(hl:σ'.length=σ.length)(w:∀(i:Nat) v,σ'[i]?=some (some v)->σ[i]?=some (some v)):Inv X pins σ' H s:=
 ⟨I.ok,I.os,I.bare,I.base,let ⟨m,hn,hl'⟩:=I.loc;⟨m,hn,fun i x v e1 e2 e3=>hl' i x v e1 (w i v e2) e3⟩,I.cell,I.free,I.yJ,I.pin,I.hok,hl.trans I.len⟩
def Inv.zC{A3:Va}(I:Inv X pins σ H s)(h:∀p∈A3,s.heap.get? p.1=some p.2/\H p.1=none/\p.1≠X.env.locals/\p.1 ∉ X.fs/\∀v,p.2.data ≠ .cell v):Inv X A3 σ H s:=
 ⟨I.ok,I.os,I.bare,I.base,I.loc,I.cell,I.free,I.yJ,fun p hp=>(FA.mp hp).elim (fun z=>I.pin p (Gy _ z)) (h p),I.hok,I.len⟩
def jJ{N:Vs}(hN:N.Nodup){i j:Nat}{x:Str}(a:N[i]?=some x)(b:N[j]?=some x):i=j:=by
 obtain⟨h1,e1⟩:=Ga.mp a
 obtain⟨h2,e2⟩:=Ga.mp b
 exact(List.getElem_inj hN).mp (e1.trans e2.symm)
def iz {M : Model} {A : Around} {E : Value -> Shared -> Prop} {i : Nat} {x : Str} {v : V} {u : Value} {Q : Unit -> Shared -> Prop} (I : Inv X pins σ H s) (hN : X.N.Nodup) (hi : X.N[i]? = some x) (hx : oO X.env.scope x) (r : RelV v u)
  (h : ∀ s', Inv X pins (σ.set i (some v)) H s' -> (∃ a, Heap.SameBut a s.heap s'.heap /\ (a = X.env.locals \/ X.env.cells.lookup x = some a)) -> Q () s') (hf : X.fn x = true \/ X.env.scope.names.lookup x = some .local := by first | exact .inl rfl | exact .inr rfl | assumption) : wpAny M A (storeName X.env x u) Q E s := by
 obtain ⟨m, hn, hl⟩ := id I.loc
 have hcls : (X.env.scope.kind == .class || (X.env.scope.kind == .module && X.env.locals != X.env.globals)) = false := by rw [I.ok.kind]; rfl
 have Dd : i < σ.length := by rw [I.len]; exact (Ga.mp hi).1
 have A2 := I.A2
 have tracked : ∀ {a : Addr} {h' : Heap}, (∃ o, s.heap.get? a = some o /\ H a = none) -> Heap.SameBut a s.heap h' -> yZ X.prog X.w H h' := fun {a h'} ha hs b ob e => by
  obtain ⟨_, _, hfree⟩ := ha
  refine (I.hok b ob e).stay (fun c w' hc q => (hs.2 c ?_).trans q) (fun _ q => q) fun _ _ q => q
  rintro rfl
  rcases hc with rfl | hc
  ·rw [hfree] at e; cases e
  ·rw [hfree] at hc; cases hc
 rcases hx with hk | hk
 ·refine wpAny_storeName_local hk hn (fun h' hn' hs => ?_) hcls
  obtain ⟨oL, _, _, DM, _⟩ := id hn
  refine h _ ⟨I.ok, I.os, I.bare, ⟨fun b o e n hb hx => ?_, fun b o e n hb hx => ?_, I.base.free, fun b o e hx => ?_, I.base.tups, I.base.zB, I.base.zJ⟩, ⟨_, hn', fun j y v' e1 e2 e3 => ?_⟩, fun y c e => ?_, I.free, I.yJ, fun p hp => ?_, tracked ⟨oL, DM, I.free⟩ hs, by simpa using I.len⟩ ⟨_, hs, .inl rfl⟩
  ·exact (hs.2 b (E9 (E7 (E4 e) I.ok.above))).trans (I.base.keep b o e n hb hx)
  ·obtain ⟨sl, e1⟩ := I.base.slot b o e n hb hx
   exact ⟨sl, (hs.2 b (E9 (E7 (E4 e) I.ok.above))).trans e1⟩
  ·obtain ⟨o', e1⟩ := I.base.there b o e hx
   exact ⟨o', (hs.2 b (E9 (E7 (E4 e) I.ok.above))).trans e1⟩
  ·by_cases hj : j = i
   ·subst hj
    rw [hi] at e1; cases e1
    rw [List.getElem?_set_self Dd] at e2
    cases e2
    exact ⟨u, r, .inl ⟨hk, by simp⟩⟩
   ·rw [List.getElem?_set_ne (Gg hj)] at e2
    obtain ⟨u', r', q⟩ := hl j y v' e1 e2 e3
    refine ⟨u', r', ?_⟩
    rcases q with ⟨k, e⟩ | ⟨k, c, e, z⟩
    ·refine .inl ⟨k, ?_⟩
     have : y ≠ x := fun e => hj (jJ hN e1 (e ▸ hi))
     simp [this, e]
    ·exact .inr ⟨k, c, e, z.sameBut hs (A2 y c e)⟩
  ·obtain ⟨w', z⟩ := I.cell y c e
   exact ⟨w', z.sameBut hs (A2 y c e)⟩
  ·obtain ⟨e, n, ne, nf, d⟩ := I.pin p hp
   exact ⟨(hs.2 p.1 ne).trans e, n, ne, nf, d⟩
 ·have hfn : X.fn x = true := by
   rcases hf with z | z
   ·exact z
   ·rw [z] at hk; cases hk
  obtain ⟨c, hc⟩ := I.ok.has x (.inl hk)
  obtain ⟨w', z⟩ := I.cell x c hc
  refine wpAny_storeName_cell I.ok.kind hk hc z (fun h' hc' hs => ?_)
  obtain ⟨oc, hoc, Cl⟩ := id z
  refine h { s with heap := h' } ⟨I.ok, I.os, I.bare, ⟨fun b o e n hb hx => ?_, fun b o e n hb hx => ?_, I.base.free, fun b o e hx => ?_, I.base.tups, I.base.zB, I.base.zJ⟩, ⟨m, hn.sameBut hs (Gg (A2 x c hc)), fun j y v' e1 e2 e3 => ?_⟩, fun y c' e => ?_, I.free, I.yJ, fun p hp => ?_, tracked ⟨oc, hoc, (I.yJ x c hc).resolve_right fun ⟨z, _⟩ => by rw [hfn] at z; cases z⟩ hs, by simpa using I.len⟩ ⟨c, hs, .inr hc⟩
  ·exact (hs.2 b (E9 (E7 (E4 e) (I.ok.A1 x c hfn hc)))).trans (I.base.keep b o e n hb hx)
  ·obtain ⟨sl, e1⟩ := I.base.slot b o e n hb hx
   exact ⟨sl, (hs.2 b (E9 (E7 (E4 e) (I.ok.A1 x c hfn hc)))).trans e1⟩
  ·obtain ⟨o', e1⟩ := I.base.there b o e hx
   exact ⟨o', (hs.2 b (E9 (E7 (E4 e) (I.ok.A1 x c hfn hc)))).trans e1⟩
  ·by_cases hj : j = i
   ·subst hj
    rw [hi] at e1; cases e1
    rw [List.getElem?_set_self Dd] at e2
    cases e2
    exact ⟨u, r, .inr ⟨.inl hk, c, hc, hc'⟩⟩
   ·rw [List.getElem?_set_ne (Gg hj)] at e2
    obtain ⟨u', r', q⟩ := hl j y v' e1 e2 e3
    refine ⟨u', r', ?_⟩
    rcases q with q | ⟨k, c', e, z'⟩
    ·exact .inl q
    ·refine .inr ⟨k, c', e, z'.sameBut hs ?_⟩
     rintro rfl
     exact hj (jJ hN e1 (I.ok.inj _ _ _ e hc ▸ hi))
  ·by_cases hcc : c' = c
   ·subst hcc; exact ⟨_, hc'⟩
   ·obtain ⟨w2, z2⟩ := I.cell y c' e
    exact ⟨w2, z2.sameBut hs hcc⟩
  ·obtain ⟨e, n, ne, nf, d⟩ := I.pin p hp
   refine ⟨(hs.2 p.1 ?_).trans e, n, ne, nf, d⟩
   intro q
   rw [q, hoc] at e
   have q' : oc = p.2 := FQ e
   exact d w' (by rw [<- q']; exact Cl)
def bR{M:Model}{A:Around}{E:Vq}{i:Nat}{x:Str}{v:V}{u:Value}{Q:Unit->Shared->Prop}(I:Inv X pins σ H s)(hN:X.N.Nodup)(hi:X.N[i]?=some x)(hx:oO X.env.scope x)(r:RelV v u)
  (h:∀s',Inv X pins (σ.set i (some v)) H s'->Q () s') (hf:X.fn x=true\/X.env.scope.names.lookup x=some .local:=by first|exact .inl rfl|exact .inr rfl|assumption):wpAny M A (storeName X.env x u) Q E s:=
 iz I hN hi hx r (fun s' I' _=>h s' I') hf
def Inv.BH{s':Shared}{ch:List Addr}(I:Inv X pins σ H s)(ho:s'.os=s.os)(u:Un (frs X.stack) ch H H' s.heap s'.heap)(hok:yZ X.prog X.w H' s'.heap)(hg:AllBare s'.gens)
  (hch:∀b∈ch,(b∈X.ex\/X.s₀.heap.objs.size<=b)/\b≠X.env.locals/\(∀x c,X.env.cells.lookup x=some c->c≠b)/\∀p∈X.pn++pins,p.1≠b):Inv X pins σ H' s':=by
 obtain⟨h',g',d',t',o'⟩:=s'
 have e:o'=s.os:=ho
 subst e
 exact I.call (g':=g') (t':=t') (d':=d') u hok hg hch
end
abbrev XK:=Value->Option Addr->Hp->Prop
abbrev St:=List (Option V)
abbrev VK:=V->Hp->Prop
abbrev TE:=St->Hp->VK->Prop
abbrev TT:=St->Hp->(Bool->Hp->Prop)->Prop
abbrev TA:=St->Hp->(List V->Hp->Prop)->Prop
structure kB where
 nx:St->Hp->Prop
 rt:VK
 bk:St->Hp->Prop:=fun _ _=>False
 ct:St->Hp->Prop:=fun _ _=>False
abbrev TS:=kB->St->Hp->Prop
def EP(X:Cx)(pins:Va)(σ:St)(Q:VK)(u:Value)(s':Shared):Prop:=∃v H',Inv X pins σ H' s'/\RelV v u/\Q v H'
def TP(X:Cx)(pins:Va)(σ:St)(Q:Bool->Hp->Prop)(b:Bool)(s':Shared):Prop:=∃H',Inv X pins σ H' s'/\Q b H'
def AP(X:Cx)(pins:Va)(σ:St)(Q:List V->Hp->Prop)(us:Vv)(s':Shared):Prop:=∃vs H',Inv X pins σ H' s'/\Vals vs us/\Q vs H'
def SP(X:Cx)(pins:Va)(D:kB)(f:Flow)(s':Shared):Prop:=
 match f with
 | .next=>∃σ' H',Inv X pins σ' H' s'/\D.nx σ' H'
 | .brk=>∃σ' H',Inv X pins σ' H' s'/\D.bk σ' H'
 | .cont=>∃σ' H',Inv X pins σ' H' s'/\D.ct σ' H'
 | .ret u=>∃v σ' H',Inv X pins σ' H' s'/\RelV v u/\D.rt v H'
def PE(X:Cx)(e:Expr)(t:TE):Prop:=
 ∀(pins:Va) (s:Shared) (σ:St) (H:Hp) (Q:VK),Inv X pins σ H s->t σ H Q->wpAny (model X.prog X.w) X.A (eval e X.env) (EP X pins σ Q) X.xe s
def PT(X:Cx)(e:Expr)(t:TT):Prop:=
 ∀(pins:Va) (s:Shared) (σ:St) (H:Hp) (Q:Bool->Hp->Prop),Inv X pins σ H s->t σ H Q->wpAny (model X.prog X.w) X.A (isTrue e X.env (eval e X.env)) (TP X pins σ Q) X.xe s
def PW(X:Cx)(e:Expr)(t:TT):Prop:=
 ∀(whole:Sem Value) (pins:Va) (s:Shared) (σ:St) (H:Hp) (Q:Bool->Hp->Prop),Inv X pins σ H s->t σ H Q->wpAny (model X.prog X.w) X.A (isTrue e X.env whole) (TP X pins σ Q) X.xe s
def PW.pt{X:Cx}{e:Expr}{t:TT}(h:PW X e t):PT X e t:=h _
def PA(X:Cx)(es:List Expr)(t:TA):Prop:=
 ∀(pos:Pos) (pins:Va) (s:Shared) (σ:St) (H:Hp) (Q:List V->Hp->Prop),Inv X pins σ H s->t σ H Q->wpAny (model X.prog X.w) X.A (spliced (backTo pos (starEach es X.env))) (AP X pins σ Q) X.xe s
def PS(X:Cx)(st:Stmt)(t:TS):Prop:=
 ∀(pins:Va) (s:Shared) (σ:St) (H:Hp) (D:kB),Inv X pins σ H s->t D σ H->wpAny (model X.prog X.w) X.A (exec st X.env) (SP X pins D) X.xe s
def zY(X:Cx)(st:List Stmt)(t:TS):Prop:=
 ∀(pins:Va) (s:Shared) (σ:St) (H:Hp) (D:kB),Inv X pins σ H s->t D σ H->wpAny (model X.prog X.w) X.A (execs st X.env) (SP X pins D) X.xe s
def xZ{α:Type}{t:Sem α}{Q Q':α->Shared->Prop}{M:Model}{A:Around}{E:Vq}{s:Shared}(h:wpAny M A t Q E s)(hQ:∀a s,Q a s->Q' a s):wpAny M A t Q' E s:=Gi h hQ fun _ _ x=>x
section
variable {X:Cx}
def uc(i:Nat):TE:=fun σ H Q=>∃v,σ[i]?=some (some v)/\Q v H
def tC(v:V):TE:=fun _ H Q=>Q v H
def mH{i:Nat}{x:Str}{pos:Pos}(hN:X.N[i]?=some x)(hv:ua X.env.scope x)(hd:(x == ("__debug__":Str))=false:=by decide)(hcd:(x == ("__classdict__":Str))=false:=by decide):PE X (.Name x pos) (uc i):=by
 intro pins s σ H Q I h
 obtain⟨v,e,h⟩:=h
 obtain⟨m,hn,hl⟩:=I.loc
 obtain⟨u,r,l⟩:=hl i x v hN e hv
 have fin:EP X pins σ Q u s:=⟨v,H,I,r,h⟩
 rcases l with⟨hk,hm⟩|⟨hk,c,hc,hcell⟩
 ·exact wpAny_Name (wpAny_loadName_local I.ok.kind hk hn hm fin) hd
 ·rcases hk with hk|hk
  ·exact wpAny_Name (wpAny_loadName_cell I.ok.kind hk hc hcell fin) hd
  ·exact wpAny_Name (wpAny_loadName_free I.ok.kind hk hc hcell fin hcd) hd
def rf{i j pos}:PE X (.Constant (.int i) j pos) (tC (.int i)):=fun _ _ _ H _ I h=>wpAny_Constant_int ⟨.int i,H,I.tok _,⟨_,rfl⟩,h⟩
def ue{b j pos}:PE X (.Constant (.bool b) j pos) (tC (.bl b)):=fun _ _ _ H _ I h=>Constant_bool ⟨.bl b,H,I,rfl,h⟩
def rg{x j pos}:PE X (.Constant (.str x) j pos) (tC (.str x)):=fun _ _ _ H _ I h=>Calls.Constant_str ⟨.str x,H,I.tok _,⟨_,rfl⟩,h⟩
def Gl(X:Cx)(x:Str):Prop:=X.env.kindOf x=some .globalImplicit
def lh{E:Vq}{pins:Va}{s:Shared}{σ:St}{H:Hp}{x:Str}{u:Value}{pos:Pos}{Q:Vq}(I:Inv X pins σ H s)(hg:Gl X x)(hm:X.mg x=some u)(h:Q u s)
  (hd:(x == ("__debug__":Str))=false:=by decide):wpAny (model X.prog X.w) X.A (eval (.Name x pos) X.env) Q E s:=
 Calls.Name_function_global I.ok.kind hg (Calls.loadGlobal_global (by rw[I.ok.glob];exact I.mod.glob.keeps I.bk) hm h) hd
def dn{E:Vq}{pins:Va}{s:Shared}{σ:St}{H:Hp}{x:Str}{u:Value}{pos:Pos}{Q:Vq}(I:Inv X pins σ H s)(hg:Gl X x)(hm:X.mg x=none)(hv:bootBuiltins x=some u)(h:Q u s)
  (hn:x ≠ "__name__":=by decide) (hd:(x == ("__debug__":Str))=false:=by decide):wpAny (model X.prog X.w) X.A (eval (.Name x pos) X.env) Q E s:=by
 obtain⟨mb,h1,h2⟩:=I.mod.blt
 exact Calls.Name_function_global I.ok.kind hg (Calls.loadGlobal_builtin (by rw[I.ok.glob];exact I.mod.glob.keeps I.bk) hm (by rw[I.ok.blt];exact h1.keeps I.bk) ((h2 x hn).trans hv) h) hd
def oX{x:Str}{v:V}{u:Value}{pos:Pos}(hg:Gl X x)(hm:X.mg x=none)(hv:bootBuiltins x=some u)(r:RelV v u)(hn:x ≠ "__name__":=by decide)(hd:(x == ("__debug__":Str))=false:=by decide):PE X (.Name x pos) (tC v):=
 fun _ _ _ H _ I h=>dn I hg hm hv ⟨v,H,I,r,h⟩ hn hd
variable {a b:Expr} {ta tb:TE} {pos:Pos}
def tB(t:TE):TT:=fun σ H Q=>t σ H fun x H1=>∃c,x = .bl c/\Q c H1
def rh{e:Expr}{t:TE}(h:PE X e t)(he:∀whole,isTrue e X.env whole=(do let v <-whole;standAt e.pos;holding [v] (truthy v)):=by intro _;rfl):PT X e (tB t):=by
 intro pins s σ H Q I hw
 refine isTrue_plain (xZ (h pins s σ H _ I hw) fun v s1 ⟨x,H1,I1,r1,q1⟩=>?_) (he _)
 obtain⟨d,rfl,q⟩:=q1
 cases r1
 exact wpAny_truthy_bool ⟨H1,I1,q⟩
variable {tA B4:TT} {rest:List Expr}
def v7(t u:TT):TT:=fun σ H Q=>t σ H fun c H1=>if c=true then u σ H1 Q else Q false H1
def xv(t u:TT):TT:=fun σ H Q=>t σ H fun c H1=>if c=true then Q true H1 else u σ H1 Q
def v8(t:TT):TT:=fun σ H Q=>t σ H fun c H1=>Q (!c) H1
def oY(ha:PT X a tA):PW X (.BoolOp .And [a] pos) tA:=by
 intro wh pins s σ H Q I h
 refine isTrue_and (xZ (ha pins s σ H Q I h) fun c s1 e=>?_)
 cases c with
 |true=>exact isTrue_and_nil e
 |false=>exact e
def rj(ha:PT X a tA):PW X (.BoolOp .Or [a] pos) tA:=by
 intro wh pins s σ H Q I h
 refine isTrue_or (xZ (ha pins s σ H Q I h) fun c s1 e=>?_)
 cases c with
 |false=>exact isTrue_or_nil e
 |true=>exact e
def rm(ha:PT X a tA)(hb:PW X (.BoolOp .And (b::rest) pos) B4):PW X (.BoolOp .And (a::b::rest) pos) (v7 tA B4):=by
 intro wh pins s σ H Q I h
 refine isTrue_and (xZ (ha pins s σ H _ I h) fun c s1 ⟨H1,I1,q1⟩=>?_)
 cases c with
 |true=>exact hb wh pins s1 σ H1 Q I1 q1
 |false=>exact⟨H1,I1,q1⟩
def uf(ha:PT X a tA)(hb:PW X (.BoolOp .Or (b::rest) pos) B4):PW X (.BoolOp .Or (a::b::rest) pos) (xv tA B4):=by
 intro wh pins s σ H Q I h
 refine isTrue_or (xZ (ha pins s σ H _ I h) fun c s1 ⟨H1,I1,q1⟩=>?_)
 cases c with
 |true=>exact⟨H1,I1,q1⟩
 |false=>exact hb wh pins s1 σ H1 Q I1 q1
def rn(ha:PT X a tA):PT X (.UnaryOp .Not a pos) (v8 tA):=by
 intro pins s σ H Q I h
 exact isTrue_not (ha pins s σ H (fun c H1=>Q (!c) H1) I h)
def xx(t:TT)(ta tb:TE):TE:=fun σ H Q=>t σ H fun c H1=>if c=true then ta σ H1 Q else tb σ H1 Q
def mI{c:Expr}(hc:PT X c tA)(ha:PE X a ta)(hb:PE X b tb):PE X (.IfExp c a b pos) (xx tA ta tb):=by
 intro pins s σ H Q I h
 refine wpAny_IfExp (xZ (hc pins s σ H _ I h) fun d s1 ⟨H1,I1,q1⟩=>?_)
 cases d with
 |true=>exact ha pins s1 σ H1 Q I1 q1
 |false=>exact hb pins s1 σ H1 Q I1 q1
end
def SqL(K:Vo)(H:Hp)(a:Addr)(xs:List V):Prop:=
 Rd H a (.lst xs) \/
  ∃(o:Obj) (its:Vw) (n:Nat),K.lookup a=some o/\o.cls = .type "list"/\o.dict=none/\o.data = .seq its n/\its.size<=sizeLine/\Vals xs its.toList
def yK(K:Vo)(H:Hp)(a:Addr)(xs:List V):Prop:=
 Rd H a (.tup xs) \/
  ∃(o:Obj) (its:Vw) (n:Nat),K.lookup a=some o/\o.cls = .type "tuple"/\o.dict=none/\o.data = .seq its n/\its.size<=sizeLine/\Vals xs its.toList
noncomputable def v9:Value->Option V
 | .none=>some .non
 | .bool b=>some (.bl b)
 | .int i _=>some (.int i)
 | .str x _=>some (.str x)
 | .bytes b _=>some (.Aw b)
 | .float b _=>some (.Cg b)
 | .ref a=>some (.ref a)
 | .type n=>some (.ty n)
 |_=>none
def RelV.abs{x:V}{u:Value}(r:RelV x u):v9 u=some x:=by
 cases x with
 |non=>cases r;rfl
 |bl _=>cases r;rfl
 |int _=>obtain⟨t,rfl⟩:=r;rfl
 |str _=>obtain⟨t,rfl⟩:=r;rfl
 |Aw _=>obtain⟨t,rfl⟩:=r;rfl
 |Cg _=>obtain⟨t,rfl⟩:=r;rfl
 |ref _=>cases r;rfl
 |ty _=>cases r;rfl
theorem RelV.inj{x y:V}{u:Value}(r:RelV x u)(q:RelV y u):x=y:=FQ (r.abs.symm.trans q.abs)
theorem Vals.inj:∀{xs ys:List V} {us:Vv},Vals xs us->Vals ys us->xs=ys
 |_,_,_,.nil,.nil=>rfl
 |_,_,_,.cons r t,.cons r' t'=>by rw[r.inj r',Vals.inj t t']
section
variable {X:Cx} {pins:Va} {σ:St} {H:Hp} {s:Shared} {a:Addr} {xs ys:List V}
def SqL.of{K:Vo}(h:H a=some (.lst xs)):SqL K H a xs:=.inl (.inl h)
def yK.of{K:Vo}(h:H a=some (.tup xs)):yK K H a xs:=.inl (.inl h)
def Inv.list(I:Inv X pins σ H s)(h:SqL X.K H a xs):∃its:List Value,Vals xs its/\PlainL s.heap a its.toArray/\xs.length<=sizeLine:=by
 rcases h with h|⟨o,its,n,hk,hc,hd,hs,hz,r⟩
 ·obtain⟨z,its,n,r,e⟩:=h.ok I.hok
  exact⟨its,r,⟨_,n,e,rfl,rfl,rfl⟩,z⟩
 ·refine⟨its.toList,r,⟨o,n,I.AM a o hk,hc,hd,by simpa using hs⟩,?_⟩
  have e:=r.length
  simp only[Array.length_toList]at e
  omega
def Inv.tuple(I:Inv X pins σ H s)(h:yK X.K H a xs):∃its:List Value,Vals xs its/\IsTup s.heap a its.toArray/\xs.length<=sizeLine:=by
 rcases h with h|⟨o,its,n,hk,hc,_,hs,hz,r⟩
 ·obtain⟨z,its,r,p⟩:=h.ok I.hok
  exact⟨its,r,p.tup,z⟩
 ·refine⟨its.toList,r,⟨o,I.AM a o hk,hc,n,by simpa using hs⟩,?_⟩
  have e:=r.length
  simp only[Array.length_toList]at e
  omega
def Inv.Ay(I:Inv X pins σ H s)(h:SqL X.K H a xs)(h':SqL X.K H a ys):xs=ys:=by
 obtain⟨its,r,⟨o,n,e,_,_,d⟩,_⟩:=I.list h
 obtain⟨its',r',⟨o',n',e',_,_,d'⟩,_⟩:=I.list h'
 rw[e]at e';cases e'
 rw[d]at d'
 injection d' with d1 _
 have:its=its':=by simpa using FI Array.toList d1
 subst this
 exact r.inj r'
def Inv.An(I:Inv X pins σ H s)(h:yK X.K H a xs)(h':yK X.K H a ys):xs=ys:=by
 obtain⟨its,r,⟨o,e,_,n,d⟩,_⟩:=I.tuple h
 obtain⟨its',r',⟨o',e',_,n',d'⟩,_⟩:=I.tuple h'
 rw[e]at e';cases e'
 rw[d]at d'
 injection d' with d1 _
 have:its=its':=by simpa using FI Array.toList d1
 subst this
 exact r.inj r'
end
noncomputable abbrev Cx.wish(X:Cx)(E:Vq):Cx:={ X with xe:=E }
noncomputable abbrev Cx.AN(X:Cx):Cx:=X.wish fun _ _=>False
theorem Cx.Ok.wish{X:Cx}(ok:X.Ok)(E:Vq):(X.wish E).Ok:=
 ⟨ok.mod,ok.kind,ok.glob,ok.blt,ok.above,ok.inj,ok.has,ok.A1,ok.hd,ok.frames,ok.stk,ok.B2,ok.bs,ok.Ax,ok.Aa,ok.Am,ok.zj,ok.AR⟩
def Cx.Ok.yW{X:Cx}{E:Vq}(ok:(X.wish E).Ok):X.Ok:=
 ⟨ok.mod,ok.kind,ok.glob,ok.blt,ok.above,ok.inj,ok.has,ok.A1,ok.hd,ok.frames,ok.stk,ok.B2,ok.bs,ok.Ax,ok.Aa,ok.Am,ok.zj,ok.AR⟩
section
variable {X:Cx} {pins:Va} {σ:St} {H:Hp} {s:Shared} {E:Vq}
theorem Inv.wish(I:Inv X pins σ H s)(E:Vq):Inv (X.wish E) pins σ H s:=⟨I.ok.wish E,I.os,I.bare,I.base,I.loc,I.cell,I.free,I.yJ,I.pin,I.hok,I.len⟩
theorem Inv.yW(I:Inv (X.wish E) pins σ H s):Inv X pins σ H s:=⟨I.ok.yW,I.os,I.bare,I.base,I.loc,I.cell,I.free,I.yJ,I.pin,I.hok,I.len⟩
theorem SP.yW{D:kB}{f:Flow}{s':Shared}(h:SP (X.wish E) pins D f s'):SP X pins D f s':=by
 cases f with
 |next=>obtain⟨σ',H',I,q⟩:=h;exact⟨σ',H',I.yW,q⟩
 |brk=>obtain⟨σ',H',I,q⟩:=h;exact⟨σ',H',I.yW,q⟩
 |cont=>obtain⟨σ',H',I,q⟩:=h;exact⟨σ',H',I.yW,q⟩
 |ret u=>obtain⟨v,σ',H',I,r,q⟩:=h;exact⟨v,σ',H',I.yW,r,q⟩
theorem zY.AN{st:List Stmt}{t:TS}(h:zY X.AN st t):zY X st t:=fun pins s σ H D I hw=>
 Gi (h pins s σ H D (I.wish _) hw) (fun _ _ q=>q.yW) fun _ _ z=>False.elim z
end
section
variable {X:Cx} {st:Stmt} {rest:List Stmt} {t u:TS} {e:Expr} {te:TE} {pos:Pos}
def ug:TS:=fun D σ H=>D.nx σ H
def v_(t u:TS):TS:=fun D σ H=>t { D with nx:=u D } σ H
def oZ:zY X [] ug:=fun _ _ σ H _ I h=>Hu ⟨σ,H,I,h⟩
def mJ(h1:PS X st t)(h2:zY X rest u):zY X (st::rest) (v_ t u):=by
 intro pins s σ H D I h
 refine wpAny_execs_cons (xZ (h1 pins s σ H { D with nx:=u D } I h) fun f s1 q=>?_)
 cases f with
 |next=>
  obtain⟨σ',H',I',q⟩:=q
  exact h2 pins s1 σ' H' D I' q
 |ret v=>exact q
 |brk=>exact q
 |cont=>exact q
def o0(h1:PS X st t):zY X [st] t:=by
 intro pins s σ H D I h
 refine wpAny_execs_cons (xZ (h1 pins s σ H D I h) fun f s1 q=>?_)
 cases f with
 |next=>exact Hu q
 |ret v=>exact q
 |brk=>exact q
 |cont=>exact q
def Inv.quiet{pins:Va}{σ:St}{H:Hp}{s:Shared}(I:Inv X pins σ H s):interactive X.env=false:=by simp[interactive,I.ok.kind]
def uh(te:TE):TS:=fun D σ H=>te σ H fun _ H1=>D.nx σ H1
def o3(he:PE X e te)(hs:swapsWith e none pos.line X.env=pure false:=by rfl):PS X (.Expr e pos) (uh te):=by
 intro pins s σ H D I h
 exact wpAny_Expr_any (xZ (he pins s σ H _ I h) fun v s1 ⟨x,H1,I1,r1,q1⟩=>⟨σ,H1,I1,q1⟩) I.quiet hs
def wa(te:TE):TS:=fun D σ H=>te σ H D.rt
def rq(he:PE X e te):PS X (.Return (some e) pos) (wa te):=by
 intro pins s σ H D I h
 exact wpAny_Return_some (xZ (he pins s σ H _ I h) fun v s1 ⟨x,H1,I1,r1,q1⟩=>⟨x,σ,H1,I1,r1,q1⟩)
def wb(c:TT)(t u:TS):TS:=fun D σ H=>c σ H fun b H1=>if b=true then t D σ H1 else u D σ H1
def uk{c:Expr}{a b:List Stmt}{tc:TT}(hc:PT X c tc)(ha:zY X a t)(hb:zY X b u):PS X (.If c a b pos) (wb tc t u):=by
 intro pins s σ H D I h
 refine wpAny_If (xZ (hc pins s σ H _ I h) fun d s1 ⟨H1,I1,q1⟩=>?_)
 cases d with
 |true=>exact ha pins s1 σ H1 D I1 q1
 |false=>exact hb pins s1 σ H1 D I1 q1
end
abbrev TG:=V->St->Hp->(St->Hp->Prop)->Prop
abbrev qG:=List V->St->Hp->(St->Hp->Prop)->Prop
def PG(X:Cx)(target:Expr)(t:TG):Prop:=
 ∀(pins:Va) (s:Shared) (σ:St) (H:Hp) (v:V) (u:Value) (Q:St->Hp->Prop),Inv X pins σ H s->RelV v u->t v σ H Q->
  wpAny (model X.prog X.w) X.A (assign target X.env u) (fun _ s'=>∃σ' H',Inv X pins σ' H' s'/\Q σ' H') X.xe s
def um(X:Cx)(ts:List Expr)(t:qG):Prop:=
 ∀(pins:Va) (s:Shared) (σ:St) (H:Hp) (vs:List V) (us:Vv) (Q:St->Hp->Prop),Inv X pins σ H s->Vals vs us->t vs σ H Q->
  wpAny (model X.prog X.w) X.A (assignInOrder ((assignEach ts X.env).map (·.2)) us) (fun _ s'=>∃σ' H',Inv X pins σ' H' s'/\Q σ' H') X.xe s
abbrev rA:=V->V->V->Hp->(Hp->Prop)->Prop
def o4(X:Cx)(t:rA):Prop:=
 ∀(pins:Va) (s:Shared) (σ:St) (H:Hp) (o i v:V) (ov iv u:Value) (Q:Hp->Prop),Inv X pins σ H s->RelV o ov->RelV i iv->RelV v u->t o i v H Q->
  wpAny (model X.prog X.w) X.A (setItem ov iv u) (fun _ s'=>∃H',Inv X pins σ H' s'/\Q H') X.xe s
section
variable {X:Cx} {pos:Pos}
def jK(i:Nat):TG:=fun v σ H Q=>Q (σ.set i (some v)) H
def o5{i:Nat}{x:Str}(hN:X.N.Nodup)(hi:X.N[i]?=some x)(hx:oO X.env.scope x)(hf:X.fn x=true\/X.env.scope.names.lookup x=some .local:=by first|exact .inl rfl|exact .inr rfl|assumption):PG X (.Name x pos) (jK i):=by
 intro pins s σ H v u Q I r h
 exact wpAny_assign_Name (bR I hN hi hx r (fun s' I'=>⟨_,H,I',h⟩) hf)
noncomputable def uq:qG:=fun vs σ H Q=>vs=[]/\Q σ H
noncomputable def qH(t:TG)(u:qG):qG:=fun vs σ H Q=>∃v r,vs=v::r/\t v σ H fun σ' H'=>u r σ' H' Q
def o6:um X [] uq:=by
 intro pins s σ H vs us Q I r h
 obtain⟨e,h⟩:=h
 subst e
 cases r
 exact assignInOrder_nil ⟨σ,H,I,h⟩
def mK{e:Expr}{es:List Expr}{t:TG}{u:qG}(h1:PG X e t)(h2:um X es u)
  (hs:(assignEach (e::es) X.env).map (·.2)=assign e X.env::(assignEach es X.env).map (·.2):=by rfl):um X (e::es) (qH t u):=by
 intro pins s σ H vs us Q I r h
 obtain⟨v,vr,e1,h⟩:=h
 subst e1
 cases r with
 |cons r rr=>
  rw[hs]
  refine Gq (xZ (h1 pins s σ H _ _ _ I r h) fun _ s1 ⟨σ1,H1,I1,q1⟩=>?_)
  exact h2 pins s1 σ1 H1 _ _ Q I1 rr q1
def ur(K:Vo)(n:Nat)(t:qG):TG:=fun v σ H Q=>∃a xs,v = .ref a/\yK K H a xs/\xs.length=n/\t xs σ H Q
def rB{es:List Expr}{k:Nat}{t:qG}{n:Nat}(hc:X.calm=true)(h:um X es t)
  (hn:(assignEach es X.env).length=n:=by rfl) (hst:(assignEach es X.env).findIdx? (·.1)=none:=by rfl):PG X (.Tuple es k pos) (ur X.K n t):=by
 intro pins s σ H v u Q I r hw
 obtain⟨a,xs,e1,hq,hl,hw⟩:=hw
 subst e1
 cases r
 obtain⟨its,rv,ht,hz⟩:=I.tuple hq
 refine assign_Tuple_tuple (I.ok.hd hc) ht (by simp[hn,<-hl,rv.length]) hst fun h' hx=>?_
 have I1:Inv X pins σ H { s with heap:=h' }:=I.kept (t':=s.toks) fun b o e=>hx b o (E9 (E4 e)) e
 exact h pins _ σ H xs _ Q I1 (by simpa using rv) hw
def we(to ti:TE)(t:rA):TG:=fun v σ H Q=>to σ H fun o H1=>ti σ H1 fun i H2=>t o i v H2 fun H3=>Q σ H3
def rC{o i:Expr}{to ti:TE}{t:rA}(ho:PE X o to)(hi:PE X i ti)(hs:o4 X t)
  (ha:∀v,assign (.Subscript o i pos) X.env v=(do
   let ov <-holding [v] (eval o X.env)
   let iv <-holding [v,ov] (eval i X.env)
   standAt pos
   holding [v,ov,iv] (setItem ov iv v)
   release [v,ov,iv] []):=by intro _;rfl):PG X (.Subscript o i pos) (we to ti t):=by
 intro pins s σ H v u Q I r h
 rw[ha]
 refine EX (FG (xZ (ho pins s σ H _ I h) fun ov s1 ⟨x,H1,I1,r1,q1⟩=>?_))
 refine EX (FG (xZ (hi pins s1 σ H1 _ I1 q1) fun iv s2 ⟨y,H2,I2,r2,q2⟩=>?_))
 refine EX (wpAny_standAt (EX (FG (xZ (hs pins s2 σ H2 x y v ov iv u _ I2 r1 r2 r q2) fun _ s3 ⟨H3,I3,q3⟩=>?_))))
 exact wpAny_release ⟨σ,H3,I3,q3⟩
def o7(te:TE)(g:TG):TS:=fun D σ H=>te σ H fun x H1=>g x σ H1 D.nx
def mL{tg e:Expr}{te:TE}{g:TG}(he:PE X e te)(hg:PG X tg g)(hs:swapsWithSole [tg] e pos.line X.env=pure false:=by rfl)(hw:swappedStores [tg] e X.env=pure none:=by rfl)
  (h1:(assignEach [tg] X.env).map (·.2)=[assign tg X.env]:=by rfl):PS X (.Assign [tg] e pos) (o7 te g):=by
 intro pins s σ H D I h
 refine wpAny_Assign_stores (xZ (he pins s σ H _ I h) fun v s1 ⟨x,H1,I1,r1,q1⟩=>?_) hs hw
 rw[h1]
 exact xZ (hg pins s1 σ H1 x v _ I1 r1 q1) fun _ s2 q=>q
def rD{i:Nat}{x:Str}{e:Expr}{te:TE}{pos':Pos}(hN:X.N.Nodup)(hi:X.N[i]?=some x)(hx:oO X.env.scope x)(he:PE X e te)(hs:swapsWith e (some (.Name x pos')) pos.line X.env=pure false:=by rfl)(hf:X.fn x=true\/X.env.scope.names.lookup x=some .local:=by first|exact .inl rfl|exact .inr rfl|assumption) :
  PS X (.Assign [.Name x pos'] e pos) (o7 te (jK i)):=by
 intro pins s σ H D I h
 refine wpAny_Assign_Name (xZ (he pins s σ H _ I h) fun v s1 ⟨y,H1,I1,r1,q1⟩=>?_) hs
 exact bR I1 hN hi hx r1 (fun s2 I2=>⟨_,H1,I2,q1⟩) hf
def wf(i j:Nat)(ta:TA):TS:=fun D σ H=>ta σ H fun vs H1=>∃v w,vs=[v,w]/\D.nx ((σ.set i (some v)).set j (some w)) H1
def rE{i j:Nat}{x y:Str}{a b:Expr}{ta:TA}{px py pt:Pos}{kt k2 Bg}(hc:X.calm=true)(hN:X.N.Nodup)(hi:X.N[i]?=some x)(hj:X.N[j]?=some y)(hij:i≠j)
  (hx:X.env.scope.names.lookup x=some .local) (hy:X.env.scope.names.lookup y=some .local) (ha:PA X [a,b] ta)
  (hw:swappedStores [.Tuple [.Name x px,.Name y py] kt pt] (.Tuple [a,b] k2 Bg) X.env=pure (some [x,y]))
  (hs:swapsWithSole [.Tuple [.Name x px,.Name y py] kt pt] (.Tuple [a,b] k2 Bg) pos.line X.env=pure false:=by rfl) :
  PS X (.Assign [.Tuple [.Name x px,.Name y py] kt pt] (.Tuple [a,b] k2 Bg) pos) (wf i j ta):=by
 intro pins s σ H D I h
 rw[exec_Assign_arm]
 refine EX (wpAny_standAt ?_)
 rw[hs]
 refine EX (E2 ?_)
 rw[if_neg (by decide)]
 refine EX (Tuple_ (xZ (ha _ pins s σ H _ I h) fun us s1 ⟨vs,H1,I1,r1,q1⟩=>?_))
 obtain⟨v,w,e1,q1⟩:=q1
 subst e1
 obtain⟨u1,u2,rfl,rv,rw'⟩:∃u1 u2,us=[u1,u2]/\RelV v u1/\RelV w u2:=by
  cases r1 with
  |cons p q=>
   cases q with
   |cons p' q'=>
    cases q'
    exact⟨_,_,rfl,p,p'⟩
 refine F4 ?_ (by show 2<=sizeLine;decide)
 have I2:Inv X pins σ H1 { s1 with heap:=s1.heap.push { cls:=.type "tuple",data:=.seq [u1,u2].toArray } }:=I1.kept (t':=s1.toks) fun b o e=>EY _ e
 rw[hw]
 refine EX (E2 ?_)
 show wpAny (model X.prog X.w) X.A (do rule "assign.swapped-stores"; let items <-unpackItems (.ref s1.heap.objs.size) 2 none;assignInOrder [fun v=>bindName X.env y v,fun v=>bindName X.env x v] items.reverse;pure Flow.next) _ _ _
 refine EX (Hj (EX (unpackItems_tuple (items:=#[u1,u2]) (I.ok.hd hc) (IsTup.new s1.heap _) fun h' hx'=>?_)))
 have I3:=I2.kept (h':=h') (t':=s1.toks) fun b o e=>hx' b o (E9 (E4 e)) e
 show wpAny _ _ (assignInOrder [fun v=>bindName X.env y v,fun v=>bindName X.env x v] [u2,u1] >>= fun _=>pure Flow.next) _ _ _
 refine EX (Gq (G1 (bR I3 hN hj (.inl hy) rw' (fun s2 I4=>?_) (.inr hy))))
 refine Gq (G1 (bR I4 hN hi (.inl hx) rv (fun s3 I5=>assignInOrder_nil (E2 ?_)) (.inr hx)))
 rw[List.set_comm _ _ (Gg hij)]at I5
 exact⟨_,H1,I5,q1⟩
end
section
variable {X:Cx} {pos:Pos}
def rF(c:TT)(tb:TS):TS:=fun D σ H=>∃W:Nat->St->Hp->Prop,(∃m,W m σ H)/\∀m σ H,W m σ H->
 c σ H fun b H1=>if b=true then ∃N:St->Hp->Prop,(∀σ' H',N σ' H'->∃m',m' < m/\W m' σ' H')/\tb { D with nx:=N,ct:=N,bk:=D.nx } σ H1 else D.nx σ H1
def mM{c:Expr}{body:List Stmt}{tc:TT}{tb:TS}(hp:PassesOwn (model X.prog X.w) X.A X.env X.xe)(hc:PT X c tc)(hb:zY X body tb):PS X (.While c body [] pos) (rF tc tb):=by
 intro pins s σ H D I h
 obtain⟨W,⟨m0,w0⟩,turn⟩:=h
 refine wpAny_While (codeAny_whileLoop (fun n s'=>∃σ' H',Inv X pins σ' H' s'/\W n σ' H') ?_ m0 ⟨σ,H,I,w0⟩)
 rintro n s1 ⟨σ1,H1,I1,w1⟩
 refine Gu hp (xZ (hc pins s1 σ1 H1 _ I1 (turn n σ1 H1 w1)) fun b s2 ⟨H2,I2,q2⟩=>?_)
 cases b with
 |true=>
  obtain⟨N,hN,q2⟩:=q2
  rw[if_pos rfl]
  refine Gu hp (xZ (hb pins s2 σ1 H2 _ I2 q2) fun f s3 q3=>?_)
  cases f with
  |next=>
   obtain⟨σ3,H3,I3,n3⟩:=q3
   obtain⟨m',hm,w3⟩:=hN σ3 H3 n3
   exact⟨m',hm,σ3,H3,I3,w3⟩
  |cont=>
   obtain⟨σ3,H3,I3,n3⟩:=q3
   obtain⟨m',hm,w3⟩:=hN σ3 H3 n3
   exact⟨m',hm,σ3,H3,I3,w3⟩
  |brk=>exact q3
  |ret v=>exact q3
 |false=>
  rw[if_neg Ff]
  exact Hu ⟨σ1,H2,I2,q2⟩
end
structure It where
 go:Nat->Hp->Prop
 B5:Nat->Hp->V->Hp->Prop
 stop:Nat->Hp->Prop
def d5(X:Cx)(pins:Va)(H:Hp)(b:Addr):Prop:=
 H b=none/\b≠X.env.locals/\b ∉ X.fs/\(b∈X.ex\/X.s₀.heap.objs.size<=b)/\(∀x c,X.env.cells.lookup x=some c->c≠b)/\∀p∈X.pn++pins,p.1≠b
def Inv.zZ{X:Cx}{pins:Va}{σ:St}{H H':Hp}{s:Shared}{b:Addr}(I:Inv X pins σ H s)(hb:s.heap.objs.size<=b)(hn:H' b=none):d5 X pins H' b:=by
 refine⟨hn,HG (E7 I.lt hb),I.BF hb,.inr (Fc I.sz hb),fun x c e z=>?_,fun p hp z=>?_⟩
 ·obtain⟨v,q⟩:=I.cell x c e
  exact absurd (E7 q.lt (by rw[z];exact hb)) (Gp _)
 ·exact absurd (E7 (E4 (I.pin p hp).1) (by rw[z];exact hb)) (Gp _)
structure lN (P:Program) (w:World) (K:Vo) (tg:Expr) (J:It) (fp:List Addr) (it:Addr) (tn:Nat->Heap->Prop):Prop where
 mem:it∈fp
 obj:∀i h,tn i h->∀b∈fp,∃o,h.get? b=some o/\∀v,o.data ≠ .cell v
 keep:∀i h h',tn i h->(∀b∈fp,∀o,h.get? b=some o->h'.get? b=some o)->tn i h'
 item:∀(X:Cx),X.prog=P->X.w=w->X.K=K->X.calm=true->∀(i:Nat) (pins:Va) (s:Shared) (σ:St) (H:Hp) (E:Vq),Inv X pins σ H s->(∀b∈fp,d5 X pins H b)->tn i s.heap->J.go i H->
  wpAny (model P w) X.A (pyNext (.ref it)) (fun r s1=>∃u,r=some u/\
   wpAny (model P w) X.A (letOwnedTupleGo tg (.ref it) u) (fun _ s2=>∃x H',Inv X pins σ H' s2/\RelV x u/\J.B5 i H x H'/\tn (i+1) s2.heap/\∀b∈fp,H' b=none) E s1) E s
 done:∀(X:Cx),X.prog=P->X.w=w->X.K=K->X.calm=true->∀(i:Nat) (pins:Va) (s:Shared) (σ:St) (H:Hp) (E:Vq),Inv X pins σ H s->(∀b∈fp,d5 X pins H b)->tn i s.heap->J.stop i H->
  wpAny (model P w) X.A (pyNext (.ref it)) (fun r s1=>r=none/\Inv X pins σ H s1) E s
 self:∀(A:Around) (i:Nat) (s:Shared) (Q:Vq) (E:Vq),tn i s.heap->Q (.ref it) s->wpAny (model P w) A (pyIter (.ref it)) Q E s
abbrev TI:=St->Hp->(It->Hp->Prop)->Prop
def wg(X:Cx)(pins:Va)(σ:St)(tg:Expr)(R:It->Hp->Prop)(itv:Value)(s2:Shared):Prop:=
 ∃(it:Addr) (fp:List Addr) (tn:Nat->Heap->Prop) (J:It) (H':Hp),itv = .ref it/\Inv X pins σ H' s2/\lN X.prog X.w X.K tg J fp it tn/\tn 0 s2.heap/\(∀b∈fp,d5 X pins H' b)/\R J H'
def PI(X:Cx)(tg iter:Expr)(wi:TI):Prop:=
 ∀(pins:Va) (s:Shared) (σ:St) (H:Hp) (R:It->Hp->Prop),Inv X pins σ H s->wi σ H R->
  wpAny (model X.prog X.w) X.A (eval iter X.env) (fun v s1=>wpAny (model X.prog X.w) X.A (pyIter v) (wg X pins σ tg R) X.xe s1) X.xe s
def li {M : Model} {A : Around} {E : Value -> Shared -> Prop} {s : Shared} {tg : Expr} {it : Addr} {u : Value} {o : Obj} {n : String} {vs : Array Value} {Q : Unit -> Shared -> Prop} (ho : s.heap.get? it = some o) (hc : o.cls = .type n) (hd : o.data = .fields vs)
    (hn : ["enumerate", "zip", "dict_itemiterator", "dict_reverseitemiterator", "odict_iterator", "itertools.zip_longest", "itertools.pairwise"].contains n = false) (hQ : Q () s) : wpAny M A (letOwnedTupleGo tg (.ref it) u) Q E s := by
  unfold letOwnedTupleGo
  cases tg <;> first
    | exact E2 hQ
    | (cases u <;> first
        | exact E2 hQ
        | (refine EX (wpAny_load ho ?_)
           rw [hc, hd]
           show wpAny M A (if (["enumerate", "zip", "dict_itemiterator", "dict_reverseitemiterator", "odict_iterator", "itertools.zip_longest", "itertools.pairwise"].contains n && vs[0]? == some (rawInt _)) = true then _ else _) Q E s
           rw [if_neg (by intro h; rw [hn, Bool.false_and] at h; cases h)]
           exact E2 hQ))
noncomputable def vN(K:Vo)(a:Addr):It:=
 ⟨fun i H=>∃xs x,SqL K H a xs/\xs[i]?=some x,fun i H x H'=>H'=H/\∀xs,SqL K H a xs->xs[i]?=some x,fun i H=>∃xs,SqL K H a xs/\xs.length<=i⟩
noncomputable def wj(K:Vo)(a:Addr):It:=
 ⟨fun i H=>∃xs x,yK K H a xs/\xs[i]?=some x,fun i H x H'=>H'=H/\∀xs,yK K H a xs->xs[i]?=some x,fun i H=>∃xs,yK K H a xs/\xs.length<=i⟩
noncomputable def vO(lo:Int)(n:Nat):It:=⟨fun i _=>i < n,fun i H x H'=>H'=H/\x = .int (lo+i),fun i _=>n<=i⟩
def lO{P:Program}{w:World}{K:Vo}{tg:Expr}(a it:Addr):lN P w K tg (vN K a) [it] it (fun i h=>h.IsListIter it a i) where
 mem:=by simp
 obj:=fun i h st b hb=>by
  have e:b=it:=by simpa using hb
  subst e
  obtain⟨o,e,c,d⟩:=st
  exact⟨o,e,fun v z=>by rw[d]at z;cases z⟩
 keep:=fun i h h' st k=>st.at fun o e=>k it (by simp) o e
 item:=by
  intro X hP hw hK hc i pins s σ H E I hf st hg
  subst hP hw hK
  obtain⟨xs,x,hq,hx⟩:=hg
  obtain⟨its,rv,p,hz⟩:=I.list hq
  obtain⟨u,hu,ru⟩:=rv.get hx
  obtain⟨f0,f1,f2,f3,f4,f5⟩:=hf it (by simp)
  refine wpAny_pyNext_list_item st p.isList (x:=u) (by simpa using hu) fun h' st' sb=>?_
  have I1:Inv X pins σ H { s with heap:=h' }:=I.turned (t':=s.toks) (fun b o hb e=>(sb.2 b hb).trans e) f0 f1 f3 f4 f5
  obtain⟨o,e,c,d⟩:=id st'
  exact⟨u,rfl,li (s:={ s with heap:=h' }) e c d (by decide) ⟨x,H,I1,ru,⟨rfl,fun ys hy=>by rw[I.Ay hy hq];exact hx⟩,st',fun b hb=>(hf b hb).1⟩⟩
 done:=by
  intro X hP hw hK hc i pins s σ H E I hf st hg
  subst hP hw hK
  obtain⟨xs,hq,hx⟩:=hg
  obtain⟨its,rv,p,hz⟩:=I.list hq
  obtain⟨f0,f1,f2,f3,f4,f5⟩:=hf it (by simp)
  have hl:=rv.length
  exact wpAny_pyNext_list_end (I.ok.hd hc) st p.isList (by simp;omega) fun h' eb=>⟨rfl,I.turned (t':=s.toks) (fun b o hb e=>eb b o hb e) f0 f1 f3 f4 f5⟩
 self:=fun _ _ _ _ _ st h=>wpAny_pyIter_listiter st h
def kC{P:Program}{w:World}{K:Vo}{tg:Expr}(a it:Addr):lN P w K tg (wj K a) [it] it (fun i h=>h.IsTupleIter it a i) where
 mem:=by simp
 obj:=fun i h st b hb=>by
  have e:b=it:=by simpa using hb
  subst e
  obtain⟨o,e,c,d⟩:=st
  exact⟨o,e,fun v z=>by rw[d]at z;cases z⟩
 keep:=fun i h h' st k=>st.at fun o e=>k it (by simp) o e
 item:=by
  intro X hP hw hK hc i pins s σ H E I hf st hg
  subst hP hw hK
  obtain⟨xs,x,hq,hx⟩:=hg
  obtain⟨its,rv,p,hz⟩:=I.tuple hq
  obtain⟨u,hu,ru⟩:=rv.get hx
  obtain⟨f0,f1,f2,f3,f4,f5⟩:=hf it (by simp)
  refine wpAny_pyNext_tuple_item st (show s.heap.IsTuple a its.toArray from p) (x:=u) (by simpa using hu) fun h' st' sb=>?_
  have I1:Inv X pins σ H { s with heap:=h' }:=I.turned (t':=s.toks) (fun b o hb e=>(sb.2 b hb).trans e) f0 f1 f3 f4 f5
  obtain⟨o,e,c,d⟩:=id st'
  exact⟨u,rfl,li (s:={ s with heap:=h' }) e c d (by decide) ⟨x,H,I1,ru,⟨rfl,fun ys hy=>by rw[I.An hy hq];exact hx⟩,st',fun b hb=>(hf b hb).1⟩⟩
 done:=by
  intro X hP hw hK hc i pins s σ H E I hf st hg
  subst hP hw hK
  obtain⟨xs,hq,hx⟩:=hg
  obtain⟨its,rv,p,hz⟩:=I.tuple hq
  obtain⟨f0,f1,f2,f3,f4,f5⟩:=hf it (by simp)
  have hl:=rv.length
  exact wpAny_pyNext_tuple_end (I.ok.hd hc) st (show s.heap.IsTuple a its.toArray from p) (by simp;omega) fun h' eb=>⟨rfl,I.turned (t':=s.toks) (fun b o hb e=>eb b o hb e) f0 f1 f3 f4 f5⟩
 self:=fun _ _ _ _ _ st h=>wpAny_pyIter_tupleiter st h
def kD{P:Program}{w:World}{K:Vo}{tg:Expr}(it:Addr)(lo:Int)(n:Nat):lN P w K tg (vO lo n) [it] it (fun i h=>IsRangeIter h it (lo+(i:Nat) * 1) ((n:Int) - (i:Nat)) 1) where
 mem:=by simp
 obj:=fun i h st b hb=>by
  have e:b=it:=by simpa using hb
  subst e
  exact⟨_,st,fun v z=>by
   have z':Data.fields _=Data.cell v:=z
   cases z'⟩
 keep:=fun i h h' st k=>k it (by simp) _ st
 item:=by
  intro X hP hw hK hc i pins s σ H E I hf st hg
  subst hP hw hK
  obtain⟨f0,f1,f2,f3,f4,f5⟩:=hf it (by simp)
  have W:=Walks.range (prog:=X.prog) (w:=X.w) (I.ok.hd hc) it lo 1 n
  refine W.item i s _ _ hg st fun v h' tk hv st' kk=>?_
  obtain⟨t,rfl⟩:=hv
  have I1:Inv X pins σ H { s with heap:=h',toks:=tk }:=I.turned (fun b o hb e=>kk b o (by simpa using hb) e) f0 f1 f3 f4 f5
  refine⟨_,rfl,li (s:={ s with heap:=h',toks:=tk }) (n:="range_iterator") st' rfl rfl (by decide) ⟨.int (lo+i),H,I1,⟨t,?_⟩,⟨rfl,rfl⟩,st',fun b hb=>(hf b hb).1⟩⟩
  rw[Int.mul_one]
 done:=by
  intro X hP hw hK hc i pins s σ H E I hf st hg
  subst hP hw hK
  obtain⟨f0,f1,f2,f3,f4,f5⟩:=hf it (by simp)
  exact wpAny_pyNext_range_end (I.ok.hd hc) st (by have:n<=i:=hg;omega) fun h' eb=>⟨rfl,I.turned (t':=s.toks) (fun b o hb e=>eb b o hb e) f0 f1 f3 f4 f5⟩
 self:=fun _ _ _ _ _ st h=>wpAny_pyIter_rangeiter st h
section
variable {X:Cx} {tg:Expr}
def mN{pins:Va}{σ:St}{H:Hp}{s:Shared}{R:It->Hp->Prop}{E:Vq}{lo hi:Int}{t u v:Tok}{tk:Nat}(I:Inv X pins σ H s)(h1:-(2 ^ 62)<=lo)(h2:lo < 2 ^ 62)(h3:-(2 ^ 62)<=hi)(h4:hi < 2 ^ 62)
  (q:R (vO lo (hi - lo).toNat) H):wpAny (model X.prog X.w) X.A (pyIter (.ref s.heap.objs.size)) (wg X pins σ tg R) E { s with heap:=s.heap.push { cls:=.type "range",data:=.fields #[.int lo t,.int hi u,.int 1 v] },toks:=tk }:=by
 refine wpAny_pyIter_range (IsRange.new ..) (small_one h1 h2 h3 h4) ?_
 have I1:Inv X pins σ H { s with heap:=s.heap.push { cls:=.type "range",data:=.fields #[.int lo t,.int hi u,.int 1 v] },toks:=tk }:=I.kept fun b o e=>EY _ e
 refine⟨(s.heap.push { cls:=.type "range",data:=.fields #[.int lo t,.int hi u,.int 1 v] }).objs.size,[(s.heap.push { cls:=.type "range",data:=.fields #[.int lo t,.int hi u,.int 1 v] }).objs.size],_,_,H,rfl,
  I1.kept (t':=tk) fun b o e=>EY _ e,kD _ lo (hi - lo).toNat,?_,fun b hb=>?_,q⟩
 ·have e1:lo+((0:Nat):Int) * 1=lo:=by simp
  have e2:(((hi - lo).toNat:Nat):Int) - ((0:Nat):Int)=Builtin.Range.rangeSize lo hi 1:=by rw[rangeSize_one];split<;>omega
  show IsRangeIter _ _ (lo+((0:Nat):Int) * 1) ((((hi - lo).toNat:Nat):Int) - ((0:Nat):Int)) 1
  rw[e1,e2]
  exact E8 _ rfl
 ·have e:b=(s.heap.push { cls:=.type "range",data:=.fields #[.int lo t,.int hi u,.int 1 v] }).objs.size:=by simpa using hb
  subst e
  exact I1.zZ (E1 _) (I1.hok.fresh (E1 _))
def ut(ta:TA):TI:=fun σ H R=>ta σ H fun vs H1=>∃j:Int,vs=[.int j]/\-(2 ^ 62)<=j/\j < 2 ^ 62/\R (vO 0 j.toNat) H1
def lP{a:Expr}{ta:TA}{p pos:Pos}(hg:Gl X "range")(hm:X.mg "range" = none)(ha:PA X [a] ta)(hs:starEach [a] X.env=[(false,eval a X.env)]:=by rfl):PI X tg (.Call (.Name "range" p) [a] [] pos) (ut ta):=by
 intro pins s σ H R I h
 refine Call_ (dn I hg hm boot_range (FJ (xZ (ha pos pins s σ H _ I h) fun us s1 ⟨vs,H1,I1,r1,q1⟩=>?_) hs rfl))
 obtain⟨j,e,q1,q2,q⟩:=q1
 subst e
 cases r1 with
 |cons r rr=>
  cases rr
  obtain⟨t,rfl⟩:=r
  exact call_range_1 (mN I1 (by omega) (by omega) q1 q2 (by simpa using q))
def wk(wi:TI)(g:TG)(tb:TS):TS:=fun D σ H=>wi σ H fun J H1=>∃W:Nat->Nat->St->Hp->Prop,(∃m,W 0 m σ H1)/\∀i m σ H,W i m σ H->
 (J.stop i H/\D.nx σ H)\/(J.go i H/\∃N:St->Hp->Prop,(∀σ' H',N σ' H'->∃m',m' < m/\W (i+1) m' σ' H')/\∀x H',J.B5 i H x H'->g x σ H' fun σ2 H2=>tb { D with nx:=N,ct:=N,bk:=D.nx } σ2 H2)
noncomputable def gy(fp:List Addr)(h:Heap):List (Addr×Obj):=fp.filterMap fun b=>(h.get? b).map fun o=>(b,o)
def eg{fp:List Addr}{h:Heap}{b:Addr}{o:Obj}(hb:b∈fp)(e:h.get? b=some o):(b,o)∈gy fp h:=List.mem_filterMap.mpr ⟨b,hb,by rw[e];rfl⟩
def lQ{fp:List Addr}{h:Heap}{p:Addr×Obj}(hp:p∈gy fp h):p.1∈fp/\h.get? p.1=some p.2:=by
 obtain⟨b,hb,e⟩:=List.mem_filterMap.mp hp
 cases q:h.get? b with
 |none=>rw[q]at e;cases e
 |some o=>
  rw[q]at e
  have e':(b,o)=p:=FQ e
  subst e'
  exact⟨hb,q⟩
def Inv.pinned{pins:Va}{σ:St}{H:Hp}{s:Shared}{fp:List Addr}(I:Inv X pins σ H s)(hf:∀b∈fp,d5 X pins H b)(ho:∀b∈fp,∃o,s.heap.get? b=some o/\∀v,o.data ≠ .cell v):Inv X (pins++gy fp s.heap) σ H s:=
 I.zC fun p hp=>(FA.mp hp).elim (fun z=>I.pin p (Fo _ z)) fun z=>by
  obtain⟨hb,e⟩:=lQ z
  obtain⟨f0,f1,f2,_⟩:=hf p.1 hb
  obtain⟨o,e',d⟩:=ho p.1 hb
  rw[e]at e';cases e'
  exact⟨e,f0,f1,f2,d⟩
def Inv.zk{pins pl:Va}{σ:St}{H:Hp}{s:Shared}(I:Inv X (pins++pl) σ H s):Inv X pins σ H s:=I.zC fun p hp=>I.pin p (Fo _ (Gy _ hp))
def rG{iter:Expr}{body:List Stmt}{wi:TI}{g:TG}{tb:TS}{pos:Pos}(hp:PassesOwn (model X.prog X.w) X.A X.env X.xe)(hc:X.calm=true)(hi:PI X tg iter wi)(hg:PG X tg g)(hb:zY X body tb)
  (hs:∀x,foldedSetIterable iter X.env x=pure x:=by intro _;rfl):PS X (.For tg iter body [] pos) (wk wi g tb):=by
 intro pins s σ H D I h
 refine wpAny_For (xZ (hi pins s σ H _ I h) fun v s1 h1=>xZ h1 fun itv s2 h2=>?_) hs
 obtain⟨it,fp,tn,J,H2,e,I2,T,st2,f2,W,⟨m0,w0⟩,turn⟩:=h2
 subst e
 -- what stays true of the iterator's objects through the loop
 have stat:∀{H':Hp},(∀b∈fp,H' b=none)->∀b∈fp,d5 X pins H' b:=fun hn b hb=>⟨hn b hb,(f2 b hb).2⟩
 refine codeAny_forLoop_any (fun n s'=>∃i σ' H',Inv X pins σ' H' s'/\tn i s'.heap/\(∀b∈fp,H' b=none)/\W i n σ' H') ?_ m0 ⟨0,σ,H2,I2,st2,fun b hb=>(f2 b hb).1,w0⟩
 rintro n s3 ⟨i,σ3,H3,I3,st3,De,w3⟩
 rcases turn i n σ3 H3 w3 with⟨stop,qn⟩|⟨go,N,hN,step⟩
 ·refine Gu hp (xZ (T.done X rfl rfl rfl hc i pins s3 σ3 H3 X.xe I3 (stat De) st3 stop) fun r s4 ⟨hr,I4⟩=>?_)
  subst hr
  exact Hu ⟨σ3,H3,I4,qn⟩
 ·refine Gu hp (xZ (T.item X rfl rfl rfl hc i pins s3 σ3 H3 X.xe I3 (stat De) st3 go) fun r s4 ⟨u,hr,h4⟩=>?_)
  subst hr
  refine Gu hp (xZ h4 fun _ s5 ⟨x,H5,I5,r5,y5,AS,Cm⟩=>?_)
  have Cn:=I5.pinned (stat Cm) (T.obj _ _ AS)
  refine Gu hp (xZ (hg _ s5 σ3 H5 x u _ Cn r5 (step x H5 y5)) fun _ s6 ⟨σ6,H6,I6,q6⟩=>?_)
  refine Gu hp (xZ (hb _ s6 σ6 H6 _ I6 q6) fun f s7 q7=>?_)
  have again:∀{σ7:St} {H7:Hp},Inv X (pins++gy fp s5.heap) σ7 H7 s7->N σ7 H7->∃m,m < n/\∃i σ' H',Inv X pins σ' H' s7/\tn i s7.heap/\(∀b∈fp,H' b=none)/\W i m σ' H':=fun{σ7 H7} I7 n7=>by
   obtain⟨m',hm,w7⟩:=hN σ7 H7 n7
   refine⟨m',hm,i+1,σ7,H7,I7.zk,T.keep _ _ _ AS fun b hb o e=>(I7.pin (b,o) (Fo _ (Fo _ (eg hb e)))).1,fun b hb=>?_,w7⟩
   obtain⟨o,e,d⟩:=T.obj _ _ AS b hb
   exact(I7.pin (b,o) (Fo _ (Fo _ (eg hb e)))).2.1
  cases f with
  |next=>obtain⟨σ7,H7,I7,n7⟩:=q7;exact again I7 n7
  |cont=>obtain⟨σ7,H7,I7,n7⟩:=q7;exact again I7 n7
  |brk=>obtain⟨σ7,H7,I7,q7⟩:=q7;exact⟨σ7,H7,I7.zk,q7⟩
  |ret v=>obtain⟨x7,σ7,H7,I7,r7,q7⟩:=q7;exact⟨x7,σ7,H7,I7.zk,r7,q7⟩
end
abbrev R2:=V->V->Hp->VK->Prop
def fM(X:Cx)(f:Value->Value->Sem Value)(r:R2):Prop:=
 ∀(pins:Va) (s:Shared) (σ:St) (H:Hp) (x y:V) (v u:Value) (Q:VK),Inv X pins σ H s->RelV x v->RelV y u->r x y H Q->
  wpAny (model X.prog X.w) X.A (f v u) (EP X pins σ Q) X.xe s
def vP(X:Cx)(f:Value->Sem Value)(r:V->Hp->VK->Prop):Prop:=
 ∀(pins:Va) (s:Shared) (σ:St) (H:Hp) (x:V) (v:Value) (Q:VK),Inv X pins σ H s->RelV x v->r x H Q->
  wpAny (model X.prog X.w) X.A (f v) (EP X pins σ Q) X.xe s
def d_(X:Cx)(f:Value)(r:List V->Hp->VK->Prop):Prop:=
 ∀(pins:Va) (s:Shared) (σ:St) (H:Hp) (xs:List V) (us:Vv) (Q:VK),Inv X pins σ H s->Vals xs us->r xs H Q->
  wpAny (model X.prog X.w) X.A (call f us) (EP X pins σ Q) X.xe s
def uu(r:R2)(ta tb:TE):TE:=fun σ H Q=>ta σ H fun x H1=>tb σ H1 fun y H2=>r x y H2 Q
def xy(r:V->Hp->VK->Prop)(ta:TE):TE:=fun σ H Q=>ta σ H fun x H1=>r x H1 Q
def rI(C:Int->Int->Prop)(g:Int->Int->V):R2:=fun x y H Q=>∃i j,x = .int i/\y = .int j/\C i j/\Q (g i j) H
def o8(g:Int->Int->V):R2:=fun x y H Q=>∃i j,x = .int i/\y = .int j/\Q (g i j) H
noncomputable def rU(g:Int->V):V->Hp->VK->Prop:=fun x H Q=>∃i,x = .int i/\Q (g i) H
section
variable {X:Cx} {a b c:Expr} {ta tb tc:TE} {pos:Pos}
def rH(ha:PE X a ta)(hb:PE X b tb){pins:Va}{s:Shared}{σ:St}{H:Hp}{R:V->V->Hp->Prop}(I:Inv X pins σ H s)
  (h:ta σ H fun x H1=>tb σ H1 fun y H2=>R x y H2) {Q:Vq} {f:Value->Value->Sem Value}
  (hf:∀v u s2 x y H2,Inv X pins σ H2 s2->RelV x v->RelV y u->R x y H2->wpAny (model X.prog X.w) X.A (f v u) Q X.xe s2) :
  wpAny (model X.prog X.w) X.A (eval a X.env) (fun v s₁=>wpAny (model X.prog X.w) X.A (eval b X.env) (fun u s₂=>wpAny (model X.prog X.w) X.A (f v u) Q X.xe s₂) X.xe s₁) X.xe s:=by
 refine xZ (ha pins s σ H _ I h) fun v s1 ⟨x,H1,I1,r1,q1⟩=>?_
 refine xZ (hb pins s1 σ H1 _ I1 q1) fun u s2 ⟨y,H2,I2,r2,q2⟩=>?_
 exact hf v u s2 x y H2 I2 r1 r2 q2
def uv{op:Operator}{r:R2}(ho:fM X (binaryOp op) r)(ha:PE X a ta)(hb:PE X b tb):PE X (.BinOp a op b pos) (uu r ta tb):=by
 intro pins s σ H Q I h
 exact wpAny_BinOp (rH ha hb I h fun v u s2 x y H2 I2 rx ry q=>ho pins s2 σ H2 x y v u Q I2 rx ry q)
def ux{op:UnaryOp}{r:V->Hp->VK->Prop}(ho:vP X (unaryOp op) r)(ha:PE X a ta):PE X (.UnaryOp op a pos) (xy r ta):=by
 intro pins s σ H Q I h
 exact UnaryOp_ (xZ (ha pins s σ H _ I h) fun v s1 ⟨x,H1,I1,r1,q1⟩=>ho pins s1 σ H1 x v Q I1 r1 q1)
def vQ{f:Value->Value->Sem Value}{C:Int->Int->Prop}{g:Int->Int->Int}
  (rule:∀(i j:Int) (t u:Tok) (s:Shared) (Q:Vq) (E:Vq),C i j->Q (.int (g i j) s.toks) { s with toks:=s.toks+1 }->wpAny (model X.prog X.w) X.A (f (.int i t) (.int j u)) Q E s) :
  fM X f (rI C fun i j=>.int (g i j)):=by
 intro pins s σ H x y v u Q I rx ry h
 obtain⟨i,j,rfl,rfl,hc,q⟩:=h
 obtain⟨t,rfl⟩:=rx
 obtain⟨t',rfl⟩:=ry
 exact rule i j t t' s _ _ hc ⟨.int (g i j),H,I.tok _,⟨_,rfl⟩,q⟩
def uy{f:Value->Value->Sem Value}{g:Int->Int->Int}
  (rule:∀(i j:Int) (t u:Tok) (s:Shared) (Q:Vq) (E:Vq),Q (.int (g i j) s.toks) { s with toks:=s.toks+1 }->wpAny (model X.prog X.w) X.A (f (.int i t) (.int j u)) Q E s) :
  fM X f (o8 fun i j=>.int (g i j)):=by
 intro pins s σ H x y v u Q I rx ry h
 obtain⟨i,j,rfl,rfl,q⟩:=h
 obtain⟨t,rfl⟩:=rx
 obtain⟨t',rfl⟩:=ry
 exact rule i j t t' s _ _ ⟨.int (g i j),H,I.tok _,⟨_,rfl⟩,q⟩
def rJ{f:Value->Value->Sem Value}{g:Int->Int->Bool}
  (rule:∀(i j:Int) (t u:Tok) (s:Shared) (Q:Vq) (E:Vq),Q (.bool (g i j)) s->wpAny (model X.prog X.w) X.A (f (.int i t) (.int j u)) Q E s) :
  fM X f (o8 fun i j=>.bl (g i j)):=by
 intro pins s σ H x y v u Q I rx ry h
 obtain⟨i,j,rfl,rfl,q⟩:=h
 obtain⟨t,rfl⟩:=rx
 obtain⟨t',rfl⟩:=ry
 exact rule i j t t' s _ _ ⟨.bl (g i j),H,I,rfl,q⟩
def rK(i j:Int):Prop:=0<=j/\j<=1000000/\i.natAbs < 2 ^ 64
def AT(i j:Int):Prop:=(-(2 ^ 64) < i/\i < 2 ^ 64)\/(-(2 ^ 64) < j/\j < 2 ^ 64)
def AT.ok{i j:Int}(h:AT i j):IntMulOk i j:=by
 rcases h with⟨h1,h2⟩|⟨h1,h2⟩
 ·exact .of_left (intBits_le_64 h1 h2)
 ·exact .of_right (intBits_le_64 h1 h2)
def rL:fM X (binaryOp .Add) (o8 fun i j=>.int (i+j)):=uy fun _ _ _ _ _ _ _ q=>add_int q
def rM:fM X (binaryOp .Sub) (o8 fun i j=>.int (i - j)):=uy fun _ _ _ _ _ _ _ q=>sub_int q
def o9:fM X (binaryOp .Mod) (rI (fun _ j=>j≠0) fun i j=>.int (i.fmod j)):=vQ fun _ _ _ _ _ _ _ hc q=>mod_int' hc q
def rN:fM X (binaryOp .Pow) (rI rK fun i j=>.int (i ^ j.toNat)):=vQ fun _ _ _ _ _ _ _ hc q=>pow_int_small hc.1 hc.2.1 hc.2.2 q
def xz{f:Value->Sem Value}{g:Int->Int}
  (rule:∀(i:Int) (t:Tok) (s:Shared) (Q:Vq) (E:Vq),Q (.int (g i) s.toks) { s with toks:=s.toks+1 }->wpAny (model X.prog X.w) X.A (f (.int i t)) Q E s) :
  vP X f (rU fun i=>.int (g i)):=by
 intro pins s σ H x v Q I rx h
 obtain⟨i,rfl,q⟩:=h
 obtain⟨t,rfl⟩:=rx
 exact rule i t s _ _ ⟨.int (g i),H,I.tok _,⟨_,rfl⟩,q⟩
def rO:vP X (unaryOp .USub) (rU fun i=>.int (-i)):=xz fun _ _ _ _ _ q=>neg_int q
end
noncomputable def uz:V->V->Bool
 | .non,.non=>true | .non,.int _=>true | .int _,.non=>true | .non,.bl _=>true | .bl _,.non=>true | .non,.str _=>true | .str _,.non=>true
 | .int _,.int _=>true | .bl _,.bl _=>true | .str _,.str _=>true | .Aw _,.Aw _=>true
 | .int _,.str _=>true | .str _,.int _=>true | .bl _,.str _=>true | .str _,.bl _=>true
 |_,_=>false
def xA:R2:=fun x y H Q=>uz x y=true/\Q (.bl (decide (x=y))) H
def xB:R2:=fun x y H Q=>uz x y=true/\Q (.bl (!decide (x=y))) H
def lj{i j:Int}:decide (V.int i=V.int j)=(i == j):=by
 rw[GW]
 simp
def mO{i j:Bool}:decide (V.bl i=V.bl j)=(i == j):=by
 rw[GW]
 simp
def ll{i j:Str}:decide (V.str i=V.str j)=(i == j):=by
 rw[GW]
 simp
def lm{i j:Array UInt8}:decide (V.Aw i=V.Aw j)=(i.toList == j.toList):=by
 rw[GW]
 cases i
 cases j
 simp
section
variable {X:Cx} {a b c:Expr} {ta tb tc:TE} {pos:Pos}
def aC{pins:Va}{σ:St}{H:Hp}{s:Shared}{Q:VK}{k k':Bool}(I:Inv X pins σ H s)(q:Q (.bl k) H)(e:k=k'):EP X pins σ Q (.bool k') s:=by
 subst e
 exact⟨.bl k,H,I,rfl,q⟩
def mP:fM X (compareOp .Eq) xA:=by
 intro pins s σ H x y v u Q I rx ry h
 obtain⟨hs,q⟩:=h
 cases x with
 |non=>
  cases rx
  cases y with
  |non=>cases ry;exact PySem.EqNone.eq_none_none (aC I q (by simp))
  |bl j=>cases ry;exact PySem.EqNone.eq_none_bool (aC I q (by simp))
  |int j=>obtain⟨t',rfl⟩:=ry;exact PySem.EqNone.eq_none_int (aC I q (by simp))
  |str j=>obtain⟨t',rfl⟩:=ry;exact PySem.EqNone.eq_none_str (aC I q (by simp))
  |_=>exact absurd (show false=true from hs) Ff
 |bl i=>
  cases rx
  cases y with
  |non=>cases ry;exact PySem.EqNone.eq_bool_none (aC I q (by simp))
  |bl j=>cases ry;exact eq_bool (aC I q mO)
  |str j=>obtain⟨t',rfl⟩:=ry;exact PySem.EqMixed.eq_bool_str (aC I q (by simp))
  |_=>exact absurd (show false=true from hs) Ff
 |int i=>
  obtain⟨t,rfl⟩:=rx
  cases y with
  |non=>cases ry;exact PySem.EqNone.eq_int_none (aC I q (by simp))
  |int j=>obtain⟨t',rfl⟩:=ry;exact eq_int (aC I q lj)
  |str j=>obtain⟨t',rfl⟩:=ry;exact PySem.EqMixed.eq_int_str (aC I q (by simp))
  |_=>exact absurd (show false=true from hs) Ff
 |str i=>
  obtain⟨t,rfl⟩:=rx
  cases y with
  |non=>cases ry;exact PySem.EqNone.eq_str_none (aC I q (by simp))
  |bl j=>cases ry;exact PySem.EqMixed.eq_str_bool (aC I q (by simp))
  |int j=>obtain⟨t',rfl⟩:=ry;exact PySem.EqMixed.eq_str_int (aC I q (by simp))
  |str j=>obtain⟨t',rfl⟩:=ry;exact eq_str (aC I q ll)
  |_=>exact absurd (show false=true from hs) Ff
 |Aw i=>
  obtain⟨t,rfl⟩:=rx
  cases y with
  |Aw j=>obtain⟨t',rfl⟩:=ry;exact PySem.W.eq_bytes (aC I q lm)
  |_=>exact absurd (show false=true from hs) Ff
 |_=>cases y<;>exact absurd (show false=true from hs) Ff
def mQ:fM X (compareOp .NotEq) xB:=by
 intro pins s σ H x y v u Q I rx ry h
 obtain⟨hs,q⟩:=h
 cases x with
 |non=>
  cases rx
  cases y with
  |non=>cases ry;exact PySem.EqNone.ne_none_none (aC I q (by simp))
  |bl j=>cases ry;exact PySem.EqNone.ne_none_bool (aC I q (by simp))
  |int j=>obtain⟨t',rfl⟩:=ry;exact PySem.EqNone.ne_none_int (aC I q (by simp))
  |str j=>obtain⟨t',rfl⟩:=ry;exact PySem.EqNone.ne_none_str (aC I q (by simp))
  |_=>exact absurd (show false=true from hs) Ff
 |bl i=>
  cases rx
  cases y with
  |non=>cases ry;exact PySem.EqNone.ne_bool_none (aC I q (by simp))
  |bl j=>cases ry;exact ne_bool (aC I q (FI not mO))
  |str j=>obtain⟨t',rfl⟩:=ry;exact PySem.EqMixed.ne_bool_str (aC I q (by simp))
  |_=>exact absurd (show false=true from hs) Ff
 |int i=>
  obtain⟨t,rfl⟩:=rx
  cases y with
  |non=>cases ry;exact PySem.EqNone.ne_int_none (aC I q (by simp))
  |int j=>obtain⟨t',rfl⟩:=ry;exact ne_int (aC I q (FI not lj))
  |str j=>obtain⟨t',rfl⟩:=ry;exact PySem.EqMixed.ne_int_str (aC I q (by simp))
  |_=>exact absurd (show false=true from hs) Ff
 |str i=>
  obtain⟨t,rfl⟩:=rx
  cases y with
  |non=>cases ry;exact PySem.EqNone.ne_str_none (aC I q (by simp))
  |bl j=>cases ry;exact PySem.EqMixed.ne_str_bool (aC I q (by simp))
  |int j=>obtain⟨t',rfl⟩:=ry;exact PySem.EqMixed.ne_str_int (aC I q (by simp))
  |str j=>obtain⟨t',rfl⟩:=ry;exact ne_str (aC I q (FI not ll))
  |_=>exact absurd (show false=true from hs) Ff
 |Aw i=>
  obtain⟨t,rfl⟩:=rx
  cases y with
  |Aw j=>obtain⟨t',rfl⟩:=ry;exact PySem.W.ne_bytes (aC I q (FI not lm))
  |_=>exact absurd (show false=true from hs) Ff
 |_=>cases y<;>exact absurd (show false=true from hs) Ff
def uA:fM X (compareOp .Lt) (o8 fun i j=>.bl (decide (i < j))):=rJ fun _ _ _ _ _ _ _ q=>lt_int q
def uB:fM X (compareOp .Gt) (o8 fun i j=>.bl (decide (j < i))):=rJ fun _ _ _ _ _ _ _ q=>gt_int q
def uC:fM X (compareOp .GtE) (o8 fun i j=>.bl (decide (j<=i))):=rJ fun _ _ _ _ _ _ _ q=>ge_int q
def lR:fM X (compareOp .In) (fun x y H Q=>∃i j,x = .str i/\y = .str j/\Q (.bl (!(Builtin.Str.occurrences j i 0 j.length 1).isEmpty)) H):=by
 intro pins s σ H x y v u Q I rx ry h
 obtain⟨i,j,rfl,rfl,q⟩:=h
 obtain⟨t,rfl⟩:=rx
 obtain⟨t',rfl⟩:=ry
 exact in_str (aC I q rfl)
def br(b:Expr){op:CmpOp}(h:op ≠ .In:=by decide)(h2:op ≠ .NotIn:=by decide):behindInMarks op b=false:=by
 have e1:(op == CmpOp.In)=false:=by cases op<;>first|rfl|exact absurd rfl h
 have e2:(op == CmpOp.NotIn)=false:=by cases op<;>first|rfl|exact absurd rfl h2
 cases b<;>simp[behindInMarks,e1,e2]
def o_{op:CmpOp}{r:R2}(ho:fM X (compareOp op) r)(ha:PE X a ta)(hb:PE X b tb)(hm:behindInMarks op b=false):PE X (.Compare a [op] [b] pos) (uu r ta tb):=by
 intro pins s σ H Q I h
 exact wpAny_Compare1 (rH ha hb I h fun v u s2 x y H2 I2 rx ry q=>ho pins s2 σ H2 x y v u Q I2 rx ry q) hm
def uD(t:TE):TT:=fun σ H Q=>t σ H fun x H'=>∃k,x = .bl k/\Q k H'
def pd{op:CmpOp}{r:R2}(ho:fM X (compareOp op) r)(ha:PE X a ta)(hb:PE X b tb)(hm:behindInMarks op b=false):PT X (.Compare a [op] [b] pos) (uD (uu r ta tb)):=by
 intro pins s σ H Q I h
 refine wpAny_isTrue_Compare1 (xZ (ha pins s σ H _ I h) fun v s1 ⟨x,H1,I1,r1,q1⟩=>xZ (hb pins s1 σ H1 _ I1 q1) fun u s2 ⟨y,H2,I2,r2,q2⟩=>
  xZ (ho pins s2 σ H2 x y v u _ I2 r1 r2 q2) fun c s3 ⟨z,H3,I3,r3,k,e,q3⟩=>?_) hm
 subst e
 cases r3
 exact wpAny_truthy_bool ⟨H3,I3,q3⟩
def ft:(sizeLine:Nat) < 2 ^ 63:=by rw[sizeLine_eq];decide
def kE:fM X (binaryOp .Add) (fun x y H Q=>∃i j,x = .str i/\y = .str j/\i.length+j.length<=sizeLine/\Q (.str (i++j)) H):=by
 intro pins s σ H x y v u Q I rx ry h
 obtain⟨i,j,rfl,rfl,hz,q⟩:=h
 obtain⟨t,rfl⟩:=rx
 obtain⟨t',rfl⟩:=ry
 exact add_str (fun t' tk=>⟨.str (i++j),H,I.tok _,⟨_,rfl⟩,q⟩) hz
def fN{x:V}{us:Vv}(r:Vals [x] us):∃u,us=[u]/\RelV x u:=by
 cases r with
 |cons r1 r2=>cases r2;exact⟨_,rfl,r1⟩
def qI{x y:V}{us:Vv}(r:Vals [x,y] us):∃u w',us=[u,w']/\RelV x u/\RelV y w':=by
 cases r with
 |cons r1 r2=>
  cases r2 with
  |cons r3 r4=>cases r4;exact⟨_,_,rfl,r1,r3⟩
def lS(hc:X.calm=true):d_ X (.builtin "max") (fun xs H Q=>∃i j,xs=[.int i,.int j]/\Q (.int (if j > i then j else i)) H):=by
 intro pins s σ H xs us Q I r h
 obtain⟨i,j,rfl,q⟩:=h
 obtain⟨u,w',rfl,⟨t,rfl⟩,⟨t',rfl⟩⟩:=qI r
 refine max_two_ints (I.ok.hd hc) fun h' tk k=>⟨_,H,I.kept k,?_,q⟩
 by_cases hj:j > i
 ·rw[if_pos hj,if_pos hj];exact⟨_,rfl⟩
 ·rw[if_neg hj,if_neg hj];exact⟨_,rfl⟩
end
def RelO.some_of{v:V}{o:Option Value}(r:RelO (some v) o):∃u,o=some u/\RelV v u:=by
 cases o with
 |none=>exact(show False from r).elim
 |some u=>exact⟨u,rfl,r⟩
structure Room (k:Nat) (A:Around):Prop where
 hd:A.handled=none
 dp:A.depth+3 * k+5 < recursionLimit
 un:A.units+16 * k+200 < cLine
 gd:A.guards=some []
def Room.mono{j k:Nat}{A:Around}(r:Room k A)(h:j<=k):Room j A:=⟨r.hd,by have:=r.dp;omega,by have:=r.un;omega,r.gd⟩
theorem Room.deeper{k:Nat}{A:Around}(r:Room (k+1) A)(env:Env):Room k (A.deeper env):=
 ⟨r.hd,by have:=r.dp;show A.depth+1+3 * k+5 < _;omega,by have:=r.un;show A.units+3+16 * k+200 < _;omega,r.gd⟩
theorem Room.depth{k:Nat}{A:Around}(r:Room k A):A.depth < recursionLimit:=by have:=r.dp;omega
def uE:TA:=fun _ H Q=>Q [] H
def qJ(ta:TE)(tr:TA):TA:=fun σ H Q=>ta σ H fun x H1=>tr σ H1 fun xs H2=>Q (x::xs) H2
section
variable {X:Cx} {e:Expr} {es:List Expr} {te:TE} {t:TA} {pos:Pos}
def rP:PA X [] uE:=fun _ _ _ _ H Q I h=>GK ⟨[],H,I,.nil,h⟩
def pe(ha:PE X e te)(hr:PA X es t)(hs:starEach (e::es) X.env=(false,eval e X.env)::starEach es X.env:=by rfl):PA X (e::es) (qJ te t):=by
 intro pos pins s σ H Q I h
 rw[hs]
 show wpAny _ _ (spliced ((false,eval e X.env)::backTo pos (starEach es X.env))) _ _ s
 refine Gr (xZ (ha pins s σ H _ I h) fun u s1 ⟨x,H1,I1,r1,q1⟩=>?_)
 exact xZ (hr pos pins s1 σ H1 _ I1 q1) fun us s2 ⟨xs,H2,I2,r2,q2⟩=>⟨x::xs,H2,I2,.cons r1 r2,q2⟩
def wm(t:TA):TE:=fun σ H Q=>t σ H fun xs H1=>xs.length<=sizeLine/\∀p,H1 p=none->Q (.ref p) (upd H1 p (.tup xs))
def wn(t:TA):TE:=fun σ H Q=>t σ H fun xs H1=>xs.length<=sizeLine/\∀p,H1 p=none->Q (.ref p) (upd H1 p (.lst xs))
def rQ{x1}(h:PA X es t):PE X (.Tuple es x1 pos) (wm t):=by
 intro pins s σ H Q I hq
 refine wpAny_Tuple_spliced (xZ (h pos pins s σ H _ I hq) fun us s1 ⟨xs,H1,I1,r,z,q⟩=>⟨by rw[<-r.length];exact z,?_⟩)
 have hf:H1 s1.heap.objs.size=none:=I1.hok.fresh (E1 _)
 refine⟨.ref s1.heap.objs.size,upd H1 s1.heap.objs.size (.tup xs),I1.laid (t':=s1.toks) (fun b u e=>EY _ e) (E1 _) ?_,rfl,q _ hf⟩
 exact⟨z,us,r,⟨_,E8 _ rfl,rfl,rfl,_,rfl⟩⟩
def rR(h:PA X es t):PE X (.List es pos) (wn t):=by
 intro pins s σ H Q I hq
 refine wpAny_List_spliced (xZ (h pos pins s σ H _ I hq) fun us s1 ⟨xs,H1,I1,r,z,q⟩=>⟨by rw[<-r.length];exact z,?_⟩)
 have hf:H1 s1.heap.objs.size=none:=I1.hok.fresh (E1 _)
 refine⟨.ref s1.heap.objs.size,upd H1 s1.heap.objs.size (.lst xs),I1.laid (t':=s1.toks) (fun b u e=>EY _ e) (E1 _) ?_,rfl,q _ hf⟩
 exact⟨z,us,0,r,E8 _ rfl⟩
end
abbrev Sp:=List V->Hp->VK->XK->Prop
abbrev kr:=List Env->Hp->Shared->XK->Value->Shared->Prop
structure lT (P:Program) (w:World) (K:Vo) (mg:Vr) (base:Heap) (A:Around) (outer:List Env) (s:Shared) (H:Hp):Prop where
 frames:A.frames=some outer
 mod:Mod K mg base
 bs:∀b o,base.get? b=some o->s.heap.get? b=some o/\H b=none
 Ax:base.objs.size<=s.heap.objs.size
 zj:s.heap.FunFrames base outer
 AR:∀b∈frs outer,H b=none
 hok:yZ P w H s.heap
 bare:AllBare s.gens
def CE(outer:List Env)(P:Program)(w:World)(H:Hp)(s:Shared)(Q:VK)(u:Value)(s':Shared):Prop:=
 ∃v H',s'.os=s.os/\AllBare s'.gens/\Un (frs outer) [] H H' s.heap s'.heap/\yZ P w H' s'.heap/\RelV v u/\Q v H'
def CR(CX:kr)(outer:List Env)(P:Program)(w:World)(H:Hp)(s:Shared)(Q:VK)(E:XK)(r:Result)(s':Shared):Prop:=
 match r with
 | .ok (.ret u)=>CE outer P w H s Q u s'
 | .ok _=>False
 | .error e=>CX outer H s E e s'
structure ig (P:Program) (w:World) (K:Vo) (mg:Vr) (base:Heap) (CX:kr) (k:Nat) (f:Addr) (fd:FuncData) (ps:Vs) (sp:Sp):Prop where
 len:∀vs H Q E,sp vs H Q E->vs.length=ps.length
 run:∀(A:Around) (outer:List Env) (s:Shared) (H:Hp) (args:Args) (us:Vv) (vs:List V) (Q:VK) (E:XK),Room k A->lT P w K mg base A outer s H->BindsTo s fd args (ps.zip us)->Vals vs us->sp vs H Q E->
  codeAny (model P w) A (.call (.ref f) args) (CR CX outer P w H s Q E) s
section
variable {X:Cx} {pins:Va} {σ:St} {H:Hp} {s s':Shared}
def Inv.BI(I:Inv X pins σ H s):lT X.prog X.w X.K X.mg X.base X.A X.stack s H:=
 ⟨I.ok.frames,I.ok.mod,I.bs,Fc I.ok.Ax I.sz,I.stack,I.Ah,I.hok,I.bare⟩
def Inv.after{Q:VK}{u:Value}(I:Inv X pins σ H s)(h:CE X.stack X.prog X.w H s Q u s'):EP X pins σ Q u s':=by
 obtain⟨v,H',os,bare,un,hok,r,q⟩:=h
 obtain⟨hh,g,d,t,os'⟩:=s'
 obtain rfl:os'=s.os:=os
 exact⟨v,H',I.call (h':=hh) (g':=g) (d':=d) (t':=t) (ch:=[]) un hok bare (fun b z=>absurd z (by simp)),r,q⟩
end
def uF(sp:Sp)(dvs:List V)(E:XK)(t:TA):TE:=fun σ H Q=>t σ H fun vs H1=>sp (vs++dvs) H1 Q E
def Binds(K:Vo)(fd:FuncData)(ps:Vs)(ds:Vv):Prop:=
 ∀(s:Shared) (us:Vv),K.In s.heap->(us++ds).length=ps.length->BindsTo s fd ⟨us,[]⟩ (ps.zip (us++ds))
def Binds.all{K:Vo}{fd:FuncData}{ps:Vs}(h:∀us:List Value,us.length=ps.length->bindArgs fd ⟨us,[]⟩=pure (ps.zip us)):Binds K fd ps []:=fun s us _ hl=>by
 rw[Gv]at hl ⊢
 exact .of_eq (h us hl)
def i6(CX:kr)(X:Cx)(E:XK):Prop:=∀(pins:Va) (σ:St) (H:Hp) (s:Shared) (e:Value) (s':Shared),Inv X pins σ H s->CX X.stack H s E e s'->X.xe e s'
section
variable {X:Cx} {CX:kr} {k:Nat} {f C:Addr} {fd:FuncData} {ps:Vs} {sp:Sp} {dvs:List V} {ds:Vv} {E:XK} {x m:Str} {p pos apos:Pos} {e o:Expr} {es:List Expr} {ta:TE} {t:TA}
def rT{pins:Va}{σ:St}{H:Hp}{s:Shared}{Q:VK}{us:Vv}{vs:List V}(F:ig X.prog X.w X.K X.mg X.base CX k f fd ps sp)(hr:Room k X.A)(hb:Binds X.K fd ps ds)(hd:Vals dvs ds)(hx:i6 CX X E)
  (I:Inv X pins σ H s) (r:Vals vs us) (h:sp (vs++dvs) H Q E):wpAny (model X.prog X.w) X.A (call (.ref f) us) (EP X pins σ Q) X.xe s:=by
 have r2:Vals (vs++dvs) (us++ds):=r.append hd
 have hl:(us++ds).length=ps.length:=by rw[<-r2.length];exact F.len _ _ _ _ h
 refine wpAny_call (codeAny_mono (F.run X.A X.stack s H ⟨us,[]⟩ (us++ds) (vs++dvs) Q E hr I.BI (hb s us I.AM hl) r2 h) fun r s' hq=>?_)
 cases r with
 |error e=>exact hx pins σ H s e s' I hq
 |ok fl=>
  cases fl with
  |ret u=>exact I.after hq
  |next=>exact False.elim hq
  |brk=>exact False.elim hq
  |cont=>exact False.elim hq
def pf(F:ig X.prog X.w X.K X.mg X.base CX k f fd ps sp)(hr:Room k X.A)(hg:Gl X x)(hm:X.mg x=some (.ref f))(hk:PySem.W.keepIn X.K (.ref f)=true)(hb:Binds X.K fd ps ds)(hd:Vals dvs ds)(hx:i6 CX X E)
  (ha:PA X (e::es) t) (hdb:(x == ("__debug__":Str))=false:=by decide) (he:starEach (e::es) X.env=(false,eval e X.env)::starEach es X.env:=by rfl) (hpl:(backTo pos (starEach es X.env)).any (·.1)=false:=by rfl) :
  PE X (.Call (.Name x p) (e::es) [] pos) (uF sp dvs E t):=by
 intro pins s σ H Q I h
 refine F0 (lh I hg hm ?_ hdb)
 refine PySem.W.callWith_K (h₀:=X.base) I.ok.mod.Bf hk (xZ (ha pos pins s σ H _ I h) fun us s1 ⟨vs,H1,I1,r,q⟩=>⟨I1.AM,?_⟩) he hpl
 exact rT F hr hb hd hx I1 r q
end
structure cg (N P:Vs) (sc:Scope):Prop where
 kind:sc.kind = .function
 co:sc.isCoroutine=false
 gen:sc.isGenerator=false
 nd:N.Nodup
 pre:N.take P.length=P
 par:∀x∈P,sc.names.lookup x=some .local\/sc.names.lookup x=some .cell
 Bh:∀y∈sc.names,y.2 ≠ .free
theorem iA{kindOf:Str->Option NameKind}{x:Str}:∀{binds:List (Str×Value)} {m:Vr},(∀v,(x,v) ∉ binds)->bindL kindOf binds m x=m x
 |[],_,_=>rfl
 |(n,v)::r,m,h=>by
  unfold bindL
  rw[iA fun w hw=>h w (FL _ hw)]
  split
  ·have:x≠n:=by rintro rfl;exact h v FZ
   simp[this]
  ·rfl
theorem iB{kindOf:Str->Option NameKind}{x:Str}:∀{binds:List (Str×Value)} {m:Vr},(∀v,(x,v) ∉ binds)->bindC kindOf binds m x=m x
 |[],_,_=>rfl
 |(n,v)::r,m,h=>by
  unfold bindC
  rw[iB fun w hw=>h w (FL _ hw)]
  split
  ·rfl
  ·have:x≠n:=by rintro rfl;exact h v FZ
   simp[this]
theorem iC{kindOf:Str->Option NameKind}{x:Str}{v:Value}:∀{P:Vs} {vs:Vv} {i:Nat} {m:Vr},P.Nodup->P[i]?=some x->vs[i]?=some v->kindOf x=some .local->
  bindL kindOf (P.zip vs) m x=some v
 |[],_,_,_,_,h,_,_=>by simp at h
 |_::_,[],_,_,_,_,h,_=>by simp at h
 |p::P,w::vs,0,m,nd,h1,h2,hk=>by
  simp at h1 h2;subst h1;subst h2
  show bindL kindOf ((p,w)::P.zip vs) m p=_
  unfold bindL
  rw[iA fun v hv=>(FF.mp nd).1 (F9 hv).1,if_pos hk]
  simp
 |p::P,w::vs,i+1,m,nd,h1,h2,hk=>by
  show bindL kindOf ((p,w)::P.zip vs) m x=_
  unfold bindL
  exact iC (i:=i) (FF.mp nd).2 (by simpa using h1) (by simpa using h2) hk
theorem iD{kindOf:Str->Option NameKind}{x:Str}{v:Value}:∀{P:Vs} {vs:Vv} {i:Nat} {m:Vr},P.Nodup->P[i]?=some x->vs[i]?=some v->kindOf x≠some .local->
  bindC kindOf (P.zip vs) m x=some v
 |[],_,_,_,_,h,_,_=>by simp at h
 |_::_,[],_,_,_,_,h,_=>by simp at h
 |p::P,w::vs,0,m,nd,h1,h2,hk=>by
  simp at h1 h2;subst h1;subst h2
  show bindC kindOf ((p,w)::P.zip vs) m p=_
  unfold bindC
  rw[iB fun v hv=>(FF.mp nd).1 (F9 hv).1,if_neg hk]
  simp
 |p::P,w::vs,i+1,m,nd,h1,h2,hk=>by
  show bindC kindOf ((p,w)::P.zip vs) m x=_
  unfold bindC
  exact iD (i:=i) (FF.mp nd).2 (by simpa using h1) (by simpa using h2) hk
noncomputable def bn(N:Vs)(vs:List V):St:=vs.map some++List.replicate (N.length - vs.length) none
noncomputable def i7(CX:kr)(P:Program)(w:World)(K:Vo)(mg:Vr)(base:Heap)(N:Vs)(qual:Str)(scope:Scope)(f:Addr)(cd:Value)(A:Around)(outer:List Env)(s:Shared)(H:Hp)(E:XK):Cx where
 prog:=P
 w:=w
 K:=K
 mg:=mg
 base:=base
 A:=A.deeper (envOfC qual scope s.heap.objs.size f cd)
 N:=N
 s₀:=s
 H₀:=H
 env:=envOfC qual scope s.heap.objs.size f cd
 outer:=outer
 stack:=envOfC qual scope s.heap.objs.size f cd::outer
 ex:=[]
 calm:=true
 fn:=fun _=>true
 pn:=[]
 xe:=fun e s'=>wpAny (model P w) (A.deeper (envOfC qual scope s.heap.objs.size f cd)) (leaving (envOfC qual scope s.heap.objs.size f cd) e) (fun _ s''=>CX outer H s E e s'') (fun e' s''=>CX outer H s E e' s'') s'
def jL{sc:Scope}{n:Nat}{x:Str}(h:sc.names.lookup x=some .cell):∃c,(cellsFrom n sc.names []).lookup x=some c:=by
 have q:=G2 sc.names n [] (.inl h)
 exact Option.isSome_iff_exists.mp q
def iE{CX:kr}{P:Program}{w:World}{K:Vo}{mg:Vr}{base:Heap}{N ps:Vs}{qual:Str}{scope:Scope}{f:Addr}{cd:Value}{A:Around}{outer:List Env}{s s1:Shared}{H:Hp}{E:XK}{us:Vv}{vs:List V}
  (S:cg N ps scope) (hd:A.handled=none) (e0:lT P w K mg base A outer s H) (hl:vs.length=ps.length) (r:Vals vs us)
  (x:InCallC s s.heap.objs.size (bindL (envOfC qual scope s.heap.objs.size f cd).kindOf (ps.zip us) fun _=>none) (cellsFrom (s.heap.objs.size+1) scope.names []) (bindC (envOfC qual scope s.heap.objs.size f cd).kindOf (ps.zip us) fun _=>none) s1) :
  Inv (i7 CX P w K mg base N qual scope f cd A outer s H E) [] (bn N vs) H s1:=by
 have hpl:ps.length<=N.length:=by have:=FI List.length S.pre;rw[FD]at this;omega
 obtain⟨h1,tk,rfl,hk⟩:=x.done
 have AU:∀b:Addr,b ∉ (i7 CX P w K mg base N qual scope f cd A outer s H E).ex:=fun b z=>absurd (show b∈([]:List Addr)from z) (by simp)
 refine⟨⟨e0.mod,S.kind,rfl,rfl,E1 _,fun y z c h1 h2=>?_,fun y hy=>?_,fun y c _ h=>?_,fun _=>hd,Around.frames_deeper e0.frames,.inr ⟨rfl,rfl⟩,fun b z=>absurd z (AU b),e0.bs,e0.Ax,fun b _ _=>AU b,fun b z=>absurd z (AU b),e0.zj,e0.AR⟩,
  rfl,e0.bare,Un.kept hk,⟨_,x.toInCall.ns,fun i y v h1 h2 h3=>?_⟩,fun y c h=>⟨_,x.cell y c h⟩,e0.hok.fresh (E1 _),fun y c h=>?_,fun p hp=>absurd (show p∈([]:Va)from hp) (by simp),e0.hok.kept hk,?_⟩
 ·exact name_of_addr x.apart (FU h1) (FU h2)
 ·have hy:scope.names.lookup y=some .cell\/scope.names.lookup y=some .free:=hy
  rcases hy with hy|hy
  ·exact jL hy
  ·exact absurd rfl (S.Bh _ (FU hy))
 ·exact GP (x.above y c (FU h))
 ·have hi:i < vs.length:=by
   unfold bn at h2
   by_cases hi:i < vs.length
   ·exact hi
   ·rw[Fq (by simpa using hi)]at h2
    rw[F2]at h2
    split at h2<;>cases h2
  have ha:vs[i]?=some v:=by
   unfold bn at h2
   rw[Fp (by simpa using hi),Fv]at h2
   cases e:vs[i]? with
   |none=>rw[e]at h2;cases h2
   |some a=>rw[e]at h2;cases h2;rfl
  obtain⟨u,hu,rv⟩:=r.get ha
  have hp:ps[i]?=some y:=by
   rw[<-S.pre,List.getElem?_take_of_lt (by omega)];exact h1
  have B6:ps.Nodup:=by rw[<-S.pre];exact S.nd.sublist (G3 _ _)
  refine⟨u,rv,?_⟩
  rcases S.par y (GN hp)with k|k
  ·exact .inl ⟨k,iC B6 hp hu k⟩
  ·obtain⟨c,e⟩:=jL (n:=s.heap.objs.size+1) k
   refine .inr ⟨.inl k,c,e,?_⟩
   have q:=x.cell y c e
   rw[iD B6 hp hu (by show scope.names.lookup y≠_;rw[k];decide)]at q
   exact q
 ·exact .inl (e0.hok.fresh (GP (x.above y c (FU h))))
 ·unfold bn
  show _=N.length
  rw[E6,E5,FH]
  omega
def uG{CX:kr}{P:Program}{w:World}{K:Vo}{mg:Vr}{base:Heap}{k:Nat}{f:Addr}{name qual:Str}{params:Arguments}{body:List Stmt}{scope:Scope}{dV kV doc pm cdv ct oc:Value}{an od:Option Addr}
  {osl:Array (Option Value)} {N ps:Vs} {sp:Sp} (lk:K.lookup f=some ⟨oc,od,.func (PySem.W.fnOf name qual params body scope dV kV doc pm an cdv ct),osl⟩) (hcd:PySem.W.codeIn K cdv qual=true) (S:cg N ps scope)
  (len:∀vs H Q E,sp vs H Q E->vs.length=ps.length)
  (hbody:∀(A:Around) (outer:List Env) (s:Shared) (H:Hp) (vs:List V) (Q:VK) (E:XK),Room k (A.deeper (envOfC qual scope s.heap.objs.size f cdv))->sp vs H Q E->
   ∃t,zY (i7 CX P w K mg base N qual scope f cdv A outer s H E) body t/\t { nx:=fun _ H'=>Q .non H',rt:=Q } (bn N vs) H) :
  ig P w K mg base CX (k+1) f (PySem.W.fnOf name qual params body scope dV kV doc pm an cdv ct) ps sp:=by
 refine⟨len,fun A outer s H args us vs Q E hr e0 hb r Ai=>?_⟩
 have hl:=len _ _ _ _ Ai
 have KX:K.In s.heap:=e0.mod.Bf.keeps fun b o e=>(e0.bs b o e).1
 have lim:s.heap.NoLimit:=e0.mod.nolimit.keeps fun b o e=>(e0.bs b o e).1
 have hkind:∀y∈ps.zip us,scope.names.lookup y.1=some .local\/(scope.names.lookup y.1=some .cell/\((cellsFrom (s.heap.objs.size+1) scope.names []).lookup y.1).isSome=true):=fun⟨n,v⟩ hy=>by
  rcases S.par n (F9 hy).1 with q|q
  ·exact .inl q
  ·exact .inr ⟨q,G2 _ _ _ (.inl q)⟩
 refine codeAny_call_function hr.depth (KX _ _ lk) rfl S.co S.gen rfl (PySem.W.codeRec_of KX hcd) (hb _ _ _ _ ?_)
 refine wpAny_newFunctionEnv_cells S.kind hkind fun env he s1 x=>?_
 subst he
 refine⟨lim.keeps x.toInCall.keep,codeAny_func ?_⟩
 obtain⟨t,ht,hq⟩:=hbody A outer s H vs Q E (hr.deeper _) Ai
 have I:Inv (i7 CX P w K mg base N qual scope f cdv A outer s H E) [] (bn N vs) H s1:=iE S hr.hd e0 hl r x
 refine Gi (ht [] s1 (bn N vs) H _ I hq) (fun fl s' hs=>?_) fun e s' hs=>hs
 have fin:∀{σ':St} {H':Hp} {v:V} {u:Value},Inv (i7 CX P w K mg base N qual scope f cdv A outer s H E) [] σ' H' s'->RelV v u->Q v H'->CE outer P w H s Q u s':=
  fun{σ' H' v u} J rv q=>⟨v,H',J.os,J.bare,J.base,J.hok,rv,q⟩
 cases fl with
 |ret u=>
  obtain⟨v,σ',H',J,rv,q⟩:=hs
  exact fin J rv q
 |next=>
  obtain⟨σ',H',J,q⟩:=hs
  exact fin (v:=V.non) (u:=Value.none) J rfl q
 |brk=>
  obtain⟨_,_,_,q⟩:=hs
  exact False.elim q
 |cont=>
  obtain⟨_,_,_,q⟩:=hs
  exact False.elim q
section
variable {X:Cx} {x:Str} {p pos:Pos} {e:Expr} {es:List Expr} {t:TA} {id T:String} {r:List V->Hp->VK->Prop}
def xa(r:List V->Hp->VK->Prop)(t:TA):TE:=fun σ H Q=>t σ H fun vs H1=>r vs H1 Q
def mR(hc:d_ X (.builtin id) r)(hg:Gl X x)(hm:X.mg x=none)(hv:bootBuiltins x=some (.builtin id))(ha:PA X (e::es) t)(hn:x ≠ "__name__":=by decide)(hdb:(x == ("__debug__":Str))=false:=by decide)
  (he:starEach (e::es) X.env=(false,eval e X.env)::starEach es X.env:=by rfl) (hpl:(backTo pos (starEach es X.env)).any (·.1)=false:=by rfl):PE X (.Call (.Name x p) (e::es) [] pos) (xa r t):=by
 intro pins s σ H Q I h
 refine F0 (dn I hg hm hv ?_ hn hdb)
 exact PyProof.Rows.callWith_builtin1 (xZ (ha pos pins s σ H _ I h) fun us s1 ⟨vs,H1,I1,r1,q1⟩=>hc pins s1 σ H1 vs us Q I1 r1 q1) he hpl
def lU(hc:d_ X (.type T) r)(hg:Gl X x)(hm:X.mg x=none)(hv:bootBuiltins x=some (.type T))(ha:PA X (e::es) t)(hn:x ≠ "__name__":=by decide)(hdb:(x == ("__debug__":Str))=false:=by decide)
  (he:starEach (e::es) X.env=(false,eval e X.env)::starEach es X.env:=by rfl) (hpl:(backTo pos (starEach es X.env)).any (·.1)=false:=by rfl):PE X (.Call (.Name x p) (e::es) [] pos) (xa r t):=by
 intro pins s σ H Q I h
 refine F0 (dn I hg hm hv ?_ hn hdb)
 exact FJ (xZ (ha pos pins s σ H _ I h) fun us s1 ⟨vs,H1,I1,r1,q1⟩=>hc pins s1 σ H1 vs us Q I1 r1 q1) he hpl
end
end L2
namespace HT
open PySem PyProof.Rows
section
open PySem.SeqAt
open PySem.AutoSeq1 (wpAny_loadPart')
open PySem.MeetsSeq PySem.MeetsSeq2 PySem.MeetsSeq3
end
section
variable {prog:Program} {w:World} {A:Around} {E:Vq} {s:Shared}
def pg{t b:Addr}{vs ws:Vv}{Q:Vq}(ht:IsTup s.heap t vs.toArray)(hb:IsTup s.heap b ws.toArray)(hv:vs≠[])
  (h1:ws=[]->Q (.ref t) s) (h2:ws≠[]->Q (.ref s.heap.objs.size) { s with heap:=s.heap.push { cls:=.type "tuple",data:=.seq (vs++ws).toArray } })
  (hsz:vs.length+ws.length<=sizeLine):wpAny (model prog w) A (binaryOp .Add (.ref t) (.ref b)) Q E s:=by
 obtain⟨⟨cls,dd,data,sl⟩,ho,hc,n,hd⟩:=id ht
 obtain⟨⟨Co,dd2,data2,sl2⟩,ho2,hc2,n2,hd2⟩:=id hb
 simp only at hc hd hc2 hd2
 subst hc hd hc2 hd2
 have e:vs.toArray++ws.toArray=(vs++ws).toArray:=by simp
 by_cases hw:ws=[]
 ·exact concat_meets ⟨_,ho,rfl⟩ ⟨_,ho2,rfl⟩ noFill_tuple_add seq_tuple_add G4 GZ (GS _ _)
   (tuple_addW1 t b vs.toArray ws.toArray n n2 dd dd2 sl sl2 (by simpa using hv) (by simp[hw])) ⟨ho,ho2,h1 hw⟩
 ·refine concat_meets ⟨_,ho,rfl⟩ ⟨_,ho2,rfl⟩ noFill_tuple_add seq_tuple_add G4 GZ (GS _ _)
   (tuple_addW2 t b vs.toArray ws.toArray n n2 dd dd2 sl sl2 (by simpa using hv) (by simpa using hw) (by rw[EZ,EZ];exact hsz)) ⟨ho,ho2,?_⟩
  rw[e]
  exact h2 hw
noncomputable def yg(n d:Nat):Option Int->Nat
 |none=>d
 |some v=>if v < 0 then (v+(n:Int)).toNat else min v.toNat n
def jM(n d:Nat):yg n d none=d:=rfl
def gh(n d k:Nat):yg n d (some (k:Int))=min k n:=by
 show(if (k:Int) < 0 then ((k:Int)+(n:Int)).toNat else min (k:Int).toNat n)=min k n
 rw[if_neg (by omega),G5]
def rV(n d:Nat)(hd:d<=n)(o:Option Int):yg n d o<=n:=by
 cases o with
 |none=>exact hd
 |some v=>
  show(if v < 0 then (v+(n:Int)).toNat else min v.toNat n)<=n
  by_cases hv:v < 0
  ·rw[if_pos hv];omega
  ·rw[if_neg hv];exact Nat.min_le_right _ _
def lp(v:Int)(n d:Nat):(if v < 0 then max (v+(n:Int)) 0 else min v (n:Int))=((yg n d (some v):Nat):Int):=by
 show(if v < 0 then max (v+(n:Int)) 0 else min v (n:Int))=(((if v < 0 then (v+(n:Int)).toNat else min v.toNat n):Nat):Int)
 by_cases hv:v < 0
 ·simp only[if_pos hv];omega
 ·simp only[if_neg hv];omega
def kF(lo hi:Option Int)(n:Nat):Builtin.Slice.sliceAdjust lo hi 1 (n:Int)=(((yg n 0 lo:Nat):Int),((yg n n hi:Nat):Int)):=by
 have h1:¬((1:Int) < 0):=by omega
 unfold Builtin.Slice.sliceAdjust
 simp only[h1,GB]
 refine Prod.ext ?_ ?_
 ·cases lo with
  |none=>rfl
  |some v=>exact lp v n 0
 ·cases hi with
  |none=>rfl
  |some v=>exact lp v n n
def kG(i j:Nat):Builtin.Slice.slicePlaces (i:Int) (j:Int) 1=j - i:=by
 unfold Builtin.Slice.slicePlaces
 have h1:(1:Int) > 0:=by omega
 simp only[h1,G6,Int.ediv_one]
 split<;>omega
def gA{v:Value}{o:Option Int}{Q:Option Int->Shared->Prop}(p:IsPart v o)(h:Q o s):wpAny (model prog w) A (Builtin.Slice.slicePartIndex v) Q E s:=by
 cases p with
 |none=>exact slicePart_none h
 |int i t=>exact slicePart_int h
def cD{sl:Addr}{vl vu:Value}{lo hi:Option Int}{n:Nat}{Q:Int×Int×Nat->Shared->Prop}(hs:s.heap.IsSliceOf sl vl vu .none)(pl:IsPart vl lo)(pu:IsPart vu hi)
  (h:Q (((yg n 0 lo:Nat):Int),1,yg n n hi - yg n 0 lo) s):wpAny (model prog w) A (Builtin.Slice.sliceApplied (.ref sl) (pure (n:Int))) Q E s:=by
 obtain⟨os,hos,hcs,hds⟩:=id hs
 unfold Builtin.Slice.sliceApplied Builtin.Slice.sliceFields
 refine EX (EX (GG hos hds (x:=vl) rfl (EX (GG hos hds (x:=vu) rfl (EX (GG hos hds (x:=.none) rfl (E2 ?_)))))))
 refine EX (slicePart_none ?_)
 show wpAny _ _ (if ((1:Int) == 0)=true then _ else _) _ _ s
 rw[if_neg (by decide)]
 refine EX (gA pl (EX (gA pu (EX (E2 ?_)))))
 show wpAny _ _ (match Builtin.Slice.sliceAdjust lo hi 1 (n:Int)with|(lo,hi)=>pure (lo,(1:Int),Builtin.Slice.slicePlaces lo hi 1)) _ _ s
 rw[kF lo hi n]
 show wpAny _ _ (pure (((yg n 0 lo:Nat):Int),(1:Int),Builtin.Slice.slicePlaces ((yg n 0 lo:Nat):Int) ((yg n n hi:Nat):Int) 1)) _ _ s
 rw[kG]
 exact E2 h
def mS(xs:Vw)(i k:Nat):((List.range k).filterMap fun(m:Nat)=>xs[((i:Int)+(m:Int) * 1).toNat]?).toArray=((xs.toList.drop i).take k).toArray:=by
 have e:(fun(m:Nat)=>xs[((i:Int)+(m:Int) * 1).toNat]?)=fun m=>xs[i+m]?:=by
  funext m
  have:((i:Int)+(m:Int) * 1).toNat=i+m:=by omega
  rw[this]
 rw[e]
 have:=pick_run xs i k
 rw[List.filterMap_map]at this
 have e2:((fun x=>xs[x]?) ∘ fun x=>i+x)=fun m=>xs[i+m]?:=rfl
 rw[e2]at this
 rw[this]
def eO{t sl:Addr}{items:Vw}{vl vu:Value}{lo hi:Option Int}{Q:Vq}(ht:IsTup s.heap t items)(hs:s.heap.IsSliceOf sl vl vu .none)(pl:IsPart vl lo)(pu:IsPart vu hi)
  (hw:¬(yg items.size 0 lo=0/\yg items.size items.size hi=items.size))
  (h:Q (.ref s.heap.objs.size) { s with heap:=s.heap.push { cls:=.type "tuple",data:=.seq ((items.toList.drop (yg items.size 0 lo)).take (yg items.size items.size hi - yg items.size 0 lo)).toArray } })
  (hsz:items.size<=sizeLine):wpAny (model prog w) A (getItem (.ref t) (.ref sl)) Q E s:=by
 have Aj:sizeOk (.seq ((items.toList.drop (yg items.size 0 lo)).take (yg items.size items.size hi - yg items.size 0 lo)).toArray):=by
  show((items.toList.drop (yg items.size 0 lo)).take (yg items.size items.size hi - yg items.size 0 lo)).toArray.size<=sizeLine
  rw[EZ,FD,FE,HC]
  omega
 have hj:yg items.size items.size hi<=items.size:=rV _ _ (E1 _) hi
 obtain⟨os,hos,hcs,hds⟩:=id hs
 have Cp:s.TypeIs (.ref sl) "slice":=⟨os,hos,hcs⟩
 unfold getItem
 try with_reducible refine FG ?_
 first|refine EX (E2 ?_)|skip
 refine EX (wpAny_sequenceKey ht.typeIs (by decide) ?_)
 refine EX (GC (name:=Str.ofString "__getitem__") ht.typeIs Fy
  (Hl Fy ht.typeIs entry_tuple_getitem ?_ (args_tuple_getitem _ _)))
 show wpAny _ _ (Builtin.Tuple.tupleItemsOf (.ref t) >>= _) _ _ s
 refine EX (tupleItemsOf_ ht ?_)
 refine EX (Gm Cp ?_)
 rw[if_pos (by decide)]
 refine EX (cD hs pl pu ?_)
 have hno:¬((((yg items.size 0 lo:Nat):Int) == 0&&(1:Int) == 1&&(yg items.size items.size hi - yg items.size 0 lo) == items.size)=true):=by
  intro q
  rw[Bool.and_eq_true,Bool.and_eq_true]at q
  have q1:((yg items.size 0 lo:Nat):Int)=0:=eq_of_beq q.1.1
  have q2:yg items.size items.size hi - yg items.size 0 lo=items.size:=eq_of_beq q.2
  exact hw ⟨by omega,by omega⟩
 show wpAny _ _ (if (((yg items.size 0 lo:Nat):Int) == 0&&(1:Int) == 1&&(yg items.size items.size hi - yg items.size 0 lo) == items.size)=true then _ else _) _ _ s
 rw[if_neg hno,mS]
 first
  |exact EX (m:=Builtin.Tuple.tupleExact _) (F4 (E2 ⟨_,rfl,E2 h⟩) Aj)
  |exact EX (m:=Builtin.Tuple.tupleExact _) (F4 (EX (E2 (E2 ⟨_,rfl,E2 h⟩))) Aj)
  |exact EX (EX (m:=Builtin.Tuple.tupleExact _) (F4 (E2 (E2 ⟨_,rfl,E2 h⟩)) Aj))
  |exact EX (EX (m:=Builtin.Tuple.tupleExact _) (F4 (E2 ⟨_,rfl,E2 h⟩) Aj))
end
end HT
namespace L2
open PySem PySem.Spec PyProof.Rows
abbrev TO:=St->Hp->(Option Int->Hp->Prop)->Prop
def PO(X:Cx)(e:Option Expr)(t:TO):Prop:=
 ∀(pins:Va) (s:Shared) (σ:St) (H:Hp) (Q:Option Int->Hp->Prop),Inv X pins σ H s->t σ H Q->
  wpAny (model X.prog X.w) X.A (evalPart e X.env) (fun u s'=>∃o H',Inv X pins σ H' s'/\IsPart u o/\Q o H') X.xe s
noncomputable def ph:TO:=fun _ H Q=>Q none H
noncomputable def uH(t:TE):TO:=fun σ H Q=>t σ H fun x H1=>∃i,x = .int i/\Q (some i) H1
section
variable {X:Cx} {e:Expr} {te:TE} {lo hi:Option Expr} {tl th:TO} {pos p2:Pos}
def pk:PO X none ph:=by
 intro pins s σ H Q I h
 rw[evalPart_none]
 exact E2 ⟨none,H,I,.none,h⟩
def pp(h:PE X e te):PO X (some e) (uH te):=by
 intro pins s σ H Q I hw
 rw[evalPart_some]
 refine xZ (h pins s σ H _ I hw) fun u s1 ⟨x,H1,I1,r1,q1⟩=>?_
 obtain⟨i,rfl,q⟩:=q1
 obtain⟨t,rfl⟩:=r1
 exact⟨some i,H1,I1,.int i t,q⟩
def tV(X:Cx)(r:V->Option Int->Option Int->Hp->VK->Prop):Prop:=
 ∀(pins:Va) (s:Shared) (σ:St) (H:Hp) (x:V) (v vl vu:Value) (lo hi:Option Int) (sl:Addr) (Q:VK),Inv X pins σ H s->RelV x v->s.heap.IsSliceOf sl vl vu .none->IsPart vl lo->IsPart vu hi->r x lo hi H Q->
  ∃T id,typeLookup (.type T) "__getitem__" = pure (some (.builtin id))/\s.TypeIs v T/\wpAny (model X.prog X.w) X.A (getItem v (.ref sl)) (EP X pins σ Q) X.xe s
def xC(r:V->Option Int->Option Int->Hp->VK->Prop)(te:TE)(tl th:TO):TE:=fun σ H Q=>te σ H fun x H1=>tl σ H1 fun l H2=>th σ H2 fun u H3=>r x l u H3 Q
def mT{r:V->Option Int->Option Int->Hp->VK->Prop}(hr:tV X r)(he:PE X e te)(hl:PO X lo tl)(hu:PO X hi th):PE X (.Subscript e (.Slice lo hi none p2) pos) (xC r te tl th):=by
 intro pins s σ H Q I h
 refine Subscript_ (xZ (he pins s σ H _ I h) fun v s1 ⟨x,H1,I1,r1,q1⟩=>?_)
 refine wpAny_Slice (xZ (hl pins s1 σ H1 _ I1 q1) fun vl s2 ⟨l,H2,I2,pl,q2⟩=>xZ (hu pins s2 σ H2 _ I2 q2) fun vu s3 ⟨u,H3,I3,pu,q3⟩=>?_)
 rw[evalPart_none]
 refine E2 ?_
 have I4:Inv X pins σ H3 { s3 with heap:=s3.heap.push { cls:=.type "slice",data:=.fields #[vl,vu,.none] } }:=I3.kept (t':=s3.toks) fun b ob q=>EY _ q
 obtain⟨T,id,hT,ht,hg⟩:=hr pins { s3 with heap:=s3.heap.push { cls:=.type "slice",data:=.fields #[vl,vu,.none] } } σ H3 x v vl vu l u s3.heap.objs.size Q I4 r1 (Heap.IsSliceOf.new ..) pl pu q3
 show wpAny (model X.prog X.w) X.A (subscriptTail e (.Slice lo hi none p2) v (.ref s3.heap.objs.size)) (EP X pins σ Q) X.xe { s3 with heap:=s3.heap.push { cls:=.type "slice",data:=.fields #[vl,vu,.none] } }
 exact tail_any (ops:=[.ref s3.heap.objs.size,v]) ht hT hg (by with_unfolding_all rfl)
noncomputable def gB(xs:List V)(lo hi:Option Int):List V:=(xs.drop (HT.yg xs.length 0 lo)).take (HT.yg xs.length xs.length hi - HT.yg xs.length 0 lo)
def fO(xs:List V)(lo hi:Option Int):(gB xs lo hi).length<=xs.length:=by
 unfold gB
 rw[FD,FE]
 omega
noncomputable def wo(K:Vo):V->Option Int->Option Int->Hp->VK->Prop:=fun x lo hi H Q=>∃a xs,x = .ref a/\yK K H a xs/\
 ¬(HT.yg xs.length 0 lo=0/\HT.yg xs.length xs.length hi=xs.length)/\∀p,H p=none->Q (.ref p) (upd H p (.tup (gB xs lo hi)))
def rW:tV X (wo X.K):=by
 intro pins s σ H x v vl vu lo hi sl Q I rx hs pl pu h
 obtain⟨a,xs,rfl,hx,hw,q⟩:=h
 cases rx
 obtain⟨its,r,ht,hz⟩:=I.tuple hx
 have hlen:its.toArray.size=xs.length:=by rw[EZ];exact r.length.symm
 refine⟨"tuple",_,Fy.lookup,ht.typeIs,?_⟩
 refine HT.eO ht hs pl pu (by rw[hlen];exact hw) ?_ (by rw[hlen];exact hz)
 rw[hlen]
 refine⟨.ref s.heap.objs.size,_,I.laid (t':=s.toks) (o:=.tup (gB xs lo hi)) (fun b ob q=>EY _ q) (E1 _) ?_,rfl,q _ (I.hok.fresh (E1 _))⟩
 exact⟨Fc (fO xs lo hi) hz,_,(r.drop (HT.yg xs.length 0 lo)).take (HT.yg xs.length xs.length hi - HT.yg xs.length 0 lo),yq.new _ _⟩
def uI(K:Vo):R2:=fun x y H Q=>∃a b xs ys,x = .ref a/\y = .ref b/\yK K H a xs/\yK K H b ys/\xs≠[]/\xs.length+ys.length<=sizeLine/\
 (ys=[]->Q (.ref a) H)/\(ys≠[]->∀p,H p=none->Q (.ref p) (upd H p (.tup (xs++ys))))
def Vals.zN{xs:List V}{us:Vv}(r:Vals xs us):us=[]↔xs=[]:=by
 cases r with
 |nil=>simp
 |cons _ _=>simp
def pq:fM X (binaryOp .Add) (uI X.K):=by
 intro pins s σ H x y v u Q I rx ry h
 obtain⟨a,b,xs,ys,rfl,rfl,ha,hb,hx,hz,q1,q2⟩:=h
 cases rx
 cases ry
 obtain⟨its,r1,p1,_⟩:=I.tuple ha
 obtain⟨its2,r2,p2,_⟩:=I.tuple hb
 refine HT.pg p1 p2 (fun z=>hx (r1.zN.mp z)) (fun z=>⟨.ref a,H,I,rfl,q1 (r2.zN.mp z)⟩) (fun z=>?_) (by rw[<-r1.length,<-r2.length];exact hz)
 refine⟨.ref s.heap.objs.size,_,I.laid (t':=s.toks) (o:=.tup (xs++ys)) (fun b ob q=>EY _ q) (E1 _) ?_,rfl,q2 (fun w=>z (r2.zN.mpr w)) _ (I.hok.fresh (E1 _))⟩
 exact⟨by rw[E6];exact hz,_,r1.append r2,yq.new _ _⟩
end
noncomputable def mU(n:Nat)(i:Int):Option Nat:=if 0<=i then (if i < n then some i.toNat else none) else if -(n:Int)<=i then some (i+n).toNat else none
noncomputable def yO{α:Type}(xs:List α)(i:Int):Option α:=(mU xs.length i).bind fun j=>xs[j]?
def lq{n:Nat}{i:Int}{j:Nat}(h:mU n i=some j):seqIndex? i n=some j/\j < n/\-(n:Int)<=i/\i < n:=by
 unfold mU at h
 by_cases h0:0<=i
 ·rw[if_pos h0]at h
  by_cases h1:i < n
  ·rw[if_pos h1]at h
   have e:i.toNat=j:=FQ h
   exact⟨by rw[seqIndex_of h0 h1,e],by omega,by omega,h1⟩
  ·rw[if_neg h1]at h;cases h
 ·rw[if_neg h0]at h
  by_cases h1:-(n:Int)<=i
  ·rw[if_pos h1]at h
   have e:(i+n).toNat=j:=FQ h
   exact⟨by rw[seqIndex_neg (by omega) h1,e],by omega,h1,by omega⟩
  ·rw[if_neg h1]at h;cases h
def i8{α:Type}{xs:List α}{i:Int}{v:α}(h:yO xs i=some v):∃j,seqIndex? i xs.length=some j/\xs[j]?=some v/\j < xs.length/\-(xs.length:Int)<=i/\i < xs.length:=by
 unfold yO at h
 cases e:mU xs.length i with
 |none=>rw[e]at h;cases h
 |some j=>
  rw[e]at h
  obtain⟨h1,h2,h3,h4⟩:=lq e
  exact⟨j,h1,h,h2,h3,h4⟩
def eP{α:Type}{xs:List α}{j:Nat}{v:α}(h:xs[j]?=some v):yO xs (j:Int)=some v:=by
 have hj:j < xs.length:=(Ga.mp h).1
 have e:mU xs.length (j:Int)=some j:=by
  unfold mU
  rw[if_pos (by omega),if_pos (by omega)];simp
 unfold yO;rw[e];exact h
def gj(b:Expr):Prop:=∀o i,subscripted b false o i=operate [o,i] (getItem o i)
def tW(X:Cx)(r:R2):Prop:=
 ∀(value slice:Expr) (pins:Va) (s:Shared) (σ:St) (H:Hp) (x y:V) (v u:Value) (Q:VK),Inv X pins σ H s->RelV x v->RelV y u->r x y H Q->
  subscripted slice false v u=operate [v,u] (getItem v u)->wpAny (model X.prog X.w) X.A (subscriptTail value slice v u) (EP X pins σ Q) X.xe s
def uJ(X:Cx)(id:String)(r:V->List V->Hp->VK->Prop):Prop:=
 ∀(pins:Va) (s:Shared) (σ:St) (H:Hp) (x:V) (xs:List V) (v:Value) (us:Vv) (Q:VK),Inv X pins σ H s->RelV x v->Vals xs us->r x xs H Q->
  wpAny (model X.prog X.w) X.A (call (.builtin id) (v::us)) (EP X pins σ Q) X.xe s
section
variable {X:Cx} {a b:Expr} {ta tb:TE} {pos:Pos}
def uK{r:R2}(hr:tW X r)(ha:PE X a ta)(hb:PE X b tb)(hs:gj b):PE X (.Subscript a b pos) (uu r ta tb):=by
 intro pins s σ H Q I h
 exact Subscript_ (rH ha hb I h fun v u s2 x y H2 I2 rx ry q=>hr a b pins s2 σ H2 x y v u Q I2 rx ry q (hs _ _))
def wq(K:Vo):R2:=fun x y H Q=>∃p xs i v,x = .ref p/\y = .int i/\SqL K H p xs/\yO xs i=some v/\Q v H
def wt(K:Vo):R2:=fun x y H Q=>∃p xs i v,x = .ref p/\y = .int i/\yK K H p xs/\yO xs i=some v/\Q v H
def wu:R2:=fun x y H Q=>∃z i c,x = .str z/\y = .int i/\z.length<=sizeLine/\yO z.cps.toList i=some c/\Q (.str ⟨#[c]⟩) H
def lr:tW X (wq X.K):=by
 intro value slice pins s σ H x y v u Q I rx ry h hs
 obtain⟨p,xs,i,z,rfl,rfl,hq,he,q⟩:=h
 cases rx
 obtain⟨t,rfl⟩:=ry
 obtain⟨its,r,pl,hz⟩:=I.list hq
 obtain⟨j,h1,h2,h3,h4,h5⟩:=i8 he
 obtain⟨w,ew,rw'⟩:=r.get h2
 have hl:=r.length
 have hn:=ft
 have fin:EP X pins σ Q w s:=⟨z,H,I,rw',q⟩
 by_cases h0:0<=i
 ·have hj:i.toNat=j:=by
   rw[seqIndex_of h0 h5]at h1
   exact FQ h1
  exact item_listR pl.isList h0 (by omega) (by rw[hj];simpa using ew) fin hs
 ·have hj:(i+(its.toArray.size:Int)).toNat=j:=by
   rw[seqIndex_neg (by omega) h4]at h1
   rw[EZ,<-hl]
   exact FQ h1
  exact subscriptTail_builtinR (x:=w) pl.isList.typeIs slot_list_getitem.lookup
   (wpAny_getItem_list_neg (Q:=fun r s'=>r=w/\EP X pins σ Q r s') pl.isList (by omega) (by rw[EZ]<;>omega) (by omega) (by rw[hj];simpa using ew) ⟨rfl,fin⟩) hs
def rX:tW X (wt X.K):=by
 intro value slice pins s σ H x y v u Q I rx ry h hs
 obtain⟨p,xs,i,z,rfl,rfl,hq,he,q⟩:=h
 cases rx
 obtain⟨t,rfl⟩:=ry
 obtain⟨its,r,pl,hz⟩:=I.tuple hq
 obtain⟨j,h1,h2,h3,h4,h5⟩:=i8 he
 obtain⟨w,ew,rw'⟩:=r.get h2
 have hl:=r.length
 have hn:=ft
 have fin:EP X pins σ Q w s:=⟨z,H,I,rw',q⟩
 exact subscriptTail_builtinR (x:=w) pl.typeIs slot_tuple_getitem.lookup
  (getItem_tuple (j:=j) (Q:=fun r s'=>r=w/\EP X pins σ Q r s') pl (by omega) (by omega) (by rw[EZ,<-hl];exact h1) (by simpa using ew) ⟨rfl,fin⟩) hs
def rY:tW X wu:=by
 intro value slice pins s σ H x y v u Q I rx ry h hs
 obtain⟨z,i,c,rfl,rfl,hz,he,q⟩:=h
 obtain⟨t,rfl⟩:=rx
 obtain⟨t',rfl⟩:=ry
 obtain⟨j,h1,h2,h3,h4,h5⟩:=i8 he
 have hl:z.cps.toList.length=z.length:=by simp[Str.length]
 rw[hl]at h1 h4 h5
 have hn:=ft
 exact tail_any (typeIs_str s z t) slot_str_getitem.lookup (getItem_str (c:=c) (by
  have e1:decide (i < -(2 ^ 63:Int))=false:=FP (by omega)
  have e2:decide (i>=2 ^ 63)=false:=FP (by omega)
  rw[e1,e2,Bool.or_false]) (by rw[h1];simpa using h2) ⟨.str ⟨#[c]⟩,H,I.tok _,⟨_,rfl⟩,q⟩) hs
def kH(its:Vv)(n j:Nat)(u:Value):Obj.mapSeq (·.setIfInBounds j u) { cls:=.type "list",data:=.seq its.toArray n }={ cls:=.type "list",data:=.seq (its.set j u).toArray n }:=by
 simp[Obj.mapSeq]
theorem Inv.lst{pins:Va}{σ:St}{H:Hp}{s:Shared}{p:Addr}{xs:List V}(I:Inv X pins σ H s)(h:H p=some (.lst xs)) :
  ∃(its:Vv) (n:Nat),Vals xs its/\s.heap.get? p=some { cls:=.type "list",data:=.seq its.toArray n }/\xs.length<=sizeLine:=by
 obtain⟨z,its,n,r,e⟩:=I.hok p _ h
 exact⟨its,n,r,e,z⟩
def Inv.Bi{pins:Va}{σ:St}{H:Hp}{s:Shared}{p:Addr}{xs ys:List V}{its its':Vv}{n n':Nat}{f:Obj->Obj}(I:Inv X pins σ H s)(h:H p=some (.lst xs))
  (ho:s.heap.get? p=some { cls:=.type "list",data:=.seq its.toArray n }) (hf:f { cls:=.type "list",data:=.seq its.toArray n }={ cls:=.type "list",data:=.seq its'.toArray n' }) (r:Vals ys its') (hz:ys.length<=sizeLine) (t:Nat) :
  Inv X pins σ (upd H p (.lst ys)) { s with heap:=s.heap.update p f,toks:=t }:=by
 have e:(s.heap.update p f).get? p=some { cls:=.type "list",data:=.seq its'.toArray n' }:=by
  rw[Gb f ho (by rw[hf]<;>rfl),hf]
 refine I.write (x:=p) (e:=p) (by rw[h];trivial) (.inl rfl) (fun b u hb q=>(FT _ _ (Gg hb)).trans q) ⟨_,e⟩ ?_
 exact⟨hz,its',n',r,e⟩
noncomputable def uL:V->V->V->Hp->(Hp->Prop)->Prop:=fun o i v H Q=>∃p xs k j,o = .ref p/\i = .int k/\H p=some (.lst xs)/\mU xs.length k=some j/\Q (upd H p (.lst (xs.set j v)))
def mV:o4 X uL:=by
 intro pins s σ H o i v ov iv u Q I ro ri rv h
 obtain⟨p,xs,k,j,rfl,rfl,hp,hj,q⟩:=h
 cases ro
 obtain⟨t,rfl⟩:=ri
 obtain⟨its,n,r,ho,hz⟩:=I.lst hp
 obtain⟨h1,h2,h3,h4⟩:=lq hj
 have hl:=r.length
 have hn:=ft
 have I':Inv X pins σ (upd H p (.lst (xs.set j v))) { s with heap:=s.heap.update p (Obj.mapSeq (·.setIfInBounds j u)) }:=
  I.Bi hp ho (kH its n j u) (r.set rv j) (by rw[List.length_set];exact hz) s.toks
 by_cases h0:0<=k
 ·have hk:k.toNat=j:=by
   rw[seqIndex_of h0 h4]at h1
   exact FQ h1
  exact PySem.W.ki_setAt ho h0 (by omega) (by rw[EZ,<-hl];exact h4) (by rw[hk];exact⟨_,I',q⟩)
 ·have hk:(k+(its.toArray.size:Int)).toNat=j:=by
   rw[seqIndex_neg (by omega) h3]at h1
   rw[EZ,<-hl]
   exact FQ h1
  exact PySem.W.ki_setBack ho (by omega) (by rw[EZ,<-hl];exact h3) (by omega) (by rw[hk];exact⟨_,I',q⟩)
def i9(lo hi:Option Int)(n:Nat):(sliceBounds lo hi none n).1=((HT.yg n 0 lo:Nat):Int)/\(sliceBounds lo hi none n).2.1=((HT.yg n n hi:Nat):Int)/\(sliceBounds lo hi none n).2.2=1:=by
 refine⟨?_,?_,rfl⟩
 ·cases lo with
  |none=>simp[sliceBounds,HT.yg]
  |some i=>
   simp only[sliceBounds,HT.yg,Option.getD_none,show(1:Int) > 0 by decide,G6]
   by_cases h:i < 0
   ·simp only[h,G6]<;>omega
   ·simp only[h,GB]<;>omega
 ·cases hi with
  |none=>simp[sliceBounds,HT.yg]
  |some i=>
   simp only[sliceBounds,HT.yg,Option.getD_none,show(1:Int) > 0 by decide,G6]
   by_cases h:i < 0
   ·simp only[h,G6]<;>omega
   ·simp only[h,GB]<;>omega
def ij(its:Vv)(lo hi:Option Int):slicePick its.toArray lo hi none=((its.drop (HT.yg its.length 0 lo)).take (HT.yg its.length its.length hi - HT.yg its.length 0 lo)).toArray:=by
 obtain⟨h1,h2,h3⟩:=i9 lo hi its.toArray.size
 unfold slicePick
 rw[h1,h2,h3]
 simp only[sliceRange_one,pick_run,EZ]<;>rfl
noncomputable def wv(K:Vo):V->Option Int->Option Int->Hp->VK->Prop:=fun x lo hi H Q=>∃a xs,x = .ref a/\SqL K H a xs/\∀p,H p=none->Q (.ref p) (upd H p (.lst (gB xs lo hi)))
def ls:tV X (wv X.K):=by
 intro pins s σ H x v vl vu lo hi sl Q I rx hs pl pu h
 obtain⟨a,xs,rfl,hx,q⟩:=h
 cases rx
 obtain⟨its,r,ht,hz⟩:=I.list hx
 have hlen:=r.length
 refine⟨"list",_,slot_list_getitem.lookup,ht.isList.typeIs,?_⟩
 refine wpAny_getItem_list_slice ht.isList hs pl pu .none (by simp) ?_ (by rw[EZ]<;>omega)
 rw[ij,<-hlen]
 refine⟨.ref s.heap.objs.size,_,I.laid (t':=s.toks) (o:=.lst (gB xs lo hi)) (fun b ob q=>EY _ q) (E1 _) ?_,rfl,q _ (I.hok.fresh (E1 _))⟩
 exact⟨Fc (fO xs lo hi) hz,_,0,(r.drop (HT.yg xs.length 0 lo)).take (HT.yg xs.length xs.length hi - HT.yg xs.length 0 lo),E8 _ rfl⟩
def cK:d_ X (.builtin "len") (fun xs H Q=>∃p ys,xs=[.ref p]/\(SqL X.K H p ys\/yK X.K H p ys)/\Q (.int ys.length) H):=by
 intro pins s σ H xs us Q I r h
 obtain⟨p,ys,rfl,hq,q⟩:=h
 obtain⟨u,rfl,rx⟩:=fN r
 cases rx
 have hn:=ft
 rcases hq with hq|hq
 ·obtain⟨its,r',pl,hz⟩:=I.list hq
  have hlen:=r'.length
  exact Calls.call_len_list pl.isList (by simp only[EZ]<;>omega) ⟨.int ys.length,H,I.tok _,⟨s.toks+1,by rw[EZ,hlen]⟩,q⟩
 ·obtain⟨its,r',pl,hz⟩:=I.tuple hq
  have hlen:=r'.length
  exact len_tuple pl (by simp only[EZ]<;>omega) ⟨.int ys.length,H,I.tok _,⟨s.toks+1,by rw[EZ,hlen]⟩,q⟩
def i_:d_ X (.builtin "len") (fun xs H Q=>∃z,xs=[.str z]/\z.length<=sizeLine/\Q (.int z.length) H):=by
 intro pins s σ H xs us Q I r h
 obtain⟨z,rfl,hz,q⟩:=h
 obtain⟨u,rfl,t,rfl⟩:=fN r
 have hn:=ft
 exact len_str (by omega) ⟨.int z.length,H,I.tok _,⟨_,rfl⟩,q⟩
def ee:d_ X (.type "tuple") (fun xs H Q=>∃p ys,xs=[.ref p]/\((SqL X.K H p ys/\∀l,H l=none->Q (.ref l) (upd H l (.tup ys)))\/(yK X.K H p ys/\Q (.ref p) H))):=by
 intro pins s σ H xs us Q I r h
 obtain⟨p,ys,rfl,h⟩:=h
 obtain⟨u,rfl,rx⟩:=fN r
 cases rx
 rcases h with⟨hq,q⟩|⟨hq,q⟩
 ·obtain⟨its,r',pl,hz⟩:=I.list hq
  have hlen:=r'.length
  refine call_tuple_list pl.isList (fun h' kp=>?_) (by simp only[EZ]<;>omega)
  have I1:Inv X pins σ H { s with heap:=h' }:=I.kept (t':=s.toks) kp
  have I2:Inv X pins σ (upd H h'.objs.size (.tup ys)) { s with heap:=h'.push { cls:=.type "tuple",data:=.seq its.toArray } }:=
   I1.laid (t':=s.toks) (fun b o e=>EY _ e) (E1 _) (show yh X.prog X.w _ _ _ (.tup ys)from ⟨hz,its,r',yq.new _ _⟩)
  exact⟨.ref h'.objs.size,_,I2,rfl,q _ (I1.hok.fresh (E1 _))⟩
 ·obtain⟨its,r',pl,hz⟩:=I.tuple hq
  exact call_tuple_same pl ⟨.ref p,H,I,rfl,q⟩
def vR(K:Vo)(T:String)(x:V)(H:Hp):Prop:=match x with
 | .str _=>T = "str"
 | .int _=>T = "int"
 | .ref p=>(T = "list"/\∃xs,SqL K H p xs)\/(T = "tuple"/\∃o,K.lookup p=some o/\o.cls = .type "tuple"/\o.dict=none) \/
   (T = "dict"/\((∃kvs,H p=some (.dK kvs))\/∃kvs,H p=some (.dT kvs)))\/(T = "set"/\∃S n,H p=some (.set S n))
 |_=>False
def mW{pins:Va}{σ:St}{H:Hp}{s:Shared}{T:String}{x:V}{v:Value}(I:Inv X pins σ H s)(r:RelV x v)(ty:vR X.K T x H) :
  s.TypeIs v T/\∀a,v = .ref a->∃ob,s.heap.get? a=some ob/\ob.dict=none:=by
 cases x with
 |str z=>
  obtain⟨t,rfl⟩:=r
  cases (show T = "str" from ty)
  exact⟨typeIs_str s z t,fun _ e=>nomatch e⟩
 |int i=>
  obtain⟨t,rfl⟩:=r
  cases (show T = "int" from ty)
  exact⟨typeIs_int s i t,fun _ e=>nomatch e⟩
 |ref p=>
  cases r
  rcases ty with⟨rfl,xs,hq⟩|⟨rfl,o,hk,hc,hd⟩|⟨rfl,hk⟩|⟨rfl,S,n,hk⟩
  ·obtain⟨its,_,pl,_⟩:=I.list hq
   refine⟨pl.isList.typeIs,fun a e=>?_⟩
   cases e
   obtain⟨o,n,e,c,hd,_⟩:=pl
   exact⟨o,e,hd⟩
  ·refine⟨⟨o,I.AM p o hk,hc⟩,fun a e=>?_⟩
   cases e
   exact⟨o,I.AM _ o hk,hd⟩
  ·have z:∃o,s.heap.get? p=some o/\o.ExactDict:=by
    rcases hk with⟨kvs,hk⟩|⟨kvs,hk⟩
    ·obtain⟨_,_,_,_,o,_,_,e,ex,_⟩:=I.hok p _ hk
     exact⟨o,e,ex⟩
    ·obtain⟨_,_,_,_,o,_,_,e,ex,_⟩:=I.hok p _ hk
     exact⟨o,e,ex⟩
   obtain⟨o,e,ex⟩:=z
   refine⟨⟨o,e,ex.1⟩,fun a e2=>?_⟩
   cases e2
   exact⟨o,e,ex.2.1⟩
  ·obtain⟨o,_,_,_,e,ex,_⟩:=I.hok p _ hk
   refine⟨⟨o,e,ex.1⟩,fun a e2=>?_⟩
   cases e2
   exact⟨o,e,ex.2.1⟩
 |_=>exact False.elim ty
def ww(K:Vo)(T:String)(r:V->List V->Hp->VK->Prop)(to:TE):TE:=fun σ H Q=>to σ H fun x H1=>vR K T x H1/\r x [] H1 Q
def xD(K:Vo)(T:String)(r:V->List V->Hp->VK->Prop)(to:TE)(t:TA):TE:=fun σ H Q=>to σ H fun x H1=>vR K T x H1/\t σ H1 fun xs H2=>r x xs H2 Q
variable {o e:Expr} {es:List Expr} {to:TE} {t:TA} {name:Str} {apos cpos:Pos} {T id:String} {r:V->List V->Hp->VK->Prop}
def rZ(pa:PlainAttrs T)(slot:Slot T name id)(hty:typeOf (.builtin id)=pure (.type "method_descriptor"))(hm:uJ X id r)(ho:PE X o to)
  (hbase:attributeBase o name X.env (eval o X.env)=eval o X.env:=by rfl) (hline:(apos.endLine == cpos.line)=true:=by rfl):PE X (.Call (.Attribute o name apos) [] [] cpos) (ww X.K T r to):=by
 intro pins s σ H Q I h
 refine wpAny_Call_method0_late hbase hline (xZ (ho pins s σ H _ I h) fun v s1 ⟨x,H1,I1,r1,ty,q1⟩=>?_)
 obtain⟨h1,h2⟩:=mW I1 r1 ty
 exact⟨T,id,pa,slot,hty,h1,h2,G7 rfl (PySem.evalArgs_none (hm pins s1 σ H1 x [] v [] Q I1 r1 .nil q1))⟩
def uM(pa:PlainAttrs T)(slot:Slot T name id)(hty:typeOf (.builtin id)=pure (.type "method_descriptor"))(hm:uJ X id r)(ho:PE X o to)(ha:PA X (e::es) t)
  (hbase:attributeBase o name X.env (eval o X.env)=eval o X.env:=by rfl)
  (hfew:((backTo cpos (starEach (e::es) X.env)).all (fun x=>!x.1)&&(backToKw cpos (keywordEach [] X.env)).all (fun x=>x.1.isSome)
   && decide ((e::es).length+([]:List Keyword).length+(if ([]:List Keyword).isEmpty then 0 else 1) < 30))=true:=by rfl)
  (hline:(apos.endLine == cpos.line)=true:=by rfl) (hs:starEach (e::es) X.env=(false,eval e X.env)::starEach es X.env:=by rfl) (hplain:(backTo cpos (starEach es X.env)).any (·.1)=false:=by rfl) :
  PE X (.Call (.Attribute o name apos) (e::es) [] cpos) (xD X.K T r to t):=by
 intro pins s σ H Q I h
 refine wpAny_Call_method_late hbase hfew hline rfl (xZ (ho pins s σ H _ I h) fun v s1 ⟨x,H1,I1,r1,ty,q1⟩=>?_)
 obtain⟨h1,h2⟩:=mW I1 r1 ty
 refine⟨T,id,pa,slot,hty,h1,h2,?_⟩
 have hA:=ha cpos pins s1 σ H1 _ I1 q1
 rw[hs]at hA ⊢
 refine G7 (by show(false || (backTo cpos (starEach es X.env)).any (·.1))=false;rw[hplain]<;>rfl) (Hr ?_)
 exact xZ hA fun us s2 ⟨vs,H2,I2,r2,q2⟩=>hm pins s2 σ H2 x vs v us Q I2 r1 r2 q2
end
def uN(X:Cx)(id:String)(r:V->List V->Hp->VK->Prop):Prop:=
 ∀(pins:Va) (s:Shared) (σ:St) (H:Hp) (x:V) (xs:List V) (v:Value) (us:Vv) (Q:VK),Inv X pins σ H s->RelV x v->Vals xs us->r x xs H Q->
  wpAny (model X.prog X.w) X.A (call (.builtin id) (v::us)) (EP X pins σ Q) X.xe s
theorem Vals.one:∀{x:V} {us:Vv},Vals [x] us->∃u,us=[u]/\RelV x u
 |_,_,.cons r .nil=>⟨_,rfl,r⟩
theorem Vals.zero:∀{us:Vv},Vals [] us->us=[]
 |_,.nil=>rfl
theorem Vals.dropLast{xs:List V}{us:Vv}(h:Vals xs us):Vals xs.dropLast us.dropLast:=by
 induction h with
 |nil=>exact .nil
 |cons r t ih=>
  cases t with
  |nil=>exact .nil
  |cons q t'=>exact .cons r ih
theorem Vals.eraseIdx:∀{xs:List V} {us:Vv} (i:Nat),Vals xs us->Vals (xs.eraseIdx i) (us.eraseIdx i)
 |_,_,_,.nil=>.nil
 |_,_,0,.cons _ t=>t
 |_,_,i+1,.cons r t=>.cons r (Vals.eraseIdx i t)
theorem Vals.reverse{xs:List V}{us:Vv}(h:Vals xs us):Vals xs.reverse us.reverse:=by
 induction h with
 |nil=>exact .nil
 |cons r t ih=>rw[G8,G8];exact Vals.append ih (.cons r .nil)
theorem Vals.rep{xs:List V}{us:Vv}(h:Vals xs us):∀k:Nat,Vals (List.replicate k xs).flatten (List.replicate k us).flatten
 |0=>.nil
 |k+1=>by
  rw[F7,F7,Gz,Gz]
  exact Vals.append h (Vals.rep h k)
def kI{α:Type}(l:List α):l.eraseIdx (l.length - 1)=l.dropLast:=by
 induction l with
 |nil=>rfl
 |cons a r ih=>
  cases r with
  |nil=>rfl
  |cons b r=>
   have e:(a::b::r).length - 1=((b::r).length - 1)+1:=by
    have h1:(a::b::r).length=r.length+2:=rfl
    have h2:(b::r).length=r.length+1:=rfl
    omega
   rw[e,List.eraseIdx_cons_succ,ih]
   all_goals rfl
theorem iF{α:Type}:∀(l:List α) (i:Nat),(l.eraseIdx i).length<=l.length
 |[],_=>E1 _
 |_::_,0=>Nat.le_succ _
 |_::r,i+1=>Gf (iF r i)
theorem iG(its:Vv):∀(k:Nat) (acc:Vv),
  List.foldl (fun x1 x2=>x1++x2) acc.toArray (List.replicate k its.toArray)=(acc++(List.replicate k its).flatten).toArray
 |0,acc=>by simp
 |k+1,acc=>by
  have e:acc.toArray++its.toArray=(acc++its).toArray:=by simp
  have e2:(acc++its)++(List.replicate k its).flatten=acc++(List.replicate (k+1) its).flatten:=by
   rw[F7,Gz,List.append_assoc]
  rw[<-e2,<-iG its k (acc++its),<-e,F7,List.foldl_cons]
section
variable {X:Cx} {pins:Va} {σ:St} {H:Hp} {s:Shared} {l b:Addr} {xs ys zs:List V}
def Inv.Az{its its':Vv}{n:Nat}{f:Array Value->Array Value}{t':Nat}(I:Inv X pins σ H s)(hH:H l=some (.lst xs))
  (e:s.heap.get? l=some { cls:=.type "list",data:=.seq its.toArray n }) (hf:f its.toArray=its'.toArray) (hv:Vals ys its') (hz:ys.length<=sizeLine) :
  Inv X pins σ (upd H l (.lst ys)) { s with heap:=s.heap.update l (Obj.mapSeq f),toks:=t' }:=by
 have q:=PySem.IsL.update e f
 rw[hf]at q
 refine I.write (x:=l) (e:=l) (by rw[hH];exact trivial) (.inl rfl) (fun b' u hb hu=>(FT s.heap (Obj.mapSeq f) (Gg hb)).trans hu) ⟨_,q⟩ ?_
 exact⟨hz,its',_,hv,q⟩
def Inv.BJ{its:Vv}{t':Nat}(I:Inv X pins σ H s)(hv:Vals ys its)(hz:ys.length<=sizeLine) :
  Inv X pins σ (upd H s.heap.objs.size (.lst ys)) { s with heap:=s.heap.push { cls:=.type "list",data:=.seq its.toArray },toks:=t' }:=
 I.laid (fun _ _ q=>EY _ q) (E1 _) ⟨hz,its,0,hv,E8 _ rfl⟩
theorem Inv.fresh(I:Inv X pins σ H s):H s.heap.objs.size=none:=I.hok.fresh (E1 _)
def Inv.zO(I:Inv X pins σ H s)(hH:H l=some (.lst xs)):xs.length<=sizeLine/\∃(its:Vv) (n:Nat),Vals xs its/\xs.length=its.length/\s.heap.get? l=some { cls:=.type "list",data:=.seq its.toArray n }:=by
 obtain⟨z,its,n,r,e⟩:=I.hok l _ hH
 exact⟨z,its,n,r,r.length,e⟩
def jN{n:Nat}(h:n<=sizeLine):Builtin.List.listTooLong n=false:=by
 unfold Builtin.List.listTooLong
 exact FP (by omega)
end
section
variable {X:Cx}
noncomputable def pA:V->List V->Hp->VK->Prop:=fun x vs H Q=>∃l xs y,x = .ref l/\vs=[y]/\H l=some (.lst xs)/\xs.length < sizeLine/\Q .non (upd H l (.lst (xs++[y])))
def lV:uN X "list.append" pA:=by
 intro pins s σ H x vs v us Q I rx rv h
 obtain⟨l,xs,y,rfl,rfl,hH,hz,q⟩:=h
 cases rx
 obtain⟨u,rfl,ru⟩:=rv.one
 obtain⟨z,its,n,r,hl,e⟩:=I.zO hH
 refine GO F.slot_list_append ⟨_,e,rfl⟩ F.entry_list_append (F.args_list_append_2 _ _) (PySem.list_append l its.toArray n u (by rw[EZ];omega)) ⟨e,?_⟩
 refine⟨.non,_,I.Az (its':=its++[u]) hH e (by simp) (r.append (.cons ru .nil)) ?_,rfl,q⟩
 rw[E6,Gd]
 omega
noncomputable def pB:V->List V->Hp->VK->Prop:=fun x vs H Q=>∃l b xs zs,x = .ref l/\vs=[.ref b]/\H l=some (.lst xs)/\H b=some (.lst zs)/\xs.length+zs.length<=sizeLine/\Q .non (upd H l (.lst (xs++zs)))
def lW:uN X "list.extend" pB:=by
 intro pins s σ H x vs v us Q I rx rv h
 obtain⟨l,b,xs,zs,rfl,rfl,hH,hB,hz,q⟩:=h
 cases rx
 obtain⟨u,rfl,ru⟩:=rv.one
 cases ru
 obtain⟨z,its,n,r,hl,e⟩:=I.zO hH
 obtain⟨z2,its2,n2,r2,hl2,e2⟩:=I.zO hB
 have hsz:its.toArray.size+its2.toArray.size<=sizeLine:=by rw[EZ,EZ];omega
 have AA:¬(!its.toArray.isEmpty&&Builtin.List.listTooLong (its.toArray.size+its2.toArray.size))=true:=by
  rw[jN hsz,Bool.and_false]
  exact Ff
 refine GO F.slot_list_extend ⟨_,e,rfl⟩ F.entry_list_extend (F.args_list_extend_2 _ _)
  (AutoSeq1.list_extend_list_list_0 l its.toArray n b its2.toArray n2 AA (by rw[EZ];omega) (by omega)) ⟨e,e2,?_⟩
 refine⟨.non,_,I.Az (its':=its++its2) hH e (by simp) (r.append r2) ?_,rfl,q⟩
 rw[E6]
 omega
noncomputable def wx:V->List V->Hp->VK->Prop:=fun x vs H Q=>∃l xs y,x = .ref l/\vs=[]/\H l=some (.lst xs)/\xs[xs.length - 1]?=some y/\Q y (upd H l (.lst xs.dropLast))
def r6:uN X "list.pop" wx:=by
 intro pins s σ H x vs v us Q I rx rv h
 obtain⟨l,xs,y,rfl,rfl,hH,hy,q⟩:=h
 cases rx
 have BK:=rv.zero
 subst BK
 obtain⟨z,its,n,r,hl,e⟩:=I.zO hH
 obtain⟨u,hu,ru⟩:=r.get hy
 have hy':its.toArray[its.toArray.size - 1]?=some u:=by
  show its.toArray[its.length - 1]?=some u
  rw[<-Array.getElem?_toList,<-hl]
  exact hu
 refine GO F.slot_list_pop ⟨_,e,rfl⟩ F.entry_list_pop (F.args_list_pop_1 _) (MeetsSeq.list_pop_last l its.toArray n u hy' (by rw[EZ];omega)) ⟨e,?_⟩
 refine⟨y,_,I.Az (its':=its.dropLast) hH e ?_ r.dropLast ?_,ru,q⟩
 ·show its.toArray.eraseIdxIfInBounds (its.toArray.size - 1)=its.dropLast.toArray
  rw[EZ,Hh,kI]
 ·rw[List.length_dropLast]
  omega
noncomputable def r9:V->List V->Hp->VK->Prop:=fun x vs H Q=>∃l xs i k y,x = .ref l/\vs=[.int i]/\H l=some (.lst xs)/\-(2 ^ 63)<=i/\i < 2 ^ 63/\seqIndex? i xs.length=some k/\xs[k]?=some y/\Q y (upd H l (.lst (xs.eraseIdx k)))
def mX:uN X "list.pop" r9:=by
 intro pins s σ H x vs v us Q I rx rv h
 obtain⟨l,xs,i,k,y,rfl,rfl,hH,h1,h2,hk,hy,q⟩:=h
 cases rx
 obtain⟨u,rfl,ru⟩:=rv.one
 obtain⟨t,rfl⟩:=ru
 obtain⟨z,its,n,r,hl,e⟩:=I.zO hH
 obtain⟨w,hw,rw'⟩:=r.get hy
 refine GO F.slot_list_pop ⟨_,e,rfl⟩ F.entry_list_pop (F.args_list_pop_2 _ _)
  (MeetsSeq.list_pop_at l its.toArray n i t k w (fitsIndex_both h1 h2) (by rw[EZ,<-hl];exact hk) (by rw[<-Array.getElem?_toList];exact hw) (by rw[EZ];omega)) ⟨e,?_⟩
 refine⟨y,_,I.Az (its':=its.eraseIdx k) hH e ?_ (r.eraseIdx k) ?_,rw',q⟩
 ·show its.toArray.eraseIdxIfInBounds k=(its.eraseIdx k).toArray
  rw[Hh]
 ·have:=iF xs k
  omega
def wy:R2:=fun x y H Q=>∃l b xs zs,x = .ref l/\y = .ref b/\H l=some (.lst xs)/\H b=some (.lst zs)/\xs.length+zs.length<=sizeLine/\∀p,H p=none->Q (.ref p) (upd H p (.lst (xs++zs)))
def r_:fM X (binaryOp .Add) wy:=by
 intro pins s σ H x y v u Q I rx ry h
 obtain⟨l,b,xs,zs,rfl,rfl,hH,hB,hz,q⟩:=h
 cases rx
 cases ry
 obtain⟨z,its,n,r,hl,e⟩:=I.zO hH
 obtain⟨z2,its2,n2,r2,hl2,e2⟩:=I.zO hB
 refine PySem.P.add_list e e2 ?_ (by rw[EZ,EZ];omega)
 have ea:its.toArray++its2.toArray=(its++its2).toArray:=by simp
 rw[ea]
 exact⟨.ref _,_,I.BJ (t':=s.toks) (r.append r2) (by rw[E6];omega),rfl,q _ I.fresh⟩
def wA:R2:=fun x y H Q=>∃l k xs,x = .ref l/\y = .int k/\H l=some (.lst xs)/\-(2 ^ 63)<=k/\k < 2 ^ 63/\xs.length * k.toNat<=sizeLine/\
 ∀p,H p=none->Q (.ref p) (upd H p (.lst (List.replicate k.toNat xs).flatten))
def pC{α:Type}(xs:List α)(k:Nat):(List.replicate k xs).flatten.length=k * xs.length:=by
 induction k with
 |zero=>simp
 |succ k ih=>rw[F7,Gz,E6,ih,Nat.succ_mul,Nat.add_comm]
def sa:fM X (binaryOp .Mult) wA:=by
 intro pins s σ H x y v u Q I rx ry h
 obtain⟨l,k,xs,rfl,rfl,hH,h1,h2,hz,q⟩:=h
 cases rx
 obtain⟨t,rfl⟩:=ry
 obtain⟨z,its,n,r,hl,e⟩:=I.zO hH
 have hlen:its.toArray.size * k.toNat<=sizeLine:=by rw[EZ,<-hl];exact hz
 have hcap:¬its.toArray.size * k.toNat > (2 ^ 63 - 1) / 8:=by
  have:(sizeLine:Nat)<=(2 ^ 63 - 1) / 8:=by decide
  omega
 have hfit:¬(!Builtin.List.listFitsIndex k)=true:=by
  rw[fitsIndex_both h1 h2]
  exact Ff
 have AA:¬Builtin.List.listTooLong (its.toArray.size * k.toNat)=true:=by
  rw[jN hlen]
  exact Ff
 have hnew:List.foldl (fun x1 x2=>x1++x2) #[] (List.replicate (if its.toArray.isEmpty=true then 0 else k.toNat) its.toArray)=(List.replicate k.toNat its).flatten.toArray:=by
  have f0:∀m:Nat,List.foldl (fun x1 x2=>x1++x2) #[] (List.replicate m its.toArray)=(List.replicate m its).flatten.toArray:=fun m=>by
   have:=iG its m []
   rw[Gw]at this
   exact this
  rw[f0]
  cases its with
  |nil=>simp
  |cons a r'=>rw[if_neg (by simp)]
 refine wpAny_binaryOp_repeat_ref (T:="list") (U:="int") (by decide) ⟨_,e,rfl⟩ (fun s'=>typeIs_int s' k t) noFill_list_mul F.fills_int_mul F.slot_int_rmul repeat_list F.slot_int_index.lookup
  (GO F.slot_int_rmul (typeIs_int s k t) F.entry_int_rmul (F.args_int_rmul_2 _ _) (int___rmul___int_list k t l its.toArray n)
   ⟨e,rfl,⟨_,e,rfl⟩,GO F.slot_list_mul ⟨_,e,rfl⟩ F.entry_list_mul (F.args_list_mul_2 _ _) (AutoListH.list___mul___list_int_3 l its.toArray n k t hfit hcap AA) ⟨e,?_⟩⟩)
 rw[hnew]
 exact⟨.ref _,_,I.BJ (t':=s.toks) (r.rep k.toNat) (by rw[pC,Nat.mul_comm];exact hz),rfl,q _ I.fresh⟩
end
section
variable {κ:Type} [DecidableEq κ]
noncomputable def eh(kvs:List (κ×V))(k:κ):Option V:=(kvs.find? fun kv=>decide (kv.1=k)).map (·.2)
noncomputable def dr(kvs:List (κ×V))(k:κ)(v:V):List (κ×V):=
 if (kvs.any fun kv=>decide (kv.1=k))=true then kvs.map (fun kv=>if kv.1=k then (kv.1,v) else kv) else kvs++[(k,v)]
def yL{p:κ×V}{r:List (κ×V)}{k:κ}(e:p.1=k):eh (p::r) k=some p.2:=by simp[eh,List.find?_cons,e]
def yM{p:κ×V}{r:List (κ×V)}{k:κ}(e:¬p.1=k):eh (p::r) k=eh r k:=by simp[eh,List.find?_cons,e]
theorem gC(k:κ):∀kvs:List (κ×V),(kvs.any fun kv=>decide (kv.1=k))=(eh kvs k).isSome
 |[]=>rfl
 |p::r=>by
  rw[Hq]
  by_cases e:p.1=k
  ·simp only[yL e,G9 e,Bool.true_or,Option.isSome_some]
  ·rw[yM e,FP e,Bool.false_or];exact gC k r
def du(kvs:List (κ×V))(k:κ)(v:V):(dr kvs k v).length<=kvs.length+1:=by
 unfold dr
 split
 ·rw[E5];omega
 ·rw[E6,Fe,GI];omega
def RelO.zt{o:Option V}{u:Option Value}(r:RelO o u):o.isSome=u.isSome:=by
 cases o with
 |none=>cases u with
  |none=>rfl
  |some _=>exact(show False from r).elim
 |some _=>cases u with
  |none=>exact(show False from r).elim
  |some _=>rfl
theorem RelO.getD{o:Option V}{u:Option Value}{d:V}{d':Value}(r:RelO o u)(rd:RelV d d'):RelV (o.getD d) (u.getD d'):=by
 cases o with
 |none=>cases u with
  |none=>exact rd
  |some _=>exact(show False from r).elim
 |some _=>cases u with
  |none=>exact(show False from r).elim
  |some _=>exact r
def KV.val{kvs:List (κ×V)}{vs:List (κ×Value)}(r:KV kvs vs)(k:κ):RelO (eh kvs k) (valueAt vs k):=by
 unfold KV at r
 induction r with
 |nil=>exact True.intro
 |@cons p q ps qs h t ih=>
  obtain⟨h1,h2⟩:=h
  by_cases e:p.1=k
  ·have e':q.1=k:=h1.symm.trans e
   have b:valueAt (q::qs) k=some q.2:=by simp[valueAt,List.find?_cons,e']
   rw[yL e,b];exact h2
  ·have e':¬q.1=k:=fun z=>e (h1.trans z)
   have b:valueAt (q::qs) k=valueAt qs k:=by simp[valueAt,List.find?_cons,e']
   rw[yM e,b];exact ih
theorem KV.any{kvs:List (κ×V)}{vs:List (κ×Value)}(r:KV kvs vs)(k:κ):(kvs.any fun kv=>decide (kv.1=k))=vs.any fun kv=>decide (kv.1=k):=by
 unfold KV at r
 induction r with
 |nil=>rfl
 |cons h t ih=>rw[Hq,Hq,ih,h.1]
def KV.repl{kvs:List (κ×V)}{vs:List (κ×Value)}(r:KV kvs vs)(k:κ){y:V}{u:Value}(ry:RelV y u) :
  KV (kvs.map fun kv=>if kv.1=k then (kv.1,y) else kv) (vs.map fun kv=>if kv.1=k then (kv.1,u) else kv):=by
 unfold KV at r ⊢
 induction r with
 |nil=>exact .nil
 |@cons p q ps qs h t ih=>
  rw[Fd,Fd]
  refine .cons ?_ ih
  obtain⟨h1,h2⟩:=h
  by_cases e:p.1=k
  ·rw[if_pos e,if_pos (h1.symm.trans e)];exact⟨h1,ry⟩
  ·rw[if_neg e,if_neg (fun z=>e (h1.trans z))];exact⟨h1,h2⟩
def KV.put{kvs:List (κ×V)}{vs:List (κ×Value)}(r:KV kvs vs)(k:κ){y:V}{u:Value}(ry:RelV y u):KV (dr kvs k y) (stored vs k u):=by
 unfold dr stored
 rw[r.any k]
 by_cases e:(vs.any fun kv=>decide (kv.1=k))=true
 ·rw[if_pos e,if_pos e];exact r.repl k ry
 ·rw[if_neg e,if_neg e];exact Paired.snoc r ⟨rfl,ry⟩
theorem KV.length{kvs:List (κ×V)}{vs:List (κ×Value)}(r:KV kvs vs):kvs.length=vs.length:=Paired.length r
end
def gD{P:Program}{w:World}{k:aN}{u:Value}(r:RelV (kV k) u):(aB P w).is k u=true:=by
 cases k with
 |inl i=>obtain⟨t,e⟩:=(show ∃t,u=Value.int i t from r);subst e;exact jH P w i t
 |inr x=>obtain⟨t,e⟩:=(show ∃t,u=Value.str x t from r);subst e;exact jI P w x t
theorem iH{P:Program}{w:World}:∀{ks:List aN} {us:Vv},Vals (ks.map kV) us->ItemsAre (aB P w) ks us
 |[],_,r=>by rw[Gn]at r;cases r;exact .nil
 |k::ks,_,r=>by
  rw[Fd]at r
  cases r with
  |cons h t=>exact .cons (gD h) (iH t)
noncomputable abbrev KT(H:Hp):List (List aN×V)->List (List aN×Addr×Value)->Prop:=Paired fun p q=>p.1=q.1/\H q.2.1=some (.tup (p.1.map kV))/\RelV p.2 q.2.2
def KT.val{H:Hp}{kvs:List (List aN×V)}{xs:List (List aN×Addr×Value)}(r:KT H kvs xs)(k:List aN):RelO (eh kvs k) ((atKey xs k).map (·.2)):=by
 induction r with
 |nil=>exact True.intro
 |@cons p q ps qs h t ih=>
  obtain⟨h1,_,h2⟩:=h
  by_cases e:p.1=k
  ·have e':q.1=k:=h1.symm.trans e
   have b:atKey (q::qs) k=some q.2:=by simp[atKey,List.find?_cons,e']
   rw[yL e,b];exact h2
  ·have e':¬q.1=k:=fun z=>e (h1.trans z)
   have b:atKey (q::qs) k=atKey qs k:=by simp[atKey,List.find?_cons,e']
   rw[yM e,b];exact ih
def KT.repl{H:Hp}{kvs:List (List aN×V)}{xs:List (List aN×Addr×Value)}(r:KT H kvs xs)(k:List aN){y:V}{u:Value}(ry:RelV y u) :
  KT H (kvs.map fun kv=>if kv.1=k then (kv.1,y) else kv) (xs.map (putAt k u)):=by
 induction r with
 |nil=>exact .nil
 |@cons p q ps qs h t ih=>
  rw[Fd,Fd]
  refine .cons ?_ ih
  obtain⟨h1,h2,h3⟩:=h
  unfold putAt
  by_cases e:p.1=k
  ·rw[if_pos e,if_pos (h1.symm.trans e)];exact⟨h1,h2,ry⟩
  ·rw[if_neg e,if_neg (fun z=>e (h1.trans z))];exact⟨h1,h2,h3⟩
def KT.put{H:Hp}{kvs:List (List aN×V)}{xs:List (List aN×Addr×Value)}(r:KT H kvs xs)(k:List aN){b:Addr}{y:V}{u:Value}(hb:H b=some (.tup (k.map kV)))(ry:RelV y u) :
  KT H (dr kvs k y) (storedH xs k b u):=by
 have e:(kvs.any fun kv=>decide (kv.1=k))=(atKey xs k).isSome:=by
  rw[gC,(r.val k).zt,Option.isSome_map]
 unfold dr storedH
 rw[e]
 by_cases q:(atKey xs k).isSome=true
 ·rw[if_pos q,if_pos q];exact r.repl k ry
 ·rw[if_neg q,if_neg q];exact Paired.snoc r ⟨rfl,hb,ry⟩
def KT.keeps{H H':Hp}{kvs:List (List aN×V)}{xs:List (List aN×Addr×Value)}(r:KT H kvs xs)(ht:∀b ys,H b=some (.tup ys)->H' b=some (.tup ys)):KT H' kvs xs:=
 Paired.Bc r fun _ _ z=>⟨z.1,ht _ _ z.2.1,z.2.2⟩
section
variable {P:Program} {w:World} {H:Hp} {h:Heap} {a:Addr}
def qK{u:HO}(ok:yZ P w H h)(e:Rd H a u):yh P w H h a u:=e.ok ok
def jO{kvs:List (aN×V)}(ok:yZ P w H h)(e:Rd H a (.dK kvs)):kvs.length<=sizeLine/\(a == sysModules)=false/\∃vs,KV kvs vs/\h.DictOf (aB P w) a vs:=
 show yh P w H h a (.dK kvs)from qK ok e
def qL{kvs:List (aN×V)}(ok:yZ P w H h)(e:H a=some (.dK kvs)):kvs.length<=sizeLine/\(a == sysModules)=false/\∃vs,KV kvs vs/\h.DictOf (aB P w) a vs:=jO ok (.inl e)
def cx{ks:List aN}(ok:yZ P w H h)(e:H a=some (.tup (ks.map kV))):(tupleKind (aB P w)).is h ks a:=by
 obtain⟨_,its,r,o,h1,_,h2,n,h3⟩:=(show yh P w H h a (.tup (ks.map kV))from ok a _ e)
 exact⟨o,its.toArray,n,h1,h2,h3,by simpa using iH r⟩
def lv{kvs:List (List aN×V)}(ok:yZ P w H h)(e:Rd H a (.dT kvs)):kvs.length<=sizeLine/\(a == sysModules)=false/\
  ∃xs,KT H kvs xs/\h.DictOfH (tupleKind (aB P w)) a xs:=by
 obtain⟨z,y,xs,r,o,es,ep,h1,h2,h3,h4,h5⟩:=(show yh P w H h a (.dT kvs)from qK ok e)
 refine⟨z,y,xs,r,o,es,ep,h1,h2,h3,h4,fun x hx=>?_,h5⟩
 have all:∀{l:List (List aN×V)} {m:List (List aN×Addr×Value)},KT H l m->∀x∈m,(tupleKind (aB P w)).is h x.1 x.2.1:=by
  intro l m q
  induction q with
  |nil=>intro x hx;exact nomatch hx
  |@cons p q ps qs hq t ih=>
   intro x hx
   rcases Fg.mp hx with e|hx
   ·subst e
    exact cx ok (by rw[<-hq.1];exact hq.2.1)
   ·exact ih x hx
 exact all r x hx
def uO{kvs:List (List aN×V)}(ok:yZ P w H h)(e:H a=some (.dT kvs)):kvs.length<=sizeLine/\(a == sysModules)=false/\
  ∃xs,KT H kvs xs/\h.DictOfH (tupleKind (aB P w)) a xs:=lv ok (.inl e)
end
def DGet(H:Hp)(a:Addr)(y:V)(r:Option V):Prop:=
 (∃kvs k,Rd H a (.dK kvs)/\y=kV k/\r=eh kvs k)\/∃kvs k b,Rd H a (.dT kvs)/\y = .ref b/\H b=some (.tup (k.map kV))/\r=eh kvs k
def AB(H:Hp)(a:Addr)(y v:V)(H':Hp):Prop:=
 (∃kvs k,H a=some (.dK kvs)/\y=kV k/\kvs.length < sizeLine/\H'=upd H a (.dK (dr kvs k v))) \/
 ∃kvs k b,H a=some (.dT kvs)/\y = .ref b/\H b=some (.tup (k.map kV))/\kvs.length < sizeLine/\H'=upd H a (.dT (dr kvs k v))
theorem DGet.k{H:Hp}{a:Addr}{kvs:List (aN×V)}{k:aN}(e:H a=some (.dK kvs)):DGet H a (kV k) (eh kvs k):=.inl ⟨kvs,k,.inl e,rfl,rfl⟩
theorem AB.k{H:Hp}{a:Addr}{kvs:List (aN×V)}{k:aN}{v:V}(e:H a=some (.dK kvs))(hl:kvs.length < sizeLine):AB H a (kV k) v (upd H a (.dK (dr kvs k v))):=.inl ⟨kvs,k,e,rfl,hl,rfl⟩
section
variable {X:Cx} {pins:Va} {σ:St} {H:Hp} {s:Shared} {a:Addr} {y v:V} {u r:Value} {o:Option V} {A:Around} {E:Vq}
def Inv.big(I:Inv X pins σ H s):sysModules < s.heap.objs.size:=by
 have h:mainGlobals < s.heap.objs.size:=(I.mod.glob.keeps I.bk).lt
 exact F5 (by decide) h
def lX{Q:Vq}(hu:A.units+1 < cLine)(I:Inv X pins σ H s)(g:DGet H a y (some v))(ry:RelV y u)(h:∀w' s',Inv X pins σ H s'->RelV v w'->Q w' s') :
  wpAny (model X.prog X.w) A (getItem (.ref a) u) Q E s:=by
 rcases g with⟨kvs,k,e,ey,l⟩|⟨kvs,k,b,e,ey,eb,l⟩
 ·subst ey
  obtain⟨z,hd,vs,rel,dd⟩:=jO I.hok e
  obtain⟨w',hw,rw'⟩:=RelO.some_of (v:=v) (o:=valueAt vs k) (by rw[l];exact rel.val k)
  exact wpAny_getItem_of (gD ry) dd.mapOf hw (h w' _ (I.tok _) rw')
 ·subst ey
  cases (show u=Value.ref b from ry)
  obtain⟨z,hd,xs,rel,dd⟩:=lv I.hok e
  obtain⟨w',hw,rw'⟩:=RelO.some_of (v:=v) (o:=(atKey xs k).map (·.2)) (by rw[l];exact rel.val k)
  obtain⟨p,hp,hp2⟩:=Gk.mp hw
  refine wpAny_getItem_heap (tupleKind_room_in1 hu) (cx I.hok eb) dd hp ?_
  rw[hp2]
  exact h w' _ (I.tok _) rw'
def uP{Q:Vq}(hu:A.units+1 < cLine)(I:Inv X pins σ H s)(g:DGet H a y o)(ry:RelV y u)(h:∀s',Inv X pins σ H s'->Q (.bool o.isSome) s') :
  wpAny (model X.prog X.w) A (compareOp .In u (.ref a)) Q E s:=by
 rcases g with⟨kvs,k,e,ey,l⟩|⟨kvs,k,b,e,ey,eb,l⟩
 ·subst ey
  obtain⟨z,hd,vs,rel,dd⟩:=jO I.hok e
  refine wpAny_in_of (gD ry) hd dd.mapOf ?_
  rw[<-(rel.val k).zt,<-l]
  exact h _ (I.tok _)
 ·subst ey
  cases (show u=Value.ref b from ry)
  obtain⟨z,hd,xs,rel,dd⟩:=lv I.hok e
  refine wpAny_in_heap (tupleKind_room_in1 hu) (cx I.hok eb) hd dd ?_
  have q:=(rel.val k).zt
  rw[Option.isSome_map]at q
  rw[<-q,<-l]
  exact h _ (I.tok _)
def ja{h':Heap}{t':Nat}{ob:HO}(I:Inv X pins σ H s)(mu:t_ (H a))(hs:Heap.SameBut a s.heap h')(he:∃q,h'.get? a=some q)(new:yh X.prog X.w (upd H a ob) h' a ob) :
  Inv X pins σ (upd H a ob) { s with heap:=h',toks:=t' }:=
 I.write (x:=a) (e:=a) mu (.inl rfl) (fun b q hb z=>(hs.2 b hb).trans z) he new
def mY{P:Program}{w:World}{H':Hp}{h':Heap}{kvs:List (aN×V)}{vs:List (aN×Value)}(z:kvs.length<=sizeLine)(hd:(a == sysModules)=false)(rel:KV kvs vs)(dd:h'.DictOf (aB P w) a vs) :
  yh P w H' h' a (.dK kvs):=⟨z,hd,vs,rel,dd⟩
def lY{H':Hp}{Q:Unit->Shared->Prop}(hu:A.units+1 < cLine)(I:Inv X pins σ H s)(g:AB H a y v H')(ry:RelV y u)(rv:RelV v r)(h:∀s',Inv X pins σ H' s'->Q () s') :
  wpAny (model X.prog X.w) A (setItem (.ref a) u r) Q E s:=by
 rcases g with⟨kvs,k,e,ey,l,eH⟩|⟨kvs,k,b,e,ey,eb,l,eH⟩
 ·subst ey eH
  obtain⟨z,hd,vs,rel,dd⟩:=qL I.hok e
  have hz:vs.length<=sizeLine:=by rw[<-rel.length];exact z
  have hl:(dr kvs k v).length<=sizeLine:=by have:=du kvs k v;omega
  refine wpAny_setItem_pairs (hsz:=hz) (gD ry) dd fun h' Bj hs=>h _ ?_
  have he:∃q,h'.get? a=some q:=let ⟨q,_,_,hq,_⟩:=Bj;⟨q,hq⟩
  exact ja I (by rw[e];exact True.intro) hs he (mY hl hd (rel.put k rv) Bj)
 ·subst ey eH
  cases (show u=Value.ref b from ry)
  obtain⟨z,hd,xs,rel,dd⟩:=uO I.hok e
  have hz:xs.length<=sizeLine:=by rw[<-Paired.length rel];exact z
  have hl:(dr kvs k v).length<=sizeLine:=by have:=du kvs k v;omega
  refine wpAny_setItem_heap (hsz:=hz) (tupleKind_room_in1 hu) (cx I.hok eb) dd fun h' Bj hs=>h _ ?_
  obtain⟨q,es,ep,hq,h2,h3,h4,_,h5⟩:=Bj
  refine ja I (by rw[e];exact True.intro) hs ⟨q,hq⟩ ⟨hl,hd,_,(rel.put k eb rv).keeps fun c ys ec=>?_,q,es,ep,hq,h2,h3,h4,h5⟩
  rw[ak (t9 ec e (fun z=>nomatch z))]
  exact ec
end
section
variable {X:Cx} {pins:Va} {σ:St} {H:Hp} {s:Shared} {a:Addr} {kvs:List (aN×V)} {k:aN} {u:Value} {A:Around} {E:Vq}
def uQ{Q:Vq}(I:Inv X pins σ H s)(e:Rd H a (.dK kvs))(h:∀t s',Inv X pins σ H s'->Q (.int kvs.length t) s'):wpAny (model X.prog X.w) A (call (.builtin "len") [.ref a]) Q E s:=by
 obtain⟨z,hd,vs,rel,dd⟩:=jO I.hok e
 refine call_len_dict hd dd (by rw[<-rel.length];rw[sizeLine_eq]at z;omega) ?_
 rw[<-rel.length]
 exact h _ _ (I.tok _)
end
def jP{X:Cx}{pins:Va}{σ:St}{H:Hp}{s:Shared}{a:Addr}{y:V}{o:Option V}(I:Inv X pins σ H s)(g:DGet H a y o):s.TypeIs (.ref a) "dict":=by
 rcases g with⟨kvs,k,e,_,_⟩|⟨kvs,k,b,e,_,_,_⟩
 ·obtain⟨_,_,vs,_,dd⟩:=jO I.hok e
  exact dd.typeIs
 ·obtain⟨_,_,xs,_,dd⟩:=lv I.hok e
  exact dd.typeIs
def gE{P:Program}{w:World}{H:Hp}(h:Heap)(hb:sysModules < h.objs.size):yh P w H (h.push { cls:=.type "dict",data:=.dict #[] }) h.objs.size (.dK []):=
 ⟨FN _,HA.mpr (Gg (E9 hb)),[],.nil,Heap.DictOf.new h⟩
noncomputable def jb:List (TE×TE)->St->Hp->(List (V×V)->Hp->Prop)->Prop
 |[],_,H,Q=>Q [] H
 |(tk,tv)::r,σ,H,Q=>tk σ H fun x H1=>tv σ H1 fun y H2=>jb r σ H2 fun ps H3=>Q ((x,y)::ps) H3
noncomputable abbrev VV:List (V×V)->List (Value×Value)->Prop:=Paired fun p q=>RelV p.1 q.1/\RelV p.2 q.2
def uR(X:Cx)(pos:Pos)(keys:List (Option Expr))(values:List Expr)(zD:List (TE×TE)):Prop:=
 ∀(pins:Va) (s:Shared) (σ:St) (H:Hp) (Q:List (V×V)->Hp->Prop),Inv X pins σ H s->jb zD σ H Q->
  wpAny (model X.prog X.w) X.A (evalPairs (pairTrees keys values X.env pos)) (fun vs s'=>∃ps H',Inv X pins σ H' s'/\VV ps vs/\Q ps H') X.xe s
def pD{X:Cx}{pos:Pos}:uR X pos [] [] []:=fun pins s σ H Q I h=>pairTrees_nil_walk ⟨[],H,I,.nil,h⟩
def mZ{X:Cx}{pos:Pos}{k v:Expr}{ks:List (Option Expr)}{vs:List Expr}{tk tv:TE}{zD:List (TE×TE)}(hk:PE X k tk)(hv:PE X v tv)(hr:uR X pos ks vs zD) :
  uR X pos (some k::ks) (v::vs) ((tk,tv)::zD):=fun pins s σ H Q I h=>
 pairTrees_cons_walk (xZ (hk pins s σ H _ I h) fun u s1 ⟨x,H1,I1,rx,q1⟩=>xZ (hv pins s1 σ H1 _ I1 q1) fun w2 s2 ⟨y,H2,I2,ry,q2⟩=>
  xZ (hr pins s2 σ H2 _ I2 q2) fun ws s3 ⟨ps,H3,I3,rel,q3⟩=>⟨(x,y)::ps,H3,I3,.cons ⟨rx,ry⟩ rel,q3⟩)
noncomputable def bU(kvs more:List (aN×V)):List (aN×V):=more.foldl (fun acc kv=>dr acc kv.1 kv.2) kvs
def KV.merge:∀{more:List (aN×V)} {rs:List (aN×Value)} {kvs:List (aN×V)} {vs:List (aN×Value)},KV more rs->KV kvs vs->KV (bU kvs more) (merged vs rs):=by
 intro more rs kvs vs r
 unfold KV at r
 induction r generalizing kvs vs with
 |nil=>intro q;exact q
 |@cons p q ps qs h t ih=>
  intro r0
  have e:KV (dr kvs p.1 p.2) (stored vs q.1 q.2):=by
   have:=r0.put p.1 h.2
   rw[<-h.1];exact this
  exact ih e
theorem bN:∀(more kvs:List (aN×V)),(bU kvs more).length<=kvs.length+more.length
 |[],kvs=>by show kvs.length<=kvs.length+0;omega
 |p::r,kvs=>by
  have h1:=bN r (dr kvs p.1 p.2)
  have h2:=du kvs p.1 p.2
  show(bU (dr kvs p.1 p.2) r).length<=_
  rw[Fe];omega
theorem gF{P:Program}{w:World}:∀{kvs:List (aN×V)} {ws:List (Value×Value)},VV (kvs.map fun kv=>(kV kv.1,kv.2)) ws->∃rs,Carries (aB P w) ws rs/\KV kvs rs
 |[],_,r=>by rw[Gn]at r;cases r;exact⟨[],True.intro,.nil⟩
 |p::kvs,_,r=>by
  rw[Fd]at r
  cases r with
  |@cons a b as bs h t=>
   obtain⟨rs,c,q⟩:=gF (P:=P) (w:=w) t
   obtain⟨b1,b2⟩:=b
   exact⟨(p.1,b2)::rs,⟨gD h.1,rfl,c⟩,.cons ⟨rfl,h.2⟩ q⟩
def uS(zD:List (TE×TE)):TE:=fun σ H Q=>∀p,H p=none->jb zD σ (upd H p (.dK [])) fun ps H2=>H2 p=some (.dK [])/\∃kvs:List (aN×V),ps=kvs.map (fun kv=>(kV kv.1,kv.2))/\kvs.length<=15/\Q (.ref p) (upd H2 p (.dK (bU [] kvs)))
def pE{X:Cx}{pos:Pos}{keys:List (Option Expr)}{values:List Expr}{zD:List (TE×TE)}(h:uR X pos keys values zD)(hall:keys.all (·.isSome)=true)(hl:keys.length=values.length)(h0:keys≠[])
  (Cq:keys.length<=15):PE X (.Dict keys values pos) (uS zD):=by
 intro pins s σ H Q I q
 have hn:=I.hok.fresh (E1 s.heap.objs.size)
 have I1:=I.laid (a:=s.heap.objs.size) (o:=.dK []) (h':=s.heap.push { cls:=.type "dict",data:=.dict #[] }) (t':=s.toks) (fun _ _ q=>EY _ q) (E1 _) (gE s.heap I.big)
 refine wpAny_Dict_walk (knd:=aB X.prog X.w) hall hl h0 Cq (xZ (h pins _ σ _ _ I1 (q _ hn)) fun ws s2 ⟨ps,H2,I2,rel,e,kvs,ep,lk,q2⟩=>?_)
 subst ep
 obtain⟨rs,c,rk⟩:=gF (P:=X.prog) (w:=X.w) rel
 obtain⟨z,hd,vs0,r0,dd⟩:=qL I2.hok e
 cases r0
 refine⟨rs,c,dd,fun h' Bj hs=>⟨.ref s.heap.objs.size,_,?_,rfl,q2⟩⟩
 have hz:(bU [] kvs).length<=sizeLine:=by
  have h1:=bN kvs []
  rw[GI]at h1
  rw[sizeLine_eq];omega
 have he:∃q,h'.get? s.heap.objs.size=some q:=let ⟨q,_,_,hq,_⟩:=Bj;⟨q,hq⟩
 exact ja I2 (by rw[e];exact True.intro) hs he (mY hz hd (rk.merge .nil) Bj)
structure M2 (X:Cx) (o:Expr) (m:Str) (apos:Pos) (e f:Expr) (cpos:Pos):Prop where
 base:attributeBase o m X.env (eval o X.env)=eval o X.env
 few:((backTo cpos (starEach [e,f] X.env)).all (fun x=>!x.1)&&(backToKw cpos (keywordEach [] X.env)).all (fun x=>x.1.isSome)
  && decide (([e,f]:List Expr).length+([]:List Keyword).length+(if ([]:List Keyword).isEmpty then 0 else 1) < 30))=true
 line:(apos.endLine == cpos.line)=true
 trees:backTo cpos (starEach [e,f] X.env)=[(false,eval e X.env),(false,eval f X.env)]
end L2
namespace Att
open PySem PySem.W PySem.Calls PyProof.Rows
def fY{P:Params}{h:Heap}:∀(ns:Vu) (vs:Vv),WellAll P h vs (ns.map WData.int)->IntsAre vs ns:=by
 intro ns
 induction ns with
 |nil=>
  intro vs w
  rw[Gn]at w
  cases w
  exact .nil
 |cons n ns ih=>
  intro vs w
  rw[Fd]at w
  cases w with
  |cons a b=>
   cases a
   exact .cons _ _ (ih _ b)
def lZ{l:OpenLaw}{n:Nat}(hn:l.most=some n){P:Params}{h:Heap}{args:List WData}{vals:Vv}
  (hpre:l.row.toRowW.claim.pre args=true) (hwl:WellAll P h vals args) :
  ∃a vs ns,vals=[Value.ref a]/\args=[WData.list (ns.map WData.int)]/\h.get? a=some { cls:=.type "list",data:=.seq vs.toArray }/\IntsAre vs ns/\ns.length<=n:=by
 have hsh:WShape.hasAll [] args [.list .int]=true:=(pre_splitW hpre).1
 have hc:l.pre.holds [] { args:=args }=true:=(pre_splitW hpre).2
 obtain⟨d,r,rfl,h1,h2⟩:=hasAllW_cons hsh
 obtain rfl:=hasAllW_nil h2
 obtain⟨xs,rfl,h3⟩:=hasW_list h1
 obtain⟨ns,rfl⟩:=items_int h3
 have hlen:ns.length<=n:=by
  unfold OpenLaw.pre at hc
  have h4:(WTm.not (.lt (.lit (.int (n:Int))) (.len (.arg 0)))).holds [] { args:=[.list (ns.map .int)] }=true:=by
   have h4:=(holds_andW hc).1
   rw[hn]at h4
   exact h4
  have h5:=condW_of h4 (w_not (w_lt w_lit (w_len_list (w_arg rfl))))
  rw[E5]at h5
  refine Nat.le_of_not_lt fun q=>?_
  have q':(n:Int) < ((ns.length:Nat):Int):=by omega
  first
   |(rw[G9 q']at h5;exact absurd h5 (by decide))
   |(simp at h5;omega)
 cases hwl with
 |cons w1 w2=>
  cases w2
  cases w1 with
  |list ho hall=>exact⟨_,_,ns,rfl,rfl,ho,fY ns _ hall,hlen⟩
def l0(l:OpenLaw)(args:List WData):l.row.toRowW.claim.post args (.bool true) args=true:=
 postW_of (r:=l.row.toRowW) (X:=(true == true))
  (show WShape.has [] (.bool true) .bool=true by first|rfl|decide|simp[WShape.has,WShape.arms,WShape.armsAll])
  (show(WTm.eq .res (.lit (.bool true))).value [] { args:=args,res:=some (.bool true),after:=args }=some (.bool (true == true))from w_eq_bool (w_res rfl) w_lit) rfl
def jQ{l:OpenLaw}{n:Nat}{q:Program}{loose:Vs}{XP:(Vr)->Heap->Prop}{YP:World->Heap->Prop}{d:DefRec}
  (hn:l.most=some n) (hdf:d.params.defaults=[])
  (call:∀(w:World) (s₀ s₁:Shared) (mg mb:Vr) (fa:Addr) (o:Obj) (pm cd doc:Value) (a:Addr) (vs:Vv) (ns:Vu),
   Ground q loose [] XP w s₀ mg mb s₁.heap->YP w s₁.heap->
   s₁.heap.get? fa=some o->o.data = .func (docDef d.name d.params d.body d.scope pm cd doc)->s₁.heap.CodeRec cd d.name->mg d.name=some (.ref fa)->
   s₁.heap.get? a=some { cls:=.type "list",data:=.seq vs.toArray }->IntsAre vs ns->ns.length<=n->s₁.gens=#[]->
   codeAny (model l.prog w) callerA (.call (.ref fa) ⟨[.ref a],[]⟩) (fun r s'=>r = .ok (.ret (.bool true))/\OldK s₁.heap s'.heap/\s'.os=s₁.os/\AllBare s'.gens) s₁) :
  WalkO q loose XP YP l.row.toRowW d [] (fun f vs=>PySem.call f vs):=by
 intro w s₀ s₁ mg mb G Y fa o pm cd doc dV kV ho hd hcd hD hmg hg args vals as hpre hlay hrd hwl hlo
 obtain rfl:dV = .none:=Dflts.none hD hdf
 obtain rfl:kV = .none:=Dflts.noKw hD
 obtain⟨a,vs,ns,rfl,rfl,hobj,hints,hlen⟩:=lZ hn hpre hwl
 refine enter_call (codeAny_mono (call w s₀ s₁ mg mb fa o pm cd doc a vs ns G Y ho (fd_plain hd) hcd hmg hobj hints hlen hg) fun r s' hq=>?_)
 obtain⟨rfl,h2,h3,h4⟩:=hq
 exact⟨.inl ⟨.bool true,.bool true,[],rfl,fun _=>rfl,.bool true,l0 l _,fun _=>⟨List.Pairwise.nil,fun _ hm=>(nomatch hm)⟩⟩,h2,h3,h4⟩
end Att
namespace L2
open PySem PySem.Spec PyProof.Rows
theorem iI:∀{vs:Vv} {ns:Vu},IntsAre vs ns->Vals (ns.map V.int) vs
 |_,_,.nil=>.nil
 |_,_,.cons n t h=>.cons ⟨t,rfl⟩ (iI h)
noncomputable def bX(s:Stmt):Arguments:=match s with
 | .FunctionDef _ a _ _ _ _ _ _ _ _=>a
 |_=>{ posonlyargs:=[],args:=[],vararg:=none,kwonlyargs:=[],kw_defaults:=[],kwarg:=none,defaults:=[] }
noncomputable def ba(s:Stmt):List Stmt:=match s with
 | .FunctionDef _ _ b _ _ _ _ _ _ _=>b
 |_=>[]
noncomputable def az(s:Stmt):Scope:=match s with
 | .FunctionDef _ _ _ _ _ _ sc _ _ _=>sc
 |_=>{ kind:=.function,names:=[],isGenerator:=false,isCoroutine:=false }
noncomputable abbrev oP:kr:=fun _ _ _ _ _ _=>False
noncomputable abbrev E0:XK:=fun _ _ _=>False
def qM{X:Cx}:i6 oP X E0:=fun _ _ _ _ _ _ _ h=>h.elim
structure A4 (K:Vo) (x qual:Str) (st:Stmt) (f:Addr) (fd:FuncData):Prop where
 ex:∃(oc:Value) (od:Option Addr) (kV doc pm:Value) (an:Option Addr) (cdv ct:Value) (osl:Array (Option Value)),
  fd=PySem.W.fnOf x qual (bX st) (ba st) (az st) .none kV doc pm an cdv ct/\K.lookup f=some ⟨oc,od,.func fd,osl⟩/\PySem.W.codeIn K cdv qual=true
 kp:PySem.W.keepIn K (.ref f)=true
section
variable {P:Program} {w:World} {K:Vo} {mg:Vr} {base:Heap}
def A4.ok{x qual:Str}{st:Stmt}{f:Addr}{fd:FuncData}{N ps:Vs}{k:Nat}{sp:Sp}(F:A4 K x qual st f fd)(S:cg N ps (az st))(len:∀vs H Q E,sp vs H Q E->vs.length=ps.length)
  (hbody:∀(cdv:Value) (A:Around) (outer:List Env) (s:Shared) (H:Hp) (vs:List V) (Q:VK) (E:XK),Room k (A.deeper (envOfC qual (az st) s.heap.objs.size f cdv))->sp vs H Q E->
   ∃t,zY (i7 oP P w K mg base N qual (az st) f cdv A outer s H E).AN (ba st) t/\t { nx:=fun _ H'=>Q .non H',rt:=Q } (bn N vs) H):ig P w K mg base oP (k+1) f fd ps sp:=by
 obtain⟨oc,od,kV,doc,pm,an,cdv,ct,osl,rfl,lk,hcd⟩:=F.ex
 refine uG lk hcd S len fun A outer s H vs Q E hr Ai=>?_
 obtain⟨t,h,q⟩:=hbody cdv A outer s H vs Q E hr Ai
 exact⟨t,h.AN,q⟩
def A4.binds{x qual:Str}{st:Stmt}{f:Addr}{fd:FuncData}{ps:Vs}(F:A4 K x qual st f fd)
  (h:∀(kV doc pm:Value) (an:Option Addr) (cdv ct:Value) (us:Vv),us.length=ps.length->bindArgs (PySem.W.fnOf x qual (bX st) (ba st) (az st) .none kV doc pm an cdv ct) ⟨us,[]⟩=pure (ps.zip us)):Binds K fd ps []:=by
 obtain⟨oc,od,kV,doc,pm,an,cdv,ct,osl,rfl,lk,hcd⟩:=F.ex
 exact .all (h kV doc pm an cdv ct)
def jc{x qual:Str}{st:Stmt}{f:Addr}{oc:Value}{od an:Option Addr}{osl:Array (Option Value)}{kV doc pm cdv ct:Value}(l:K.lookup f=some ⟨oc,od,.func (PySem.W.fnOf x qual (bX st) (ba st) (az st) .none kV doc pm an cdv ct),osl⟩)
  (c:PySem.W.codeIn K cdv qual=true) (k:PySem.W.keepIn K (.ref f)=true):A4 K x qual st f (PySem.W.fnOf x qual (bX st) (ba st) (az st) .none kV doc pm an cdv ct):=⟨⟨oc,od,kV,doc,pm,an,cdv,ct,osl,rfl,l,c⟩,k⟩
end
def cE{n:Nat}(h:n<=1000):n < sizeLine:=GY h (by decide)
section
variable {X:Cx}
def l4:d_ X (.builtin "len") (fun xs H Q=>∃a kvs,xs=[V.ref a]/\H a=some (.dK kvs)/\Q (.int kvs.length) H):=by
 intro pins s σ H xs us Q I r h
 obtain⟨a,kvs,rfl,ha,q⟩:=h
 obtain⟨u,rfl,ru⟩:=fN r
 cases ru
 exact uQ I (.inl ha) fun t s' I'=>⟨.int kvs.length,H,I',⟨t,rfl⟩,q⟩
end
end L2
set_option maxHeartbeats 4000000
namespace L2
open PySem PySem.Spec PyProof.Rows
def jd{prog:Program}{w:World}{A:Around}{R:Result->Shared->Prop}{s:Shared}{elt target iter:Expr}{ifs:List Expr}{scope:Scope}{pos:Pos}{it acc:Value}{env:Env}(I:Nat->Shared->Prop)
  (turn:∀n s,I n s->wpAny (model prog w) A (pyNext it) (fun r s₁=>match r with
   |none=>R (.ok .next) s₁
   |some v=>wpAny (model prog w) A (letOwnedTupleGo target it v) (fun _ s₁'=>wpAny (model prog w) A (assign target env v) (fun _ s₂=>
     wpAny (model prog w) A (forIn ifs true fun c r=>if r=true then do let ok <-isTrue c env (eval c env);pure (ForInStep.yield ok) else pure (ForInStep.yield r)) (fun ok s₃=>
      if ok=true then wpAny (model prog w) A (eval elt env) (fun x s₄=>
       wpAny (model prog w) A (call (.builtin "list.append") [acc,x]) (fun _ s₅=>∃m,m < n/\I m s₅) (fun _ _=>False) s₄) (fun _ _=>False) s₃
      else ∃m,m < n/\I m s₃) (fun _ _=>False) s₂) (fun _ _=>False) s₁') (fun _ _=>False) s₁) (fun _ _=>False) s)
  (n:Nat) (h:I n s) :
  codeAny (model prog w) A (.compLoop (.ListComp elt [⟨target,iter,ifs,0⟩] scope pos) 0 it acc env) R s:=by
 refine codeAny_loop rfl I (fun n s hI=>?_) n h
 show wpAny _ A ((compTurn (.ListComp elt [⟨target,iter,ifs,0⟩] scope pos) 0 it acc env).onRaise (fun x=>do noteFrame x env;theTreesLotGoes x)) _ _ s
 refine wpAny_noted ?_
 rw[compTurn_list]
 refine EX (wpAny_standAt (EX (Gi (turn n s hI) (fun r s₁ h₁=>?_) fun _ _ h'=>h'.elim)))
 cases r with
 |none=>exact E2 h₁
 |some v=>
  refine EX (Gi h₁ (fun _ s₁' h₁'=>?_) fun _ _ h'=>h'.elim)
  refine EX (Gi h₁' (fun _ s₂ h₂=>EX (Gi h₂ (fun ok s₃ h₃=>?_) fun _ _ h'=>h'.elim)) fun _ _ h'=>h'.elim)
  cases ok with
  |false=>exact E2 ⟨rfl,h₃⟩
  |true=>
   exact EX (EX (Gi h₃ (fun x s₄ h₄=>EX (Gi h₄ (fun _ s₅ h₅=>E2 (E2 ⟨rfl,h₅⟩)) fun _ _ h'=>h'.elim)) fun _ _ h'=>h'.elim))
structure Bk where
 C:Addr
 s:Shared
 H:Hp
 fp:List Addr
 pn:Va
noncomputable def bH(env:Env)(fs:Vs):List (Str×Addr):=fs.map fun x=>(x,(env.cells.lookup x).getD 0)
noncomputable abbrev Cx.y2(X:Cx)(N:Vs)(scope:Scope)(fs:Vs)(B:Bk):Cx:=
 { X with N:=N,s₀:=B.s,H₀:=B.H,env:=compEnvC scope (bH X.env fs) B.C X.env,outer:=X.stack,ex:=B.fp,fn:=fun _=>false,pn:=B.pn,xe:=fun _ _=>False }
noncomputable def bw(env:Env):List Str->Prop
 |[]=>True
 |x::r=>(∃c,env.cells.lookup x=some c)/\bw env r
theorem fP{env:Env}:∀{fs:Vs},bw env fs->∀{x:Str} {c:Addr},(bH env fs).lookup x=some c->env.cells.lookup x=some c
 |[],_,x,c,h=>by cases h
 |y::r,k,x,c,h=>by
  obtain⟨⟨d,hd⟩,k⟩:=k
  have h':List.lookup x ((y,(env.cells.lookup y).getD 0)::bH env r)=some c:=h
  rw[HS]at h'
  cases e:x == y with
  |true=>
   rw[e]at h'
   have e':x=y:=by simpa using e
   subst e'
   rw[hd]at h'
   rw[hd]
   exact h'
  |false=>
   rw[e]at h'
   exact fP k h'
noncomputable def je(names:List (Str×NameKind))(cl:List (Str×Addr)):Bool:=names.all fun y=>(y.2 != .cell&&y.2 != .free) || (cl.lookup y.1).isSome
def m4{names:List (Str×NameKind)}{cl:List (Str×Addr)}{x:Str}{k:NameKind}(h:je names cl=true)(e:names.lookup x=some k)(hk:k = .cell\/k = .free):∃c,cl.lookup x=some c:=by
 have hm:(x,k)∈names:=FU e
 have q:=List.all_eq_true.mp h _ hm
 have z:(cl.lookup x).isSome=true:=by
  rcases hk with rfl|rfl
  ·simpa using q
  ·simpa using q
 exact Option.isSome_iff_exists.mp z
noncomputable def yr(env:Env)(scope:Scope)(cl:List (Str×Addr)):List Str->Prop
 |[]=>True
 |x::r=>((env.scope.names.lookup x=some .cell\/env.scope.names.lookup x=some .free)/\((relabel scope env).names.lookup x=some .cell\/(relabel scope env).names.lookup x=some .free)/\cl.lookup x=env.cells.lookup x)/\yr env scope cl r
theorem yr.mem{env:Env}{scope:Scope}{cl:List (Str×Addr)}:∀{l:Vs},yr env scope cl l->∀x∈l,
  (env.scope.names.lookup x=some .cell\/env.scope.names.lookup x=some .free)/\((relabel scope env).names.lookup x=some .cell\/(relabel scope env).names.lookup x=some .free)/\cl.lookup x=env.cells.lookup x
 |[],_,x,h=>nomatch h
 |y::r,k,x,h=>by
  rcases Fg.mp h with rfl|h
  ·exact k.1
  ·exact yr.mem k.2 x h
noncomputable def cF(own:Nat)(fr:List Nat)(σ:St):St:=List.replicate own none++fr.map fun j=>(σ[j]?).getD none
noncomputable abbrev fu(us:Vv):Obj:={ cls:=.type "list",data:=.seq us.toArray us.length }
def l5(us:Vv)(u:Value):({ cls:=.type "list",data:=.seq (us.toArray.push u) (us.length+1) }:Obj)=fu (us++[u]):=by
 show({ cls:=.type "list",data:=.seq (us.toArray.push u) (us.length+1) }:Obj)={ cls:=.type "list",data:=.seq (us++[u]).toArray (us++[u]).length }
 rw[E6,Gd,List.push_toArray]
section
variable {X:Cx} {pins:Va} {σ:St} {H:Hp} {s:Shared}
def Inv.BL{D:Addr}{us:Vv}{n:Nat}{ys:List V}(I:Inv X pins σ H s)(f:d5 X pins H D)(e:s.heap.get? D=some { cls:=.type "list",data:=.seq us.toArray n })(r:Vals ys us)(hz:ys.length<=sizeLine) :
  Inv X pins σ (upd H D (.lst ys)) s:=by
 obtain⟨f0,f1,f2,f3,f4,f5⟩:=f
 have nD:∀b u,H b=some u->b≠D:=fun b u q=>av q f0
 have hok:yZ X.prog X.w (upd H D (.lst ys)) s.heap:=fun b u q=>by
  by_cases hb:b=D
  ·subst hb
   rw[ao]at q
   cases q
   exact⟨hz,us,n,r,e⟩
  ·rw[ak hb]at q
   exact(I.hok b u q).stay (fun _ _ _ z=>z) (fun c z=>by rw[ak (nD c _ z)];exact z) fun c xs z=>by rw[ak (nD c _ z)];exact z
 exact I.step (H':=upd H D (.lst ys)) (h':=s.heap) (g':=s.gens) (t':=s.toks) (d':=s.drawn) (ch:=[D])
  (fun b hb=>by
   have z:b=D:=by simpa using hb
   subst z
   exact⟨f3,f1,f4,f5⟩)
  (fun _ _ _ _ _ q _=>q) (fun _ o _ _ _ q _=>⟨o.slots,q⟩)
  (fun b o hb _ n=>by rw[ak (fun z=>hb (by simp[z]))];exact n)
  (fun _ o _ q=>⟨o,q⟩) (fun b xs q=>by rw[ak (nD b _ q)];exact q) (fun b o u q=>by rw[ak (nD b _ q)];exact q)
  (fun b ps q=>⟨#[],by rw[ak (nD b _ q),q];simp⟩) (fun _ q=>q) hok I.bare
def se{N:Vs}{scope:Scope}{fs:Vs}{C:Addr}{fp:List Addr}(I:Inv X pins σ H s)(hkind:scope.kind = .function)(hC:s.heap.objs.size<=C)(hcl:bw X.env fs)
  (hhas:je (relabel scope X.env).names (bH X.env fs)=true) (hf:∀b∈fp,d5 X pins H b) (hlt:∀b∈fp,b < s.heap.objs.size):(X.y2 N scope fs ⟨C,s,H,fp,X.pn++pins⟩).Ok where
 mod:=I.ok.mod
 kind:=hkind
 glob:=I.ok.glob
 blt:=I.ok.blt
 above:=hC
 inj:=fun x y c h1 h2=>I.ok.inj x y c (fP hcl h1) (fP hcl h2)
 has:=fun x hx=>by
  rcases hx with e|e
  ·exact m4 hhas e (.inl rfl)
  ·exact m4 hhas e (.inr rfl)
 A1:=fun x c h=>by cases h
 hd:=I.ok.hd
 frames:=I.ok.frames
 stk:=.inl rfl
 B2:=fun b hb=>⟨E9 (E7 (hlt b hb) hC),fun x c e=>(hf b hb).2.2.2.2.1 x c (fP hcl e)⟩
 bs:=I.bs
 Ax:=Fc I.ok.Ax I.sz
 Aa:=fun b o e hb=>(hf b hb).2.2.2.1.elim (fun z=>I.ok.Aa b o e z) fun z=>absurd (E7 (E4 e) (Fc I.ok.Ax z)) (Gp _)
 Am:=fun b hb z=>(Fg.mp (I.zr b z)).elim (hf b hb).2.1 (hf b hb).2.2.1
 zj:=I.stack
 AR:=I.Ah
def pF{N:Vs}{scope:Scope}{fs:Vs}{C D:Addr}{fp:List Addr}{own:Nat}{fr:List Nat}{h₁:Heap}{m0:Vr}{t':Nat}(I:Inv X pins σ H s)
  (ok:(X.y2 N scope fs ⟨C,s,H,fp,X.pn++pins⟩).Ok) (hC:s.heap.objs.size<=C) (hD:s.heap.objs.size<=D) (hDC:D≠C) (hcl:bw X.env fs)
  (old:∀b o,s.heap.get? b=some o->h₁.get? b=some o) (hns:h₁.Ns C m0) (hacc:h₁.get? D=some (fu [])) (hlen:N.length=own+fr.length) (hN:(N.drop own).map some=fr.map fun j=>X.N[j]?)
  (hF:yr X.env scope (bH X.env fs) (N.drop own)) :
  Inv (X.y2 N scope fs ⟨C,s,H,fp,X.pn++pins⟩) [(D,fu [])] (cF own fr σ) H { s with heap:=h₁,toks:=t' }:=by
 refine⟨ok,rfl,I.bare,Un.kept old,⟨m0,hns,fun i x v e1 e2 e3=>?_⟩,fun x c e=>?_,I.hok.fresh hC,fun x c e=>(I.yJ x c (fP hcl e)).imp id fun⟨_,z⟩=>⟨rfl,z⟩,fun p hp=>?_,I.hok.kept old,?_⟩
 ·have e1:N[i]?=some x:=e1
  by_cases hi:i < own
  ·unfold cF at e2
   rw[Fp (by rw[FH];exact hi),F2,if_pos hi]at e2
   cases e2
  ·obtain⟨k,rfl⟩:∃k,i=own+k:=⟨i - own,by omega⟩
   have e1':(N.drop own)[k]?=some x:=by rw[List.getElem?_drop];exact e1
   have q:=FI (fun l=>l[k]?) hN
   simp only[Fv,e1',Option.map_some]at q
   unfold cF at e2
   rw[Fq (by rw[FH];omega),FH,Nat.add_sub_cancel_left,Fv]at e2
   cases hj:fr[k]? with
   |none=>rw[hj]at e2;cases e2
   |some j=>
    rw[hj]at e2 q
    simp only[Option.map_some,Option.some.injEq]at e2 q
    have hσ:σ[j]?=some (some v):=by
     cases z:σ[j]? with
     |none=>rw[z]at e2;cases e2
     |some w=>rw[z]at e2;simp only[Option.getD_some]at e2;rw[e2]
    obtain⟨k1,k2,k3⟩:=hF.mem x (GN e1')
    obtain⟨m,hn,hl⟩:=I.loc
    have vis:ua X.env.scope x:=by
     rcases k1 with z|z
     ·exact .inr (.inl z)
     ·exact .inr (.inr z)
    obtain⟨u,ru,l⟩:=hl j x v q.symm hσ vis
    rcases l with⟨hk,_⟩|⟨_,c,hc,o,ho,hd⟩
    ·have hk':X.env.scope.names.lookup x=some .local:=hk
     rcases k1 with z|z
     ·rw[z]at hk';cases hk'
     ·rw[z]at hk';cases hk'
    ·exact⟨u,ru,.inr ⟨k2,c,k3.trans hc,o,old _ _ ho,hd⟩⟩
 ·obtain⟨v,o,ho,hd⟩:=I.cell x c (fP hcl e)
  exact⟨v,o,old _ _ ho,hd⟩
 ·rcases FA.mp hp with z|z
  ·obtain⟨e,n,ne,nf,d⟩:=I.pin p z
   exact⟨old _ _ e,n,E9 (E7 (E4 e) hC),fun q=>(Fg.mp (I.zr _ q)).elim ne nf,d⟩
  ·have z':p=(D,fu []):=by simpa using z
   subst z'
   exact⟨hacc,I.hok.fresh hD,hDC,fun q=>(Fg.mp (I.zr _ q)).elim (fun e=>absurd e (HG (E7 I.lt hD))) (I.BF hD),fun v z=>by cases z⟩
 ·show(cF own fr σ).length=N.length
  unfold cF
  rw[E6,FH,E5,hlen]
end
def PF(X:Cx)(ifs:List Expr)(t:TT):Prop:=
 ∀(pins:Va) (s:Shared) (σ:St) (H:Hp) (Q:Bool->Hp->Prop),Inv X pins σ H s->t σ H Q->
  wpAny (model X.prog X.w) X.A (forIn ifs true fun c r=>if r=true then do let ok <-isTrue c X.env (eval c X.env);pure (ForInStep.yield ok) else pure (ForInStep.yield r)) (TP X pins σ Q) X.xe s
def wB:TT:=fun _ H Q=>Q true H
def sf{X:Cx}:PF X [] wB:=fun _ _ _ H _ I h=>wpAny_tests_nil ⟨H,I,h⟩
def sg{X:Cx}{c:Expr}{t:TT}(h:PT X c t):PF X [c] t:=fun pins s σ H Q I q=>wpAny_tests_one (h pins s σ H Q I q)
def qN(J:It)(g:TG)(tc:TT)(te:TE)(own:Nat)(σ':St)(fin:List V->Hp->Prop)(H1:Hp):Prop:=
 ∃W:Nat->Nat->List V->Hp->Prop,(∃m,W 0 m [] H1)/\∀i m ys H,W i m ys H->
  (J.stop i H/\ys.length<=sizeLine/\fin ys H) \/
  (J.go i H/\ys.length<=sizeLine/\∃Nx:List V->Hp->Prop,(∀ys' H',Nx ys' H'->∃m',m' < m/\W (i+1) m' ys' H')/\∀x H',J.B5 i H x H'->g x σ' H' fun σ2 H2=>σ2.drop own=σ'.drop own/\tc σ2 H2 fun b H3=>
   if b=true then te σ2 H3 fun y H4=>Nx (ys++[y]) H4 else Nx ys H3)
section
variable {X:Cx} {pins:Va} {σ:St} {H:Hp} {s:Shared}
variable {elt iter tg:Expr} {ifs:List Expr} {scope:Scope} {pos:Pos} {N:Vs} {own:Nat} {fr:List Nat} {fs:Vs} {g:TG} {tc:TT} {te:TE}
def gG{J:It}{fp:List Addr}{it:Addr}{tn:Nat->Heap->Prop}{fin:List V->Hp->Prop}{E:Vq}{RR:Value->Addr->Result->Shared->Prop}
  (hc:X.calm=true) (hcell:∀y∈scope.names,y.2 ≠ .cell) (hkind:scope.kind = .function) (hcl:bw X.env fs) (hhas:je (relabel scope X.env).names (bH X.env fs)=true)
  (hlen:N.length=own+fr.length) (hN:(N.drop own).map some=fr.map fun j=>X.N[j]?) (hF:yr X.env scope (bH X.env fs) (N.drop own))
  (hg:∀B,PG (X.y2 N scope fs B) tg g) (hf:∀B,PF (X.y2 N scope fs B) ifs tc) (he:∀B,PE (X.y2 N scope fs B) elt te)
  (I:Inv X pins σ H s) (T:lN X.prog X.w X.K tg J fp it tn) (st:tn 0 s.heap) (f:∀b∈fp,d5 X pins H b) (W:qN J g tc te own (cF own fr σ) fin H)
  (hRR:∀D C s' ys H' m',Inv X pins σ (upd H' D (.lst ys)) s'->H' D=none->s'.heap.Ns C m'->d5 X pins (upd H' D (.lst ys)) C->fin ys H'->RR (.ref D) C (.ok .next) s') :
  wpAny (model X.prog X.w) X.A (newList []) (fun acc s₃=>wpAny (model X.prog X.w) X.A (newFunctionEnv scope X.env.globals (bH X.env fs) [] X.env.qual none .none (some X.env)) (fun cenv s₄=>
   codeAny (model X.prog X.w) X.A (.compStart (.ListComp elt [⟨tg,iter,ifs,0⟩] scope pos) 0 (.ref it) acc { cenv with scope:=relabel scope X.env }) (RR acc cenv.locals) s₄) E s₃) E s:=by
 refine F4 (wpAny_newFunctionEnv hcell (by intro y hy;simp at hy) (fun h₁ Bl AV=>?_) hkind)
 dsimp only at Bl AV ⊢
 generalize Cr:s.heap.push { cls:=.type "list",dict:=none,data:=.seq ([]:Vv).toArray }=H2 at Bl AV ⊢
 have hC:H2.objs.size=s.heap.objs.size+1:=by rw[<-Cr,HK]
 have Bm:s.heap.objs.size<=H2.objs.size:=by rw[hC];exact Nat.le_succ _
 have hDC:s.heap.objs.size≠H2.objs.size:=by rw[hC];exact E9 (Nat.lt_succ_self _)
 have below:∀b,b < s.heap.objs.size->b≠H2.objs.size/\b≠s.heap.objs.size:=fun b hb=>⟨by rw[hC];exact E9 (Nat.lt_succ_of_lt hb),E9 hb⟩
 have old:∀b o,s.heap.get? b=some o->h₁.get? b=some o:=fun b o e=>AV.extBut b o (below b (E4 e)).1 (EY _ (Cr▸EY _ e))
 have hacc:h₁.get? s.heap.objs.size=some (fu []):=AV.extBut _ _ hDC (EY _ (Cr▸E8 _ rfl))
 have hlt:∀b∈fp,b < s.heap.objs.size:=fun b hb=>by
  obtain⟨o,e,_⟩:=T.obj 0 _ st b hb
  exact E4 e
 obtain⟨Wv,⟨m0,w0⟩,turn⟩:=W
 have ok:=se (N:=N) I hkind Bm hcl hhas f hlt
 have loop:∀s₃:Shared,s₃={ s with heap:=h₁,toks:=s.toks+([]:List (Str×Value)).length }->
   codeAny (model X.prog X.w) X.A (.compLoop (.ListComp elt [⟨tg,iter,ifs,0⟩] scope pos) 0 (.ref it) (.ref s.heap.objs.size) (compEnvC scope (bH X.env fs) H2.objs.size X.env))
    (RR (.ref s.heap.objs.size) H2.objs.size) s₃:=by
  rintro s₃ rfl
  have I0:=pF (own:=own) (fr:=fr) (t':=s.toks+([]:List (Str×Value)).length) I ok Bm (E1 _) hDC hcl old Bl hacc hlen hN hF
  have DN:tn 0 h₁:=T.keep 0 _ _ st fun b _ o e=>old b o e
  have stat:∀{us:Vv} {H':Hp},(∀b∈fp,H' b=none)->∀b∈fp,d5 (X.y2 N scope fs ⟨H2.objs.size,s,H,fp,X.pn++pins⟩) [(s.heap.objs.size,fu us)] H' b:=fun{us H'} hn b hb=>by
   obtain⟨f0,f1,f2,f3,f4,f5⟩:=f b hb
   refine⟨hn b hb,(below b (hlt b hb)).1,fun z=>(Fg.mp (I.zr b z)).elim f1 f2,.inl hb,fun x c e=>f4 x c (fP hcl e),fun p hp=>?_⟩
   rcases FA.mp hp with z|z
   ·exact f5 p z
   ·have z':p=(s.heap.objs.size,fu us):=by simpa using z
    subst z'
    exact Gg (below b (hlt b hb)).2
  have Cs:∀p∈X.pn++pins,p.1 < s.heap.objs.size:=fun p hp=>E4 (I.pin p hp).1
  refine jd (fun k s'=>∃i ys us H',Inv (X.y2 N scope fs ⟨H2.objs.size,s,H,fp,X.pn++pins⟩) [(s.heap.objs.size,fu us)] (cF own fr σ) H' s'/\Vals ys us/\tn i s'.heap/\(∀b∈fp,H' b=none)/\Wv i k ys H') ?_ m0
   ⟨0,[],[],H,I0,.nil,DN,fun b hb=>(f b hb).1,w0⟩
  rintro n s' ⟨i,ys,us,H',I',rv,st',Df,w'⟩
  rcases turn i n ys H' w' with⟨stop,hz,Ct⟩|⟨go,hz,Nx,Dg,step⟩
  ·refine xZ (T.done (X.y2 N scope fs ⟨H2.objs.size,s,H,fp,X.pn++pins⟩) rfl rfl rfl hc i _ s' _ H' (fun _ _=>False) I' (stat Df) st' stop) (fun r s1 ⟨hr,I1⟩=>?_)
   subst hr
   show RR _ _ (.ok .next) s1
   have IX:Inv X pins σ H' s1:=I.BH I1.os I1.base I1.hok I1.bare fun b hb=>by
    obtain⟨f0,f1,f2,f3,f4,f5⟩:=f b hb
    exact⟨f3,f1,f4,f5⟩
   obtain⟨eD,nD,_⟩:=I1.pin (s.heap.objs.size,fu us) (by simp)
   have IT:=IX.BL (I.zZ (H':=H') (E1 _) nD) eD rv hz
   obtain⟨m',hn',_⟩:=I1.loc
   exact hRR _ _ s1 ys H' m' IT nD hn' (I.zZ Bm (by rw[ak (Gg hDC)];exact I1.free)) Ct
  ·refine xZ (T.item (X.y2 N scope fs ⟨H2.objs.size,s,H,fp,X.pn++pins⟩) rfl rfl rfl hc i _ s' _ H' (fun _ _=>False) I' (stat Df) st' go) (fun r s1 ⟨u,hr,h1⟩=>?_)
   subst hr
   show wpAny _ _ (letOwnedTupleGo tg (.ref it) u) _ _ s1
   refine xZ h1 (fun _ s5 ⟨x,H5,I5,r5,y5,AS,Cm⟩=>?_)
   have Cn:=I5.pinned (stat Cm) (T.obj _ _ AS)
   refine xZ (hg _ _ s5 _ H5 x u _ Cn r5 (step x H5 y5)) (fun _ s6 ⟨σ6,H6,I6,DO,q6⟩=>?_)
   refine xZ (hf _ _ s6 σ6 H6 _ I6 q6) (fun b s7 ⟨H7,I7,q7⟩=>?_)
   -- Bn the turn's own names
   have forget:∀{H8:Hp} {s8:Shared} {pl:Va},Inv (X.y2 N scope fs ⟨H2.objs.size,s,H,fp,X.pn++pins⟩) pl σ6 H8 s8->Inv (X.y2 N scope fs ⟨H2.objs.size,s,H,fp,X.pn++pins⟩) pl (cF own fr σ) H8 s8:=fun{H8 s8 pl} I8=>by
    refine I8.weak (I0.len.trans I8.len.symm) fun j v e=>?_
    by_cases hj:j < own
    ·unfold cF at e
     rw[Fp (by rw[FH];exact hj),F2,if_pos hj]at e
     cases e
    ·obtain⟨k,rfl⟩:∃k,j=own+k:=⟨j - own,by omega⟩
     rw[<-List.getElem?_drop]at e ⊢
     rw[DO]
     exact e
   have B7:∀{H8:Hp} {s8:Shared},Inv (X.y2 N scope fs ⟨H2.objs.size,s,H,fp,X.pn++pins⟩) ([(s.heap.objs.size,fu us)]++gy fp s5.heap) σ6 H8 s8->∀b∈fp,∀o,s5.heap.get? b=some o->s8.heap.get? b=some o/\H8 b=none:=fun I8 b hb o e=>
    let z:=I8.pin (b,o) (Fo _ (Fo _ (eg hb e)))
    ⟨z.1,z.2.1⟩
   cases b with
   |false=>
    show ∃m,m < n/\_
    obtain⟨m',hm,w7⟩:=Dg _ _ (show Nx ys H7 from q7)
    refine⟨m',hm,i+1,ys,us,H7,(forget I7).zk,rv,T.keep _ _ _ AS fun b hb o e=>(B7 I7 b hb o e).1,fun b hb=>?_,w7⟩
    obtain⟨o,e,_⟩:=T.obj _ _ AS b hb
    exact(B7 I7 b hb o e).2
   |true=>
    show wpAny _ _ (eval elt _) _ _ s7
    have DP:te σ6 H7 fun y H4=>Nx (ys++[y]) H4:=q7
    refine xZ (he _ _ s7 σ6 H7 _ I7 DP) (fun v s8 ⟨y,H8,I8,r8,n8⟩=>?_)
    obtain⟨m',hm,w8⟩:=Dg _ _ n8
    obtain⟨eD,nD,Dh,DQ,_⟩:=I8.pin (s.heap.objs.size,fu us) (Fo _ (Gy _ (by simp)))
    refine append_at (hsz:=by show us.toArray.size<=sizeLine;rw[EZ,<-rv.length];exact hz) eD fun h9 Di DR=>?_
    have J0:Inv (X.y2 N scope fs ⟨H2.objs.size,s,H,fp,X.pn++pins⟩) [] σ6 H8 s8:=I8.zC fun p hp=>nomatch hp
    have J1:Inv (X.y2 N scope fs ⟨H2.objs.size,s,H,fp,X.pn++pins⟩) [] σ6 H8 { s8 with heap:=h9 }:=J0.turned (t':=s8.toks) (it:=s.heap.objs.size) (fun b o hb e=>(Di.2 b hb).trans e) nD Dh (.inr (E1 _))
     (fun x c e z=>by
      obtain⟨v',q⟩:=I.cell x c (fP hcl e)
      exact absurd (E7 q.lt (by rw[z];exact E1 _)) (Gp _))
     (fun p hp=>by
      rw[Gv]at hp
      exact E9 (Cs p hp))
    have J2:Inv (X.y2 N scope fs ⟨H2.objs.size,s,H,fp,X.pn++pins⟩) [(s.heap.objs.size,fu (us++[v]))] σ6 H8 { s8 with heap:=h9 }:=J1.zC fun p hp=>by
     have z':p=(s.heap.objs.size,fu (us++[v])):=by simpa using hp
     subst z'
     exact⟨DR.trans (FI some (l5 us v)),nD,Dh,DQ,fun v z=>by cases z⟩
    refine⟨m',hm,i+1,ys++[y],us++[v],H8,forget J2,Vals.append rv (.cons r8 .nil),T.keep _ _ _ AS fun b hb o e=>(Di.2 b (below b (hlt b hb)).2).trans (B7 I8 b hb o e).1,fun b hb=>?_,w8⟩
    obtain⟨o,e,_⟩:=T.obj _ _ AS b hb
    exact(B7 I8 b hb o e).2
 exact codeAny_compStart_list (loop _ rfl) (T.self _ 0 _ _ _ (T.keep 0 _ _ st fun b _ o e=>old b o e) (loop _ rfl))
def m5(wi:TI)(g:TG)(tc:TT)(te:TE)(own:Nat)(fr:List Nat):TE:=fun σ H Q=>wi σ H fun J H1=>
 qN J g tc te own (cF own fr σ) (fun ys H2=>∀D,H2 D=none->Q (.ref D) (upd H2 D (.lst ys))) H1
def pG(fs:Vs)(own:Nat)(fr:List Nat)(N:Vs){wi:TI}(hc:X.calm=true)(hclos:closureFor scope X.env=pure (bH X.env fs))(hcell:∀y∈scope.names,y.2 ≠ .cell)(hkind:scope.kind = .function)
  (hnames:∀x∈scope.names,x.2 = .local->scope.names.lookup x.1=some .local) (hcl:bw X.env fs) (hhas:je (relabel scope X.env).names (bH X.env fs)=true)
  (hlen:N.length=own+fr.length) (hN:(N.drop own).map some=fr.map fun j=>X.N[j]?) (hF:yr X.env scope (bH X.env fs) (N.drop own))
  (hi:PI X tg iter wi) (hg:∀B,PG (X.y2 N scope fs B) tg g) (hf:∀B,PF (X.y2 N scope fs B) ifs tc) (he:∀B,PE (X.y2 N scope fs B) elt te)
  (hs:∀x,foldedSetIterable iter X.env x=pure x:=by intro _;rfl):PE X (.ListComp elt [⟨tg,iter,ifs,0⟩] scope pos) (m5 wi g tc te own fr):=by
 intro pins s σ H Q I h
 rw[eval_ListComp]
 refine wpAny_comprehension_free (use:=none) (g:=⟨tg,iter,ifs,0⟩) (gs:=[]) rfl hs hclos hkind hnames (xZ (hi pins s σ H _ I h) fun v s1 h1=>xZ h1 fun itv s2 h2=>?_)
 obtain⟨it,fp,tn,J,H2,e,I2,T,st2,f2,W⟩:=h2
 subst e
 refine gG (RR:=fun acc C=>compPost (model X.prog X.w) X.A X.xe none (EP X pins σ Q) acc C) hc hcell hkind hcl hhas hlen hN hF hg hf he I2 T st2 f2 W ?_
 intro D C s' ys H' m' I' nD hn fC fin
 exact⟨m',hn,fun h' hs'=>⟨.ref D,_,I'.turned (t':=s'.toks) (fun b o hb e=>(hs'.2 b hb).trans e) fC.1 fC.2.1 fC.2.2.2.1 fC.2.2.2.2.1 fC.2.2.2.2.2,rfl,fin D nD⟩⟩
def pH(fs:Vs)(own:Nat)(fr:List Nat)(N:Vs){wi:TI}{i:Nat}{y:Str}{py spos:Pos}(hX:X.N.Nodup)(hix:X.N[i]?=some y)(hy:X.env.scope.names.lookup y=some .local)
  (hsw:swapsWith (.ListComp elt [⟨tg,iter,ifs,0⟩] scope pos) (some (.Name y py)) spos.line X.env=pure true)
  (hc:X.calm=true) (hclos:closureFor scope X.env=pure (bH X.env fs)) (hcell:∀y∈scope.names,y.2 ≠ .cell) (hkind:scope.kind = .function)
  (hnames:∀x∈scope.names,x.2 = .local->scope.names.lookup x.1=some .local) (hcl:bw X.env fs) (hhas:je (relabel scope X.env).names (bH X.env fs)=true)
  (hlen:N.length=own+fr.length) (hN:(N.drop own).map some=fr.map fun j=>X.N[j]?) (hF:yr X.env scope (bH X.env fs) (N.drop own))
  (hi:PI X tg iter wi) (hg:∀B,PG (X.y2 N scope fs B) tg g) (hf:∀B,PF (X.y2 N scope fs B) ifs tc) (he:∀B,PE (X.y2 N scope fs B) elt te)
  (hs:∀x,foldedSetIterable iter X.env x=pure x:=by intro _;rfl):PS X (.Assign [.Name y py] (.ListComp elt [⟨tg,iter,ifs,0⟩] scope pos) spos) (o7 (m5 wi g tc te own fr) (jK i)):=by
 intro pins s σ H D I h
 rw[exec_Assign_Name_used _ _ _ _ hsw]
 refine EX (wpAny_standAt (EX ?_))
 show wpAny _ X.A (do let _ <-comprehension (.ListComp elt [⟨tg,iter,ifs,0⟩] scope pos) scope X.env _ (newList []) false (eval iter X.env) (some (assign (.Name y py) X.env))) _ _ s
 refine EX (Gi (wpAny_comprehension_free (use:=some (assign (.Name y py) X.env)) (Q:=fun _ s'=>SP X pins D .next s') (g:=⟨tg,iter,ifs,0⟩) (gs:=[]) rfl hs hclos hkind hnames
  (xZ (hi pins s σ H _ I h) fun v s1 h1=>xZ h1 fun itv s2 h2=>?_)) (fun _ s' hq=>E2 (E2 hq)) fun _ _ e=>e)
 obtain⟨it,fp,tn,J,H2,e,I2,T,st2,f2,W⟩:=h2
 subst e
 refine gG (RR:=fun acc C=>compPost (model X.prog X.w) X.A X.xe (some (assign (.Name y py) X.env)) (fun _ s'=>SP X pins D .next s') acc C) hc hcell hkind hcl hhas hlen hN hF hg hf he I2 T st2 f2 W ?_
 intro Da C s' ys H' m' I' nD hn fC fin
 show wpAny _ X.A (assign (.Name y py) X.env (.ref Da)) _ _ s'
 refine wpAny_assign_Name (iz (v:=.ref Da) I' hX hix (.inl hy) rfl (fun s2 I3 ⟨a,sb,ha⟩=>?_) (.inr hy))
 have ca:C≠a:=by
  rcases ha with z|z
  ·rw[z];exact fC.2.1
  ·exact Gg (fC.2.2.2.2.1 _ _ z)
 exact⟨m',hn.sameBut sb ca,fun h' hs'=>⟨_,_,I3.turned (t':=s2.toks) (fun b o hb e=>(hs'.2 b hb).trans e) fC.1 fC.2.1 fC.2.2.2.1 fC.2.2.2.2.1 fC.2.2.2.2.2,fin Da nD⟩⟩
end
end L2
namespace PySem
open Sem (wp)
namespace F
def l6:typeLookup (.type "list_reverseiterator") "__len__" = pure none:=by rw[GJ,Ge];kernel_rfl
def m6:typeLookup (.type "list_reverseiterator") "__length_hint__" = pure (some (.builtin "list_reverseiterator.__length_hint__")):=by rw[GJ,Ge];kernel_rfl
end F
section
variable {prog:Program} {w:World} {A:Around} {s:Shared} {R:Result->Shared->Prop}
variable {I:Addr} {fp wr:List Addr} {G:Array GenState->Array GenState->Prop} {n:Nat} {P:Nat->Value->Prop} {St:Nat->Shared->Prop}
def kJ(W:WalksS prog w A.in1 I fp wr G n P St)(hT:∀i s,St i s->s.TypeIs (.ref I) "list_reverseiterator")(S:Addr)(res:Value)(c₀:Nat)(hst:St 0 s)(hSf:S ∉ fp)(hI:I∈fp)
  (hS:s.heap.get? S=some { cls:=.type "list",data:=.seq #[] c₀ })
  (hR:∀s' acc' c',Moved (S::wr) G s s'->s'.heap.get? S=some { cls:=.type "list",dict:=none,data:=.seq acc' c',slots:=#[] }->ItemsOf P acc' n->R (.ok (.ret res)) s') (hn:n<=sizeLine) :
  wpAny (model prog w) A.in1 (Builtin.List.listExtendWith (.ref S) (.ref I) res)
   (fun fin s'=>match fin with | .done f=>R (.ok f) s' | .again c'=>c'.quiet=true/\codeAny (model prog w) A c' R s') (fun e s'=>R (.error e) s') s:=by
 have hSI:S≠I:=fun e=>hSf (e▸hI)
 have h1:Builtin.List.listSameRef (.ref S) (.ref I)=false:=by simp[Builtin.List.listSameRef,hSI]
 unfold Builtin.List.listExtendWith
 refine EX (Gm (hT 0 _ hst) ?_)
 rw[if_neg (by rw[h1];decide)]
 refine EX (W.self 0 _ _ _ hst ?_)
 refine EX (FG ?_)
 unfold Builtin.List.listLengthHint
 refine EX (Hv (hT 0 _ hst) F.l6 ?_)
 show wpAny _ A.in1 (specialOf (Value.ref I) (Str.ofString "__length_hint__") >>= _) _ _ _
 refine EX (Hv (hT 0 _ hst) F.m6 ?_)
 (generalize hid:("list_reverseiterator.__length_hint__":String)=DS;wp_delta;rw[show splitId DS=some ("list_reverseiterator","__length_hint__")from by subst hid;decide +kernel];subst hid)
 refine EX (wpAny_isInstance (b:=true) (hT 0 _ hst) (by rw[isSubtype_type];kernel_rfl) ?_)
 refine E2 ?_
 rw[if_neg (by decide)]
 exact E2 ⟨Gh F8 _,codeAny_extend_loopS W hn _ hSf _ n 0 _ _ _ rfl (FN _) hst hS (ItemsOf.nil P) fun s' acc' c' hm hS' hacc=>hR s' acc' c' hm hS' hacc⟩
def ik(W:WalksS prog w A.in1 I fp wr G n P St)(hT:∀i s,St i s->s.TypeIs (.ref I) "list_reverseiterator")(S:Addr)(hst:St 0 s)(hSf:S ∉ fp)(hI:I∈fp)
  (hS:s.heap.get? S=some { cls:=.type "list",data:=.seq #[] })
  (hR:∀s' acc' c',Moved (S::wr) G s s'->s'.heap.get? S=some { cls:=.type "list",dict:=none,data:=.seq acc' c',slots:=#[] }->ItemsOf P acc' n->R (.ok (.ret .none)) s') (hn:n<=sizeLine) :
  wpAny (model prog w) A.in1 (Builtin.«list.__init__» ⟨[.ref S,.ref I],[]⟩)
   (fun fin s'=>match fin with | .done f=>R (.ok f) s' | .again c'=>c'.quiet=true/\codeAny (model prog w) A c' R s') (fun e s'=>R (.error e) s') s:=by
 show wpAny _ A.in1 (do let old <-Builtin.List.listItems (.ref S);Builtin.List.listUpdate (.ref S) (fun _=>#[]);letGo old.toList.reverse;Builtin.List.listExtendWith (.ref S) (.ref I) .none) _ _ s
 refine EX ?_
 unfold Builtin.List.listItems
 refine EX (Hf hS rfl (E2 ?_))
 show wpAny _ A.in1 (updateSeq S (fun _=>#[]) >>= fun _=>letGo (#[]:Vw).toList.reverse >>= fun _=>Builtin.List.listExtendWith (.ref S) (.ref I) .none) _ _ s
 refine EX (GX hS rfl ?_)
 have B8:=Gb (Obj.mapSeq (fun _=>(#[]:Vw))) hS rfl
 have yA:∀b o,b≠S->s.heap.get? b=some o->(s.heap.update S (Obj.mapSeq (fun _=>(#[]:Vw)))).get? b=some o:=
  fun b o hb e=>(FT _ _ (Gg hb)).trans e
 refine EX (wpAny_letGo ?_)
 refine kJ (hn:=hn) W hT S .none _ (W.frame 0 s _ s.toks hst (E1 _) fun b hb o e=>yA b o (fun h=>hSf (h▸hb)) e) hSf hI B8 fun s' acc' c' hm hS' hacc=>?_
 exact hR s' acc' c' (Moved.trans W.gtrans ((Moved.refl W.grefl).then_heap (E1 _) fun b o hb e=>yA b o (fun h=>hb (h▸FZ)) e) hm) hS' hacc
end
section
variable {prog:Program} {w:World} {A:Around} {E:Vq} {s:Shared}
def il{I l:Addr}{items:Vw}{Q:Vq}(hh:A.handled=none)(hl:s.heap.IsList l items)(hit:s.heap.IsRevIter I l ((items.size:Int) - 1))(hne:l≠I)(hn:items.size<=sizeLine)
  (hQ:∀h' tk acc' c',(∀b o,b≠I->s.heap.get? b=some o->h'.get? b=some o)->h'.get? s.heap.objs.size=some { cls:=.type "list",dict:=none,data:=.seq acc' c',slots:=#[] }->
   acc'.toList=items.toList.reverse->Q (.ref s.heap.objs.size) { s with heap:=h',toks:=tk }) :
  wpAny (model prog w) A (call (.type "list") [.ref I]) Q E s:=by
 have W:=(Walks.listRev (prog:=prog) (w:=w) (A:=A.in1.in1) hh I l hne items).toS
 have Cu:I < s.heap.objs.size:=by obtain⟨o,ho,_⟩:=hit;exact E4 ho
 have Cv:l < s.heap.objs.size:=by obtain⟨o,ho,_⟩:=hl;exact E4 ho
 have hfp:∀b∈[I,l],b < s.heap.objs.size:=fun b hb=>by
  rcases Fg.mp hb with rfl|hb
  ·exact Cu
  ·rw[FO.mp hb];exact Cv
 have hSf:s.heap.objs.size ∉ [I,l]:=fun hm=>Gp _ (hfp _ hm)
 have hst:(fun i (s:Shared)=>i<=items.size/\s.heap.IsRevIter I l ((items.size:Int) - 1 - (i:Int))/\s.heap.IsList l items) 0 s:=⟨FN _,by simpa using hit,hl⟩
 refine HL (Q₁:=fun obj s₁=>obj = .ref s.heap.objs.size/\s₁={ s with heap:=s.heap.push { cls:=.type "list",data:=.seq #[] } }) F.called_list (F.typeCall_list_1 _) F.entry_list_init
  (code_list_new _ ⟨rfl,rfl⟩) fun obj s₁ h₁=>?_
 obtain⟨rfl,rfl⟩:=h₁
 have hS:(s.heap.push { cls:=.type "list",data:=.seq #[] }).get? s.heap.objs.size=some { cls:=.type "list",data:=.seq #[] }:=E8 _ rfl
 refine⟨⟨_,hS,rfl⟩,F.args_list_init_2 _ _,ik (hn:=hn) W (fun i s st=>st.2.1.typeIs) _ (W.frame 0 s _ s.toks hst (E1 _) fun b _ o e=>EY _ e) hSf (FZ ..) hS fun s' acc' c' hm hS' hacc=>?_⟩
 refine⟨rfl,?_⟩
 rw[hm.eq_with]
 refine hQ s'.heap s'.toks acc' c' (fun b o hb e=>hm.heap b o (fun z=>?_) (EY _ e)) hS' ?_
 ·rcases Fg.mp z with z|z
  ·exact absurd (E4 e) (by rw[z];exact Gp _)
  ·exact hb (FO.mp z)
 ·obtain⟨hsz,hP⟩:=hacc
  apply List.ext_getElem?
  intro j
  by_cases hj:j < items.size
  ·have hj':j < acc'.size:=by rw[hsz];exact hj
   have q:=hP j acc'[j] (by simp[hj'])
   have e1:acc'.toList[j]?=some acc'[j]:=by simp[hj']
   rw[e1,List.getElem?_reverse (by simpa using hj)]
   simpa using q.symm
  ·rw[Gs (by simpa [hsz]using hj),Gs (by simpa using hj)]
end
end PySem
namespace L2
open PySem PySem.Spec PyProof.Rows
section
variable {X:Cx}
def m7(K:Vo)(te:TE):TE:=fun σ H Q=>te σ H fun x H1=>∃a xs,x = .ref a/\SqL K H1 a xs/\∀q,H1 q=none->Q (.ref q) (upd H1 q (.lst xs.reverse))
def kK{e:Expr}{te:TE}{p1 p2 q1 q2:Pos}(hc:X.calm=true)(he:PE X e te)(Bo:Gl X "list")(hm1:X.mg "list" = none)(AW:Gl X "reversed")(hm2:X.mg "reversed" = none)
  (hs:starEach [e] X.env=[(false,eval e X.env)]:=by rfl) (hs2:starEach [.Call (.Name "reversed" p2) [e] [] q2] X.env=[(false,eval (.Call (.Name "reversed" p2) [e] [] q2) X.env)]:=by rfl) :
  PE X (.Call (.Name "list" p1) [.Call (.Name "reversed" p2) [e] [] q2] [] q1) (m7 X.K te):=by
 intro pins s σ H Q I h
 refine F0 (dn I Bo hm1 (u:=.type "list") (by decide +kernel) ?_)
 refine FJ ?_ hs2 rfl
 rw[hs2]
 show wpAny _ _ (spliced ((false,eval (.Call (.Name "reversed" p2) [e] [] q2) X.env)::backTo q1 [])) _ _ s
 refine Gr ?_
 refine F0 (dn I AW hm2 (u:=.type "reversed") boot_reversed ?_)
 refine FJ ?_ hs rfl
 rw[hs]
 show wpAny _ _ (spliced ((false,eval e X.env)::backTo q2 [])) _ _ s
 refine Gr (xZ (he pins s σ H _ I h) fun u s1 ⟨x,H1,I1,r1,a,xs,ex,hx,q⟩=>?_)
 subst ex
 cases r1
 obtain⟨its,rv,p,hz⟩:=I1.list hx
 have hl:=rv.length
 have hal:a < s1.heap.objs.size:=by obtain⟨o,ho,_⟩:=p.isList;exact E4 ho
 refine GK (call_reversed_list p.isList ?_)
 refine GK ?_
 refine il (I.ok.hd hc) (p.isList.push _) ⟨_,E8 _ rfl,rfl,rfl⟩ (E9 hal) (by rw[EZ,<-hl];exact hz) fun h' tk acc c hk hS ha=>?_
 have hsz:(s1.heap.push (revObj a ((its.toArray.size:Int) - 1))).objs.size=s1.heap.objs.size+1:=HK _ _
 have hle:s1.heap.objs.size<=(s1.heap.push (revObj a ((its.toArray.size:Int) - 1))).objs.size:=by rw[hsz];exact Nat.le_succ _
 refine⟨.ref _,_,I1.laid (a:=(s1.heap.push (revObj a ((its.toArray.size:Int) - 1))).objs.size) (o:=.lst xs.reverse) (h':=h') (t':=tk) (fun b u e=>hk b u (E9 (E4 e)) (EY _ e)) hle ?_,rfl,q _ (I1.hok.fresh hle)⟩
 refine⟨by rw[List.length_reverse];exact hz,its.reverse,c,Vals.reverse rv,?_⟩
 rw[hS]
 have e:acc=its.reverse.toArray:=by
  apply Array.toList_inj.mp
  rw[ha]
 rw[e]
end
section
variable {X:Cx}
noncomputable abbrev jf(c:Nat):Str:=⟨#[c]⟩
noncomputable def wC(z:Str):It:=⟨fun i _=>i < z.cps.size,fun i H x H'=>H'=H/\∃c,z.cps[i]?=some c/\x = .str (jf c),fun i _=>z.cps.size<=i⟩
def m8{P:Program}{w:World}{K:Vo}{tg:Expr}{ty:String}(hty:ty = "str_ascii_iterator" \/ ty = "str_iterator")(it:Addr)(z:Str)(t:Tok):lN P w K tg (wC z) [it] it (fun i h=>i<=z.cps.size/\h.IsStrIter it ty z t i):=by
 have W:∀A':Around,A'.handled=none->Walks P w A' it [it] [it] z.cps.size (SignAt z) (fun i h=>h.IsStrIter it ty z t i):=fun A' hA=>by
  rcases hty with rfl|rfl
  ·exact Walks.strAscii hA it z t
  ·exact Walks.strWide hA it z t
 have nt:(["enumerate","zip","dict_itemiterator","dict_reverseitemiterator","odict_iterator","itertools.zip_longest","itertools.pairwise"].contains ty)=false:=by
  rcases hty with rfl|rfl<;>decide
 refine⟨by simp,fun i h st b hb=>?_,fun i h h' st k=>?_,?_,?_,?_⟩
 ·have e:b=it:=by simpa using hb
  subst e
  obtain⟨_,o,e,c,d⟩:=st
  exact⟨o,e,fun v q=>by rw[d]at q;cases q⟩
 ·obtain⟨hi,o,e,r⟩:=st
  exact⟨hi,o,k it (by simp) o e,r⟩
 ·intro X hP hw hK hc i pins s σ H E I hf st hg
  subst hP hw hK
  obtain⟨f0,f1,f2,f3,f4,f5⟩:=hf it (by simp)
  refine(W X.A (I.ok.hd hc)).item i s _ _ hg st.2 fun v h' tk hv st' kk=>?_
  obtain⟨c,u,hcp,rfl⟩:=hv
  have I1:Inv X pins σ H { s with heap:=h',toks:=tk }:=I.turned (fun b o hb e=>kk b o (by simpa using hb) e) f0 f1 f3 f4 f5
  obtain⟨o,e,co,d⟩:=id st'
  exact⟨_,rfl,li (s:={ s with heap:=h',toks:=tk }) e co d nt ⟨.str (jf c),H,I1,⟨u,rfl⟩,⟨rfl,c,hcp,rfl⟩,⟨hg,st'⟩,fun b hb=>(hf b hb).1⟩⟩
 ·intro X hP hw hK hc i pins s σ H E I hf st hg
  subst hP hw hK
  obtain⟨f0,f1,f2,f3,f4,f5⟩:=hf it (by simp)
  have e:i=z.cps.size:=Nat.le_antisymm st.1 hg
  subst e
  exact(W X.A (I.ok.hd hc)).done s _ _ st.2 fun h' tk kk=>⟨rfl,I.turned (fun b o hb e=>kk b o (by simpa using hb) e) f0 f1 f3 f4 f5⟩
 ·intro A i s Q E st h
  rcases hty with rfl|rfl
  ·exact wpAny_pyIter_striter_ascii st.2 h
  ·exact wpAny_pyIter_striter_wide st.2 h
def pI{ys:Vs}:∀{us:Vv},Vals (ys.map V.str) us->StrsAre us ys:=by
 induction ys with
 |nil=>intro us r;rw[Gn]at r;cases r;exact .nil
 |cons n ns ih=>
  intro us r
  rw[Fd]at r
  cases r with
  |cons r1 r2=>
   obtain⟨t,e⟩:=r1
   subst e
   exact .cons n t (ih r2)
noncomputable def uT(K:Vo):V->List V->Hp->VK->Prop:=fun x vs H Q=>∃sep p ys,x = .str sep/\vs=[.ref p]/\SqL K H p (ys.map V.str)/\(ys.map (·.length)).sum+ys.length * sep.length<=1000000/\Q (.str (Txt.join sep ys)) H
def pJ:uJ X "str.join" (uT X.K):=by
 intro pins s σ H x vs v us Q I rx rv h
 obtain⟨sep,p,ys,rfl,rfl,hp,hz,q⟩:=h
 obtain⟨t,rfl⟩:=rx
 obtain⟨u,rfl,ru⟩:=fN rv
 cases ru
 obtain⟨its,r,pl,_⟩:=I.list hp
 exact join_list pl.isList (by simpa using pI r) (by omega) fun t' k=>⟨.str _,H,I.tok k,⟨t',rfl⟩,q⟩
end
section
variable {X:Cx}
noncomputable def wD:V->Option Int->Option Int->Hp->VK->Prop:=fun x lo hi H Q=>∃z,x = .str z/\z.length<=sizeLine/\Q (.str (Txt.slice z lo hi)) H
def si:tV X wD:=by
 intro pins s σ H x v vl vu lo hi sl Q I rx hs pl pu h
 obtain⟨z,rfl,hz,q⟩:=h
 obtain⟨t,rfl⟩:=rx
 refine⟨"str",_,F.slot_str_getitem.lookup,typeIs_str _ _ _,?_⟩
 obtain⟨o,e,c,d⟩:=hs
 have fin:∀l u:Option (Int×Tok),(vl=partValue l/\lo=l.map (·.1))->(vu=partValue u/\hi=u.map (·.1))->wpAny (model X.prog X.w) X.A (getItem (.str z t) (.ref sl)) (EP X pins σ Q) X.xe s:=by
  rintro l u ⟨rfl,rfl⟩ ⟨rfl,rfl⟩
  exact wpAny_getItem_str_slice (l:=l) (u:=u) (st:=none) ⟨o,e,c,d⟩ rfl (post_val_or_str ⟨Fc (Txt.slice_le z _ _) hz,fun t' k=>⟨.str _,H,I.tok k,⟨t',rfl⟩,q⟩⟩)
 cases pl with
 |none=>
  cases pu with
  |none=>exact fin none none ⟨rfl,rfl⟩ ⟨rfl,rfl⟩
  |int j uj=>exact fin none (some (j,uj)) ⟨rfl,rfl⟩ ⟨rfl,rfl⟩
 |int i ui=>
  cases pu with
  |none=>exact fin (some (i,ui)) none ⟨rfl,rfl⟩ ⟨rfl,rfl⟩
  |int j uj=>exact fin (some (i,ui)) (some (j,uj)) ⟨rfl,rfl⟩ ⟨rfl,rfl⟩
noncomputable def sj:V->List V->Hp->VK->Prop:=fun x vs H Q=>∃a b i rest,x = .str a/\vs=[.str b]/\Builtin.Str.occurrences a b 0 a.length 1=i::rest/\Q (.int i) H
def m9:uJ X "str.index" sj:=by
 intro pins s σ H x vs v us Q I rx rv h
 obtain⟨a,b,i,rest,rfl,rfl,ho,q⟩:=h
 obtain⟨t,rfl⟩:=rx
 obtain⟨w,rfl,u,rfl⟩:=fN rv
 exact call_gives F.slot_str_index (typeIs_str _ _ _) F.entry_str_index (F.args_str_index_2 _ _) (gives_str_index a b t u i rest ho) ⟨.int i,H,I.tok _,⟨_,rfl⟩,q⟩
def sk(K:Vo)(i j k:Nat)(te:TE):TS:=fun D σ H=>te σ H fun x H1=>∃p v w u,x = .ref p/\yK K H1 p [v,w,u]/\D.nx (((σ.set k (some u)).set j (some w)).set i (some v)) H1
def m_{i j k:Nat}{x y z:Str}{e:Expr}{te:TE}{px py pz pt:Pos}{kt:Nat}{pos:Pos}(hc:X.calm=true)(hN:X.N.Nodup)(hi:X.N[i]?=some x)(hj:X.N[j]?=some y)(hk:X.N[k]?=some z)
  (hx:X.env.scope.names.lookup x=some .local) (hy:X.env.scope.names.lookup y=some .local) (hz:X.env.scope.names.lookup z=some .local) (he:PE X e te)
  (hw:swappedStores [.Tuple [.Name x px,.Name y py,.Name z pz] kt pt] e X.env=pure (some [x,y,z]))
  (hs:swapsWithSole [.Tuple [.Name x px,.Name y py,.Name z pz] kt pt] e pos.line X.env=pure false) :
  PS X (.Assign [.Tuple [.Name x px,.Name y py,.Name z pz] kt pt] e pos) (sk X.K i j k te):=by
 intro pins s σ H D I h
 refine Assign_Tuple_swapped (names:=[x,y,z]) (xZ (he pins s σ H _ I h) fun r s1 ⟨xr,H1,I1,r1,p,v,w,u,ex,hp,q⟩=>?_) hs hw
 subst ex
 cases r1
 obtain⟨its,rv,tp,_⟩:=I1.tuple hp
 obtain⟨u1,u2,u3,ei,a1,a2,a3⟩:∃u1 u2 u3,its=[u1,u2,u3]/\RelV v u1/\RelV w u2/\RelV u u3:=by
  cases rv with
  |cons a1 rv=>
   cases rv with
   |cons a2 rv=>
    cases rv with
    |cons a3 rv=>
     cases rv
     exact⟨_,_,_,rfl,a1,a2,a3⟩
 subst ei
 refine unpackItems_tuple (items:=#[u1,u2,u3]) (I.ok.hd hc) tp fun h' kp=>?_
 have I2:=I1.kept (h':=h') (t':=s1.toks) fun b o eb=>kp b o (E9 (E4 eb)) eb
 refine Gq (G1 (bR I2 hN hk (.inl hz) a3 (fun s2 I3=>?_) (.inr hz)))
 refine Gq (G1 (bR I3 hN hj (.inl hy) a2 (fun s3 I4=>?_) (.inr hy)))
 exact Gq (G1 (bR I4 hN hi (.inl hx) a1 (fun s4 I5=>assignInOrder_nil ⟨_,H1,I5,q⟩) (.inr hx)))
end
end L2
namespace Zt
open PySem
open Sem (wp)
end Zt
namespace L2
open PySem PySem.Spec PyProof.Rows
section
variable {X:Cx} {pins:Va} {σ:St} {H:Hp} {s:Shared} {h':Heap}
def Inv.AC{D:Addr}{us:Vv}{ys:List V}(I:Inv X pins σ H s)(f:d5 X pins H D)(e:yq s.heap D us.toArray)(r:Vals ys us)(hz:ys.length<=sizeLine) :
  Inv X pins σ (upd H D (.tup ys)) s:=by
 obtain⟨f0,f1,f2,f3,f4,f5⟩:=f
 have nD:∀b u,H b=some u->b≠D:=fun b u q=>av q f0
 have hok:yZ X.prog X.w (upd H D (.tup ys)) s.heap:=fun b u q=>by
  by_cases hb:b=D
  ·subst hb
   rw[ao]at q
   cases q
   exact⟨hz,us,r,e⟩
  ·rw[ak hb]at q
   exact(I.hok b u q).stay (fun _ _ _ z=>z) (fun c z=>by rw[ak (nD c _ z)];exact z) fun c xs z=>by rw[ak (nD c _ z)];exact z
 exact I.step (H':=upd H D (.tup ys)) (h':=s.heap) (g':=s.gens) (t':=s.toks) (d':=s.drawn) (ch:=[D])
  (fun b hb=>by
   have z:b=D:=by simpa using hb
   subst z
   exact⟨f3,f1,f4,f5⟩)
  (fun _ _ _ _ _ q _=>q) (fun _ o _ _ _ q _=>⟨o.slots,q⟩)
  (fun b o hb _ n=>by rw[ak (fun z=>hb (by simp[z]))];exact n)
  (fun _ o _ q=>⟨o,q⟩) (fun b xs q=>by rw[ak (nD b _ q)];exact q) (fun b o u q=>by rw[ak (nD b _ q)];exact q)
  (fun b ps q=>⟨#[],by rw[ak (nD b _ q),q];simp⟩) (fun _ q=>q) hok I.bare
end
section
variable {X:Cx}
def KD(P:Program)(w:World)(K:Vo)(a:Addr)(kvs:List (aN×V)):Prop:=(a == sysModules)=false/\∃o vs,K.lookup a=some o/\KV kvs vs/\Obj.IsDictOf (aB P w) o vs
def uU(a:Addr)(kvs:List (aN×V))(ty tx:TE):TE:=fun σ H Q=>ty σ H fun y H2=>tx σ H2 fun z H3=>∃k,y=kV k/\Q ((eh kvs k).getD z) H3
def pK{x:Str}{e f:Expr}{px apos cpos:Pos}{ty tx:TE}{a:Addr}{kvs:List (aN×V)}(hu:X.A.units+1 < cLine)(hg:Gl X x)(hm:X.mg x=some (.ref a))(hD:KD X.prog X.w X.K a kvs)(he:PE X e ty)(hf:PE X f tx)(m:M2 X (.Name x px) "get" apos e f cpos)
  (hd:(x == ("__debug__":Str))=false:=by decide):PE X (.Call (.Attribute (.Name x px) "get" apos) [e,f] [] cpos) (uU a kvs ty tx):=by
 intro pins s σ H Q I h
 obtain⟨hsys,o,vs,hk,rel,ii⟩:=hD
 have dd:∀{s1:Shared} {H1:Hp},Inv X pins σ H1 s1->s1.heap.DictOf (aB X.prog X.w) a vs:=fun I1=>Heap.dictOf_iff.mpr ⟨o,I1.AM a o hk,ii⟩
 refine wpAny_Call_method m.base m.few m.line PySem.F.plainAttrs_dict PySem.F.slot_dict_get PySem.F.type_dict_get (lh I hg hm ?_ hd)
 refine⟨(dd I).typeIs,fun b q=>?_,?_⟩
 ·cases q
  obtain⟨ob,_,_,h1,h2,_⟩:=dd I
  exact⟨ob,h1,h2.2.1⟩
 rw[m.trees]
 refine G7 rfl (Hr (Gr (xZ (he pins s σ H _ I h) fun iv s2 ⟨y,H2,I2,ry,q2⟩=>
  Gr (xZ (hf pins s2 σ H2 _ I2 q2) fun fv s3 ⟨z,H3,I3,rz,k,ey,q3⟩=>GK ?_))))
 subst ey
 refine call_meetsIn PySem.F.slot_dict_get (dd I3).typeIs PySem.F.entry_dict_get (PySem.F.args_dict_get_3 _ _ _) (meets_dict_get_default (aB X.prog X.w) a (gD ry) hsys fv) ⟨_,(dd I3).mapOf,⟨_,H3,I3.tok _,?_,q3⟩⟩
 exact(rel.val k).getD rz
end
section
variable {env:Env} {rest:List Expr} {pos:Pos}
def l7{a:Expr}{gs:List Comprehension}{sc:Scope}:starEach (.ListComp a gs sc pos::rest) env=(false,eval (.ListComp a gs sc pos) env)::starEach rest env:=rfl
end
end L2
namespace Et
open PySem
open Sem (wp)
open AutoSeq1 (wpAny_loadPart')
end Et
namespace L2
open PySem PySem.Spec PyProof.Rows
def na(w:World)(x:Str):PyData.keyHash w.params x=hashStr w x:=rfl
noncomputable abbrev vS(w:World)(x:Str×Int×Tok×Tok):DictEntry:=⟨PyData.keyHash w.params x.1,.str x.1 x.2.2.1,.int x.2.1 x.2.2.2⟩
def sn(P:Program)(w:World)(xs:List (Str×Int×Tok×Tok))(ep:Nat)(nd:(xs.map (·.1)).Nodup) :
  ∃vs,KV (xs.map fun x=>((Sum.inr x.1:aN),V.int x.2.1)) vs/\Obj.IsDictOf (aB P w) { cls:=.type "dict",data:=.dict (xs.map (vS w)).toArray ep } vs:=by
 refine⟨xs.map fun x=>((Sum.inr x.1:aN),Value.int x.2.1 x.2.2.2),?_,(xs.map (vS w)).toArray,ep,⟨rfl,rfl,rfl⟩,rfl,?_,?_,?_⟩
 ·induction xs with
  |nil=>exact .nil
  |cons x xs ih=>exact .cons ⟨rfl,_,rfl⟩ (ih (by simpa using(FF.mp (by simpa using nd)).2))
 ·intro e he
  have he':e∈xs.map (vS w):=by simpa using he
  obtain⟨x,_,rfl⟩:=Fz.mp he'
  exact⟨Sum.inr x.1,fk x.1 x.2.2.1,na w x.1⟩
 ·have key:∀ys:List (Str×Int×Tok×Tok),Pairs (aB P w) (ys.map (vS w)) (ys.map fun x=>((Sum.inr x.1:aN),Value.int x.2.1 x.2.2.2)):=by
   intro ys
   induction ys with
   |nil=>exact .nil
   |cons y ys ih=>exact .cons (fk y.1 y.2.2.1) rfl ih
  exact key xs
 ·rw[F6]
  have e:((fun x:aN×Value=>x.1) ∘ fun x:Str×Int×Tok×Tok=>((Sum.inr x.1:aN),Value.int x.2.1 x.2.2.2))=fun x=>Sum.inr x.1:=rfl
  have key:∀ys:List (Str×Int×Tok×Tok),(ys.map (·.1)).Nodup->(ys.map fun x=>(Sum.inr x.1:aN)).Nodup:=by
   intro ys
   induction ys with
   |nil=>intro _;exact List.nodup_nil
   |cons y ys ih=>
    intro h
    rw[Fd,FF]at h ⊢
    refine⟨fun hm=>h.1 ?_,ih h.2⟩
    obtain⟨z,hz,e⟩:=Fz.mp hm
    have e':z.1=y.1:=Sum.inr.inj e
    exact Fz.mpr ⟨z,hz,e'⟩
  exact key xs nd
end L2
namespace Wd
open PySem L2 PyProof.Rows
noncomputable def abc:Str:="abcdefghijklmnopqrstuvwxyz"
noncomputable def yv:List Str:=["jars","deed","rest","pay","put","then","either","take","often","use"]
def sr:∀i,i < 26->abc.cps.toList[i]?=some (97+i):=by decide +kernel
def gk:abc.length<=sizeLine/\abc.cps.toList.length=26:=by decide +kernel
def nc:∀i,i < 26->Builtin.Str.occurrences abc (jf (97+i)) 0 abc.length 1=[i]:=by decide +kernel
theorem lw{α:Type} [BEq α] [LawfulBEq α]:∀{xs ys:List α},xs.Nodup->(∀x∈xs,x∈ys)->xs.length<=ys.length
 |[],ys,_,_=>FN _
 |x::xs,ys,nd,h=>by
  have hx:=h x (FZ ..)
  have q:=lw (xs:=xs) (ys:=ys.erase x) (FF.mp nd).2 fun y hy=>by
   have ne:y≠x:=fun e=>(FF.mp nd).1 (e▸hy)
   exact(List.mem_erase_of_ne ne).mpr (h y (FL _ hy))
  rw[List.length_erase_of_mem hx]at q
  have:=List.length_pos_of_mem hx
  rw[Fe]
  omega
noncomputable def cand(r:List Nat)(i:Nat):Str:=⟨((97+i % 26)::r).toArray⟩
def ng{r:List Nat}{i j:Nat}(h:cand r i=cand r j):i % 26=j % 26:=by
 have e:(((97+i % 26)::r).toArray).toList=(((97+j % 26)::r).toArray).toList:=FI (fun z:Str=>z.cps.toList) h
 simp only[List.cons.injEq]at e
 omega
def kL(r:List Nat)(c:Nat):((List.range 26).map fun i=>cand r (c+i)).Nodup:=by
 refine List.pairwise_map.mpr (List.Pairwise.imp_of_mem (R:=(·≠·)) ?_ List.nodup_range)
 intro a b ha hb ne e
 have h1:=HJ.mp ha
 have h2:=HJ.mp hb
 have h3:=ng e
 omega
def l8(r:List Nat)(c:Nat)(bad:Vs)(h:bad.length < 26):∃j,j < 26/\cand r (c+j) ∉ bad:=by
 refine Classical.byContradiction fun no=>?_
 have q:=lw (kL r c) (ys:=bad) fun x hx=>by
  obtain⟨j,hj,rfl⟩:=Fz.mp hx
  exact Classical.byContradiction fun z=>no ⟨j,HJ.mp hj,z⟩
 rw[E5,HP]at q
 omega
structure y3 (z:Str):Prop where
 ne:z.cps.toList≠[]
 le:z.cps.toList.length<=6
 sm:∀c∈z.cps.toList,97<=c/\c<=122
theorem y3.cand{z:Str}(h:y3 z):∃i r,z=Wd.cand r i/\i < 26/\r.length<=5/\∀c∈r,97<=c/\c<=122:=by
 obtain⟨⟨⟨l⟩⟩,ne,le,sm⟩:∃z',_/\_/\_:=⟨z,h.ne,h.le,h.sm⟩
 obtain⟨⟨l⟩⟩:=z
 cases l with
 |nil=>exact absurd rfl h.ne
 |cons c r=>
  have q:=h.sm c (FZ ..)
  refine⟨c - 97,r,?_,by omega,by have:=h.le;simp at this;omega,fun d hd=>h.sm d (FL _ hd)⟩
  unfold Wd.cand
  rw[show 97+(c - 97) % 26=c by omega]
def nh{r:List Nat}(h:r.length<=5)(hs:∀c∈r,97<=c/\c<=122)(i:Nat):y3 (cand r i):=by
 refine⟨by simp[cand],by simp[cand];omega,fun c hc=>?_⟩
 have hc':c∈(97+i % 26)::r:=hc
 rcases Fg.mp hc' with e|e
 ·omega
 ·exact hs c e
def y3.len{z:Str}(h:y3 z):z.length<=6:=by have q:=h.le;rw[HC]at q;exact q
def y3.line{z:Str}(h:y3 z):z.length<=sizeLine:=Fc h.len (by decide)
def iJ(r:List Nat)(i:Nat):yO (cand r i).cps.toList 0=some (97+i % 26):=eP (j:=0) rfl
def d0(r:List Nat)(i:Nat):Txt.slice (cand r i) (some 1) none=⟨r.toArray⟩:=by
 have e:Txt.slice (cand r i) (some 1) none=StrLaws.sliceText (cand r i) (some 1) none:=rfl
 rw[e,StrLaws.sliceText_from ⟨by decide,by simp[cand];omega⟩]
 simp[cand]
def iK(r:List Nat)(i:Nat):(jf (97+(i+1) % 26):Str)++(⟨r.toArray⟩:Str)=cand r (i+1):=by
 refine Str.ext' ?_
 show #[97+(i+1) % 26]++r.toArray=_
 simp[cand]
def jg(i:Nat):yO abc.cps.toList ((i % 26:Nat):Int)=some (97+i % 26):=eP (sr _ (Nat.mod_lt _ (by decide)))
def gH(cs:List Nat):Txt.join "" (cs.map jf)=⟨cs.toArray⟩:=by
 have q:=join_nil_signs ⟨cs.toArray⟩
 have e:Txt.join "" (cs.map jf)=Str.join ⟨#[]⟩ (cs.map jf):=StrLaws.glued_eq_join _ _
 rw[e]
 exact q
def pL(cs:List Nat):((cs.map jf).map (·.length)).sum=cs.length:=by
 induction cs with
 |nil=>rfl
 |cons c r ih=>rw[Fd,Fd,List.sum_cons,ih,Fe];show 1+r.length=_;omega
def pM{cs:List Nat}{a i:Nat}(h:cs.length<=5)(hs:∀c∈cs,97<=c/\c<=122)(ha:a<=cs.length)(hi:i < 26) :
  y3 (Txt.slice ⟨cs.toArray⟩ none (some (a:Int))++(jf (97+i):Str)++Txt.slice ⟨cs.toArray⟩ (some (a:Int)) none)/\(Txt.slice ⟨cs.toArray⟩ none (some (a:Int))).length<=5/\(Txt.slice ⟨cs.toArray⟩ (some (a:Int)) none).length<=5:=by
 have e1:Txt.slice ⟨cs.toArray⟩ none (some (a:Int))=⟨(cs.take a).toArray⟩:=by
  have e:Txt.slice ⟨cs.toArray⟩ none (some (a:Int))=StrLaws.sliceText ⟨cs.toArray⟩ none (some (a:Int)):=rfl
  rw[e,StrLaws.sliceText_to ⟨by omega,by simp;omega⟩]
  simp
 have e2:Txt.slice ⟨cs.toArray⟩ (some (a:Int)) none=⟨(cs.drop a).toArray⟩:=by
  have e:Txt.slice ⟨cs.toArray⟩ (some (a:Int)) none=StrLaws.sliceText ⟨cs.toArray⟩ (some (a:Int)) none:=rfl
  rw[e,StrLaws.sliceText_from ⟨by omega,by simp;omega⟩]
  refine Str.ext' ?_
  show((cs.drop (a:Int).toNat).take ((cs.length:Int) - a).toNat).toArray=(cs.drop a).toArray
  rw[G5,Hg (by rw[FE];omega)]
 rw[e1,e2]
 have e3:((⟨(cs.take a).toArray⟩:Str)++(jf (97+i):Str)++(⟨(cs.drop a).toArray⟩:Str)).cps.toList=cs.take a++[97+i]++cs.drop a:=by
  show((cs.take a).toArray++#[97+i]++(cs.drop a).toArray).toList=_
  simp
 refine⟨⟨by rw[e3];simp,by rw[e3];simp;omega,fun c hc=>?_⟩,?_,?_⟩
 ·rw[e3]at hc
  rcases FA.mp hc with hc|hc
  ·rcases FA.mp hc with hc|hc
   ·exact hs c (Hs hc)
   ·rw[FO.mp hc];omega
  ·exact hs c (List.mem_of_mem_drop hc)
 ·show(cs.take a).toArray.size<=5
  rw[EZ,FD];omega
 ·show(cs.drop a).toArray.size<=5
  rw[EZ,FE];omega
end Wd
namespace M3
noncomputable def im(t b:Int):Int:=(if b < 0 then -t else t) / (Int.gcd t b:Int)
noncomputable def jh(t b:Int):Int:=(if b < 0 then -b else b) / (Int.gcd t b:Int)
def eQ{t b:Int}(h:b≠0):0 < Int.gcd t b:=Nat.gcd_pos_of_pos_right _ (by omega)
def ss{t b:Int}(h:b≠0):(Int.gcd t b:Int)<=b.natAbs:=by
 have q:Nat.gcd t.natAbs b.natAbs<=b.natAbs:=Nat.gcd_le_right _ (by omega)
 have e:Int.gcd t b=Nat.gcd t.natAbs b.natAbs:=rfl
 omega
def ni(t b:Int):Int.gcd (-t) (-b)=Int.gcd t b:=by rw[Int.gcd_neg,Int.neg_gcd]
def uV(t b:Int):∃x y:Int,t=(Int.gcd t b:Int) * x/\b=(Int.gcd t b:Int) * y:=by
 obtain⟨x,hx⟩:=Int.gcd_dvd_left t b
 obtain⟨y,hy⟩:=Int.gcd_dvd_right t b
 exact⟨x,y,hx,hy⟩
def su{t b x y g:Int}(hg:g=(Int.gcd t b:Int))(h:b≠0)(ht:t=g * x)(hb:b=g * y):im t b=(if y < 0 then -x else x)/\jh t b=(if y < 0 then -y else y):=by
 have gp:0 < g:=by rw[hg];exact Hw.mpr (eQ h)
 have hy:b < 0↔y < 0:=by
  rw[hb]
  constructor
  ·intro q
   by_cases z:y < 0
   ·exact z
   ·have:=Int.mul_nonneg (HH gp) (Int.not_lt.mp z)
    omega
  ·intro q
   exact Int.mul_neg_of_pos_of_neg gp q
 unfold im jh
 rw[<-hg]
 by_cases z:y < 0
 ·rw[if_pos (hy.mpr z),if_pos (hy.mpr z),if_pos z,if_pos z]
  constructor
  ·rw[ht,<-Int.mul_neg,GA _ (by omega)]
  ·rw[hb,<-Int.mul_neg,GA _ (by omega)]
 ·rw[if_neg (fun q=>z (hy.mp q)),if_neg (fun q=>z (hy.mp q)),if_neg z,if_neg z]
  constructor
  ·rw[ht,GA _ (by omega)]
  ·rw[hb,GA _ (by omega)]
def pN{t b x y:Int}(h:b≠0)(ht:t=(Int.gcd t b:Int) * x)(hb:b=(Int.gcd t b:Int) * y):Int.gcd x y=1:=by
 have gp:=eQ (t:=t) h
 have q:Int.gcd ((Int.gcd t b:Int) * x) ((Int.gcd t b:Int) * y)=(Int.gcd t b:Int).natAbs * Int.gcd x y:=Int.gcd_mul_left _ _ _
 rw[<-ht,<-hb,Int.natAbs_natCast]at q
 have q2:Int.gcd t b * 1=Int.gcd t b * Int.gcd x y:=by omega
 exact(Nat.eq_of_mul_eq_mul_left gp q2).symm
structure xf (a b:Int):Prop where
 pos:0 < b
 one:Int.gcd a b=1
def lx{t b:Int}(h:b≠0):xf (im t b) (jh t b):=by
 obtain⟨x,y,ht,hb⟩:=uV t b
 have c:=pN h ht hb
 obtain⟨e1,e2⟩:=su rfl h ht hb
 have y0:y≠0:=fun z=>h (by rw[hb,z,Int.mul_zero])
 rw[e1,e2]
 by_cases z:y < 0
 ·rw[if_pos z,if_pos z]
  exact⟨by omega,by rw[ni];exact c⟩
 ·rw[if_neg z,if_neg z]
  exact⟨by omega,c⟩
def nj{t b:Int}(h:b≠0):t.fdiv (if b < 0 then -(Int.gcd t b:Int) else (Int.gcd t b:Int))=im t b/\b.fdiv (if b < 0 then -(Int.gcd t b:Int) else (Int.gcd t b:Int))=jh t b:=by
 have gp:(0:Int) < (Int.gcd t b:Int):=Hw.mpr (eQ h)
 have d1:=Int.gcd_dvd_left t b
 have d2:=Int.gcd_dvd_right t b
 unfold im jh
 by_cases z:b < 0
 ·rw[if_pos z,if_pos z,if_pos z,Int.fdiv_neg (by omega),if_pos d1,Int.fdiv_neg (by omega),if_pos d2,GD d1,GD d2,Int.neg_ediv_of_dvd d1,Int.neg_ediv_of_dvd d2]
  exact⟨rfl,rfl⟩
 ·rw[if_neg z,if_neg z,if_neg z,GD d1,GD d2]
  exact⟨rfl,rfl⟩
def nk(x y:Int):Int.gcd y (x.fmod y)=Int.gcd x y:=by
 have q:=Int.mul_fdiv_add_fmod x y
 have e:Int.gcd y (x.fmod y+x.fdiv y * y)=Int.gcd y (x.fmod y):=Int.gcd_add_mul_right_right _ _ _
 rw[<-e,Int.mul_comm (x.fdiv y) y,Int.add_comm,q,Int.gcd_comm]
def jR{t b T B:Int}(h:b≠0)(h1:-T<=t)(h2:t<=T)(h3:-B<=b)(h4:b<=B)(hT:0<=T)(hB:0<=B):-T<=im t b/\im t b<=T/\0 < jh t b/\jh t b<=B:=by
 have gp:(0:Int) < (Int.gcd t b:Int):=Hw.mpr (eQ h)
 have L:=(lx (t:=t) h).pos
 have key:∀z M:Int,0<=M->-M<=z->z<=M->-M<=z / (Int.gcd t b:Int)/\z / (Int.gcd t b:Int)<=M:=fun z M hM z1 z2=>by
  generalize (Int.gcd t b:Int)=g at gp
  have m2:M * 1<=M * g:=Int.mul_le_mul_of_nonneg_left (by omega) hM
  have m3:-M * g = -(M * g):=Int.neg_mul M g
  exact⟨Int.le_ediv_of_mul_le gp (by omega),Int.ediv_le_of_le_mul gp (by omega)⟩
 have k1:=key (if b < 0 then -t else t) T hT (by split<;>omega) (by split<;>omega)
 have k2:=key (if b < 0 then -b else b) B hB (by split<;>omega) (by split<;>omega)
 exact⟨k1.1,k1.2,L,k2.2⟩
end M3
namespace Xc
open PySem PySem.W PySem.Calls PyProof.Rows Builtin Builtin.ObjectAttr
structure wE (h:Heap) (e:Addr) (oe:Obj) (vs:Vw):Prop where
 at_:h.get? e=some oe
 dat:oe.data = .fields vs
 tb:vs[1]?=some .none\/∃T oT ts,vs[1]?=some (.ref T)/\T≠e/\h.get? T=some oT/\oT.data = .fields ts/\ts[3]?=some .none
end Xc
namespace L2
open PySem PySem.Spec PyProof.Rows Xc
def xE(X:Cx)(pins:Va)(H:Hp)(h:Heap)(a C dx:Addr):Prop:=
 ∃oe vs,wE h a oe vs/\oe.cls = .ref C/\oe.dict=some dx/\d5 X pins H a/\∀T,vs[1]?=some (.ref T)->d5 X pins H T
def XD(dx:Addr)(fs:List (Str×V))(h:Heap):Prop:=∃mA,h.Ns1 dx mA/\(∀f,RelO (fs.lookup f) (mA f))/\PySem.Within mA (fs.map (·.1))
end L2
namespace L2
open PySem PySem.Spec PyProof.Rows
structure CN where
 name:Str
 qual:Str
 params:Arguments
 body:List Stmt
 scope:Scope
 cap:Str
def Ao(H:Hp)(c:Addr)(q:Str):Prop:=∃oc vs t,H c=some (.frz oc (.own 0))/\oc.data = .fields vs/\vs[1]?=some (.str q t)
def A5(H:Hp)(f:Addr)(nd:CN)(v:V):Prop:=
 ∃doc pm c' ctv cc co u,H f=some (.frz (PySem.W.fnMade nd.name nd.qual nd.params nd.body nd.scope [(nd.cap,cc)] doc pm c' ctv) (.own 0))/\Ao H c' nd.qual/\H cc=some (.frz co (.own 0))/\co.data = .cell (some u)/\RelV v u
def TabAt(H:Hp)(P:Addr)(pos:Pos)(q:Str):Prop:=∃ps,H P=some (.zL ps)/\TriplesOk ps.toList/\∀cv,codeAmong pos ps.toList=some cv->∃c',cv = .ref c'/\Ao H c' q
section
variable {H H':Hp} {f c P:Addr} {nd:CN} {v:V} {q:Str} {pos:Pos}
def Ao.mono(g:∀a o u,H a=some (.frz o u)->H' a=some (.frz o u))(h:Ao H c q):Ao H' c q:=let ⟨oc,vs,t,h1,h2,h3⟩:=h;⟨oc,vs,t,g _ _ _ h1,h2,h3⟩
theorem A5.mono(g:∀a o u,H a=some (.frz o u)->H' a=some (.frz o u))(h:A5 H f nd v):A5 H' f nd v:=
 let ⟨doc,pm,c',ctv,cc,co,u,h1,h2,h3,h4⟩:=h;⟨doc,pm,c',ctv,cc,co,u,g _ _ _ h1,h2.mono g,g _ _ _ h3,h4⟩
theorem TabAt.mono(g:∀a o u,H a=some (.frz o u)->H' a=some (.frz o u))(e:H' P=H P)(h:TabAt H P pos q):TabAt H' P pos q:=
 let ⟨ps,h1,h2,h3⟩:=h;⟨ps,e.trans h1,h2,fun cv k=>let ⟨c',e',z⟩:=h3 cv k;⟨c',e',z.mono g⟩⟩
def TabAt.new(h:H P=some (.zL #[])):TabAt H P pos q:=⟨#[],h,trivial,fun cv k=>by cases k⟩
end
structure gJ (N ps:Vs) (cap:Str) (sc:Scope):Prop where
 kind:sc.kind = .function
 co:sc.isCoroutine=false
 gen:sc.isGenerator=false
 nd:N.Nodup
 pre:N.take (ps.length+1)=ps++[cap]
 par:∀x∈ps,sc.names.lookup x=some .local
 DT:sc.names.lookup cap=some .free
 AD:∀y∈sc.names,y.2 ≠ .cell
 one:∀y∈sc.names,y.2 = .free->y.1=cap
noncomputable def l9(CX:kr)(P:Program)(w:World)(K:Vo)(mg:Vr)(base:Heap)(N:Vs)(nd:CN)(f:Addr)(cd:Value)(cc:Addr)(A:Around)(outer:List Env)(s:Shared)(H:Hp)(E:XK):Cx where
 prog:=P
 w:=w
 K:=K
 mg:=mg
 base:=base
 A:=A.deeper (PySem.W.envX nd.qual nd.scope s.heap.objs.size f cd [(nd.cap,cc)])
 N:=N
 s₀:=s
 H₀:=H
 env:=PySem.W.envX nd.qual nd.scope s.heap.objs.size f cd [(nd.cap,cc)]
 outer:=outer
 stack:=PySem.W.envX nd.qual nd.scope s.heap.objs.size f cd [(nd.cap,cc)]::outer
 ex:=[]
 calm:=true
 fn:=fun _=>false
 pn:=[]
 xe:=fun e s'=>wpAny (model P w) (A.deeper (PySem.W.envX nd.qual nd.scope s.heap.objs.size f cd [(nd.cap,cc)])) (leaving (PySem.W.envX nd.qual nd.scope s.heap.objs.size f cd [(nd.cap,cc)]) e) (fun _ s''=>CX outer H s E e s'') (fun e' s''=>CX outer H s E e' s'') s'
def vT{a x:Str}{c d:Addr}(h:([(a,c)]:List (Str×Addr)).lookup x=some d):x=a/\d=c:=by
 rw[HS]at h
 cases e:x == a with
 |true=>rw[e]at h;cases h;exact⟨eq_of_beq e,rfl⟩
 |false=>rw[e]at h;cases h
def jS{a:Str}{c:Addr}:([(a,c)]:List (Str×Addr)).lookup a=some c:=by simp[List.lookup_cons]
theorem qO:∀{l:List (Str×Value)} {y:Str} {u:Value},(l.map (·.1)).Nodup->(y,u)∈l->l.lookup y=some u
 |[],_,_,_,h=>by cases h
 |(x,v)::r,y,u,nd,h=>by
  obtain⟨h1,h2⟩:=FF.mp (show(x::r.map (·.1)).Nodup from nd)
  rw[HS]
  rcases Fg.mp h with e|h
  ·cases e;simp
  ·have ne:y≠x:=fun e=>h1 (by rw[<-e];exact HD (f:=(·.1)) h)
   rw[HA.mpr ne]
   exact qO h2 h
def sv{ps:Vs}{us:Vv}{i:Nat}{y:Str}{u:Value}(nd:ps.Nodup)(h1:ps[i]?=some y)(h2:us[i]?=some u):(ps.zip us).reverse.lookup y=some u:=by
 refine qO ?_ ?_
 ·rw[List.map_reverse]
  refine List.pairwise_reverse.mpr (List.Pairwise.imp Gg ?_)
  have:(ps.zip us).map (·.1)=ps.take us.length:=by
   clear nd h1 h2
   induction ps generalizing us with
   |nil=>simp
   |cons p r ih=>cases us with
    |nil=>simp
    |cons v vs=>simp[ih]
  rw[this]
  exact nd.sublist (G3 _ _)
 ·rw[List.mem_reverse]
  exact GN (i:=i) (by rw[List.getElem?_zip_eq_some];exact⟨h1,h2⟩)
def pO{CX:kr}{P:Program}{w:World}{K:Vo}{mg:Vr}{base:Heap}{N ps:Vs}{nd:CN}{f cc:Addr}{cd u:Value}{co:Obj}{A:Around}{outer:List Env}{s:Shared}{H:Hp}{E:XK}{us:Vv}{vs:List V}{v:V}{h₁:Heap}{tk:Nat}
  (S:gJ N ps nd.cap nd.scope) (hd:A.handled=none) (e0:lT P w K mg base A outer s H) (hl:vs.length=ps.length) (r:Vals vs us) (hcc:H cc=some (.frz co (.own 0))) (hco:co.data = .cell (some u)) (ru:RelV v u)
  (hns:h₁.Ns s.heap.objs.size (fun x=>(ps.zip us).reverse.lookup x)) (hk:∀b o,s.heap.get? b=some o->h₁.get? b=some o) :
  Inv (l9 CX P w K mg base N nd f cd cc A outer s H E) [] (bn N (vs++[v])) H { s with heap:=h₁,toks:=tk }:=by
 have hpl:ps.length+1<=N.length:=by have:=FI List.length S.pre;rw[FD,E6,Gd]at this;omega
 have AU:∀b:Addr,b ∉ (l9 CX P w K mg base N nd f cd cc A outer s H E).ex:=fun b z=>absurd (show b∈([]:List Addr)from z) (by simp)
 have hcell:h₁.get? cc=some co:=hk _ _ (e0.hok cc _ hcc).1
 refine⟨⟨e0.mod,S.kind,rfl,rfl,E1 _,fun y z c h1 h2=>(vT h1).1.trans (vT h2).1.symm,fun y hy=>?_,(fun y c h=>by cases h),fun _=>hd,Around.frames_deeper e0.frames,.inr ⟨rfl,rfl⟩,fun b z=>absurd z (AU b),e0.bs,e0.Ax,fun b _ _=>AU b,fun b z=>absurd z (AU b),e0.zj,e0.AR⟩,
  rfl,e0.bare,Un.kept hk,⟨_,hns,fun i y x h1 h2 h3=>?_⟩,fun y c h=>⟨some u,co,by rw[(vT h).2];exact hcell,hco⟩,e0.hok.fresh (E1 _),fun y c h=>.inr ⟨rfl,co,.own 0,by rw[(vT h).2];exact hcc⟩,fun p hp=>absurd (show p∈([]:Va)from hp) (by simp),e0.hok.kept hk,?_⟩
 ·have hy:nd.scope.names.lookup y=some .cell\/nd.scope.names.lookup y=some .free:=hy
  rcases hy with hy|hy
  ·exact absurd rfl (S.AD _ (FU hy))
  ·have e:=S.one _ (FU hy) rfl
   exact⟨cc,by rw[show y=nd.cap from e];exact jS⟩
 ·have hi:i < (vs++[v]).length:=by
   unfold bn at h2
   by_cases hi:i < (vs++[v]).length
   ·exact hi
   ·rw[Fq (by simpa using hi),F2]at h2
    split at h2<;>cases h2
  have ha:(vs++[v])[i]?=some x:=by
   unfold bn at h2
   rw[Fp (by simpa using hi),Fv]at h2
   cases e:(vs++[v])[i]? with
   |none=>rw[e]at h2;cases h2
   |some a=>rw[e]at h2;cases h2;rfl
  rw[E6,Gd]at hi
  have hp:(ps++[nd.cap])[i]?=some y:=by
   rw[<-S.pre,List.getElem?_take_of_lt (by omega)];exact h1
  by_cases hv:i < vs.length
  ·rw[Fp hv]at ha
   rw[Fp (by omega)]at hp
   obtain⟨u',hu,rv⟩:=r.get ha
   have B6:ps.Nodup:=by
    have:=S.nd.sublist (G3 (ps.length+1) N)
    rw[S.pre]at this
    exact this.sublist (List.sublist_append_left _ _)
   exact⟨u',rv,.inl ⟨S.par y (GN hp),sv B6 hp hu⟩⟩
  ·have e:i=vs.length:=by omega
   subst e
   rw[Fq (E1 _),Nat.sub_self]at ha
   rw[Fq (by omega),hl,Nat.sub_self]at hp
   cases ha;cases hp
   exact⟨u,ru,.inr ⟨.inr S.DT,cc,jS,co,hcell,hco⟩⟩
 ·unfold bn
  show _=N.length
  rw[E6,E5,FH,E6,Gd]
  omega
structure nl (P:Program) (w:World) (K:Vo) (mg:Vr) (base:Heap) (CX:kr) (k:Nat) (nd:CN) (n:Nat) (sp:Sp):Prop where
 len:∀vs H Q E,sp vs H Q E->vs.length=n+1
 run:∀(A:Around) (outer:List Env) (s:Shared) (H:Hp) (f:Addr) (v:V) (us:Vv) (vs:List V) (Q:VK) (E:XK),Room k A->lT P w K mg base A outer s H->A5 H f nd v->Vals vs us->sp (vs++[v]) H Q E->
  codeAny (model P w) A (.call (.ref f) ⟨us,[]⟩) (CR CX outer P w H s Q E) s
def sw{CX:kr}{P:Program}{w:World}{K:Vo}{mg:Vr}{base:Heap}{k:Nat}{nd:CN}{N ps:Vs}{sp:Sp}(S:gJ N ps nd.cap nd.scope)(len:∀vs H Q E,sp vs H Q E->vs.length=ps.length+1)
  (hb:∀(cl:List (Str×Addr)) (doc pm cd ct:Value) (us:Vv),us.length=ps.length->bindArgs (PySem.W.fnX nd.name nd.qual nd.params nd.body nd.scope cl .none .none doc pm none cd ct) ⟨us,[]⟩=pure (ps.zip us))
  (hbody:∀(f cc:Addr) (cd:Value) (A:Around) (outer:List Env) (s:Shared) (H:Hp) (vs:List V) (Q:VK) (E:XK),Room k (A.deeper (PySem.W.envX nd.qual nd.scope s.heap.objs.size f cd [(nd.cap,cc)]))->sp vs H Q E->
   ∃t,zY (l9 CX P w K mg base N nd f cd cc A outer s H E) nd.body t/\t { nx:=fun _ H'=>Q .non H',rt:=Q } (bn N vs) H) :
  nl P w K mg base CX (k+1) nd ps.length sp:=by
 refine⟨len,fun A outer s H f v us vs Q E hr e0 hF r Ai=>?_⟩
 obtain⟨doc,pm,c',ctv,cc,co,u,hf,⟨oc,DU,t,hc,hcd,DV⟩,hcc,hco,ru⟩:=hF
 have hl:vs.length=ps.length:=by have:=len _ _ _ _ Ai;rw[E6,Gd]at this;omega
 have lim:s.heap.NoLimit:=e0.mod.nolimit.keeps fun b o e=>(e0.bs b o e).1
 refine codeAny_call_def (fd:=PySem.W.fnX nd.name nd.qual nd.params nd.body nd.scope [(nd.cap,cc)] .none .none doc pm none (.ref c') ctv) (body:=nd.body) (binds:=ps.zip us) hr.depth (e0.hok f _ hf).1 rfl lim
  ⟨c',oc,DU,t,rfl,(e0.hok c' _ hc).1,hcd,DV⟩ rfl (.of_eq (hb _ _ _ _ _ us (by rw[<-r.length];exact hl))) S.AD (fun y hy=>S.par _ (F9 (a:=y.1) (b:=y.2) hy).1) (fun h₁ hns hk₁=>?_) S.co S.gen S.kind
 obtain⟨t,ht,hq⟩:=hbody f cc (.ref c') A outer s H (vs++[v]) Q E (hr.deeper _) Ai
 have I:Inv (l9 CX P w K mg base N nd f (.ref c') cc A outer s H E) [] (bn N (vs++[v])) H { s with heap:=h₁,toks:=s.toks+(ps.zip us).length }:=pO S hr.hd e0 hl r hcc hco ru hns hk₁
 refine Gi (ht [] _ (bn N (vs++[v])) H _ I hq) (fun fl s' hs=>?_) fun e s' hs=>hs
 have fin:∀{σ':St} {H':Hp} {v:V} {u:Value},Inv (l9 CX P w K mg base N nd f (.ref c') cc A outer s H E) [] σ' H' s'->RelV v u->Q v H'->CE outer P w H s Q u s':=
  fun{σ' H' v u} J rv q=>⟨v,H',J.os,J.bare,J.base,J.hok,rv,q⟩
 cases fl with
 |ret u=>
  obtain⟨v,σ',H',J,rv,q⟩:=hs
  exact fin J rv q
 |next=>
  obtain⟨σ',H',J,q⟩:=hs
  exact fin (v:=V.non) (u:=Value.none) J rfl q
 |brk=>
  obtain⟨_,_,_,q⟩:=hs
  exact False.elim q
 |cont=>
  obtain⟨_,_,_,q⟩:=hs
  exact False.elim q
def sx(i:Nat)(nd:CN)(sp:Sp)(E:XK)(t:TA):TE:=fun σ H Q=>∃f,σ[i]?=some (some (.ref f))/\t σ H fun vs H1=>∃v,A5 H1 f nd v/\sp (vs++[v]) H1 Q E
def np{X:Cx}{CX:kr}{k n i:Nat}{nd:CN}{sp:Sp}{E:XK}{x:Str}{p pos:Pos}{e:Expr}{es:List Expr}{t:TA}(F:nl X.prog X.w X.K X.mg X.base CX k nd n sp)(hr:Room k X.A)(hx:i6 CX X E)(hv:PE X (.Name x p) (uc i))
  (ha:PA X (e::es) t) (he:starEach (e::es) X.env=(false,eval e X.env)::starEach es X.env:=by rfl) (hpl:(backTo pos (starEach es X.env)).any (·.1)=false:=by rfl) :
  PE X (.Call (.Name x p) (e::es) [] pos) (sx i nd sp E t):=by
 intro pins s σ H Q I h
 obtain⟨f,hf,h⟩:=h
 refine F0 (xZ (hv pins s σ H (fun v H'=>v = .ref f/\H'=H) I ⟨_,hf,rfl,rfl⟩) fun u s1 ⟨v,H1,I1,rv,e1,e2⟩=>?_)
 subst e1 e2
 cases rv
 have hw:=xZ (ha pos pins s1 σ H1 _ I1 h) fun us s2 ⟨vs,H2,I2,r2,v,hF,q⟩=>(show PySem.W.FnAt f s2.heap/\wpAny (model X.prog X.w) X.A (call (.ref f) ([]++us)) (EP X pins σ Q) X.xe s2 from by
  refine⟨?_,?_⟩
  ·obtain⟨doc,pm,c',ctv,cc,co,u,hf',_⟩:=hF
   exact⟨_,_,_,_,(I2.hok f _ hf').1⟩
  ·refine wpAny_call (codeAny_mono (F.run X.A X.stack s2 H2 f v us vs Q E hr I2.BI hF r2 q) fun r s' hq=>?_)
   cases r with
   |error e=>exact hx pins σ H2 s2 e s' I2 hq
   |ok fl=>
    cases fl with
    |ret u=>exact I2.after hq
    |next=>exact False.elim hq
    |brk=>exact False.elim hq
    |cont=>exact False.elim hq)
 rw[he]at hw ⊢
 exact PySem.W.callWith_of (by show((false || (backTo pos (starEach es X.env)).any (·.1)) || false)=false;rw[hpl];rfl) PySem.W.keeps_F (Hr hw)
noncomputable def Cx.frz(X:Cx)(x:Str):Cx:={ X with fn:=fun y=>X.fn y&&!(y == x) }
theorem Cx.Ok.frz{X:Cx}{x:Str}(ok:X.Ok):(X.frz x).Ok:=⟨ok.mod,ok.kind,ok.glob,ok.blt,ok.above,ok.inj,ok.has,fun y c h e=>ok.A1 y c (Gx.mp h).1 e,ok.hd,ok.frames,ok.stk,ok.B2,ok.bs,ok.Ax,ok.Aa,ok.Am,ok.zj,ok.AR⟩
section
variable {X:Cx} {pins:Va} {σ:List (Option V)} {H:Hp} {s:Shared}
theorem Inv.frz{x:Str}{cc:Addr}{co:Obj}(I:Inv X pins σ H s)(hc:X.env.cells.lookup x=some cc)(hf:X.fn x=true)(ho:s.heap.get? cc=some co):Inv (X.frz x) pins σ (upd H cc (.frz co (.own 0))) s:=by
 have hn:H cc=none:=(I.yJ x cc hc).resolve_right fun⟨z,_⟩=>by rw[hf]at z;cases z
 have ab:X.s₀.heap.objs.size<=cc:=I.ok.A1 x cc hf hc
 obtain⟨v0,oc,hoc,hod⟩:=I.cell x cc hc
 have yA:∀b u,H b=some u->upd H cc (.frz co (.own 0)) b=some u:=fun b u e=>by rw[ak (av e hn)];exact e
 refine⟨I.ok.frz,I.os,I.bare,⟨I.base.keep,I.base.slot,fun b o e n hx=>?_,I.base.there,fun b xs e=>yA _ _ (I.base.tups b xs e),fun b o u e=>yA _ _ (I.base.zB b o u e),fun b ps e=>let ⟨m,h⟩:=I.base.zJ b ps e;⟨m,yA _ _ h⟩⟩,I.loc,I.cell,?_,fun y c e=>?_,fun p hp=>?_,fun b u e=>?_,I.len⟩
 ·rw[ak (E9 (E7 (E4 e) ab))];exact I.base.free b o e n hx
 ·rw[show(X.frz x).env.locals=X.env.locals from rfl,ak (Gg (I.A2 x cc hc))];exact I.free
 ·by_cases h:c=cc
  ·subst h
   have e2:=I.ok.inj _ _ _ e hc
   exact .inr ⟨by show(X.fn y&&!(y == x))=false;rw[e2];simp,co,.own 0,ao⟩
  ·rcases I.yJ y c e with z|⟨z,o,u,q⟩
   ·exact .inl (by rw[ak h];exact z)
   ·exact .inr ⟨by show(X.fn y&&!(y == x))=false;rw[z];rfl,o,u,by rw[ak h];exact q⟩
 ·obtain⟨e,n,r1,r2,d⟩:=I.pin p hp
  refine⟨e,?_,r1,r2,d⟩
  rw[ak ?_]
  ·exact n
  ·intro z
   rw[z,hoc]at e
   exact d v0 (by rw[<-FQ e];exact hod)
 ·by_cases h:b=cc
  ·subst h;rw[ao]at e;cases e;exact⟨ho,co,ho⟩
  ·rw[ak h]at e
   exact(I.hok b u e).stay (fun _ _ _ q=>q) (fun c q=>yA _ _ q) fun c xs q=>yA _ _ q
end
def xF(X:Cx)(Q:VK)(fl:Flow)(s':Shared):Prop:=
 match fl with
 | .ret u=>∃v H',s'.os=X.s₀.os/\AllBare s'.gens/\Un X.fs X.ex X.H₀ H' X.s₀.heap s'.heap/\yZ X.prog X.w H' s'.heap/\RelV v u/\Q v H'
 | .next=>∃H',s'.os=X.s₀.os/\AllBare s'.gens/\Un X.fs X.ex X.H₀ H' X.s₀.heap s'.heap/\yZ X.prog X.w H' s'.heap/\Q .non H'
 |_=>False
abbrev tX:=VK->St->Hp->Prop
def A6(X:Cx)(st:List Stmt)(t:tX):Prop:=
 ∀(s:Shared) (σ:St) (H:Hp) (Q:VK),Inv X [] σ H s->t Q σ H->wpAny (model X.prog X.w) X.A (execs st X.env) (xF X Q) X.xe s
section
variable {X:Cx} {st:Stmt} {rest:List Stmt} {t:TS} {u:tX}
def sy{sts:List Stmt}(h:zY X sts t):A6 X sts (fun Q=>t { nx:=fun _ H'=>Q .non H',rt:=Q }):=by
 intro s σ H Q I hq
 refine xZ (h [] s σ H _ I hq) fun fl s' hs=>?_
 cases fl with
 |ret u=>obtain⟨v,σ',H',J,rv,q⟩:=hs;exact⟨v,H',J.os,J.bare,J.base,J.hok,rv,q⟩
 |next=>obtain⟨σ',H',J,q⟩:=hs;exact⟨H',J.os,J.bare,J.base,J.hok,q⟩
 |brk=>obtain⟨_,_,_,q⟩:=hs;exact False.elim q
 |cont=>obtain⟨_,_,_,q⟩:=hs;exact False.elim q
end
section
variable {X:Cx} {pins:Va} {σ:List (Option V)} {H:Hp} {s:Shared} {nd:CN} {pos:Pos} {i:Nat} {c P cc:Addr} {v:V}
def nq{Q:Vq}{E:Vq}{n:Nat}(I:Inv X pins σ H s)(hcode:X.env.code = .ref c)(C:PySem.W.CodeHd X.base c P)(B:X.base.BuiltinsAt X.mg P)(T:TabAt H P pos nd.qual)(hcl:closureFor nd.scope X.env=pure [(nd.cap,cc)])(hcc:X.env.cells.lookup nd.cap=some cc)(hfn:X.fn nd.cap=true)
  (hi:X.N[i]?=some nd.cap) (hv:σ[i]?=some (some v)) (hk:X.env.scope.names.lookup nd.cap=some .cell)
  (h:∀f H' s',Inv (X.frz nd.cap) pins σ H' s'->A5 H' f nd v->TabAt H' P pos nd.qual->(∀b o,b≠P->H b=some o->H' b=some o)->Q (.ref f) s') :
  wpAny (model X.prog X.w) X.A (makeFunction nd.name nd.qual nd.params (.stmts nd.body) nd.scope X.env [] [] [] pos n) Q E s:=by
 obtain⟨ps,hP,ht,hps⟩:=T
 have Dj:s.heap.get? P=some (PySem.W.tabObj ps):=I.hok P _ hP
 have hg:s.heap.Ns mainGlobals X.mg:=I.mod.glob.keeps I.bk
 have C':=C.keeps I.bk
 obtain⟨bm,bo,b1,b2,b3,b4,b5,b6⟩:=B
 have B':s.heap.BuiltinsAt X.mg P:=⟨bm,bo,b1,b2,b3,b4,I.bk _ _ b5,b6⟩
 have hgP:mainGlobals≠P:=fun z=>by
  obtain⟨o,_,_,e,_⟩:=I.mod.glob
  have:=(I.bs _ _ e).2
  rw[z,hP]at this;cases this
 -- the value in the cell
 obtain⟨m,hn,hl⟩:=I.loc
 obtain⟨u,ru,lu⟩:=hl i nd.cap v hi hv (.inr (.inl hk))
 have hcell:s.heap.IsCell cc (some u):=by
  rcases lu with⟨k',_⟩|⟨_,c2,e2,z⟩
  ·have k'':X.env.scope.names.lookup nd.cap=some .local:=k'
   rw[hk]at k'';cases k''
  ·rw[hcc]at e2;cases e2;exact z
 obtain⟨co,hco,hcd⟩:=hcell
 have hcn:H cc=none:=(I.yJ _ cc hcc).resolve_right fun⟨z,_⟩=>by rw[hfn]at z;cases z
 cases e:codeAmong pos ps.toList with
 |some cv=>
  obtain⟨c',rfl,hc'⟩:=hps cv e
  refine PySem.W.makeFunction_hit hcl I.ok.glob hg hcode C' Dj ht e B' fun ctv doc h' tk hk' hsz=>?_
  have I1:Inv X pins σ H { s with heap:=h',toks:=tk }:=I.kept hk'
  have I2:=I1.laid (h':=h'.push (PySem.W.fnMade nd.name nd.qual nd.params nd.body nd.scope [(nd.cap,cc)] doc ((X.mg "__name__").getD .none) c' ctv)) (a:=h'.objs.size) (o:=.frz (PySem.W.fnMade nd.name nd.qual nd.params nd.body nd.scope [(nd.cap,cc)] doc ((X.mg "__name__").getD .none) c' ctv) (.own 0)) (t':=tk)
   (fun b u q=>EY _ q) (E1 _) ⟨E8 _ rfl,_,E8 _ rfl⟩
  have fr:H h'.objs.size=none:=I1.hok.fresh (E1 _)
  have I3:=I2.frz hcc hfn (co:=co) (EY _ (hk' _ _ hco))
  have hlt:cc < s.heap.objs.size:=E4 hco
  have g:∀b o,H b=some o->upd (upd H h'.objs.size (.frz (PySem.W.fnMade nd.name nd.qual nd.params nd.body nd.scope [(nd.cap,cc)] doc ((X.mg "__name__").getD .none) c' ctv) (.own 0))) cc (.frz co (.own 0)) b=some o:=fun b o z=>by
   rw[ak (av z hcn),ak (av z fr)];exact z
  refine h _ _ _ I3 ⟨doc,(X.mg "__name__").getD .none,c',ctv,cc,co,u,?_,hc'.mono fun a o u z=>g _ _ z,ao,hcd,ru⟩ ⟨ps,g _ _ hP,ht,fun cv k=>let ⟨c2,e2,z⟩:=hps cv k;⟨c2,e2,z.mono fun a o u z=>g _ _ z⟩⟩ fun b o _ z=>g _ _ z
  rw[ak (HG (E7 hlt hsz)),ao]
 |none=>
  refine PySem.W.makeFunction_K hcl I.ok.glob hg hcode C' Dj ht e hgP B' fun c' ctv doc h' tk hx hge hlt hrec htb=>?_
  obtain⟨c₂,oc,vs,t,e2,hoc,hd,hvs⟩:=hrec
  cases e2
  generalize hfo:PySem.W.fnMade nd.name nd.qual nd.params nd.body nd.scope [(nd.cap,cc)] doc ((X.mg "__name__").getD .none) c' ctv=fo
  have ff:fo.isFreed=false:=by rw[<-hfo];rfl
  have nP:∀b u,b≠P->s.heap.get? b=some u->(h'.push fo).get? b=some u:=fun b u hb q=>EY _ (hx b u hb q)
  have cn:H c'=none:=I.hok.fresh hge
  have fn':H h'.objs.size=none:=I.hok.fresh (Fc hge (GP hlt))
  have Pc:P≠c':=fun z=>by rw[z,cn]at hP;cases hP
  have Pf:P≠h'.objs.size:=fun z=>by rw[z,fn']at hP;cases hP
  have cf:c'≠h'.objs.size:=E9 hlt
  have g:∀b o,b≠P->H b=some o->upd (upd (upd H P (.zL (ps++#[rawInt pos.line,rawInt pos.col,.ref c']))) c' (.frz oc (.own 0))) h'.objs.size (.frz fo (.own 0)) b=some o:=fun b o hb z=>by
   rw[ak (av z fn'),ak (av z cn),ak hb];exact z
  have gP:upd (upd (upd H P (.zL (ps++#[rawInt pos.line,rawInt pos.col,.ref c']))) c' (.frz oc (.own 0))) h'.objs.size (.frz fo (.own 0)) P=some (.zL (ps++#[rawInt pos.line,rawInt pos.col,.ref c'])):=by rw[ak Pf,ak Pc,ao]
  have gc:upd (upd (upd H P (.zL (ps++#[rawInt pos.line,rawInt pos.col,.ref c']))) c' (.frz oc (.own 0))) h'.objs.size (.frz fo (.own 0)) c'=some (.frz oc (.own 0)):=by rw[ak cf,ao]
  have gf:upd (upd (upd H P (.zL (ps++#[rawInt pos.line,rawInt pos.col,.ref c']))) c' (.frz oc (.own 0))) h'.objs.size (.frz fo (.own 0)) h'.objs.size=some (.frz fo (.own 0)):=ao
  have gn:∀b,b < s.heap.objs.size->H b=none->upd (upd (upd H P (.zL (ps++#[rawInt pos.line,rawInt pos.col,.ref c']))) c' (.frz oc (.own 0))) h'.objs.size (.frz fo (.own 0)) b=none:=fun b hb z=>by
   rw[ak (E9 (F5 (E7 hb hge) hlt)),ak (E9 (E7 hb hge)),ak (fun q=>by rw[q,hP]at z;cases z)];exact z
  have gi:∀b u,upd (upd (upd H P (.zL (ps++#[rawInt pos.line,rawInt pos.col,.ref c']))) c' (.frz oc (.own 0))) h'.objs.size (.frz fo (.own 0)) b=some u->b≠P->b≠c'->b≠h'.objs.size->H b=some u:=fun b u q n1 n2 n3=>by
   rw[ak n3,ak n2,ak n1]at q;exact q
  generalize upd (upd (upd H P (.zL (ps++#[rawInt pos.line,rawInt pos.col,.ref c']))) c' (.frz oc (.own 0))) h'.objs.size (.frz fo (.own 0))=H1 at g gP gc gf gn gi
  have Cw:yZ X.prog X.w H1 (h'.push fo):=fun b u q=>by
   by_cases n1:b=P
   ·subst n1;rw[gP]at q;cases q;exact EY _ htb
   ·by_cases n2:b=c'
    ·subst n2;rw[gc]at q;cases q;exact⟨EY _ hoc,oc,EY _ hoc⟩
    ·by_cases n3:b=h'.objs.size
     ·subst n3;rw[gf]at q;cases q;exact⟨E8 _ ff,fo,E8 _ ff⟩
     ·refine(I.hok b u (gi b u q n1 n2 n3)).stay (fun d w' hd' q'=>nP d w' ?_ q') (fun d q'=>g _ _ (fun z=>by rw[z,hP]at q';cases q') q') fun d xs q'=>g _ _ (fun z=>by rw[z,hP]at q';cases q') q'
      rcases hd' with rfl|hd'
      ·exact n1
      ·exact fun z=>by rw[z,hP]at hd';cases hd'
  have hne:∀b,H b=none->b≠P:=fun b z q=>by rw[q,hP]at z;cases z
  have un:Un X.fs [] H H1 s.heap (h'.push fo):=⟨fun b o q n _ _=>nP b o (hne b n) q,fun b o q n _ _=>⟨o.slots,nP b o (hne b n) q⟩,fun b o q n _=>gn b (E4 q) n,fun b o q _=>by
    by_cases z:b=P
    ·exact⟨_,by rw[z];exact EY _ htb⟩
    ·exact⟨o,nP b o z q⟩,fun b xs q=>g _ _ (fun z=>by rw[z,hP]at q;cases q) q,fun b o u q=>g _ _ (fun z=>by rw[z,hP]at q;cases q) q,fun b qs q=>by
    by_cases z:b=P
    ·rw[z,hP]at q;cases q;exact⟨_,by rw[z];exact gP⟩
    ·exact⟨#[],by rw[g _ _ z q];simp⟩⟩
  have I2:Inv X pins σ H1 { s with heap:=h'.push fo,toks:=tk }:=I.un un Cw
  have Cy:cc < s.heap.objs.size:=E4 hco
  have I3:=I2.frz hcc hfn (co:=co) (nP _ _ (hne _ hcn) hco)
  have c1:H1 cc=none:=gn cc Cy hcn
  have k1:∀b o,H1 b=some o->upd H1 cc (.frz co (.own 0)) b=some o:=fun b o z=>by rw[ak (av z c1)];exact z
  have cd:Ao (upd H1 cc (.frz co (.own 0))) c' nd.qual:=⟨oc,vs,t,k1 _ _ gc,hd,hvs⟩
  have fm:∀a o u,H a=some (.frz o u)->upd H1 cc (.frz co (.own 0)) a=some (.frz o u):=fun a o u z=>k1 _ _ (g _ _ (fun q=>by rw[q,hP]at z;cases z) z)
  refine h _ _ _ I3 ⟨doc,(X.mg "__name__").getD .none,c',ctv,cc,co,u,?_,cd,ao,hcd,ru⟩ ⟨_,k1 _ _ gP,?_,fun cv k=>?_⟩ fun b o nb z=>k1 _ _ (g _ _ nb z)
  ·rw[hfo];exact k1 _ _ gf
  ·rw[Array.toList_append];exact TriplesOk_snoc _ _ _ _ ht
  ·rw[Array.toList_append]at k
   have:=codeAmong_snoc (c:=.ref c') ps.toList ht e
   rw[show(#[rawInt pos.line,rawInt pos.col,Value.ref c']:Vw).toList=[rawInt pos.line,rawInt pos.col,Value.ref c'] from rfl,this]at k
   cases k
   exact⟨c',rfl,cd⟩
end
def jT{sc:Scope}{env:Env}{x:Str}{c:Addr}(h:(sc.names.filter fun y=>y.2 == .free)=[(x,.free)])(hc:env.cells.lookup x=some c):closureFor sc env=pure [(x,c)]:=by
 have key:∀(l:List (Str×NameKind)) (acc:List (Str×Addr)),(∀y∈l,y.2 = .free->y.1=x)->(do
   let mut cs:=acc
   for (name,kind) in l do
    if kind == .free then cs:=(name,<-cellOf env name)::cs
   return cs:Sem (List (Str×Addr)))=pure (((l.filter fun y=>y.2 == .free).map fun y=>(y.1,c)).reverse++acc):=by
  intro l
  induction l with
  |nil=>intro acc _;rfl
  |cons y r ih=>
   intro acc hx
   obtain⟨n,k⟩:=y
   have ih':=fun acc=>ih acc fun y hy=>hx y (FL _ hy)
   by_cases hk:k = .free
   ·subst hk
    have hn:n=x:=hx (n,.free) FZ rfl
    subst hn
    have e1:cellOf env n=pure c:=by unfold cellOf;rw[hc]
    simp only[Hx,e1]
    refine Eq.trans ?_ ((ih' ((n,c)::acc)).trans ?_)
    ·rfl
    ·simp
   ·have hk':(k == NameKind.free)=false:=by simpa using hk
    refine Eq.trans ?_ ((ih' acc).trans ?_)
    ·simp only[Hx,hk'];rfl
    ·simp[hk']
 have:=key sc.names [] fun y hy hf=>by
  have:y∈sc.names.filter fun y=>y.2 == .free:=GV.mpr ⟨hy,by rw[hf];rfl⟩
  rw[h,FO]at this
  rw[this]
 rw[h]at this
 exact this
noncomputable def wF(P:Addr)(pos:Pos)(nd:CN)(i j:Nat)(u:tX):tX:=fun Q σ H=>TabAt H P pos nd.qual/\∃v,σ[i]?=some (some v)/\∀f H',A5 H' f nd v->TabAt H' P pos nd.qual->(∀b o,b≠P->H b=some o->H' b=some o)->u Q (σ.set j (some (.ref f))) H'
def pP{X:Cx}{nd:CN}{pos:Pos}{i j:Nat}{c P:Addr}{rest:List Stmt}{u:tX}(hcode:X.env.code = .ref c)(C:PySem.W.CodeHd X.base c P)(B:X.base.BuiltinsAt X.mg P)(hq:qualnameIn X.env nd.name nd.name=nd.qual)
  (hcl:(nd.scope.names.filter fun y=>y.2 == .free)=[(nd.cap,.free)]) (hfn:X.fn nd.cap=true) (hi:X.N[i]?=some nd.cap) (hk:X.env.scope.names.lookup nd.cap=some .cell)
  (hd0:nd.params.defaults=[]) (hk0:nd.params.kw_defaults=[]) (ha:annTrees nd.params none X.env=[]) (hN:X.N.Nodup) (hj:X.N[j]?=some nd.name) (hx:oO X.env.scope nd.name) (Cz:(X.frz nd.cap).fn nd.name=true\/X.env.scope.names.lookup nd.name=some .local)
  (h2:A6 (X.frz nd.cap) rest u):A6 X (.FunctionDef nd.name nd.params nd.body [] none [] nd.scope none nd.name pos::rest) (wF P pos nd i j u):=by
 intro s σ H Q I ⟨T,v,hv,h⟩
 obtain⟨cc,hcc⟩:=I.ok.has nd.cap (.inl hk)
 refine wpAny_execs_cons (PySem.W.nestDef_K hd0 hk0 ha ?_)
 rw[hq]
 refine nq I hcode C B T (jT hcl hcc) hcc hfn hi hv hk fun f H' s' I' hF hT hg=>?_
 exact bR (X:=X.frz nd.cap) I' hN hj hx (v:=.ref f) rfl (fun s'' DW=>h2 s'' _ H' Q DW (h f H' hF hT hg)) Cz
def sA{CX:kr}{P:Program}{w:World}{K:Vo}{mg:Vr}{base:Heap}{k:Nat}{f:Addr}{name qual:Str}{params:Arguments}{body:List Stmt}{scope:Scope}{dV kV doc pm cdv ct oc:Value}{an od:Option Addr}
  {osl:Array (Option Value)} {N ps:Vs} {sp:Sp} (lk:K.lookup f=some ⟨oc,od,.func (PySem.W.fnOf name qual params body scope dV kV doc pm an cdv ct),osl⟩) (hcd:PySem.W.codeIn K cdv qual=true) (S:cg N ps scope)
  (len:∀vs H Q E,sp vs H Q E->vs.length=ps.length)
  (hbody:∀(A:Around) (outer:List Env) (s:Shared) (H:Hp) (vs:List V) (Q:VK) (E:XK),Room k (A.deeper (envOfC qual scope s.heap.objs.size f cdv))->sp vs H Q E->
   ∃u,A6 (i7 CX P w K mg base N qual scope f cdv A outer s H E) body u/\u Q (bn N vs) H) :
  ig P w K mg base CX (k+1) f (PySem.W.fnOf name qual params body scope dV kV doc pm an cdv ct) ps sp:=by
 refine⟨len,fun A outer s H args us vs Q E hr e0 hb r Ai=>?_⟩
 have hl:=len _ _ _ _ Ai
 have KX:K.In s.heap:=e0.mod.Bf.keeps fun b o e=>(e0.bs b o e).1
 have lim:s.heap.NoLimit:=e0.mod.nolimit.keeps fun b o e=>(e0.bs b o e).1
 have hkind:∀y∈ps.zip us,scope.names.lookup y.1=some .local\/(scope.names.lookup y.1=some .cell/\((cellsFrom (s.heap.objs.size+1) scope.names []).lookup y.1).isSome=true):=fun⟨n,v⟩ hy=>by
  rcases S.par n (F9 hy).1 with q|q
  ·exact .inl q
  ·exact .inr ⟨q,G2 _ _ _ (.inl q)⟩
 refine codeAny_call_function hr.depth (KX _ _ lk) rfl S.co S.gen rfl (PySem.W.codeRec_of KX hcd) (hb _ _ _ _ ?_)
 refine wpAny_newFunctionEnv_cells S.kind hkind fun env he s1 x=>?_
 subst he
 refine⟨lim.keeps x.toInCall.keep,codeAny_func ?_⟩
 obtain⟨u,ht,hq⟩:=hbody A outer s H vs Q E (hr.deeper _) Ai
 have I:Inv (i7 CX P w K mg base N qual scope f cdv A outer s H E) [] (bn N vs) H s1:=iE S hr.hd e0 hl r x
 refine Gi (ht s1 (bn N vs) H Q I hq) (fun fl s' hs=>?_) fun e s' hs=>hs
 cases fl with
 |ret u=>
  obtain⟨v,H',h1,h2,h3,h4,rv,q⟩:=hs
  exact⟨v,H',h1,h2,h3,h4,rv,q⟩
 |next=>
  obtain⟨H',h1,h2,h3,h4,q⟩:=hs
  exact⟨V.non,H',h1,h2,h3,h4,rfl,q⟩
 |brk=>exact False.elim hs
 |cont=>exact False.elim hs
def ly(P:Addr)(H:Hp):Prop:=H P=some (.zL #[])/\∀b,b≠P->H b=none\/∃o xs,H b=some (.frz o (.lst xs))
def l_{P:Program}{w:World}{K:Vo}{mg mb:Vr}{CX:kr}{k:Nat}{fa a c Pt:Addr}{fd:FuncData}{x:Str}{sp:Sp}{s₁:Shared}{vs:Vv}{ns:Vu}
  (KX:K.In s₁.heap) (hns:s₁.heap.Ns mainGlobals mg) (hb:s₁.heap.Ns builtinsNs mb) (DX:∀x:Str,x ≠ "__name__"->mb x=bootBuiltins x) (hlim:s₁.heap.NoLimit) (hg:s₁.gens=#[])
  (ha:s₁.heap.get? a=some { cls:=.type "list",data:=.seq vs.toArray }) (hi:IntsAre vs ns) (hl:ns.length<=sizeLine) (hr:Room k callerA)
  (hC:PySem.W.CodeHd s₁.heap c Pt) (Bp:s₁.heap.get? Pt=some (PySem.W.tabObj #[])) (Bq:K.lookup Pt=none) (hB:s₁.heap.BuiltinsAt mg Pt)
  (F:∀base:Heap,K.In base->base.Ns mainGlobals mg->PySem.W.CodeHd base c Pt->base.BuiltinsAt mg Pt->ig P w K mg base CX k fa fd [x] sp) (hbind:∀(s:Shared) (u:Value),BindsTo s fd ⟨[u],[]⟩ [(x,u)])
  (Ai:∀H:Hp,ly Pt H->SqL K H a (ns.map V.int)->sp [.ref a] H (fun v _=>v = .bl true) fun _ _ _=>False)
  (CA:∀H e s',CX [] H s₁ (fun _ _ _=>False) e s'->False) :
  codeAny (model P w) callerA (.call (.ref fa) ⟨[.ref a],[]⟩) (fun r s'=>r = .ok (.ret (.bool true))/\OldK s₁.heap s'.heap/\s'.os=s₁.os/\AllBare s'.gens) s₁:=by
 have rv:=iI hi
 have CC:=hi.length
 have core:∀H:Hp,ly Pt H->SqL K H a (ns.map V.int)->yZ P w H s₁.heap->(∀b,H b≠none->b=a\/b=Pt)->(H a≠none->K.lookup a=none)->
   codeAny (model P w) callerA (.call (.ref fa) ⟨[.ref a],[]⟩) (fun r s'=>r = .ok (.ret (.bool true))/\OldK s₁.heap s'.heap/\s'.os=s₁.os/\AllBare s'.gens) s₁:=by
  intro H hO hS hok hA hK
  have zE:∀{b:Addr} {o:Obj},s₁.heap.get? b=some o->H b=none->(gx s₁.heap H).get? b=some o:=fun e n=>mG e n
  have Dk:∀{b:Addr} {o:Obj},s₁.heap.get? b=some o->(∀q n,o.data ≠ .seq q n)->o.cls ≠ .none->H b=none:=fun{b o} e d1 d2=>by
   cases q:H b with
   |none=>rfl
   |some u=>
    rcases hA b (by rw[q];simp)with e'|e'
    ·subst e';rw[ha]at e;cases e;exact absurd rfl (d1 _ _)
    ·subst e';rw[Bp]at e;cases e;exact absurd rfl d2
  have AU:∀{b:Addr} {o:Obj} {es:Array DictEntry} {ep:Nat},s₁.heap.get? b=some o->o.data = .dict es ep->H b=none:=fun{b o es ep} e d=>by
   cases q:H b with
   |none=>rfl
   |some u=>
    rcases hA b (by rw[q];simp)with e'|e'
    ·subst e';rw[ha]at e;cases e;cases (show Data.seq vs.toArray _=Data.dict es ep from d)
    ·subst e';rw[Bp]at e;cases e;cases (show Data.fields #[]=Data.dict es ep from d)
  have B9:∀{b:Addr} {m:Vr},s₁.heap.Ns b m->(gx s₁.heap H).Ns b m:=fun{b m} ⟨o,es,ep,e,d,r⟩=>⟨o,es,ep,zE e (AU e d),d,r⟩
  have Dm:K.In (gx s₁.heap H):=fun b o e=>zE (KX b o e) (by
   cases q:H b with
   |none=>rfl
   |some u=>
    rcases hA b (by rw[q];simp)with e'|e'
    ·subst e';rw[hK (by rw[q];simp)]at e;cases e
    ·subst e';rw[Bq]at e;cases e)
  have hM:Mod K mg (gx s₁.heap H):=⟨Dm,B9 hns,⟨mb,B9 hb,DX⟩,let ⟨mc,h1,h2⟩:=hlim;⟨mc,B9 h1,h2⟩⟩
  have hCb:PySem.W.CodeHd (gx s₁.heap H) c Pt:=by
   obtain⟨o,vs',file,tf,flags,tg,DY,text,tt,e1,e2,e3,r⟩:=hC
   exact⟨o,vs',file,tf,flags,tg,DY,text,tt,zE e1 (Dk e1 (fun q n z=>by rw[e3]at z;cases z) (by rw[e2];nofun)),e2,e3,r⟩
  have DZ:(gx s₁.heap H).BuiltinsAt mg Pt:=by
   obtain⟨bm,o,h1,h2,h3,h4,h5,h6,h7,h8⟩:=hB
   exact⟨bm,o,h1,h2,h3,h4,zE h5 (Dk h5 (fun q n z=>by rw[h8]at z;cases z) (by rw[h6];nofun)),h6,h7,h8⟩
  have e0:lT P w K mg (gx s₁.heap H) callerA [] s₁ H:=⟨rfl,hM,fun b o e=>oW e,Nat.le_of_eq (lM _ _),trivial,fun b hb=>absurd (show b∈([]:List Addr)from hb) (by simp),hok,.of_eq hg⟩
  refine codeAny_mono ((F _ Dm (B9 hns) hCb DZ).run callerA [] s₁ H ⟨[.ref a],[]⟩ [.ref a] [.ref a] _ _ hr e0 (hbind s₁ (.ref a)) (.cons rfl .nil) (Ai H hO hS)) fun r s' h=>?_
  cases r with
  |error e=>exact(CA H e s' h).elim
  |ok fl=>
   cases fl with
   |next=>exact False.elim h
   |brk=>exact False.elim h
   |cont=>exact False.elim h
   |ret u=>
    obtain⟨v,H',os,bare,un,BM,r',q⟩:=h
    have q':v = .bl true:=q
    subst q'
    obtain rfl:u=Value.bool true:=r'
    obtain⟨more,hm⟩:=un.zJ Pt #[] hO.1
    have hm':s'.heap.get? Pt=some (PySem.W.tabObj more):=by have:=BM Pt _ hm;rw[Array.empty_append]at this;exact this
    have kp:∀b o,b≠Pt->s₁.heap.get? b=some o->s'.heap.get? b=some o:=fun b o hb e=>by
     cases q:H b with
     |none=>exact un.keep b o e q (by intro z;exact absurd (show b∈([]:List Addr)from z) (by simp)) (by simp)
     |some u=>
      rcases hO.2 b hb with z|⟨ob,xs,z⟩
      ·rw[q]at z;cases z
      ·have z2:=un.zB b ob _ z
       obtain⟨e1,_⟩:=hok b _ z
       obtain⟨e2,_⟩:=BM b _ z2
       rw[e]at e1;cases e1
       exact e2
    refine⟨rfl,⟨fun b o e=>?_,fun b o e=>?_⟩,os,bare⟩
    ·by_cases hb:b=Pt
     ·subst hb
      rw[Bp]at e;cases e
      exact .inr (.inl ⟨(hC.tab Bp).isCodeTable,rfl,#[],more,rfl,by rw[Array.empty_append];exact hm'⟩)
     ·exact .inl (kp b o hb e)
    ·by_cases hb:b=Pt
     ·exact⟨_,by rw[hb];exact hm'⟩
     ·exact⟨o,kp b o hb e⟩
 have aP:a≠Pt:=fun z=>by rw[z,Bp]at ha;cases ha
 cases hk:K.lookup a with
 |some o=>
  have e:=KX a o hk
  rw[ha]at e
  cases e
  refine core (fun b=>if b=Pt then some (.zL #[]) else none) ⟨if_pos rfl,fun b hb=>.inl (if_neg hb)⟩ (.inr ⟨_,vs.toArray,_,hk,rfl,rfl,rfl,by rw[EZ,CC];exact hl,by simpa using rv⟩) (fun b u z=>?_) (fun b z=>?_) fun z=>absurd (if_neg aP) z
  ·by_cases hb:b=Pt
   ·have z':=(if_pos hb).symm.trans z;cases z';subst hb;exact Bp
   ·have z':=(if_neg hb).symm.trans z;cases z'
  ·by_cases hb:b=Pt
   ·exact .inr hb
   ·exact absurd (if_neg hb) z
 |none=>
  refine core (fun b=>if b=Pt then some (.zL #[]) else if b=a then some (.frz { cls:=.type "list",data:=.seq vs.toArray } (.lst (ns.map V.int))) else none) ⟨if_pos rfl,fun b hb=>?_⟩ (.inl (.inr ⟨{ cls:=.type "list",data:=.seq vs.toArray },(if_neg aP).trans (if_pos rfl)⟩)) (fun b u z=>?_) (fun b z=>?_) fun _=>hk
  ·by_cases ha':b=a
   ·exact .inr ⟨_,_,(if_neg hb).trans (if_pos ha')⟩
   ·exact .inl ((if_neg hb).trans (if_neg ha'))
  ·by_cases hb:b=Pt
   ·have z':=(if_pos hb).symm.trans z;cases z';subst hb;exact Bp
   ·have z':=(if_neg hb).symm.trans z
    by_cases hb':b=a
    ·have z2:=(if_pos hb').symm.trans z'
     cases z2
     subst hb'
     exact⟨ha,by rw[E5];exact hl,vs,_,rv,ha⟩
    ·have z2:=(if_neg hb').symm.trans z';cases z2
  ·by_cases hb:b=Pt
   ·exact .inr hb
   ·by_cases hb':b=a
    ·exact .inl hb'
    ·exact absurd ((if_neg hb).trans (if_neg hb')) z
def nu{l:PySem.W.OpenLaw}{n k:Nat}{q:Program}{loose:Vs}{XP:(Vr)->Heap->Prop}{YP:World->Heap->Prop}{d d2:DefRec}{K:Params->PySem.W.Frag}{CX:World->kr}{sp:World->Sp}{x y:Str}{c Pt:Addr}
  (hn:l.most=some n) (hn2:n<=sizeLine) (hdf:d.params.defaults=[]) (hr:Room k callerA)
  (hY:∀(w:World) (h:Heap),YP w h->(K w.params).In h)
  (hy:(recsOf q).find? (fun e=>e.name == y)=some d2) (hT:∀w:World,PySem.W.tabIn (K w.params) y=some (c,Pt)) (Bq:∀w:World,(K w.params).lookup Pt=none)
  (F:∀(w:World) (mg:Vr) (fa:Addr) (h:Heap),(K w.params).In h->h.Ns mainGlobals mg->mg d.name=some (.ref fa)->
   ∃fd:FuncData,(∀(s:Shared) (u:Value),BindsTo s fd ⟨[u],[]⟩ [(x,u)])/\
    ∀base:Heap,(K w.params).In base->base.Ns mainGlobals mg->PySem.W.CodeHd base c Pt->base.BuiltinsAt mg Pt->ig l.prog w (K w.params) mg base (CX w) k fa fd [x] (sp w))
  (Ai:∀(w:World) (H:Hp) (a:Addr) (ns:Vu),ns.length<=n->ly Pt H->SqL (K w.params) H a (ns.map V.int)->sp w [.ref a] H (fun v _=>v = .bl true) fun _ _ _=>False)
  (CA:∀(w:World) (H:Hp) (s:Shared) (e:Value) (s':Shared),CX w [] H s (fun _ _ _=>False) e s'->False) :
  PySem.W.WalkO q loose XP YP l.row.toRowW d [] (fun f vs=>PySem.call f vs):=by
 refine Att.jQ hn hdf fun w s₀ s₁ mg mb fa o pm cd doc a vs ns G Y ho hd hcd hmg hobj hints hlen hg=>?_
 have KX:=hY w _ Y
 obtain⟨fd,hb,hF⟩:=F w mg fa _ KX G.T.g hmg
 obtain⟨hC,hP⟩:=PySem.W.tab_of G.T KX hy (hT w)
 have hB:s₁.heap.BuiltinsAt mg Pt:=by
  obtain⟨bm,ob,b1,b2,b3,b4,b5,b6⟩:=G.T.bmain
  refine⟨bm,ob,b1,b2,fun z=>?_,fun z=>?_,b3,b4,b5,b6⟩
  ·obtain⟨o,es,ep,e,hd',_⟩:=G.T.g
   rw[z,e]at b3;cases b3;rw[hd']at b6;cases b6
  ·rw[z,hP]at b3;cases b3;cases b4
 exact l_ KX G.T.g G.T.b G.T.builtins G.T.nolimit hg hobj hints (Fc hlen hn2) hr hC hP (Bq w) hB hF hb (fun H hO hS=>Ai w H a ns hlen hO hS) fun H e s'=>CA w H s₁ e s'
end L2
namespace L3
open PySem L2
inductive PV where
 |non|bl (b:Bool)|int (i:Int)|str (x:Str)|tup (xs:List PV)|cl (xs:List PV)|ref (a:Addr)|ty (n:String)|exc (c:Str) (ks:Vs) (ps:List PV)|cls (c:Str)|clo (nd:CN) (p:PV)
def BB(K:Vo)(H:Hp)(a:Addr)(xs:List V):Prop:=
 (∃o,H a=some (.frz o (.lst xs))) \/
  ∃(o:Obj) (its:Vw) (n:Nat),K.lookup a=some o/\o.cls = .type "list"/\o.dict=none/\o.data = .seq its n/\its.size<=sizeLine/\Vals xs its.toList
def BB.sq{K:Vo}{H:Hp}{a:Addr}{xs:List V}(h:BB K H a xs):SqL K H a xs:=h.elim (fun z=>.inl (.inr z)) .inr
def B_(H:Hp)(a C:Addr)(ks:Vs)(vs:List V):Prop:=
 ∃oe dx od,H a=some (.frz oe (.ext fun _=>True))/\oe.cls = .ref C/\oe.dict=some dx/\(∀c,oe.data ≠ .cls c)/\H dx=some (.frz od (.ext (XD dx (ks.zip vs))))
def pQ(K:Vo)(c:Str)(C:Addr):Prop:=PySem.W.nsIn K mainGlobals c=some (some (.ref C))
mutual
inductive Rep (K:Vo) (H:Hp):V->PV->Prop
 |non:Rep K H .non .non
 |bl (b:Bool):Rep K H (.bl b) (.bl b)
 |int (i:Int):Rep K H (.int i) (.int i)
 |str (x:Str):Rep K H (.str x) (.str x)
 |ty (n:String):Rep K H (.ty n) (.ty n)
 |ref (a:Addr):Rep K H (.ref a) (.ref a)
 |tup {a:Addr} {vs:List V} {ps:List PV}:yK K H a vs->Reps K H vs ps->Rep K H (.ref a) (.tup ps)
 |cl {a:Addr} {vs:List V} {ps:List PV}:BB K H a vs->Reps K H vs ps->Rep K H (.ref a) (.cl ps)
 |exc {a C:Addr} {c:Str} {ks:Vs} {vs:List V} {ps:List PV}:pQ K c C->B_ H a C ks vs->Reps K H vs ps->Rep K H (.ref a) (.exc c ks ps)
 |cls {C:Addr} {c:Str}:pQ K c C->Rep K H (.ref C) (.cls c)
 |clo {a:Addr} {nd:CN} {v:V} {p:PV}:A5 H a nd v->Rep K H v p->Rep K H (.ref a) (.clo nd p)
inductive Reps (K:Vo) (H:Hp):List V->List PV->Prop
 |nil:Reps K H [] []
 |cons {v:V} {p:PV} {vs:List V} {ps:List PV}:Rep K H v p->Reps K H vs ps->Reps K H (v::vs) (p::ps)
end
structure Grow (K:Vo) (H H':Hp):Prop where
 t:∀a vs,yK K H a vs->yK K H' a vs
 c:∀a vs,BB K H a vs->BB K H' a vs
 x:∀a o u,H a=some (.frz o u)->H' a=some (.frz o u)
def Grow.refl{K:Vo}{H:Hp}:Grow K H H:=⟨fun _ _ h=>h,fun _ _ h=>h,fun _ _ _ h=>h⟩
def Grow.trans{K:Vo}{H H1 H2:Hp}(a:Grow K H H1)(b:Grow K H1 H2):Grow K H H2:=⟨fun x vs h=>b.t x vs (a.t x vs h),fun x vs h=>b.c x vs (a.c x vs h),fun x o u h=>b.x x o u (a.x x o u h)⟩
def B_.mono{K:Vo}{H H':Hp}(g:Grow K H H'){a C:Addr}{ks:Vs}{vs:List V}(h:B_ H a C ks vs):B_ H' a C ks vs:=let ⟨oe,dx,od,h1,h2,h3,h4,h5⟩:=h;⟨oe,dx,od,g.x _ _ _ h1,h2,h3,h4,g.x _ _ _ h5⟩
def Grow.of{K:Vo}{H H':Hp}(h:∀a xs,H a=some (.tup xs)->H' a=some (.tup xs))(h2:∀a o u,H a=some (.frz o u)->H' a=some (.frz o u)):Grow K H H':=by
 refine⟨fun a vs q=>?_,fun a vs q=>?_,h2⟩
 ·rcases q with(q|⟨o,q⟩)|q
  ·exact .inl (.inl (h a vs q))
  ·exact .inl (.inr ⟨o,h2 a o _ q⟩)
  ·exact .inr q
 ·rcases q with⟨o,q⟩|q
  ·exact .inl ⟨o,h2 a o _ q⟩
  ·exact .inr q
def Grow.same{K:Vo}{H H':Hp}(h:∀c o,H c=some o->H' c=some o):Grow K H H':=.of (fun a _ q=>h a _ q) (fun a _ _ q=>h a _ q)
def Grow.new{K:Vo}{H:Hp}{p:Addr}{o:HO}(h:H p=none):Grow K H (upd H p o):=.same fun c u q=>by rw[ak (av q h)];exact q
noncomputable def Mu:HO->Prop
 | .tup _=>False
 | .frz _ _=>False
 |_=>True
def Grow.mut{K:Vo}{H:Hp}{p:Addr}{o u:HO}(h:H p=some u)(m:Mu u):Grow K H (upd H p o):=
 .of (fun a xs q=>by rw[ak (fun e=>by subst e;rw[h]at q;cases q;exact m)];exact q) (fun a _ _ q=>by rw[ak (fun e=>by subst e;rw[h]at q;cases q;exact m)];exact q)
mutual
theorem Rep.mono{K:Vo}{H H':Hp}(g:Grow K H H'):∀{v:V} {p:PV},Rep K H v p->Rep K H' v p
 |_,_,.non=>.non
 |_,_,.bl b=>.bl b
 |_,_,.int i=>.int i
 |_,_,.str x=>.str x
 |_,_,.ty n=>.ty n
 |_,_,.ref a=>.ref a
 |_,_,.tup h r=>.tup (g.t _ _ h) (Reps.mono g r)
 |_,_,.cl h r=>.cl (g.c _ _ h) (Reps.mono g r)
 |_,_,.exc n h r=>.exc n (h.mono g) (Reps.mono g r)
 |_,_,.cls n=>.cls n
 |_,_,.clo h r=>.clo (h.mono g.x) (Rep.mono g r)
theorem Reps.mono{K:Vo}{H H':Hp}(g:Grow K H H'):∀{vs:List V} {ps:List PV},Reps K H vs ps->Reps K H' vs ps
 |_,_,.nil=>.nil
 |_,_,.cons a r=>.cons (Rep.mono g a) (Reps.mono g r)
end
theorem Reps.length{K:Vo}{H:Hp}:∀{vs:List V} {ps:List PV},Reps K H vs ps->vs.length=ps.length
 |_,_,.nil=>rfl
 |_,_,.cons _ r=>by rw[Fe,Fe,Reps.length r]
theorem Reps.append{K:Vo}{H:Hp}:∀{vs us:List V} {ps qs:List PV},Reps K H vs ps->Reps K H us qs->Reps K H (vs++us) (ps++qs)
 |_,_,_,_,.nil,s=>s
 |_,_,_,_,.cons a r,s=>.cons a (Reps.append r s)
theorem Reps.get{K:Vo}{H:Hp}:∀{vs:List V} {ps:List PV} {i:Nat} {p:PV},Reps K H vs ps->ps[i]?=some p->∃v,vs[i]?=some v/\Rep K H v p
 |_,_,_,_,.nil,e=>by simp at e
 |_,_,0,_,.cons a r,e=>by simp at e;subst e;exact⟨_,rfl,a⟩
 |_,_,i+1,p,.cons a r,e=>by
  obtain⟨v,h1,h2⟩:=Reps.get (i:=i) (p:=p) r (by simpa using e)
  exact⟨v,by simpa using h1,h2⟩
theorem Reps.take{K:Vo}{H:Hp}:∀{vs:List V} {ps:List PV} (n:Nat),Reps K H vs ps->Reps K H (vs.take n) (ps.take n)
 |_,_,0,_=>.nil
 |_,_,_+1,.nil=>.nil
 |_,_,n+1,.cons a r=>.cons a (Reps.take n r)
theorem Reps.drop{K:Vo}{H:Hp}:∀{vs:List V} {ps:List PV} (n:Nat),Reps K H vs ps->Reps K H (vs.drop n) (ps.drop n)
 |_,_,0,r=>r
 |_,_,_+1,.nil=>.nil
 |_,_,n+1,.cons _ r=>Reps.drop n r
theorem Reps.set{K:Vo}{H:Hp}{v:V}{p:PV}(q:Rep K H v p):∀{vs:List V} {ps:List PV} (n:Nat),Reps K H vs ps->Reps K H (vs.set n v) (ps.set n p)
 |_,_,_,.nil=>.nil
 |_,_,0,.cons _ r=>.cons q r
 |_,_,n+1,.cons a r=>.cons a (Reps.set q n r)
theorem Reps.eraseIdx{K:Vo}{H:Hp}:∀{vs:List V} {ps:List PV} (n:Nat),Reps K H vs ps->Reps K H (vs.eraseIdx n) (ps.eraseIdx n)
 |_,_,_,.nil=>.nil
 |_,_,0,.cons _ r=>r
 |_,_,n+1,.cons a r=>.cons a (Reps.eraseIdx n r)
theorem Reps.reverse{K:Vo}{H:Hp}:∀{vs:List V} {ps:List PV},Reps K H vs ps->Reps K H vs.reverse ps.reverse
 |_,_,.nil=>.nil
 |_,_,.cons a r=>by rw[G8,G8];exact(Reps.reverse r).append (.cons a .nil)
theorem Reps.dropLast{K:Vo}{H:Hp}{vs:List V}{ps:List PV}(r:Reps K H vs ps):Reps K H vs.dropLast ps.dropLast:=by
 rw[List.dropLast_eq_take,List.dropLast_eq_take,r.length]
 exact r.take _
inductive SO where
 |lst (xs:List PV)
 |dct (kvs:List (aN×PV))
 |ins (c:Str) (fs:List (Str×PV))
 |tab (x:Str) (pos:Pos) (q:Str)
abbrev ap:=Addr->Option SO
noncomputable def aR(S:ap)(a:Addr)(o:SO):ap:=fun b=>if b=a then some o else S b
def ac{S:ap}{a:Addr}{o:SO}:aR S a o a=some o:=by unfold aR;rw[if_pos rfl]
def am{S:ap}{a b:Addr}{o:SO}(h:b≠a):aR S a o b=S b:=by unfold aR;rw[if_neg h]
inductive yc (K:Vo) (H:Hp) {κ:Type}:List (κ×V)->List (κ×PV)->Prop
 |nil:yc K H [] []
 |cons {k:κ} {v:V} {p:PV} {vs:List (κ×V)} {ps:List (κ×PV)}:Rep K H v p->yc K H vs ps->yc K H ((k,v)::vs) ((k,p)::ps)
theorem yc.mono{K:Vo}{H H':Hp}(g:Grow K H H'){κ:Type}:∀{vs:List (κ×V)} {ps:List (κ×PV)},yc K H vs ps->yc K H' vs ps
 |_,_,.nil=>.nil
 |_,_,.cons a r=>.cons (a.mono g) (yc.mono g r)
theorem yc.length{K:Vo}{H:Hp}{κ:Type}:∀{vs:List (κ×V)} {ps:List (κ×PV)},yc K H vs ps->vs.length=ps.length
 |_,_,.nil=>rfl
 |_,_,.cons _ r=>by rw[Fe,Fe,yc.length r]
noncomputable def z0(K:Vo)(H:Hp)(a:Addr):SO->Prop
 | .lst xs=>∃vs,H a=some (.lst vs)/\Reps K H vs xs
 | .dct kvs=>∃kv,H a=some (.dK kv)/\yc K H kv kvs
 | .ins c fs=>∃C dx f',pQ K c C/\H a=some (.ins C dx f')/\yc K H f' fs
 | .tab x pos q=>(∃c,PySem.W.tabIn K x=some (c,a))/\TabAt H a pos q
theorem z0.stay{K:Vo}{H H':Hp}(g:Grow K H H'){a:Addr}(e:H' a=H a):∀{o:SO},z0 K H a o->z0 K H' a o
 | .lst _,⟨vs,h,r⟩=>⟨vs,e.trans h,r.mono g⟩
 | .dct _,⟨vs,h,r⟩=>⟨vs,e.trans h,r.mono g⟩
 | .ins _ _,⟨C,dx,vs,n,h,r⟩=>⟨C,dx,vs,n,e.trans h,r.mono g⟩
 | .tab _ _ _,⟨h,r⟩=>⟨h,r.mono g.x e⟩
theorem z0.some{K:Vo}{H:Hp}{a:Addr}:∀{o:SO},z0 K H a o->∃u,H a=Option.some u/\Mu u
 | .lst _,⟨_,h,_⟩=>⟨_,h,trivial⟩
 | .dct _,⟨_,h,_⟩=>⟨_,h,trivial⟩
 | .ins _ _,⟨_,_,_,_,h,_⟩=>⟨_,h,trivial⟩
 | .tab _ _ _,⟨_,_,h,_⟩=>⟨_,h,trivial⟩
def RepS(K:Vo)(H:Hp)(S:ap):Prop:=∀a o,S a=some o->z0 K H a o
def RepS.free{K:Vo}{H:Hp}{S:ap}(r:RepS K H S){p:Addr}(h:H p=none):S p=none:=by
 cases e:S p with
 |none=>rfl
 |some o=>
  obtain⟨u,q,_⟩:=(r p o e).some
  rw[h]at q;cases q
def RepS.grow{K:Vo}{H H':Hp}{S:ap}(r:RepS K H S)(h:∀c o,H c=some o->H' c=some o):RepS K H' S:=fun a o e=>by
 obtain⟨u,q,_⟩:=(r a o e).some
 exact(r a o e).stay (.same h) ((h a u q).trans q.symm)
def RepS.other{K:Vo}{H:Hp}{S:ap}(r:RepS K H S){p:Addr}{o:HO}(h:H p=none):RepS K (upd H p o) S:=r.grow fun c u q=>by rw[ak (av q h)];exact q
theorem RepS.new{K:Vo}{H:Hp}{S:ap}(r:RepS K H S){p:Addr}{u:HO}{o:SO}(h:H p=none)(q:z0 K (upd H p u) p o):RepS K (upd H p u) (aR S p o):=fun a x e=>by
 by_cases z:a=p
 ·subst z;rw[ac]at e;cases e;exact q
 ·rw[am z]at e;exact(r a x e).stay (.new h) (ak z)
def RepS.put{K:Vo}{H:Hp}{S:ap}(r:RepS K H S){p:Addr}{u0 u:HO}{o:SO}(h:H p=some u0)(m:Mu u0)(q:z0 K (upd H p u) p o):RepS K (upd H p u) (aR S p o):=fun a x e=>by
 by_cases z:a=p
 ·subst z;rw[ac]at e;cases e;exact q
 ·rw[am z]at e;exact(r a x e).stay (.mut h m) (ak z)
abbrev bF:=List (Option PV)
noncomputable def lk:bF->Nat->Option PV
 |[],_=>none
 |x::_,0=>x
 |_::r,i+1=>lk r i
def ji{σ:bF}{i:Nat}{p:PV}(h:lk σ i=some p):σ[i]?=some (some p):=by
 induction σ generalizing i with
 |nil=>cases h
 |cons x r ih=>
  cases i with
  |zero=>exact FI some h
  |succ i=>exact ih h
structure RepSt (K:Vo) (H:Hp) (σ:St) (σ3:bF):Prop where
 len:σ.length=σ3.length
 at':∀(i:Nat) (p:PV),σ3[i]?=some (some p)->∃v,σ[i]?=some (some v)/\Rep K H v p
theorem RepSt.mono{K:Vo}{H H':Hp}{σ:St}{σ3:bF}(r:RepSt K H σ σ3)(g:Grow K H H'):RepSt K H' σ σ3:=⟨r.len,fun i p e=>let ⟨v,h,q⟩:=r.at' i p e;⟨v,h,q.mono g⟩⟩
theorem RepSt.set{K:Vo}{H:Hp}{σ:St}{σ3:bF}(r:RepSt K H σ σ3){v:V}{p:PV}(q:Rep K H v p)(i:Nat):RepSt K H (σ.set i (some v)) (σ3.set i (some p)):=by
 refine⟨by rw[List.length_set,List.length_set,r.len],fun j x e=>?_⟩
 rw[List.getElem?_set]at e ⊢
 split at e
 ·rename_i hij
  rw[if_pos hij]
  subst hij
  split at e
  ·rename_i hl
   cases e
   rw[if_pos (by rw[r.len];exact hl)]
   exact⟨v,rfl,q⟩
  ·cases e
 ·rename_i hij
  rw[if_neg hij]
  exact r.at' j x e
abbrev bY:=PV->ap->Prop
abbrev de:=PV->bF->ap->Prop
abbrev aO:=bF->ap->bY->de->Prop
abbrev fw:=bF->ap->(Bool->ap->Prop)->de->Prop
abbrev xG:=bF->ap->(List PV->ap->Prop)->de->Prop
structure dv where
 nx:bF->ap->Prop
 rt:bY
 ex:de
 bk:bF->ap->Prop:=fun _ _=>False
 ct:bF->ap->Prop:=fun _ _=>False
abbrev bp:=dv->bF->ap->Prop
def Av(X:Cx)(H:Hp)(E:de):Prop:=∀(c:Str) (ks:Vs) (ps:List PV) (σ3:bF) (S':ap) (H':Hp) (pins:Va) (σ:St) (s':Shared) (a C dx:Addr) (od:Obj) (vs:List V),E (.exc c ks ps) σ3 S'->pQ X.K c C->vs.length=ks.length->
 H' dx=some (.frz od (.ext (XD dx (ks.zip vs))))->Reps X.K H' vs ps->RepS X.K H' S'->RepSt X.K H' σ σ3->Grow X.K H H'->Inv X pins σ H' s'->xE X pins H' s'.heap a C dx->X.xe (.ref a) s'
def Av.mono{X:Cx}{H H':Hp}{E:de}(x:Av X H E)(g:Grow X.K H H'):Av X H' E:=fun c ks ps σ3 S' H2 pins σ s' a C dx od vs h1 h2 h3 h4 h5 h6 h7 h8 h9 D_=>x c ks ps σ3 S' H2 pins σ s' a C dx od vs h1 h2 h3 h4 h5 h6 h7 (g.trans h8) h9 D_
def Ret(K:Vo)(H:Hp)(Q3:bY)(Q:VK):Prop:=∀p S' v H',Q3 p S'->Rep K H' v p->RepS K H' S'->Grow K H H'->Q v H'
def Ret.mono{K:Vo}{H H':Hp}{Q3:bY}{Q:VK}(r:Ret K H Q3 Q)(g:Grow K H H'):Ret K H' Q3 Q:=fun p S' v H2 h1 h2 h3 h4=>r p S' v H2 h1 h2 h3 (g.trans h4)
def Nxt(K:Vo)(H:Hp)(N3:bF->ap->Prop)(N:St->Hp->Prop):Prop:=∀σ3 S' σ H',N3 σ3 S'->RepSt K H' σ σ3->RepS K H' S'->Grow K H H'->N σ H'
def Nxt.mono{K:Vo}{H H':Hp}{Q3:bF->ap->Prop}{Q:St->Hp->Prop}(r:Nxt K H Q3 Q)(g:Grow K H H'):Nxt K H' Q3 Q:=fun p S' v H2 h1 h2 h3 h4=>r p S' v H2 h1 h2 h3 (g.trans h4)
inductive LE (X:Cx) (t:aO) (σ:L2.St) (H:Hp) (Q:VK):Prop
 |mk (σ3 S Q3 E3) (rσ:RepSt X.K H σ σ3) (rS:RepS X.K H S) (h:t σ3 S Q3 E3) (xo:Av X H E3) (k:Ret X.K H Q3 Q):LE X t σ H Q
inductive LT (X:Cx) (t:fw) (σ:L2.St) (H:Hp) (Q:Bool->Hp->Prop):Prop
 |mk (σ3 S Q3 E3) (rσ:RepSt X.K H σ σ3) (rS:RepS X.K H S) (h:t σ3 S Q3 E3) (xo:Av X H E3) (k:∀b S' H',Q3 b S'->RepS X.K H' S'->Grow X.K H H'->Q b H'):LT X t σ H Q
inductive LS (X:Cx) (t:bp) (D:kB) (σ:L2.St) (H:Hp):Prop
 |mk (σ3 S D3) (rσ:RepSt X.K H σ σ3) (rS:RepS X.K H S) (h:t D3 σ3 S) (xo:Av X H D3.ex) (nx:Nxt X.K H D3.nx D.nx) (rt:Ret X.K H D3.rt D.rt) (bk:Nxt X.K H D3.bk D.bk) (ct:Nxt X.K H D3.ct D.ct):LS X t D σ H
structure a9 (X:Cx) (e:Expr) (t:aO):Prop where
 ok:PE X e (LE X t)
structure kM (X:Cx) (e:Expr) (t:fw):Prop where
 ok:PT X e (LT X t)
structure sB (X:Cx) (e:Expr) (t:fw):Prop where
 ok:PW X e (LT X t)
structure kN (X:Cx) (st:Stmt) (t:bp):Prop where
 ok:PS X st (LS X t)
structure fx (X:Cx) (st:List Stmt) (t:bp):Prop where
 ok:zY X st (LS X t)
def aK{X:Cx}{e:Expr}{t t':TE}(h:PE X e t)(k:∀σ H Q,t' σ H Q->t σ H Q):PE X e t':=fun pins s σ H Q I q=>h pins s σ H Q I (k σ H Q q)
def kO{X:Cx}{e:Expr}{t t':TT}(h:PT X e t)(k:∀σ H Q,t' σ H Q->t σ H Q):PT X e t':=fun pins s σ H Q I q=>h pins s σ H Q I (k σ H Q q)
def nv{X:Cx}{e:Expr}{t t':TT}(h:PW X e t)(k:∀σ H Q,t' σ H Q->t σ H Q):PW X e t':=fun wh pins s σ H Q I q=>h wh pins s σ H Q I (k σ H Q q)
def b7{X:Cx}{e:Stmt}{t t':TS}(h:PS X e t)(k:∀D σ H,t' D σ H->t D σ H):PS X e t':=fun pins s σ H D I q=>h pins s σ H D I (k D σ H q)
def lz{X:Cx}{e:List Stmt}{t t':TS}(h:zY X e t)(k:∀D σ H,t' D σ H->t D σ H):zY X e t':=fun pins s σ H D I q=>h pins s σ H D I (k D σ H q)
section
variable {X:Cx} {a b c e o:Expr} {es:List Expr} {ta tb tc te:aO} {pos:Pos}
def v3(i:Nat):aO:=fun σ S Q _=>match lk σ i with|some p=>Q p S|none=>False
def af(i:Nat){x:Str}(hN:X.N[i]?=some x:=by rfl)(hv:ua X.env.scope x:=by first|exact Or.inl rfl|exact Or.inr (Or.inl rfl)|exact Or.inr (Or.inr rfl))(hd:(x == ("__debug__":Str))=false:=by decide)
  (hcd:(x == ("__classdict__":Str))=false:=by decide):a9 X (.Name x pos) (v3 i):=
 ⟨aK (mH hN hv hd hcd) fun σ H Q ⟨σ3,S,Q3,E3,rσ,rS,h,xo,k⟩=>by
  unfold v3 at h
  split at h
  ·rename_i p e
   obtain⟨v,ev,rv⟩:=rσ.at' i p (ji e)
   exact⟨v,ev,k p S v H h rv rS .refl⟩
  ·exact h.elim⟩
def c3(p:PV):aO:=fun _ S Q _=>Q p S
def ad{i:Int}{j:Nat}:a9 X (.Constant (.int i) j pos) (c3 (.int i)):=⟨aK rf fun σ H Q ⟨σ3,S,Q3,E3,rσ,rS,h,xo,k⟩=>k _ S _ H h (.int i) rS .refl⟩
def sC{i:Bool}{j:Nat}:a9 X (.Constant (.bool i) j pos) (c3 (.bl i)):=⟨aK ue fun σ H Q ⟨σ3,S,Q3,E3,rσ,rS,h,xo,k⟩=>k _ S _ H h (.bl i) rS .refl⟩
def au{i:Str}{j:Nat}:a9 X (.Constant (.str i) j pos) (c3 (.str i)):=⟨aK rg fun σ H Q ⟨σ3,S,Q3,E3,rσ,rS,h,xo,k⟩=>k _ S _ H h (.str i) rS .refl⟩
def wG{x:Str}{n:String}(hg:Gl X x)(hm:X.mg x=none)(hv:bootBuiltins x=some (.type n))(hn:x ≠ "__name__":=by decide)(hd:(x == ("__debug__":Str))=false:=by decide):a9 X (.Name x pos) (c3 (.ty n)):=
 ⟨aK (oX (v:=.ty n) hg hm hv rfl hn hd) fun σ H Q ⟨σ3,S,Q3,E3,rσ,rS,h,xo,k⟩=>k _ S _ H h (.ty n) rS .refl⟩
noncomputable def aq:List aO->xG
 |[],_,S,Q,_=>Q [] S
 |t::ts,σ,S,Q,E=>t σ S (fun x S1=>aq ts σ S1 (fun xs S2=>Q (x::xs) S2) E) E
noncomputable def vU:List TE->TA
 |[]=>uE
 |t::ts=>qJ t (vU ts)
structure iL (X:Cx) (es:List Expr) (ts:List aO):Prop where
 ok:PA X es (vU (ts.map (LE X)))
def iM:iL X [] []:=⟨rP⟩
def nw{ts:List aO}(hs:starEach (e::es) X.env=(false,eval e X.env)::starEach es X.env)(ha:a9 X e te)(hr:iL X es ts):iL X (e::es) (te::ts):=⟨pe ha.ok hr.ok hs⟩
theorem bI:∀{ts:List aO} {σ:L2.St} {H:Hp} {Q:List V->Hp->Prop} {σ3:bF} {S:ap} {Q3:List PV->ap->Prop} {E3:de},RepSt X.K H σ σ3->RepS X.K H S->aq ts σ3 S Q3 E3->Av X H E3->
  (∀ps S' vs H',ps.length=ts.length->Q3 ps S'->Reps X.K H' vs ps->RepS X.K H' S'->Grow X.K H H'->Q vs H')->vU (ts.map (LE X)) σ H Q
 |[],σ,H,Q,σ3,S,Q3,E3,rσ,rS,h,xo,k=>k [] S [] H rfl h .nil rS .refl
 |t::ts,σ,H,Q,σ3,S,Q3,E3,rσ,rS,h,xo,k=>
  ⟨σ3,S,_,E3,rσ,rS,h,xo,fun p S1 v H1 h1 rv yi g1=>bI (rσ.mono g1) yi h1 (xo.mono g1) fun ps S2 vs H2 hl h2 BC zl g2=>k (p::ps) S2 (v::vs) H2 (by rw[Fe,Fe,hl]) h2 (.cons (rv.mono g2) BC) zl (g1.trans g2)⟩
def ay(ts:List aO):aO:=fun σ S Q E=>aq ts σ S (fun xs S1=>Q (.tup xs) S1) E
def aG{ts:List aO}{x1:Nat}(h:iL X es ts)(hn:ts.length<=1000:=by exact Hi rfl):a9 X (.Tuple es x1 pos) (ay ts):=
 ⟨aK (rQ h.ok) fun σ H Q ⟨σ3,S,Q3,E3,rσ,rS,hq,xo,k⟩=>bI rσ rS hq xo fun ps S' vs H' hl q rv y_ g=>
  ⟨GP (cE (by rw[rv.length,hl];exact hn)),fun p hp=>k _ S' _ _ q (.tup (yK.of ao) (rv.mono (.new hp))) (y_.other hp) (g.trans (.new hp))⟩⟩
def b8(ts:List aO):aO:=fun σ S Q E=>aq ts σ S (fun xs S1=>∀p,S1 p=none->Q (.ref p) (aR S1 p (.lst xs))) E
def dA{ts:List aO}(h:iL X es ts)(hn:ts.length<=1000:=by exact Hi rfl):a9 X (.List es pos) (b8 ts):=
 ⟨aK (rR h.ok) fun σ H Q ⟨σ3,S,Q3,E3,rσ,rS,hq,xo,k⟩=>bI rσ rS hq xo fun ps S' vs H' hl q rv y_ g=>
  ⟨GP (cE (by rw[rv.length,hl];exact hn)),fun p hp=>k _ _ _ _ (q p (y_.free hp)) (.ref p) (y_.new hp ⟨vs,ao,rv.mono (.new hp)⟩) (g.trans (.new hp))⟩⟩
abbrev R3:=PV->PV->ap->bY->Prop
inductive LR (X:Cx) (r:R3) (x y:V) (H:Hp) (Q:VK):Prop
 |mk (px py S Q3) (rx:Rep X.K H x px) (ry:Rep X.K H y py) (rS:RepS X.K H S) (h:r px py S Q3) (k:Ret X.K H Q3 Q):LR X r x y H Q
structure fZ (X:Cx) (f:Value->Value->Sem Value) (r:R3):Prop where
 ok:fM X f (LR X r)
def aj(r:R3)(ta tb:aO):aO:=fun σ S Q E=>ta σ S (fun x S1=>tb σ S1 (fun y S2=>r x y S2 Q) E) E
def gm{r:R3}{σ:L2.St}{H:Hp}{Q:VK}:LE X (aj r ta tb) σ H Q->uu (LR X r) (LE X ta) (LE X tb) σ H Q:=fun⟨σ3,S,Q3,E3,rσ,rS,h,xo,k⟩=>
 ⟨σ3,S,_,E3,rσ,rS,h,xo,fun x S1 v H1 h1 rx yi g1=>⟨σ3,S1,_,E3,rσ.mono g1,yi,h1,xo.mono g1,fun y S2 u H2 h2 ry zl g2=>⟨x,y,S2,Q3,rx.mono g2,ry,zl,h2,k.mono (g1.trans g2)⟩⟩⟩
def aD{op:Operator}{r:R3}(ho:fZ X (binaryOp op) r)(ha:a9 X a ta)(hb:a9 X b tb):a9 X (.BinOp a op b pos) (aj r ta tb):=⟨aK (uv ho.ok ha.ok hb.ok) fun _ _ _=>gm⟩
def uW{op:CmpOp}{r:R3}(ho:fZ X (compareOp op) r)(ha:a9 X a ta)(hb:a9 X b tb)(hm:behindInMarks op b=false):a9 X (.Compare a [op] [b] pos) (aj r ta tb):=⟨aK (o_ ho.ok ha.ok hb.ok hm) fun _ _ _=>gm⟩
def a_(t:aO):fw:=fun σ S Q E=>t σ S (fun v S'=>match v with | .bl k=>Q k S'|_=>False) E
def ny{σ:L2.St}{H:Hp}{Q:Bool->Hp->Prop}:LT X (a_ te) σ H Q->LE X te σ H (fun x H'=>∃k,x = .bl k/\Q k H'):=fun⟨σ3,S,Q3,E3,rσ,rS,h,xo,k⟩=>
 ⟨σ3,S,_,E3,rσ,rS,h,xo,fun p S' v H' h1 rv y_ g=>by
  cases p with
  |bl z=>cases rv;exact⟨z,rfl,k z S' H' h1 y_ g⟩
  |_=>exact h1.elim⟩
def bu{op:CmpOp}{r:R3}(ho:fZ X (compareOp op) r)(ha:a9 X a ta)(hb:a9 X b tb)(hm:behindInMarks op b=false):kM X (.Compare a [op] [b] pos) (a_ (aj r ta tb)):=
 ⟨kO (pd ho.ok ha.ok hb.ok hm) fun σ H Q ⟨σ3,S,Q3,E3,rσ,rS,h,xo,k⟩=>gm ⟨σ3,S,_,E3,rσ,rS,h,xo,fun p S' v H' h1 rv y_ g=>by
  cases p with
  |bl z=>cases rv;exact⟨z,rfl,k z S' H' h1 y_ g⟩
  |_=>exact h1.elim⟩⟩
def nz(h:a9 X e te)(he:∀whole,isTrue e X.env whole=(do let v <-whole;standAt e.pos;holding [v] (truthy v)):=by intro _;rfl):kM X e (a_ te):=
 ⟨kO (rh h.ok he) fun σ H Q q=>ny q⟩
end
section
variable {X:Cx} {a b c:Expr} {rest:List Expr} {ta tb te:aO} {tA tB:fw} {pos:Pos}
def fy(t u:fw):fw:=fun σ S Q E=>t σ S (fun c S1=>if c=true then u σ S1 Q E else Q false S1) E
def ku(t u:fw):fw:=fun σ S Q E=>t σ S (fun c S1=>if c=true then Q true S1 else u σ S1 Q E) E
def nA(t:fw):fw:=fun σ S Q E=>t σ S (fun c S1=>Q (!c) S1) E
def nB(ha:kM X a tA):sB X (.BoolOp .And [a] pos) tA:=⟨oY ha.ok⟩
def gK(ha:kM X a tA):sB X (.BoolOp .Or [a] pos) tA:=⟨rj ha.ok⟩
def nC(ha:kM X a tA)(hb:sB X (.BoolOp .And (b::rest) pos) tB):sB X (.BoolOp .And (a::b::rest) pos) (fy tA tB):=
 ⟨nv (rm ha.ok hb.ok) fun σ H Q ⟨σ3,S,Q3,E3,rσ,rS,h,xo,k⟩=>⟨σ3,S,_,E3,rσ,rS,h,xo,fun c S1 H1 h1 yi g1=>by
  cases c with
  |true=>rw[if_pos rfl]at h1 ⊢;exact⟨σ3,S1,Q3,E3,rσ.mono g1,yi,h1,xo.mono g1,fun b S2 H2 h2 zl g2=>k b S2 H2 h2 zl (g1.trans g2)⟩
  |false=>rw[if_neg (by decide)]at h1 ⊢;exact k false S1 H1 h1 yi g1⟩⟩
def jU(ha:kM X a tA)(hb:sB X (.BoolOp .Or (b::rest) pos) tB):sB X (.BoolOp .Or (a::b::rest) pos) (ku tA tB):=
 ⟨nv (uf ha.ok hb.ok) fun σ H Q ⟨σ3,S,Q3,E3,rσ,rS,h,xo,k⟩=>⟨σ3,S,_,E3,rσ,rS,h,xo,fun c S1 H1 h1 yi g1=>by
  cases c with
  |true=>rw[if_pos rfl]at h1 ⊢;exact k true S1 H1 h1 yi g1
  |false=>rw[if_neg (by decide)]at h1 ⊢;exact⟨σ3,S1,Q3,E3,rσ.mono g1,yi,h1,xo.mono g1,fun b S2 H2 h2 zl g2=>k b S2 H2 h2 zl (g1.trans g2)⟩⟩⟩
def pR(h:sB X a tA):kM X a tA:=⟨h.ok.pt⟩
def uX(ha:kM X a tA):kM X (.UnaryOp .Not a pos) (nA tA):=
 ⟨kO (rn ha.ok) fun σ H Q ⟨σ3,S,Q3,E3,rσ,rS,h,xo,k⟩=>⟨σ3,S,_,E3,rσ,rS,h,xo,fun c S1 H1 h1 yi g1=>k (!c) S1 H1 h1 yi g1⟩⟩
def nE(t:fw)(ta tb:aO):aO:=fun σ S Q E=>t σ S (fun c S1=>if c=true then ta σ S1 Q E else tb σ S1 Q E) E
def uY(hc:kM X c tA)(ha:a9 X a ta)(hb:a9 X b tb):a9 X (.IfExp c a b pos) (nE tA ta tb):=
 ⟨aK (mI hc.ok ha.ok hb.ok) fun σ H Q ⟨σ3,S,Q3,E3,rσ,rS,h,xo,k⟩=>⟨σ3,S,_,E3,rσ,rS,h,xo,fun c S1 H1 h1 yi g1=>by
  cases c with
  |true=>rw[if_pos rfl]at h1 ⊢;exact⟨σ3,S1,Q3,E3,rσ.mono g1,yi,h1,xo.mono g1,k.mono g1⟩
  |false=>rw[if_neg (by decide)]at h1 ⊢;exact⟨σ3,S1,Q3,E3,rσ.mono g1,yi,h1,xo.mono g1,k.mono g1⟩⟩⟩
abbrev uZ:=PV->ap->bY->Prop
noncomputable def xH(X:Cx)(r:uZ):V->Hp->VK->Prop:=fun x H Q=>∃px S Q3,Rep X.K H x px/\RepS X.K H S/\r px S Q3/\Ret X.K H Q3 Q
structure xg (X:Cx) (f:Value->Sem Value) (r:uZ):Prop where
 ok:vP X f (xH X r)
def qP(r:uZ)(ta:aO):aO:=fun σ S Q E=>ta σ S (fun x S1=>r x S1 Q) E
def pS{op:UnaryOp}{r:uZ}(ho:xg X (unaryOp op) r)(ha:a9 X a ta):a9 X (.UnaryOp op a pos) (qP r ta):=
 ⟨aK (ux ho.ok ha.ok) fun σ H Q ⟨σ3,S,Q3,E3,rσ,rS,h,xo,k⟩=>⟨σ3,S,_,E3,rσ,rS,h,xo,fun p S1 v H1 h1 rv yi g1=>⟨p,S1,Q3,rv,yi,h1,k.mono g1⟩⟩⟩
noncomputable def jV:uZ:=fun x S Q=>match x with | .int i=>Q (.int (-i)) S|_=>False
def jj:xg X (unaryOp .USub) jV:=⟨fun pins s σ H x v Q I rx ⟨px,S,Q3,r1,rS,h,k⟩=>by
 cases px with
 |int i=>cases r1;exact rO pins s σ H _ v Q I rx ⟨i,rfl,k _ S _ H h (.int _) rS .refl⟩
 |_=>exact h.elim⟩
end
section
variable {X:Cx}
def dh(g:Int->Int->PV):R3:=fun x y S Q=>match x,y with | .int i,.int j=>Q (g i j) S|_,_=>False
def dB(C:Int->Int->Prop)(g:Int->Int->PV):R3:=fun x y S Q=>match x,y with | .int i,.int j=>C i j/\Q (g i j) S|_,_=>False
def sD{f:Value->Value->Sem Value}{g:Int->Int->Int}(h:fM X f (o8 fun i j=>.int (g i j))):fZ X f (dh fun i j=>.int (g i j)):=⟨fun pins s σ H x y v u Q I rx ry ⟨px,py,S,Q3,r1,r2,rS,q,k⟩=>by
 cases px with
 |int i=>
  cases py with
  |int j=>cases r1;cases r2;exact h pins s σ H _ _ v u Q I rx ry ⟨i,j,rfl,rfl,k _ S _ H q (.int _) rS .refl⟩
  |_=>exact q.elim
 |_=>exact q.elim⟩
def jk{f:Value->Value->Sem Value}{g:Int->Int->Bool}(h:fM X f (o8 fun i j=>.bl (g i j))):fZ X f (dh fun i j=>.bl (g i j)):=⟨fun pins s σ H x y v u Q I rx ry ⟨px,py,S,Q3,r1,r2,rS,q,k⟩=>by
 cases px with
 |int i=>
  cases py with
  |int j=>cases r1;cases r2;exact h pins s σ H _ _ v u Q I rx ry ⟨i,j,rfl,rfl,k _ S _ H q (.bl _) rS .refl⟩
  |_=>exact q.elim
 |_=>exact q.elim⟩
def jm{f:Value->Value->Sem Value}{C:Int->Int->Prop}{g:Int->Int->Int}(h:fM X f (rI C fun i j=>.int (g i j))):fZ X f (dB C fun i j=>.int (g i j)):=⟨fun pins s σ H x y v u Q I rx ry ⟨px,py,S,Q3,r1,r2,rS,q,k⟩=>by
 cases px with
 |int i=>
  cases py with
  |int j=>cases r1;cases r2;exact h pins s σ H _ _ v u Q I rx ry ⟨i,j,rfl,rfl,q.1,k _ S _ H q.2 (.int _) rS .refl⟩
  |_=>exact q.elim
 |_=>exact q.elim⟩
def jW(i j:Int):Prop:=j≠0/\j.natAbs < 2 ^ 8000
def kP{n:Nat}(h:n < 2 ^ 8000):n.log2 < 9000:=by
 by_cases z:n=0
 ·rw[z];decide +kernel
 ·exact F5 ((Nat.log2_lt z).mpr h) (by decide)
def sE:fZ X (binaryOp .Sub) (dh fun i j=>.int (i - j)):=sD rM
def sF:fZ X (binaryOp .Mod) (dB (fun _ j=>j≠0) fun i j=>.int (i.fmod j)):=jm o9
def pU:fZ X (binaryOp .FloorDiv) (dB jW fun i j=>.int (i.fdiv j)):=jm (vQ fun _ _ _ _ _ _ _ hc q=>PyProof.Rows.floordiv_int hc.1 q (.inl (PyProof.noPylong_of_log2 (kP hc.2))))
def sG:fZ X (binaryOp .Pow) (dB rK fun i j=>.int (i ^ j.toNat)):=jm rN
def u4:fZ X (compareOp .Lt) (dh fun i j=>.bl (decide (i < j))):=jk uA
def u5:fZ X (compareOp .Gt) (dh fun i j=>.bl (decide (j < i))):=jk uB
def u6:fZ X (compareOp .GtE) (dh fun i j=>.bl (decide (j<=i))):=jk uC
end
end L3
namespace L2
open PySem PySem.Spec PyProof.Rows
section
variable {X:Cx}
def u7(K:Vo):R2:=fun x y H Q=>∃a b xs ys,x = .ref a/\y = .ref b/\yK K H a xs/\yK K H b ys/\xs.length+ys.length<=sizeLine/\∀r H',(∀c o,H c=some o->H' c=some o)->yK K H' r (xs++ys)->Q (.ref r) H'
def pV:fM X (binaryOp .Add) (u7 X.K):=by
 intro pins s σ H x y v u Q I rx ry h
 obtain⟨a,b,xs,ys,rfl,rfl,ha,hb,hz,q⟩:=h
 by_cases hx:xs=[]
 ·subst hx
  cases rx
  cases ry
  obtain⟨its,r1,p1,_⟩:=I.tuple ha
  obtain⟨its2,r2,p2,_⟩:=I.tuple hb
  cases r1
  obtain⟨⟨cls,dd,data,sl⟩,ho,hc,n,hd⟩:=id p1
  obtain⟨⟨Co,dd2,data2,sl2⟩,ho2,hc2,n2,hd2⟩:=id p2
  simp only at hc hd hc2 hd2
  subst hc hd hc2 hd2
  exact concat_meets ⟨_,ho,rfl⟩ ⟨_,ho2,rfl⟩ noFill_tuple_add seq_tuple_add G4 GZ (GS _ _)
   (tuple_addW0 a b _ its2.toArray n n2 dd dd2 sl sl2 rfl) ⟨ho,ho2,⟨.ref b,H,I,rfl,q b H (fun _ _ e=>e) hb⟩⟩
 ·exact pq pins s σ H _ _ v u Q I rx ry ⟨a,b,xs,ys,rfl,rfl,ha,hb,hx,hz,fun e=>q a H (fun _ _ e=>e) (by rw[e,Gv];exact ha),
   fun _ p hp=>q p _ (fun c o e=>by rw[ak (av e hp)];exact e) (yK.of ao)⟩
end
end L2
namespace L3
open PySem L2
section
variable {X:Cx}
def aQ:R3:=fun x y S Q=>match x,y with
 | .int i,.int j=>Q (.int (i+j)) S
 | .str i,.str j=>i.length+j.length<=sizeLine/\Q (.str (i++j)) S
 | .tup i,.tup j=>i.length+j.length<=sizeLine/\Q (.tup (i++j)) S
 | .ref i,.ref j=>match S i,S j with
  |some (.lst xs),some (.lst ys)=>xs.length+ys.length<=sizeLine/\∀p,S p=none->Q (.ref p) (aR S p (.lst (xs++ys)))
  |_,_=>False
 |_,_=>False
def aF:fZ X (binaryOp .Add) aQ:=⟨fun pins s σ H x y v u Q I rx ry ⟨px,py,S,Q3,r1,r2,rS,q,k⟩=>by
 unfold aQ at q
 split at q
 ·cases r1;cases r2
  exact rL pins s σ H _ _ v u Q I rx ry ⟨_,_,rfl,rfl,k _ S _ H q (.int _) rS .refl⟩
 ·cases r1;cases r2
  exact kE pins s σ H _ _ v u Q I rx ry ⟨_,_,rfl,rfl,q.1,k _ S _ H q.2 (.str _) rS .refl⟩
 ·cases r1 with
  |tup h1 s1=>
   cases r2 with
   |tup h2 s2=>
    refine pV pins s σ H _ _ v u Q I rx ry ⟨_,_,_,_,rfl,rfl,h1,h2,by rw[s1.length,s2.length];exact q.1,fun r H' hs hr=>?_⟩
    exact k _ S _ H' q.2 (.tup hr ((s1.mono (.same hs)).append (s2.mono (.same hs)))) (rS.grow hs) (.same hs)
 ·cases r1;cases r2
  split at q
  ·rename_i i j xs ys e1 e2
   obtain⟨vs,h1,s1⟩:=rS _ _ e1
   obtain⟨us,h2,s2⟩:=rS _ _ e2
   exact r_ pins s σ H _ _ v u Q I rx ry ⟨_,_,_,_,rfl,rfl,h1,h2,by rw[s1.length,s2.length];exact q.1,fun p hp=>k _ _ _ _ (q.2 p (rS.free hp)) (.ref p) (rS.new hp ⟨_,ao,(s1.append s2).mono (.new hp)⟩) (.new hp)⟩
  ·exact q.elim
 ·exact q.elim⟩
end
mutual
inductive Dat (S:ap):PV->PyData->Prop
 |non:Dat S .non .none
 |bl (b:Bool):Dat S (.bl b) (.bool b)
 |int (i:Int):Dat S (.int i) (.int i)
 |str (x:Str):Dat S (.str x) (.str x)
 |tup {ps:List PV} {ds:List PyData}:y8 S ps ds->Dat S (.tup ps) (.tuple ds)
 |cl {ps:List PV} {ds:List PyData}:y8 S ps ds->Dat S (.cl ps) (.list ds)
 |ref {a:Addr} {ps:List PV} {ds:List PyData}:S a=some (.lst ps)->y8 S ps ds->Dat S (.ref a) (.list ds)
inductive y8 (S:ap):List PV->List PyData->Prop
 |nil:y8 S [] []
 |cons {p:PV} {d:PyData} {ps:List PV} {ds:List PyData}:Dat S p d->y8 S ps ds->y8 S (p::ps) (d::ds)
end
section
variable {X:Cx} {pins:Va} {σ:L2.St} {H:Hp} {s:Shared} {S:ap}
def kQ(I:Inv X pins σ H s)(rS:RepS X.K H S):(∀{p:PV} {d:PyData},Dat S p d->∀{v:V} {u:Value},Rep X.K H v p->RelV v u->∃as,Reads s.heap u d as)/\∀{ps:List PV} {ds:List PyData},y8 S ps ds->∀{vs:List V} {us:Vv},Reps X.K H vs ps->Vals vs us->∃as,ReadsAll s.heap us ds as:=by
 have one:=@Dat.rec S (motive_1:=fun p d _=>∀{v:V} {u:Value},Rep X.K H v p->RelV v u->∃as,Reads s.heap u d as) (motive_2:=fun ps ds _=>∀{vs:List V} {us:Vv},Reps X.K H vs ps->Vals vs us->∃as,ReadsAll s.heap us ds as)
 have two:=@y8.rec S (motive_1:=fun p d _=>∀{v:V} {u:Value},Rep X.K H v p->RelV v u->∃as,Reads s.heap u d as) (motive_2:=fun ps ds _=>∀{vs:List V} {us:Vv},Reps X.K H vs ps->Vals vs us->∃as,ReadsAll s.heap us ds as)
 have c1:∀{v:V} {u:Value},Rep X.K H v .non->RelV v u->∃as,Reads s.heap u .none as:=fun h r=>by cases h;cases r;exact⟨_,.none⟩
 have c2:∀(b:Bool) {v:V} {u:Value},Rep X.K H v (.bl b)->RelV v u->∃as,Reads s.heap u (.bool b) as:=fun b _ _ h r=>by cases h;cases r;exact⟨_,.bool b⟩
 have c3:∀(i:Int) {v:V} {u:Value},Rep X.K H v (.int i)->RelV v u->∃as,Reads s.heap u (.int i) as:=fun i _ _ h r=>by cases h;obtain⟨t,rfl⟩:=r;exact⟨_,.int i t⟩
 have c4:∀(x:Str) {v:V} {u:Value},Rep X.K H v (.str x)->RelV v u->∃as,Reads s.heap u (.str x) as:=fun x _ _ h r=>by cases h;obtain⟨t,rfl⟩:=r;exact⟨_,.str x t⟩
 have c5:∀{ps:List PV} {ds:List PyData},y8 S ps ds->(∀{vs:List V} {us:Vv},Reps X.K H vs ps->Vals vs us->∃as,ReadsAll s.heap us ds as)->∀{v:V} {u:Value},Rep X.K H v (.tup ps)->RelV v u->∃as,Reads s.heap u (.tuple ds) as:=fun _ ih _ _ h r=>by
  cases h with
  |tup h rs=>
   cases r
   obtain⟨its,rv,⟨o,ho,hc,n,hd⟩,hz⟩:=I.tuple h
   obtain⟨as,q⟩:=ih rs rv
   exact⟨as,.tuple ho hc hd (by simpa using q)⟩
 have c6:∀{ps:List PV} {ds:List PyData},y8 S ps ds->(∀{vs:List V} {us:Vv},Reps X.K H vs ps->Vals vs us->∃as,ReadsAll s.heap us ds as)->∀{v:V} {u:Value},Rep X.K H v (.cl ps)->RelV v u->∃as,Reads s.heap u (.list ds) as:=fun _ ih _ _ h r=>by
  cases h with
  |cl h rs=>
   cases r
   obtain⟨its,rv,⟨o,n,ho,hc,_,hd⟩,hz⟩:=I.list h.sq
   obtain⟨as,q⟩:=ih rs rv
   exact⟨_,.list ho hc hd (by simpa using q)⟩
 have c7:∀{a:Addr} {ps:List PV} {ds:List PyData},S a=some (.lst ps)->y8 S ps ds->(∀{vs:List V} {us:Vv},Reps X.K H vs ps->Vals vs us->∃as,ReadsAll s.heap us ds as)->∀{v:V} {u:Value},Rep X.K H v (.ref a)->RelV v u->∃as,Reads s.heap u (.list ds) as:=fun e _ ih _ _ h r=>by
  cases h
  cases r
  obtain⟨vs,hv,rs⟩:=rS _ _ e
  obtain⟨its,rv,⟨o,n,ho,hc,_,hd⟩,hz⟩:=I.list (SqL.of hv)
  obtain⟨as,q⟩:=ih rs rv
  exact⟨_,.list ho hc hd (by simpa using q)⟩
 have c8:∀{vs:List V} {us:Vv},Reps X.K H vs []->Vals vs us->∃as,ReadsAll s.heap us [] as:=fun h r=>by cases h;cases r;exact⟨_,.nil⟩
 have c9:∀{p:PV} {d:PyData} {ps:List PV} {ds:List PyData},Dat S p d->y8 S ps ds->(∀{v:V} {u:Value},Rep X.K H v p->RelV v u->∃as,Reads s.heap u d as)->(∀{vs:List V} {us:Vv},Reps X.K H vs ps->Vals vs us->∃as,ReadsAll s.heap us ds as)->∀{vs:List V} {us:Vv},Reps X.K H vs (p::ps)->Vals vs us->∃as,ReadsAll s.heap us (d::ds) as:=fun _ _ i1 i2 _ _ h r=>by
  cases h with
  |cons a rs=>
   cases r with
   |cons r1 r2=>
    obtain⟨as,q⟩:=i1 a r1
    obtain⟨bs,q2⟩:=i2 rs r2
    exact⟨_,.cons q q2⟩
 exact⟨fun h=>one c1 c2 c3 c4 c5 c6 c7 c8 c9 h,fun h=>two c1 c2 c3 c4 c5 c6 c7 c8 c9 h⟩
def Dat.reads(I:Inv X pins σ H s)(rS:RepS X.K H S){p:PV}{d:PyData}{v:V}{u:Value}(h:Dat S p d)(r:Rep X.K H v p)(r2:RelV v u):∃as,Reads s.heap u d as:=(kQ I rS).1 h r r2
end
section
variable {X:Cx}
def ce(neg:Bool):R3:=fun x y S Q=>match x,y with
 | .int i,.int j=>Q (.bl (neg != decide (i=j))) S
 | .str i,.str j=>Q (.bl (neg != decide (i=j))) S
 | .bl i,.bl j=>Q (.bl (neg != decide (i=j))) S
 |x,y=>∃d d',Dat S x d/\Dat S y d'/\d.canLay0=true/\d'.canLay0=true/\min d.depth d'.depth<=150/\Q (.bl (neg != PyData.eqv d d')) S
def qQ(hu:X.A.units+150 < cLine):fZ X (compareOp .Eq) (ce false):=⟨fun pins s σ H x y v u Q I rx ry ⟨px,py,S,Q3,r1,r2,rS,q,k⟩=>by
 unfold ce at q
 split at q
 ·cases r1;cases r2
  exact mP pins s σ H _ _ v u Q I rx ry ⟨rfl,k _ S _ H (by simpa using q) (.bl _) rS .refl⟩
 ·cases r1;cases r2
  exact mP pins s σ H _ _ v u Q I rx ry ⟨rfl,k _ S _ H (by simpa using q) (.bl _) rS .refl⟩
 ·cases r1;cases r2
  exact mP pins s σ H _ _ v u Q I rx ry ⟨rfl,k _ S _ H (by simpa using q) (.bl _) rS .refl⟩
 ·obtain⟨d,d',h1,h2,c1,c2,hd,q⟩:=q
  obtain⟨as,a1⟩:=h1.reads I rS r1 rx
  obtain⟨bs,a2⟩:=h2.reads I rS r2 ry
  exact SeqAt.compareEq_reads a1 a2 c1 c2 (by omega) ⟨.bl _,H,I,rfl,k _ S _ H (by simpa using q) (.bl _) rS .refl⟩⟩
def u8(hu:X.A.units+150 < cLine):fZ X (compareOp .NotEq) (ce true):=⟨fun pins s σ H x y v u Q I rx ry ⟨px,py,S,Q3,r1,r2,rS,q,k⟩=>by
 unfold ce at q
 split at q
 ·cases r1;cases r2
  exact mQ pins s σ H _ _ v u Q I rx ry ⟨rfl,k _ S _ H (by simpa using q) (.bl _) rS .refl⟩
 ·cases r1;cases r2
  exact mQ pins s σ H _ _ v u Q I rx ry ⟨rfl,k _ S _ H (by simpa using q) (.bl _) rS .refl⟩
 ·cases r1;cases r2
  exact mQ pins s σ H _ _ v u Q I rx ry ⟨rfl,k _ S _ H (by simpa using q) (.bl _) rS .refl⟩
 ·obtain⟨d,d',h1,h2,c1,c2,hd,q⟩:=q
  obtain⟨as,a1⟩:=h1.reads I rS r1 rx
  obtain⟨bs,a2⟩:=h2.reads I rS r2 ry
  exact SeqAt.compareNe_reads a1 a2 c1 c2 (by omega) ⟨.bl _,H,I,rfl,k _ S _ H (by simpa using q) (.bl _) rS .refl⟩⟩
noncomputable def fz(S:ap):PV->Option (List PV)
 | .tup xs=>some xs
 | .cl xs=>some xs
 | .ref a=>match S a with|some (.lst xs)=>some xs|_=>none
 |_=>none
def sH{H:Hp}{S:ap}{v:V}{p:PV}{xs:List PV}(rS:RepS X.K H S)(r:Rep X.K H v p)(h:fz S p=some xs):∃a vs,v = .ref a/\(SqL X.K H a vs\/yK X.K H a vs)/\Reps X.K H vs xs:=by
 unfold fz at h
 split at h
 ·cases h;cases r with|tup h1 rs=>exact⟨_,_,rfl,.inr h1,rs⟩
 ·cases h;cases r with|cl h1 rs=>exact⟨_,_,rfl,.inl h1.sq,rs⟩
 ·cases r
  split at h
  ·rename_i e
   cases h
   obtain⟨vs,hv,rs⟩:=rS _ _ e
   exact⟨_,vs,rfl,.inl (SqL.of hv),rs⟩
  ·cases h
 ·cases h
noncomputable def iN(x:PyData)(xs:List PyData):Bool:=xs.any fun y=>PyData.eqv y x
def kR(neg:Bool):R3:=fun x y S Q=>match x,y with
 | .str i,.str j=>Q (.bl (neg != !(Builtin.Str.occurrences j i 0 j.length 1).isEmpty)) S
 |x,y=>match y with
  | .ref a=>match S a with
   |some (.lst xs)=>∃d ds,Dat S x d/\y8 S xs ds/\d.canLay0=true/\PyData.canLayAll0 ds=true/\d.depth<=150/\Q (.bl (neg != iN d ds)) S
   |some (.dct kvs)=>match x with
    | .str z=>Q (.bl (neg != (kvs.any fun kv=>decide (kv.1=Sum.inr z)))) S
    | .int z=>Q (.bl (neg != (kvs.any fun kv=>decide (kv.1=Sum.inl z)))) S
    |_=>False
   |_=>False
  | .tup xs=>∃d ds,Dat S x d/\y8 S xs ds/\d.canLay0=true/\PyData.canLayAll0 ds=true/\d.depth<=150/\Q (.bl (neg != iN d ds)) S
  |_=>False
theorem yc.any{K:Vo}{H:Hp}{κ:Type} [DecidableEq κ](k:κ):∀{vs:List (κ×V)} {ps:List (κ×PV)},yc K H vs ps->(eh vs k).isSome=ps.any fun kv=>decide (kv.1=k)
 |_,_,.nil=>rfl
 |_,_,.cons (k:=k') a r=>by
  rw[Hq,<-yc.any k r]
  by_cases e:k'=k
  ·rw[yL e];simp[e]
  ·rw[yM e];simp[e]
def iO(hu:X.A.units+160 < cLine):fZ X (compareOp .In) (kR false):=⟨fun pins s σ H x y v u Q I rx ry ⟨px,py,S,Q3,r1,r2,rS,q,k⟩=>by
 unfold kR at q
 split at q
 ·cases r1;cases r2
  exact lR pins s σ H _ _ v u Q I rx ry ⟨_,_,rfl,rfl,k _ S _ H (by simpa using q) (.bl _) rS .refl⟩
 ·split at q
  ·cases r2
   cases ry
   split at q
   ·rename_i xs e
    obtain⟨d,ds,h1,h2,c1,c2,hd,q⟩:=q
    obtain⟨as,a1⟩:=h1.reads I rS r1 rx
    obtain⟨bs,a2⟩:=(Dat.ref e h2).reads I rS (.ref _) (rfl:RelV (.ref _) (.ref _))
    exact SeqAt.in_list_reads a2 a1 c2 c1 (by omega) ⟨.bl _,H,I,rfl,k _ S _ H (by simpa [iN]using q) (.bl _) rS .refl⟩
   ·rename_i kvs e
    obtain⟨kv,hv,rk⟩:=rS _ _ e
    split at q
    ·cases r1
     exact uP (by omega) I (DGet.k (k:=Sum.inr _) hv) rx fun s3 I3=>⟨.bl _,H,I3,rfl,k _ S _ H (by rw[rk.any];simpa using q) (.bl _) rS .refl⟩
    ·cases r1
     exact uP (by omega) I (DGet.k (k:=Sum.inl _) hv) rx fun s3 I3=>⟨.bl _,H,I3,rfl,k _ S _ H (by rw[rk.any];simpa using q) (.bl _) rS .refl⟩
    ·exact q.elim
   ·exact q.elim
  ·rename_i xs
   obtain⟨d,ds,h1,h2,c1,c2,hd,q⟩:=q
   obtain⟨as,a1⟩:=h1.reads I rS r1 rx
   obtain⟨bs,a2⟩:=(Dat.tup h2).reads I rS r2 ry
   exact SeqAt.in_tuple_reads a2 a1 c2 c1 (by omega) ⟨.bl _,H,I,rfl,k _ S _ H (by simpa [iN]using q) (.bl _) rS .refl⟩
  ·exact q.elim⟩
end
end L3
namespace HT
open PySem PySem.Spec PyProof.Rows
section
variable {prog:Program} {w:World} {A:Around} {E:Vq} {s:Shared}
def eR{t sl:Addr}{items:Vw}{vl vu:Value}{lo hi:Option Int}{Q:Vq}(ht:IsTup s.heap t items)(hs:s.heap.IsSliceOf sl vl vu .none)(pl:IsPart vl lo)(pu:IsPart vu hi)
  (hw:yg items.size 0 lo=0/\yg items.size items.size hi=items.size)
  (h:Q (.ref t) s):wpAny (model prog w) A (getItem (.ref t) (.ref sl)) Q E s:=by
 obtain⟨os,hos,hcs,hds⟩:=id hs
 have Cp:s.TypeIs (.ref sl) "slice":=⟨os,hos,hcs⟩
 unfold getItem
 try with_reducible refine FG ?_
 first|refine EX (E2 ?_)|skip
 refine EX (wpAny_sequenceKey ht.typeIs (by decide) ?_)
 refine EX (GC (name:=Str.ofString "__getitem__") ht.typeIs Fy
  (Hl Fy ht.typeIs entry_tuple_getitem ?_ (args_tuple_getitem _ _)))
 show wpAny _ _ (Builtin.Tuple.tupleItemsOf (.ref t) >>= _) _ _ s
 refine EX (tupleItemsOf_ ht ?_)
 refine EX (Gm Cp ?_)
 rw[if_pos (by decide)]
 refine EX (cD hs pl pu ?_)
 have hyes:(((yg items.size 0 lo:Nat):Int) == 0&&(1:Int) == 1&&(yg items.size items.size hi - yg items.size 0 lo) == items.size)=true:=by
  rw[hw.1,hw.2];simp
 show wpAny _ _ (if (((yg items.size 0 lo:Nat):Int) == 0&&(1:Int) == 1&&(yg items.size items.size hi - yg items.size 0 lo) == items.size)=true then _ else _) _ _ s
 rw[if_pos hyes]
 unfold Builtin.Tuple.tupleIsExact
 refine EX (EX (Gm ht.typeIs (E2 ?_)))
 rw[if_pos (by decide)]
 first
  |exact EX (Hj (E2 ⟨_,rfl,E2 h⟩))
  |exact EX (Hj (EX (E2 (E2 ⟨_,rfl,E2 h⟩))))
  |exact EX (Hj (EX (E2 ⟨_,rfl,E2 h⟩)))
end
end HT
namespace L2
open PySem PySem.Spec PyProof.Rows
section
variable {X:Cx}
noncomputable def u9(K:Vo):V->Option Int->Option Int->Hp->VK->Prop:=fun x lo hi H Q=>∃a xs,x = .ref a/\yK K H a xs/\∀r H',(∀c o,H c=some o->H' c=some o)->yK K H' r (gB xs lo hi)->Q (.ref r) H'
def pW:tV X (u9 X.K):=by
 intro pins s σ H x v vl vu lo hi sl Q I rx hs pl pu h
 obtain⟨a,xs,rfl,hx,q⟩:=h
 by_cases hw:HT.yg xs.length 0 lo=0/\HT.yg xs.length xs.length hi=xs.length
 ·cases rx
  obtain⟨its,r,ht,hz⟩:=I.tuple hx
  have hlen:its.toArray.size=xs.length:=by rw[EZ];exact r.length.symm
  refine⟨"tuple",_,Fy.lookup,ht.typeIs,HT.eR ht hs pl pu (by rw[hlen];exact hw) ⟨.ref a,H,I,rfl,q a H (fun _ _ e=>e) ?_⟩⟩
  have e:gB xs lo hi=xs:=by unfold gB;rw[hw.1,hw.2];simp
  rw[e];exact hx
 ·exact rW pins s σ H _ v vl vu lo hi sl Q I rx hs pl pu ⟨a,xs,rfl,hx,hw,fun p hp=>q p _ (fun c o e=>by rw[ak (av e hp)];exact e) (yK.of ao)⟩
def pX(hu:X.A.units+1 < cLine):tW X (fun x y H Q=>∃a v,x = .ref a/\DGet H a y (some v)/\Q v H):=by
 intro value slice pins s σ H x y v u Q I rx ry h hs
 obtain⟨a,z,rfl,g,q⟩:=h
 cases rx
 exact tail_any (jP I g) PySem.F.slot_dict_getitem.lookup (lX hu I g ry fun w' s3 I3 rw'=>⟨z,H,I3,rw',q⟩) hs
def nF(hu:X.A.units+1 < cLine):o4 X (fun o i v H Q=>∃a H',o = .ref a/\AB H a i v H'/\Q H'):=by
 intro pins s σ H o i v ov iv u Q I ro ri rv h
 obtain⟨a,H',rfl,g,q⟩:=h
 cases ro
 exact lY hu I g ri rv fun s' I'=>⟨H',I',q⟩
end
end L2
namespace L3
open PySem L2
theorem Reps.yO{K:Vo}{H:Hp}{vs:List V}{ps:List PV}{i:Int}{p:PV}(r:Reps K H vs ps)(h:L2.yO ps i=some p):∃v,L2.yO vs i=some v/\Rep K H v p:=by
 unfold L2.yO at h ⊢
 rw[r.length]
 cases e:mU ps.length i with
 |none=>rw[e]at h;cases h
 |some j=>
  rw[e]at h
  obtain⟨v,h1,h2⟩:=r.get h
  exact⟨v,h1,h2⟩
noncomputable def f8:PV->Option aN
 | .int i=>some (.inl i)
 | .str x=>some (.inr x)
 |_=>none
def cx{K:Vo}{H:Hp}{v:V}{p:PV}{k:aN}(r:Rep K H v p)(h:f8 p=some k):v=kV k:=by
 cases p with
 |int i=>cases h;cases r;rfl
 |str i=>cases h;cases r;rfl
 |_=>cases h
noncomputable def f9{κ:Type} [DecidableEq κ]:List (κ×PV)->κ->Option PV
 |[],_=>none
 |(k',v)::r,k=>if k'=k then some v else f9 r k
theorem yc.val{K:Vo}{H:Hp}{κ:Type} [DecidableEq κ]{k:κ}{p:PV}:∀{vs:List (κ×V)} {ps:List (κ×PV)},yc K H vs ps->f9 ps k=some p->∃v,eh vs k=some v/\Rep K H v p
 |_,_,.nil,h=>by cases h
 |_,_,.cons (k:=k') a r,h=>by
  unfold f9 at h
  split at h
  ·rename_i e;cases h;exact⟨_,yL e,a⟩
  ·rename_i e;rw[yM e];exact yc.val r h
section
variable {X:Cx} {a b e lo hi:Expr} {ta tb te:aO} {pos p2:Pos}
structure xi (X:Cx) (r:R3):Prop where
 ok:tW X (LR X r)
def u_{r:R3}(hr:xi X r)(ha:a9 X a ta)(hb:a9 X b tb)(hs:gj b):a9 X (.Subscript a b pos) (aj r ta tb):=⟨aK (uK hr.ok ha.ok hb.ok hs) fun _ _ _=>gm⟩
def al:R3:=fun x y S Q=>match x with
 | .tup xs=>match y with | .int i=>(match yO xs i with|some v=>Q v S|none=>False)|_=>False
 | .cl xs=>match y with | .int i=>(match yO xs i with|some v=>Q v S|none=>False)|_=>False
 | .str z=>match y with | .int i=>z.length<=sizeLine/\(match yO z.cps.toList i with|some c=>Q (.str ⟨#[c]⟩) S|none=>False)|_=>False
 | .ref a=>match S a with
  |some (.lst xs)=>(match y with | .int i=>(match yO xs i with|some v=>Q v S|none=>False)|_=>False)
  |some (.dct kvs)=>(match f8 y with|some k=>(match f9 kvs k with|some v=>Q v S|none=>False)|none=>False)
  |_=>False
 |_=>False
def xj(hu:X.A.units+1 < cLine):xi X al:=⟨fun value slice pins s σ H x y v u Q I rx ry ⟨px,py,S,Q3,r1,r2,rS,q,k⟩ hs=>by
 unfold al at q
 split at q
 ·split at q
  ·split at q
   ·rename_i e
    cases r2
    cases r1 with
    |tup h1 rs=>
     obtain⟨w,hw,rw'⟩:=rs.yO e
     exact rX value slice pins s σ H _ _ v u Q I rx ry ⟨_,_,_,w,rfl,rfl,h1,hw,k _ S _ H q rw' rS .refl⟩ hs
   ·exact q.elim
  ·exact q.elim
 ·split at q
  ·split at q
   ·rename_i e
    cases r2
    cases r1 with
    |cl h1 rs=>
     obtain⟨w,hw,rw'⟩:=rs.yO e
     exact lr value slice pins s σ H _ _ v u Q I rx ry ⟨_,_,_,w,rfl,rfl,h1.sq,hw,k _ S _ H q rw' rS .refl⟩ hs
   ·exact q.elim
  ·exact q.elim
 ·split at q
  ·obtain⟨hz,q⟩:=q
   split at q
   ·rename_i e
    cases r1;cases r2
    exact rY value slice pins s σ H _ _ v u Q I rx ry ⟨_,_,_,rfl,rfl,hz,e,k _ S _ H q (.str _) rS .refl⟩ hs
   ·exact q.elim
  ·exact q.elim
 ·split at q
  ·rename_i e0
   split at q
   ·split at q
    ·rename_i e
     cases r1;cases r2
     obtain⟨vs,hv,rs⟩:=rS _ _ e0
     obtain⟨w,hw,rw'⟩:=rs.yO e
     exact lr value slice pins s σ H _ _ v u Q I rx ry ⟨_,_,_,w,rfl,rfl,SqL.of hv,hw,k _ S _ H q rw' rS .refl⟩ hs
    ·exact q.elim
   ·exact q.elim
  ·rename_i e0
   split at q
   ·rename_i ek
    split at q
    ·rename_i ev
     cases r1
     have e1:=cx r2 ek
     subst e1
     obtain⟨kv,hv,rk⟩:=rS _ _ e0
     obtain⟨w,hw,rw'⟩:=rk.val ev
     refine pX hu value slice pins s σ H _ _ v u Q I rx ry ⟨_,w,rfl,?_,k _ S _ H q rw' rS .refl⟩ hs
     rw[<-hw]
     exact DGet.k hv
    ·exact q.elim
   ·exact q.elim
  ·exact q.elim
 ·exact q.elim⟩
abbrev tY:=bF->ap->(Option Int->ap->Prop)->de->Prop
inductive LO (X:Cx) (t:tY) (σ:L2.St) (H:Hp) (Q:Option Int->Hp->Prop):Prop
 |mk (σ3 S Q3 E3) (rσ:RepSt X.K H σ σ3) (rS:RepS X.K H S) (h:t σ3 S Q3 E3) (xo:Av X H E3) (k:∀o S' H',Q3 o S'->RepS X.K H' S'->Grow X.K H H'->Q o H'):LO X t σ H Q
structure vV (X:Cx) (e:Option Expr) (t:tY):Prop where
 ok:PO X e (LO X t)
noncomputable def jX:tY:=fun _ S Q _=>Q none S
noncomputable def fj(t:aO):tY:=fun σ S Q E=>t σ S (fun v S'=>match v with | .int i=>Q (some i) S'|_=>False) E
def nG{e:Option Expr}{t t':TO}(h:PO X e t)(k:∀σ H Q,t' σ H Q->t σ H Q):PO X e t':=fun pins s σ H Q I q=>h pins s σ H Q I (k σ H Q q)
def dC:vV X none jX:=⟨nG pk fun σ H Q ⟨σ3,S,Q3,E3,rσ,rS,h,xo,k⟩=>k none S H h rS .refl⟩
def bi(h:a9 X e te):vV X (some e) (fj te):=⟨nG (pp h.ok) fun σ H Q ⟨σ3,S,Q3,E3,rσ,rS,h,xo,k⟩=>⟨σ3,S,_,E3,rσ,rS,h,xo,fun p S' v H' h1 rv y_ g=>by
 cases p with
 |int i=>cases rv;exact⟨i,rfl,k _ S' H' h1 y_ g⟩
 |_=>exact h1.elim⟩⟩
noncomputable def cy{α:Type}(xs:List α)(lo hi:Option Int):List α:=(xs.drop (HT.yg xs.length 0 lo)).take (HT.yg xs.length xs.length hi - HT.yg xs.length 0 lo)
def Reps.cut{K:Vo}{H:Hp}{vs:List V}{ps:List PV}(r:Reps K H vs ps)(lo hi:Option Int):Reps K H (gB vs lo hi) (cy ps lo hi):=by
 unfold gB cy
 rw[r.length]
 exact(r.drop _).take _
def fA(x:PV)(lo hi:Option Int)(S:ap)(Q:bY):Prop:=match x with
 | .tup xs=>Q (.tup (cy xs lo hi)) S
 | .cl xs=>∀p,S p=none->Q (.ref p) (aR S p (.lst (cy xs lo hi)))
 | .str z=>z.length<=sizeLine/\Q (.str (Txt.slice z lo hi)) S
 | .ref a=>match S a with|some (.lst xs)=>∀p,S p=none->Q (.ref p) (aR S p (.lst (cy xs lo hi)))|_=>False
 |_=>False
noncomputable def xI(X:Cx):V->Option Int->Option Int->Hp->VK->Prop:=fun x lo hi H Q=>∃px S Q3,Rep X.K H x px/\RepS X.K H S/\fA px lo hi S Q3/\Ret X.K H Q3 Q
def xJ:tV X (xI X):=by
 intro pins s σ H x v vl vu lo hi sl Q I rx hs pl pu ⟨px,S,Q3,r1,rS,q,k⟩
 unfold fA at q
 split at q
 ·cases r1 with
  |tup h1 rs=>exact pW pins s σ H _ v vl vu lo hi sl Q I rx hs pl pu ⟨_,_,rfl,h1,fun r H' hh hr=>k _ S _ H' q (.tup hr ((rs.cut lo hi).mono (.same hh))) (rS.grow hh) (.same hh)⟩
 ·cases r1 with
  |cl h1 rs=>exact ls pins s σ H _ v vl vu lo hi sl Q I rx hs pl pu ⟨_,_,rfl,h1.sq,fun p hp=>k _ _ _ _ (q p (rS.free hp)) (.ref p) (rS.new hp ⟨_,ao,(rs.cut lo hi).mono (.new hp)⟩) (.new hp)⟩
 ·cases r1
  exact si pins s σ H _ v vl vu lo hi sl Q I rx hs pl pu ⟨_,rfl,q.1,k _ S _ H q.2 (.str _) rS .refl⟩
 ·split at q
  ·rename_i e
   cases r1
   obtain⟨vs,hv,rs⟩:=rS _ _ e
   exact ls pins s σ H _ v vl vu lo hi sl Q I rx hs pl pu ⟨_,_,rfl,SqL.of hv,fun p hp=>k _ _ _ _ (q p (rS.free hp)) (.ref p) (rS.new hp ⟨_,ao,(rs.cut lo hi).mono (.new hp)⟩) (.new hp)⟩
  ·exact q.elim
 ·exact q.elim
def aS(te:aO)(tl th:tY):aO:=fun σ S Q E=>te σ S (fun x S1=>tl σ S1 (fun l S2=>th σ S2 (fun u S3=>fA x l u S3 Q) E) E) E
def bq{lo hi:Option Expr}{tl th:tY}(he:a9 X e te)(hl:vV X lo tl)(hu:vV X hi th):a9 X (.Subscript e (.Slice lo hi none p2) pos) (aS te tl th):=
 ⟨aK (mT xJ he.ok hl.ok hu.ok) fun σ H Q ⟨σ3,S,Q3,E3,rσ,rS,h,xo,k⟩=>⟨σ3,S,_,E3,rσ,rS,h,xo,fun x S1 v H1 h1 rx yi g1=>⟨σ3,S1,_,E3,rσ.mono g1,yi,h1,xo.mono g1,fun l S2 H2 h2 zl g2=>
  ⟨σ3,S2,_,E3,rσ.mono (g1.trans g2),zl,h2,xo.mono (g1.trans g2),fun u S3 H3 h3 Br g3=>⟨x,S3,Q3,rx.mono (g2.trans g3),Br,h3,k.mono (g1.trans (g2.trans g3))⟩⟩⟩⟩⟩
def pY:fM X (binaryOp .Mult) (rI IntMulOk fun i j=>.int (i * j)):=vQ fun _ _ _ _ _ _ _ hc q=>PyProof.Rows.mul_int q hc
def f_:R3:=fun x y S Q=>match x,y with
 | .int i,.int j=>IntMulOk i j/\Q (.int (i * j)) S
 | .ref a,.int j=>(match S a with|some (.lst xs)=>-(2 ^ 63)<=j/\j < 2 ^ 63/\xs.length * j.toNat<=sizeLine/\∀p,S p=none->Q (.ref p) (aR S p (.lst (List.replicate j.toNat xs).flatten))|_=>False)
 |_,_=>False
theorem Reps.rep{K:Vo}{H:Hp}{vs:List V}{ps:List PV}(r:Reps K H vs ps):∀n:Nat,Reps K H (List.replicate n vs).flatten (List.replicate n ps).flatten
 |0=>.nil
 |n+1=>by
  rw[F7,F7,Gz,Gz]
  exact r.append (Reps.rep r n)
def em:fZ X (binaryOp .Mult) f_:=⟨fun pins s σ H x y v u Q I rx ry ⟨px,py,S,Q3,r1,r2,rS,q,k⟩=>by
 unfold f_ at q
 split at q
 ·cases r1;cases r2
  exact pY pins s σ H _ _ v u Q I rx ry ⟨_,_,rfl,rfl,q.1,k _ S _ H q.2 (.int _) rS .refl⟩
 ·split at q
  ·rename_i e
   cases r1;cases r2
   obtain⟨vs,hv,rs⟩:=rS _ _ e
   exact sa pins s σ H _ _ v u Q I rx ry ⟨_,_,_,rfl,rfl,hv,q.1,q.2.1,by rw[rs.length];exact q.2.2.1,fun p hp=>k _ _ _ _ (q.2.2.2 p (rS.free hp)) (.ref p) (rS.new hp ⟨_,ao,(rs.rep _).mono (.new hp)⟩) (.new hp)⟩
  ·exact q.elim
 ·exact q.elim⟩
end
end L3
namespace L2
open PySem PySem.Spec PyProof.Rows
section
variable {X:Cx}
def kS{pins:Va}{σ:St}{H:Hp}{s:Shared}{x:Value}{t:Value}{p:Heap->Prop}{vs:List V}{tp:Addr}{b:Bool}{Q:Vq}{E:Vq}(I:Inv X pins σ H s)(Z:PySem.W.KitX X.K x t p)(hp:p s.heap)(hx:x ≠ .builtin "__main__.__loader__#opaque")
  (ht:yK X.K H tp vs) (e:∀its,Vals vs its->PySem.W.kitAny X.K t its=some b) (h:∀tk,Q (.bool b) { s with toks:=tk }):wpAny (model X.prog X.w) X.A (call (.builtin "isinstance") [x,.ref tp]) Q E s:=by
 obtain⟨its,rv,⟨⟨cls,dd,data,sl⟩,ho,hc,n,hd⟩,hz⟩:=I.tuple ht
 simp only at hc hd
 subst hc hd
 exact PySem.W.kia_tup Z I.AM hp ho (e its rv) hx h
end
end L2
namespace L3
open PySem L2
abbrev kT:=List PV->ap->bY->Prop
section
variable {X:Cx} {e o:Expr} {es:List Expr} {te to:aO} {ts:List aO} {x:Str} {p pos apos cpos:Pos}
inductive LC (X:Cx) (r:kT) (xs:List V) (H:Hp) (Q:VK):Prop
 |mk (ps S Q3) (rx:Reps X.K H xs ps) (rS:RepS X.K H S) (h:r ps S Q3) (k:Ret X.K H Q3 Q):LC X r xs H Q
structure dD (X:Cx) (f:Value) (r:kT):Prop where
 ok:d_ X f (LC X r)
def ai(r:kT)(ts:List aO):aO:=fun σ S Q E=>aq ts σ S (fun ps S1=>r ps S1 Q) E
def lA{r:kT}{σ:L2.St}{H:Hp}{Q:VK}:LE X (ai r ts) σ H Q->vU (ts.map (LE X)) σ H fun vs H1=>LC X r vs H1 Q:=fun⟨σ3,S,Q3,E3,rσ,rS,h,xo,k⟩=>
 bI rσ rS h xo fun ps S' vs H' hl q rv y_ g=>⟨ps,S',Q3,rv,y_,q,k.mono g⟩
def pZ{id:String}{r:kT}(hc:dD X (.builtin id) r)(hg:Gl X x)(hm:X.mg x=none)(hv:bootBuiltins x=some (.builtin id))(he:starEach (e::es) X.env=(false,eval e X.env)::starEach es X.env)(ha:iL X (e::es) ts)
  (hn:x ≠ "__name__":=by decide) (hdb:(x == ("__debug__":Str))=false:=by decide) (hpl:(backTo pos (starEach es X.env)).any (·.1)=false:=by rfl):a9 X (.Call (.Name x p) (e::es) [] pos) (ai r ts):=
 ⟨aK (mR hc.ok hg hm hv ha.ok hn hdb he hpl) fun _ _ _=>lA⟩
def p4{id:String}{r:kT}(hc:dD X (.type id) r)(hg:Gl X x)(hm:X.mg x=none)(hv:bootBuiltins x=some (.type id))(he:starEach (e::es) X.env=(false,eval e X.env)::starEach es X.env)(ha:iL X (e::es) ts)
  (hn:x ≠ "__name__":=by decide) (hdb:(x == ("__debug__":Str))=false:=by decide) (hpl:(backTo pos (starEach es X.env)).any (·.1)=false:=by rfl):a9 X (.Call (.Name x p) (e::es) [] pos) (ai r ts):=
 ⟨aK (lU hc.ok hg hm hv ha.ok hn hdb he hpl) fun _ _ _=>lA⟩
def bx:kT:=fun ps S Q=>match ps with
 |[.tup xs]=>Q (.int xs.length) S
 |[.cl xs]=>Q (.int xs.length) S
 |[.str z]=>z.length<=sizeLine/\Q (.int z.length) S
 |[.ref a]=>(match S a with|some (.lst xs)=>Q (.int xs.length) S|some (.dct kvs)=>Q (.int kvs.length) S|_=>False)
 |_=>False
def cG:dD X (.builtin "len") bx:=⟨fun pins s σ H xs us Q I r ⟨ps,S,Q3,rp,rS,q,k⟩=>by
 unfold bx at q
 split at q
 ·cases rp with|cons a rr=>cases rr;cases a with|tup h rs=>exact cK pins s σ H _ us Q I r ⟨_,_,rfl,.inr h,by rw[rs.length];exact k _ S _ H q (.int _) rS .refl⟩
 ·cases rp with|cons a rr=>cases rr;cases a with|cl h rs=>exact cK pins s σ H _ us Q I r ⟨_,_,rfl,.inl h.sq,by rw[rs.length];exact k _ S _ H q (.int _) rS .refl⟩
 ·cases rp with|cons a rr=>cases rr;cases a;exact i_ pins s σ H _ us Q I r ⟨_,rfl,q.1,k _ S _ H q.2 (.int _) rS .refl⟩
 ·cases rp with
  |cons a rr=>
   cases rr;cases a
   split at q
   ·rename_i e
    obtain⟨vs,hv,rs⟩:=rS _ _ e
    exact cK pins s σ H _ us Q I r ⟨_,_,rfl,.inl (SqL.of hv),by rw[rs.length];exact k _ S _ H q (.int _) rS .refl⟩
   ·rename_i e
    obtain⟨vs,hv,rs⟩:=rS _ _ e
    exact l4 pins s σ H _ us Q I r ⟨_,_,rfl,hv,by rw[rs.length];exact k _ S _ H q (.int _) rS .refl⟩
   ·exact q.elim
 ·exact q.elim⟩
def gL:kT:=fun ps S Q=>match ps with|[.int i,.int j]=>Q (.int (if j > i then j else i)) S|_=>False
def nH(hc:X.calm=true):dD X (.builtin "max") gL:=⟨fun pins s σ H xs us Q I r ⟨ps,S,Q3,rp,rS,q,k⟩=>by
 unfold gL at q
 split at q
 ·cases rp with|cons a rr=>cases rr with|cons b r3=>cases r3;cases a;cases b;exact lS hc pins s σ H _ us Q I r ⟨_,_,rfl,k _ S _ H q (.int _) rS .refl⟩
 ·exact q.elim⟩
def aU:kT:=fun ps S Q=>match ps with
 |[v]=>(match fz S v with|some xs=>Q (.tup xs) S|none=>False)
 |_=>False
def cL:dD X (.type "tuple") aU:=⟨fun pins s σ H xs us Q I r ⟨ps,S,Q3,rp,rS,q,k⟩=>by
 unfold aU at q
 split at q
 ·cases rp with
  |cons a rr=>
   cases rr
   split at q
   ·rename_i e
    obtain⟨b,vs,rfl,hs,rs⟩:=sH rS a e
    rcases hs with hs|hs
    ·exact ee pins s σ H _ us Q I r ⟨_,_,rfl,.inl ⟨hs,fun p hp=>k _ S _ _ q (.tup (yK.of ao) (rs.mono (.new hp))) (rS.other hp) (.new hp)⟩⟩
    ·exact ee pins s σ H _ us Q I r ⟨_,_,rfl,.inr ⟨hs,k _ S _ _ q (.tup hs rs) rS .refl⟩⟩
   ·exact q.elim
 ·exact q.elim⟩
def df:kT:=fun ps S Q=>match ps with
 |[.int _]=>False
 |[.str _]=>False
 |[.bl _]=>False
 |[.non]=>False
 |[.ty _]=>False
 |[v]=>∃d,Dat S v d/\d.showable=true/\d.hasDict=false/\d.depth<=100/\d.shown.length<=sizeLine/\Q (.str d.shown) S
 |_=>False
def fB(hu:X.A.units+150 < cLine)(hg:X.A.guards=some []):dD X (.builtin "repr") df:=⟨fun pins s σ H xs us Q I r ⟨ps,S,Q3,rp,rS,q,k⟩=>by
 unfold df at q
 have main:∀{v:PV} {x:V} {u:Value} {a:Addr},u = .ref a->Rep X.K H x v->RelV x u->(∃d,Dat S v d/\d.showable=true/\d.hasDict=false/\d.depth<=100/\d.shown.length<=sizeLine/\Q3 (.str d.shown) S)->wpAny (model X.prog X.w) X.A (call (.builtin "repr") [u]) (EP X pins σ Q) X.xe s:=by
  rintro v x u a rfl rv rx ⟨d,hd,h1,h2,h3,h4,q⟩
  obtain⟨as,R⟩:=hd.reads I rS rv rx
  exact repr_of_reads' R h1 (PyData.noDict_hsm h2) hg (by omega) (fun _ _ e=>e) (fun h' u tk hk=>⟨.str _,H,I.kept hk,⟨u,rfl⟩,k _ S _ H q (.str _) rS .refl⟩) h4
 split at q
 ·exact q.elim
 ·exact q.elim
 ·exact q.elim
 ·exact q.elim
 ·exact q.elim
 ·rename_i n1 n2 n3 n4 n5
  cases rp with
  |cons a rr=>
   cases rr
   cases r with
   |cons r1 r2=>
    cases r2
    cases a with
    |non=>exact absurd rfl n4
    |bl b=>exact absurd rfl (n3 b)
    |int i=>exact absurd rfl (n1 i)
    |str i=>exact absurd rfl (n2 i)
    |ty i=>exact absurd rfl (n5 i)
    |ref b=>cases r1;exact main rfl (.ref b) rfl q
    |tup h rs=>cases r1;exact main rfl (.tup h rs) rfl q
    |cl h rs=>cases r1;exact main rfl (.cl h rs) rfl q
    |exc h1 h2 rs=>cases r1;exact main rfl (.exc h1 h2 rs) rfl q
    |cls h=>cases r1;exact main rfl (.cls h) rfl q
    |clo h rr=>cases r1;exact main rfl (.clo h rr) rfl q
 ·exact q.elim⟩
end
noncomputable def io(t c:String):Bool:=t == c || (t == "bool" && c == "int")
noncomputable def nI(S:ap):PV->Option String
 | .non=>some "NoneType"
 | .bl _=>some "bool"
 | .int _=>some "int"
 | .str _=>some "str"
 | .tup _=>some "tuple"
 | .cl _=>some "list"
 | .ref a=>(match S a with|some (.lst _)=>some "list" | some (.dct _)=>some "dict" | _=>none)
 | .ty _=>none
 | .exc _ _ _=>none
 | .cls _=>none
 | .clo _ _=>none
noncomputable def cN(c:String):Bool:=["int","str","bool","tuple","list","dict"].contains c
def nJ(K:Vo)(t c:String):PySem.W.kitCls K (.type t) (.type c)=(if PySem.W.kitMeta c=true then (PySem.fastBuiltinMro t).map (·.contains (Value.type c)) else none):=rfl
def lB{K:Vo}{t c:String}(ht:t∈["NoneType","bool","int","str","tuple","list","dict"])(hc:cN c=true):PySem.W.kitOne K (.type t) (.type c)=some (io t c):=by
 have hc':c∈["int","str","bool","tuple","list","dict"]:=by
  have:=hc
  unfold cN at this
  simpa using this
 simp only[Fg,HU,or_false]at ht hc'
 rcases ht with rfl|rfl|rfl|rfl|rfl|rfl|rfl<;>rcases hc' with rfl|rfl|rfl|rfl|rfl|rfl <;>
  first
   |(unfold PySem.W.kitOne;rw[if_pos (by decide)];rfl)
   |(unfold PySem.W.kitOne;rw[if_neg (by decide),nJ];decide +kernel)
def nK{S:ap}{p:PV}{t:String}(h:nI S p=some t):t∈["NoneType","bool","int","str","tuple","list","dict"]:=by
 unfold nI at h
 split at h<;>first|(cases h;decide)|(split at h<;>first|(cases h;decide)|cases h)|cases h
section
variable {X:Cx}
noncomputable def va:List PV->Option (List String)
 |[]=>some []
 | .ty c::r=>if cN c then (va r).map (c::·) else none
 |_::_=>none
def d6:kT:=fun ps S Q=>match ps with
 |[x,.ty c]=>(match nI S x with|some t=>cN c=true/\Q (.bl (io t c)) S|none=>False)
 |[x,.tup cs]=>(match nI S x,va cs with|some t,some l=>Q (.bl (l.any (io t))) S|_,_=>False)
 |_=>False
def p5{K:Vo}{H:Hp}{t:String}(ht:t∈["NoneType","bool","int","str","tuple","list","dict"]):∀(cs:List PV) {l:List String} {vs:List V} {its:Vv},va cs=some l->Reps K H vs cs->Vals vs its->PySem.W.kitAny K (.type t) its=some (l.any (io t)):=by
 intro cs
 induction cs with
 |nil=>intro l vs its h rs r;cases h;cases rs;cases r;rfl
 |cons p cs ih=>
  intro l vs its h rs r
  cases p with
  |ty c=>
   unfold va at h
   split at h
   ·rename_i hc
    cases e:va cs with
    |none=>rw[e]at h;cases h
    |some l'=>
     rw[e]at h
     cases h
     cases rs with
     |cons a rs=>
      cases a
      cases r with
      |@cons _ u _ us r1 r2=>
       cases (show u=Value.type c from r1)
       show(match PySem.W.kitOne K (.type t) (.type c)with|some true=>some true|some false=>PySem.W.kitAny K (.type t) us|none=>none)=_
       rw[lB ht hc,Hq]
       cases io t c with
       |true=>rfl
       |false=>exact ih e rs r2
   ·cases h
  |_=>cases h
def qR:dD X (.builtin "isinstance") d6:=⟨fun pins s σ H xs us Q I r ⟨ps,S,Q3,rp,rS,q,k⟩=>by
 have main:∀{v:PV} {x:V} {u:Value} {t:String},Rep X.K H x v->RelV x u->nI S v=some t->∃(h:Heap->Prop),PySem.W.KitX X.K u (.type t) h/\h s.heap/\u ≠ .builtin "__main__.__loader__#opaque":=by
  intro v x u t rv rx ht
  cases rv with
  |non=>cases ht;cases rx;exact⟨_,PySem.W.kitx_none,True.intro,fun z=>nomatch z⟩
  |bl b=>cases ht;cases rx;exact⟨_,PySem.W.kitx_bool,True.intro,fun z=>nomatch z⟩
  |int b=>cases ht;obtain⟨t,rfl⟩:=rx;exact⟨_,PySem.W.kitx_int,True.intro,fun z=>nomatch z⟩
  |str b=>cases ht;obtain⟨t,rfl⟩:=rx;exact⟨_,PySem.W.kitx_str,True.intro,fun z=>nomatch z⟩
  |ty b=>cases ht
  |exc _ _ _=>cases ht
  |cls _=>cases ht
  |clo _ _=>cases ht
  |tup h rs=>
   cases ht;cases rx
   obtain⟨its,_,⟨o,ho,hc,_⟩,_⟩:=I.tuple h
   exact⟨_,PySem.W.kitx_tuple,⟨o,ho,hc⟩,fun z=>nomatch z⟩
  |cl h rs=>
   cases ht;cases rx
   obtain⟨its,_,⟨o,n,ho,hc,_⟩,_⟩:=I.list h.sq
   exact⟨_,PySem.W.kitx_list,⟨o,ho,hc⟩,fun z=>nomatch z⟩
  |ref a=>
   cases rx
   unfold nI at ht
   simp only at ht
   split at ht
   ·rename_i e
    cases ht
    obtain⟨vs,hv,_⟩:=rS _ _ e
    obtain⟨its,_,⟨o,n,ho,hc,_⟩,_⟩:=I.list (SqL.of hv)
    exact⟨_,PySem.W.kitx_list,⟨o,ho,hc⟩,fun z=>nomatch z⟩
   ·rename_i e
    cases ht
    obtain⟨vs,hv,_⟩:=rS _ _ e
    obtain⟨_,_,vs',_,p⟩:=(show yh X.prog X.w H s.heap _ (.dK vs)from I.hok _ _ hv)
    obtain⟨o,es,ep,h1,h2,_⟩:=p
    exact⟨_,PySem.W.kitx_dict,⟨o,h1,h2.1⟩,fun z=>nomatch z⟩
   ·cases ht
 unfold d6 at q
 split at q
 ·split at q
  ·rename_i ht
   cases rp with
   |cons a rr=>
    cases rr with
    |cons b r3=>
     cases r3;cases b
     cases r with
     |cons r1 r2=>
      cases r2 with
      |cons r4 r5=>
       cases r5
       cases (show _=Value.type _ from r4)
       obtain⟨h,Z,hp,hx⟩:=main a r1 ht
       exact PySem.W.kia_one Z I.AM hp (lB (nK ht) q.1) hx fun tk=>⟨.bl _,H,I.tok _,rfl,k _ S _ H q.2 (.bl _) rS .refl⟩
  ·exact q.elim
 ·split at q
  ·rename_i ht hl
   cases rp with
   |cons a rr=>
    cases rr with
    |cons b r3=>
     cases r3
     cases b with
     |tup h1 rs=>
      cases r with
      |cons r1 r2=>
       cases r2 with
       |cons r4 r5=>
        cases r5
        cases r4
        obtain⟨h,Z,hp,hx⟩:=main a r1 ht
        exact kS I Z hp hx h1 (fun its rv=>p5 (nK ht) _ hl rs rv) fun tk=>⟨.bl _,H,I.tok _,rfl,k _ S _ H q (.bl _) rS .refl⟩
  ·exact q.elim
 ·exact q.elim⟩
end
abbrev mD:=PV->List PV->ap->bY->Prop
section
variable {X:Cx} {e o:Expr} {es:List Expr} {te to:aO} {ts:List aO} {name:Str} {p pos apos cpos:Pos} {T id:String}
inductive LM (X:Cx) (r:mD) (x:V) (xs:List V) (H:Hp) (Q:VK):Prop
 |mk (px ps S Q3) (rx:Rep X.K H x px) (rs:Reps X.K H xs ps) (rS:RepS X.K H S) (h:r px ps S Q3) (k:Ret X.K H Q3 Q):LM X r x xs H Q
structure oQ (X:Cx) (id:String) (r:mD):Prop where
 ok:uJ X id (LM X r)
def p6(T:String)(x:PV)(S:ap):Prop:=match x with
 | .str _=>T = "str"
 | .ref a=>(match S a with|some (.lst _)=>T = "list" | some (.dct _)=>T = "dict" | _=>False)
 | .cl _=>T = "list"
 |_=>False
def nL{H:Hp}{S:ap}{v:V}{p:PV}(rS:RepS X.K H S)(r:Rep X.K H v p)(h:p6 T p S):vR X.K T v H:=by
 cases r with
 |str x=>exact h
 |ref a=>
  unfold p6 at h
  simp only at h
  split at h
  ·rename_i e
   obtain⟨vs,hv,_⟩:=rS _ _ e
   exact .inl ⟨h,_,SqL.of hv⟩
  ·rename_i e
   obtain⟨vs,hv,_⟩:=rS _ _ e
   exact .inr (.inr (.inl ⟨h,.inl ⟨_,hv⟩⟩))
  ·exact h.elim
 |cl h1 _=>exact .inl ⟨h,_,h1.sq⟩
 |_=>exact h.elim
def gq(T:String)(r:mD)(to:aO)(ts:List aO):aO:=fun σ S Q E=>to σ S (fun x S1=>p6 T x S1/\aq ts σ S1 (fun ps S2=>r x ps S2 Q) E) E
def wH{r:mD}(pa:PlainAttrs T)(slot:Slot T name id)(hty:typeOf (.builtin id)=pure (.type "method_descriptor"))(hm:oQ X id r)(hs:starEach (e::es) X.env=(false,eval e X.env)::starEach es X.env)(ho:a9 X o to)(ha:iL X (e::es) ts)
  (hbase:attributeBase o name X.env (eval o X.env)=eval o X.env:=by rfl)
  (hfew:((backTo cpos (starEach (e::es) X.env)).all (fun x=>!x.1)&&(backToKw cpos (keywordEach [] X.env)).all (fun x=>x.1.isSome)
   && decide ((e::es).length+([]:List Keyword).length+(if ([]:List Keyword).isEmpty then 0 else 1) < 30))=true:=by rfl)
  (hline:(apos.endLine == cpos.line)=true:=by rfl) (hplain:(backTo cpos (starEach es X.env)).any (·.1)=false:=by rfl):a9 X (.Call (.Attribute o name apos) (e::es) [] cpos) (gq T r to ts):=
 ⟨aK (uM pa slot hty hm.ok ho.ok ha.ok hbase hfew hline hs hplain) fun σ H Q ⟨σ3,S,Q3,E3,rσ,rS,h,xo,k⟩=>⟨σ3,S,_,E3,rσ,rS,h,xo,fun x S1 v H1 h1 rx yi g1=>
  ⟨nL yi rx h1.1,bI (rσ.mono g1) yi h1.2 (xo.mono g1) fun ps S2 vs H2 hl q rv zl g2=>⟨x,ps,S2,Q3,rx.mono g2,rv,zl,q,k.mono (g1.trans g2)⟩⟩⟩⟩
def vb{r:mD}(pa:PlainAttrs T)(slot:Slot T name id)(hty:typeOf (.builtin id)=pure (.type "method_descriptor"))(hm:oQ X id r)(ho:a9 X o to)
  (hbase:attributeBase o name X.env (eval o X.env)=eval o X.env:=by rfl) (hline:(apos.endLine == cpos.line)=true:=by rfl):a9 X (.Call (.Attribute o name apos) [] [] cpos) (gq T r to []):=
 ⟨aK (rZ pa slot hty hm.ok ho.ok hbase hline) fun σ H Q ⟨σ3,S,Q3,E3,rσ,rS,h,xo,k⟩=>⟨σ3,S,_,E3,rσ,rS,h,xo,fun x S1 v H1 h1 rx yi g1=>
  ⟨nL yi rx h1.1,⟨x,[],S1,Q3,rx,.nil,yi,h1.2,k.mono g1⟩⟩⟩⟩
def cM:mD:=fun x ps S Q=>match x,ps with
 | .ref a,[y]=>(match S a with|some (.lst xs)=>xs.length < sizeLine/\Q .non (aR S a (.lst (xs++[y])))|_=>False)
 |_,_=>False
def nM:oQ X "list.append" cM:=⟨fun pins s σ H x xs v us Q I rx rs ⟨px,ps,S,Q3,r1,rp,rS,q,k⟩=>by
 unfold cM at q
 split at q
 ·split at q
  ·rename_i e
   cases r1
   cases rp with
   |cons b rr=>
    cases rr
    obtain⟨vs,hv,rl⟩:=rS _ _ e
    exact lV pins s σ H _ _ v us Q I rx rs ⟨_,_,_,rfl,rfl,hv,by rw[rl.length];exact q.1,k _ _ _ _ q.2 .non (rS.put hv trivial ⟨_,ao,(rl.append (.cons b .nil)).mono (.mut hv trivial)⟩) (.mut hv trivial)⟩
  ·exact q.elim
 ·exact q.elim⟩
def bz:mD:=fun x ps S Q=>match x,ps with
 | .ref a,[.ref b]=>(match S a,S b with|some (.lst xs),some (.lst ys)=>xs.length+ys.length<=sizeLine/\Q .non (aR S a (.lst (xs++ys)))|_,_=>False)
 |_,_=>False
def jY:oQ X "list.extend" bz:=⟨fun pins s σ H x xs v us Q I rx rs ⟨px,ps,S,Q3,r1,rp,rS,q,k⟩=>by
 unfold bz at q
 split at q
 ·split at q
  ·rename_i e e2
   cases r1
   cases rp with
   |cons b rr=>
    cases rr
    cases b
    obtain⟨vs,hv,rl⟩:=rS _ _ e
    obtain⟨us',hu,ru⟩:=rS _ _ e2
    exact lW pins s σ H _ _ v us Q I rx rs ⟨_,_,_,_,rfl,rfl,hv,hu,by rw[rl.length,ru.length];exact q.1,k _ _ _ _ q.2 .non (rS.put hv trivial ⟨_,ao,(rl.append ru).mono (.mut hv trivial)⟩) (.mut hv trivial)⟩
  ·exact q.elim
 ·exact q.elim⟩
def ma:mD:=fun x ps S Q=>match x,ps with
 | .ref a,[]=>(match S a with|some (.lst xs)=>(match xs[xs.length - 1]? with|some y=>Q y (aR S a (.lst xs.dropLast))|none=>False)|_=>False)
 | .ref a,[.int i]=>(match S a with|some (.lst xs)=>-(2 ^ 63)<=i/\i < 2 ^ 63/\(match seqIndex? i xs.length with|some j=>(match xs[j]? with|some y=>Q y (aR S a (.lst (xs.eraseIdx j)))|none=>False)|none=>False)|_=>False)
 |_,_=>False
def vc:oQ X "list.pop" ma:=⟨fun pins s σ H x xs v us Q I rx rs ⟨px,ps,S,Q3,r1,rp,rS,q,k⟩=>by
 unfold ma at q
 split at q
 ·split at q
  ·rename_i e
   split at q
   ·rename_i ey
    cases r1
    cases rp
    obtain⟨vs,hv,rl⟩:=rS _ _ e
    rw[<-rl.length]at ey
    obtain⟨y',CD,ry⟩:=rl.get ey
    exact r6 pins s σ H _ _ v us Q I rx rs ⟨_,_,_,rfl,rfl,hv,CD,k _ _ _ _ q (ry.mono (.mut hv trivial)) (rS.put hv trivial ⟨_,ao,rl.dropLast.mono (.mut hv trivial)⟩) (.mut hv trivial)⟩
   ·exact q.elim
  ·exact q.elim
 ·split at q
  ·rename_i e
   obtain⟨h1,h2,q⟩:=q
   split at q
   ·rename_i ej
    split at q
    ·rename_i ey
     cases r1
     cases rp with
     |cons b rr=>
      cases rr;cases b
      obtain⟨vs,hv,rl⟩:=rS _ _ e
      obtain⟨y',CD,ry⟩:=rl.get ey
      rw[<-rl.length]at ej
      exact mX pins s σ H _ _ v us Q I rx rs ⟨_,_,_,_,_,rfl,rfl,hv,h1,h2,ej,CD,k _ _ _ _ q (ry.mono (.mut hv trivial)) (rS.put hv trivial ⟨_,ao,(rl.eraseIdx _).mono (.mut hv trivial)⟩) (.mut hv trivial)⟩
    ·exact q.elim
   ·exact q.elim
  ·exact q.elim
 ·exact q.elim⟩
noncomputable def texts:List PV->Option (List Str)
 |[]=>some []
 | .str b::r=>(texts r).map (b::·)
 |_::_=>none
theorem gM{K:Vo}{H:Hp}:∀{vs:List V} {ps:List PV} {bs:Vs},Reps K H vs ps->texts ps=some bs->vs=bs.map V.str
 |_,_,_,.nil,h=>by cases h;rfl
 |_,_,bs,.cons (p:=p) a r,h=>by
  cases p with
  |str b=>
   cases a
   unfold texts at h
   cases e:texts _ with
   |none=>rw[e]at h;cases h
   |some l=>rw[e]at h;cases h;rw[gM r e];rfl
  |_=>cases h
def iP:mD:=fun x ps S Q=>match x,ps with
 | .str z,[.ref a]=>(match S a with|some (.lst xs)=>(match texts xs with|some ys=>(ys.map (·.length)).sum+ys.length * z.length<=1000000/\Q (.str (Txt.join z ys)) S|none=>False)|_=>False)
 |_,_=>False
def nN:oQ X "str.join" iP:=⟨fun pins s σ H x xs v us Q I rx rs ⟨px,ps,S,Q3,r1,rp,rS,q,k⟩=>by
 unfold iP at q
 split at q
 ·split at q
  ·rename_i e
   split at q
   ·rename_i et
    cases r1
    cases rp with
    |cons b rr=>
     cases rr;cases b
     obtain⟨vs,hv,rl⟩:=rS _ _ e
     have e2:=gM rl et
     subst e2
     exact pJ pins s σ H _ _ v us Q I rx rs ⟨_,_,_,rfl,rfl,SqL.of hv,q.1,k _ S _ H q.2 (.str _) rS .refl⟩
   ·exact q.elim
  ·exact q.elim
 ·exact q.elim⟩
def fD:mD:=fun x ps S Q=>match x,ps with
 | .str a,[.str b]=>(match Builtin.Str.occurrences a b 0 a.length 1 with|i::_=>Q (.int i) S|[]=>False)
 |_,_=>False
def p7:oQ X "str.index" fD:=⟨fun pins s σ H x xs v us Q I rx rs ⟨px,ps,S,Q3,r1,rp,rS,q,k⟩=>by
 unfold fD at q
 split at q
 ·split at q
  ·rename_i e
   cases r1
   cases rp with
   |cons b rr=>
    cases rr;cases b
    exact m9 pins s σ H _ _ v us Q I rx rs ⟨_,_,_,_,rfl,rfl,e,k _ S _ H q (.int _) rS .refl⟩
  ·exact q.elim
 ·exact q.elim⟩
end
section
variable {X:Cx} {e c:Expr} {te:aO} {st:Stmt} {rest a b:List Stmt} {t u:bp} {tc:fw} {pos:Pos}
def be:bp:=fun D σ S=>D.nx σ S
def ah(t u:bp):bp:=fun D σ S=>t { D with nx:=u D } σ S
def a7:fx X [] be:=⟨lz oZ fun D σ H ⟨σ3,S,D3,rσ,rS,h,xo,n,r,bk,ct⟩=>n σ3 S σ H h rσ rS .refl⟩
def ae(h1:kN X st t)(h2:fx X rest u):fx X (st::rest) (ah t u):=
 ⟨lz (mJ h1.ok h2.ok) fun D σ H ⟨σ3,S,D3,rσ,rS,h,xo,n,r,bk,ct⟩=>⟨σ3,S,{ D3 with nx:=u D3 },rσ,rS,h,xo,fun σ4 S' σ' H' h' AO y_ g=>⟨σ4,S',D3,AO,y_,h',xo.mono g,n.mono g,r.mono g,bk.mono g,ct.mono g⟩,r,bk,ct⟩⟩
def ar(h1:kN X st t):fx X [st] t:=⟨o0 h1.ok⟩
def bW(te:aO):bp:=fun D σ S=>te σ S (fun _ S1=>D.nx σ S1) D.ex
def jn(he:a9 X e te)(hs:swapsWith e none pos.line X.env=pure false:=by rfl):kN X (.Expr e pos) (bW te):=
 ⟨b7 (o3 he.ok hs) fun D σ H ⟨σ3,S,D3,rσ,rS,h,xo,n,r,bk,ct⟩=>⟨σ3,S,_,D3.ex,rσ,rS,h,xo,fun p S1 v H1 h1 rv yi g1=>n σ3 S1 σ H1 h1 (rσ.mono g1) yi g1⟩⟩
def aJ(te:aO):bp:=fun D σ S=>te σ S D.rt D.ex
def ax(he:a9 X e te):kN X (.Return (some e) pos) (aJ te):=
 ⟨b7 (rq he.ok) fun D σ H ⟨σ3,S,D3,rσ,rS,h,xo,n,r,bk,ct⟩=>⟨σ3,S,D3.rt,D3.ex,rσ,rS,h,xo,r⟩⟩
def cC(c:fw)(t u:bp):bp:=fun D σ S=>c σ S (fun b S1=>if b=true then t D σ S1 else u D σ S1) D.ex
def bD(hc:kM X c tc)(ha:fx X a t)(hb:fx X b u):kN X (.If c a b pos) (cC tc t u):=
 ⟨b7 (uk hc.ok ha.ok hb.ok) fun D σ H ⟨σ3,S,D3,rσ,rS,h,xo,n,r,bk,ct⟩=>⟨σ3,S,_,D3.ex,rσ,rS,h,xo,fun z S1 H1 h1 yi g1=>by
  cases z with
  |true=>rw[if_pos rfl]at h1 ⊢;exact⟨σ3,S1,D3,rσ.mono g1,yi,h1,xo.mono g1,n.mono g1,r.mono g1,bk.mono g1,ct.mono g1⟩
  |false=>rw[if_neg (by decide)]at h1 ⊢;exact⟨σ3,S1,D3,rσ.mono g1,yi,h1,xo.mono g1,n.mono g1,r.mono g1,bk.mono g1,ct.mono g1⟩⟩⟩
def aw(i:Nat)(te:aO):bp:=fun D σ S=>te σ S (fun v S1=>D.nx (σ.set i (some v)) S1) D.ex
def nO{i:Nat}{D:kB}{σ:L2.St}{H:Hp}:LS X (aw i te) D σ H->o7 (LE X te) (jK i) D σ H:=fun⟨σ3,S,D3,rσ,rS,h,xo,n,r,bk,ct⟩=>
 ⟨σ3,S,_,D3.ex,rσ,rS,h,xo,fun p S1 v H1 h1 rv yi g1=>n _ S1 _ H1 h1 ((rσ.mono g1).set rv i) yi g1⟩
def vd{i:Nat}{x:Str}{pos':Pos}(hN:X.N.Nodup)(hi:X.N[i]?=some x)(hx:oO X.env.scope x)(he:a9 X e te)(hs:swapsWith e (some (.Name x pos')) pos.line X.env=pure false:=by rfl)
  (hf:X.fn x=true\/X.env.scope.names.lookup x=some .local:=by first|exact .inl rfl|exact .inr rfl|assumption):kN X (.Assign [.Name x pos'] e pos) (aw i te):=⟨b7 (rD hN hi hx he.ok hs hf) fun _ _ _=>nO⟩
def md(i j:Nat)(ta tb:aO):bp:=fun D σ S=>ta σ S (fun v S1=>tb σ S1 (fun w S2=>D.nx ((σ.set i (some v)).set j (some w)) S2) D.ex) D.ex
def qS{i j:Nat}{x y:Str}{a b:Expr}{ta tb:aO}{px py pt:Pos}{kt k2 Bg}(hc:X.calm=true)(hN:X.N.Nodup)(hi:X.N[i]?=some x)(hj:X.N[j]?=some y)(hij:i≠j)
  (hx:X.env.scope.names.lookup x=some .local) (hy:X.env.scope.names.lookup y=some .local) (ha:iL X [a,b] [ta,tb])
  (hw:swappedStores [.Tuple [.Name x px,.Name y py] kt pt] (.Tuple [a,b] k2 Bg) X.env=pure (some [x,y]):=by rfl)
  (hs:swapsWithSole [.Tuple [.Name x px,.Name y py] kt pt] (.Tuple [a,b] k2 Bg) pos.line X.env=pure false:=by rfl) :
  kN X (.Assign [.Tuple [.Name x px,.Name y py] kt pt] (.Tuple [a,b] k2 Bg) pos) (md i j ta tb):=
 ⟨b7 (rE hc hN hi hj hij hx hy ha.ok hw hs) fun D σ H ⟨σ3,S,D3,rσ,rS,h,xo,n,r,bk,ct⟩=>
  ⟨σ3,S,_,D3.ex,rσ,rS,h,xo,fun v S1 v' H1 h1 rv yi g1=>⟨σ3,S1,_,D3.ex,rσ.mono g1,yi,h1,xo.mono g1,fun w S2 w' H2 h2 rw' zl g2=>
   ⟨v',w',rfl,n _ S2 _ H2 h2 (((rσ.mono (g1.trans g2)).set (rv.mono g2) i).set rw' j) zl (g1.trans g2)⟩⟩⟩⟩
def gN(i j k:Nat)(te:aO):bp:=fun D σ S=>te σ S (fun p S1=>match p with | .tup [v,w,u]=>D.nx (((σ.set k (some u)).set j (some w)).set i (some v)) S1|_=>False) D.ex
def p8{i j k:Nat}{x y z:Str}{px py pz pt:Pos}{kt:Nat}(hc:X.calm=true)(hN:X.N.Nodup)(hi:X.N[i]?=some x)(hj:X.N[j]?=some y)(hk:X.N[k]?=some z)
  (hx:X.env.scope.names.lookup x=some .local) (hy:X.env.scope.names.lookup y=some .local) (hz:X.env.scope.names.lookup z=some .local) (he:a9 X e te)
  (hw:swappedStores [.Tuple [.Name x px,.Name y py,.Name z pz] kt pt] e X.env=pure (some [x,y,z]):=by rfl)
  (hs:swapsWithSole [.Tuple [.Name x px,.Name y py,.Name z pz] kt pt] e pos.line X.env=pure false:=by rfl):kN X (.Assign [.Tuple [.Name x px,.Name y py,.Name z pz] kt pt] e pos) (gN i j k te):=
 ⟨b7 (m_ hc hN hi hj hk hx hy hz he.ok hw hs) fun D σ H ⟨σ3,S,D3,rσ,rS,h,xo,n,r,bk,ct⟩=>⟨σ3,S,_,D3.ex,rσ,rS,h,xo,fun p S1 v H1 h1 rv yi g1=>by
  try dsimp only at h1
  split at h1
  ·cases rv with
   |tup hq rs=>
    cases rs with
    |cons r1 rs=>
     cases rs with
     |cons r2 rs=>
      cases rs with
      |cons r3 rs=>
       cases rs
       exact⟨_,_,_,_,rfl,hq,n _ S1 _ H1 h1 ((((rσ.mono g1).set r3 k).set r2 j).set r1 i) yi g1⟩
  ·exact h1.elim⟩⟩
inductive Tg where
 |n (i:Nat)|tp (l:Tg)|nil|cons (a r:Tg)
mutual
noncomputable def Tg.put:Tg->PV->bF->Option bF
 | .n i,p,σ=>some (σ.set i (some p))
 | .tp l,.tup xs,σ=>l.yP xs σ
 |_,_,_=>none
noncomputable def Tg.yP:Tg->List PV->bF->Option bF
 | .nil,[],σ=>some σ
 | .cons a r,x::xs,σ=>(match a.put x σ with|some σ'=>r.yP xs σ'|none=>none)
 |_,_,_=>none
end
noncomputable def Tg.len:Tg->Nat
 | .cons _ r=>r.len+1
 |_=>0
mutual
noncomputable def Tg.g2(K:Vo):Tg->TG
 | .n i=>jK i
 | .tp l=>ur K l.len (l.A7 K)
 |_=>fun _ _ _ _=>False
noncomputable def Tg.A7(K:Vo):Tg->qG
 | .nil=>uq
 | .cons a r=>qH (a.g2 K) (r.A7 K)
 |_=>fun _ _ _ _=>False
end
noncomputable def Tg.under(own:Nat):Tg->Bool
 | .n i=>decide (i < own)
 | .tp l=>l.under own
 | .nil=>true
 | .cons a r=>a.under own&&r.under own
theorem Tg.z4:∀(g:Tg) {ps:List PV} {σ3 σ4:bF},g.yP ps σ3=some σ4->ps.length=g.len
 | .nil,ps,σ3,σ4,h=>by
  cases ps with
  |nil=>rfl
  |cons _ _=>unfold Tg.yP at h;cases h
 | .cons a r,ps,σ3,σ4,h=>by
  cases ps with
  |nil=>unfold Tg.yP at h;cases h
  |cons x xs=>
   unfold Tg.yP at h
   split at h
   ·rw[Fe,Tg.z4 r h];rfl
   ·cases h
 | .n _,ps,σ3,σ4,h=>by unfold Tg.yP at h;cases h
 | .tp _,ps,σ3,σ4,h=>by unfold Tg.yP at h;cases h
mutual
theorem Tg.zP{K:Vo}{H:Hp}{own:Nat}:∀(g:Tg) {v:V} {p:PV} {σ:L2.St} {σ3 σ4:bF} {Q:L2.St->Hp->Prop},Rep K H v p->RepSt K H σ σ3->g.put p σ3=some σ4->(∀σ',RepSt K H σ' σ4->(g.under own=true->σ'.drop own=σ.drop own)->Q σ' H)->g.g2 K v σ H Q
 | .n i,v,p,σ,σ3,σ4,Q,r,rσ,h,k=>by
  unfold Tg.put at h
  cases h
  unfold Tg.g2
  refine k _ (rσ.set r i) fun hb=>?_
  have hi:i < own:=GL hb
  rw[List.drop_set]
  rw[if_pos hi]
 | .tp l,v,p,σ,σ3,σ4,Q,r,rσ,h,k=>by
  cases p with
  |tup xs=>
   unfold Tg.put at h
   cases r with
   |tup hq rs=>
    have hg:=Tg.Ak (own:=own) l rs rσ h k
    unfold Tg.g2
    exact⟨_,_,rfl,hq,rs.length.trans (Tg.z4 l h),hg⟩
  |_=>unfold Tg.put at h;cases h
 | .nil,v,p,σ,σ3,σ4,Q,r,rσ,h,k=>by unfold Tg.put at h;cases h
 | .cons _ _,v,p,σ,σ3,σ4,Q,r,rσ,h,k=>by unfold Tg.put at h;cases h
theorem Tg.Ak{K:Vo}{H:Hp}{own:Nat}:∀(g:Tg) {vs:List V} {ps:List PV} {σ:L2.St} {σ3 σ4:bF} {Q:L2.St->Hp->Prop},Reps K H vs ps->RepSt K H σ σ3->g.yP ps σ3=some σ4->(∀σ',RepSt K H σ' σ4->(g.under own=true->σ'.drop own=σ.drop own)->Q σ' H)->g.A7 K vs σ H Q
 | .nil,vs,ps,σ,σ3,σ4,Q,r,rσ,h,k=>by
  cases ps with
  |nil=>
   unfold Tg.yP at h
   cases h
   cases r
   unfold Tg.A7
   exact⟨rfl,k _ rσ fun _=>rfl⟩
  |cons _ _=>unfold Tg.yP at h;cases h
 | .cons a r',vs,ps,σ,σ3,σ4,Q,r,rσ,h,k=>by
  cases ps with
  |nil=>unfold Tg.yP at h;cases h
  |cons x xs=>
   unfold Tg.yP at h
   split at h
   ·rename_i σ5 e5
    cases r with
    |cons r1 r2=>
     unfold Tg.A7
     refine⟨_,_,rfl,Tg.zP (own:=own) a r1 rσ e5 fun σ' AO d1=>Tg.Ak (own:=own) r' r2 AO h fun Ea CF d2=>k Ea CF fun hb=>?_⟩
     have hb':a.under own=true/\r'.under own=true:=by simpa [Tg.under]using hb
     rw[d2 hb'.2,d1 hb'.1]
   ·cases h
 | .n _,vs,ps,σ,σ3,σ4,Q,r,rσ,h,k=>by unfold Tg.yP at h;cases h
 | .tp _,vs,ps,σ,σ3,σ4,Q,r,rσ,h,k=>by unfold Tg.yP at h;cases h
end
structure oR (X:Cx) (e:Expr) (g:Tg):Prop where
 ok:PG X e (g.g2 X.K)
structure p9 (X:Cx) (es:List Expr) (g:Tg):Prop where
 ok:um X es (g.A7 X.K)
 len:(assignEach es X.env).length=g.len
def xK(i:Nat){x:Str}(hN:X.N.Nodup)(hi:X.N[i]?=some x)(hx:oO X.env.scope x)(hf:X.fn x=true\/X.env.scope.names.lookup x=some .local:=by first|exact .inl rfl|exact .inr rfl|assumption):oR X (.Name x pos) (.n i):=⟨by
 have h:=o5 (pos:=pos) hN hi hx hf
 unfold Tg.g2
 exact h⟩
def fQ:p9 X [] .nil:=⟨by unfold Tg.A7;exact o6,rfl⟩
def bj{es:List Expr}{a r:Tg}(h1:oR X e a)(h2:p9 X es r)(hs:(assignEach (e::es) X.env).map (·.2)=assign e X.env::(assignEach es X.env).map (·.2):=by rfl)(hl:(assignEach (e::es) X.env).length=(assignEach es X.env).length+1:=by rfl):p9 X (e::es) (.cons a r):=
 ⟨by unfold Tg.A7;exact mK h1.ok h2.ok hs,by rw[hl,h2.len];rfl⟩
def qT{es:List Expr}{k:Nat}{l:Tg}(hc:X.calm=true)(h:p9 X es l)(hst:(assignEach es X.env).findIdx? (·.1)=none:=by rfl):oR X (.Tuple es k pos) (.tp l):=⟨by
 have h:=rB (pos:=pos) (k:=k) hc h.ok h.len hst
 unfold Tg.g2
 exact h⟩
def me(te:aO)(g:Tg):bp:=fun D σ S=>te σ S (fun v S1=>match g.put v σ with|some σ'=>D.nx σ' S1|none=>False) D.ex
def ve{tg:Expr}{g:Tg}(he:a9 X e te)(hg:oR X tg g)(hs:swapsWithSole [tg] e pos.line X.env=pure false:=by rfl)(hw:swappedStores [tg] e X.env=pure none:=by rfl)
  (h1:(assignEach [tg] X.env).map (·.2)=[assign tg X.env]:=by rfl):kN X (.Assign [tg] e pos) (me te g):=
 ⟨b7 (mL he.ok hg.ok hs hw h1) fun D σ H ⟨σ3,S,D3,rσ,rS,h,xo,n,r,bk,ct⟩=>⟨σ3,S,_,D3.ex,rσ,rS,h,xo,fun p S1 v H1 h1 rv yi g1=>by
  try dsimp only at h1
  split at h1
  ·rename_i σ' e'
   exact Tg.zP (own:=0) g rv (rσ.mono g1) e' fun σ2 Eb _=>n _ S1 _ H1 h1 Eb yi g1
  ·exact h1.elim⟩⟩
end
noncomputable def gQ{κ:Type} [DecidableEq κ](kvs:List (κ×PV))(k:κ)(v:PV):List (κ×PV):=
 if (kvs.any fun kv=>decide (kv.1=k))=true then kvs.map (fun kv=>if kv.1=k then (kv.1,v) else kv) else kvs++[(k,v)]
theorem yc.append{K:Vo}{H:Hp}{κ:Type}:∀{vs us:List (κ×V)} {ps qs:List (κ×PV)},yc K H vs ps->yc K H us qs->yc K H (vs++us) (ps++qs)
 |_,_,_,_,.nil,s=>s
 |_,_,_,_,.cons a r,s=>.cons a (yc.append r s)
def yc.put{K:Vo}{H:Hp}{κ:Type} [DecidableEq κ]{k:κ}{v:V}{p:PV}(q:Rep K H v p){vs:List (κ×V)}{ps:List (κ×PV)}(r:yc K H vs ps):yc K H (dr vs k v) (gQ ps k p):=by
 have e:(vs.any fun kv=>decide (kv.1=k))=(ps.any fun kv=>decide (kv.1=k)):=by rw[gC,r.any]
 unfold dr gQ
 rw[e]
 split
 ·clear e
  rename_i h
  clear h
  induction r with
  |nil=>exact .nil
  |@cons k' v' p' vs' ps' a r ih=>
   rw[Fd,Fd]
   by_cases z:k'=k
   ·rw[if_pos z,if_pos z];exact .cons q ih
   ·rw[if_neg z,if_neg z];exact .cons a ih
 ·exact r.append (.cons q .nil)
def fE(o i v:PV)(S:ap)(Q:ap->Prop):Prop:=match o with
 | .ref a=>(match S a with
  |some (.lst xs)=>(match i with | .int k=>(match mU xs.length k with|some j=>Q (aR S a (.lst (xs.set j v)))|none=>False)|_=>False)
  |some (.dct kvs)=>(match f8 i with|some k=>kvs.length < sizeLine/\Q (aR S a (.dct (gQ kvs k v)))|none=>False)
  |_=>False)
 |_=>False
section
variable {X:Cx} {e o i:Expr} {te to ti:aO} {pos pos':Pos}
noncomputable def wI(X:Cx):V->V->V->Hp->(Hp->Prop)->Prop:=fun o i v H Q=>∃po pi pv S Q3,Rep X.K H o po/\Rep X.K H i pi/\Rep X.K H v pv/\RepS X.K H S/\fE po pi pv S Q3/\∀S' H',Q3 S'->RepS X.K H' S'->Grow X.K H H'->Q H'
def sI(hu:X.A.units+1 < cLine):o4 X (wI X):=by
 intro pins s σ H o i v ov iv u Q I ro ri rv ⟨po,pi,pv,S,Q3,r1,r2,r3,rS,q,k⟩
 unfold fE at q
 split at q
 ·split at q
  ·rename_i e
   split at q
   ·split at q
    ·rename_i ej
     cases r1;cases r2
     obtain⟨vs,hv,rl⟩:=rS _ _ e
     rw[<-rl.length]at ej
     exact mV pins s σ H _ _ _ ov iv u Q I ro ri rv ⟨_,_,_,_,rfl,rfl,hv,ej,k _ _ q (rS.put hv trivial ⟨_,ao,((rl.set r3 _).mono (.mut hv trivial))⟩) (.mut hv trivial)⟩
    ·exact q.elim
   ·exact q.elim
  ·rename_i e
   split at q
   ·rename_i ek
    cases r1
    have e1:=cx r2 ek
    subst e1
    obtain⟨kv,hv,rk⟩:=rS _ _ e
    exact nF hu pins s σ H _ _ _ ov iv u Q I ro ri rv ⟨_,_,rfl,AB.k hv (by rw[rk.length];exact q.1),k _ _ q.2 (rS.put hv trivial ⟨_,ao,(rk.put r3).mono (.mut hv trivial)⟩) (.mut hv trivial)⟩
   ·exact q.elim
  ·exact q.elim
 ·exact q.elim
def jo(te to ti:aO):bp:=fun D σ S=>te σ S (fun v S1=>to σ S1 (fun o S2=>ti σ S2 (fun i S3=>fE o i v S3 (fun S4=>D.nx σ S4)) D.ex) D.ex) D.ex
def jZ(hu:X.A.units+1 < cLine)(he:a9 X e te)(ho:a9 X o to)(hi:a9 X i ti)
  (ha:∀v,assign (.Subscript o i pos') X.env v=(do
   let ov <-holding [v] (eval o X.env)
   let iv <-holding [v,ov] (eval i X.env)
   standAt pos'
   holding [v,ov,iv] (setItem ov iv v)
   release [v,ov,iv] []):=by intro _;rfl)
  (hs:swapsWithSole [.Subscript o i pos'] e pos.line X.env=pure false:=by rfl) (hw:swappedStores [.Subscript o i pos'] e X.env=pure none:=by rfl)
  (h1:(assignEach [.Subscript o i pos'] X.env).map (·.2)=[assign (.Subscript o i pos') X.env]:=by rfl):kN X (.Assign [.Subscript o i pos'] e pos) (jo te to ti):=
 ⟨b7 (mL he.ok (rC ho.ok hi.ok (sI hu) ha) hs hw h1) fun D σ H ⟨σ3,S,D3,rσ,rS,h,xo,n,r,bk,ct⟩=>⟨σ3,S,_,D3.ex,rσ,rS,h,xo,fun v S1 v' H1 h1 rv yi g1=>
  ⟨σ3,S1,_,D3.ex,rσ.mono g1,yi,h1,xo.mono g1,fun o S2 o' H2 h2 ro zl g2=>⟨σ3,S2,_,D3.ex,rσ.mono (g1.trans g2),zl,h2,xo.mono (g1.trans g2),fun i S3 i' H3 h3 ri Br g3=>
   ⟨o,i,v,S3,_,ro.mono g3,ri,rv.mono (g2.trans g3),Br,h3,fun S4 H4 h4 Ec g4=>n _ S4 _ H4 h4 (rσ.mono (g1.trans (g2.trans (g3.trans g4)))) Ec (g1.trans (g2.trans (g3.trans g4)))⟩⟩⟩⟩⟩
end
end L3
namespace L2
open PySem PySem.Spec PyProof.Rows
section
variable {X:Cx} {tg:Expr}
def wJ(K:Vo)(tl:TE):TI:=fun σ H R=>tl σ H fun x H1=>(∃a,x = .ref a/\(∃xs,SqL K H1 a xs)/\R (vN K a) H1)\/(∃a,x = .ref a/\(∃xs,yK K H1 a xs)/\R (wj K a) H1)\/∃z,x = .str z/\R (wC z) H1
def sJ{l:Expr}{tl:TE}(hl:PE X l tl):PI X tg l (wJ X.K tl):=by
 intro pins s σ H R I h
 refine xZ (hl pins s σ H _ I h) fun v s1 ⟨x,H1,I1,r1,q1⟩=>?_
 rcases q1 with⟨a,e,⟨xs,hq⟩,q⟩|⟨a,e,⟨xs,hq⟩,q⟩|⟨z,e,q⟩
 ·subst e
  cases r1
  obtain⟨its,rv,p,hz⟩:=I1.list hq
  refine wpAny_pyIter_list p.isList ?_
  refine⟨s1.heap.objs.size,[s1.heap.objs.size],_,_,H1,rfl,I1.kept (t':=s1.toks) fun b o e=>EY _ e,lO a _,⟨_,E8 _ rfl,rfl,rfl⟩,fun b hb=>?_,q⟩
  have e:b=s1.heap.objs.size:=by simpa using hb
  subst e
  exact I1.zZ (E1 _) (I1.hok.fresh (E1 _))
 ·subst e
  cases r1
  obtain⟨its,rv,p,hz⟩:=I1.tuple hq
  refine wpAny_pyIter_tuple (show s1.heap.IsTuple a its.toArray from p) ?_
  refine⟨s1.heap.objs.size,[s1.heap.objs.size],_,_,H1,rfl,I1.kept (t':=s1.toks) fun b o e=>EY _ e,kC a _,⟨_,E8 _ rfl,rfl,rfl⟩,fun b hb=>?_,q⟩
  have e:b=s1.heap.objs.size:=by simpa using hb
  subst e
  exact I1.zZ (E1 _) (I1.hok.fresh (E1 _))
 ·subst e
  obtain⟨t,rfl⟩:=r1
  have fin:∀ty,(ty = "str_ascii_iterator" \/ ty = "str_iterator")->wg X pins σ tg R (.ref s1.heap.objs.size) { s1 with heap:=s1.heap.push { cls:=.type ty,data:=.fields #[.str z t,.int 0 0] } }:=fun ty hty=>by
   refine⟨s1.heap.objs.size,[s1.heap.objs.size],_,_,H1,rfl,I1.kept (t':=s1.toks) fun b o e=>EY _ e,m8 hty _ z t,⟨FN _,_,E8 _ rfl,rfl,rfl⟩,fun b hb=>?_,q⟩
   have e:b=s1.heap.objs.size:=by simpa using hb
   subst e
   exact I1.zZ (E1 _) (I1.hok.fresh (E1 _))
  cases ha:z.cps.all (· < 128)
  ·exact wpAny_pyIter_wide ha (fin _ (.inr rfl))
  ·exact wpAny_pyIter_ascii ha (fin _ (.inl rfl))
end
end L2
namespace L3
open PySem L2
structure wK where
 items:List PV
 keep:ap->Prop
def iQ(K:Vo)(H0:Hp)(J:It)(src:wK):Prop:=∀(i:Nat) (S:ap) (H:Hp),Grow K H0 H->RepS K H S->src.keep S->
 (∀p,src.items[i]?=some p->J.go i H/\∀x H',J.B5 i H x H'->Rep K H' x p/\RepS K H' S/\Grow K H H')/\(i=src.items.length->J.stop i H)
abbrev p_:=bF->ap->(wK->ap->Prop)->de->Prop
inductive LI (X:Cx) (t:p_) (σ:L2.St) (H:Hp) (R:It->Hp->Prop):Prop
 |mk (σ3 S R3 E3) (rσ:RepSt X.K H σ σ3) (rS:RepS X.K H S) (h:t σ3 S R3 E3) (xo:Av X H E3) (k:∀src S' J H',R3 src S'->iQ X.K H' J src->RepS X.K H' S'->Grow X.K H H'->R J H'):LI X t σ H R
structure sK (X:Cx) (tg iter:Expr) (t:p_):Prop where
 ok:PI X tg iter (LI X t)
def nQ{X:Cx}{tg iter:Expr}{t t':TI}(h:PI X tg iter t)(k:∀σ H R,t' σ H R->t σ H R):PI X tg iter t':=fun pins s σ H R I q=>h pins s σ H R I (k σ H R q)
section
variable {X:Cx} {e tg:Expr} {es:List Expr} {te:aO} {ts:List aO} {p pos:Pos}
noncomputable def bS(S:ap):PV->Option wK
 | .tup xs=>some ⟨xs,fun _=>True⟩
 | .cl xs=>some ⟨xs,fun _=>True⟩
 | .str z=>some ⟨z.cps.toList.map fun c=>.str (jf c),fun _=>True⟩
 | .ref a=>(match S a with|some (.lst xs)=>some ⟨xs,fun S'=>S' a=some (.lst xs)⟩|_=>none)
 |_=>none
def aX(te:aO):p_:=fun σ S R E=>te σ S (fun v S1=>match bS S1 v with|some src=>R src S1|none=>False) E
end
section
variable {X:Cx} {e tg a b:Expr} {es:List Expr} {te ta tb:aO} {ts:List aO} {p pos:Pos}
def nR{K:Vo}{H0:Hp}{a:Addr}{xs:List PV}:iQ K H0 (vN K a) ⟨xs,fun S'=>S' a=some (.lst xs)⟩:=by
 intro i S H g rS hk
 obtain⟨vs,hv,rs⟩:=rS a _ hk
 refine⟨fun p hp=>?_,fun hi=>⟨vs,SqL.of hv,by rw[rs.length,hi];exact E1 _⟩⟩
 obtain⟨v,hx,rv⟩:=rs.get hp
 refine⟨⟨vs,v,SqL.of hv,hx⟩,fun x H' ⟨e,h⟩=>?_⟩
 subst e
 have:=h vs (SqL.of hv)
 rw[hx]at this
 cases this
 exact⟨rv,rS,.refl⟩
def qc{K:Vo}{H0:Hp}{a:Addr}{vs:List V}{xs:List PV}(h:yK K H0 a vs)(rs:Reps K H0 vs xs):iQ K H0 (wj K a) ⟨xs,fun _=>True⟩:=by
 intro i S H g rS _
 have hv:=g.t _ _ h
 refine⟨fun p hp=>?_,fun hi=>⟨vs,hv,by rw[rs.length,hi];exact E1 _⟩⟩
 obtain⟨v,hx,rv⟩:=rs.get hp
 refine⟨⟨vs,v,hv,hx⟩,fun x H' ⟨e,h⟩=>?_⟩
 subst e
 have:=h vs hv
 rw[hx]at this
 cases this
 exact⟨rv.mono g,rS,.refl⟩
def sL{K:Vo}{H0:Hp}{a:Addr}{vs:List V}{xs:List PV}(h:BB K H0 a vs)(rs:Reps K H0 vs xs):iQ K H0 (vN K a) ⟨xs,fun _=>True⟩:=by
 intro i S H g rS _
 have hv:=(g.c _ _ h).sq
 refine⟨fun p hp=>?_,fun hi=>⟨vs,hv,by rw[rs.length,hi];exact E1 _⟩⟩
 obtain⟨v,hx,rv⟩:=rs.get hp
 refine⟨⟨vs,v,hv,hx⟩,fun x H' ⟨e,h⟩=>?_⟩
 subst e
 have:=h vs hv
 rw[hx]at this
 cases this
 exact⟨rv.mono g,rS,.refl⟩
def qd{K:Vo}{H0:Hp}{z:Str}:iQ K H0 (wC z) ⟨z.cps.toList.map fun c=>.str (jf c),fun _=>True⟩:=by
 intro i S H g rS _
 refine⟨fun p hp=>?_,fun hi=>by show z.cps.size<=i;rw[hi,E5,HC];exact E1 _⟩
 rw[Fv]at hp
 cases hc:z.cps.toList[i]? with
 |none=>rw[hc]at hp;cases hp
 |some c=>
  rw[hc]at hp
  cases hp
  have hc':z.cps[i]?=some c:=by simpa using hc
  refine⟨?_,fun x H' ⟨e,c',h1,h2⟩=>?_⟩
  ·show i < z.cps.size
   by_cases hi:i < z.cps.size
   ·exact hi
   ·rw[GH (by omega)]at hc';cases hc'
  ·subst e
   rw[hc']at h1
   cases h1
   subst h2
   exact⟨.str _,rS,.refl⟩
def ci(he:a9 X e te):sK X tg e (aX te):=⟨nQ (sJ he.ok) fun σ H R ⟨σ3,S,R3,E3,rσ,rS,h,xo,k⟩=>⟨σ3,S,_,E3,rσ,rS,h,xo,fun v S1 v' H1 h1 rv yi g1=>by
 split at h1
 ·rename_i src hs
  unfold bS at hs
  split at hs
  ·cases hs
   cases rv with
   |tup hq rs=>exact .inr (.inl ⟨_,rfl,⟨_,hq⟩,k _ S1 _ H1 h1 (qc hq rs) yi g1⟩)
  ·cases hs
   cases rv with
   |cl hq rs=>exact .inl ⟨_,rfl,⟨_,hq.sq⟩,k _ S1 _ H1 h1 (sL hq rs) yi g1⟩
  ·cases hs
   cases rv
   exact .inr (.inr ⟨_,rfl,k _ S1 _ H1 h1 qd yi g1⟩)
  ·cases rv
   split at hs
   ·rename_i ea
    cases hs
    obtain⟨vs,hv,rs⟩:=yi _ _ ea
    exact .inl ⟨_,rfl,⟨_,SqL.of hv⟩,k _ S1 _ H1 h1 nR yi g1⟩
   ·cases hs
  ·cases hs
 ·exact h1.elim⟩⟩
noncomputable def bT(lo:Int)(n:Nat):List PV:=(List.range n).map fun(i:Nat)=>PV.int (lo+i)
def mf{K:Vo}{H0:Hp}{lo:Int}{n:Nat}:iQ K H0 (vO lo n) ⟨bT lo n,fun _=>True⟩:=by
 intro i S H g rS _
 refine⟨fun p hp=>?_,fun hi=>by show n<=i;rw[hi];simp[bT]⟩
 unfold bT at hp
 rw[Fv]at hp
 by_cases hi:i < n
 ·rw[HE hi]at hp
  cases hp
  refine⟨hi,fun x H' ⟨e,h⟩=>?_⟩
  subst e h
  exact⟨.int _,rS,.refl⟩
 ·rw[Gs (by simpa using hi)]at hp
  cases hp
def gg(ta:aO):p_:=fun σ S R E=>ta σ S (fun v S1=>match v with | .int j=>-(2 ^ 62)<=j/\j < 2 ^ 62/\R ⟨bT 0 j.toNat,fun _=>True⟩ S1|_=>False) E
def dE(hs:starEach [a] X.env=[(false,eval a X.env)])(hg:Gl X "range")(hm:X.mg "range" = none)(ha:iL X [a] [ta]):sK X tg (.Call (.Name "range" p) [a] [] pos) (gg ta):=
 ⟨nQ (lP hg hm ha.ok hs) fun σ H R ⟨σ3,S,R3,E3,rσ,rS,h,xo,k⟩=>⟨σ3,S,_,E3,rσ,rS,h,xo,fun v S1 v' H1 h1 rv yi g1=>by
  split at h1
  ·cases rv
   exact⟨_,rfl,h1.1,h1.2.1,k _ S1 _ H1 h1.2.2 mf yi g1⟩
  ·exact h1.elim⟩⟩
noncomputable def en(xs ys:List PV):List PV:=(xs.zip ys).map fun z=>.tup [z.1,z.2]
end
section
variable {X:Cx} {iter tg c:Expr} {body:List Stmt} {ti:p_} {g:Tg} {tb:bp} {tc:fw} {pos:Pos}
noncomputable def eo(g:Tg)(tb:bp)(D:dv)(keep:ap->Prop):List PV->bF->ap->Prop
 |[],σ,S=>keep S/\D.nx σ S
 |x::r,σ,S=>keep S/\match g.put x σ with|some σ'=>tb { D with nx:=eo g tb D keep r,ct:=eo g tb D keep r,bk:=D.nx } σ' S|none=>False
def dF(ti:p_)(g:Tg)(tb:bp):bp:=fun D σ S=>ti σ S (fun src S1=>eo g tb D src.keep src.items σ S1) D.ex
def gR(hp:PassesOwn (model X.prog X.w) X.A X.env X.xe)(hc:X.calm=true)(hi:sK X tg iter ti)(hg:oR X tg g)(hb:fx X body tb)(hs:∀x,foldedSetIterable iter X.env x=pure x:=by intro _;rfl):kN X (.For tg iter body [] pos) (dF ti g tb):=
 ⟨b7 (rG hp hc hi.ok hg.ok hb.ok hs) fun D σ H ⟨σ3,S,D3,rσ,rS,h,xo,n,r,bk,ct⟩=>⟨σ3,S,_,D3.ex,rσ,rS,h,xo,fun src S1 J H1 h1 sim yi g1=>by
  refine⟨fun i m σ' H'=>i+m=src.items.length/\∃σ4 S',RepSt X.K H' σ' σ4/\RepS X.K H' S'/\Grow X.K H1 H'/\eo g tb D3 src.keep (src.items.drop i) σ4 S',⟨src.items.length,Nat.zero_add _,σ3,S1,rσ.mono g1,yi,.refl,by simpa using h1⟩,?_⟩
  rintro i m σ' H' ⟨hm,σ4,S',AO,y_,g',hw⟩
  cases hd:src.items.drop i with
  |nil=>
   rw[hd]at hw
   have hi:i=src.items.length:=by
    have:=FI List.length hd
    rw[FE,GI]at this
    omega
   exact .inl ⟨(sim i S' H' g' y_ hw.1).2 hi,n _ S' _ H' hw.2 AO y_ (g1.trans g')⟩
  |cons x rest=>
   rw[hd]at hw
   have hx:src.items[i]?=some x:=by
    have:=FI (fun l=>l[0]?) hd
    simpa using this
   have hrest:src.items.drop (i+1)=rest:=by
    have:=FI List.tail hd
    simpa [List.tail_drop]using this
   have hlt:i < src.items.length:=by
    by_cases z:i < src.items.length
    ·exact z
    ·rw[Gs (by omega)]at hx;cases hx
   obtain⟨go,yl⟩:=(sim i S' H' g' y_ hw.1).1 x hx
   refine .inr ⟨go,fun σ5 H5=>∃σ6 S6,RepSt X.K H5 σ5 σ6/\RepS X.K H5 S6/\Grow X.K H1 H5/\eo g tb D3 src.keep rest σ6 S6,?_,fun v H5 hv=>?_⟩
   ·rintro σ5 H5 ⟨σ6,S6,q1,q2,q3,q4⟩
    exact⟨m - 1,by omega,by omega,σ6,S6,q1,q2,q3,by rw[hrest];exact q4⟩
   ·obtain⟨rv,CG,g5⟩:=yl v H5 hv
    obtain⟨_,hw⟩:=hw
    split at hw
    ·rename_i σ6 e6
     refine Tg.zP (own:=0) g rv (AO.mono g5) e6 fun σ7 Ca _=>?_
     exact⟨σ6,S',_,Ca,CG,hw,xo.mono (g1.trans (g'.trans g5)),fun σ8 S8 σ9 H9 q1 q2 q3 q4=>⟨σ8,S8,q2,q3,g'.trans (g5.trans q4),q1⟩,r.mono (g1.trans (g'.trans g5)),n.mono (g1.trans (g'.trans g5)),
      fun σ8 S8 σ9 H9 q1 q2 q3 q4=>⟨σ8,S8,q2,q3,g'.trans (g5.trans q4),q1⟩⟩
    ·exact hw.elim⟩⟩
def gS(tc:fw)(tb:bp):bp:=fun D σ S=>∃W:Nat->bF->ap->Prop,(∃m,W m σ S)/\∀m σ S,W m σ S->
 tc σ S (fun b S1=>if b=true then ∃N:bF->ap->Prop,(∀σ' S',N σ' S'->∃m',m' < m/\W m' σ' S')/\tb { D with nx:=N,ct:=N,bk:=D.nx } σ S1 else D.nx σ S1) D.ex
def jp(hp:PassesOwn (model X.prog X.w) X.A X.env X.xe)(hc:kM X c tc)(hb:fx X body tb):kN X (.While c body [] pos) (gS tc tb):=
 ⟨b7 (mM hp hc.ok hb.ok) fun D σ H ⟨σ3,S,D3,rσ,rS,⟨W,⟨m0,w0⟩,turn⟩,xo,n,r,bk,ct⟩=>by
  refine⟨fun m σ' H'=>∃σ4 S',RepSt X.K H' σ' σ4/\RepS X.K H' S'/\Grow X.K H H'/\W m σ4 S',⟨m0,σ3,S,rσ,rS,.refl,w0⟩,?_⟩
  rintro m σ' H' ⟨σ4,S',AO,y_,g',w'⟩
  refine⟨σ4,S',_,D3.ex,AO,y_,turn m σ4 S' w',xo.mono g',fun b S1 H1 h1 yi g1=>?_⟩
  cases b with
  |true=>
   rw[if_pos rfl]at h1 ⊢
   obtain⟨N,hN,h1⟩:=h1
   refine⟨fun σ5 H5=>∃σ6 S6,RepSt X.K H5 σ5 σ6/\RepS X.K H5 S6/\Grow X.K H H5/\N σ6 S6,?_,?_⟩
   ·rintro σ5 H5 ⟨σ6,S6,q1,q2,q3,q4⟩
    obtain⟨m',hm,w6⟩:=hN σ6 S6 q4
    exact⟨m',hm,σ6,S6,q1,q2,q3,w6⟩
   ·exact⟨σ4,S1,_,AO.mono g1,yi,h1,xo.mono (g'.trans g1),fun σ8 S8 σ9 H9 q1 q2 q3 q4=>⟨σ8,S8,q2,q3,g'.trans (g1.trans q4),q1⟩,r.mono (g'.trans g1),n.mono (g'.trans g1),
     fun σ8 S8 σ9 H9 q1 q2 q3 q4=>⟨σ8,S8,q2,q3,g'.trans (g1.trans q4),q1⟩⟩
  |false=>
   rw[if_neg (by decide)]at h1 ⊢
   exact n _ S1 _ H1 h1 (AO.mono g1) yi (g'.trans g1)⟩
end
noncomputable def eu:de:=fun _ _ _=>False
def Av.no{X:Cx}{H:Hp}:Av X H eu:=fun _ _ _ _ _ _ _ _ _ _ _ _ _ _ h=>h.elim
section
variable {X:Cx} {elt iter tg c:Expr} {ifs:List Expr} {scope:Scope} {pos:Pos} {ti:p_} {g:Tg} {tc:fw} {te:aO} {fs N:Vs} {own:Nat} {fr:List Nat}
noncomputable def cj(g:Tg)(tc:fw)(te:aO)(σ':bF)(keep:ap->Prop)(fin:List PV->ap->Prop):List PV->List PV->ap->Prop
 |[],ys,S=>keep S/\ys.length<=sizeLine/\fin ys S
 |x::r,ys,S=>keep S/\ys.length<=sizeLine/\match g.put x σ' with
  |some σ2=>tc σ2 S (fun b S3=>if b=true then te σ2 S3 (fun y S4=>cj g tc te σ' keep fin r (ys++[y]) S4) eu else cj g tc te σ' keep fin r ys S3) eu
  |none=>False
def di:fw:=fun _ S Q _=>Q true S
structure tZ (X:Cx) (ifs:List Expr) (t:fw):Prop where
 ok:PF X ifs (LT X t)
def kU{t t':TT}(h:PF X ifs t)(k:∀σ H Q,t' σ H Q->t σ H Q):PF X ifs t':=fun pins s σ H Q I q=>h pins s σ H Q I (k σ H Q q)
def ef:tZ X [] di:=⟨kU sf fun σ H Q ⟨σ3,S,Q3,E3,rσ,rS,h,xo,k⟩=>k true S H h rS .refl⟩
def qU(h:kM X c tc):tZ X [c] tc:=⟨sg h.ok⟩
noncomputable def fF(own:Nat)(fr:List Nat)(σ:bF):bF:=List.replicate own none++fr.map fun j=>lk σ j
def qe{K:Vo}{H:Hp}{σ:L2.St}{σ3:bF}(r:RepSt K H σ σ3)(own:Nat)(fr:List Nat):RepSt K H (cF own fr σ) (fF own fr σ3):=by
 refine⟨by unfold cF fF;simp,fun i p e=>?_⟩
 unfold fF at e
 unfold cF
 by_cases hi:i < own
 ·rw[Fp (by simpa using hi),F2,if_pos hi]at e
  cases e
 ·rw[Fq (by simpa using hi),FH,Fv]at e ⊢
  cases hj:fr[i - own]? with
  |none=>rw[hj]at e;cases e
  |some j=>
   rw[hj]at e
   simp only[Option.map_some,Option.some.injEq]at e ⊢
   obtain⟨v,hv,rv⟩:=r.at' j p (ji e)
   exact⟨v,by rw[hv];rfl,rv⟩
def a8(ti:p_)(g:Tg)(tc:fw)(te:aO)(own:Nat)(fr:List Nat):aO:=fun σ S Q E=>ti σ S (fun src S1=>cj g tc te (fF own fr σ) src.keep (fun ys S2=>∀p,S2 p=none->Q (.ref p) (aR S2 p (.lst ys))) src.items [] S1) E
def iR{σ:L2.St}{H:Hp}{Q:VK}(AX:g.under own=true)(B0:Bk):LE X (a8 ti g tc te own fr) σ H Q->m5 (LI X ti) (g.g2 X.K) (fun σ H Q=>∃σ3 S Q3,RepSt X.K H σ σ3/\RepS X.K H S/\tc σ3 S Q3 eu/\∀b S' H',Q3 b S'->RepS X.K H' S'->Grow X.K H H'->Q b H')
  (fun σ H Q=>∃σ3 S Q3,RepSt X.K H σ σ3/\RepS X.K H S/\te σ3 S Q3 eu/\Ret X.K H Q3 Q) own fr σ H Q:=fun⟨σ3,S,Q3,E3,rσ,rS,h,xo,k⟩=>by
 refine⟨σ3,S,_,E3,rσ,rS,h,xo,fun src S1 J H1 h1 sim yi g1=>?_⟩
 refine⟨fun i m ys H'=>i+m=src.items.length/\∃zs S',Reps X.K H' ys zs/\RepS X.K H' S'/\Grow X.K H1 H'/\cj g tc te (fF own fr σ3) src.keep (fun ys S2=>∀p,S2 p=none->Q3 (.ref p) (aR S2 p (.lst ys))) (src.items.drop i) zs S',⟨src.items.length,Nat.zero_add _,[],S1,.nil,yi,.refl,by simpa using h1⟩,?_⟩
 rintro i m ys H' ⟨hm,zs,S',rz,y_,g',hw⟩
 cases hd:src.items.drop i with
 |nil=>
  rw[hd]at hw
  have hi:i=src.items.length:=by
   have:=FI List.length hd
   rw[FE,GI]at this
   omega
  refine .inl ⟨(sim i S' H' g' y_ hw.1).2 hi,by rw[rz.length];exact hw.2.1,fun D hD=>?_⟩
  exact k _ _ _ _ (hw.2.2 D (y_.free hD)) (.ref D) (y_.new hD ⟨_,ao,rz.mono (.new hD)⟩) (g1.trans (g'.trans (.new hD)))
 |cons x rest=>
  rw[hd]at hw
  have hx:src.items[i]?=some x:=by
   have:=FI (fun l=>l[0]?) hd
   simpa using this
  have hrest:src.items.drop (i+1)=rest:=by
   have:=FI List.tail hd
   simpa [List.tail_drop]using this
  have hlt:i < src.items.length:=by
   by_cases z:i < src.items.length
   ·exact z
   ·rw[Gs (by omega)]at hx;cases hx
  obtain⟨go,yl⟩:=(sim i S' H' g' y_ hw.1).1 x hx
  refine .inr ⟨go,by rw[rz.length];exact hw.2.1,fun ys' H5=>∃zs' S6,Reps X.K H5 ys' zs'/\RepS X.K H5 S6/\Grow X.K H1 H5/\cj g tc te (fF own fr σ3) src.keep (fun ys S2=>∀p,S2 p=none->Q3 (.ref p) (aR S2 p (.lst ys))) rest zs' S6,?_,fun v H5 hv=>?_⟩
  ·rintro ys' H5 ⟨zs',S6,q1,q2,q3,q4⟩
   exact⟨m - 1,by omega,by omega,zs',S6,q1,q2,q3,by rw[hrest];exact q4⟩
  ·obtain⟨rv,CG,g5⟩:=yl v H5 hv
   obtain⟨_,_,hw⟩:=hw
   split at hw
   ·rename_i σ6 e6
    refine Tg.zP (own:=own) g rv ((qe rσ own fr).mono (g1.trans (g'.trans g5))) e6 fun σ7 Ca d7=>⟨d7 AX,?_⟩
    refine⟨σ6,S',_,Ca,CG,hw,fun b S8 H8 h8 Dn g8=>?_⟩
    cases b with
    |true=>
     rw[if_pos rfl]at h8 ⊢
     exact⟨σ6,S8,_,Ca.mono g8,Dn,h8,fun y S9 y' H9 h9 ry Ed g9=>⟨zs++[y],S9,(rz.mono (g5.trans (g8.trans g9))).append (.cons ry .nil),Ed,g'.trans (g5.trans (g8.trans g9)),h9⟩⟩
    |false=>
     rw[if_neg (by decide)]at h8 ⊢
     exact⟨zs,S8,rz.mono (g5.trans g8),Dn,g'.trans (g5.trans g8),h8⟩
   ·exact hw.elim
def sM(fs:Vs)(own:Nat)(fr:List Nat)(N:Vs)(AX:g.under own=true)(hc:X.calm=true)(hclos:closureFor scope X.env=pure (bH X.env fs))(hcell:∀y∈scope.names,y.2 ≠ .cell)(hkind:scope.kind = .function)
  (hnames:∀x∈scope.names,x.2 = .local->scope.names.lookup x.1=some .local) (hcl:bw X.env fs) (hhas:je (relabel scope X.env).names (bH X.env fs)=true)
  (hlen:N.length=own+fr.length) (hN:(N.drop own).map some=fr.map fun j=>X.N[j]?) (hF:yr X.env scope (bH X.env fs) (N.drop own))
  (hi:sK X tg iter ti) (hg:∀B,oR (X.y2 N scope fs B) tg g) (hf:∀B,tZ (X.y2 N scope fs B) ifs tc) (he:∀B,a9 (X.y2 N scope fs B) elt te)
  (hs:∀x,foldedSetIterable iter X.env x=pure x:=by intro _;rfl):a9 X (.ListComp elt [⟨tg,iter,ifs,0⟩] scope pos) (a8 ti g tc te own fr):=
 ⟨aK (pG fs own fr N hc hclos hcell hkind hnames hcl hhas hlen hN hF hi.ok (fun B=>(hg B).ok)
  (fun B=>kU (hf B).ok fun σ H Q ⟨σ3,S,Q3,rσ,rS,h,k⟩=>⟨σ3,S,Q3,eu,rσ,rS,h,.no,k⟩) (fun B=>aK (he B).ok fun σ H Q ⟨σ3,S,Q3,rσ,rS,h,k⟩=>⟨σ3,S,Q3,eu,rσ,rS,h,.no,k⟩) hs) fun _ _ _=>iR AX ⟨0,X.s₀,X.H₀,[],[]⟩⟩
def sN(fs:Vs)(own:Nat)(fr:List Nat)(N:Vs){i:Nat}{y:Str}{py spos:Pos}(hX:X.N.Nodup)(hix:X.N[i]?=some y)(hy:X.env.scope.names.lookup y=some .local)
  (hsw:swapsWith (.ListComp elt [⟨tg,iter,ifs,0⟩] scope pos) (some (.Name y py)) spos.line X.env=pure true)
  (AX:g.under own=true) (hc:X.calm=true) (hclos:closureFor scope X.env=pure (bH X.env fs)) (hcell:∀y∈scope.names,y.2 ≠ .cell) (hkind:scope.kind = .function)
  (hnames:∀x∈scope.names,x.2 = .local->scope.names.lookup x.1=some .local) (hcl:bw X.env fs) (hhas:je (relabel scope X.env).names (bH X.env fs)=true)
  (hlen:N.length=own+fr.length) (hN:(N.drop own).map some=fr.map fun j=>X.N[j]?) (hF:yr X.env scope (bH X.env fs) (N.drop own))
  (hi:sK X tg iter ti) (hg:∀B,oR (X.y2 N scope fs B) tg g) (hf:∀B,tZ (X.y2 N scope fs B) ifs tc) (he:∀B,a9 (X.y2 N scope fs B) elt te)
  (hs:∀x,foldedSetIterable iter X.env x=pure x:=by intro _;rfl):kN X (.Assign [.Name y py] (.ListComp elt [⟨tg,iter,ifs,0⟩] scope pos) spos) (aw i (a8 ti g tc te own fr)):=
 ⟨b7 (pH fs own fr N hX hix hy hsw hc hclos hcell hkind hnames hcl hhas hlen hN hF hi.ok (fun B=>(hg B).ok)
  (fun B=>kU (hf B).ok fun σ H Q ⟨σ3,S,Q3,rσ,rS,h,k⟩=>⟨σ3,S,Q3,eu,rσ,rS,h,.no,k⟩) (fun B=>aK (he B).ok fun σ H Q ⟨σ3,S,Q3,rσ,rS,h,k⟩=>⟨σ3,S,Q3,eu,rσ,rS,h,.no,k⟩) hs)
  fun D σ H ⟨σ3,S,D3,rσ,rS,h,xo,n,r,bk,ct⟩=>iR AX ⟨0,X.s₀,X.H₀,[],[]⟩ ⟨σ3,S,_,D3.ex,rσ,rS,h,xo,fun p S1 v H1 h1 rv yi g1=>n _ S1 _ H1 h1 ((rσ.mono g1).set rv i) yi g1⟩⟩
end
abbrev aH:=List PV->ap->bY->de->Prop
noncomputable def t4(K:Vo)(n:Nat)(sp:aH):Sp:=fun vs H Q _=>vs.length=n/\∃ps S Q3 E3,Reps K H vs ps/\RepS K H S/\sp ps S Q3 E3/\Ret K H Q3 Q
structure Bs (P:Program) (w:World) (K:Vo) (mg:Vr) (base:Heap) (k:Nat) (f:Addr) (fd:FuncData) (ps:Vs) (sp:aH):Prop where
 ok:ig P w K mg base oP k f fd ps (t4 K ps.length sp)
section
variable {X:Cx} {e o:Expr} {es:List Expr} {te to:aO} {ts:List aO} {x:Str} {p pos apos cpos:Pos} {k:Nat} {f:Addr} {fd:FuncData} {ps:Vs} {sp:aH}
def aa(sp:aH)(ts:List aO):aO:=fun σ S Q E=>aq ts σ S (fun ps S1=>sp ps S1 Q E) E
def sO(F:Bs X.prog X.w X.K X.mg X.base k f fd ps sp)(hr:Room k X.A)(hg:Gl X x)(hm:X.mg x=some (.ref f))(hk:PySem.W.keepIn X.K (.ref f)=true)(hb:Binds X.K fd ps [])(he:starEach (e::es) X.env=(false,eval e X.env)::starEach es X.env)(ha:iL X (e::es) ts)
  (hl:ts.length=ps.length:=by rfl) (hdb:(x == ("__debug__":Str))=false:=by decide) (hpl:(backTo pos (starEach es X.env)).any (·.1)=false:=by rfl):a9 X (.Call (.Name x p) (e::es) [] pos) (aa sp ts):=
 ⟨aK (pf F.ok hr hg hm hk hb .nil qM ha.ok hdb he hpl) fun σ H Q ⟨σ3,S,Q3,E3,rσ,rS,h,xo,k⟩=>bI rσ rS h xo fun ps' S' vs H' hl' q rv y_ g=>by
  rw[Gv]
  exact⟨by rw[rv.length,hl',hl],ps',S',Q3,E3,rv,y_,q,k.mono g⟩⟩
end
noncomputable def aA(n:Nat)(args:List PV):bF:=args.map some++List.replicate (n - args.length) none
def bC(n:Nat)(t:bp):aH:=fun args S Q _=>t { nx:=fun _ S'=>Q .non S',rt:=Q,ex:=eu } (aA n args) S
def fG{K:Vo}{H:Hp}{N:Vs}{vs:List V}{ps:List PV}(r:Reps K H vs ps):RepSt K H (L2.bn N vs) (aA N.length ps):=by
 refine⟨by unfold L2.bn aA;simp[r.length],fun i p e=>?_⟩
 unfold aA at e
 unfold L2.bn
 by_cases hi:i < ps.length
 ·rw[Fp (by simpa using hi),Fv]at e
  cases hp:ps[i]? with
  |none=>rw[hp]at e;cases e
  |some q=>
   rw[hp]at e
   cases e
   obtain⟨v,hv,rv⟩:=r.get hp
   rw[Fp (by rw[E5,r.length];exact hi),Fv,hv]
   exact⟨v,rfl,rv⟩
 ·rw[Fq (by simpa using hi),F2]at e
  split at e
  ·cases e
  ·cases e
section
variable {P:Program} {w:World} {K:Vo} {mg:Vr} {base:Heap}
noncomputable abbrev vW(P:Program)(w:World)(K:Vo)(mg:Vr)(base:Heap)(N:Vs)(qual:Str)(st:Stmt)(f:Addr)(cdv:Value)(A:Around)(outer:List Env)(s:Shared)(H:Hp)(E:XK):Cx:=(i7 oP P w K mg base N qual (az st) f cdv A outer s H E).AN
def xk{x qual:Str}{st:Stmt}{f:Addr}{fd:FuncData}{N ps:Vs}{k:Nat}{t:bp}(F:A4 K x qual st f fd)(S:cg N ps (az st))
  (hbody:∀(cdv:Value) (A:Around) (outer:List Env) (s:Shared) (H:Hp) (E:XK),Room k (A.deeper (PyProof.Rows.envOfC qual (az st) s.heap.objs.size f cdv))->fx (vW P w K mg base N qual st f cdv A outer s H E) (ba st) t) :
  Bs P w K mg base (k+1) f fd ps (bC N.length t):=
 ⟨F.ok S (fun vs H Q E h=>h.1) fun cdv A outer s H vs Q E hr ⟨hl,ps',S',Q3,E3,rv,rS,q,kk⟩=>⟨_,(hbody cdv A outer s H E hr).ok,aA N.length ps',S',_,fG rv,rS,q,.no,fun σ3 S2 σ2 H2 h2 _ zl g2=>kk _ S2 _ H2 h2 .non zl g2,kk,fun _ _ _ _ h2=>h2.elim,fun _ _ _ _ h2=>h2.elim⟩⟩
end
section
variable {X:Cx} {o e f:Expr} {to te tf:aO} {pos apos cpos:Pos}
noncomputable def fH:List (aO×aO)->bF->ap->(List (PV×PV)->ap->Prop)->de->Prop
 |[],_,S,Q,_=>Q [] S
 |(tk,tv)::r,σ,S,Q,E=>tk σ S (fun x S1=>tv σ S1 (fun y S2=>fH r σ S2 (fun ps S3=>Q ((x,y)::ps) S3) E) E) E
noncomputable def j2:List (PV×PV)->Option (List (aN×PV))
 |[]=>some []
 |(x,y)::r=>match f8 x,j2 r with|some k,some l=>some ((k,y)::l)|_,_=>none
noncomputable def cO(kvs more:List (aN×PV)):List (aN×PV):=more.foldl (fun acc kv=>gQ acc kv.1 kv.2) kvs
structure vX (X:Cx) (pos:Pos) (keys:List (Option Expr)) (values:List Expr) (zD:List (aO×aO)):Prop where
 ok:uR X pos keys values (zD.map fun t=>(LE X t.1,LE X t.2))
def sP:vX X pos [] [] []:=⟨pD⟩
def jq{k v:Expr}{ks:List (Option Expr)}{vs:List Expr}{tk tv:aO}{zD:List (aO×aO)}(hk:a9 X k tk)(hv:a9 X v tv)(hr:vX X pos ks vs zD):vX X pos (some k::ks) (v::vs) ((tk,tv)::zD):=⟨mZ hk.ok hv.ok hr.ok⟩
inductive iS (K:Vo) (H:Hp):List (V×V)->List (PV×PV)->Prop
 |nil:iS K H [] []
 |cons {a b:V} {p q:PV} {vs:List (V×V)} {ps:List (PV×PV)}:Rep K H a p->Rep K H b q->iS K H vs ps->iS K H ((a,b)::vs) ((p,q)::ps)
theorem gT:∀{zD:List (aO×aO)} {σ:L2.St} {H:Hp} {Q:List (V×V)->Hp->Prop} {σ3:bF} {S:ap} {Q3:List (PV×PV)->ap->Prop} {E3:de},RepSt X.K H σ σ3->RepS X.K H S->fH zD σ3 S Q3 E3->Av X H E3->
  (∀ps S' vs H',ps.length=zD.length->Q3 ps S'->iS X.K H' vs ps->RepS X.K H' S'->Grow X.K H H'->Q vs H')->jb (zD.map fun t=>(LE X t.1,LE X t.2)) σ H Q
 |[],σ,H,Q,σ3,S,Q3,E3,rσ,rS,h,xo,k=>k [] S [] H rfl h .nil rS .refl
 |(tk,tv)::ts,σ,H,Q,σ3,S,Q3,E3,rσ,rS,h,xo,k=>
  ⟨σ3,S,_,E3,rσ,rS,h,xo,fun p S1 v H1 h1 rv yi g1=>⟨σ3,S1,_,E3,rσ.mono g1,yi,h1,xo.mono g1,fun p2 S2 v2 H2 h2 Ee zl g2=>gT (rσ.mono (g1.trans g2)) zl h2 (xo.mono (g1.trans g2)) fun ps S3 vs H3 hl h3 BC Br g3=>
   k ((p,p2)::ps) S3 ((v,v2)::vs) H3 (by rw[Fe,Fe,hl]) h3 (.cons (rv.mono (g2.trans g3)) (Ee.mono g3) BC) Br (g1.trans (g2.trans g3))⟩⟩
theorem iT{K:Vo}{H:Hp}:∀{vs:List (V×V)} {ps:List (PV×PV)} {l:List (aN×PV)},iS K H vs ps->j2 ps=some l->∃kvs:List (aN×V),vs=kvs.map (fun kv=>(kV kv.1,kv.2))/\yc K H kvs l
 |_,_,_,.nil,h=>by cases h;exact⟨[],rfl,.nil⟩
 |_,_,l,.cons a b r,h=>by
  unfold j2 at h
  split at h
  ·rename_i k l' ek el
   cases h
   obtain⟨kvs,e,q⟩:=iT r el
   refine⟨(k,_)::kvs,?_,.cons b q⟩
   rw[Fd,<-e,cx a ek]
  ·cases h
def yc.merge{K:Vo}{H:Hp}{more:List (aN×V)}{m3:List (aN×PV)}(r:yc K H more m3):∀{kvs:List (aN×V)} {k3:List (aN×PV)},yc K H kvs k3->yc K H (bU kvs more) (cO k3 m3):=by
 induction r with
 |nil=>intro kvs k3 q;exact q
 |cons a r ih=>intro kvs k3 q;exact ih (q.put a)
def j3(zD:List (aO×aO)):aO:=fun σ S Q E=>∀p,S p=none->fH zD σ (aR S p (.dct [])) (fun ps S2=>S2 p=some (.dct [])/\match j2 ps with|some kvs=>Q (.ref p) (aR S2 p (.dct (cO [] kvs)))|none=>False) E
def sQ{keys:List (Option Expr)}{values:List Expr}{zD:List (aO×aO)}(h:vX X pos keys values zD)(hall:keys.all (·.isSome)=true:=by rfl)(hl:keys.length=values.length:=by rfl)(h0:keys≠[]:=by exact List.cons_ne_nil _ _)(Cq:keys.length<=15:=by decide)
  (ht:zD.length<=15:=by exact Hi rfl):a9 X (.Dict keys values pos) (j3 zD):=
 ⟨aK (pE h.ok hall hl h0 Cq) fun σ H Q ⟨σ3,S,Q3,E3,rσ,rS,hq,xo,k⟩=>fun p hp=>by
  have g0:Grow X.K H (upd H p (.dK [])):=.new hp
  refine gT (rσ.mono g0) (rS.new hp (o:=.dct []) ⟨[],ao,.nil⟩) (hq p (rS.free hp)) (xo.mono g0) fun ps S' vs H' hl' q rv y_ g=>?_
  obtain⟨e,q⟩:=q
  obtain⟨kv,hv,rk⟩:=y_ _ _ e
  cases rk
  refine⟨hv,?_⟩
  split at q
  ·rename_i kvs ek
   obtain⟨l,el,rl⟩:=iT rv ek
   refine⟨l,el,?_,k _ _ _ _ q (.ref p) (y_.put hv trivial ⟨_,ao,(yc.merge rl .nil).mono (.mut hv trivial)⟩) (g0.trans (g.trans (.mut hv trivial)))⟩
   have z1:∀{vs:List (V×V)} {ps:List (PV×PV)},iS X.K H' vs ps->vs.length=ps.length:=by
    intro vs ps r
    induction r with
    |nil=>rfl
    |cons _ _ _ ih=>rw[Fe,Fe,ih]
   have z2:=FI List.length el
   rw[E5,z1 rv,hl']at z2
   omega
  ·exact q.elim⟩
def lC(kvs:List (aN×Int))(te tf:aO):aO:=fun σ S Q E=>te σ S (fun y S2=>tf σ S2 (fun z S3=>match f8 y with|some k=>Q (((kvs.find? fun kv=>decide (kv.1=k)).map fun kv=>PV.int kv.2).getD z) S3|none=>False) E) E
def sR{x:Str}{px:Pos}{a:Addr}{kvs:List (aN×Int)}(hu:X.A.units+1 < cLine)(hg:Gl X x)(hm:X.mg x=some (.ref a))(hD:KD X.prog X.w X.K a (kvs.map fun kv=>(kv.1,V.int kv.2)))(he:a9 X e te)(hf:a9 X f tf)(m:M2 X (.Name x px) "get" apos e f cpos)
  (hd:(x == ("__debug__":Str))=false:=by decide):a9 X (.Call (.Attribute (.Name x px) "get" apos) [e,f] [] cpos) (lC kvs te tf):=
 ⟨aK (pK hu hg hm hD he.ok hf.ok m hd) fun σ H Q ⟨σ3,S,Q3,E3,rσ,rS,h,xo,k⟩=>⟨σ3,S,_,E3,rσ,rS,h,xo,fun y S2 y' H2 h2 ry zl g2=>⟨σ3,S2,_,E3,rσ.mono g2,zl,h2,xo.mono g2,fun z S3 z' H3 h3 rz Br g3=>by
  split at h3
  ·rename_i k' ek
   have e1:=cx (ry.mono g3) ek
   subst e1
   refine⟨_,rfl,k _ S3 _ H3 h3 ?_ Br (g2.trans g3)⟩
   have:∀l:List (aN×Int),Rep X.K H3 ((eh (l.map fun kv=>(kv.1,V.int kv.2)) k').getD z') (((l.find? fun kv=>decide (kv.1=k')).map fun kv=>PV.int kv.2).getD z):=by
    intro l
    induction l with
    |nil=>exact rz
    |cons q r ih=>
     rw[Fd,List.find?_cons]
     by_cases e:q.1=k'
     ·rw[yL e,G9 e];exact .int _
     ·rw[yM e,FP e];exact ih
   exact this kvs
  ·exact h3.elim⟩⟩⟩
def j4(te:aO):aO:=fun σ S Q E=>te σ S (fun x S1=>match x with
 | .ref a=>(match S1 a with|some (.lst xs)=>∀p,S1 p=none->Q (.ref p) (aR S1 p (.lst xs.reverse))|_=>False)
 |_=>False) E
def sT{p1 p2 q1 q2:Pos}(hs:starEach [e] X.env=[(false,eval e X.env)])(hc:X.calm=true)(he:a9 X e te)(Bo:Gl X "list")(hm1:X.mg "list" = none)(AW:Gl X "reversed")(hm2:X.mg "reversed" = none):a9 X (.Call (.Name "list" p1) [.Call (.Name "reversed" p2) [e] [] q2] [] q1) (j4 te):=
 ⟨aK (kK hc he.ok Bo hm1 AW hm2 hs rfl) fun σ H Q ⟨σ3,S,Q3,E3,rσ,rS,h,xo,k⟩=>⟨σ3,S,_,E3,rσ,rS,h,xo,fun x S1 v H1 h1 rx yi g1=>by
  split at h1
  ·cases rx
   split at h1
   ·rename_i ea
    obtain⟨vs,hv,rs⟩:=yi _ _ ea
    exact⟨_,_,rfl,SqL.of hv,fun q hq=>k _ _ _ _ (h1 q (yi.free hq)) (.ref q) (yi.new hq ⟨_,ao,rs.reverse.mono (.new hq)⟩) (g1.trans (.new hq))⟩
   ·exact h1.elim
  ·exact h1.elim⟩⟩
end
def ck:R3:=dh fun i j=>.int (i - j)
def d8:R3:=dB (fun _ j=>j≠0) fun i j=>.int (i.fmod j)
def eS:R3:=dB jW fun i j=>.int (i.fdiv j)
def nS:R3:=dB rK fun i j=>.int (i ^ j.toNat)
def nT:R3:=dh fun i j=>.bl (decide (i < j))
def mh:R3:=dh fun i j=>.bl (decide (j < i))
def vf:R3:=dh fun i j=>.bl (decide (j<=i))
section
variable {X:Cx}
def eU:fZ X (binaryOp .Sub) ck:=sE
def dG:fZ X (binaryOp .Mod) d8:=sF
def jr:fZ X (binaryOp .FloorDiv) eS:=pU
def vg:fZ X (binaryOp .Pow) nS:=sG
def mi:fZ X (compareOp .Lt) nT:=u4
def nU:fZ X (compareOp .Gt) mh:=u5
def wL:fZ X (compareOp .GtE) vf:=u6
end
def hu1{A:Around}{k:Nat}(hr:Room k A):A.units+1 < cLine:=by have:=hr.un;omega
def eV{A:Around}{k:Nat}(hr:Room k A):A.units+150 < cLine:=by have:=hr.un;omega
def iU{A:Around}{k:Nat}(hr:Room k A):A.units+160 < cLine:=by have:=hr.un;omega
structure vY (K:Vo) (mg:Vr) (x:Str) (st:Stmt) (ps:Vs) (f:Addr) (fd:FuncData):Prop where
 F:A4 K x x st f fd
 b:Binds K fd ps []
 k:PySem.W.keepIn K (.ref f)=true
 m:mg x=some (.ref f)
def Bs.zero{P:Program}{w:World}{K:Vo}{mg:Vr}{base:Heap}{k:Nat}{f:Addr}{fd:FuncData}{ps:Vs}{sp:aH}(h:sp=fun _ _ _ _=>False):Bs P w K mg base k f fd ps sp:=by
 subst h
 exact⟨⟨fun vs H Q E q=>q.1,fun A outer s H args us vs Q E _ _ _ _ ⟨_,_,_,_,_,_,_,q,_⟩=>q.elim⟩⟩
end L3
namespace L2
open PySem PySem.Spec PyProof.Rows
end L2
namespace HT
open PySem PySem.Spec PyProof.Rows
end HT
namespace L2
open PySem PySem.Spec PyProof.Rows
end L2
namespace L3
open PySem L2
end L3
namespace L2
open PySem PySem.Spec PyProof.Rows
section
variable {X:Cx}
noncomputable def qg:V->List V->Hp->VK->Prop:=fun x vs H Q=>∃(l:Addr) (xs:List V) (j:Nat) (y:V),x = .ref l/\vs=[.int j,y]/\H l=some (.lst xs)/\j<=xs.length/\xs.length < sizeLine/\Q .non (upd H l (.lst (xs.take j++y::xs.drop j)))
def mj:uN X "list.insert" qg:=by
 intro pins s σ H x vs v us Q I rx rv h
 obtain⟨l,xs,j,y,rfl,rfl,hH,hj,hz,q⟩:=h
 cases rx
 cases rv with
 |@cons _ u0 _ Ef r1 rr=>
  obtain⟨u,rfl,ru⟩:∃u,Ef=[u]/\RelV y u:=by
   cases rr with
   |@cons _ u _ us r2 r3=>cases r3;exact⟨u,rfl,r2⟩
  obtain⟨tk,rfl⟩:∃tk,u0 = .int (j:Int) tk:=r1
  obtain⟨z,its,n,r,hl,e⟩:=I.zO hH
  have hfit:¬(!Builtin.List.listFitsIndex (j:Int))=true:=by
   have:j < 2 ^ 62:=GY hj (E7 hz (by decide))
   simp[Builtin.List.listFitsIndex]
   omega
  have hs1:its.toArray.size<=sizeLine:=by rw[EZ];omega
  generalize hx:(j:Int)=x at hfit
  refine GO F.slot_list_insert ⟨_,e,rfl⟩ F.entry_list_insert (F.args_list_insert_3 _ _ _) (PySem.AutoSeq1.list_insert_list_int_val_1 l its.toArray n x tk u hfit hs1) ⟨e,?_⟩
  refine⟨.non,_,I.Az (its':=its.take j++u::its.drop j) hH e ?_ ((r.take j).append (.cons ru (r.drop j))) ?_,rfl,q⟩
  ·show((its.toArray.extract 0 (if x < 0 then (x+(its.toArray.size:Int)).toNat else min x.toNat its.toArray.size)).push u++its.toArray.extract (if x < 0 then (x+(its.toArray.size:Int)).toNat else min x.toNat its.toArray.size))=_
   have hl2:its.length=xs.length:=r.length.symm
   have ek:(if x < 0 then (x+(its.toArray.size:Int)).toNat else min x.toNat its.toArray.size)=j:=by
    rw[if_neg (by omega),<-hx,G5,EZ]
    omega
   rw[ek]
   apply Array.toList_inj.mp
   simp[List.extract_eq_take_drop]
   exact Hg (by rw[FE];exact E1 _)
  ·rw[E6,Fe,FD,FE]
   omega
end
end L2
namespace L3
open PySem L2
section
variable {X:Cx} {a b c:Expr} {ta tb tc:aO} {pos:Pos}
def d3:mD:=fun x ps S Q=>match x,ps with
 | .ref a,[.int i,y]=>(match S a with|some (.lst xs)=>0<=i/\i<=xs.length/\xs.length < sizeLine/\Q .non (aR S a (.lst (xs.take i.toNat++y::xs.drop i.toNat)))|_=>False)
 |_,_=>False
def nV:oQ X "list.insert" d3:=⟨fun pins s σ H x xs v us Q I rx rs ⟨px,ps,S,Q3,r1,rp,rS,q,k⟩=>by
 unfold d3 at q
 split at q
 ·rename_i i y
  split at q
  ·rename_i e
   cases r1
   cases rp with
   |cons b rr=>
    cases b
    cases rr with
    |cons b2 rr=>
     cases rr
     obtain⟨vs,hv,rl⟩:=rS _ _ e
     obtain⟨j,rfl⟩:=Ft q.1
     exact mj pins s σ H _ _ v us Q I rx rs ⟨_,_,j,_,rfl,rfl,hv,by rw[rl.length];have:=q.2.1;omega,by rw[rl.length];exact q.2.2.1,k _ _ _ _ q.2.2.2 .non (rS.put hv trivial ⟨_,ao,((rl.take j).append (.cons b2 (rl.drop j))).mono (.mut hv trivial)⟩) (.mut hv trivial)⟩
  ·exact q.elim
 ·exact q.elim⟩
end
end L3
namespace L2
open PySem PySem.Spec PyProof.Rows PySem.AutoSeq1
end L2
namespace L3
open PySem L2
end L3
namespace C
open PySem L2 L3
noncomputable def k_SIDES_FROM:List (aN×Int):=[(Sum.inr "then",1),(Sum.inr "either",1),(Sum.inr "take",3),(Sum.inr "often",1)]
def dH:bp:=(ah (aw 3 (a8 (aX (aS (v3 0) (fj (v3 1)) (fj (c3 (.int 63))))) (.n 0) di (ai gL [(v3 0),(aj ck (c3 (.int 0)) (v3 0))]) 1 []))
  (ah (aw 4 (aj aQ (c3 (.int 7919)) (v3 1)))
  (ah (dF (aX (v3 3)) (.n 2) (aw 4 (aj d8 (aj aQ (aj f_ (v3 4) (c3 (.int 48271))) (aj d8 (v3 2) (c3 (.int 2147483629)))) (c3 (.int 2147483647)))))
  (aJ (j3 [((c3 (.str "seed")),(v3 4)),((c3 (.str "number")),(c3 (.int 0))),((c3 (.str "left")),(j4 (a8 (aX (v3 3)) (.n 0) (a_ (aj vf (v3 0) (aj nS (c3 (.int 10)) (c3 (.int 18))))) (v3 0) 1 [])))])))))
def dI:bp:=(ah (gS (fy (a_ (aj (ce false) (aj al (v3 0) (c3 (.str "number"))) (c3 (.int 0)))) (a_ (aj mh (ai bx [(aj al (v3 0) (c3 (.str "left")))]) (c3 (.int 0))))) (jo (gq "list" ma (aj al (v3 0) (c3 (.str "left"))) []) (v3 0) (c3 (.str "number"))))
  (ah (aw 2 (aj al (v3 0) (c3 (.str "number"))))
  (ah (cC (a_ (aj mh (v3 2) (c3 (.int 0)))) (ah (jo (aj eS (v3 2) (v3 1)) (v3 0) (c3 (.str "number")))
  (aJ (aj d8 (v3 2) (v3 1)))) be)
  (ah (aw 3 (aj d8 (aj aQ (aj f_ (aj al (v3 0) (c3 (.str "seed"))) (c3 (.int 48271))) (c3 (.int 7919))) (c3 (.int 2147483647))))
  (ah (jo (aj d8 (aj aQ (aj f_ (v3 3) (c3 (.int 40692))) (c3 (.int 104729))) (c3 (.int 2147483399))) (v3 0) (c3 (.str "seed")))
  (ah (aw 4 (aj d8 (aj f_ (aj al (v3 0) (c3 (.str "seed"))) (aj al (v3 0) (c3 (.str "seed")))) (c3 (.int 2147483563))))
  (aJ (aj d8 (aj aQ (aj f_ (aj d8 (aj f_ (v3 3) (v3 3)) (c3 (.int 2147483629))) (c3 (.int 2147483563))) (v3 4)) (v3 1)))))))))
def ez:bp:=(ah (md 2 3 (ai gL [(v3 0),(aj ck (c3 (.int 0)) (v3 0))]) (v3 1))
  (ah (gS (a_ (aj mh (v3 3) (c3 (.int 0)))) (md 2 3 (v3 3) (aj d8 (v3 2) (v3 3))))
  (aJ (ay [(aj eS (v3 0) (v3 2)),(aj eS (v3 1) (v3 2))]))))
def cP(xW:aH):bp:=(ah (aw 2 (c3 (.str "abcdefghijklmnopqrstuvwxyz")))
  (ah (aw 3 (b8 [(c3 (.str "jars")),(c3 (.str "deed")),(c3 (.str "rest")),(c3 (.str "pay")),(c3 (.str "put")),(c3 (.str "then")),(c3 (.str "either")),(c3 (.str "take")),(c3 (.str "often")),(c3 (.str "use"))]))
  (ah (aw 5 (gq "str" iP (c3 (.str "")) [(a8 (gg (aa xW [(v3 0),(c3 (.int 6))])) (.n 0) di (aj al (v3 2) (aa xW [(v3 1),(c3 (.int 26))])) 1 [0,2])]))
  (ah (gN 6 7 8 (ay [(aa xW [(v3 0),(aj aQ (ai bx [(v3 5)]) (c3 (.int 1)))]),(aa xW [(v3 0),(c3 (.int 26))]),(aj (ce false) (aa xW [(v3 0),(c3 (.int 2))]) (c3 (.int 0)))]))
  (ah (aw 9 (b8 []))
  (ah (dF (gg (v3 1)) (.n 4) (ah (aw 10 (aj aQ (aj aQ (aS (v3 5) jX (fj (v3 6))) (aj al (v3 2) (aj d8 (aj aQ (v3 7) (v3 4)) (c3 (.int 26))))) (aS (v3 5) (fj (v3 6)) jX)))
  (ah (cC (nA (a_ (v3 8))) (aw 10 (gq "str" iP (c3 (.str "")) [(a8 (gg (aj aQ (c3 (.int 1)) (aa xW [(v3 0),(c3 (.int 6))]))) (.n 0) di (aj al (v3 2) (aa xW [(v3 1),(c3 (.int 26))])) 1 [0,2])])) be)
  (ah (gS (ku (a_ (aj (kR false) (v3 10) (v3 3))) (a_ (aj (kR false) (v3 10) (v3 9)))) (aw 10 (aj aQ (aj al (v3 2) (aj d8 (aj aQ (gq "str" fD (v3 2) [(aj al (v3 10) (c3 (.int 0)))]) (c3 (.int 1))) (c3 (.int 26)))) (aS (v3 10) (fj (c3 (.int 1))) jX))))
  (bW (gq "list" cM (v3 9) [(v3 10)]))))))
  (aJ (v3 9))))))))
def dJ(xW zd:aH):bp:=(ah (aw 1 (aa xW [(v3 0),(c3 (.int 4))]))
  (ah (cC (a_ (aj (ce false) (v3 1) (c3 (.int 0)))) (aJ (ay [(c3 (.int 0)),(c3 (.int 1))])) be)
  (ah (cC (a_ (aj nT (v3 1) (c3 (.int 3)))) (aJ (ay [(aj aQ (c3 (.int 1)) (aa xW [(v3 0),(c3 (.int 5))])),(c3 (.int 1))])) be)
  (aJ (aa zd [(aa xW [(v3 0),(c3 (.int 1000))]),(aj aQ (c3 (.int 1)) (aa xW [(v3 0),(c3 (.int 9))]))])))))
def dL(xW yX:aH):bp:=(ah (aw 2 (aa xW [(v3 0),(c3 (.int 7))]))
  (ah (cC (a_ (aj (ce false) (v3 2) (c3 (.int 0)))) (aJ (ay [(c3 (.str "rest"))])) be)
  (ah (cC (ku (a_ (aj nT (v3 2) (c3 (.int 4)))) (a_ (aj (ce false) (ai bx [(v3 1)]) (c3 (.int 0))))) (aJ (ay [(c3 (.str "pay")),(aa yX [(v3 0)])])) be)
  (ah (aw 3 (aj al (b8 [(c3 (.int 1)),(c3 (.int 2)),(aj aQ (c3 (.int 1)) (aa xW [(v3 0),(c3 (.int 9))]))]) (aa xW [(v3 0),(c3 (.int 3))])))
  (aJ (ay [(c3 (.str "put")),(aj al (v3 1) (aa xW [(v3 0),(ai bx [(v3 1)])])),(v3 3)]))))))
def dM(xW yz s0:aH):bp:=(ah (aw 4 (aa xW [(v3 0),(c3 (.int 12))]))
  (ah (cC (ku (a_ (aj (ce false) (v3 3) (c3 (.int 0)))) (ku (a_ (aj nT (aj al (v3 2) (c3 (.int 0))) (c3 (.int 2)))) (a_ (aj nT (v3 4) (c3 (.int 3)))))) (aJ (aa yz [(v3 0),(v3 1)])) be)
  (ah (cC (a_ (aj nT (v3 4) (c3 (.int 5)))) (ah (jo (aj ck (aj al (v3 2) (c3 (.int 0))) (c3 (.int 1))) (v3 2) (c3 (.int 0)))
  (aJ (ay [(c3 (.str "often")),(aa s0 [(v3 0),(v3 1),(v3 2),(aj ck (v3 3) (c3 (.int 1)))])]))) be)
  (ah (jo (aj ck (aj al (v3 2) (c3 (.int 0))) (c3 (.int 2))) (v3 2) (c3 (.int 0)))
  (ah (aw 5 (aa s0 [(v3 0),(v3 1),(v3 2),(aj ck (v3 3) (c3 (.int 1)))]))
  (ah (aw 6 (aa s0 [(v3 0),(v3 1),(v3 2),(aj ck (v3 3) (c3 (.int 1)))]))
  (ah (cC (a_ (aj nT (v3 4) (c3 (.int 8)))) (aJ (ay [(c3 (.str "then")),(v3 5),(v3 6)])) be)
  (ah (cC (ku (a_ (aj (ce false) (v3 4) (c3 (.int 8)))) (a_ (aj (ce false) (ai bx [(v3 1)]) (c3 (.int 0))))) (aJ (ay [(c3 (.str "either")),(v3 5),(v3 6)])) be)
  (ah (aw 7 (aj al (b8 [(c3 (.int 1)),(c3 (.int 1)),(c3 (.int 2)),(aj aQ (c3 (.int 1)) (aa xW [(v3 0),(c3 (.int 9))]))]) (aa xW [(v3 0),(c3 (.int 4))])))
  (aJ (ay [(c3 (.str "take")),(aj al (v3 1) (aa xW [(v3 0),(ai bx [(v3 1)])])),(v3 7),(v3 5),(v3 6)])))))))))))
def bA(s0:aH):bp:=(ah (cC (a_ (aj (ce false) (aj al (v3 0) (c3 (.int 0))) (c3 (.str "then")))) (aJ (aj f_ (aa s0 [(aj al (v3 0) (c3 (.int 1)))]) (aa s0 [(aj al (v3 0) (c3 (.int 2)))]))) be)
  (ah (cC (ku (a_ (aj (ce false) (aj al (v3 0) (c3 (.int 0))) (c3 (.str "either")))) (a_ (aj (ce false) (aj al (v3 0) (c3 (.int 0))) (c3 (.str "take"))))) (aJ (aj aQ (aa s0 [(aj al (v3 0) (qP jV (c3 (.int 2))))]) (aa s0 [(aj al (v3 0) (qP jV (c3 (.int 1))))]))) be)
  (aJ (c3 (.int 1)))))
def bt(ym s0:aH):bp:=(ah (cC (a_ (aj (ce false) (aj al (v3 0) (c3 (.int 0))) (c3 (.str "often")))) (aJ (aj aQ (aa ym [(aj al (v3 0) (c3 (.int 1)))]) (aa s0 [(aj al (v3 0) (c3 (.int 1)))]))) be)
  (ah (cC (a_ (aj (kR false) (aj al (v3 0) (c3 (.int 0))) (ay [(c3 (.str "then")),(c3 (.str "either")),(c3 (.str "take"))]))) (aJ (aj aQ (aa s0 [(aj al (v3 0) (qP jV (c3 (.int 2))))]) (aa s0 [(aj al (v3 0) (qP jV (c3 (.int 1))))]))) be)
  (aJ (c3 (.int 0)))))
def bJ(z5 ym ze yz:aH):bp:=(ah (aw 4 (aa z5 [(v3 0),(v3 1),(b8 [(aj ck (v3 2) (c3 (.int 1)))]),(c3 (.int 5))]))
  (ah (cC (a_ (aj mh (aj aQ (aa ym [(v3 4)]) (aa ze [(v3 4)])) (v3 3))) (aw 4 (ay [(c3 (.str "then")),(ay [(c3 (.str "often")),(aa yz [(v3 0),(v3 1)])]),(aa yz [(v3 0),(v3 1)])])) be)
  (aJ (v3 4))))
def eA:bp:=(aJ (aS (v3 0) (fj (lC C.k_SIDES_FROM (aj al (v3 0) (c3 (.int 0))) (ai bx [(v3 0)]))) jX))
end C
namespace Zu
open PySem Zt
open Sem (wp)
def nn{a b:Nat}(h:a≠b):@Ne Addr a b:=h
end Zu
namespace L2
open PySem PySem.Spec PyProof.Rows
end L2
namespace L3
open PySem L2
end L3
namespace L2
open PySem PySem.Spec PyProof.Rows
end L2
namespace L3
open PySem L2
end L3
namespace C
open PySem L2 L3
end C
namespace Zv
open PySem
open Sem (wp)
abbrev oS(h:Heap)(n:Nat)(f0 f1:Value):Prop:=h.get? (n+4:Nat)=some { cls:=.type "zip",dict:=none,data:=.fields #[f0,f1,.bool false,.ref (n+2:Nat),.ref (n+3:Nat)],slots:=#[] }
section
variable {prog:Program} {w:World} {A:Around} {E:Vq} {s:Shared} {n l1 l2:Nat} {i:Nat} {xs ys:Vw} {x y:Value} {T:Nat} {oT:Obj} {f1:Value}
def xL{M:Model}{a:Nat}{Q:Option Obj->Shared->Prop}(h:Q (s.heap.get? a) s):wpAny M A (loadIfAlive a) Q E s:=fun Γ p _=>h
def lD{Q:Bool->Shared->Prop}(gz:oS s.heap n (rawInt T) f1)(aT:s.heap.get? T=some oT)(hf:f1 = .bool false\/f1 = .bool true)
  (k:∀g,oS g n (rawInt T) (.bool true)->(∀c o,c≠n+4->s.heap.get? c=some o->g.get? c=some o)->g.objs.size=s.heap.objs.size->Q false { s with heap:=g }) :
  wpAny (model prog w) A (Builtin.SmallTypes.ownedTupleIsFree (.ref (n+4:Nat))) Q E s:=by
 unfold Builtin.SmallTypes.ownedTupleIsFree
 refine EX (GG gz rfl (x:=rawInt T) rfl ?_)
 show wpAny _ _ (loadIfAlive ((T:Int).toNat) >>= _) _ _ _
 refine EX (xL ?_)
 rw[G5,aT]
 show wpAny _ _ (field (.ref (n+4:Nat)) 1 >>= _) _ _ _
 refine EX (GG gz rfl (x:=f1) rfl ?_)
 rcases hf with rfl|rfl
 ·show wpAny _ _ (setField (.ref (n+4:Nat)) 1 (.bool true) >>= _) _ _ _
  exact EX (wpAny_setField_rec gz (by simp) fun g z1 q1=>E2 (k g z1 (fun c o c1 e=>q1.extBut _ _ c1 e) q1.1))
 ·show wpAny _ _ (pure false) _ _ _
  exact E2 (k s.heap gz (fun _ _ _ e=>e) rfl)
def xM{Q:Vq}(d1:l1 < n)(d2:l2 < n)(gz:oS s.heap n (rawInt T) f1)(gI:IsPair s.heap (n+2:Nat) (.ref n) (.ref (n+1:Nat)))(aT:s.heap.get? T=some oT)(hf:f1 = .bool false\/f1 = .bool true)
  (g1:s.heap.IsListIter n l1 i) (g2:s.heap.IsListIter (n+1:Nat) l2 i) (t1:s.heap.IsList l1 xs) (t2:s.heap.IsList l2 ys) (hx:xs[i]?=some x) (hy:ys[i]?=some y)
  (k:∀g,oS g n (rawInt T) (.bool true)->g.IsListIter n l1 (i+1)->g.IsListIter (n+1:Nat) l2 (i+1)->IsPair g s.heap.objs.size x y->g.objs.size=s.heap.objs.size+1->
   (∀c o,c≠n+4->c≠n->c≠n+1->s.heap.get? c=some o->g.get? c=some o)->Q (.ref s.heap.objs.size) { s with heap:=g }) :
  wpAny (model prog w) A (Builtin.«zip.__next__» ⟨[.ref (n+4:Nat)],[]⟩) (fun fin s'=>∃v,fin = .done (.ret v)/\Q v s') E s:=by
 show wpAny _ _ (field (.ref (n+4:Nat)) 2 >>= _) _ _ _;refine EX (GG gz rfl (x:=.bool false) rfl ?_)
 show wpAny _ _ (field (.ref (n+4:Nat)) 3 >>= _) _ _ _;refine EX (GG gz rfl (x:=.ref (n+2:Nat)) rfl (EX (Hf gI rfl ?_)))
 show wpAny _ _ (Builtin.SmallTypes.ownedTupleIsFree (.ref (n+4:Nat)) >>= _) _ _ _
 refine EX (lD gz aT hf fun h₁ z1 q1 A8=>?_)
 simp only[Fx,GB]
 simp only[<-Array.forIn_toList,Hx,List.forIn_nil]
 have CH:h₁.IsListIter n l1 i:=g1.at fun o e=>q1 _ o (by omega) e
 have Eg:h₁.IsListIter (n+1:Nat) l2 i:=g2.at fun o e=>q1 _ o (by omega) e
 have t1':h₁.IsList l1 xs:=t1.at fun o e=>q1 _ o (by omega) e
 have Eh:h₁.IsList l2 ys:=t2.at fun o e=>q1 _ o (by omega) e
 refine EX (EX (EX (FG ?_)))
 show wpAny _ _ (Builtin.SmallTypes.nextOf (.ref n) >>= _) _ _ _
 refine EX (wpAny_nextOf_list_item CH t1' hx fun h₂ n1 q2=>E2 ?_)
 have CI:h₂.IsListIter (n+1:Nat) l2 i:=Eg.extBut q2.extBut (Zu.nn (by omega))
 have CJ:h₂.IsList l2 ys:=Eh.extBut q2.extBut (Zu.nn (by omega))
 refine E2 ?_
 refine EX (EX (FG ?_))
 show wpAny _ _ (Builtin.SmallTypes.nextOf (.ref (n+1:Nat)) >>= _) _ _ _
 refine EX (wpAny_nextOf_list_item CI CJ hy fun h₃ n2 q3=>E2 ?_)
 refine E2 (E2 ?_)
 show wpAny _ _ (newTuple [x,y] >>= _) _ _ _
 refine EX (wpAny_newTuple (E2 ⟨_,rfl,?_⟩))
 have sz:h₃.objs.size=s.heap.objs.size:=by rw[q3.1,q2.1,A8]
 have kk:∀c o,c≠n+4->c≠n->c≠n+1->s.heap.get? c=some o->h₃.get? c=some o:=fun c o c1 c2 c3 e=>q3.extBut _ _ c3 (q2.extBut _ _ c2 (q1 c o c1 e))
 have z3:oS h₃ n (rawInt T) (.bool true):=q3.extBut _ _ (Zu.nn (by omega)) (q2.extBut _ _ (Zu.nn (by omega)) z1)
 have m1:h₃.IsListIter n l1 (i+1):=n1.extBut q3.extBut (Zu.nn (by omega))
 have T8:IsPair (h₃.push { cls:=.type "tuple",data:=.seq #[x,y] }) h₃.objs.size x y:=E8 _ rfl
 rw[sz]at T8
 show Q (.ref h₃.objs.size) _
 rw[sz]
 exact k _ (EY _ z3) (m1.at fun o e=>EY _ e) (n2.at fun o e=>EY _ e) T8 (by rw[HK,sz]) fun c o c1 c2 c3 e=>EY _ (kk c o c1 c2 c3 e)
def wM{Q:Fin->Shared->Prop}(hh:A.handled=none)(d1:l1 < n)(gz:oS s.heap n (rawInt T) f1)(gI:IsPair s.heap (n+2:Nat) (.ref n) (.ref (n+1:Nat)))(aT:s.heap.get? T=some oT)(hf:f1 = .bool false\/f1 = .bool true)
  (g1:s.heap.IsListIter n l1 i) (t1:s.heap.IsList l1 xs) (hx:xs[i]?=none)
  (k:∀(g:Heap) (e:Addr),(∀c o,c≠n+4->c≠n->s.heap.get? c=some o->g.get? c=some o)->(∃o,g.get? e=some o/\o.cls = .type "StopIteration")->E (.ref e) { s with heap:=g }) :
  wpAny (model prog w) A (Builtin.«zip.__next__» ⟨[.ref (n+4:Nat)],[]⟩) Q E s:=by
 show wpAny _ _ (field (.ref (n+4:Nat)) 2 >>= _) _ _ _;refine EX (GG gz rfl (x:=.bool false) rfl ?_)
 show wpAny _ _ (field (.ref (n+4:Nat)) 3 >>= _) _ _ _;refine EX (GG gz rfl (x:=.ref (n+2:Nat)) rfl (EX (Hf gI rfl ?_)))
 show wpAny _ _ (Builtin.SmallTypes.ownedTupleIsFree (.ref (n+4:Nat)) >>= _) _ _ _
 refine EX (lD gz aT hf fun h₁ z1 q1 A8=>?_)
 simp only[Fx,GB]
 simp only[<-Array.forIn_toList,Hx,List.forIn_nil]
 have CH:h₁.IsListIter n l1 i:=g1.at fun o e=>q1 _ o (by omega) e
 have t1':h₁.IsList l1 xs:=t1.at fun o e=>q1 _ o (by omega) e
 refine EX (EX (EX (FG ?_)))
 show wpAny _ _ (Builtin.SmallTypes.nextOf (.ref n) >>= _) _ _ _
 exact EX (wpAny_nextOf_list_end hh CH t1' hx fun h₂ e q2 he=>k h₂ e (fun c o c1 c2 u=>q2 _ _ c2 (q1 c o c1 u)) he)
def vh{Q:Option Value->Shared->Prop}(d1:l1 < n)(d2:l2 < n)(gz:oS s.heap n (rawInt T) f1)(gI:IsPair s.heap (n+2:Nat) (.ref n) (.ref (n+1:Nat)))(aT:s.heap.get? T=some oT)(hf:f1 = .bool false\/f1 = .bool true)
  (g1:s.heap.IsListIter n l1 i) (g2:s.heap.IsListIter (n+1:Nat) l2 i) (t1:s.heap.IsList l1 xs) (t2:s.heap.IsList l2 ys) (hx:xs[i]?=some x) (hy:ys[i]?=some y)
  (k:∀g,oS g n (rawInt T) (.bool true)->g.IsListIter n l1 (i+1)->g.IsListIter (n+1:Nat) l2 (i+1)->IsPair g s.heap.objs.size x y->g.objs.size=s.heap.objs.size+1->
   (∀c o,c≠n+4->c≠n->c≠n+1->s.heap.get? c=some o->g.get? c=some o)->Q (some (.ref s.heap.objs.size)) { s with heap:=g }) :
  wpAny (model prog w) A (pyNext (.ref (n+4:Nat))) Q E s:=by
 have ty:s.TypeIs (.ref (n+4:Nat)) "zip":=⟨_,gz,rfl⟩
 unfold pyNext
 exact EX (wpAny_attempt (GC (name:=Str.ofString "__next__") ty Hy (Hl Hy ty F.entry_zip_next
  (xM d1 d2 gz gI aT hf g1 g2 t1 t2 hx hy fun g a1 a2 a3 a4 a5 a6=>E2 (k g a1 a2 a3 a4 a5 a6)) (F.args_zip_next_1 _))))
def ml{Q:Option Value->Shared->Prop}(hh:A.handled=none)(d1:l1 < n)(gz:oS s.heap n (rawInt T) f1)(gI:IsPair s.heap (n+2:Nat) (.ref n) (.ref (n+1:Nat)))(aT:s.heap.get? T=some oT)(hf:f1 = .bool false\/f1 = .bool true)
  (g1:s.heap.IsListIter n l1 i) (t1:s.heap.IsList l1 xs) (hx:xs[i]?=none)
  (k:∀g:Heap,(∀c o,c≠n+4->c≠n->s.heap.get? c=some o->g.get? c=some o)->Q none { s with heap:=g }):wpAny (model prog w) A (pyNext (.ref (n+4:Nat))) Q E s:=by
 have ty:s.TypeIs (.ref (n+4:Nat)) "zip":=⟨_,gz,rfl⟩
 unfold pyNext
 refine EX (wpAny_attempt (GC (name:=Str.ofString "__next__") ty Hy (Hl Hy ty F.entry_zip_next (wM hh d1 gz gI aT hf g1 t1 hx fun g e kk ⟨o,ho,hc⟩=>?_) (F.args_zip_next_1 _))))
 exact EX (wpAny_isInstance (T:="StopIteration") (b:=true) ⟨o,ho,hc⟩ isSubtype_stop (E2 (k _ kk)))
end
noncomputable def cQ(n i:Nat):List Value:=(List.range i).map fun j=>Value.ref (n+6+j:Nat)
structure St (h:Heap) (n l1 l2:Nat) (xs ys:Vw) (i:Nat):Prop where
 sz:h.objs.size=n+6+i
 I:IsPair h (n+2:Nat) (.ref n) (.ref (n+1:Nat))
 z:∃f1,(f1 = .bool false\/f1 = .bool true)/\oS h n (rawInt (n+6:Nat)) f1
 g1:h.IsListIter n l1 i
 g2:h.IsListIter (n+1:Nat) l2 i
 t1:h.IsList l1 xs
 t2:h.IsList l2 ys
 S:∃c,h.get? (n+5:Nat)=some { cls:=.type "list",dict:=none,data:=.seq (cQ n i).toArray c,slots:=#[] }
 its:∀j x y,j < i->xs[j]?=some x->ys[j]?=some y->IsPair h (n+6+j:Nat) x y
def mn(n i:Nat):(cQ n i).toArray.push (.ref (n+6+i:Nat))=(cQ n (i+1)).toArray:=by
 unfold cQ
 rw[List.range_succ,Gj]
 simp
structure vZ (h:Heap) (n:Nat) (xs ys:Vw):Prop where
 sz:n+6+xs.size<=h.objs.size
 S:∃c,h.get? (n+5:Nat)=some { cls:=.type "list",dict:=none,data:=.seq (cQ n xs.size).toArray c,slots:=#[] }
 its:∀j x y,xs[j]?=some x->ys[j]?=some y->IsPair h (n+6+j:Nat) x y
section
variable {prog:Program} {w:World} {A:Around} {R:Result->Shared->Prop} {n l1 l2:Nat} {xs ys:Vw}
def loop(hh:A.in1.handled=none)(d1:l1 < n)(d2:l2 < n)(hxy:xs.size=ys.size)(hz:xs.size<=sizeLine)(res:Value) :
  ∀(k i:Nat) (s:Shared),xs.size - i=k->1<=i->i<=xs.size->St s.heap n l1 l2 xs ys i->
  (∀g,vZ g n xs ys->(∀b o,b < n->s.heap.get? b=some o->g.get? b=some o)->R (.ok (.ret res)) { s with heap:=g })->
  codeAny (model prog w) A (.builtin "list.extend.loop" ⟨[.ref (n+5:Nat),.ref (n+4:Nat),res],[]⟩) R s:=by
 intro k
 induction k with
 |zero=>
  intro i s hk hi hle st hR
  have hin:i=xs.size:=by omega
  subst hin
  refine FW HF ?_
  rw[Fw F8 _]
  show wpAny _ A.in1 (pyNext (.ref (n+4:Nat)) >>= _) _ _ s
  obtain⟨f1,hf,gz⟩:=st.z
  obtain⟨c,hS⟩:=st.S
  have h0:0 < xs.size:=by omega
  have aT:=st.its 0 (xs[0]'h0) (ys[0]'(by omega)) h0 (Fb h0) (Fb (by omega))
  have h1:xs.size - 1 < xs.size:=by omega
  have aL:=st.its (xs.size - 1) (xs[xs.size - 1]'h1) (ys[xs.size - 1]'(by omega)) h1 (Fb h1) (Fb (by omega))
  refine EX (ml hh d1 gz st.I aT hf st.g1 st.t1 (GH (E1 _)) fun g kk=>?_)
  refine E2 (hR g ⟨?_,⟨c,kk _ _ (by omega) (by omega) hS⟩,fun j x y hx hy=>kk _ _ (by omega) (by omega) (st.its j x y (Array.getElem?_eq_some_iff.mp hx).1 hx hy)⟩ fun b o hb e=>kk _ _ (by omega) (by omega) e)
  have h2:n+6+(xs.size - 1) < g.objs.size:=E4 (kk _ _ (by omega) (by omega) aL)
  omega
 |succ k ih=>
  intro i s hk hi hle st hR
  have hlt:i < xs.size:=by omega
  refine FW HF ?_
  rw[Fw F8 _]
  show wpAny _ A.in1 (pyNext (.ref (n+4:Nat)) >>= _) _ _ s
  obtain⟨f1,hf,gz⟩:=st.z
  obtain⟨c,hS⟩:=st.S
  have h0:0 < xs.size:=by omega
  have aT:=st.its 0 (xs[0]'h0) (ys[0]'(by omega)) (by omega) (Fb h0) (Fb (by omega))
  refine EX (vh d1 d2 gz st.I aT hf st.g1 st.g2 st.t1 st.t2 (x:=xs[i]) (y:=ys[i]'(by omega)) (Fb hlt) (Fb (by omega)) fun g z1 m1 m2 p1 A8 kk=>?_)
  have S1:=kk _ _ (by omega) (by omega) (by omega) hS
  have BN:s.heap.objs.size=n+6+i:=st.sz
  rw[BN]at p1 A8
  show wpAny _ A.in1 (updateSeq (n+5:Nat) (·.push (.ref s.heap.objs.size)) >>= _) _ _ _
  refine EX ?_
  rw[BN]
  have len:(cQ n i).toArray.size=i:=by unfold cQ;simp
  have yA:∀b o,b≠n+5->g.get? b=some o->(g.update (n+5:Nat) (Obj.mapSeq (·.push (.ref (n+6+i:Nat))))).get? b=some o:=fun b o hb e=>(FT _ _ (Gg hb)).trans e
  have S2:=Gb (Obj.mapSeq (·.push (Value.ref (n+6+i:Nat)))) S1 rfl
  refine GX S1 rfl (E2 ⟨Gh F8 _,ih (i+1) _ (by omega) (by omega) (by omega) ⟨?_,yA _ _ (by omega) (kk _ _ (by omega) (by omega) (by omega) st.I),⟨.bool true,.inr rfl,yA _ _ (by omega) z1⟩,m1.at fun o e=>yA _ _ (by omega) e,m2.at fun o e=>yA _ _ (by omega) e,(st.t1.at fun o e=>kk _ _ (by omega) (by omega) (by omega) e).at fun o e=>yA _ _ (by omega) e,(st.t2.at fun o e=>kk _ _ (by omega) (by omega) (by omega) e).at fun o e=>yA _ _ (by omega) e,?_,?_⟩ fun g' st' BO=>?_⟩) (by rw[len];omega) (by show((cQ n i).toArray.push _).size<=sizeLine+1;rw[Array.size_push,len];omega)
  ·show(g.update _ _).objs.size=_
   rw[Ho,A8]
   omega
  ·rw[<-mn]
   exact⟨_,S2⟩
  ·intro j x y hj hx hy
   by_cases e:j=i
   ·subst e
    rw[Fb hlt]at hx
    rw[Fb (by omega)]at hy
    cases hx;cases hy
    exact yA _ _ (by omega) p1
   ·exact yA _ _ (by omega) (kk _ _ (by omega) (by omega) (by omega) (st.its j x y (by omega) hx hy))
  ·exact hR g' st' fun b o hb e=>BO b o hb (yA _ _ (by omega) (kk _ _ (by omega) (by omega) (by omega) e))
def first(hh:A.in1.handled=none)(d1:l1 < n)(d2:l2 < n)(hxy:xs.size=ys.size)(h1:1<=xs.size)(hz:xs.size<=sizeLine)(res:Value)(s:Shared)(c:Nat)(sz:s.heap.objs.size=n+6)
  (gz:IsZip s.heap (n+4:Nat) (n+2:Nat) (n+3:Nat) .none) (gI:IsPair s.heap (n+2:Nat) (.ref n) (.ref (n+1:Nat))) (gO:IsPair s.heap (n+3:Nat) .none .none) (g1:s.heap.IsListIter n l1 0) (g2:s.heap.IsListIter (n+1:Nat) l2 0) (t1:s.heap.IsList l1 xs) (t2:s.heap.IsList l2 ys)
  (hS:s.heap.get? (n+5:Nat)=some { cls:=.type "list",dict:=none,data:=.seq #[] c,slots:=#[] })
  (hR:∀g,vZ g n xs ys->(∀b o,b < n->s.heap.get? b=some o->g.get? b=some o)->R (.ok (.ret res)) { s with heap:=g }) :
  codeAny (model prog w) A (.builtin "list.extend.loop" ⟨[.ref (n+5:Nat),.ref (n+4:Nat),res],[]⟩) R s:=by
 refine FW HF ?_
 rw[Fw F8 _]
 show wpAny _ A.in1 (pyNext (.ref (n+4:Nat)) >>= _) _ _ s
 have h0:0 < xs.size:=by omega
 refine EX (wpAny_pyNext_zip_item (PyProof.Rows.zipApart_new d1 d2) gz gI gO g1 g2 t1 t2 (x:=xs[0]'h0) (y:=ys[0]'(by omega)) (Fb h0) (Fb (by omega)) fun g z1 o1 m1 m2 p1 A8 kk=>?_)
 have S1:=kk _ _ (Zu.nn (by omega)) (Zu.nn (by omega)) (Zu.nn (by omega)) (Zu.nn (by omega)) hS
 rw[sz]at p1 A8 z1
 show wpAny _ A.in1 (updateSeq (n+5:Nat) (·.push (.ref s.heap.objs.size)) >>= _) _ _ _
 refine EX ?_
 rw[sz]
 have yA:∀b o,b≠n+5->g.get? b=some o->(g.update (n+5:Nat) (Obj.mapSeq (·.push (.ref (n+6:Nat))))).get? b=some o:=fun b o hb e=>(FT _ _ (Gg hb)).trans e
 have S2:=Gb (Obj.mapSeq (·.push (Value.ref (n+6:Nat)))) S1 rfl
 have kb:∀b o,b < n->s.heap.get? b=some o->(g.update (n+5:Nat) (Obj.mapSeq (·.push (.ref (n+6:Nat))))).get? b=some o:=fun b o hb e=>yA _ _ (by omega) (kk b o (Zu.nn (by omega)) (Zu.nn (by omega)) (Zu.nn (by omega)) (Zu.nn (by omega)) e)
 refine GX S1 rfl (E2 ⟨Gh F8 _,loop hh d1 d2 hxy hz res (xs.size - 1) 1 _ rfl (E1 _) h1 ⟨?_,yA _ _ (by omega) (kk _ _ (Zu.nn (by omega)) (Zu.nn (by omega)) (Zu.nn (by omega)) (Zu.nn (by omega)) gI),⟨.bool false,.inl rfl,yA _ _ (by omega) z1⟩,m1.at fun o e=>yA _ _ (by omega) e,m2.at fun o e=>yA _ _ (by omega) e,t1.at fun o e=>kb _ _ d1 e,t2.at fun o e=>kb _ _ d2 e,⟨_,S2⟩,?_⟩ fun g' st' BO=>?_⟩) (by show 0<=sizeLine;omega) (by show 1<=sizeLine+1;omega)
 ·show(g.update _ _).objs.size=_
  rw[Ho,A8]
 ·intro j x y hj hx hy
  have e:j=0:=by omega
  subst e
  rw[Fb h0]at hx
  rw[Fb (by omega)]at hy
  cases hx;cases hy
  exact yA _ _ (by omega) p1
 ·exact hR g' st' fun b o hb e=>BO b o hb (kb b o hb e)
end
def kW:typeLookup (.type "zip") "__len__" = pure none:=by rw[GJ,Ge];kernel_rfl
def j5:typeLookup (.type "zip") "__length_hint__" = pure none:=by rw[GJ,Ge];kernel_rfl
section
variable {prog:Program} {w:World} {A:Around} {E:Vq} {s:Shared} {n l1 l2:Nat} {xs ys:Vw}
def j6{Q:List Value->Shared->Prop}(hh:A.handled=none)(d1:l1 < n)(d2:l2 < n)(hxy:xs.size=ys.size)(h1:1<=xs.size)(hz:xs.size<=sizeLine)(sz:s.heap.objs.size=n+5)
  (gz:IsZip s.heap (n+4:Nat) (n+2:Nat) (n+3:Nat) .none) (gI:IsPair s.heap (n+2:Nat) (.ref n) (.ref (n+1:Nat))) (gO:IsPair s.heap (n+3:Nat) .none .none) (g1:s.heap.IsListIter n l1 0) (g2:s.heap.IsListIter (n+1:Nat) l2 0) (t1:s.heap.IsList l1 xs) (t2:s.heap.IsList l2 ys)
  (hQ:∀g,vZ g n xs ys->(∀b o,b < n->s.heap.get? b=some o->g.get? b=some o)->Q (cQ n xs.size) { s with heap:=g }):wpAny (model prog w) A (collect (.ref (n+4:Nat))) Q E s:=by
 unfold collect
 refine EX (wpAny_runValue (FW F.entry_proto_collect ?_))
 rw[Fw F.plain_proto_collect _]
 show wpAny _ A.in1 (newList [] >>= fun l=>again (.builtin "list.__iadd__" ⟨[l,.ref (n+4:Nat)],[]⟩)) _ _ s
 refine EX (F4 ?_)
 refine E2 ⟨Gh F.plain_list_iadd _,FW F.entry_list_iadd ?_⟩
 rw[Fw F.plain_list_iadd _]
 show wpAny _ A.in1 (Builtin.List.listExtendWith (.ref s.heap.objs.size) (.ref (n+4:Nat)) (.ref s.heap.objs.size)) _ _ _
 unfold Builtin.List.listExtendWith
 have p:∀{b:Nat} {o:Obj},s.heap.get? b=some o->(s.heap.push { cls:=.type "list",data:=.seq ([]:Vv).toArray }).get? b=some o:=fun e=>EY _ e
 have hT:Shared.TypeIs { s with heap:=s.heap.push { cls:=.type "list",data:=.seq ([]:Vv).toArray } } (.ref (n+4:Nat)) "zip":=⟨_,p gz,rfl⟩
 refine EX (Gm hT ?_)
 have e1:Builtin.List.listSameRef (.ref s.heap.objs.size) (.ref (n+4:Nat))=false:=by rw[sz];simp[Builtin.List.listSameRef]
 have e2:(Value.type "zip" == Value.type "list")=false:=by decide
 have e3:(Value.type "zip" == Value.type "tuple")=false:=by decide
 simp only[e1,e2,e3,Bool.or_false,Fx,GB]
 refine EX (wpAny_pyIter_zip (s:={ s with heap:=s.heap.push { cls:=.type "list",data:=.seq ([]:Vv).toArray } }) (p gz) ?_)
 refine EX (FG ?_)
 unfold Builtin.List.listLengthHint
 refine EX (Hv hT kW ?_)
 show wpAny _ A.in1 (specialOf (Value.ref (n+4:Nat)) (Str.ofString "__length_hint__") >>= _) _ _ _
 refine EX (Hv hT j5 ?_)
 refine E2 ?_
 show wpAny _ A.in1 (rule "list.extend.makes-room" >>= fun _=>Builtin.List.listTouch (.ref s.heap.objs.size) >>= fun _=>
  again (.builtin "list.extend.loop" ⟨[.ref s.heap.objs.size,.ref (n+4:Nat),.ref s.heap.objs.size],[]⟩)) _ _ _
 refine EX (Hj ?_)
 have Do:(s.heap.push { cls:=.type "list",data:=.seq ([]:Vv).toArray }).get? s.heap.objs.size=some { cls:=.type "list",data:=.seq ([]:Vv).toArray }:=E8 _ rfl
 refine EX ?_
 show wpAny _ A.in1 (updateSeq s.heap.objs.size (·.push .none) >>= fun _=>updateSeq s.heap.objs.size (·.pop)) _ _ _
 refine EX (GX Do rfl ?_)
 have B8:=Gb (Obj.mapSeq (·.push Value.none)) Do rfl
 refine GX B8 rfl ?_
 have CK:=Gb (Obj.mapSeq (·.pop)) B8 rfl
 have yA:∀b o,b≠s.heap.objs.size->(s.heap.push { cls:=.type "list",data:=.seq ([]:Vv).toArray }).get? b=some o->
   (((s.heap.push { cls:=.type "list",data:=.seq ([]:Vv).toArray }).update s.heap.objs.size (Obj.mapSeq (·.push Value.none))).update s.heap.objs.size (Obj.mapSeq (·.pop))).get? b=some o:=
  fun b o hb e=>(FT _ _ (Gg hb)).trans ((FT _ _ (Gg hb)).trans e)
 have q:∀{b:Nat} {o:Obj},s.heap.get? b=some o->(((s.heap.push { cls:=.type "list",data:=.seq ([]:Vv).toArray }).update s.heap.objs.size (Obj.mapSeq (·.push Value.none))).update s.heap.objs.size (Obj.mapSeq (·.pop))).get? b=some o:=
  fun{b o} e=>yA b o (E9 (E4 e)) (p e)
 have Dp:(((s.heap.push { cls:=.type "list",data:=.seq ([]:Vv).toArray }).update s.heap.objs.size (Obj.mapSeq (·.push Value.none))).update s.heap.objs.size (Obj.mapSeq (·.pop))).objs.size=n+6:=by
  rw[Ho,Ho,HK,sz]
 show wpAny _ A.in1 (again (.builtin "list.extend.loop" ⟨[.ref s.heap.objs.size,.ref (n+4:Nat),.ref s.heap.objs.size],[]⟩)) _ _ { s with heap:=(((s.heap.push { cls:=.type "list",data:=.seq ([]:Vv).toArray }).update s.heap.objs.size (Obj.mapSeq (·.push Value.none))).update s.heap.objs.size (Obj.mapSeq (·.pop))) }
 generalize (((s.heap.push { cls:=.type "list",data:=.seq ([]:Vv).toArray }).update s.heap.objs.size (Obj.mapSeq (·.push Value.none))).update s.heap.objs.size (Obj.mapSeq (·.pop)))=h2 at CK q Dp
 rw[sz]at CK ⊢
 refine E2 ⟨Gh F8 _,first (A:=A) hh d1 d2 hxy h1 hz _ _ _ Dp (q gz) (q gI) (q gO) (g1.at fun o e=>q e) (g2.at fun o e=>q e) (t1.at fun o e=>q e) (t2.at fun o e=>q e) CK fun g st kk=>?_⟩
 obtain⟨c,hS⟩:=st.S
 show wpAny _ A (load (n+5:Nat) >>= _) _ _ _
 refine EX (wpAny_load hS ?_)
 exact E2 (by simpa using hQ g st fun b o hb e=>kk b o hb (q e))
def kX{Q:Vq}(hh:A.handled=none)(d1:l1 < n)(d2:l2 < n)(hxy:xs.size=ys.size)(h1:1<=xs.size)(hz:xs.size<=sizeLine)(sz:s.heap.objs.size=n+5)
  (gz:IsZip s.heap (n+4:Nat) (n+2:Nat) (n+3:Nat) .none) (gI:IsPair s.heap (n+2:Nat) (.ref n) (.ref (n+1:Nat))) (gO:IsPair s.heap (n+3:Nat) .none .none) (g1:s.heap.IsListIter n l1 0) (g2:s.heap.IsListIter (n+1:Nat) l2 0) (t1:s.heap.IsList l1 xs) (t2:s.heap.IsList l2 ys)
  (hQ:∀g,vZ g n xs ys->(∀b o,b < n->s.heap.get? b=some o->g.get? b=some o)->Q (.ref g.objs.size) { s with heap:=g.push { cls:=.type "tuple",data:=.seq (cQ n xs.size).toArray } }):wpAny (model prog w) A (call (.type "tuple") [.ref (n+4:Nat)]) Q E s:=by
 have hT:s.TypeIs (.ref (n+4:Nat)) "zip":=⟨_,gz,rfl⟩
 refine HL (Q₁:=fun obj s₁=>s₁.TypeIs obj "tuple"/\Q obj s₁) F.called_tuple (F.typeCall_tuple_1 _) F.entry_object_init ?_ fun obj s₁ h₁=>
  ⟨h₁.1,F.args_object_init_2 obj _,object_init_meets F.called_tuple.init.lookup F.called_tuple.made (by decide) prog w A.in1 _ s₁ ⟨h₁.1,rfl,h₁.2⟩⟩
 refine codeAny_of_tree ?_
 show wpAny _ A.in1.in1 (do checkBuiltinCall "tuple.__new__" ⟨[.type "tuple",.ref (n+4:Nat)],[]⟩;again (.builtin "tuple.__new__" ⟨[.type "tuple",.ref (n+4:Nat)],[]⟩)) _ _ s
 refine EX (wpAny_of_eq (F.newCall_tuple_1 _) (E2 ⟨Gh F.plain_tuple_new _,FW F.entry_tuple_new ?_⟩))
 rw[Fw F.plain_tuple_new _]
 have hsub:=sub_tuple_self
 have Dq:=init_tuple_lookup
 have hmh:=madeHere_tuple
 wp_walk using Gm hT,j6 (A:=A.in1.in1) hh d1 d2 hxy h1 hz sz gz gI gO g1 g2 t1 t2
 intro g st kk
 show wpAny _ _ (Builtin.Tuple.tupleExact (cQ n xs.size).toArray >>= fun v=>ret v) _ _ _
 unfold Builtin.Tuple.tupleExact
 refine EX (F4 ?_ (by show(cQ n xs.size).toArray.size<=sizeLine;unfold cQ;simpa using hz))
 exact E2 ⟨⟨_,E8 _ rfl,rfl⟩,hQ g st kk⟩
end
end Zv
namespace L2
open PySem PySem.Spec PyProof.Rows
section
variable {X:Cx}
def yQ(K:Vo)(H:Hp)(r:Addr)(xs ys:List V):Prop:=∃ps:List Addr,yK K H r (ps.map V.ref)/\ps.length=xs.length/\∀(j:Nat) p x y,ps[j]?=some p->xs[j]?=some x->ys[j]?=some y->H p=some (.tup [x,y])
def vi(K:Vo)(ta:TA):TE:=fun σ H Q=>ta σ H fun vs H1=>∃a b xs ys,vs=[.ref a,.ref b]/\H1 a=some (.lst xs)/\H1 b=some (.lst ys)/\xs.length=ys.length/\1<=xs.length/\∀r H',(∀c o,H1 c=some o->H' c=some o)->yQ K H' r xs ys->Q (.ref r) H'
theorem fR{pins:Va}{σ:St}{H:Hp}{s0 s:Shared}{n:Nat}{xs ys:List V}{ix iy:Vv}(I0:Inv X pins σ H s0)(hn:s0.heap.objs.size=n)(I:Inv X pins σ H s)(rx:Vals xs ix)(ry:Vals ys iy)(hl:xs.length=ys.length)
  (hp:∀(j:Nat) u v,ix[j]?=some u->iy[j]?=some v->IsPair s.heap (n+6+j:Nat) u v):∀k,k<=xs.length->∃H',Inv X pins σ H' s/\(∀c o,H c=some o->H' c=some o)/\(∀(j:Nat) x y,j < k->xs[j]?=some x->ys[j]?=some y->H' (n+6+j:Nat)=some (.tup [x,y]))/\∀c:Nat,n+6+k<=c->H' c=none
 |0,_=>⟨H,I,fun _ _ h=>h,fun j x y h=>absurd h (Nat.not_lt_zero _),fun c hc=>I0.hok.fresh (show s0.heap.objs.size<=c by omega)⟩
 |k+1,hk=>by
  obtain⟨H',I',e',p',f'⟩:=fR I0 hn I rx ry hl hp k (by omega)
  have hkx:k < xs.length:=by omega
  have Dr:k < ys.length:=by omega
  obtain⟨u,hu,ru⟩:=rx.get (Fl hkx)
  obtain⟨v,hv,rv⟩:=ry.get (Fl Dr)
  have hD:H' (n+6+k:Nat)=none:=f' _ (E1 _)
  have fp:d5 X pins H' (n+6+k:Nat):=I0.zZ (show s0.heap.objs.size<=(n+6+k:Nat) by omega) hD
  have eT:yq s.heap (n+6+k:Nat) [u,v].toArray:=⟨_,hp k u v hu hv,rfl,rfl,_,rfl⟩
  refine⟨_,I'.AC fp eT (.cons ru (.cons rv .nil)) (by show 2<=sizeLine;decide),fun c o h=>?_,fun j x y hj hx hy=>?_,fun c hc=>?_⟩
  ·rw[ak (av (e' c o h) hD)];exact e' c o h
  ·by_cases e:j=k
   ·subst e
    rw[Fl hkx]at hx
    rw[Fl Dr]at hy
    cases hx;cases hy
    exact ao
   ·rw[ak (Zu.nn (by omega))];exact p' j x y (by omega) hx hy
  ·rw[ak (Zu.nn (by omega))];exact f' c (by omega)
def qh{a b:Expr}{ta:TA}{p1 p2 q1 q2:Pos}(hc:X.calm=true)(ha:PA X [a,b] ta)(Bo:Gl X "tuple")(hm1:X.mg "tuple" = none)(AW:Gl X "zip")(hm2:X.mg "zip" = none)
  (hs:starEach [a,b] X.env=[(false,eval a X.env),(false,eval b X.env)]) (Cb:starEach [b] X.env=[(false,eval b X.env)]) (hs2:starEach [.Call (.Name "zip" p2) [a,b] [] q2] X.env=[(false,eval (.Call (.Name "zip" p2) [a,b] [] q2) X.env)]:=by rfl) :
  PE X (.Call (.Name "tuple" p1) [.Call (.Name "zip" p2) [a,b] [] q2] [] q1) (vi X.K ta):=by
 intro pins s σ H Q I h
 refine F0 (dn I Bo hm1 (u:=.type "tuple") (by decide +kernel) ?_)
 refine FJ ?_ hs2 rfl
 rw[hs2]
 show wpAny _ _ (spliced ((false,eval (.Call (.Name "zip" p2) [a,b] [] q2) X.env)::backTo q1 [])) _ _ s
 refine Gr ?_
 refine F0 (dn I AW hm2 (u:=.type "zip") (by decide +kernel) ?_)
 refine FJ (xZ (ha q2 pins s σ H _ I h) fun us s1 ⟨vs,H1,I1,r1,q1⟩=>?_) (by rw[hs,Cb]) (by rw[Cb];rfl)
 obtain⟨a,b,xs,ys,e,qa,qb,hl,h1,q⟩:=q1
 subst e
 obtain⟨u,v,rfl,ru,rv⟩:=qI r1
 cases ru
 cases rv
 obtain⟨ia,ra,pa,za⟩:=I1.list (SqL.of qa)
 obtain⟨ib,rb,pb,zb⟩:=I1.list (SqL.of qb)
 have Ei:=ra.length
 have lrb:=rb.length
 have la:a < s1.heap.objs.size:=by obtain⟨o,e,_⟩:=pa.isList;exact E4 e
 have lb:b < s1.heap.objs.size:=by obtain⟨o,e,_⟩:=pb.isList;exact E4 e
 refine call_zip_2 pa.isList pb.isList fun g gz gI gO g1 g2 Ej kk=>?_
 refine GK ?_
 refine Zv.kX (s:={ s1 with heap:=g }) (n:=s1.heap.objs.size) (I.ok.hd hc) la lb (by rw[EZ,EZ];omega) (by rw[EZ];omega) (by rw[EZ,<-Ei];exact za) Ej gz gI gO g1 g2 (pa.isList.at fun o e=>kk _ _ e) (pb.isList.at fun o e=>kk _ _ e) fun g' st BO=>?_
 have key:∀c o,s1.heap.get? c=some o->(g'.push { cls:=.type "tuple",data:=.seq (Zv.cQ s1.heap.objs.size ia.toArray.size).toArray }).get? c=some o:=fun c o e=>EY _ (BO c o (E4 e) (kk c o e))
 have I2:Inv X pins σ H1 { s1 with heap:=g'.push { cls:=.type "tuple",data:=.seq (Zv.cQ s1.heap.objs.size ia.toArray.size).toArray } }:=I1.kept (t':=s1.toks) key
 obtain⟨H',I3,e3,p3,f3⟩:=fR I1 rfl I2 ra rb hl (fun j u v hu hv=>EY _ (st.its j u v (by simpa using hu) (by simpa using hv))) xs.length (E1 _)
 have sz:=st.sz
 have BN:ia.toArray.size=xs.length:=by rw[EZ];omega
 rw[BN]at sz
 have hD:H' g'.objs.size=none:=f3 _ sz
 have fp:d5 X pins H' g'.objs.size:=I1.zZ (Fc (by omega) sz) hD
 have ps:∀m:Nat,Vals (((List.range m).map fun j=>(s1.heap.objs.size+6+j:Nat)).map V.ref) (Zv.cQ s1.heap.objs.size m):=fun m=>by
  unfold Zv.cQ
  rw[F6]
  induction (List.range m)with
  |nil=>exact .nil
  |cons x r ih=>exact .cons rfl ih
 have eT:yq (g'.push { cls:=.type "tuple",data:=.seq (Zv.cQ s1.heap.objs.size ia.toArray.size).toArray }) g'.objs.size (Zv.cQ s1.heap.objs.size xs.length).toArray:=⟨_,E8 _ rfl,rfl,rfl,_,by rw[BN]⟩
 have I4:=I3.AC fp eT (ps xs.length) (by rw[E5,E5,HP];exact za)
 refine⟨.ref g'.objs.size,_,I4,rfl,q _ _ (fun c o z=>by rw[ak (av (e3 c o z) hD)];exact e3 c o z) ⟨_,yK.of ao,by rw[E5,HP],fun j p x y hp hx hy=>?_⟩⟩
 have hj:j < xs.length:=(Ga.mp hx).1
 rw[Fv,HE hj]at hp
 cases hp
 have z:=p3 j x y hj hx hy
 show upd H' g'.objs.size _ (s1.heap.objs.size+6+j:Nat)=_
 rw[ak (av z hD)]
 exact z
end
end L2
namespace L3
open PySem L2
section
variable {X:Cx} {a b:Expr} {ta tb:aO}
def nW(ta tb:aO):aO:=fun σ S Q E=>ta σ S (fun v S1=>tb σ S1 (fun w S2=>match v,w with
 | .ref a,.ref b=>(match S2 a,S2 b with|some (.lst xs),some (.lst ys)=>xs.length=ys.length/\1<=xs.length/\Q (.tup (en xs ys)) S2|_,_=>False)
 |_,_=>False) E) E
theorem lE{K:Vo}{H:Hp}:∀{vs:List V} {ps:List PV},vs.length=ps.length->(∀(j:Nat) v p,vs[j]?=some v->ps[j]?=some p->Rep K H v p)->Reps K H vs ps
 |[],[],_,_=>.nil
 |[],_::_,h,_=>by cases h
 |_::_,[],h,_=>by cases h
 |v::vs,p::ps,h,f=>.cons (f 0 v p rfl rfl) (lE (by simpa using h) fun j v' p' h1 h2=>f (j+1) v' p' (by simpa using h1) (by simpa using h2))
def sU{p1 p2 q1 q2:Pos}(hs:starEach [a,b] X.env=[(false,eval a X.env),(false,eval b X.env)])(Cb:starEach [b] X.env=[(false,eval b X.env)])(hc:X.calm=true)(Bo:Gl X "tuple")(hm1:X.mg "tuple" = none)(AW:Gl X "zip")(hm2:X.mg "zip" = none)(ha:iL X [a,b] [ta,tb]) :
  a9 X (.Call (.Name "tuple" p1) [.Call (.Name "zip" p2) [a,b] [] q2] [] q1) (nW ta tb):=
 ⟨aK (qh hc ha.ok Bo hm1 AW hm2 hs Cb) fun σ H Q ⟨σ3,S,Q3,E3,rσ,rS,h,xo,k⟩=>⟨σ3,S,_,E3,rσ,rS,h,xo,fun v S1 v' H1 h1 rv yi g1=>⟨σ3,S1,_,E3,rσ.mono g1,yi,h1,xo.mono g1,fun w S2 w' H2 h2 rw' zl g2=>by
  split at h2
  ·cases rv
   cases rw'
   split at h2
   ·rename_i ea eb
    obtain⟨vs,hv,rs⟩:=zl _ _ ea
    obtain⟨us,hu,rt⟩:=zl _ _ eb
    have l1:=rs.length
    have l2:=rt.length
    refine⟨_,_,vs,us,rfl,hv,hu,by omega,by omega,fun r H' hh ⟨ps,hr,hpl,hp⟩=>k _ S2 _ H' h2.2.2 (.tup hr (lE ?_ fun j v p hv' hp'=>?_)) (zl.grow hh) ((g1.trans g2).trans (.same hh))⟩
    ·rw[E5];unfold en;rw[E5,List.length_zip];omega
    ·unfold en at hp'
     rw[Fv]at hp' hv'
     cases hz:(_:List (PV×PV))[j]? with
     |none=>rw[hz]at hp';cases hp'
     |some z=>
      rw[hz]at hp'
      cases hp'
      obtain⟨e1,e2⟩:=List.getElem?_zip_eq_some.mp hz
      obtain⟨x,hx,rx⟩:=rs.get e1
      obtain⟨y,hy,ry⟩:=rt.get e2
      cases hq:ps[j]? with
      |none=>rw[hq]at hv';cases hv'
      |some q=>
       rw[hq]at hv'
       cases hv'
       exact .tup (yK.of (hp j q x y hq hx hy)) (.cons (rx.mono (.same hh)) (.cons (ry.mono (.same hh)) .nil))
   ·exact h2.elim
  ·exact h2.elim⟩⟩⟩
end
end L3
namespace L2
open PySem PySem.Spec PyProof.Rows
end L2
namespace L3
open PySem L2
end L3
namespace C
open PySem L2 L3
end C
namespace L3
open PySem L2 Xc
end L3
namespace L3
open PySem L2
end L3
namespace L2
open PySem PySem.Spec PyProof.Rows Xc
end L2
namespace L3
open PySem L2 Xc
section
variable {P:Program} {w:World} {K:Vo} {mg:Vr} {base:Heap}
structure bK (K:Vo) (mg:Vr) (x:Str) (st:Stmt) (ps:Vs):Prop where
 ex:∃f fd,vY K mg x st ps f fd
structure zi (P:Program) (w:World) (K:Vo) (mg:Vr) (base:Heap) (k:Nat) (x:Str) (n:Nat) (sp:aH):Prop where
 ex:∃f fd ps,ps.length=n/\Bs P w K mg base k f fd ps sp/\mg x=some (.ref f)/\PySem.W.keepIn K (.ref f)=true/\Binds K fd ps []
def ip{x:Str}{st:Stmt}{ps:Vs}{k n:Nat}{t:bp}{sp:aH}(N:Vs)(O:bK K mg x st ps)
  (hbody:∀(f:Addr) (cdv:Value) (A:Around) (outer:List Env) (s:Shared) (H:Hp) (E:XK),Room k (A.deeper (PyProof.Rows.envOfC x (az st) s.heap.objs.size f cdv))->N.Nodup->fx (vW P w K mg base N x st f cdv A outer s H E) (ba st) t) (e:sp=bC N.length t)
  (hn:ps.length=n:=by rfl) (S:cg N ps (az st):=by exact⟨rfl,rfl,rfl,by decide +kernel,rfl,by decide +kernel,by decide +kernel⟩):zi P w K mg base (k+1) x n sp:=by
 subst e
 obtain⟨f,fd,o⟩:=O.ex
 exact⟨f,fd,ps,hn,xk o.F S fun cdv A outer s H E hr=>hbody f cdv A outer s H E hr S.nd,o.m,o.k,o.b⟩
def xN{x:Str}{st:Stmt}{ps:Vs}{k:Nat}{t:bp}{sp:aH}{f:Addr}{fd:FuncData}(N:Vs)(o:vY K mg x st ps f fd)
  (hbody:∀(f:Addr) (cdv:Value) (A:Around) (outer:List Env) (s:Shared) (H:Hp) (E:XK),Room k (A.deeper (PyProof.Rows.envOfC x (az st) s.heap.objs.size f cdv))->N.Nodup->fx (vW P w K mg base N x st f cdv A outer s H E) (ba st) t) (e:sp=bC N.length t)
  (S:cg N ps (az st):=by exact⟨rfl,rfl,rfl,by decide +kernel,rfl,by decide +kernel,by decide +kernel⟩):Bs P w K mg base (k+1) f fd ps sp:=by
 subst e
 exact xk o.F S fun cdv A outer s H E hr=>hbody f cdv A outer s H E hr S.nd
def qi:aH:=fun _ _ _ _=>False
theorem zi.zero{x:Str}{st:Stmt}{ps:Vs}{k n:Nat}(O:bK K mg x st ps)(hn:ps.length=n:=by rfl):zi P w K mg base k x n qi:=by
 obtain⟨f,fd,o⟩:=O.ex
 exact⟨f,fd,ps,hn,.zero rfl,o.m,o.k,o.b⟩
theorem j7{b n:Nat}{x:Str}{st:Stmt}{ps:Vs}{r:Nat->aH}(O:bK K mg x st ps)(h:∀j,zi P w K mg base (b+j) x n (r j)->zi P w K mg base (b+j+1) x n (r (j+1)))(h0:r 0=qi)(hn:ps.length=n:=by rfl):∀j,zi P w K mg base (b+j) x n (r j)
 |0=>by rw[h0];exact .zero O hn
 |j+1=>h j (j7 O h h0 hn j)
end
section
variable {X:Cx} {a b e o:Expr} {es:List Expr} {ta tb te to:aO} {ts:List aO} {x c m f:Str} {p pos apos cpos:Pos} {j k n:Nat} {sp:aH}
def c4(O:zi X.prog X.w X.K X.mg X.base k x n sp)(hr:Room j X.A)(ha:iL X (e::es) ts)(hj:k<=j:=by omega)(hl:ts.length=n:=by rfl)(hg:Gl X x:=by rfl)(he:starEach (e::es) X.env=(false,eval e X.env)::starEach es X.env:=by rfl)(hdb:(x == ("__debug__":Str))=false:=by decide)(hpl:(backTo pos (starEach es X.env)).any (·.1)=false:=by rfl) :
  a9 X (.Call (.Name x p) (e::es) [] pos) (aa sp ts):=by
 obtain⟨f,fd,ps,hn,F,h1,h2,h3⟩:=O.ex
 exact sO F (hr.mono hj) hg h1 h2 h3 he ha (hl.trans hn.symm) hdb hpl
def cB{id:String}{r:kT}(hc:dD X (.builtin id) r)(hm:X.mg x=none)(ha:iL X (e::es) ts)(hg:Gl X x:=by rfl)(hv:bootBuiltins x=some (.builtin id):=by decide +kernel)(he:starEach (e::es) X.env=(false,eval e X.env)::starEach es X.env:=by rfl)
  (hnn:x ≠ "__name__":=by decide) (hdb:(x == ("__debug__":Str))=false:=by decide) (hpl:(backTo pos (starEach es X.env)).any (·.1)=false:=by rfl):a9 X (.Call (.Name x p) (e::es) [] pos) (ai r ts):=pZ hc hg hm hv he ha hnn hdb hpl
def cT{id:String}{r:kT}(hc:dD X (.type id) r)(hm:X.mg x=none)(ha:iL X (e::es) ts)(hg:Gl X x:=by rfl)(hv:bootBuiltins x=some (.type id):=by decide +kernel)(he:starEach (e::es) X.env=(false,eval e X.env)::starEach es X.env:=by rfl)
  (hnn:x ≠ "__name__":=by decide) (hdb:(x == ("__debug__":Str))=false:=by decide) (hpl:(backTo pos (starEach es X.env)).any (·.1)=false:=by rfl):a9 X (.Call (.Name x p) (e::es) [] pos) (ai r ts):=p4 hc hg hm hv he ha hnn hdb hpl
def lc{r:List Expr}(ha:a9 X a ta)(hr:iL X r ts)(hs:starEach (a::r) X.env=(false,eval a X.env)::starEach r X.env:=by rfl):iL X (a::r) (ta::ts):=nw hs ha hr
def l1(ha:a9 X a ta)(hs:starEach [a] X.env=(false,eval a X.env)::starEach [] X.env:=by rfl):iL X [a] [ta]:=nw hs ha iM
def bE{i:Int}{q:Nat}{p2:Pos}(hr:Room j X.A)(ha:a9 X a ta)(hs:gj (.Constant (.int i) q p2):=by exact fun _ _=>rfl):a9 X (.Subscript a (.Constant (.int i) q p2) pos) (aj al ta (c3 (.int i))):=u_ (xj (hu1 hr)) ha ad hs
def gU(hr:Room j X.A)(ha:a9 X a ta)(hb:a9 X b tb)(hs:gj b:=by exact fun _ _=>rfl):a9 X (.Subscript a b pos) (aj al ta tb):=u_ (xj (hu1 hr)) ha hb hs
def iq(hr:Room j X.A)(ha:a9 X a ta)(hb:a9 X b tb):kM X (.Compare a [.Eq] [b] pos) (a_ (aj (ce false) ta tb)):=bu (qQ (eV hr)) ha hb (br _)
def wN(hr:Room j X.A)(ha:a9 X a ta)(hb:a9 X b tb):kM X (.Compare a [.NotEq] [b] pos) (a_ (aj (ce true) ta tb)):=bu (u8 (eV hr)) ha hb (br _)
def s4(i:Nat){pos':Pos}(nd:X.N.Nodup)(he:a9 X e te)(hi:X.N[i]?=some x:=by rfl)(hx:oO X.env.scope x:=by first|exact Or.inl rfl|exact Or.inr rfl)(hs:swapsWith e (some (.Name x pos')) pos.line X.env=pure false:=by rfl)
  (hf:X.fn x=true\/X.env.scope.names.lookup x=some .local:=by first|exact .inl rfl|exact .inr rfl|assumption):kN X (.Assign [.Name x pos'] e pos) (aw i te):=vd nd hi hx he hs hf
def gn(i:Nat)(nd:X.N.Nodup)(hi:X.N[i]?=some x:=by rfl)(hx:oO X.env.scope x:=by first|exact Or.inl rfl|exact Or.inr rfl)(hf:X.fn x=true\/X.env.scope.names.lookup x=some .local:=by first|exact .inl rfl|exact .inr rfl|assumption):oR X (.Name x pos) (.n i):=xK i nd hi hx hf
def xO{px:Pos}{kvs:List (aN×Int)}{g:Expr}{tg:aO}(hr:Room j X.A)(hD:∃a,X.mg x=some (.ref a)/\KD X.prog X.w X.K a (kvs.map fun kv=>(kv.1,V.int kv.2)))(he:a9 X e te)(hf:a9 X g tg)(hg:Gl X x:=by rfl)(m:M2 X (.Name x px) "get" apos e g cpos:=by exact⟨rfl,rfl,rfl,rfl⟩)
  (hd:(x == ("__debug__":Str))=false:=by decide):a9 X (.Call (.Attribute (.Name x px) "get" apos) [e,g] [] cpos) (lC kvs te tg):=let ⟨_,h1,h2⟩:=hD;sR (hu1 hr) hg h1 h2 he hf m hd
end
structure qV (T:String) (name:Str) (id:String):Prop where
 pa:PlainAttrs T
 slot:Slot T name id
 ty:typeOf (.builtin id)=pure (.type "method_descriptor")
section
variable {X:Cx} {e o:Expr} {es:List Expr} {to:aO} {ts:List aO} {name:Str} {T id:String} {p pos apos cpos:Pos} {r:mD}
def mo:qV "list" "append" "list.append":=⟨GF,PySem.F.slot_list_append,PySem.F.type_list_append⟩
def iV:qV "list" "extend" "list.extend":=⟨GF,PySem.F.slot_list_extend,PySem.F.type_list_extend⟩
def mq:qV "list" "insert" "list.insert":=⟨GF,PySem.F.slot_list_insert,PySem.F.type_list_insert⟩
def sV:qV "list" "pop" "list.pop":=⟨GF,PySem.F.slot_list_pop,PySem.F.type_list_pop⟩
def lF:qV "str" "join" "str.join":=⟨PySem.F.plainAttrs_str,PySem.F.slot_str_join,PySem.F.type_str_join⟩
def nX:qV "str" "index" "str.index":=⟨PySem.F.plainAttrs_str,PySem.F.slot_str_index,PySem.F.type_str_index⟩
def sW(k:qV T name id)(hm:oQ X id r)(ho:a9 X o to)(ha:iL X (e::es) ts)(hs:starEach (e::es) X.env=(false,eval e X.env)::starEach es X.env:=by rfl)
  (hbase:attributeBase o name X.env (eval o X.env)=eval o X.env:=by rfl)
  (hfew:((backTo cpos (starEach (e::es) X.env)).all (fun x=>!x.1)&&(backToKw cpos (keywordEach [] X.env)).all (fun x=>x.1.isSome)
   && decide ((e::es).length+([]:List Keyword).length+(if ([]:List Keyword).isEmpty then 0 else 1) < 30))=true:=by rfl)
  (hline:(apos.endLine == cpos.line)=true:=by rfl) (hplain:(backTo cpos (starEach es X.env)).any (·.1)=false:=by rfl):a9 X (.Call (.Attribute o name apos) (e::es) [] cpos) (gq T r to ts):=wH k.pa k.slot k.ty hm hs ho ha hbase hfew hline hplain
def wO(k:qV T name id)(hm:oQ X id r)(ho:a9 X o to)
  (hbase:attributeBase o name X.env (eval o X.env)=eval o X.env:=by rfl) (hline:(apos.endLine == cpos.line)=true:=by rfl):a9 X (.Call (.Attribute o name apos) [] [] cpos) (gq T r to []):=vb k.pa k.slot k.ty hm ho hbase hline
end
section
variable {X:Cx} {tg iter elt:Expr} {ifs:List Expr} {scope:Scope} {pos:Pos} {ti:p_} {g:Tg} {tc:fw} {te:aO}
def oU(fs:Vs)(own:Nat)(fr:List Nat)(N:Vs)(hi:sK X tg iter ti)(hg:∀B,oR (X.y2 N scope fs B) tg g)(hf:∀B,tZ (X.y2 N scope fs B) ifs tc)(he:∀B,a9 (X.y2 N scope fs B) elt te)
  (AX:g.under own=true:=by rfl) (hc:X.calm=true:=by rfl) (hclos:closureFor scope X.env=pure (bH X.env fs):=by rfl) (hcell:∀y∈scope.names,y.2 ≠ .cell:=by decide +kernel) (hkind:scope.kind = .function:=by rfl)
  (hnames:∀x∈scope.names,x.2 = .local->scope.names.lookup x.1=some .local:=by decide +kernel) (hcl:bw X.env fs:=by repeat' first|exact trivial|exact⟨_,rfl⟩|constructor) (hhas:je (relabel scope X.env).names (bH X.env fs)=true:=by rfl)
  (hlen:N.length=own+fr.length:=by rfl) (hN:(N.drop own).map some=fr.map (fun j=>X.N[j]?):=by rfl) (hF:yr X.env scope (bH X.env fs) (N.drop own):=by repeat' first|exact trivial|exact .inl rfl|exact .inr rfl|exact rfl|apply And.intro)
  (hs:∀x,foldedSetIterable iter X.env x=pure x:=by intro _;rfl):a9 X (.ListComp elt [⟨tg,iter,ifs,0⟩] scope pos) (a8 ti g tc te own fr):=sM fs own fr N AX hc hclos hcell hkind hnames hcl hhas hlen hN hF hi hg hf he hs
def xm(fs:Vs)(own:Nat)(fr:List Nat)(N:Vs)(i:Nat){y:Str}{py spos:Pos}(hX:X.N.Nodup)(hi:sK X tg iter ti)(hg:∀B,oR (X.y2 N scope fs B) tg g)(hf:∀B,tZ (X.y2 N scope fs B) ifs tc)(he:∀B,a9 (X.y2 N scope fs B) elt te)
  (hix:X.N[i]?=some y:=by rfl) (hy:X.env.scope.names.lookup y=some .local:=by rfl) (hsw:swapsWith (.ListComp elt [⟨tg,iter,ifs,0⟩] scope pos) (some (.Name y py)) spos.line X.env=pure true:=by rfl)
  (AX:g.under own=true:=by rfl) (hc:X.calm=true:=by rfl) (hclos:closureFor scope X.env=pure (bH X.env fs):=by rfl) (hcell:∀y∈scope.names,y.2 ≠ .cell:=by decide +kernel) (hkind:scope.kind = .function:=by rfl)
  (hnames:∀x∈scope.names,x.2 = .local->scope.names.lookup x.1=some .local:=by decide +kernel) (hcl:bw X.env fs:=by repeat' first|exact trivial|exact⟨_,rfl⟩|constructor) (hhas:je (relabel scope X.env).names (bH X.env fs)=true:=by rfl)
  (hlen:N.length=own+fr.length:=by rfl) (hN:(N.drop own).map some=fr.map (fun j=>X.N[j]?):=by rfl) (hF:yr X.env scope (bH X.env fs) (N.drop own):=by repeat' first|exact trivial|exact .inl rfl|exact .inr rfl|exact rfl|apply And.intro)
  (hs:∀x,foldedSetIterable iter X.env x=pure x:=by intro _;rfl):kN X (.Assign [.Name y py] (.ListComp elt [⟨tg,iter,ifs,0⟩] scope pos) spos) (aw i (a8 ti g tc te own fr)):=sN fs own fr N hX hix hy hsw AX hc hclos hcell hkind hnames hcl hhas hlen hN hF hi hg hf he hs
end
section
variable {X:Cx} {e:Expr} {es:List Expr} {ts:List aO} {x:Str} {p pos cpos:Pos} {ks:Vs} {j:Nat}
def xn{n:String}(hm:X.mg x=none)(hg:Gl X x:=by rfl)(hv:bootBuiltins x=some (.type n):=by decide +kernel)(hn:x ≠ "__name__":=by decide)(hd:(x == ("__debug__":Str))=false:=by decide):a9 X (.Name x pos) (c3 (.ty n)):=wG hg hm hv hn hd
end
end L3
namespace L3
open PySem L2
end L3
namespace L2
open PySem PySem.Spec PyProof.Rows
end L2
namespace L3
open PySem L2
end L3
namespace CY
open PySem L2 L3
end CY
namespace PySem
open PyProof.Rows
namespace F
def bO:entryFor table "dict.update.loop" = some Builtin.«dict.update.loop»:=entryFor_of_tree (by kernel_rfl)
def aV:plainId "dict.update.loop" = true:=by decide +kernel
def kY:typeLookup (.type "list") "keys" = pure none:=by rw[GJ,Ge];kernel_rfl
end F
def qj{prog:Program}{w:World}{A:Around}{E:Vq}{s:Shared}{a:Addr}{o:Obj}{xs:Vw}{k:Nat}{Q:Option Value->Shared->Prop}
  (hx:s.heap.get? a=some o) (hc:o.cls = .type "list") (hdat:o.data = .seq xs k) (hd:o.dict=none) (hA:A.handled=none)
  (hQ:∀h' tk,(∀b ob,s.heap.get? b=some ob->h'.get? b=some ob)->Q none { s with heap:=h',toks:=tk }) :
  wpAny (model prog w) A (getAttr? (.ref a) "keys") Q E s:=by
 obtain⟨c,dct,dat,sl⟩:=o
 simp only at hc hdat hd
 subst hc hdat hd
 obtain⟨hp,g,d,tk,os⟩:=s
 have hT:∀tk',(⟨hp,g,d,tk',os⟩:Shared).TypeIs (.ref a) "list":=fun _=>⟨_,hx,rfl⟩
 have f1:=sub_AttributeError
 have f3:=GU.lookup
 have f4:=GU.bind (.ref a)
 have f5:=am_list_getattr_none
 unfold getAttr? getAttrBy? getAttrBy
 repeat (any_goals (first|assumption|exact hT _|((with_reducible show wpAny _ _ (call (Value.builtin "list.__getattribute__") _ _) _ _ _);refine GO GU (hT _) am_entry_list_getattribute (F.args_list_getattribute_2 _ _) (meets_getattribute_miss_list a xs k sl "keys" _ F.kY (by decide +kernel)) ⟨hx,hA,fun h' tk' e hx'=>?_⟩)|wp_step))
 obtain⟨t',u',he⟩:=hx'.there
 show wpAny _ _ (getattributeRaised _ _ _ _ _ _ _) _ _ _
 unfold getattributeRaised
 repeat (any_goals (first|assumption|wp_step))
 exact hQ _ _ hx'.keeps
section
variable {prog:Program} {w:World} {K:Type} [DecidableEq K] {knd:KeyKind prog w K} {A:Around} {E:Vq} {s:Shared}
def yQ(knd:KeyKind prog w K)(h:Heap)(it d:Addr)(items:Vw)(rs:List (K×Value)):Prop:=rs.length=items.size/\∀(j:Nat) (kv:K×Value),rs[j]?=some kv->∃t key,items[j]?=some (.ref t)/\IsTup h t #[key,kv.2]/\knd.is kv.1 key=true/\t≠it/\t≠d
def yQ.at{h h':Heap}{it d:Addr}{items:Vw}{rs:List (K×Value)}(x:yQ knd h it d items rs)(k:∀b o,b≠it->b≠d->h.get? b=some o->h'.get? b=some o):yQ knd h' it d items rs:=⟨x.1,fun j kv e=>by
 obtain⟨t,key,h1,⟨o,ho,r⟩,h3,h4,h5⟩:=x.2 j kv e
 exact⟨t,key,h1,⟨o,k t o h4 h5 ho,r⟩,h3,h4,h5⟩⟩
theorem lG{it l d:Addr}{items:Vw}{rs:List (K×Value)}(hh:A.handled=none)(hli:l≠it)(A9:l≠d)(hid:it≠d)(hz:items.size<=sizeLine):∀(m i:Nat) (s:Shared) (kvs:List (K×Value)) {R:Result->Shared->Prop},i+m=items.size->s.heap.IsListIter it l i->s.heap.IsList l items->yQ knd s.heap it d items rs->s.heap.DictOf knd d kvs->kvs.length<=i->
  (∀h' tk,h'.DictOf knd d (merged kvs (rs.drop i))->(∀b o,b≠it->b≠d->s.heap.get? b=some o->h'.get? b=some o)->R (.ok (.ret .none)) { s with heap:=h',toks:=tk })->
  codeAny (model prog w) A (.builtin "dict.update.loop" ⟨[.ref d,.ref it,rawInt i,.none],[]⟩) R s
 |0,i,s,kvs,R,hm,hit,hl,hp,hd,hk,hR=>by
  refine FW F.bO ?_
  rw[Fw F.aV _]
  unfold Builtin.«dict.update.loop»
  show wpAny _ A.in1 (pyNext (.ref it) >>= _) _ _ s
  refine EX (wpAny_pyNext_list_end hh hit hl (by rw[GH (by omega)]) fun h' he=>?_)
  dsimp only
  show wpAny _ _ (Builtin.Dict.addKeywords d [] >>= _) _ _ _
  have ed:rs.drop i=[]:=List.drop_of_length_le (by rw[hp.1];omega)
  refine EX (E2 (E2 (hR h' s.toks ?_ fun b o hb _ e=>he b o hb e)))
  rw[ed]
  obtain⟨o,es,ep,ho,r⟩:=hd
  exact⟨o,es,ep,he d o (Gg hid) ho,r⟩
 |m+1,i,s,kvs,R,hm,hit,hl,hp,hd,hk,hR=>by
  have hlt:i < items.size:=by omega
  refine FW F.bO ?_
  rw[Fw F.aV _]
  unfold Builtin.«dict.update.loop»
  show wpAny _ A.in1 (pyNext (.ref it) >>= _) _ _ s
  have BP:i < rs.length:=by rw[hp.1];exact hlt
  have er:=Fl BP
  have BQ:=List.drop_eq_getElem_cons BP
  generalize rs[i]=kv at er BQ
  obtain⟨t,key,e1,e2,e3,e4,e5⟩:=hp.2 i _ er
  refine EX (wpAny_pyNext_list_item hit hl e1 fun h1 Bt hs1=>?_)
  dsimp only
  refine EX (FG ?_)
  have t1:IsTup h1 t #[key,kv.2]:=let ⟨o,ho,r⟩:=e2;⟨o,(hs1.2 t e4).trans ho,r⟩
  have d1:h1.DictOf knd d kvs:=let ⟨o,es,ep,ho,r⟩:=hd;⟨o,es,ep,(hs1.2 d (Gg hid)).trans ho,r⟩
  refine EX (wpAny_tryCatch ?_)
  unfold Builtin.Dict.pairItems
  refine EX (Gm t1.typeIs ?_)
  rw[if_pos (by decide)]
  obtain⟨ot,AY,_,nt,hdt⟩:=t1
  refine EX (Hf AY hdt ?_)
  refine E2 ?_
  show wpAny _ _ (holding [key,kv.2] (dictSet d key kv.2)) _ _ _
  refine FG (wpAny_dictSet_pairs e3 d1 (fun h2 d2 hs2=>?_) (by omega))
  refine E2 ⟨Gh F.aV _,?_⟩
  have yA:∀b o,b≠it->b≠d->s.heap.get? b=some o->h2.get? b=some o:=fun b o hb hb2 e=>(hs2.2 b hb2).trans ((hs1.2 b hb).trans e)
  refine lG hh hli A9 hid hz m (i+1) _ _ (by omega) ?_ ?_ (hp.at yA) d2 (by have:=stored_length_le kvs kv.1 kv.2;omega) fun h' tk dd oo=>hR h' tk ?_ fun b o hb hb2 e=>oo b o hb hb2 (yA b o hb hb2 e)
  ·obtain⟨o,ho,r⟩:=Bt
   exact⟨o,(hs2.2 it hid).trans ho,r⟩
  ·obtain⟨o,ho,r⟩:=hl
   exact⟨o,yA l o hli A9 ho,r⟩
  ·rw[BQ]
   exact dd
def qk{l:Addr}{o:Obj}{items:Vw}{k:Nat}{rs:List (K×Value)}{Q:Vq}(hh:A.handled=none)(hx:s.heap.get? l=some o)(hc:o.cls = .type "list")(hdat:o.data = .seq items k)(hdn:o.dict=none)(hz:items.size<=sizeLine)
  (hp:rs.length=items.size/\∀(j:Nat) (kv:K×Value),rs[j]?=some kv->∃t key,items[j]?=some (.ref t)/\IsTup s.heap t #[key,kv.2]/\knd.is kv.1 key=true)
  (h:∀h' tk,h'.DictOf knd s.heap.objs.size (merged [] rs)->(∀b o,s.heap.get? b=some o->h'.get? b=some o)->Q (.ref s.heap.objs.size) { s with heap:=h',toks:=tk }) :
  wpAny (model prog w) A (call (.type "dict") [.ref l]) Q E s:=by
 refine HL (Q₁:=fun obj s₁=>obj = .ref s.heap.objs.size/\s₁={ s with heap:=s.heap.push { cls:=.type "dict",data:=.dict #[] } }) F.kt_called_dict (F.kt_typeCall_dict_1 _) F.entry_dict_init (kt_code_dict_new _ ⟨rfl,rfl⟩) ?_
 rintro obj s₁ ⟨rfl,rfl⟩
 have hnew:(s.heap.push { cls:=.type "dict",data:=.dict #[] }).DictOf knd s.heap.objs.size []:=Heap.DictOf.new s.heap
 have Ap:(s.heap.push { cls:=.type "dict",data:=.dict #[] }).get? l=some o:=EY _ hx
 have BR:l < s.heap.objs.size:=E4 hx
 refine⟨hnew.typeIs,F.args_dict_init_2 _ _,?_⟩
 unfold Builtin.«dict.__init__»
 refine EX ?_
 unfold Builtin.Dict.selfAndRest
 refine EX (wpAny_notOrdered_dict hnew.typeIs ?_)
 show wpAny _ _ (pure (s.heap.objs.size,[Value.ref l])) _ _ _
 refine E2 ?_
 show wpAny _ _ (Builtin.Dict.updateFrom "dict.__init__" s.heap.objs.size (.ref l) [] .none) _ _ _
 unfold Builtin.Dict.updateFrom
 refine EX (Gm (T:="list") ⟨o,Ap,hc⟩ ?_)
 rw[if_pos (by decide)]
 refine EX (qj (s:={ s with heap:=s.heap.push { cls:=.type "dict",data:=.dict #[] } }) Ap hc hdat hdn hh fun h1 CL AZ=>?_)
 show wpAny _ _ (if (Option.isNone none)=true then _ else _) _ _ _
 rw[if_pos (by decide)]
 refine EX (Hj ?_)
 have hl1:h1.IsList l items:=⟨o,AZ _ _ Ap,hc,k,hdat⟩
 refine EX (wpAny_pyIter_list (s:={ s with heap:=h1,toks:=CL }) hl1 ?_)
 have hs1:s.heap.objs.size < h1.objs.size:=by
  obtain⟨o2,_,_,ho2,_⟩:=hnew
  exact E4 (AZ _ _ ho2)
 have BS:∀b ob,s.heap.get? b=some ob->(h1.push { cls:=.type "list_iterator",data:=.fields #[.ref l,.int 0 0] }).get? b=some ob:=fun b ob e=>EY _ (AZ _ _ (EY _ e))
 refine E2 ⟨Gh F.aV _,?_⟩
 refine lG (A:=A.in1) (knd:=knd) (rs:=rs) (it:=h1.objs.size) hh (E9 (F5 BR hs1)) (E9 BR) (HG hs1) hz items.size 0 _ [] (by omega) ⟨_,E8 _ rfl,rfl,rfl⟩ (hl1.push _) ⟨hp.1,fun j kv e=>?_⟩ ?_ (E1 _) fun h' tk dd oo=>?_
 ·obtain⟨t,key,a1,⟨ot,AY,r⟩,a3⟩:=hp.2 j kv e
  have BU:=E4 AY
  exact⟨t,key,a1,⟨ot,BS _ _ AY,r⟩,a3,E9 (F5 BU hs1),E9 BU⟩
 ·obtain⟨o2,es,ep,ho2,r⟩:=hnew
  exact⟨o2,es,ep,EY _ (AZ _ _ ho2),r⟩
 ·rw[List.drop_zero]at dd
  exact⟨rfl,h h' tk dd fun b ob e=>oo b ob (E9 (F5 (E4 e) hs1)) (E9 (E4 e)) (BS b ob e)⟩
end
end PySem
namespace L2
open PySem PySem.Spec PyProof.Rows
section
variable {X:Cx}
theorem nY{pins:Va}{σ:St}{H:Hp}{s:Shared}(I:Inv X pins σ H s):∀{vs:List V} {its:Vv} {kvs:List (aN×V)},Vals vs its->vs.length=kvs.length->(∀(j:Nat) (v:V) (kv:aN×V),vs[j]?=some v->kvs[j]?=some kv->∃t,v = .ref t/\yK X.K H t [kV kv.1,kv.2])->
  ∃rs:List (aN×Value),KV kvs rs/\rs.length=its.length/\∀(j:Nat) (kv:aN×Value),rs[j]?=some kv->∃t key,its[j]?=some (.ref t)/\IsTup s.heap t #[key,kv.2]/\(aB X.prog X.w).is kv.1 key=true
 |[],_,[],.nil,_,_=>⟨[],.nil,rfl,fun j kv e=>by simp at e⟩
 |[],_,_::_,_,e,_=>by simp at e
 |_::_,_,[],_,e,_=>by simp at e
 |v::vs,u::its,kv::kvs,.cons r1 r2,e,h=>by
  obtain⟨rs,a,b,c⟩:=nY I r2 (by simpa using e) fun j v kv h1 h2=>h (j+1) v kv h1 h2
  obtain⟨t,rfl,ht⟩:=h 0 v kv rfl rfl
  cases r1
  obtain⟨its',rv,p,_⟩:=I.tuple ht
  cases rv with
  |cons q1 q2=>
   cases q2 with
   |cons q3 q4=>
    cases q4
    rename_i u1 u2
    refine⟨(kv.1,u2)::rs,.cons ⟨rfl,q3⟩ a,by simp[b],fun j kv' ej=>?_⟩
    cases j with
    |zero=>cases ej;exact⟨t,u1,rfl,p,gD q1⟩
    |succ j=>exact c j kv' ej
def kZ(hc:X.calm=true):d_ X (.type "dict") (fun xs H Q=>∃(p:Addr) (vs:List V) (kvs:List (aN×V)),xs=[.ref p]/\SqL X.K H p vs/\vs.length=kvs.length/\(∀(j:Nat) (v:V) (kv:aN×V),vs[j]?=some v->kvs[j]?=some kv->∃t,v = .ref t/\yK X.K H t [kV kv.1,kv.2])/\∀q,H q=none->Q (.ref q) (upd H q (.dK (bU [] kvs)))):=by
 intro pins s σ H xs us Q I r h
 obtain⟨p,vs,kvs,rfl,hp,hl,hk,q⟩:=h
 obtain⟨u,rfl,rx⟩:=fN r
 cases rx
 obtain⟨its,rv,⟨o,n,e,hcl,hdn,hdt⟩,hz⟩:=I.list hp
 obtain⟨rs,a,b,c⟩:=nY I rv hl hk
 have hvl:=rv.length
 refine qk (knd:=aB X.prog X.w) (rs:=rs) (items:=its.toArray) (I.ok.hd hc) e hcl hdt hdn (by rw[EZ,<-hvl];exact hz) ⟨by rw[b,EZ],fun j kv ej=>?_⟩ fun h' tk dd kp=>?_
 ·obtain⟨t,key,c1,c2,c3⟩:=c j kv ej
  exact⟨t,key,by simpa using c1,c2,c3⟩
 ·have dk:=gE (P:=X.prog) (w:=X.w) (H:=H) s.heap I.big
  have hm:(bU [] kvs).length<=sizeLine:=by
   have h1:=bN kvs []
   rw[GI]at h1
   omega
  exact⟨.ref _,_,I.laid (a:=s.heap.objs.size) (o:=.dK (bU [] kvs)) (h':=h') (t':=tk) kp (E1 _) ⟨hm,dk.2.1,_,a.merge .nil,dd⟩,rfl,q _ (I.hok.fresh (E1 _))⟩
end
end L2
namespace L3
open PySem PySem.Spec PyProof.Rows L2
section
variable {X:Cx}
noncomputable def cR:List PV->Option (List (aN×PV))
 |[]=>some []
 | .tup [x,y]::r=>match f8 x,cR r with|some k,some l=>some ((k,y)::l)|_,_=>none
 |_::_=>none
theorem eB{K:Vo}{H:Hp}:∀{vs:List V} {ps:List PV} {kvs:List (aN×PV)},Reps K H vs ps->cR ps=some kvs->∃ks:List (aN×V),vs.length=ks.length/\(∀(j:Nat) (v:V) (kv:aN×V),vs[j]?=some v->ks[j]?=some kv->∃t,v = .ref t/\yK K H t [kV kv.1,kv.2])/\yc K H ks kvs
 |_,_,_,.nil,h=>by cases h;exact⟨[],rfl,fun j v kv h1 _=>by simp at h1,.nil⟩
 |_,_,kvs,.cons (p:=p) a r,h=>by
  unfold cR at h
  split at h
  ·rename_i e;cases e
  ·rename_i x y r' e
   cases e
   split at h
   ·rename_i k l e1 e2
    cases h
    obtain⟨ks,h1,h2,h3⟩:=eB r e2
    cases a with
    |tup hq rs=>
     cases rs with
     |cons q1 q2=>
      cases q2 with
      |cons q3 q4=>
       cases q4
       obtain rfl:=cx q1 e1
       refine⟨(k,_)::ks,by simp[h1],fun j v kv g1 g2=>?_,.cons q3 h3⟩
       cases j with
       |zero=>cases g1;cases g2;exact⟨_,rfl,hq⟩
       |succ j=>exact h2 j v kv g1 g2
   ·cases h
  ·cases h
def jt:kT:=fun ps S Q=>match ps with
 |[.ref a]=>(match S a with|some (.lst xs)=>(match cR xs with|some kvs=>∀p,S p=none->Q (.ref p) (aR S p (.dct (cO [] kvs)))|none=>False)|_=>False)
 |_=>False
def qm(hc:X.calm=true):dD X (.type "dict") jt:=⟨fun pins s σ H xs us Q I r ⟨ps,S,Q3,rp,rS,q,k⟩=>by
 unfold jt at q
 split at q
 ·cases rp with
  |cons a rr=>
   cases rr;cases a
   split at q
   ·rename_i e
    split at q
    ·rename_i eb
     obtain⟨vs,hv,rs⟩:=rS _ _ e
     obtain⟨ks,h1,h2,h3⟩:=eB rs eb
     refine kZ hc pins s σ H _ us Q I r ⟨_,vs,ks,rfl,SqL.of hv,h1,h2,fun p hp=>k _ _ _ _ (q p (rS.free hp)) (.ref p) (rS.new hp ⟨_,ao,?_⟩) (.new hp)⟩
     exact(yc.merge h3 .nil).mono (.new hp)
    ·exact q.elim
   ·exact q.elim
 ·exact q.elim⟩
end
end L3
namespace L3
open PySem L2
theorem _root_.L2.A6.AN{X:Cx}{st:List Stmt}{u:tX}(h:A6 X.AN st u):A6 X st u:=fun s σ H Q I hq=>Gi (h s σ H Q (I.wish _) hq) (fun _ _ z=>z) fun e s' z=>z.elim
structure Aq (P:Program) (w:World) (K:Vo) (mg:Vr) (base:Heap) (k:Nat) (nd:CN) (n:Nat) (sp:aH):Prop where
 ok:nl P w K mg base oP k nd n (t4 K (n+1) sp)
noncomputable abbrev xP(P:Program)(w:World)(K:Vo)(mg:Vr)(base:Heap)(N:Vs)(nd:CN)(f:Addr)(cd:Value)(cc:Addr)(A:Around)(outer:List Env)(s:Shared)(H:Hp)(E:XK):Cx:=(l9 oP P w K mg base N nd f cd cc A outer s H E).AN
section
variable {P:Program} {w:World} {K:Vo} {mg:Vr} {base:Heap}
def xQ{nd:CN}{k n:Nat}{t:bp}{sp:aH}(N ps:Vs)
  (hbody:∀(f cc:Addr) (cd:Value) (A:Around) (outer:List Env) (s:Shared) (H:Hp) (E:XK),Room k (A.deeper (PySem.W.envX nd.qual nd.scope s.heap.objs.size f cd [(nd.cap,cc)]))->N.Nodup->fx (xP P w K mg base N nd f cd cc A outer s H E) nd.body t) (e:sp=bC N.length t)
  (hb:∀(cl:List (Str×Addr)) (doc pm cd ct:Value) (us:Vv),us.length=ps.length->bindArgs (PySem.W.fnX nd.name nd.qual nd.params nd.body nd.scope cl .none .none doc pm none cd ct) ⟨us,[]⟩=pure (ps.zip us))
  (hn:ps.length=n:=by rfl) (S:gJ N ps nd.cap nd.scope:=by exact⟨rfl,rfl,rfl,by decide +kernel,rfl,by decide +kernel,rfl,by decide +kernel,by decide +kernel⟩):Aq P w K mg base (k+1) nd n sp:=by
 subst e hn
 exact⟨sw S (fun vs H Q E h=>h.1) hb fun f cc cd A outer s H vs Q E hr ⟨hl,ps',S',Q3,E3,rv,rS,q,kk⟩=>⟨_,(hbody f cc cd A outer s H E hr S.nd).ok.AN,aA N.length ps',S',_,fG rv,rS,q,.no,fun σ3 S2 σ2 H2 h2 _ zl g2=>kk _ S2 _ H2 h2 .non zl g2,kk,fun _ _ _ _ h2=>h2.elim,fun _ _ _ _ h2=>h2.elim⟩⟩
theorem Aq.mono{j k n:Nat}{nd:CN}{sp:aH}(F:Aq P w K mg base j nd n sp)(h:j<=k):Aq P w K mg base k nd n sp:=⟨⟨F.ok.len,fun A outer s H f v us vs Q E hr=>F.ok.run A outer s H f v us vs Q E (hr.mono h)⟩⟩
end
section
variable {X:Cx} {e:Expr} {es:List Expr} {ts:List aO} {x:Str} {p pos:Pos} {k j n:Nat} {nd:CN} {sp:aH}
def nZ(i:Nat)(nd:CN)(sp:aH)(ts:List aO):aO:=fun σ S Q E=>∃c,lk σ i=some (.clo nd c)/\aq ts σ S (fun ps S1=>sp (ps++[c]) S1 Q E) E
def cV(i:Nat)(F:Aq X.prog X.w X.K X.mg X.base k nd n sp)(hr:Room j X.A)(ha:iL X (e::es) ts)(hj:k<=j:=by omega)(hl:ts.length=n:=by rfl)(hN:X.N[i]?=some x:=by rfl)(hv:ua X.env.scope x:=by first|exact Or.inl rfl|exact Or.inr (Or.inl rfl)|exact Or.inr (Or.inr rfl))
  (he:starEach (e::es) X.env=(false,eval e X.env)::starEach es X.env:=by rfl) (hdb:(x == ("__debug__":Str))=false:=by decide) (hcd:(x == ("__classdict__":Str))=false:=by decide) (hpl:(backTo pos (starEach es X.env)).any (·.1)=false:=by rfl) :
  a9 X (.Call (.Name x p) (e::es) [] pos) (nZ i nd sp ts):=
 ⟨aK (np (F.mono hj).ok hr qM (mH (i:=i) hN hv hdb hcd) ha.ok he hpl) fun σ H Q ⟨σ3,S,Q3,E3,rσ,rS,h,xo,kk⟩=>by
  obtain⟨c,hc,h⟩:=h
  obtain⟨v,ev,rv⟩:=rσ.at' i _ (ji hc)
  cases rv with
  |clo hF rc=>
   refine⟨_,ev,bI rσ rS h xo fun ps' S' vs H' hl' q BC y_ g=>⟨_,hF.mono g.x,?_⟩⟩
   exact⟨by rw[E6,BC.length,hl',hl];rfl,_,S',Q3,E3,BC.append (.cons (rc.mono g) .nil),y_,q,kk.mono g⟩⟩
end
def LF(X:Cx)(t:bp)(Q:VK)(σ:L2.St)(H:Hp):Prop:=∃σ3 S,∃D3:dv,D3.ex=eu/\RepSt X.K H σ σ3/\RepS X.K H S/\t D3 σ3 S/\Nxt X.K H D3.nx (fun _ H'=>Q .non H')/\Ret X.K H D3.rt Q/\Nxt X.K H D3.bk (fun _ _=>False)/\Nxt X.K H D3.ct (fun _ _=>False)
structure qo (X:Cx) (st:List Stmt) (t:bp):Prop where
 ok:A6 X st (LF X t)
section
variable {X:Cx} {st:Stmt} {rest:List Stmt} {t u:bp}
def wP{sts:List Stmt}(h:fx X sts t):qo X sts t:=
 ⟨fun s σ H Q I ⟨σ3,S,D3,hx,rσ,rS,h1,n,r,bk,ct⟩=>sy h.ok s σ H Q I ⟨σ3,S,D3,rσ,rS,h1,by rw[hx];exact .no,n,r,bk,ct⟩⟩
def vj(x:Str)(pos:Pos)(nd:CN)(i j:Nat):bp:=fun D σ S=>(∃a,S a=some (.tab x pos nd.qual))/\∃c,lk σ i=some c/\D.nx (σ.set j (some (.clo nd c))) S
structure sX (K:Vo) (mg:Vr) (base:Heap) (x:Str) (c P:Addr):Prop where
 Bf:K.In base
 glob:base.Ns mainGlobals mg
 tab:PySem.W.tabIn K x=some (c,P)
 hd:PySem.W.CodeHd base c P
 blt:base.BuiltinsAt mg P
def vk{nd:CN}{x:Str}{pos:Pos}{i j:Nat}{c P:Addr}(T:sX X.K X.mg X.base x c P)(hcode:X.env.code = .ref c)(hN:X.N.Nodup)(h2:qo (X.frz nd.cap) rest u)(hq:qualnameIn X.env nd.name nd.name=nd.qual:=by rfl)
  (hcl:(nd.scope.names.filter fun y=>y.2 == .free)=[(nd.cap,.free)]:=by rfl) (hfn:X.fn nd.cap=true:=by rfl) (hi:X.N[i]?=some nd.cap:=by rfl) (hk:X.env.scope.names.lookup nd.cap=some .cell:=by rfl)
  (hd0:nd.params.defaults=[]:=by rfl) (hk0:nd.params.kw_defaults=[]:=by rfl) (ha:annTrees nd.params none X.env=[]:=by rfl) (hj:X.N[j]?=some nd.name:=by rfl) (hx:oO X.env.scope nd.name:=by first|exact .inl rfl|exact .inr rfl)
  (Cz:(X.frz nd.cap).fn nd.name=true\/X.env.scope.names.lookup nd.name=some .local:=by first|exact .inl rfl|exact .inr rfl) :
  qo X (.FunctionDef nd.name nd.params nd.body [] none [] nd.scope none nd.name pos::rest) (ah (vj x pos nd i j) u):=
 ⟨fun s σ H Q I ⟨σ3,S,D3,hx',rσ,rS,h,n,r,bk,ct⟩=>by
  obtain⟨⟨a,ha'⟩,p,hp,h⟩:=h
  obtain⟨⟨c',e1⟩,tA⟩:=rS a _ ha'
  rw[T.tab]at e1
  cases e1
  obtain⟨v,ev,rv⟩:=rσ.at' i _ (ji hp)
  refine pP (i:=i) (j:=j) hcode T.hd T.blt hq hcl hfn hi hk hd0 hk0 ha hN hj hx Cz h2.ok s σ H Q I ⟨tA,v,ev,fun f H' hF hT hg=>?_⟩
  obtain⟨qs,hP,_⟩:=tA
  have g:Grow X.K H H':=.of (fun b xs e=>hg b _ (fun z=>by rw[z,hP]at e;cases e) e) fun b o y e=>hg b _ (fun z=>by rw[z,hP]at e;cases e) e
  refine⟨σ3.set j (some (.clo nd p)),S,D3,hx',(rσ.mono g).set (.clo hF (rv.mono g)) j,fun b o e=>?_,h,n.mono g,r.mono g,bk.mono g,ct.mono g⟩
  ·by_cases z:b=P
   ·subst z
    rw[ha']at e;cases e
    exact⟨⟨c,T.tab⟩,hT⟩
   ·obtain⟨y,hy,_⟩:=(rS b o e).some
    exact(rS b o e).stay g ((hg b y z hy).trans hy.symm)⟩
end
section
variable {P:Program} {w:World} {K:Vo} {mg:Vr} {base:Heap}
def wQ{x:Str}{st:Stmt}{ps:Vs}{k n:Nat}{t:bp}{sp:aH}{c Pt:Addr}(N:Vs)(O:bK K mg x st ps)(T:sX K mg base x c Pt)
  (hbody:∀(f:Addr) (A:Around) (outer:List Env) (s:Shared) (H:Hp) (E:XK),Room k (A.deeper (PyProof.Rows.envOfC x (az st) s.heap.objs.size f (.ref c)))->N.Nodup->qo (vW P w K mg base N x st f (.ref c) A outer s H E) (ba st) t) (e:sp=bC N.length t)
  (hn:ps.length=n:=by rfl) (S:cg N ps (az st):=by exact⟨rfl,rfl,rfl,by decide +kernel,rfl,by decide +kernel,by decide +kernel⟩):zi P w K mg base (k+1) x n sp:=by
 subst e
 obtain⟨f,fd,o⟩:=O.ex
 obtain⟨oc,od,kV,doc,pm,an,cdv,ct,osl,rfl,lk,hcd⟩:=o.F.ex
 have hc:cdv = .ref c:=PySem.W.law_code T.Bf T.glob T.tab o.m (T.Bf _ _ lk) rfl
 subst hc
 exact⟨f,_,ps,hn,⟨sA lk hcd S (fun vs H Q E h=>h.1) fun A outer s H vs Q E hr ⟨hl,ps',S',Q3,E3,rv,rS,q,kk⟩=>⟨_,(hbody f A outer s H E hr S.nd).ok.AN,aA N.length ps',S',_,rfl,fG rv,rS,q,fun σ3 S2 σ2 H2 h2 _ zl g2=>kk _ S2 _ H2 h2 .non zl g2,kk,fun _ _ _ _ h2=>h2.elim,fun _ _ _ _ h2=>h2.elim⟩⟩,o.m,o.k,o.b⟩
end
def vm{K:Vo}{H:Hp}{a c Pt:Addr}{ns:Vu}{sp:aH}{x q:Str}{pos:Pos}(hT:PySem.W.tabIn K x=some (c,Pt))(hO:ly Pt H)(hS:SqL K H a (ns.map V.int))(h:sp [.cl (ns.map PV.int)] (fun b=>if b=Pt then some (.tab x pos q) else none) (fun v _=>v = .bl true) eu):t4 K 1 sp [.ref a] H (fun v _=>v = .bl true) fun _ _ _=>False:=by
 have hr:∀l:List Int,Reps K H (l.map V.int) (l.map PV.int):=by
  intro l
  induction l with
  |nil=>exact .nil
  |cons x r ih=>exact .cons (.int x) ih
 refine⟨rfl,[.cl (ns.map PV.int)],_,_,eu,.cons (.cl (vs:=ns.map V.int) ?_ (hr ns)) .nil,(fun b o e=>?_),h,fun p S' v H' q rv rS g=>?_⟩
 ·rcases hS with(q|q)|q
  ·by_cases z:a=Pt
   ·rw[z,hO.1]at q;cases q
   ·rcases hO.2 a z with z|⟨o,xs,z⟩
    ·rw[z]at q;cases q
    ·rw[z]at q;cases q
  ·exact .inl q
  ·exact .inr q
 ·by_cases z:b=Pt
  ·have e':=(if_pos z).symm.trans e
   cases e'
   rw[z]
   exact⟨⟨c,hT⟩,.new hO.1⟩
  ·have e':=(if_neg z).symm.trans e
   cases e'
 ·subst q
  cases rv
  rfl
end L3
namespace PySem
open PyProof.Rows
namespace F
def k0:typeLookup (.type "tuple") "keys" = pure none:=by rw[GJ,Ge];kernel_rfl
end F
def qp{prog:Program}{w:World}{A:Around}{E:Vq}{s:Shared}{a:Addr}{o:Obj}{xs:Vw}{k:Nat}{Q:Option Value->Shared->Prop}
  (hx:s.heap.get? a=some o) (hc:o.cls = .type "tuple") (hdat:o.data = .seq xs k) (hd:o.dict=none) (hA:A.handled=none)
  (hQ:∀h' tk,(∀b ob,s.heap.get? b=some ob->h'.get? b=some ob)->Q none { s with heap:=h',toks:=tk }) :
  wpAny (model prog w) A (getAttr? (.ref a) "keys") Q E s:=by
 obtain⟨c,dct,dat,sl⟩:=o
 simp only at hc hdat hd
 subst hc hdat hd
 obtain⟨hp,g,d,tk,os⟩:=s
 have hT:∀tk',(⟨hp,g,d,tk',os⟩:Shared).TypeIs (.ref a) "tuple":=fun _=>⟨_,hx,rfl⟩
 have f1:=sub_AttributeError
 have f3:=GR.lookup
 have f4:=GR.bind (.ref a)
 have f5:=am_tuple_getattr_none
 unfold getAttr? getAttrBy? getAttrBy
 repeat (any_goals (first|assumption|exact hT _|((with_reducible show wpAny _ _ (call (Value.builtin "tuple.__getattribute__") _ _) _ _ _);refine GO GR (hT _) am_entry_tuple_getattribute (F.args_tuple_getattribute_2 _ _) (meets_getattribute_miss_tuple a xs k sl "keys" _ F.k0 (by decide +kernel)) ⟨hx,hA,fun h' tk' e hx'=>?_⟩)|wp_step))
 obtain⟨t',u',he⟩:=hx'.there
 show wpAny _ _ (getattributeRaised _ _ _ _ _ _ _) _ _ _
 unfold getattributeRaised
 repeat (any_goals (first|assumption|wp_step))
 exact hQ _ _ hx'.keeps
section
variable {prog:Program} {w:World} {K:Type} [DecidableEq K] {knd:KeyKind prog w K} {A:Around} {E:Vq} {s:Shared}
theorem lH{it l d:Addr}{items:Vw}{rs:List (K×Value)}(hh:A.handled=none)(hli:l≠it)(A9:l≠d)(hid:it≠d)(hz:items.size<=sizeLine):∀(m i:Nat) (s:Shared) (kvs:List (K×Value)) {R:Result->Shared->Prop},i+m=items.size->s.heap.IsTupleIter it l i->s.heap.IsTuple l items->yQ knd s.heap it d items rs->s.heap.DictOf knd d kvs->kvs.length<=i->
  (∀h' tk,h'.DictOf knd d (merged kvs (rs.drop i))->(∀b o,b≠it->b≠d->s.heap.get? b=some o->h'.get? b=some o)->R (.ok (.ret .none)) { s with heap:=h',toks:=tk })->
  codeAny (model prog w) A (.builtin "dict.update.loop" ⟨[.ref d,.ref it,rawInt i,.none],[]⟩) R s
 |0,i,s,kvs,R,hm,hit,hl,hp,hd,hk,hR=>by
  refine FW F.bO ?_
  rw[Fw F.aV _]
  unfold Builtin.«dict.update.loop»
  show wpAny _ A.in1 (pyNext (.ref it) >>= _) _ _ s
  refine EX (wpAny_pyNext_tuple_end hh hit hl (by rw[GH (by omega)]) fun h' he=>?_)
  dsimp only
  show wpAny _ _ (Builtin.Dict.addKeywords d [] >>= _) _ _ _
  have ed:rs.drop i=[]:=List.drop_of_length_le (by rw[hp.1];omega)
  refine EX (E2 (E2 (hR h' s.toks ?_ fun b o hb _ e=>he b o hb e)))
  rw[ed]
  obtain⟨o,es,ep,ho,r⟩:=hd
  exact⟨o,es,ep,he d o (Gg hid) ho,r⟩
 |m+1,i,s,kvs,R,hm,hit,hl,hp,hd,hk,hR=>by
  have hlt:i < items.size:=by omega
  refine FW F.bO ?_
  rw[Fw F.aV _]
  unfold Builtin.«dict.update.loop»
  show wpAny _ A.in1 (pyNext (.ref it) >>= _) _ _ s
  have BP:i < rs.length:=by rw[hp.1];exact hlt
  have er:=Fl BP
  have BQ:=List.drop_eq_getElem_cons BP
  generalize rs[i]=kv at er BQ
  obtain⟨t,key,e1,e2,e3,e4,e5⟩:=hp.2 i _ er
  refine EX (wpAny_pyNext_tuple_item hit hl e1 fun h1 Bt hs1=>?_)
  dsimp only
  refine EX (FG ?_)
  have t1:IsTup h1 t #[key,kv.2]:=let ⟨o,ho,r⟩:=e2;⟨o,(hs1.2 t e4).trans ho,r⟩
  have d1:h1.DictOf knd d kvs:=let ⟨o,es,ep,ho,r⟩:=hd;⟨o,es,ep,(hs1.2 d (Gg hid)).trans ho,r⟩
  refine EX (wpAny_tryCatch ?_)
  unfold Builtin.Dict.pairItems
  refine EX (Gm t1.typeIs ?_)
  rw[if_pos (by decide)]
  obtain⟨ot,AY,_,nt,hdt⟩:=t1
  refine EX (Hf AY hdt ?_)
  refine E2 ?_
  show wpAny _ _ (holding [key,kv.2] (dictSet d key kv.2)) _ _ _
  refine FG (wpAny_dictSet_pairs e3 d1 (fun h2 d2 hs2=>?_) (by omega))
  refine E2 ⟨Gh F.aV _,?_⟩
  have yA:∀b o,b≠it->b≠d->s.heap.get? b=some o->h2.get? b=some o:=fun b o hb hb2 e=>(hs2.2 b hb2).trans ((hs1.2 b hb).trans e)
  refine lH hh hli A9 hid hz m (i+1) _ _ (by omega) ?_ ?_ (hp.at yA) d2 (by have:=stored_length_le kvs kv.1 kv.2;omega) fun h' tk dd oo=>hR h' tk ?_ fun b o hb hb2 e=>oo b o hb hb2 (yA b o hb hb2 e)
  ·obtain⟨o,ho,r⟩:=Bt
   exact⟨o,(hs2.2 it hid).trans ho,r⟩
  ·obtain⟨o,ho,r⟩:=hl
   exact⟨o,yA l o hli A9 ho,r⟩
  ·rw[BQ]
   exact dd
def qq{l:Addr}{o:Obj}{items:Vw}{k:Nat}{rs:List (K×Value)}{Q:Vq}(hh:A.handled=none)(hx:s.heap.get? l=some o)(hc:o.cls = .type "tuple")(hdat:o.data = .seq items k)(hdn:o.dict=none)(hz:items.size<=sizeLine)
  (hp:rs.length=items.size/\∀(j:Nat) (kv:K×Value),rs[j]?=some kv->∃t key,items[j]?=some (.ref t)/\IsTup s.heap t #[key,kv.2]/\knd.is kv.1 key=true)
  (h:∀h' tk,h'.DictOf knd s.heap.objs.size (merged [] rs)->(∀b o,s.heap.get? b=some o->h'.get? b=some o)->Q (.ref s.heap.objs.size) { s with heap:=h',toks:=tk }) :
  wpAny (model prog w) A (call (.type "dict") [.ref l]) Q E s:=by
 refine HL (Q₁:=fun obj s₁=>obj = .ref s.heap.objs.size/\s₁={ s with heap:=s.heap.push { cls:=.type "dict",data:=.dict #[] } }) F.kt_called_dict (F.kt_typeCall_dict_1 _) F.entry_dict_init (kt_code_dict_new _ ⟨rfl,rfl⟩) ?_
 rintro obj s₁ ⟨rfl,rfl⟩
 have hnew:(s.heap.push { cls:=.type "dict",data:=.dict #[] }).DictOf knd s.heap.objs.size []:=Heap.DictOf.new s.heap
 have Ap:(s.heap.push { cls:=.type "dict",data:=.dict #[] }).get? l=some o:=EY _ hx
 have BR:l < s.heap.objs.size:=E4 hx
 refine⟨hnew.typeIs,F.args_dict_init_2 _ _,?_⟩
 unfold Builtin.«dict.__init__»
 refine EX ?_
 unfold Builtin.Dict.selfAndRest
 refine EX (wpAny_notOrdered_dict hnew.typeIs ?_)
 show wpAny _ _ (pure (s.heap.objs.size,[Value.ref l])) _ _ _
 refine E2 ?_
 show wpAny _ _ (Builtin.Dict.updateFrom "dict.__init__" s.heap.objs.size (.ref l) [] .none) _ _ _
 unfold Builtin.Dict.updateFrom
 refine EX (Gm (T:="tuple") ⟨o,Ap,hc⟩ ?_)
 rw[if_pos (by decide)]
 refine EX (qp (s:={ s with heap:=s.heap.push { cls:=.type "dict",data:=.dict #[] } }) Ap hc hdat hdn hh fun h1 CL AZ=>?_)
 show wpAny _ _ (if (Option.isNone none)=true then _ else _) _ _ _
 rw[if_pos (by decide)]
 refine EX (Hj ?_)
 have hl1:h1.IsTuple l items:=⟨o,AZ _ _ Ap,hc,k,hdat⟩
 refine EX (wpAny_pyIter_tuple (s:={ s with heap:=h1,toks:=CL }) hl1 ?_)
 have hs1:s.heap.objs.size < h1.objs.size:=by
  obtain⟨o2,_,_,ho2,_⟩:=hnew
  exact E4 (AZ _ _ ho2)
 have BS:∀b ob,s.heap.get? b=some ob->(h1.push { cls:=.type "tuple_iterator",data:=.fields #[.ref l,.int 0 0] }).get? b=some ob:=fun b ob e=>EY _ (AZ _ _ (EY _ e))
 refine E2 ⟨Gh F.aV _,?_⟩
 refine lH (A:=A.in1) (knd:=knd) (rs:=rs) (it:=h1.objs.size) hh (E9 (F5 BR hs1)) (E9 BR) (HG hs1) hz items.size 0 _ [] (by omega) ⟨_,E8 _ rfl,rfl,rfl⟩ (hl1.push _) ⟨hp.1,fun j kv e=>?_⟩ ?_ (E1 _) fun h' tk dd oo=>?_
 ·obtain⟨t,key,a1,⟨ot,AY,r⟩,a3⟩:=hp.2 j kv e
  have BU:=E4 AY
  exact⟨t,key,a1,⟨ot,BS _ _ AY,r⟩,a3,E9 (F5 BU hs1),E9 BU⟩
 ·obtain⟨o2,es,ep,ho2,r⟩:=hnew
  exact⟨o2,es,ep,EY _ (AZ _ _ ho2),r⟩
 ·rw[List.drop_zero]at dd
  exact⟨rfl,h h' tk dd fun b ob e=>oo b ob (E9 (F5 (E4 e) hs1)) (E9 (E4 e)) (BS b ob e)⟩
end
end PySem
namespace L2
open PySem PySem.Spec PyProof.Rows
section
variable {X:Cx}
def Inv.CM{pins:Va}{σ:St}{H:Hp}{s:Shared}{a:Addr}{xs:List V}(I:Inv X pins σ H s)(h:yK X.K H a xs):∃its:List Value,Vals xs its/\yq s.heap a its.toArray/\xs.length<=sizeLine:=by
 rcases h with(h|⟨o,h⟩)|⟨o,its,n,hk,hc,hd,hs,hz,r⟩
 ·obtain⟨z,its,r,p⟩:=I.hok a _ h
  exact⟨its,r,p,z⟩
 ·obtain⟨_,z,its,r,p⟩:=I.hok a _ h
  exact⟨its,r,p,z⟩
 ·exact⟨its.toList,r,⟨o,I.AM a o hk,hd,hc,n,by simpa using hs⟩,by rw[r.length];simpa using hz⟩
def k4(hc:X.calm=true):d_ X (.type "dict") (fun xs H Q=>∃(p:Addr) (vs:List V) (kvs:List (aN×V)),xs=[.ref p]/\yK X.K H p vs/\vs.length=kvs.length/\(∀(j:Nat) (v:V) (kv:aN×V),vs[j]?=some v->kvs[j]?=some kv->∃t,v = .ref t/\yK X.K H t [kV kv.1,kv.2])/\∀q,H q=none->Q (.ref q) (upd H q (.dK (bU [] kvs)))):=by
 intro pins s σ H xs us Q I r h
 obtain⟨p,vs,kvs,rfl,hp,hl,hk,q⟩:=h
 obtain⟨u,rfl,rx⟩:=fN r
 cases rx
 obtain⟨its,rv,⟨o,e,hdn,hcl,n,hdt⟩,hz⟩:=I.CM hp
 obtain⟨rs,a,b,c⟩:=nY I rv hl hk
 have hvl:=rv.length
 refine qq (knd:=aB X.prog X.w) (rs:=rs) (items:=its.toArray) (I.ok.hd hc) e hcl hdt hdn (by rw[EZ,<-hvl];exact hz) ⟨by rw[b,EZ],fun j kv ej=>?_⟩ fun h' tk dd kp=>?_
 ·obtain⟨t,key,c1,c2,c3⟩:=c j kv ej
  exact⟨t,key,by simpa using c1,c2,c3⟩
 ·have dk:=gE (P:=X.prog) (w:=X.w) (H:=H) s.heap I.big
  have hm:(bU [] kvs).length<=sizeLine:=by
   have h1:=bN kvs []
   rw[GI]at h1
   omega
  exact⟨.ref _,_,I.laid (a:=s.heap.objs.size) (o:=.dK (bU [] kvs)) (h':=h') (t':=tk) kp (E1 _) ⟨hm,dk.2.1,_,a.merge .nil,dd⟩,rfl,q _ (I.hok.fresh (E1 _))⟩
end
end L2
namespace L3
open PySem PySem.Spec PyProof.Rows L2
section
variable {X:Cx}
def gr:kT:=fun ps S Q=>match ps with
 |[.tup xs]=>(match cR xs with|some kvs=>∀p,S p=none->Q (.ref p) (aR S p (.dct (cO [] kvs)))|none=>False)
 |_=>False
def qr(hc:X.calm=true):dD X (.type "dict") gr:=⟨fun pins s σ H xs us Q I r ⟨ps,S,Q3,rp,rS,q,k⟩=>by
 unfold gr at q
 split at q
 ·cases rp with
  |cons a rr=>
   cases rr
   cases a with
   |tup hv rs=>
    split at q
    ·rename_i eb
     obtain⟨ks,h1,h2,h3⟩:=eB rs eb
     refine k4 hc pins s σ H _ us Q I r ⟨_,_,ks,rfl,hv,h1,h2,fun p hp=>k _ _ _ _ (q p (rS.free hp)) (.ref p) (rS.new hp ⟨_,ao,?_⟩) (.new hp)⟩
     exact(yc.merge h3 .nil).mono (.new hp)
    ·exact q.elim
 ·exact q.elim⟩
end
end L3
namespace L3
open PySem L2 Xc
def qW{P:List Value->Prop}(h:∀a,P [a])(us:Vv)(hl:us.length=1):P us:=match us,hl with|[_],_=>h _
def oV{P:List Value->Prop}(h:∀a b,P [a,b])(us:Vv)(hl:us.length=2):P us:=match us,hl with|[_,_],_=>h _ _
def wR{P:List Value->Prop}(h:∀a b c,P [a,b,c])(us:Vv)(hl:us.length=3):P us:=match us,hl with|[_,_,_],_=>h _ _ _
def xp{P:List Value->Prop}(h:∀a b c d,P [a,b,c,d])(us:Vv)(hl:us.length=4):P us:=match us,hl with|[_,_,_,_],_=>h _ _ _ _
def xR{P:List Value->Prop}(h:∀a b c d e,P [a,b,c,d,e])(us:Vv)(hl:us.length=5):P us:=match us,hl with|[_,_,_,_,_],_=>h _ _ _ _ _
section
variable {K:Vo} {h:Heap} {mg:Vr} {x c m q:Str} {st:Stmt} {ps fl:Vs}
noncomputable def qu:Option (Option Value)->Bool
 |some none=>true
 |_=>false
def qv{o:Option (Option Value)}(h:qu o=true):o=some none:=by
 unfold qu at h;split at h
 ·rfl
 ·cases h
def FnAt(K:Vo)(f:Addr)(m q:Str)(st:Stmt):Prop:=∃(oc kV doc pm cdv ct:Value) (od an:Option Addr) (osl:Array (Option Value)),
 K.lookup f=some ⟨oc,od,.func (PySem.W.fnOf m q (bX st) (ba st) (az st) .none kV doc pm an cdv ct),osl⟩/\PySem.W.codeIn K cdv q=true/\PySem.W.keepIn K (.ref f)=true
abbrev n6(m q:Str)(st:Stmt)(ps:Vs):Prop:=∀(kV doc pm:Value) (an:Option Addr) (cdv ct:Value) (us:Vv),us.length=ps.length->bindArgs (PySem.W.fnOf m q (bX st) (ba st) (az st) .none kV doc pm an cdv ct) ⟨us,[]⟩=pure (ps.zip us)
def FnAt.mk{f:Addr}(a:FnAt K f m q st)(hb:n6 m q st ps):∃fd,A4 K m q st f fd/\Binds K fd ps []/\PySem.W.keepIn K (.ref f)=true:=by
 obtain⟨oc,kV,doc,pm,cdv,ct,od,an,osl,l,cc,k⟩:=a
 exact⟨_,jc l cc k,(jc l cc k).binds hb,k⟩
def zq(K:Vo)(x:Str)(st:Stmt):Prop:=∃f,PySem.W.nsIn K mainGlobals x=some (some (.ref f))/\FnAt K f x x st
def zq.own(X:K.In h)(G:h.Ns mainGlobals mg)(a:zq K x st)(hb:n6 x x st ps):bK K mg x st ps:=by
 obtain⟨f,n,a⟩:=a
 obtain⟨fd,F,b,k⟩:=a.mk hb
 exact⟨f,fd,F,b,k,PySem.W.mg_of X G n⟩
def zq.law{fa:Addr}(X:K.In h)(G:h.Ns mainGlobals mg)(a:zq K x st)(hfa:mg x=some (.ref fa))(hb:n6 x x st ps):∃kV doc pm an cdv ct,vY K mg x st ps fa (PySem.W.fnOf x x (bX st) (ba st) (az st) .none kV doc pm an cdv ct):=by
 obtain⟨f,n,oc,kV,doc,pm,cdv,ct,od,an,osl,l,cc,k⟩:=a
 cases hfa.symm.trans (PySem.W.mg_of X G n)
 exact⟨kV,doc,pm,an,cdv,ct,jc l cc k,(jc l cc k).binds hb,k,hfa⟩
def Cc(P:Program)(w:World)(K:Vo)(x:Str)(kvs:List (aN×V)):Prop:=∃a o,PySem.W.nsIn K mainGlobals x=some (some (.ref a))/\K.lookup a=some o/\(a == sysModules)=false/\∃vs,KV kvs vs/\Obj.IsDictOf (aB P w) o vs
def Cc.kd{P:Program}{w:World}{kvs:List (aN×V)}(X:K.In h)(G:h.Ns mainGlobals mg)(a:Cc P w K x kvs):∃a,mg x=some (.ref a)/\KD P w K a kvs:=by
 obtain⟨a,o,n,l,s,vs,h1,h2⟩:=a
 exact⟨a,PySem.W.mg_of X G n,s,o,vs,l,h1,h2⟩
def gV(X:K.In h)(G:h.Ns mainGlobals mg){l:Vs}(a:(l.all fun x=>qu (PySem.W.nsIn K mainGlobals x))=true)(hx:x∈l:=by decide):mg x=none:=PySem.W.mg_none_of X G (qv (List.all_eq_true.mp a x hx))
section
variable {f C:Addr} {oc kV doc pm cdv ct:Value} {od an:Option Addr} {osl:Array (Option Value)}
def xS(n:PySem.W.nsIn K mainGlobals x=some (some (.ref f)))(l:K.lookup f=some ⟨oc,od,.func (PySem.W.fnOf x x (bX st) (ba st) (az st) .none kV doc pm an cdv ct),osl⟩)(cc:PySem.W.codeIn K cdv x=true)(k:PySem.W.keepIn K (.ref f)=true):zq K x st:=⟨f,n,oc,kV,doc,pm,cdv,ct,od,an,osl,l,cc,k⟩
def xT{P:Program}{w:World}{kvs:List (aN×V)}{o:Obj}(n:PySem.W.nsIn K mainGlobals x=some (some (.ref f)))(l:K.lookup f=some o)(s:(f == sysModules)=false)(v:∃vs,KV kvs vs/\Obj.IsDictOf (aB P w) o vs):Cc P w K x kvs:=⟨f,o,n,l,s,v⟩
end
end
end L3
namespace L3
open PySem L2
theorem j8:∀{a b:List Char},a.map Char.toNat=b.map Char.toNat->a=b
 |[],[],_=>rfl
 |[],_::_,h=>by simp at h
 |_::_,[],h=>by simp at h
 |x::a,y::b,h=>by
  simp only[Fd,List.cons.injEq]at h
  rw[j8 h.2,Char.toNat_inj.mp h.1]
def aM{a b:String}:(Str.ofString a=Str.ofString b)↔a=b:=by
 refine⟨fun h=>?_,fun h=>by rw[h]⟩
 rw[Str.ofString_eq_toList,Str.ofString_eq_toList]at h
 have h':a.toList.map Char.toNat=b.toList.map Char.toNat:=by
  have:=FI (fun s:Str=>s.cps.toList) h
  simpa using this
 exact String.toList_inj.mp (j8 h')
def sS{a b:String}:((Sum.inr (Str.ofString a):aN)=Sum.inr (Str.ofString b))↔a=b:=by
 rw[Sum.inr.injEq,aM]
def sY{i j:Int}(h1:-(2 ^ 64) < i)(h2:i < 2 ^ 64):IntMulOk i j:=(show AT i j from .inl ⟨h1,h2⟩).ok
def qw{i j:Int}(h1:-(2 ^ 64) < j)(h2:j < 2 ^ 64):IntMulOk i j:=(show AT i j from .inr ⟨h1,h2⟩).ok
def eW{i j:Int}(h:0<=j):i.fmod j=i % j:=Int.fmod_eq_emod_of_nonneg i h
def vn{i j:Int}(h:0<=j):i.fdiv j=i / j:=Int.fdiv_eq_ediv_of_nonneg i h
def wS{i j:Int}(h:0 < j)(h2:j < 2 ^ 64):jW i j:=⟨by omega,F5 (show j.natAbs < 2 ^ 64 by omega) (Ht (by decide) (by decide))⟩
def yk(d l:Addr)(S S':ap):Prop:=∀a o,S a=some o->a≠d->a≠l->S' a=some o
def yk.refl{d l:Addr}{S:ap}:yk d l S S:=fun _ _ h _ _=>h
def yk.trans{d l:Addr}{S S1 S2:ap}(a:yk d l S S1)(b:yk d l S1 S2):yk d l S S2:=fun x o h h1 h2=>b x o (a x o h h1 h2) h1 h2
def yk.upd{d l:Addr}{S:ap}{o:SO}:yk d l S (aR S d o):=fun x u h h1 h2=>by rw[am h1];exact h
def yk.Ek{d l:Addr}{S:ap}{o:SO}:yk d l S (aR S l o):=fun x u h h1 h2=>by rw[am h2];exact h
def yk.new{d l p:Addr}{S:ap}{o:SO}(h:S p=none):yk d l S (aR S p o):=fun x u hx h1 h2=>by rw[am (fun e=>by rw[e,h]at hx;cases hx)];exact hx
end L3
local macro_rules | `(tactic| walk_at "x")=>`(tactic| ((try dsimp only [L3.ah,L3.aw,L3.aJ,L3.bW,L3.cC,L3.be,L3.aj,L3.v3,L3.c3,L3.lk,L3.aq,L3.ai,L3.aa,L3.gq,L3.a_,L3.fy,L3.ku,L3.nA,L3.nE,L3.jo,L3.md,L3.gN,L3.ay,L3.b8,L3.qP,L3.jV,L3.al,L3.f8,L3.aS,L3.jX,L3.fj,L3.fA,L3.dh,L3.dB,L3.ck,L3.d8,L3.eS,L3.nS,L3.nT,L3.mh,L3.vf,L3.ce,L3.aQ,L3.f_,L3.bx,L3.gL,L3.aU,L3.fz,List.set_cons_zero,List.set_cons_succ,List.set_nil,L3.p6,L3.fE,L3.ma,L3.a8,L3.aX,L3.bS,L3.dF,L3.fF,L3.Tg.put,L3.Tg.yP,L3.me,L3.j3,L3.fH,L3.j4,L3.gg,L3.cM,L3.bz,List.reduceReplicate,List.map_cons,List.map_nil,List.cons_append,List.nil_append]); (try simp only [L3.ah,L3.aw,L3.aJ,L3.bW,L3.cC,L3.be,L3.aj,L3.v3,L3.c3,L3.lk,L3.aq,L3.ai,L3.aa,L3.gq,L3.a_,L3.fy,L3.ku,L3.nA,L3.nE,L3.jo,L3.md,L3.gN,L3.ay,L3.b8,L3.qP,L3.jV,L3.al,L3.f8,L3.aS,L3.jX,L3.fj,L3.fA,L3.dh,L3.dB,L3.ck,L3.d8,L3.eS,L3.nS,L3.nT,L3.mh,L3.vf,L3.ce,L3.aQ,L3.f_,L3.bx,L3.gL,L3.aU,L3.fz,List.set_cons_zero,List.set_cons_succ,List.set_nil,L3.p6,L3.fE,L3.ma,L3.a8,L3.aX,L3.bS,L3.dF,L3.fF,L3.Tg.put,L3.Tg.yP,L3.me,L3.j3,L3.fH,L3.j4,L3.gg,L3.cM,L3.bz,List.reduceReplicate,Fd,Gn,List.cons_append,List.nil_append])))
namespace C
open PySem L2 L3
noncomputable def bh(seed number:Int)(l:Addr):List (aN×PV):=[(Sum.inr "seed",.int seed),(Sum.inr "number",.int number),(Sum.inr "left",.ref l)]
structure zu (S:ap) (d l:Addr) (seed number:Int) (left:Vu):Prop where
 d:S d=some (.dct (bh seed number l))
 l:S l=some (.lst (left.map PV.int))
 s0:0<=seed
 s1:seed < 2147483647
 nm:0<=number
 lf:∀x∈left,0<=x
 ln:left.length<=100
def x_(S:ap)(d l:Addr):Prop:=∃seed number left,zu S d l seed number left
def zu.ne{S:ap}{d l:Addr}{seed number:Int}{left:Vu}(D:zu S d l seed number left):d≠l:=fun e=>by
 have h:=D.d
 rw[e,D.l]at h
 cases h
def x_.new{S:ap}{d l p:Addr}{o:SO}(D:x_ S d l)(h:S p=none):x_ (aR S p o) d l:=by
 obtain⟨s,n,f,D⟩:=D
 refine⟨s,n,f,?_,?_,D.s0,D.s1,D.nm,D.lf,D.ln⟩
 ·rw[am (fun e=>by have:=D.d;rw[e,h]at this;cases this)];exact D.d
 ·rw[am (fun e=>by have:=D.l;rw[e,h]at this;cases this)];exact D.l
def x_.upd{S:ap}{d l p:Addr}{o:SO}(D:x_ S d l)(h1:p≠d)(h2:p≠l):x_ (aR S p o) d l:=by
 obtain⟨s,n,f,D⟩:=D
 exact⟨s,n,f,by rw[am h1.symm];exact D.d,by rw[am h2.symm];exact D.l,D.s0,D.s1,D.nm,D.lf,D.ln⟩
def x_.free{S:ap}{d l p:Addr}(D:x_ S d l)(h:S p=none):p≠d/\p≠l:=by
 obtain⟨s,n,f,D⟩:=D
 exact⟨(fun e=>by have:=D.d;rw[<-e,h]at this;cases this),(fun e=>by have:=D.l;rw[<-e,h]at this;cases this)⟩
def gW(s n m:Int)(l:Addr):gQ (bh s n l) (Sum.inr "number") (.int m)=bh s m l:=by
 simp[gQ,bh,sS,aM]
def n9(s n m:Int)(l:Addr):gQ (bh s n l) (Sum.inr "seed") (.int m)=bh m n l:=by
 simp[gQ,bh,sS,aM]
def sZ(s n:Int)(l:Addr):f9 (bh s n l) (Sum.inr "seed")=some (.int s):=by simp[f9,bh,sS,aM]
def n_(s n:Int)(l:Addr):f9 (bh s n l) (Sum.inr "number")=some (.int n):=by simp[f9,bh,sS,aM]
def s9(s n:Int)(l:Addr):f9 (bh s n l) (Sum.inr "left")=some (.ref l):=by simp[f9,bh,sS,aM]
abbrev bf(w:aH):Prop:=∀{S:ap} {d l:Addr} {m:Int} {Q:bY} {E:de},x_ S d l->0 < m->m < 2 ^ 62->(∀r S',0<=r->r < m->x_ S' d l->yk d l S S'->Q (.int r) S')->w [.ref d,.int m] S Q E
def xX:bf (bC 5 dI):=by
  intro S d l m Q E D h0 h1 k
  obtain⟨seed,number,left,D⟩:=D
  have hne:=D.ne
  have hsz:∀a b,(bh a b l).length < sizeLine:=fun _ _=>cE (by show 3<=1000;decide)
  have fin:∀num Al S1,zu S1 d l seed num Al->yk d l S S1->¬(num=0/\0 < Al.length)->
      (if 0 < num then jW num m/\(bh seed num l).length < sizeLine/\m≠0/\Q (PV.int (num.fmod m)) (aR S1 d (SO.dct (bh seed (num.fdiv m) l)))
       else IntMulOk seed 48271/\(2147483647:Int)≠0/\IntMulOk ((seed * 48271+7919).fmod 2147483647) 40692/\(2147483399:Int)≠0/\(bh seed num l).length < sizeLine/\
        IntMulOk (((seed * 48271+7919).fmod 2147483647 * 40692+104729).fmod 2147483399) (((seed * 48271+7919).fmod 2147483647 * 40692+104729).fmod 2147483399)/\(2147483563:Int)≠0/\
        IntMulOk ((seed * 48271+7919).fmod 2147483647) ((seed * 48271+7919).fmod 2147483647)/\(2147483629:Int)≠0/\
        IntMulOk (((seed * 48271+7919).fmod 2147483647 * (seed * 48271+7919).fmod 2147483647).fmod 2147483629) 2147483563/\m≠0/\
        Q (PV.int ((((seed * 48271+7919).fmod 2147483647 * (seed * 48271+7919).fmod 2147483647).fmod 2147483629 * 2147483563+((((seed * 48271+7919).fmod 2147483647 * 40692+104729).fmod 2147483399) * (((seed * 48271+7919).fmod 2147483647 * 40692+104729).fmod 2147483399)).fmod 2147483563).fmod m))
          (aR S1 d (SO.dct (bh (((seed * 48271+7919).fmod 2147483647 * 40692+104729).fmod 2147483399) num l)))):=by
    intro num Al S1 D1 O1 hz
    split
    . rename_i hp
      rw[eW (HH h0),vn (HH h0)]
      refine⟨wS h0 (by omega),hsz _ _,by omega,k _ _ (Int.emod_nonneg _ (by omega)) (HM _ h0) ⟨seed,num / m,Al,ac,by rw[am hne.symm];exact D1.l,D1.s0,D1.s1,Int.ediv_nonneg D1.nm (HH h0),D1.lf,D1.ln⟩ (O1.trans .upd)⟩
    . have e1:∀x:Int,x.fmod 2147483647=x % 2147483647:=fun x=>eW (by decide)
      have e2:∀x:Int,x.fmod 2147483399=x % 2147483399:=fun x=>eW (by decide)
      simp only[e1,e2,eW (HH h0)]
      have p1:=D1.s0
      have p2:=D1.s1
      refine⟨qw (by decide) (by decide),by decide,qw (by decide) (by decide),by decide,hsz _ _,sY (by omega) (by omega),by decide,sY (by omega) (by omega),by decide,qw (by decide) (by decide),by omega,
        k _ _ (Int.emod_nonneg _ (by omega)) (HM _ h0) ⟨_,num,Al,ac,by rw[am hne.symm];exact D1.l,by omega,by omega,D1.nm,D1.lf,D1.ln⟩ (O1.trans .upd)⟩
  unfold bC dI
  rw[show aA 5 [PV.ref d,PV.int m]=[some (.ref d),some (.int m),none,none,none] from rfl]
  simp only[ah]
  refine⟨fun n σ S'=>σ=[some (.ref d),some (.int m),none,none,none]/\∃number left,zu S' d l seed number left/\left.length=n/\yk d l S S',⟨_,rfl,number,left,D,rfl,.refl⟩,?_⟩
  rintro n σ S1 ⟨rfl,num,Al,D1,hn,O1⟩
  walk_at "x"
  simp only[D1.d,D1.l,n_,s9,sZ,n9,gW,ac,Fi,Fj]
  have hlen:(List.map PV.int Al).length=Al.length:=E5 ..
  rw[hlen]
  split
  . rename_i hz
    subst hz
    split
    . rename_i hl
      refine⟨fun σ S'=>σ=[some (.ref d),some (.int m),none,none,none]/\∃number left,zu S' d l seed number left/\left.length < n/\yk d l S S',?_,?_⟩
      . rintro σ' S' ⟨rfl,a,b,h2,h3,h4⟩
        exact⟨_,h3,rfl,a,b,h2,rfl,h4⟩
      . have hl':0 < Al.length:=by omega
        obtain⟨pre,x,rfl⟩:∃pre x,Al=pre++[x]:=by
          refine⟨Al.dropLast,Al.getLast (by intro e;rw[e]at hl';simp at hl'),(List.dropLast_concat_getLast _).symm⟩
        refine⟨trivial,?_⟩
        rw[show(List.map PV.int (pre++[x]))[(pre++[x]).length - 1]?=some (.int x) by simp,show(List.map PV.int (pre++[x])).dropLast=pre.map PV.int by simp]
        simp only[am hne,D1.d,gW]
        refine⟨hsz _ _,trivial,x,pre,⟨ac,by rw[am hne.symm,ac],D1.s0,D1.s1,D1.lf x (by simp),fun y hy=>D1.lf y (by simp[hy]),by have:=D1.ln;simp at this;omega⟩,?_,O1.trans (yk.Ek.trans .upd)⟩
        rw[<-hn];simp
    . rename_i hl
      exact fin 0 Al S1 D1 O1 (fun z=>hl (by omega))
  . rename_i hz
    rw[if_neg (by decide)]
    exact fin num Al S1 D1 O1 (fun z=>hz z.1)
end C
namespace L3
open PySem L2
def Ext(S S':ap):Prop:=∀a o,S a=some o->S' a=some o
def Ext.refl{S:ap}:Ext S S:=fun _ _ h=>h
def Ext.trans{S S1 S2:ap}(a:Ext S S1)(b:Ext S1 S2):Ext S S2:=fun x o h=>b x o (a x o h)
def Ext.new{S:ap}{p:Addr}{o:SO}(h:S p=none):Ext S (aR S p o):=fun x u hx=>by rw[am (fun e=>by rw[e,h]at hx;cases hx)];exact hx
def Ext.free{S S':ap}(e:Ext S S'){p:Addr}(h:S' p=none):S p=none:=by
 cases q:S p with
 |none=>rfl
 |some o=>rw[e p o q]at h;cases h
def Ext.yA{d l:Addr}{S S':ap}(e:Ext S S'):yk d l S S':=fun a o h _ _=>e a o h
theorem cS{g:Tg}{tc:fw}{te:aO}{σ':bF}{keep:ap->Prop}{fin:List PV->ap->Prop}{S:ap}(f:PV->PV)(c:PV->Bool)(hk:keep S):∀(items ys:List PV),
  (∀x∈items,∃σ2,g.put x σ'=some σ2/\(∀Q:Bool->ap->Prop,Q (c x) S->tc σ2 S Q eu)/\(c x=true->∀Q:bY,Q (f x) S->te σ2 S Q eu))->ys.length+items.length<=sizeLine->fin (ys++(items.filter c).map f) S->cj g tc te σ' keep fin items ys S
 |[],ys,_,hl,hf=>⟨hk,by simpa using hl,by simpa using hf⟩
 |x::r,ys,h,hl,hf=>by
  obtain⟨σ2,e,h1,h2⟩:=h x (by simp)
  refine⟨hk,by simp at hl;omega,?_⟩
  rw[e]
  refine h1 _ ?_
  cases hc:c x with
  |true=>
   rw[if_pos rfl]
   refine h2 hc _ (cS f c hk r (ys++[f x]) (fun y hy=>h y (by simp[hy])) (by simp at hl ⊢;omega) ?_)
   rw[GQ,hc,if_pos rfl]at hf
   simpa using hf
  |false=>
   rw[if_neg (by decide)]
   refine cS f c hk r ys (fun y hy=>h y (by simp[hy])) (by simp at hl ⊢;omega) ?_
   rw[GQ,hc,if_neg (by decide)]at hf
   exact hf
def mr{g:Tg}{te:aO}{σ':bF}{keep:ap->Prop}{fin:List PV->ap->Prop}{S:ap}(f:PV->PV){items:List PV}(hk:keep S)
  (h:∀x∈items,∃σ2,g.put x σ'=some σ2/\∀Q:bY,Q (f x) S->te σ2 S Q eu) (hl:items.length<=sizeLine) (hf:fin (items.map f) S):cj g di te σ' keep fin items [] S:=by
 refine cS f (fun _=>true) hk items [] (fun x hx=>?_) (by simpa using hl) (by rw[List.filter_eq_self.mpr (fun _ _=>rfl)];exact hf)
 obtain⟨σ2,e,k⟩:=h x hx
 exact⟨σ2,e,fun Q q=>q,fun _=>k⟩
theorem iW{g:Tg}{tc:fw}{te:aO}{σ':bF}{keep:ap->Prop}{fin:List PV->ap->Prop}{items:List PV}(Iv:List PV->List PV->ap->Prop)(hk:∀done ys S,Iv done ys S->keep S/\ys.length<=sizeLine)
  (step:∀done x rest ys S (K:List PV->ap->Prop),items=done++x::rest->Iv done ys S->(∀ys' S',Iv (done++[x]) ys' S'->K ys' S')->match g.put x σ' with
   |some σ2=>tc σ2 S (fun b S3=>if b=true then te σ2 S3 (fun y S4=>K (ys++[y]) S4) eu else K ys S3) eu
   |none=>False)
  (hf:∀ys S,Iv items ys S->fin ys S):∀(rest done ys:List PV) (S:ap),items=done++rest->Iv done ys S->cj g tc te σ' keep fin rest ys S
 |[],done,ys,S,e,h=>by
  rw[Gv]at e
  exact⟨(hk _ _ _ h).1,(hk _ _ _ h).2,hf ys S (e▸h)⟩
 |x::rest,done,ys,S,e,h=>by
  refine⟨(hk _ _ _ h).1,(hk _ _ _ h).2,?_⟩
  exact step done x rest ys S (fun ys' S'=>cj g tc te σ' keep fin rest ys' S') e h fun ys' S' h'=>iW Iv hk step hf rest (done++[x]) ys' S' (by rw[e];simp) h'
theorem j9{g:Tg}{tb:bp}{D:dv}{keep:ap->Prop}{items:List PV}(Iv:List PV->bF->ap->Prop)(hk:∀done σ S,Iv done σ S->keep S)
  (step:∀done x rest σ S (K:bF->ap->Prop),items=done++x::rest->Iv done σ S->(∀σ' S',Iv (done++[x]) σ' S'->K σ' S')->match g.put x σ with
   |some σ'=>tb { D with nx:=K,ct:=K,bk:=D.nx } σ' S
   |none=>False)
  (hd:∀σ S,Iv items σ S->D.nx σ S):∀(rest done:List PV) (σ:bF) (S:ap),items=done++rest->Iv done σ S->eo g tb D keep rest σ S
 |[],done,σ,S,e,h=>by
  rw[Gv]at e
  exact⟨hk _ _ _ h,hd σ S (e▸h)⟩
 |x::rest,done,σ,S,e,h=>
  ⟨hk _ _ _ h,step done x rest σ S (eo g tb D keep rest) e h fun σ' S' h'=>j9 Iv hk step hd rest (done++[x]) σ' S' (by rw[e];simp) h'⟩
def gu{g:Tg}{tb:bp}{D:dv}{keep:ap->Prop}{items:List PV}{σ:bF}{S:ap}(Iv:List PV->bF->ap->Prop)(h0:Iv [] σ S)(hk:∀done σ S,Iv done σ S->keep S)
  (step:∀done x rest σ S (K:bF->ap->Prop),items=done++x::rest->Iv done σ S->(∀σ' S',Iv (done++[x]) σ' S'->K σ' S')->match g.put x σ with
   |some σ'=>tb { D with nx:=K,ct:=K,bk:=D.nx } σ' S
   |none=>False)
  (hd:∀σ S,Iv items σ S->D.nx σ S):eo g tb D keep items σ S:=j9 Iv hk step hd items [] σ S rfl h0
def oa{g:Tg}{tc:fw}{te:aO}{σ':bF}{keep:ap->Prop}{fin:List PV->ap->Prop}{items:List PV}{S:ap}(Iv:List PV->List PV->ap->Prop)(h0:Iv [] [] S)(hk:∀done ys S,Iv done ys S->keep S/\ys.length<=sizeLine)
  (step:∀done x rest ys S (K:List PV->ap->Prop),items=done++x::rest->Iv done ys S->(∀ys' S',Iv (done++[x]) ys' S'->K ys' S')->match g.put x σ' with
   |some σ2=>tc σ2 S (fun b S3=>if b=true then te σ2 S3 (fun y S4=>K (ys++[y]) S4) eu else K ys S3) eu
   |none=>False)
  (hf:∀ys S,Iv items ys S->fin ys S):cj g tc te σ' keep fin items [] S:=iW Iv hk step hf items [] [] S rfl h0
def aE{t u:bp}{D:dv}{σ:bF}{S:ap}(h:∀N:bF->ap->Prop,(∀σ S,u D σ S->N σ S)->t { D with nx:=N } σ S):ah t u D σ S:=h (u D) fun _ _ q=>q
def iX{n:Nat}{b:bp}{args:List PV}{S:ap}{Q:bY}{E:de}(h:b { nx:=fun _ S'=>Q .non S',rt:=Q,ex:=eu } (aA n args) S):bC n b args S Q E:=h
def dN{α β:Type}(f:α->β)(xs:List α)(lo hi:Option Int):cy (xs.map f) lo hi=(cy xs lo hi).map f:=by
 unfold cy
 rw[E5,List.map_take,List.map_drop]
def og{α:Type}(xs:List α)(lo hi:Option Int):(cy xs lo hi).length<=xs.length:=by
 unfold cy
 rw[FD,FE]
 omega
def cU{n:Nat}(h:n<=1000):n<=sizeLine:=GP (cE h)
section
variable {α:Type} {a b c d e:α} {l:List α}
def ic:yO (a::l) 0=some a:=by simp[yO,mU]
def kx:yO (a::b::l) 1=some b:=eP (j:=1) rfl
def v1:yO (a::b::c::l) 2=some c:=eP (j:=2) rfl
def s_:yO [a] (-1)=some a:=rfl
def td:yO [a,b] (-1)=some b:=rfl
def tj:yO [a,b,c] (-1)=some c:=rfl
def tm:yO [a,b,c,d] (-1)=some d:=rfl
def tq:yO [a,b,c,d,e] (-1)=some e:=rfl
def tw:yO [a,b] (-2)=some a:=rfl
def tz:yO [a,b,c] (-2)=some b:=rfl
def tD:yO [a,b,c,d] (-2)=some c:=rfl
def tE:yO [a,b,c,d,e] (-2)=some d:=rfl
end
def eX(lo:Int)(n:Nat):(bT lo n).length=n:=by simp[bT]
end L3
namespace C
open PySem L2 L3
abbrev j_(w:aH):Prop:=∀{S:ap} {ns:Vu} {b:Int} {Q:bY} {E:de},ns.length<=63->0<=b->b < 1000->(∀d l S',S d=none->S l=none->x_ S' d l->Ext S S'->Q (.ref d) S')->w [.cl (ns.map PV.int),.int b] S Q E
def zQ:j_ (bC 5 dH):=by
 intro S ns b Q E hn h0 h1 k
 unfold bC dH
 rw[show aA 5 [PV.cl (ns.map PV.int),PV.int b]=[some (.cl (ns.map PV.int)),some (.int b),none,none,none] from rfl]
 walk_at "x"
 intro p hp
 rw[ac]
 dsimp only
 rw[dN]
 have hx:(cy ns (some b) (some 63)).length<=63:=Fc (og _ _ _) hn
 generalize cy ns (some b) (some 63)=xs at hx
 refine mr (fun v=>match v with | .int i=>.int (if 0 - i > i then 0 - i else i)|v=>v) ac (fun x hx=>?_) (cU (by rw[E5];omega)) ?_
 ·obtain⟨i,hi,rfl⟩:=Fz.mp hx
  refine⟨[some (.int i)],rfl,fun Q q=>?_⟩
  walk_at "x"
  exact q
 intro p2 hp2
 rw[ac]
 dsimp only
 rw[F6]
 have e0:(xs.map ((fun v=>match v with | .int i=>.int (if 0 - i > i then 0 - i else i)|v=>v) ∘ PV.int))=(xs.map fun i=>if 0 - i > i then 0 - i else i).map PV.int:=by
  rw[F6];rfl
 rw[e0]
 have hy:((xs.map fun i=>if 0 - i > i then 0 - i else i)).length<=63:=by rw[E5];exact hx
 have Cd:∀y∈xs.map (fun i:Int=>if 0 - i > i then 0 - i else i),0<=y:=by
  intro y hy
  obtain⟨i,_,rfl⟩:=Fz.mp hy
  split<;>omega
 generalize (xs.map fun i=>if 0 - i > i then 0 - i else i)=ys at hy Cd
 have h2:p2≠p:=fun e=>by rw[e,ac]at hp2;cases hp2
 have hp2':S p2=none:=by rw[<-hp2,am h2]
 refine gu (fun done σ S'=>S'=aR (aR S p (.lst (xs.map PV.int))) p2 (.lst (ys.map PV.int))/\∃v2 n,0<=n/\n < 2147483647/\σ=[some (.cl (ns.map PV.int)),some (.int b),v2,some (.ref p2),some (.int n)]) ⟨rfl,none,7919+b,by omega,by omega,rfl⟩ (fun done σ S' h=>by rw[h.1];exact ac) ?_ ?_
 ·rintro done x rest σ S' K e ⟨rfl,v2,n,n0,n1,rfl⟩ hK
  obtain⟨i,hi,rfl⟩:∃i,i∈ys/\x = .int i:=by
   have:x∈ys.map PV.int:=by rw[e];simp
   obtain⟨i,hi,rfl⟩:=Fz.mp this
   exact⟨i,hi,rfl⟩
  walk_at "x"
  refine⟨qw (by decide) (by decide),by decide,by decide,hK _ _ ⟨rfl,_,_,?_,?_,rfl⟩⟩
  ·rw[eW (by decide)];omega
  ·rw[eW (i:=(n * 48271+_)) (by decide)];omega
 ·rintro σ S' ⟨rfl,v2,n,n0,n1,rfl⟩
  walk_at "x"
  intro d hd
  have hd2:d≠p2:=fun e=>by rw[e,ac]at hd;cases hd
  rw[am hd2]at hd
  have hd1:d≠p:=fun e=>by rw[e,ac]at hd;cases hd
  rw[am hd1]at hd
  rw[am hd2.symm,ac]
  dsimp only
  refine cS (fun v=>v) (fun v=>match v with | .int i=>decide (10 ^ 18<=i)|_=>false) (by rw[am hd2.symm,ac]) _ [] (fun x hx=>?_) (by rw[E5];exact cU (by simp;omega)) ?_
  ·obtain⟨i,hi,rfl⟩:=Fz.mp hx
   refine⟨[some (.int i)],rfl,fun Q q=>?_,fun _ Q q=>?_⟩
   ·walk_at "x"
    exact⟨⟨by decide,by decide,by decide⟩,q⟩
   ·walk_at "x"
    exact q
  intro p3 hp3
  rw[ac]
  intro l hl
  have e3:([]++List.map (fun v:PV=>v) (List.filter (fun v=>match v with | .int i=>decide (10 ^ 18<=i)|_=>false) (List.map PV.int ys)))=(ys.filter fun i=>decide (10 ^ 18<=i)).map PV.int:=by
   rw[Gw,List.map_id',List.filter_map]
   rfl
  rw[e3]at hl ⊢
  rw[<-List.map_reverse]
  generalize Ds:aR (aR (aR (aR S p (SO.lst (List.map PV.int xs))) p2 (SO.lst (List.map PV.int ys))) d (SO.dct [])) p3 (SO.lst (List.map PV.int (List.filter (fun i=>decide (10 ^ 18<=i)) ys)))=S3 at hl ⊢
  have Dt:S3 d=some (.dct []):=by rw[<-Ds,am (fun e=>by rw[<-e,ac]at hp3;cases hp3),ac]
  have A9:l≠d:=fun e=>by rw[e,Dt]at hl;cases hl
  have CO:Ext S S3:=by
   rw[<-Ds]
   refine(Ext.new hp).trans ((Ext.new hp2).trans ((Ext.new ?_).trans (.new hp3)))
   rw[am hd2,am hd1];exact hd
  refine⟨by rw[am A9.symm];exact Dt,?_⟩
  have e4:j2 [(PV.str "seed",PV.int n),(PV.str "number",PV.int 0),(PV.str "left",PV.ref l)]=some (bh n 0 l):=rfl
  rw[e4]
  have e5:cO [] (bh n 0 l)=bh n 0 l:=by simp[cO,bh,gQ,sS,aM]
  dsimp only
  rw[e5]
  refine k d l _ hd (CO.free hl) ⟨n,0,_,ac,by rw[am A9,ac],n0,n1,Int.le_refl _,fun y hy=>?_,?_⟩ ?_
  ·exact Cd y (GV.mp (List.mem_reverse.mp hy)).1
  ·rw[List.length_reverse]
   exact Fc (List.length_filter_le _ _) (by omega)
  ·intro a o ha
   have had:a≠d:=fun e=>by rw[e,hd]at ha;cases ha
   rw[am had,am (fun e=>by rw[e,CO.free hl]at ha;cases ha)]
   exact CO a o ha
end C
namespace L3
open PySem L2
theorem gX(S:ap):∀zs:List Str,y8 S (zs.map PV.str) (zs.map PyData.str)
 |[]=>.nil
 |z::r=>.cons (.str z) (gX S r)
theorem dO:∀{zs:Vs},(∀z∈zs,PyData.strOk z=true)->PyData.canLayAll0 (zs.map PyData.str)=true
 |[],_=>rfl
 |z::r,h=>by
  show(PyData.canLay0 (.str z)&&PyData.canLayAll0 (r.map PyData.str))=true
  rw[dO fun y hy=>h y (by simp[hy])]
  have:PyData.canLay0 (.str z)=true:=h z (by simp)
  rw[this];rfl
def gY(z:Str)(zs:Vs):iN (.str z) (zs.map PyData.str)=decide (z∈zs):=by
 unfold iN
 rw[List.any_map,GW,List.any_eq_true,decide_eq_true_iff]
 constructor
 ·rintro⟨y,hy,e⟩
  have e':(y == z)=true:=e
  exact(eq_of_beq e')▸hy
 ·intro h
  exact⟨z,h,beq_self_eq_true z⟩
def ju{neg:Bool}{z:Str}{zs:Vs}{a:Addr}{S:ap}{Q:bY}(hS:S a=some (.lst (zs.map PV.str)))(hz:PyData.strOk z=true)(hzs:∀y∈zs,PyData.strOk y=true)(q:Q (.bl (neg != decide (z∈zs))) S):kR neg (.str z) (.ref a) S Q:=by
 unfold kR
 simp only[hS]
 exact⟨_,_,.str z,gX S zs,hz,dO hzs,by show 0<=150;decide,by rw[gY];exact q⟩
def cH{neg:Bool}{z:Str}{zs:Vs}{S:ap}{Q:bY}(hz:PyData.strOk z=true)(hzs:∀y∈zs,PyData.strOk y=true)(q:Q (.bl (neg != decide (z∈zs))) S):kR neg (.str z) (.tup (zs.map PV.str)) S Q:=by
 unfold kR
 exact⟨_,_,.str z,gX S zs,hz,dO hzs,by show 0<=150;decide,by rw[gY];exact q⟩
end L3
namespace C
open PySem L2 L3 Wd
abbrev eY(w:aH):Prop:=∀{S:ap} {t b:Int} {Q:bY} {E:de},0 < b->b.natAbs < 2 ^ 8000->Q (.tup [.int (M3.im t b),.int (M3.jh t b)]) S->w [.int t,.int b] S Q E
def Ab:eY (bC 4 ez):=by
 intro S t b Q E hb hs k
 unfold bC ez
 rw[show aA 4 [PV.int t,PV.int b]=[some (.int t),some (.int b),none,none] from rfl]
 simp only[ah]
 walk_at "x"
 refine⟨fun n σ S'=>S'=S/\∃x y:Int,σ=[some (.int t),some (.int b),some (.int x),some (.int y)]/\0<=x/\0<=y/\Int.gcd x y=Int.gcd t b/\y.toNat=n,⟨_,rfl,_,b,rfl,by split<;>omega,by omega,?_,rfl⟩,?_⟩
 ·split
  ·rw[show(0 - t) = -t by omega,Int.neg_gcd]
  ·rfl
 rintro n σ S' ⟨rfl,x,y,rfl,hx,hy,hg,rfl⟩
 walk_at "x"
 simp only[Fj]
 split
 ·rename_i hp
  refine⟨fun σ' A_=>A_=S'/\∃x' y':Int,σ'=[some (.int t),some (.int b),some (.int x'),some (.int y')]/\0<=x'/\0<=y'/\Int.gcd x' y'=Int.gcd t b/\y'.toNat < y.toNat,?_,?_⟩
  ·rintro σ' A_ ⟨rfl,x',y',rfl,h1,h2,h3,h4⟩
   exact⟨_,h4,rfl,x',y',rfl,h1,h2,h3,rfl⟩
  ·walk_at "x"
   have e:x.fmod y=x % y:=eW hy
   have l1:=Int.emod_nonneg x (b:=y) (by omega)
   have l2:=HM x hp
   refine⟨by omega,trivial,y,x.fmod y,rfl,hy,by omega,?_,by omega⟩
   rw[M3.nk];exact hg
 ·rename_i hp
  have Cd:y=0:=by omega
  subst Cd
  have El:x=(Int.gcd t b:Int):=by
   rw[<-hg]
   rw[Int.gcd_zero_right]
   omega
  subst El
  have gp:(0:Int) < (Int.gcd t b:Int):=Hw.mpr (M3.eQ (by omega))
  have gl:=M3.ss (t:=t) (b:=b) (by omega)
  have cd:∀z,jW z (Int.gcd t b:Int):=fun z=>⟨by omega,GY (by omega) hs⟩
  refine⟨cd _,cd _,?_⟩
  have d1:=(M3.nj (t:=t) (b:=b) (by omega))
  rw[if_neg (by omega)]at d1
  rw[d1.1,d1.2]
  exact k
structure qx (x y:Int):Prop where
 low:M3.xf x y
 x0:0<=x
 x1:x<=999
 y1:y<=9
def iY{n:Nat}(h:n < 2 ^ 64):n < 2 ^ 8000:=F5 h (Ht (by decide) (by decide))
abbrev dP(w:aH):Prop:=∀{S:ap} {d l:Addr} {Q:bY} {E:de},x_ S d l->(∀x y S',qx x y->x_ S' d l->yk d l S S'->Q (.tup [.int x,.int y]) S')->w [.ref d] S Q E
def zR{wd wl:aH}(xX:bf wd)(Ab:eY wl):dP (bC 2 (dJ wd wl)):=by
 intro S d l Q E D k
 unfold bC dJ
 rw[show aA 2 [PV.ref d]=[some (.ref d),none] from rfl]
 walk_at "x"
 refine xX D (by decide) (by decide) fun r S1 r0 r1 D1 O1=>?_
 simp only[Fi,Fj]
 split
 ·exact k 0 1 S1 ⟨⟨by decide,by decide⟩,by decide,by decide,by decide⟩ D1 O1
 ·split
  ·refine xX D1 (by decide) (by decide) fun r2 S2 a0 a1 D2 O2=>?_
   exact k _ 1 S2 ⟨⟨by decide,Int.gcd_one_right _⟩,by omega,by omega,by decide⟩ D2 (O1.trans O2)
  ·refine xX D1 (by decide) (by decide) fun r2 S2 a0 a1 D2 O2=>xX D2 (by decide) (by decide) fun r3 S3 b0 b1 D3 O3=>?_
   refine Ab (by omega) (iY (by omega)) ?_
   have z:=M3.jR (t:=r2) (b:=1+r3) (T:=999) (B:=9) (by omega) (by omega) (by omega) (by omega) (by omega) (by decide) (by decide)
   refine k _ _ S3 ⟨M3.lx (by omega),?_,z.2.1,z.2.2.2⟩ D3 (O1.trans (O2.trans O3))
   unfold M3.im
   rw[if_neg (by omega)]
   exact Int.ediv_nonneg a0 (by omega)
def ms{r:Int}(h0:0<=r)(h1:r < 26):∃c,yO abc.cps.toList r=some c/\97<=c/\c<=122:=by
 obtain⟨n,rfl⟩:=Ft h0
 have q:=jg n
 rw[Nat.mod_eq_of_lt (by omega)]at q
 exact⟨_,q,by omega,by omega⟩
def fI{z:Str}(h:y3 z):PyData.strOk z=true:=by
 unfold PyData.strOk
 rw[Array.all_eq_true']
 intro c hc
 have:=h.sm c (by simpa using hc)
 simp;omega
def qy:∀z∈yv,PyData.strOk z=true:=by decide +kernel
theorem fJ:∀zs:List Str,texts (zs.map PV.str)=some zs
 |[]=>rfl
 |z::r=>by show(texts (r.map PV.str)).map (z::·)=_;rw[fJ r];rfl
def mv:("":Str).length=0:=by decide +kernel
def iZ{cs:List Nat}(h:cs.length<=1000):((cs.map jf).map (·.length)).sum+(cs.map jf).length * ("":Str).length<=1000000:=by
 rw[pL,mv]
 omega
def gZ{w__law_draw:aH}(xX:bf w__law_draw){S:ap}{d l:Addr}{σ:bF}{n:Int}{fin:List PV->ap->Prop}(D:x_ S d l)(hn:n.toNat<=100)(h1:lk σ 1=some (.ref d))(h2:lk σ 2=some (.str abc))(hσ:∃x,σ=[x,some (.ref d),some (.str abc)])
  (k:∀(cs:List Nat) S',cs.length=n.toNat->(∀c∈cs,97<=c/\c<=122)->x_ S' d l->yk d l S S'->fin ((cs.map jf).map PV.str) S') :
  cj (Tg.n 0) di (aj al (v3 2) (aa w__law_draw [v3 1,c3 (.int 26)])) σ (fun _=>True) fin (bT 0 n.toNat) [] S:=by
 obtain⟨x0,rfl⟩:=hσ
 refine oa (fun done ys S'=>∃cs:List Nat,ys=(cs.map jf).map PV.str/\cs.length=done.length/\done.length<=n.toNat/\(∀c∈cs,97<=c/\c<=122)/\x_ S' d l/\yk d l S S') ⟨[],rfl,rfl,FN _,by simp,D,.refl⟩ ?_ ?_ ?_
 ·rintro done ys S' ⟨cs,rfl,e,hd,_⟩
  exact⟨trivial,cU (by rw[E5,E5,e];omega)⟩
 ·rintro done x rest ys S' K e ⟨cs,rfl,e2,hd,hc,D',O'⟩ hK
  have hlen:done.length+1<=n.toNat:=by
   have:=FI List.length e
   rw[eX,E6,Fe]at this
   omega
  walk_at "x"
  simp only[di,G6]
  refine xX D' (by decide) (by decide) fun r S2 r0 r1 D2 O2=>⟨gk.1,?_⟩
  obtain⟨c,ec,c0,c1⟩:=ms r0 r1
  rw[ec]
  refine hK _ _ ⟨cs++[c],by simp,by simp[e2],by simpa using hlen,fun y hy=>?_,D2,O'.trans O2⟩
  rcases FA.mp hy with hy|hy
  ·exact hc y hy
  ·rw[FO.mp hy];exact⟨c0,c1⟩
 ·rintro ys S' ⟨cs,rfl,e,hd,hc,D',O'⟩
  exact k cs S' (by rw[e,eX]) hc D' O'
theorem ka{f:Str->List Nat}(r:List Nat):∀xs:List Str,(xs.map f).Nodup->(xs.filter fun z=>f z == r).length<=1
 |[],_=>FN _
 |x::xs,h=>by
  rw[Fd,FF]at h
  rw[GQ]
  by_cases e:(f x == r)=true
  ·rw[if_pos e]
   have no:(xs.filter fun z=>f z == r)=[]:=by
    refine List.filter_eq_nil_iff.mpr fun z hz q=>h.1 ?_
    rw[eq_of_beq e,<-eq_of_beq q]
    exact Fz.mpr ⟨z,hz,rfl⟩
   rw[no]
   exact E1 _
  ·rw[if_neg e]
   exact ka r xs h.2
def oh(r:List Nat):(yv.filter fun z=>z.cps.toList.tail == r).length<=1:=ka (f:=fun z=>z.cps.toList.tail) r yv (by decide +kernel)
def k5(r:List Nat)(c:Nat)(ns:Vs)(h:ns.length < 17):∃j,j < 26/\cand r (c+j) ∉ yv++ns:=by
 obtain⟨j,hj,free⟩:=l8 r c ((yv.filter fun z=>z.cps.toList.tail == r)++ns) (by rw[E6];have:=oh r;omega)
 refine⟨j,hj,fun hm=>free ?_⟩
 rcases FA.mp hm with q|q
 ·exact Gy _ (GV.mpr ⟨q,by simp[cand]⟩)
 ·exact Fo _ q
abbrev fK(w:aH):Prop:=∀{S:ap} {d l:Addr} {m:Int} {Q:bY} {E:de},x_ S d l->0<=m->m<=17->(∀p (ns:Vs) S',ns.length=m.toNat->ns.Nodup->(∀z∈ns,y3 z/\z ∉ yv)->S p=none->p≠d->p≠l->S' p=some (.lst (ns.map PV.str))->x_ S' d l->yk d l S S'->Q (.ref p) S')->w [.ref d,.int m] S Q E
def zF{wd:aH}(xX:bf wd):fK (bC 11 (cP wd)):=by
 intro S d l m Q E D h0 h1 k
 unfold cP
 refine iX ?_
 rw[show aA 11 [PV.ref d,PV.int m]=[some (.ref d),some (.int m),none,none,none,none,none,none,none,none,none] from rfl]
 refine aE fun N hN=>?_
 walk_at "x"
 refine hN _ _ (aE fun N hN=>?_)
 walk_at "x"
 intro pT hT
 have dT:=D.free hT
 have D0:x_ (aR S pT (.lst (yv.map PV.str))) d l:=D.new hT
 have Du:(aR S pT (.lst (yv.map PV.str))) pT=some (.lst (yv.map PV.str)):=ac
 have O0:yk d l S (aR S pT (.lst (yv.map PV.str))):=.new hT
 have eK:[PV.str "jars",PV.str "deed",PV.str "rest",PV.str "pay",PV.str "put",PV.str "then",PV.str "either",PV.str "take",PV.str "often",PV.str "use"]=yv.map PV.str:=rfl
 rw[eK]
 generalize aR S pT (.lst (yv.map PV.str))=S0 at D0 Du O0 ⊢
 refine hN _ _ (aE fun N hN=>?_)
 walk_at "x"
 refine⟨trivial,xX D0 (by decide) (by decide) fun n S1 n0 n1 D1 O1=>⟨by omega,by omega,?_⟩⟩
 refine gZ xX D1 (by omega) rfl rfl ⟨_,rfl⟩ fun cs S2 hl hc D2 O2 pj hj=>?_
 simp only[iP,ac,fJ]
 refine⟨iZ (by omega),?_⟩
 rw[show Txt.join (Str.ofString "") (cs.map jf)=⟨cs.toArray⟩from gH cs]
 refine hN _ _ (aE fun N hN=>?_)
 walk_at "x"
 have hcl:cs.length<=5:=by omega
 have lc:(⟨cs.toArray⟩:Str).length=cs.length:=EZ
 refine⟨by rw[lc];exact cU (by omega),xX (D2.new hj) (by rw[lc];omega) (by rw[lc];omega) fun at' S3 a0 a1 D3 O3=>xX D3 (by decide) (by decide) fun tu S4 t0 t1 D4 O4=>xX D4 (by decide) (by decide) fun nr S5 r0 r1 D5 O5=>?_⟩
 rw[lc]at a1
 obtain⟨an,rfl⟩:=Ft a0
 obtain⟨tn,rfl⟩:=Ft t0
 refine hN _ _ (aE fun N hN=>?_)
 walk_at "x"
 intro q hq
 have dq:=D5.free hq
 have OA:yk d l S0 S5:=O1.trans (O2.trans ((yk.new hj).trans (O3.trans (O4.trans O5))))
 have CP:=OA _ _ Du dT.1 dT.2
 have Dv:pT≠q:=fun e=>by rw[e,hq]at CP;cases CP
 have Dw:S q=none:=by
  cases e:S q with
  |none=>rfl
  |some o=>rw[OA _ _ (O0 _ _ e dq.1 dq.2) dq.1 dq.2]at hq;cases hq
 refine hN _ _ (aE fun N hN=>?_)
 simp only[dF,gg,v3,lk]
 refine⟨by omega,by omega,?_⟩
 refine gu (fun done σ S'=>∃(ns:Vs) (v4 v10:Option PV) (near:Bool),σ=[some (.ref d),some (.int m),some (.str abc),some (.ref pT),v4,some (.str ⟨cs.toArray⟩),some (.int an),some (.int tn),some (.bl near),some (.ref q),v10]/\ns.length=done.length/\ns.Nodup/\(∀z∈ns,y3 z/\z ∉ yv)/\S' q=some (.lst (ns.map PV.str))/\S' pT=some (.lst (yv.map PV.str))/\x_ S' d l/\yk d l S S')
  ⟨[],_,_,_,rfl,rfl,List.nodup_nil,(fun z hz=>nomatch hz),ac,by rw[am Dv];exact CP,D5.new hq,O0.trans (OA.trans (.new hq))⟩ (fun _ _ _ _=>trivial) ?_ ?_
 ·rintro done x rest σ S6 K e ⟨ns,v4,v10,near,rfl,CQ,CS,w6,Ce,CT,D6,O6⟩ hK
  have hlen:done.length < m.toNat:=by
   have:=FI List.length e
   rw[eX,E6,Fe]at this
   omega
  have hx:x = .int (0+(done.length:Nat)):=by
   have h2:=FI (fun l=>l[done.length]?) e
   simp only[Fq (E1 _),Nat.sub_self,List.getElem?_cons_zero]at h2
   unfold bT at h2
   rw[Fv,HE hlen]at h2
   simpa using h2.symm
  subst hx
  -- the tail: a word is changed Em it is new,then laid down
  have ql:∀(z:Str) (v4:Option PV) (S7:ap),y3 z->S7 q=some (.lst (ns.map PV.str))->S7 pT=some (.lst (yv.map PV.str))->x_ S7 d l->yk d l S S7->
    ah (gS (ku (a_ (aj (kR false) (v3 10) (v3 3))) (a_ (aj (kR false) (v3 10) (v3 9)))) (aw 10 (aj aQ (aj al (v3 2) (aj d8 (aj aQ (gq "str" fD (v3 2) [(aj al (v3 10) (c3 (.int 0)))]) (c3 (.int 1))) (c3 (.int 26)))) (aS (v3 10) (fj (c3 (.int 1))) jX))))
     (bW (gq "list" cM (v3 9) [(v3 10)])) { nx:=K,rt:=Q,ex:=eu,bk:=N,ct:=K } [some (.ref d),some (.int m),some (.str abc),some (.ref pT),v4,some (.str ⟨cs.toArray⟩),some (.int an),some (.int tn),some (.bl near),some (.ref q),some (.str z)] S7:=by
   intro z v4 S7 hz Dx Dy D7 O7
   obtain⟨i,r,rfl,hi,En,hrs⟩:=hz.cand
   obtain⟨j,hj,free⟩:=k5 r i ns (by omega)
   refine⟨fun mm σ S'=>∃t,σ=[some (.ref d),some (.int m),some (.str abc),some (.ref pT),v4,some (.str ⟨cs.toArray⟩),some (.int an),some (.int tn),some (.bl near),some (.ref q),some (.str (cand r (i+t)))]/\S'=S7/\t<=j/\mm=j - t,⟨j,0,rfl,rfl,FN _,rfl⟩,?_⟩
   rintro mm σ S' ⟨t,rfl,rfl,ht,rfl⟩
   have hw:=nh En hrs (i+t)
   have CU:∀y∈ns,PyData.strOk y=true:=fun y hy=>fI (w6 y hy).1
   have go:t < j->∃N:bF->ap->Prop,(∀σ' A_,N σ' A_->∃m',m' < j - t/\∃t',σ'=[some (.ref d),some (.int m),some (.str abc),some (.ref pT),v4,some (.str ⟨cs.toArray⟩),some (.int an),some (.int tn),some (.bl near),some (.ref q),some (.str (cand r (i+t')))]/\A_=S'/\t'<=j/\m'=j - t')/\
     N ([some (.ref d),some (.int m),some (.str abc),some (.ref pT),v4,some (.str ⟨cs.toArray⟩),some (.int an),some (.int tn),some (.bl near),some (.ref q),some (.str (cand r (i+(t+1))))]) S':=fun lt=>
    ⟨fun σ' A_=>σ'=[some (.ref d),some (.int m),some (.str abc),some (.ref pT),v4,some (.str ⟨cs.toArray⟩),some (.int an),some (.int tn),some (.bl near),some (.ref q),some (.str (cand r (i+(t+1))))]/\A_=S',fun σ' A_ ⟨e1,e2⟩=>⟨j - (t+1),by omega,t+1,e1,e2,by omega,rfl⟩,rfl,rfl⟩
   have Cf:((((i+t) % 26:Nat):Int)+1).fmod 26=(((i+t+1) % 26:Nat):Int):=by rw[eW (by decide)];omega
   walk_at "x"
   refine ju Dy (fI hw) qy ?_
   simp only[Fi,Fj]
   split
   ·rename_i g
    have lt:t < j:=Nat.lt_of_le_of_ne ht fun e=>by subst e;exact free (Gy _ g)
    obtain⟨N,hN,hn⟩:=go lt
    rw[if_pos trivial]
    refine⟨N,hN,trivial,hw.line,?_⟩
    rw[iJ]
    simp only[fD,nc _ (Nat.mod_lt _ (by decide))]
    refine⟨by decide,gk.1,?_⟩
    rw[Cf,jg (i+t+1)]
    refine⟨hw.line,?_,?_⟩
    ·rw[d0]
     exact cU (show 1+r.toArray.size<=1000 by rw[EZ];omega)
    ·rw[d0,iK]
     exact hn
   ·rename_i g
    refine ju Dx (fI hw) CU ?_
    simp only[Fi,Fj]
    split
    ·rename_i g2
     have lt:t < j:=Nat.lt_of_le_of_ne ht fun e=>by subst e;exact free (Fo _ g2)
     obtain⟨N,hN,hn⟩:=go lt
     refine⟨N,hN,trivial,hw.line,?_⟩
     rw[iJ]
     simp only[fD,nc _ (Nat.mod_lt _ (by decide))]
     refine⟨by decide,gk.1,?_⟩
     rw[Cf,jg (i+t+1)]
     refine⟨hw.line,?_,?_⟩
     ·rw[d0]
      exact cU (show 1+r.toArray.size<=1000 by rw[EZ];omega)
     ·rw[d0,iK]
      exact hn
    ·rename_i g2
     simp only[Dx]
     refine⟨trivial,by rw[E5];exact cE (by omega),hK _ _ ⟨ns++[cand r (i+t)],_,_,_,rfl,by simp[CQ],List.nodup_append.mpr ⟨CS,by simp,fun a ha b hb e=>?_⟩,fun z hz=>?_,by rw[Gj];exact ac,by rw[am Dv];exact Dy,D7.upd dq.1 dq.2,fun a o ha h1 h2=>?_⟩⟩
     ·rw[FO.mp hb]at e
      exact g2 (e▸ha)
     ·rcases FA.mp hz with hz|hz
      ·exact w6 z hz
      ·rw[FO.mp hz]
       exact⟨hw,g⟩
     ·rw[am (fun e=>by rw[e,Dw]at ha;cases ha)]
      exact O7 a o ha h1 h2
  obtain⟨pw,Eo,pl2⟩:=pM hcl hc (a:=an) (i:=(tn+done.length) % 26) (by omega) (Nat.mod_lt _ (by decide))
  have Cf:((tn:Int)+(0+(done.length:Int))).fmod 26=(((tn+done.length) % 26:Nat):Int):=by rw[eW (by decide)];omega
  have Dz:(⟨cs.toArray⟩:Str).length<=sizeLine:=by rw[lc];exact cU (by omega)
  simp only[Tg.put]
  refine aE fun N2 zS=>?_
  walk_at "x"
  refine⟨Dz,by decide,gk.1,?_⟩
  rw[Cf,jg (tn+done.length)]
  refine⟨Fc (Nat.add_le_add Eo (E1 1)) (by decide),Dz,Fc (Nat.le_of_eq (Array.size_append).symm) (Fc pw.len (by decide)),?_⟩
  refine zS _ _ (aE fun N3 DA=>?_)
  walk_at "x"
  split
  ·refine⟨trivial,xX D6 (by decide) (by decide) fun n2 Sa m0 m1 Da Oa=>⟨by omega,by omega,?_⟩⟩
   refine gZ xX Da (by omega) rfl rfl ⟨_,rfl⟩ fun Bu Sb hl2 hc2 Db Ob Ep hj2=>?_
   simp only[iP,ac,fJ]
   refine⟨iZ (by omega),?_⟩
   rw[show Txt.join (Str.ofString "") (Bu.map jf)=⟨Bu.toArray⟩from gH Bu]
   refine DA _ _ ?_
   have wz:y3 (⟨Bu.toArray⟩:Str):=⟨fun e=>by have e':Bu=[]:=e;rw[e']at hl2;simp at hl2;omega,by show Bu.length<=6;omega,hc2⟩
   have OB:yk d l S6 (aR Sb Ep (.lst ((Bu.map jf).map PV.str))):=Oa.trans (Ob.trans (.new hj2))
   exact ql _ _ _ wz (OB _ _ Ce dq.1 dq.2) (OB _ _ CT dT.1 dT.2) (Db.new hj2) (O6.trans OB)
  ·exact DA _ _ (ql _ _ S6 pw Ce CT D6 O6)
 ·rintro σ S6 ⟨ns,v4,v10,near,rfl,CQ,CS,w6,Ce,CT,D6,O6⟩
  refine hN _ _ ?_
  walk_at "x"
  exact k q ns S6 (by rw[CQ,eX]) CS w6 Dw dq.1 dq.2 Ce D6 O6
inductive Bd where
 |rest|pay (x y:Int)|put (z:Str) (m:Int)|use (z:Str)|zm (a:Bd)|xZ (a b:Bd)|zc (a b:Bd)|zf (z:Str) (m:Int) (a b:Bd)
noncomputable def Bd.pv:Bd->PV
 | .rest=>.tup [.str "rest"]
 | .pay x y=>.tup [.str "pay",.tup [.int x,.int y]]
 | .put z m=>.tup [.str "put",.str z,.int m]
 | .use z=>.tup [.str "use",.str z]
 | .zm a=>.tup [.str "often",a.pv]
 | .xZ a b=>.tup [.str "then",a.pv,b.pv]
 | .zc a b=>.tup [.str "either",a.pv,b.pv]
 | .zf z m a b=>.tup [.str "take",.str z,.int m,a.pv,b.pv]
noncomputable def Bd.dep:Bd->Nat
 | .zm a=>a.dep+1
 | .xZ a b=>max a.dep b.dep+1
 | .zc a b=>max a.dep b.dep+1
 | .zf _ _ a b=>max a.dep b.dep+1
 |_=>1
noncomputable def Bd.size:Bd->Nat
 | .zm a=>a.size+1
 | .xZ a b=>a.size+b.size+1
 | .zc a b=>a.size+b.size+1
 | .zf _ _ a b=>a.size+b.size+1
 |_=>1
noncomputable def Bd.good(js us:Vs):Bd->Prop
 | .rest=>True
 | .pay x y=>qx x y
 | .put z m=>z∈js/\1<=m/\m<=9
 | .use z=>z∈us
 | .zm a=>a.good js us
 | .xZ a b=>a.good js us/\b.good js us
 | .zc a b=>a.good js us/\b.good js us
 | .zf z m a b=>z∈js/\1<=m/\m<=9/\a.good js us/\b.good js us
def Bd.y4(t:Bd):1<=t.dep:=by cases t<;>simp[Bd.dep]
def eZ{α:Type}{xs:List α}{r:Int}(h0:0<=r)(h1:r < xs.length):∃v,yO xs r=some v/\v∈xs:=by
 obtain⟨n,rfl⟩:=Ft h0
 have hn:n < xs.length:=by omega
 exact⟨xs[n],eP (by simp[hn]),List.getElem_mem hn⟩
noncomputable def Bd.leaf:Bd->Prop
 | .rest=>True
 | .pay _ _=>True
 | .put _ _=>True
 |_=>False
def Bd.zn{t:Bd}(h:t.leaf):t.dep=1/\t.size=1:=by cases t<;>first|exact⟨rfl,rfl⟩|exact h.elim
abbrev e7(w:aH):Prop:=∀{S:ap} {d l:Addr} {js:Vs} {Q:bY} {E:de},x_ S d l->js.length < 2 ^ 61->(∀(t:Bd) S',t.leaf->t.good js []->x_ S' d l->yk d l S S'->Q t.pv S')->w [.ref d,.tup (js.map PV.str)] S Q E
def y6{wd wc:aH}(xX:bf wd)(zR:dP wc):e7 (bC 4 (dL wd wc)):=by
 intro S d l js Q E D hj k
 unfold dL
 refine iX ?_
 rw[show aA 4 [PV.ref d,PV.tup (js.map PV.str)]=[some (.ref d),some (.tup (js.map PV.str)),none,none] from rfl]
 refine aE fun N hN=>?_
 walk_at "x"
 refine xX D (by decide) (by decide) fun r S1 r0 r1 D1 O1=>?_
 refine hN _ _ (aE fun N hN=>?_)
 walk_at "x"
 simp only[Fi,Fj]
 split
 ·exact k .rest S1 trivial trivial D1 O1
 refine hN _ _ (aE fun N hN=>?_)
 walk_at "x"
 simp only[Fi,Fj,E5]
 have pay:wc [.ref d] S1 (fun x S=>Q (.tup [.str "pay",x]) S) eu:=zR D1 fun x y S2 c D2 O2=>k (.pay x y) S2 trivial c D2 (O1.trans O2)
 split
 ·rw[if_pos trivial];exact pay
 split
 ·exact pay
 rename_i hr hz
 refine hN _ _ (aE fun N hN=>?_)
 walk_at "x"
 refine xX D1 (by decide) (by decide) fun r2 S2 a0 a1 D2 O2 p hp=>xX (D2.new hp) (by decide) (by decide) fun r3 S3 b0 b1 D3 O3=>?_
 have dp:=D2.free hp
 have hp3:=O3 _ _ (ac (S:=S2) (o:=.lst [.int 1,.int 2,.int (1+r2)])) dp.1 dp.2
 simp only[hp3]
 obtain⟨v,hv,hm⟩:=eZ (xs:=[PV.int 1,.int 2,.int (1+r2)]) b0 (by simpa using b1)
 rw[hv]
 obtain⟨m,rfl,m0,m1⟩:∃m,v = .int m/\1<=m/\m<=9:=by
  simp only[Fg,HU,or_false]at hm
  rcases hm with rfl|rfl|rfl
  ·exact⟨1,rfl,by omega,by omega⟩
  ·exact⟨2,rfl,by omega,by omega⟩
  ·exact⟨1+r2,rfl,by omega,by omega⟩
 refine hN _ _ ?_
 walk_at "x"
 simp only[E5]
 refine xX D3 (by omega) (by omega) fun r4 S4 c0 c1 D4 O4=>?_
 obtain⟨w,hw,CV⟩:=eZ (xs:=js.map PV.str) c0 (by rw[E5];exact c1)
 dsimp only
 rw[hw]
 obtain⟨z,hz,rfl⟩:=Fz.mp CV
 exact k (.put z m) S4 trivial ⟨hz,m0,m1⟩ D4 (O1.trans (O2.trans ((yk.new hp).trans (O3.trans O4))))
def zG(d l x:Addr)(S S':ap):Prop:=∀a o,S a=some o->a≠d->a≠l->a≠x->S' a=some o
theorem _root_.L3.yk.x{d l x:Addr}{S S':ap}(h:yk d l S S'):zG d l x S S':=fun a o e h1 h2 _=>h a o e h1 h2
def zG.trans{d l x:Addr}{S S1 S2:ap}(a:zG d l x S S1)(b:zG d l x S1 S2):zG d l x S S2:=fun y o h h1 h2 h3=>b y o (a y o h h1 h2 h3) h1 h2 h3
def zG.upd{d l x:Addr}{S:ap}{o:SO}:zG d l x S (aR S x o):=fun y u h h1 h2 h3=>by rw[am h3];exact h
abbrev e9(n:Nat)(w:aH):Prop:=∀{S:ap} {d l x:Addr} {js:Vs} {left down:Int} {Q:bY} {E:de},x_ S d l->S x=some (.lst [.int left])->x≠d->x≠l->js.length < 2 ^ 61->0<=left->left < 2 ^ 61->0<=down->down < n->
  (∀(t:Bd) S' left',t.good js []->(t.dep:Int)<=down+1->0<=left'->(t.size:Int)+left'<=left+1->x_ S' d l->S' x=some (.lst [.int left'])->zG d l x S S'->Q t.pv S')->w [.ref d,.tup (js.map PV.str),.ref x,.int down] S Q E
def zT{wd wl rb:aH}(xX:bf wd)(y6:e7 wl)(n:Nat)(ih:e9 n rb):e9 (n+1) (bC 8 (dM wd wl rb)):=by
 intro S d l x js left down Q E D hx hxd AQ hj h0 h1 h2 h3 k
 unfold dM
 refine iX ?_
 rw[show aA 8 [PV.ref d,PV.tup (js.map PV.str),PV.ref x,PV.int down]=[some (.ref d),some (.tup (js.map PV.str)),some (.ref x),some (.int down),none,none,none,none] from rfl]
 refine aE fun N hN=>?_
 walk_at "x"
 refine xX D (by decide) (by decide) fun r S1 r0 r1 D1 O1=>?_
 have Ap:=O1 _ _ hx hxd AQ
 refine hN _ _ (aE fun N hN=>?_)
 walk_at "x"
 have a0:yO [PV.int left] 0=some (.int left):=rfl
 simp only[Fi,Fj,Ap,a0]
 have lf:wl [.ref d,.tup (js.map PV.str)] S1 Q eu:=y6 D1 hj fun t S2 hl hg D2 O2=>k t S2 left hg (by rw[(Bd.zn hl).1];omega) h0 (by rw[(Bd.zn hl).2];omega) D2 (O2 _ _ Ap hxd AQ) (O1.x.trans O2.x)
 split
 ·rw[if_pos trivial];exact lf
 split
 ·rw[if_pos trivial];exact lf
 split
 ·exact lf
 rename_i hd hl hf
 refine hN _ _ (aE fun N hN=>?_)
 simp only[cC,a_,aj,v3,c3,lk,nT,dh,Fj]
 have DB:mU [PV.int left].length 0=some 0:=rfl
 split
 ·refine aE fun N2 zS=>?_
  walk_at "x"
  simp only[Ap,a0,DB]
  refine zS _ _ ?_
  walk_at "x"
  refine ih (left:=left - 1) (D1.upd hxd AQ) ac hxd AQ hj (by omega) (by omega) (by omega) (by omega) fun t S2 l2 hg hdp q0 q1 D2 CW O2=>?_
  exact k (.zm t) S2 l2 hg (by simp only[Bd.dep];omega) q0 (by simp only[Bd.size];omega) D2 CW (O1.x.trans (zG.upd.trans O2))
 ·refine hN _ _ (aE fun N hN=>?_)
  walk_at "x"
  simp only[Ap,a0,DB]
  refine hN _ _ (aE fun N hN=>?_)
  walk_at "x"
  refine ih (left:=left - 2) (D1.upd hxd AQ) ac hxd AQ hj (by omega) (by omega) (by omega) (by omega) fun ta S2 l2 ga da q0 q1 D2 CW O2=>?_
  refine hN _ _ (aE fun N hN=>?_)
  walk_at "x"
  refine ih (left:=l2) D2 CW hxd AQ hj q0 (by omega) (by omega) (by omega) fun tb S3 l3 gb db p0 p1 D3 CZ O3=>?_
  have OA:zG d l x S S3:=O1.x.trans (zG.upd.trans (O2.trans O3))
  refine hN _ _ (aE fun N hN=>?_)
  walk_at "x"
  simp only[Fj]
  split
  ·exact k (.xZ ta tb) S3 l3 ⟨ga,gb⟩ (by simp only[Bd.dep];omega) p0 (by simp only[Bd.size];omega) D3 CZ OA
  refine hN _ _ (aE fun N hN=>?_)
  walk_at "x"
  simp only[Fi,Fj,E5]
  have ei:Q (Bd.zc ta tb).pv S3:=k (.zc ta tb) S3 l3 ⟨ga,gb⟩ (by simp only[Bd.dep];omega) p0 (by simp only[Bd.size];omega) D3 CZ OA
  split
  ·rw[if_pos trivial];exact ei
  split
  ·exact ei
  rename_i hz8 hz
  refine hN _ _ (aE fun N hN=>?_)
  walk_at "x"
  refine xX D3 (by decide) (by decide) fun r2 S4 e0 e1 D4 O4 p hp=>xX (D4.new hp) (by decide) (by decide) fun r3 S5 b0 b1 D5 O5=>?_
  have dp:=D4.free hp
  have hp3:=O5 _ _ (ac (S:=S4) (o:=.lst [.int 1,.int 1,.int 2,.int (1+r2)])) dp.1 dp.2
  simp only[hp3]
  obtain⟨v,hv,hm⟩:=eZ (xs:=[PV.int 1,.int 1,.int 2,.int (1+r2)]) b0 (by simpa using b1)
  rw[hv]
  obtain⟨m,rfl,m0,m1⟩:∃m,v = .int m/\1<=m/\m<=9:=by
   simp only[Fg,HU,or_false]at hm
   rcases hm with rfl|rfl|rfl|rfl
   ·exact⟨1,rfl,by omega,by omega⟩
   ·exact⟨1,rfl,by omega,by omega⟩
   ·exact⟨2,rfl,by omega,by omega⟩
   ·exact⟨1+r2,rfl,by omega,by omega⟩
  refine hN _ _ ?_
  walk_at "x"
  simp only[E5]
  refine xX D5 (by omega) (by omega) fun r4 S6 c0 c1 D6 O6=>?_
  obtain⟨w,hw,CV⟩:=eZ (xs:=js.map PV.str) c0 (by rw[E5];exact c1)
  dsimp only
  rw[hw]
  obtain⟨z,hz,rfl⟩:=Fz.mp CV
  have C0:=O4 _ _ CZ hxd AQ
  have Er:x≠p:=fun e=>by rw[e,hp]at C0;cases C0
  have Es:=O6 _ _ (O5 _ _ (show aR S4 p _ x=some (.lst [.int l3]) by rw[am Er];exact C0) hxd AQ) hxd AQ
  exact k (.zf z m ta tb) S6 l3 ⟨hz,m0,m1,ga,gb⟩ (by simp only[Bd.dep];omega) p0 (by simp only[Bd.size];omega) D6 Es (OA.trans (O4.x.trans ((yk.new hp).x.trans (O5.x.trans O6.x))))
end C
local macro_rules | `(tactic| walk_at "w")=>`(tactic| simp only [L3.ah,L3.aw,L3.aJ,L3.bW,L3.cC,L3.be,L3.aj,L3.v3,L3.c3,L3.lk,L3.aq,L3.ai,L3.aa,L3.gq,L3.a_,L3.fy,L3.ku,L3.nA,L3.nE,L3.jo,L3.md,L3.gN,L3.ay,L3.b8,L3.qP,L3.jV,L3.al,L3.f8,L3.aS,L3.jX,L3.fj,L3.fA,L3.dh,L3.dB,L3.ck,L3.d8,L3.eS,L3.nS,L3.nT,L3.mh,L3.vf,L3.ce,L3.aQ,L3.f_,L3.bx,L3.gL,L3.aU,L3.fz,List.set_cons_zero,List.set_cons_succ,List.set_nil,L3.p6,L3.fE,L3.ma,L3.a8,L3.aX,L3.bS,L3.dF,L3.fF,L3.Tg.put,L3.Tg.yP,L3.me,L3.j3,L3.fH,L3.j4,L3.gg,L3.cM,L3.bz,List.reduceReplicate,Fd,Gn,List.cons_append,List.nil_append,L3.ic,L3.kx,L3.v1,L3.s_,L3.td,L3.tj,L3.tm,L3.tq,L3.tw,L3.tz,L3.tD,L3.tE,L3.aM,String.reduceEq,HQ,decide_false,Fi,Bool.true_bne,HR,Bool.not_false,G6,GB,Fx,reduceIte,ite_true,ite_false])
local macro_rules | `(tactic| walk_at "y")=>`(tactic| ((try walk_at "x"); (try walk_at "w")))
namespace C
open PySem L2 L3 Wd
noncomputable def Bd.xY:Bd->Nat
 | .xZ a b=>a.xY * b.xY
 | .zc a b=>a.xY+b.xY
 | .zf _ _ a b=>a.xY+b.xY
 |_=>1
noncomputable def Bd.yb:Bd->Nat
 | .zm a=>a.xY+a.yb
 | .xZ a b=>a.yb+b.yb
 | .zc a b=>a.yb+b.yb
 | .zf _ _ a b=>a.yb+b.yb
 |_=>0
theorem Bd.yp:∀t:Bd,t.xY<=2 ^ t.size
 | .rest=>by simp[Bd.xY,Bd.size]
 | .pay _ _=>by simp[Bd.xY,Bd.size]
 | .put _ _=>by simp[Bd.xY,Bd.size]
 | .use _=>by simp[Bd.xY,Bd.size]
 | .zm a=>by simp only[Bd.xY,Bd.size];exact Nat.one_le_two_pow
 | .xZ a b=>by
  simp only[Bd.xY,Bd.size]
  refine Fc (Nat.mul_le_mul a.yp b.yp) ?_
  rw[<-Nat.pow_add]
  exact F3 (by decide) (by omega)
 | .zc a b=>by
  simp only[Bd.xY,Bd.size]
  have h1:2 ^ a.size<=2 ^ (a.size+b.size):=F3 (by decide) (by omega)
  have h2:2 ^ b.size<=2 ^ (a.size+b.size):=F3 (by decide) (by omega)
  have:=a.yp
  have:=b.yp
  rw[Nat.pow_succ]
  omega
 | .zf _ _ a b=>by
  simp only[Bd.xY,Bd.size]
  have h1:2 ^ a.size<=2 ^ (a.size+b.size):=F3 (by decide) (by omega)
  have h2:2 ^ b.size<=2 ^ (a.size+b.size):=F3 (by decide) (by omega)
  have:=a.yp
  have:=b.yp
  rw[Nat.pow_succ]
  omega
def Bd.Ar{t:Bd}(h:t.size<=60):(t.xY:Int) < 2 ^ 64:=by
 have h1:=t.yp
 have h2:2 ^ t.size<=2 ^ 60:=F3 (by decide) h
 omega
abbrev bL(n:Nat)(w:aH):Prop:=∀{S:ap} {t:Bd} {Q:bY} {E:de},t.dep<=n->t.size<=60->Q (.int t.xY) S->w [t.pv] S Q E
def mw{s0:aH}(n:Nat)(ih:bL n s0):bL (n+1) (bC 1 (bA s0)):=by
 intro S t Q E hd hs k
 unfold bA
 refine iX ?_
 rw[show aA 1 [t.pv]=[some t.pv] from rfl]
 cases t with
 |xZ a b=>
  simp only[Bd.dep,Bd.size]at hd hs
  simp only[Bd.pv]
  walk_at "w"
  refine ih (by omega) (by omega) (ih (by omega) (by omega) ⟨sY (by omega) (Bd.Ar (by omega)),?_⟩)
  simpa [Bd.xY]using k
 |zc a b=>
  simp only[Bd.dep,Bd.size]at hd hs
  simp only[Bd.pv]
  walk_at "w"
  refine ih (by omega) (by omega) (ih (by omega) (by omega) ?_)
  simpa [Bd.xY]using k
 |zf z m a b=>
  simp only[Bd.dep,Bd.size]at hd hs
  simp only[Bd.pv]
  walk_at "w"
  refine ih (by omega) (by omega) (ih (by omega) (by omega) ?_)
  simpa [Bd.xY]using k
 |_=>
  simp only[Bd.pv]
  walk_at "w"
  exact k
abbrev cW(n:Nat)(w:aH):Prop:=∀{S:ap} {t:Bd} {Q:bY} {E:de},t.dep<=n->t.size<=60->Q (.int t.yb) S->w [t.pv] S Q E
def e_:∀y∈(["then","either","take"]:Vs),PyData.strOk y=true:=by decide +kernel
def fb:∀y∈(["rest","pay","put","use","often","then","either","take"]:Vs),PyData.strOk y=true:=by decide +kernel
def mx{x0 s0:aH}(n m:Nat)(hp:bL m x0)(ih:cW n s0)(hnm:n<=m):cW (n+1) (bC 1 (bt x0 s0)):=by
 intro S t Q E hd hs k
 unfold bt
 refine iX ?_
 rw[show aA 1 [t.pv]=[some t.pv] from rfl]
 have e3:[PV.str "then",PV.str "either",PV.str "take"]=(["then","either","take"]:Vs).map PV.str:=rfl
 cases t with
 |zm a=>
  simp only[Bd.dep,Bd.size]at hd hs
  simp only[Bd.pv]
  walk_at "y"
  refine hp (by omega) (by omega) (ih (by omega) (by omega) ?_)
  simpa [Bd.yb]using k
 |xZ a b=>
  simp only[Bd.dep,Bd.size]at hd hs
  simp only[Bd.pv]
  walk_at "y"
  rw[e3]
  refine cH (fb _ (by simp)) e_ ?_
  simp[aM]
  refine ih (by omega) (by omega) (ih (by omega) (by omega) ?_)
  simpa [Bd.yb]using k
 |zc a b=>
  simp only[Bd.dep,Bd.size]at hd hs
  simp only[Bd.pv]
  walk_at "y"
  rw[e3]
  refine cH (fb _ (by simp)) e_ ?_
  simp[aM]
  refine ih (by omega) (by omega) (ih (by omega) (by omega) ?_)
  simpa [Bd.yb]using k
 |zf z m a b=>
  simp only[Bd.dep,Bd.size]at hd hs
  simp only[Bd.pv]
  walk_at "y"
  rw[e3]
  refine cH (fb _ (by simp)) e_ ?_
  simp[aM]
  refine ih (by omega) (by omega) (ih (by omega) (by omega) ?_)
  simpa [Bd.yb]using k
 |_=>
  simp only[Bd.pv]
  walk_at "y"
  rw[e3]
  refine cH (fb _ (by simp)) e_ ?_
  simp[aM]
  simpa [Bd.yb]using k
abbrev cX(w:aH):Prop:=∀{S:ap} {d l:Addr} {js:Vs} {size bound:Int} {Q:bY} {E:de},x_ S d l->js.length < 2 ^ 61->1<=size->size<=60->
  (∀(t:Bd) S',t.good js []->t.dep<=6->t.size<=60->(t.size:Int)<=max size 4->((t.xY:Int)+t.yb<=bound\/(t.xY:Int)+t.yb<=2)->x_ S' d l->yk d l S S'->Q t.pv S')->w [.ref d,.tup (js.map PV.str),.int size,.int bound] S Q E
def jv{x0 x1 x2 x3:aH}(n:Nat)(hn:6<=n)(zT:e9 n x0)(BV:bL n x1)(BW:cW n x2)(y6:e7 x3):cX (bC 5 (bJ x0 x1 x2 x3)):=by
 intro S d l js size bound Q E D hj h1 h2 k
 unfold bJ
 refine iX ?_
 rw[show aA 5 [PV.ref d,PV.tup (js.map PV.str),PV.int size,PV.int bound]=[some (.ref d),some (.tup (js.map PV.str)),some (.int size),some (.int bound),none] from rfl]
 refine aE fun N hN=>?_
 walk_at "x"
 intro p hp
 have dp:=D.free hp
 refine zT (D.new hp) ac dp.1 dp.2 hj (by omega) (by omega) (by decide) (by omega) fun t S1 l1 hg hd q0 q1 D1 Ap O1=>?_
 have DC:yk d l S S1:=fun a o ha h1 h2=>O1 a o (by rw[am (fun e=>by rw[e,hp]at ha;cases ha)];exact ha) h1 h2 (fun e=>by rw[e,hp]at ha;cases ha)
 refine hN _ _ (aE fun N hN=>?_)
 simp only[cC,a_,aj,aa,aq,v3,lk,List.set_cons_zero,List.set_cons_succ,mh,aQ,dh]
 refine BV (by omega) (by omega) (BW (by omega) (by omega) ?_)
 simp only[Fj]
 split
 ·walk_at "x"
  refine y6 D1 hj fun t2 S2 hl2 AW D2 O2=>y6 D2 hj fun t3 S3 hl3 Eu D3 O3=>?_
  refine hN _ _ ?_
  walk_at "x"
  have e2:=Bd.zn hl2
  have e3:=Bd.zn hl3
  refine k (.xZ (.zm t2) t3) S3 ⟨AW,Eu⟩ (by simp only[Bd.dep];omega) (by simp only[Bd.size];omega) (by simp only[Bd.size];omega) (.inr ?_) D3 (DC.trans (O2.trans O3))
  have c2:t2.xY=1/\t2.yb=0:=by cases t2<;>first|exact⟨rfl,rfl⟩|exact hl2.elim
  have c3:t3.xY=1/\t3.yb=0:=by cases t3<;>first|exact⟨rfl,rfl⟩|exact hl3.elim
  simp only[Bd.xY,Bd.yb,c2,c3]
  decide
 ·rename_i hb
  walk_at "x"
  refine hN _ _ ?_
  walk_at "x"
  exact k t S1 hg (by omega) (by omega) (by omega) (.inl (by omega)) D1 DC
structure Sh (S:ap) (v:PV) (d:PyData) (n k:Nat):Prop where
 dat:Dat S v d
 lay:d.canLay0=true
 Bv:d.showable=true
 dep:d.depth<=k
 len:d.shown.length<=n
structure z6 (S:ap) (vs:List PV) (ds:List PyData) (n k:Nat):Prop where
 dat:y8 S vs ds
 lay:PyData.canLayAll0 ds=true
 Bv:PyData.showableAll ds=true
 dep:PyData.depthAll ds<=k
 len:piled (PyData.shownAll ds)<=n
def Sh.le{S:ap}{v:PV}{d:PyData}{n k m j:Nat}(h:Sh S v d n k)(a:n<=m)(b:k<=j):Sh S v d m j:=⟨h.dat,h.lay,h.Bv,Fc h.dep b,Fc h.len a⟩
def z6.le{S:ap}{v:List PV}{d:List PyData}{n k m j:Nat}(h:z6 S v d n k)(a:n<=m)(b:k<=j):z6 S v d m j:=⟨h.dat,h.lay,h.Bv,Fc h.dep b,Fc h.len a⟩
theorem Sh.int{S:ap}{i:Int}(h:i.natAbs.log2 < 1920):Sh S (.int i) (.int i) 1921 0:=
 ⟨.int i,by simp[PyData.canLay0],by simpa [PyData.showable]using h,by simp[PyData.depth],by rw[PyData.shown_int];exact PyProof.Rows.int_text_len_1921 h⟩
theorem Sh.str{S:ap}{z:Str}(h:PyData.strOk z=true):Sh S (.str z) (.str z) (10 * z.length+2) 0:=
 ⟨.str z,by simpa [PyData.canLay0]using h,by simp[PyData.showable],by simp[PyData.depth],by
  rw[PyData.shown_str]
  refine StrLaws.reprText_len z fun c hc=>?_
  have h3:=Array.all_eq_true_iff_forall_mem.mp h c (Array.mem_toList_iff.mp hc)
  have h4:c < 0x110000:=by simpa using h3
  have e:(16:Nat) ^ 8=4294967296:=by decide
  omega⟩
theorem z6.nil{S:ap}:z6 S [] [] 0 0:=⟨.nil,by simp[PyData.canLayAll0],by simp[PyData.showableAll],by simp[PyData.depthAll],by simp[PyData.shownAll,piled]⟩
theorem Sh.cons{S:ap}{v:PV}{d:PyData}{n k:Nat}{vs:List PV}{ds:List PyData}{m:Nat}(a:Sh S v d n k)(b:z6 S vs ds m k):z6 S (v::vs) (d::ds) (n+2+m) k:=
 ⟨.cons a.dat b.dat,by simp[PyData.canLayAll0,a.lay,b.lay],by simp[PyData.showableAll,a.Bv,b.Bv],by simp only[PyData.depthAll];exact Nat.max_le.mpr ⟨a.dep,b.dep⟩,by
  rw[PyData.shownAll_cons,piled_cons]
  have:=a.len
  have:=b.len
  omega⟩
theorem Sh.tup{S:ap}{n k:Nat}{vs:List PV}{ds:List PyData}(a:z6 S vs ds n k):Sh S (.tup vs) (.tuple ds) (n+3) (k+1):=
 ⟨.tup a.dat,by simp[PyData.canLay0,a.lay],by simp[PyData.showable,a.Bv],by simp only[PyData.depth];exact Gf a.dep,by
  rw[PyData.shown_tuple,strLen_append,strLen_append]
  have e1:((("(":String):Str)).length=1:=rfl
  have e3:(((if ds.length == 1 then ",)" else ")":String):Str)).length<=2:=by split<;>decide
  have q:=a.len
  rcases ds with _|⟨d,ds⟩
  ·have:(Str.join ", " (PyData.shownAll [])).length=0:=by simp[PyData.shownAll];rfl
   omega
  ·have:=join_length_add (PyData.shownAll (d::ds)) (by simp[PyData.shownAll])
   omega⟩
theorem z6.map{α:Type}{S:ap}{n k:Nat}(f:α->PV)(g:α->PyData):∀{xs:List α},(∀x∈xs,Sh S (f x) (g x) n k)->z6 S (xs.map f) (xs.map g) (xs.length * (n+2)) k
 |[],_=>z6.nil.le (FN _) (FN _)
 |x::r,h=>((h x (by simp)).cons (z6.map f g fun y hy=>h y (by simp[hy]))).le (by rw[Fe,Nat.succ_mul];omega) (E1 _)
def Sh.dict{S:ap}{v:PV}{d:PyData}{n k:Nat}(h:Sh S v d n k):d.hasDict=false:=PyData.hasDict_of_canLay d h.lay
def tF:(2:Nat) ^ 24<=sizeLine:=by decide
def kc{S:ap}{vs:List PV}{d:PyData}{n k:Nat}{Q:bY}(h:Sh S (.tup vs) d n k)(hn:n<=2 ^ 24)(hk:k<=100)(q:Q (.str d.shown) S):df [.tup vs] S Q:=by
 unfold df
 exact⟨d,h.dat,h.Bv,h.dict,Fc h.dep hk,Fc h.len (Fc hn tF),q⟩
def dQ{a b:Str}(neg:Bool){S:ap}{Q:bY}(q:Q (.bl (neg != decide (a=b))) S):ce neg (.str a) (.str b) S Q:=q
noncomputable def Bd.dt:Bd->PyData
 | .rest=>.tuple [.str "rest"]
 | .pay x y=>.tuple [.str "pay",.tuple [.int x,.int y]]
 | .put z m=>.tuple [.str "put",.str z,.int m]
 | .use z=>.tuple [.str "use",.str z]
 | .zm a=>.tuple [.str "often",a.dt]
 | .xZ a b=>.tuple [.str "then",a.dt,b.dt]
 | .zc a b=>.tuple [.str "either",a.dt,b.dt]
 | .zf z m a b=>.tuple [.str "take",.str z,.int m,a.dt,b.dt]
def my{i:Int}(h:i.natAbs < 2 ^ 64):i.natAbs.log2 < 1920:=by
 by_cases h0:i.natAbs=0
 ·rw[h0];decide
 ·exact(Nat.log2_lt h0).mpr (F5 h (Ht (by decide) (by decide)))
def Sh.w{S:ap}{z:Str}(h:y3 z):Sh S (.str z) (.str z) 62 0:=(Sh.str (fI h)).le (by have:=h.len;omega) (E1 _)
def Sh.s{S:ap}(z:String)(k:Nat)(h:PyData.strOk (z:Str)=true)(hl:(z:Str).length<=6):Sh S (.str z) (.str z) 62 k:=(Sh.str h).le (by omega) (FN _)
def z6.zU{S:ap}(k:Nat):z6 S [] [] 0 k:=.le .nil (E1 _) (FN _)
theorem Sh.i{S:ap}{i:Int}(h:i.natAbs < 2 ^ 64):Sh S (.int i) (.int i) 1921 0:=Sh.int (my h)
def oi{x y:Int}(h:qx x y):x.natAbs < 2 ^ 64:=by have:=h.x0;have:=h.x1;omega
def oj{x y:Int}(h:qx x y):y.natAbs < 2 ^ 64:=by have:=h.low.pos;have:=h.y1;omega
def vo{m:Int}(h:1<=m/\m<=9):m.natAbs < 2 ^ 64:=by omega
noncomputable def yy(p:Str×Bd):PV:=.tup [.str p.1,p.2.pv]
noncomputable def wT(p:Str×Bd):PyData:=.tuple [.str p.1,p.2.dt]
noncomputable def dj(js:Vs)(ds:List (Str×Bd)):PV:=.tup [.tup (js.map PV.str),.tup (ds.map yy)]
noncomputable def hdt(js:Vs)(ds:List (Str×Bd)):PyData:=.tuple [.tuple (js.map PyData.str),.tuple (ds.map wT)]
def x_.ext{S S':ap}{d l:Addr}(D:x_ S d l)(e:Ext S S'):x_ S' d l:=by
 obtain⟨s,n,f,D⟩:=D
 exact⟨s,n,f,e _ _ D.d,e _ _ D.l,D.s0,D.s1,D.nm,D.lf,D.ln⟩
def om{α:Type}{xs:List α}{n:Nat}(h:n<=xs.length):cy xs none (some (n:Int))=xs.take n:=by
 unfold cy
 rw[HT.jM,HT.gh,List.drop_zero,Hz h]
 rfl
def tG{α:Type}{xs:List α}{n:Nat}(h:n<=xs.length):cy xs (some (n:Int)) none=xs.drop n:=by
 unfold cy
 rw[HT.jM,HT.gh,Hz h,Hg]
 rw[FE]
 exact E1 _
noncomputable def Bd.sides:Bd->List Bd
 | .zm a=>[a]
 | .xZ a b=>[a,b]
 | .zc a b=>[a,b]
 | .zf _ _ a b=>[a,b]
 |_=>[]
abbrev i3(w:aH):Prop:=∀{S:ap} {t:Bd} {Q:bY} {E:de},Q (.tup (t.sides.map Bd.pv)) S->w [t.pv] S Q E
def zH:i3 (bC 1 eA):=by
 intro S t Q E k
 unfold eA
 refine iX ?_
 rw[show aA 1 [t.pv]=[some t.pv] from rfl]
 cases t<;>(unfold Bd.pv;walk_at "y"; simp only[lC,aj,v3,lk,c3,al,ic,f8,ai,aq,bx,k_SIDES_FROM,List.find?,sS,String.reduceEq,HQ,decide_false,Option.map,Option.getD];exact k)
noncomputable def heads:List Str:=["rest","pay","put","use","often","then","either","take"]
def mz:∀z∈heads,PyData.strOk z=true:=by decide +kernel
inductive y7 (S:ap) (d l:Addr) (us:Vs):PV->Prop
 |ref {a:Addr}:S a=some (.lst (us.map PV.str))->a≠d->a≠l->y7 S d l us (.ref a)
 |tup:y7 S d l us (.tup (us.map PV.str))
def y7.yA{S S':ap}{d l:Addr}{us:Vs}{v:PV}(h:y7 S d l us v)(O:yk d l S S'):y7 S' d l us v:=by
 cases h with
 |ref h h1 h2=>exact .ref (O _ _ h h1 h2) h1 h2
 |tup=>exact .tup
abbrev dR(n:Nat)(w:aH):Prop:=∀{S:ap} {d l:Addr} {js us:Vs} {t:Bd} {v:PV} {Q:bY} {E:de},x_ S d l->y7 S d l us v->0 < us.length->us.length < 2 ^ 61->t.dep<=n->t.good js []->
  (∀(u:Bd) S',u.good js us->u.dep=t.dep->u.size=t.size->x_ S' d l->yk d l S S'->Q u.pv S')->w [.ref d,t.pv,v] S Q E
section
variable {S:ap} {Q:bY} {i:Int} {xs:List PV} {b:Bool}
def tH:d6 [.int i,.ty "tuple"] S Q=Q (.bl false) S:=by simp[d6,nI,io,cN]
def on:d6 [.tup xs,.ty "tuple"] S Q=Q (.bl true) S:=by simp[d6,nI,io,cN]
def tI{z:Str}:d6 [.str z,.ty "tuple"] S Q=Q (.bl false) S:=by simp[d6,nI,io,cN]
end
noncomputable def Bd.hd:Bd->Str
 | .rest=>"rest" | .pay _ _=>"pay" | .put _ _=>"put" | .use _=>"use" | .zm _=>"often" | .xZ _ _=>"then" | .zc _ _=>"either" | .zf _ _ _ _=>"take"
noncomputable def Bd.tl:Bd->List PV
 | .rest=>[] | .pay x y=>[.tup [.int x,.int y]] | .put z m=>[.str z,.int m] | .use z=>[.str z] | .zm a=>[a.pv] | .xZ a b=>[a.pv,b.pv] | .zc a b=>[a.pv,b.pv] | .zf z m a b=>[.str z,.int m,a.pv,b.pv]
def Bd.zM(t:Bd):t.pv = .tup (.str t.hd::t.tl):=by cases t<;>rfl
def Bd.Ba(t:Bd):PyData.strOk t.hd=true:=by cases t<;>exact mz _ (by simp[heads,Bd.hd])
def Bd.AE(t:Bd):t.hd=("often":Str)↔∃a,t = .zm a:=by cases t<;>simp[Bd.hd,aM]
end C
namespace G51
open PySem L2 L3
noncomputable def b9(i:Nat):Stmt:=PySem.Challenge.pw_dueworth_k51_users_priced_and_joined.main.body.getD i (.Pass ⟨0,0,0,0⟩)
noncomputable def tJ:Stmt:=(ba (b9 5)).getD 0 (.Pass ⟨0,0,0,0⟩)
noncomputable def zV:CN:=⟨"without_use","deeds_without_uses.<locals>.without_use",bX tJ,ba tJ,az tJ,"bodies"⟩
noncomputable def tK:Pos:=⟨12,4,13,60⟩
structure Txt (P:Program) (w:World) (K:Vo) (mg:Vr) (base:Heap) (tc tp:Addr):Prop where
 tb:sX K mg base "deeds_without_uses" tc tp
 o_sides_of:bK K mg "sides_of" (b9 2) ["body"]
 o_changed:bK K mg "changed" (b9 3) ["body","change"]
 o_deeds_without_uses:bK K mg "deeds_without_uses" (b9 5) ["user","bodies"]
 o_priced:bK K mg "priced" (b9 6) ["user","prices"]
 o_joined:bK K mg "joined" (b9 7) ["user","house"]
 o__law_deal:bK K mg "_law_deal" (b9 9) ["_law_script","_law_base"]
 o__law_draw:bK K mg "_law_draw" (b9 10) ["_law_deal_here","_law_many"]
 o__law_low:bK K mg "_law_low" (b9 11) ["_law_top","_law_bottom"]
 o__law_words:bK K mg "_law_words" (b9 12) ["_law_deal_here","_law_many"]
 o__law_cost:bK K mg "_law_cost" (b9 13) ["_law_deal_here"]
 o__law_leaf:bK K mg "_law_leaf" (b9 14) ["_law_deal_here","_law_jars"]
 o__law_body:bK K mg "_law_body" (b9 15) ["_law_deal_here","_law_jars","_law_left","_law_down"]
 o__law_pass_count:bK K mg "_law_pass_count" (b9 16) ["_law_body_here"]
 o__law_round_count:bK K mg "_law_round_count" (b9 17) ["_law_body_here"]
 o__law_deed_body:bK K mg "_law_deed_body" (b9 18) ["_law_deal_here","_law_jars","_law_size","_law_bound"]
 o__law_house_of:bK K mg "_law_house_of" (b9 19) ["_law_deal_here","_law_jars","_law_names","_law_size","_law_bound"]
 o__law_used:bK K mg "_law_used" (b9 20) ["_law_deal_here","_law_body_here","_law_names"]
 o__law_two:bK K mg "_law_two" (b9 21) ["_law_deal_here"]
 o__law_uses:bK K mg "_law_uses" (b9 22) ["_law_body_here"]
 o__law_prices:bK K mg "_law_prices" (b9 23) ["_law_deal_here","_law_house","_law_user"]
 o__law_with:bK K mg "_law_with" (b9 24) ["_law_body_here","_law_answer"]
 o__law_due:bK K mg "_law_due" (b9 25) ["_law_user","_law_jars","_law_answer"]
 AF:mg "dict" = none
 zo:mg "isinstance" = none
 yN:mg "len" = none
 Bw:mg "list" = none
 Bb:mg "max" = none
 zp:mg "range" = none
 zv:mg "repr" = none
 Ac:mg "reversed" = none
 BX:mg "str" = none
 yu:mg "tuple" = none
 BY:mg "zip" = none
 zW:∃a,mg "SIDES_FROM" = some (.ref a)/\KD P w K a (C.k_SIDES_FROM.map fun kv=>(kv.1,V.int kv.2))
section
variable {P:Program} {w:World} {K:Vo} {mg:Vr} {base:Heap} {tc tp:Addr}
def wU:(["side","change"]:Vs).Nodup:=by decide +kernel
def wV:(["deed","without_use"]:Vs).Nodup:=by decide +kernel
def vp:(["name","cost"]:Vs).Nodup:=by decide +kernel
def vq:(["_law_one"]:Vs).Nodup:=by decide +kernel
def wW:(["_law_k","_law_deal_here","_law_letters"]:Vs).Nodup:=by decide +kernel
def wX:(["_law_j","_law_deal_here","_law_letters"]:Vs).Nodup:=by decide +kernel
def wY:(["_law_name","_law_bound","_law_deal_here","_law_jars","_law_names","_law_size"]:Vs).Nodup:=by decide +kernel
def vt:(["_law_name","_law_body_here","_law_deal_here","_law_names"]:Vs).Nodup:=by decide +kernel
def vv:(["_law_name","_law_other","_law_body_here"]:Vs).Nodup:=by decide +kernel
def vx:(["_law_name","_law_body_here","_law_answer"]:Vs).Nodup:=by decide +kernel
def qX:(["_law_name","_law_price"]:Vs).Nodup:=by decide +kernel
def g_:aH:=bC 1 C.eA
def ke(T:Txt P w K mg base tc tp):zi P w K mg base 1 "sides_of" 1 g_:=ip ["body"] T.o_sides_of (fun _ _ _ _ _ _ _ hr nd=>(ar (ax (bq (af 0) (bi (xO hr T.zW (bE hr (af 0)) (cB cG T.yN (l1 (af 0))))) dC)))) rfl
def aI:bp:=(aJ (nE (a_ (aj (ce false) (aj al (v3 0) (c3 (.int 0))) (c3 (.str "use")))) (aj al (v3 1) (aj al (v3 0) (c3 (.int 1)))) (v3 0)))
def aY:aH:=bC 2 aI
def bv(T:Txt P w K mg base tc tp):Aq P w K mg base 1 zV 1 aY:=xQ ["part","bodies"] ["part"] (hb:=fun _ _ _ _ _ us hl=>qW (P:=fun us=>bindArgs _ ⟨us,[]⟩=pure ((["part"]:Vs).zip us)) (fun _=>rfl) us hl) (e:=rfl) (fun _ _ _ _ _ _ _ _ hr nd=>(ar (ax (uY (iq hr (bE hr (af 0)) au) (gU hr (af 1) (bE hr (af 0))) (af 0)))))
def fL(Ad yn s0:aH):bp:=(ah (aw 2 (aa Ad [(v3 0)]))
  (ah (aw 3 (aS (v3 0) jX (fj (aj ck (ai bx [(v3 0)]) (ai bx [(v3 2)])))))
  (aJ (nZ 1 zV yn [(aj aQ (v3 3) (ai aU [(a8 (aX (v3 2)) (.n 0) di (aa s0 [(v3 0),(v3 1)]) 1 [1])]))]))))
noncomputable def d4:Nat->aH
 |0=>qi
 |n+1=>bC 4 (fL g_ aY (d4 n))
def i4:aH:=d4 12
def k6(T:Txt P w K mg base tc tp):zi P w K mg base 13 "changed" 2 i4:=j7 (b:=1) (r:=d4) T.o_changed (fun n R0=>ip ["body","change","sides","words"] T.o_changed (fun _ _ _ _ _ _ _ hr nd=>(ae (s4 2 nd (c4 (ke T) hr (l1 (af 0))))
  (ae (s4 3 nd (bq (af 0) dC (bi (aD eU (cB cG T.yN (l1 (af 0))) (cB cG T.yN (l1 (af 2)))))))
  (ar (ax (cV 1 (bv T) hr (l1 (aD aF (af 3) (cT cL T.yu (l1 (oU ["change"] 1 [1] ["side","change"] (ci (af 2)) (fun _=>(gn 0 wU)) (fun _=>ef) (fun _=>(c4 R0 hr (lc (af 0) (l1 (af 1)))))))))))))))) rfl) rfl rfl 12
def bg(As:aH):bp:=(ah (vj "deeds_without_uses" tK zV 1 2)
  (aJ (ai aU [(a8 (aX (aj al (v3 0) (c3 (.int 1)))) (.n 0) di (ay [(aj al (v3 0) (c3 (.int 0))),(aa As [(aj al (v3 0) (c3 (.int 1))),(v3 1)])]) 1 [2])])))
def aZ:aH:=bC 3 (bg i4)
def bG(T:Txt P w K mg base tc tp):zi P w K mg base 14 "deeds_without_uses" 2 aZ:=wQ ["user","bodies","without_use"] T.o_deeds_without_uses T.tb (fun _ _ _ _ _ _ hr nd=>(vk (nd:=zV) (i:=1) (j:=2) T.tb rfl nd (wP (ar (ax (cT cL T.yu (l1 (oU ["without_use"] 1 [2] ["deed","without_use"] (ci (bE hr (af 0))) (fun _=>(gn 0 wV)) (fun _=>ef) (fun _=>(aG (lc (bE hr (af 0)) (l1 (c4 (k6 T) hr (lc (bE hr (af 0)) (l1 (af 1)))))))))))))))) rfl
def hE(yd:aH):bp:=(ah (aw 2 (ai jt [(a8 (aX (v3 1)) (.tp (.cons (.n 0) (.cons (.n 1) .nil))) di (ay [(v3 0),(ay [(c3 (.str "pay")),(v3 1)])]) 2 [])]))
  (aJ (ay [(aj al (v3 0) (c3 (.int 0))),(aa yd [(v3 0),(v3 2)])])))
def kf:aH:=bC 3 (hE aZ)
def mB(T:Txt P w K mg base tc tp):zi P w K mg base 15 "priced" 2 kf:=ip ["user","prices","pays"] T.o_priced (fun _ _ _ _ _ _ _ hr nd=>(ae (s4 2 nd (cT (qm rfl) T.AF (l1 (oU [] 2 [] ["name","cost"] (ci (af 1)) (fun _=>(qT rfl (bj (gn 0 vp) (bj (gn 1 vp) fQ)))) (fun _=>ef) (fun _=>(aG (lc (af 0) (l1 (aG (lc au (l1 (af 1))))))))))))
  (ar (ax (aG (lc (bE hr (af 0)) (l1 (c4 (bG T) hr (lc (af 0) (l1 (af 2))))))))))) rfl
def hG(yd:aH):bp:=(aJ (ay [(aj aQ (aj al (v3 0) (c3 (.int 0))) (aj al (v3 1) (c3 (.int 0)))),(aa yd [(v3 0),(ai gr [(aj al (v3 1) (c3 (.int 1)))])])]))
def kg:aH:=bC 2 (hG aZ)
def mC(T:Txt P w K mg base tc tp):zi P w K mg base 15 "joined" 2 kg:=ip ["user","house"] T.o_joined (fun _ _ _ _ _ _ _ hr nd=>(ar (ax (aG (lc (aD aF (bE hr (af 0)) (bE hr (af 1))) (l1 (c4 (bG T) hr (lc (af 0) (l1 (cT (qr rfl) T.AF (l1 (bE hr (af 1))))))))))))) rfl
def fS:aH:=bC 5 C.dH
def jx(T:Txt P w K mg base tc tp):zi P w K mg base 1 "_law_deal" 2 fS:=ip ["_law_script","_law_base","_law_one","_law_some","_law_number"] T.o__law_deal (fun _ _ _ _ _ _ _ hr nd=>(ae (xm [] 1 [] ["_law_one"] 3 nd (ci (bq (af 0) (bi (af 1)) (bi ad))) (fun _=>(gn 0 vq)) (fun _=>ef) (fun _=>(cB (nH rfl) T.Bb (lc (af 0) (l1 (aD eU ad (af 0)))))))
  (ae (s4 4 nd (aD aF ad (af 1)))
  (ae (gR FY rfl (ci (af 3)) (gn 2 nd) (ar (s4 4 nd (aD dG (aD aF (aD em (af 4) ad) (aD dG (af 2) ad)) ad))))
  (ar (ax (sQ (jq au (af 4) (jq au ad (jq au (sT l7 rfl (oU [] 1 [] ["_law_one"] (ci (af 3)) (fun _=>(gn 0 vq)) (fun _=>(qU (bu wL (af 0) (aD vg ad ad) (br _)))) (fun _=>(af 0))) rfl T.Bw rfl T.Ac) sP)))))))))) rfl
def w__law_draw:aH:=bC 5 C.dI
def ag(T:Txt P w K mg base tc tp):zi P w K mg base 1 "_law_draw" 2 w__law_draw:=ip ["_law_deal_here","_law_many","_law_number","_law_one","_law_other"] T.o__law_draw (fun _ _ _ _ _ _ _ hr nd=>(ae (jp FY (pR (nC (iq hr (gU hr (af 0) au) ad) (nB (bu nU (cB cG T.yN (l1 (gU hr (af 0) au))) ad (br _))))) (ar (jZ (hu1 hr) (wO sV vc (gU hr (af 0) au)) (af 0) au)))
  (ae (s4 2 nd (gU hr (af 0) au))
  (ae (bD (bu nU (af 2) ad (br _)) (ae (jZ (hu1 hr) (aD jr (af 2) (af 1)) (af 0) au)
  (ar (ax (aD dG (af 2) (af 1))))) a7)
  (ae (s4 3 nd (aD dG (aD aF (aD em (gU hr (af 0) au) ad) ad) ad))
  (ae (jZ (hu1 hr) (aD dG (aD aF (aD em (af 3) ad) ad) ad) (af 0) au)
  (ae (s4 4 nd (aD dG (aD em (gU hr (af 0) au) (gU hr (af 0) au)) ad))
  (ar (ax (aD dG (aD aF (aD em (aD dG (aD em (af 3) (af 3)) ad) ad) (af 4)) (af 1))))))))))) rfl
def cY:aH:=bC 4 C.ez
def fT(T:Txt P w K mg base tc tp):zi P w K mg base 1 "_law_low" 2 cY:=ip ["_law_top","_law_bottom","_law_one","_law_other"] T.o__law_low (fun _ _ _ _ _ _ _ hr nd=>(ae (qS (i:=2) (j:=3) rfl nd rfl rfl (by decide) rfl rfl (lc (cB (nH rfl) T.Bb (lc (af 0) (l1 (aD eU ad (af 0))))) (l1 (af 1))))
  (ae (jp FY (bu nU (af 3) ad (br _)) (ar (qS (i:=2) (j:=3) rfl nd rfl rfl (by decide) rfl rfl (lc (af 3) (l1 (aD dG (af 2) (af 3)))))))
  (ar (ax (aG (lc (aD jr (af 0) (af 2)) (l1 (aD jr (af 1) (af 2)))))))))) rfl
def cZ:aH:=bC 11 (C.cP w__law_draw)
def ir(T:Txt P w K mg base tc tp):zi P w K mg base 2 "_law_words" 2 cZ:=ip ["_law_deal_here","_law_many","_law_letters","_law_taken","_law_k","_law_core","_law_at","_law_turn","_law_near","_law_found","_law_name"] T.o__law_words (fun _ _ _ _ _ _ _ hr nd=>(ae (s4 2 nd au)
  (ae (s4 3 nd (dA (lc au (lc au (lc au (lc au (lc au (lc au (lc au (lc au (lc au (l1 au))))))))))))
  (ae (s4 5 nd (sW lF nN au (l1 (oU ["_law_letters","_law_deal_here"] 1 [0,2] ["_law_k","_law_deal_here","_law_letters"] (dE rfl rfl T.zp (l1 (c4 (ag T) hr (lc (af 0) (l1 ad))))) (fun _=>(gn 0 wW)) (fun _=>ef) (fun _=>(gU hr (af 2) (c4 (ag T) hr (lc (af 1) (l1 ad)))))))))
  (ae (p8 (i:=6) (j:=7) (k:=8) rfl nd rfl rfl rfl rfl rfl rfl (aG (lc (c4 (ag T) hr (lc (af 0) (l1 (aD aF (cB cG T.yN (l1 (af 5))) ad)))) (lc (c4 (ag T) hr (lc (af 0) (l1 ad))) (l1 (uW (qQ (eV hr)) (c4 (ag T) hr (lc (af 0) (l1 ad))) ad (br _)))))))
  (ae (s4 9 nd (dA iM))
  (ae (gR FY rfl (dE rfl rfl T.zp (l1 (af 1))) (gn 4 nd) (ae (s4 10 nd (aD aF (aD aF (bq (af 5) dC (bi (af 6))) (gU hr (af 2) (aD dG (aD aF (af 7) (af 4)) ad))) (bq (af 5) (bi (af 6)) dC)))
  (ae (bD (uX (nz (af 8))) (ar (s4 10 nd (sW lF nN au (l1 (oU ["_law_letters","_law_deal_here"] 1 [0,2] ["_law_j","_law_deal_here","_law_letters"] (dE rfl rfl T.zp (l1 (aD aF ad (c4 (ag T) hr (lc (af 0) (l1 ad)))))) (fun _=>(gn 0 wX)) (fun _=>ef) (fun _=>(gU hr (af 2) (c4 (ag T) hr (lc (af 1) (l1 ad)))))))))) a7)
  (ae (jp FY (pR (jU (bu (iO (iU hr)) (af 10) (af 3) rfl) (gK (bu (iO (iU hr)) (af 10) (af 9) rfl)))) (ar (s4 10 nd (aD aF (gU hr (af 2) (aD dG (aD aF (sW nX p7 (af 2) (l1 (bE hr (af 10)))) ad) ad)) (bq (af 10) (bi ad) dC)))))
  (ar (jn (sW mo nM (af 9) (l1 (af 10)))))))))
  (ar (ax (af 9)))))))))) rfl
def cm:aH:=bC 2 (C.dJ w__law_draw cY)
def fc(T:Txt P w K mg base tc tp):zi P w K mg base 2 "_law_cost" 1 cm:=ip ["_law_deal_here","_law_form"] T.o__law_cost (fun _ _ _ _ _ _ _ hr nd=>(ae (s4 1 nd (c4 (ag T) hr (lc (af 0) (l1 ad))))
  (ae (bD (iq hr (af 1) ad) (ar (ax (aG (lc ad (l1 ad))))) a7)
  (ae (bD (bu mi (af 1) ad (br _)) (ar (ax (aG (lc (aD aF ad (c4 (ag T) hr (lc (af 0) (l1 ad)))) (l1 ad))))) a7)
  (ar (ax (c4 (fT T) hr (lc (c4 (ag T) hr (lc (af 0) (l1 ad))) (l1 (aD aF ad (c4 (ag T) hr (lc (af 0) (l1 ad))))))))))))) rfl
def cp:aH:=bC 4 (C.dL w__law_draw cm)
def c_(T:Txt P w K mg base tc tp):zi P w K mg base 3 "_law_leaf" 2 cp:=ip ["_law_deal_here","_law_jars","_law_form","_law_many"] T.o__law_leaf (fun _ _ _ _ _ _ _ hr nd=>(ae (s4 2 nd (c4 (ag T) hr (lc (af 0) (l1 ad))))
  (ae (bD (iq hr (af 2) ad) (ar (ax (aG (l1 au)))) a7)
  (ae (bD (pR (jU (bu mi (af 2) ad (br _)) (gK (iq hr (cB cG T.yN (l1 (af 1))) ad)))) (ar (ax (aG (lc au (l1 (c4 (fc T) hr (l1 (af 0)))))))) a7)
  (ae (s4 3 nd (gU hr (dA (lc ad (lc ad (l1 (aD aF ad (c4 (ag T) hr (lc (af 0) (l1 ad)))))))) (c4 (ag T) hr (lc (af 0) (l1 ad)))))
  (ar (ax (aG (lc au (lc (gU hr (af 1) (c4 (ag T) hr (lc (af 0) (l1 (cB cG T.yN (l1 (af 1))))))) (l1 (af 3)))))))))))) rfl
noncomputable def cq:Nat->aH
 |0=>qi
 |n+1=>bC 8 (C.dM w__law_draw cp (cq n))
def fU:aH:=cq 12
def jy(T:Txt P w K mg base tc tp):zi P w K mg base 15 "_law_body" 4 fU:=j7 (b:=3) (r:=cq) T.o__law_body (fun n R0=>ip ["_law_deal_here","_law_jars","_law_left","_law_down","_law_form","_law_one","_law_other","_law_many"] T.o__law_body (fun _ _ _ _ _ _ _ hr nd=>(ae (s4 4 nd (c4 (ag T) hr (lc (af 0) (l1 ad))))
  (ae (bD (pR (jU (iq hr (af 3) ad) (jU (bu mi (bE hr (af 2)) ad (br _)) (gK (bu mi (af 4) ad (br _)))))) (ar (ax (c4 (c_ T) hr (lc (af 0) (l1 (af 1)))))) a7)
  (ae (bD (bu mi (af 4) ad (br _)) (ae (jZ (hu1 hr) (aD eU (bE hr (af 2)) ad) (af 2) ad)
  (ar (ax (aG (lc au (l1 (c4 R0 hr (lc (af 0) (lc (af 1) (lc (af 2) (l1 (aD eU (af 3) ad)))))))))))) a7)
  (ae (jZ (hu1 hr) (aD eU (bE hr (af 2)) ad) (af 2) ad)
  (ae (s4 5 nd (c4 R0 hr (lc (af 0) (lc (af 1) (lc (af 2) (l1 (aD eU (af 3) ad)))))))
  (ae (s4 6 nd (c4 R0 hr (lc (af 0) (lc (af 1) (lc (af 2) (l1 (aD eU (af 3) ad)))))))
  (ae (bD (bu mi (af 4) ad (br _)) (ar (ax (aG (lc au (lc (af 5) (l1 (af 6))))))) a7)
  (ae (bD (pR (jU (iq hr (af 4) ad) (gK (iq hr (cB cG T.yN (l1 (af 1))) ad)))) (ar (ax (aG (lc au (lc (af 5) (l1 (af 6))))))) a7)
  (ae (s4 7 nd (gU hr (dA (lc ad (lc ad (lc ad (l1 (aD aF ad (c4 (ag T) hr (lc (af 0) (l1 ad))))))))) (c4 (ag T) hr (lc (af 0) (l1 ad)))))
  (ar (ax (aG (lc au (lc (gU hr (af 1) (c4 (ag T) hr (lc (af 0) (l1 (cB cG T.yN (l1 (af 1))))))) (lc (af 7) (lc (af 5) (l1 (af 6))))))))))))))))))) rfl) rfl rfl 12
noncomputable def bc:Nat->aH
 |0=>qi
 |n+1=>bC 1 (C.bA (bc n))
def bd:aH:=bc 12
def b_(T:Txt P w K mg base tc tp):zi P w K mg base 12 "_law_pass_count" 1 bd:=j7 (b:=0) (r:=bc) T.o__law_pass_count (fun n R0=>ip ["_law_body_here"] T.o__law_pass_count (fun _ _ _ _ _ _ _ hr nd=>(ae (bD (iq hr (bE hr (af 0)) au) (ar (ax (aD em (c4 R0 hr (l1 (bE hr (af 0)))) (c4 R0 hr (l1 (bE hr (af 0))))))) a7)
  (ae (bD (pR (jU (iq hr (bE hr (af 0)) au) (gK (iq hr (bE hr (af 0)) au)))) (ar (ax (aD aF (c4 R0 hr (l1 (gU hr (af 0) (pS jj ad)))) (c4 R0 hr (l1 (gU hr (af 0) (pS jj ad))))))) a7)
  (ar (ax ad))))) rfl) rfl rfl 12
noncomputable def bb:Nat->aH
 |0=>qi
 |n+1=>bC 1 (C.bt bd (bb n))
def cb:aH:=bb 12
def d9(T:Txt P w K mg base tc tp):zi P w K mg base 24 "_law_round_count" 1 cb:=j7 (b:=12) (r:=bb) T.o__law_round_count (fun n R0=>ip ["_law_body_here"] T.o__law_round_count (fun _ _ _ _ _ _ _ hr nd=>(ae (bD (iq hr (bE hr (af 0)) au) (ar (ax (aD aF (c4 (b_ T) hr (l1 (bE hr (af 0)))) (c4 R0 hr (l1 (bE hr (af 0))))))) a7)
  (ae (bD (bu (iO (iU hr)) (bE hr (af 0)) (aG (lc au (lc au (l1 au)))) rfl) (ar (ax (aD aF (c4 R0 hr (l1 (gU hr (af 0) (pS jj ad)))) (c4 R0 hr (l1 (gU hr (af 0) (pS jj ad))))))) a7)
  (ar (ax ad))))) rfl) rfl rfl 12
def bM:aH:=bC 5 (C.bJ fU bd cb cp)
def fe(T:Txt P w K mg base tc tp):zi P w K mg base 25 "_law_deed_body" 4 bM:=ip ["_law_deal_here","_law_jars","_law_size","_law_bound","_law_body_here"] T.o__law_deed_body (fun _ _ _ _ _ _ _ hr nd=>(ae (s4 4 nd (c4 (jy T) hr (lc (af 0) (lc (af 1) (lc (dA (l1 (aD eU (af 2) ad))) (l1 ad))))))
  (ae (bD (bu nU (aD aF (c4 (b_ T) hr (l1 (af 4))) (c4 (d9 T) hr (l1 (af 4)))) (af 3) (br _)) (ar (s4 4 nd (aG (lc au (lc (aG (lc au (l1 (c4 (c_ T) hr (lc (af 0) (l1 (af 1))))))) (l1 (c4 (c_ T) hr (lc (af 0) (l1 (af 1)))))))))) a7)
  (ar (ax (af 4)))))) rfl
def bV(zw:aH):bp:=(ah (aw 5 (a8 (aX (v3 2)) (.n 0) di (aa zw [(v3 2),(v3 3),(v3 5),(aj eS (v3 1) (ai bx [(v3 4)]))]) 1 [4,0,1,2,3]))
  (aJ (ay [(v3 1),(nW (v3 2) (v3 5))])))
def dg:aH:=bC 6 (bV bM)
def cI(T:Txt P w K mg base tc tp):zi P w K mg base 26 "_law_house_of" 5 dg:=ip ["_law_deal_here","_law_jars","_law_names","_law_size","_law_bound","_law_bodies"] T.o__law_house_of (fun _ _ _ _ _ _ _ hr nd=>(ae (xm ["_law_size","_law_names","_law_jars","_law_deal_here","_law_bound"] 1 [4,0,1,2,3] ["_law_name","_law_bound","_law_deal_here","_law_jars","_law_names","_law_size"] 5 nd (ci (af 2)) (fun _=>(gn 0 wY)) (fun _=>ef) (fun _=>(c4 (fe T) hr (lc (af 2) (lc (af 3) (lc (af 5) (l1 (aD jr (af 1) (cB cG T.yN (l1 (af 4)))))))))))
  (ar (ax (aG (lc (af 1) (l1 (sU rfl rfl rfl rfl T.yu rfl T.BY (lc (af 2) (l1 (af 5))))))))))) rfl
def dS(xW s0:aH):bp:=(ah (cC (a_ (aj (kR false) (aj al (v3 1) (c3 (.int 0))) (ay [(c3 (.str "rest")),(c3 (.str "pay")),(c3 (.str "put"))]))) (ah (cC (a_ (aj (ce false) (aa xW [(v3 0),(c3 (.int 2))]) (c3 (.int 0)))) (aJ (v3 1)) be)
  (aJ (ay [(c3 (.str "use")),(aj al (v3 2) (aa xW [(v3 0),(ai bx [(v3 2)])]))]))) be)
  (ah (cC (a_ (aj (ce false) (aj al (v3 1) (c3 (.int 0))) (c3 (.str "take")))) (ah (aw 3 (aa s0 [(v3 0),(aj al (v3 1) (c3 (.int 3))),(v3 2)]))
  (aJ (aj aQ (aS (v3 1) jX (fj (c3 (.int 3)))) (ay [(v3 3),(aa s0 [(v3 0),(aj al (v3 1) (c3 (.int 4))),(v3 2)])])))) be)
  (ah (cC (a_ (aj (ce false) (aj al (v3 1) (c3 (.int 0))) (c3 (.str "often")))) (aJ (ay [(c3 (.str "often")),(aa s0 [(v3 0),(aj al (v3 1) (c3 (.int 1))),(v3 2)])])) be)
  (ah (aw 3 (aa s0 [(v3 0),(aj al (v3 1) (c3 (.int 1))),(v3 2)]))
  (aJ (ay [(aj al (v3 1) (c3 (.int 0))),(v3 3),(aa s0 [(v3 0),(aj al (v3 1) (c3 (.int 2))),(v3 2)])]))))))
noncomputable def cr:Nat->aH
 |0=>qi
 |n+1=>bC 4 (dS w__law_draw (cr n))
def dU:aH:=cr 12
def jz(T:Txt P w K mg base tc tp):zi P w K mg base 13 "_law_used" 3 dU:=j7 (b:=1) (r:=cr) T.o__law_used (fun n R0=>ip ["_law_deal_here","_law_body_here","_law_names","_law_one"] T.o__law_used (fun _ _ _ _ _ _ _ hr nd=>(ae (bD (bu (iO (iU hr)) (bE hr (af 1)) (aG (lc au (lc au (l1 au)))) rfl) (ae (bD (iq hr (c4 (ag T) hr (lc (af 0) (l1 ad))) ad) (ar (ax (af 1))) a7)
  (ar (ax (aG (lc au (l1 (gU hr (af 2) (c4 (ag T) hr (lc (af 0) (l1 (cB cG T.yN (l1 (af 2))))))))))))) a7)
  (ae (bD (iq hr (bE hr (af 1)) au) (ae (s4 3 nd (c4 R0 hr (lc (af 0) (lc (bE hr (af 1)) (l1 (af 2))))))
  (ar (ax (aD aF (bq (af 1) dC (bi ad)) (aG (lc (af 3) (l1 (c4 R0 hr (lc (af 0) (lc (bE hr (af 1)) (l1 (af 2)))))))))))) a7)
  (ae (bD (iq hr (bE hr (af 1)) au) (ar (ax (aG (lc au (l1 (c4 R0 hr (lc (af 0) (lc (bE hr (af 1)) (l1 (af 2)))))))))) a7)
  (ae (s4 3 nd (c4 R0 hr (lc (af 0) (lc (bE hr (af 1)) (l1 (af 2))))))
  (ar (ax (aG (lc (bE hr (af 1)) (lc (af 3) (l1 (c4 R0 hr (lc (af 0) (lc (bE hr (af 1)) (l1 (af 2)))))))))))))))) rfl) rfl rfl 12
def eC(zX xW yV z7:aH):bp:=(ah (aw 1 (aa zX [(v3 0),(c3 (.int 16))]))
  (ah (aw 2 (aS (v3 1) (fj (c3 (.int 4))) (fj (aj aQ (c3 (.int 5)) (aa xW [(v3 0),(c3 (.int 4))])))))
  (ah (aw 3 (aa yV [(v3 0),(ai aU [(aS (v3 1) jX (fj (aa xW [(v3 0),(c3 (.int 5))])))]),(v3 2),(c3 (.int 8)),(c3 (.int 24))]))
  (ah (aw 4 (aj al (b8 [(c3 (.int 12)),(c3 (.int 12)),(c3 (.int 4)),(c3 (.int 0))]) (aa xW [(v3 0),(c3 (.int 4))])))
  (ah (aw 5 (aS (v3 1) (fj (v3 4)) (fj (aj aQ (aj aQ (v3 4) (c3 (.int 1))) (aa xW [(v3 0),(c3 (.int 4))])))))
  (ah (aw 6 (aa yV [(v3 0),(ai aU [(aS (v3 1) (fj (c3 (.int 8))) (fj (aj aQ (c3 (.int 8)) (aa xW [(v3 0),(c3 (.int 5))]))))]),(v3 5),(c3 (.int 12)),(c3 (.int 24))]))
  (ah (aw 7 (ai aU [(a8 (aX (aj al (v3 6) (c3 (.int 1)))) (.tp (.cons (.n 0) (.cons (.n 1) .nil))) di (ay [(v3 0),(aa z7 [(v3 2),(v3 1),(v3 3)])]) 2 [0,2])]))
  (aJ (ay [(v3 3),(ay [(aj al (v3 6) (c3 (.int 0))),(v3 7)])])))))))))
def eE:aH:=bC 8 (eC cZ w__law_draw dg dU)
def kh(T:Txt P w K mg base tc tp):zi P w K mg base 27 "_law_two" 1 eE:=ip ["_law_deal_here","_law_words_here","_law_names","_law_house","_law_first","_law_own","_law_plain","_law_deeds"] T.o__law_two (fun _ _ _ _ _ _ _ hr nd=>(ae (s4 1 nd (c4 (ir T) hr (lc (af 0) (l1 ad))))
  (ae (s4 2 nd (bq (af 1) (bi ad) (bi (aD aF ad (c4 (ag T) hr (lc (af 0) (l1 ad)))))))
  (ae (s4 3 nd (c4 (cI T) hr (lc (af 0) (lc (cT cL T.yu (l1 (bq (af 1) dC (bi (c4 (ag T) hr (lc (af 0) (l1 ad))))))) (lc (af 2) (lc ad (l1 ad)))))))
  (ae (s4 4 nd (gU hr (dA (lc ad (lc ad (lc ad (l1 ad))))) (c4 (ag T) hr (lc (af 0) (l1 ad)))))
  (ae (s4 5 nd (bq (af 1) (bi (af 4)) (bi (aD aF (aD aF (af 4) ad) (c4 (ag T) hr (lc (af 0) (l1 ad)))))))
  (ae (s4 6 nd (c4 (cI T) hr (lc (af 0) (lc (cT cL T.yu (l1 (bq (af 1) (bi ad) (bi (aD aF ad (c4 (ag T) hr (lc (af 0) (l1 ad)))))))) (lc (af 5) (lc ad (l1 ad)))))))
  (ae (s4 7 nd (cT cL T.yu (l1 (oU ["_law_names","_law_deal_here"] 2 [0,2] ["_law_name","_law_body_here","_law_deal_here","_law_names"] (ci (bE hr (af 6))) (fun _=>(qT rfl (bj (gn 0 vt) (bj (gn 1 vt) fQ)))) (fun _=>ef) (fun _=>(aG (lc (af 0) (l1 (c4 (jz T) hr (lc (af 2) (lc (af 1) (l1 (af 3)))))))))))))
  (ar (ax (aG (lc (af 3) (l1 (aG (lc (bE hr (af 6)) (l1 (af 7))))))))))))))))) rfl
def dW(s0:aH):bp:=(ah (cC (a_ (aj (ce false) (aj al (v3 0) (c3 (.int 0))) (c3 (.str "use")))) (aJ (b8 [(aj al (v3 0) (c3 (.int 1)))])) be)
  (ah (aw 1 (b8 []))
  (ah (dF (aX (aS (v3 0) (fj (c3 (.int 1))) jX)) (.n 2) (cC (fy (a_ (ai d6 [(v3 2),(c3 (.ty "tuple"))])) (fy (a_ (aj mh (ai bx [(v3 2)]) (c3 (.int 0)))) (a_ (ai d6 [(aj al (v3 2) (c3 (.int 0))),(c3 (.ty "str"))])))) (bW (gq "list" bz (v3 1) [(aa s0 [(v3 2)])])) be))
  (aJ (v3 1)))))
noncomputable def cu:Nat->aH
 |0=>qi
 |n+1=>bC 3 (dW (cu n))
def fV:aH:=cu 12
def jA(T:Txt P w K mg base tc tp):zi P w K mg base 12 "_law_uses" 1 fV:=j7 (b:=0) (r:=cu) T.o__law_uses (fun n R0=>ip ["_law_body_here","_law_found","_law_part"] T.o__law_uses (fun _ _ _ _ _ _ _ hr nd=>(ae (bD (iq hr (bE hr (af 0)) au) (ar (ax (dA (l1 (bE hr (af 0)))))) a7)
  (ae (s4 1 nd (dA iM))
  (ae (gR FY rfl (ci (bq (af 0) (bi ad) dC)) (gn 2 nd) (ar (bD (pR (nC (nz (cB qR T.zo (lc (af 2) (l1 (xn T.yu))))) (nC (bu nU (cB cG T.yN (l1 (af 2))) ad (br _)) (nB (nz (cB qR T.zo (lc (bE hr (af 2)) (l1 (xn T.BX))))))))) (ar (jn (sW iV jY (af 1) (l1 (c4 R0 hr (l1 (af 2))))))) a7)))
  (ar (ax (af 1))))))) rfl) rfl rfl 12
def cz(z8 xW yX zd:aH):bp:=(ah (aw 3 (b8 []))
  (ah (dF (aX (aj al (v3 2) (c3 (.int 1)))) (.tp (.cons (.n 4) (.cons (.n 5) .nil))) (bW (gq "list" bz (v3 3) [(aa z8 [(v3 5)])])))
  (ah (aw 6 (b8 []))
  (ah (dF (aX (aj al (v3 1) (c3 (.int 1)))) (.tp (.cons (.n 4) (.cons (.n 5) .nil))) (cC (ku (a_ (aj (kR false) (v3 4) (v3 3))) (a_ (aj (ce false) (aa xW [(v3 0),(c3 (.int 2))]) (c3 (.int 0))))) (ah (aw 7 (aj al (b8 [(aa yX [(v3 0)]),(aa zd [(aa xW [(v3 0),(c3 (.int 1000001))]),(aj aQ (c3 (.int 1)) (aa xW [(v3 0),(c3 (.int 1000))]))])]) (aa xW [(v3 0),(c3 (.int 2))])))
  (bW (gq "list" d3 (v3 6) [(aa xW [(v3 0),(aj aQ (ai bx [(v3 6)]) (c3 (.int 1)))]),(ay [(v3 4),(v3 7)])]))) be))
  (aJ (ai aU [(v3 6)]))))))
def cA:aH:=bC 8 (cz fV w__law_draw cm cY)
def hJ(T:Txt P w K mg base tc tp):zi P w K mg base 13 "_law_prices" 3 cA:=ip ["_law_deal_here","_law_house","_law_user","_law_used_here","_law_name","_law_body_here","_law_found","_law_price"] T.o__law_prices (fun _ _ _ _ _ _ _ hr nd=>(ae (s4 3 nd (dA iM))
  (ae (gR FY rfl (ci (bE hr (af 2))) (qT rfl (bj (gn 4 nd) (bj (gn 5 nd) fQ))) (ar (jn (sW iV jY (af 3) (l1 (c4 (jA T) hr (l1 (af 5))))))))
  (ae (s4 6 nd (dA iM))
  (ae (gR FY rfl (ci (bE hr (af 1))) (qT rfl (bj (gn 4 nd) (bj (gn 5 nd) fQ))) (ar (bD (pR (jU (bu (iO (iU hr)) (af 4) (af 3) rfl) (gK (iq hr (c4 (ag T) hr (lc (af 0) (l1 ad))) ad)))) (ae (s4 7 nd (gU hr (dA (lc (c4 (fc T) hr (l1 (af 0))) (l1 (c4 (fT T) hr (lc (c4 (ag T) hr (lc (af 0) (l1 ad))) (l1 (aD aF ad (c4 (ag T) hr (lc (af 0) (l1 ad)))))))))) (c4 (ag T) hr (lc (af 0) (l1 ad)))))
  (ar (jn (sW mq nV (af 6) (lc (c4 (ag T) hr (lc (af 0) (l1 (aD aF (cB cG T.yN (l1 (af 6))) ad)))) (l1 (aG (lc (af 4) (l1 (af 7)))))))))) a7)))
  (ar (ax (cT cL T.yu (l1 (af 6)))))))))) rfl
def dX(s0:aH):bp:=(ah (cC (a_ (aj (ce false) (aj al (v3 0) (c3 (.int 0))) (c3 (.str "use")))) (aJ (aj al (a8 (aX (v3 1)) (.tp (.cons (.n 0) (.cons (.n 1) .nil))) (a_ (aj (ce false) (v3 0) (aj al (v3 2) (c3 (.int 1))))) (v3 1) 2 [0]) (c3 (.int 0)))) be)
  (ah (cC (a_ (aj (ce false) (aj al (v3 0) (c3 (.int 0))) (c3 (.str "take")))) (aJ (ay [(c3 (.str "take")),(aj al (v3 0) (c3 (.int 1))),(aj al (v3 0) (c3 (.int 2))),(aa s0 [(aj al (v3 0) (c3 (.int 3))),(v3 1)]),(aa s0 [(aj al (v3 0) (c3 (.int 4))),(v3 1)])])) be)
  (ah (cC (a_ (aj (ce false) (aj al (v3 0) (c3 (.int 0))) (c3 (.str "often")))) (aJ (ay [(c3 (.str "often")),(aa s0 [(aj al (v3 0) (c3 (.int 1))),(v3 1)])])) be)
  (ah (cC (a_ (aj (kR false) (aj al (v3 0) (c3 (.int 0))) (ay [(c3 (.str "then")),(c3 (.str "either"))]))) (aJ (ay [(aj al (v3 0) (c3 (.int 0))),(aa s0 [(aj al (v3 0) (c3 (.int 1))),(v3 1)]),(aa s0 [(aj al (v3 0) (c3 (.int 2))),(v3 1)])])) be)
  (aJ (v3 0))))))
noncomputable def cw:Nat->aH
 |0=>qi
 |n+1=>bC 2 (dX (cw n))
def fW:aH:=cw 12
def jB(T:Txt P w K mg base tc tp):zi P w K mg base 12 "_law_with" 2 fW:=j7 (b:=0) (r:=cw) T.o__law_with (fun n R0=>ip ["_law_body_here","_law_answer"] T.o__law_with (fun _ _ _ _ _ _ _ hr nd=>(ae (bD (iq hr (bE hr (af 0)) au) (ar (ax (bE hr (oU ["_law_body_here"] 2 [0] ["_law_name","_law_other","_law_body_here"] (ci (af 1)) (fun _=>(qT rfl (bj (gn 0 vv) (bj (gn 1 vv) fQ)))) (fun _=>(qU (iq hr (af 0) (bE hr (af 2))))) (fun _=>(af 1)))))) a7)
  (ae (bD (iq hr (bE hr (af 0)) au) (ar (ax (aG (lc au (lc (bE hr (af 0)) (lc (bE hr (af 0)) (lc (c4 R0 hr (lc (bE hr (af 0)) (l1 (af 1)))) (l1 (c4 R0 hr (lc (bE hr (af 0)) (l1 (af 1)))))))))))) a7)
  (ae (bD (iq hr (bE hr (af 0)) au) (ar (ax (aG (lc au (l1 (c4 R0 hr (lc (bE hr (af 0)) (l1 (af 1))))))))) a7)
  (ae (bD (bu (iO (iU hr)) (bE hr (af 0)) (aG (lc au (l1 au))) rfl) (ar (ax (aG (lc (bE hr (af 0)) (lc (c4 R0 hr (lc (bE hr (af 0)) (l1 (af 1)))) (l1 (c4 R0 hr (lc (bE hr (af 0)) (l1 (af 1)))))))))) a7)
  (ar (ax (af 0)))))))) rfl) rfl rfl 12
def eF(z9:aH):bp:=(aJ (ay [(aj aQ (aj al (v3 0) (c3 (.int 0))) (v3 1)),(ai aU [(a8 (aX (aj al (v3 0) (c3 (.int 1)))) (.tp (.cons (.n 0) (.cons (.n 1) .nil))) di (ay [(v3 0),(aa z9 [(v3 1),(v3 2)])]) 2 [2])])]))
def hU:aH:=bC 3 (eF fW)
def fX(T:Txt P w K mg base tc tp):zi P w K mg base 13 "_law_due" 3 hU:=ip ["_law_user","_law_jars","_law_answer"] T.o__law_due (fun _ _ _ _ _ _ _ hr nd=>(ar (ax (aG (lc (aD aF (bE hr (af 0)) (af 1)) (l1 (cT cL T.yu (l1 (oU ["_law_answer"] 2 [2] ["_law_name","_law_body_here","_law_answer"] (ci (bE hr (af 0))) (fun _=>(qT rfl (bj (gn 0 vx) (bj (gn 1 vx) fQ)))) (fun _=>ef) (fun _=>(aG (lc (af 0) (l1 (c4 (jB T) hr (lc (af 1) (l1 (af 2))))))))))))))))) rfl
def oq(z_ Ae zK zI AG AH:aH):bp:=(ah (aw 1 (aa z_ [(v3 0),(c3 (.int 0))]))
  (ah (dF (gg (c3 (.int 2))) (.n 2) (ah (me (aa Ae [(v3 1)]) (.tp (.cons (.n 3) (.cons (.n 4) .nil))))
  (ah (aw 5 (aa zK [(v3 1),(v3 3),(v3 4)]))
  (ah (aw 6 (ai df [(ay [(v3 3),(v3 4),(v3 5)])]))
  (ah (aw 7 (ai df [(aa zI [(v3 4),(ay []),(a8 (aX (v3 5)) (.tp (.cons (.n 0) (.cons (.n 1) .nil))) di (ay [(v3 0),(ay [(c3 (.str "pay")),(v3 1)])]) 2 [])])]))
  (ah (aw 8 (ai df [(aa zI [(v3 4),(aj al (v3 3) (c3 (.int 0))),(aj al (v3 3) (c3 (.int 1)))])]))
  (ah (dF (gg (c3 (.int 2))) (.n 9) (cC (ku (a_ (aj (ce true) (ai df [(aa AG [(v3 4),(v3 5)])]) (v3 7))) (a_ (aj (ce true) (ai df [(aa AH [(v3 4),(v3 3)])]) (v3 8)))) (aJ (c3 (.bl false))) be))
  (cC (a_ (aj (ce true) (ai df [(ay [(v3 3),(v3 4),(v3 5)])]) (v3 6))) (aJ (c3 (.bl false))) be))))))))
  (aJ (c3 (.bl true)))))
def ki:aH:=bC 10 (oq fS eE cA hU kf kg)
def tL(T:Txt P w K mg base tc tp){f:Addr}{fd:FuncData}(O:vY K mg "law" (b9 26) ["_law_script"] f fd):Bs P w K mg base 28 f fd ["_law_script"] ki:=xN ["_law_script","_law_deal_here","_law_k","_law_house","_law_user","_law_prices_here","_law_kept","_law_one","_law_other","_law_turn"] O (fun _ _ _ _ _ _ _ hr nd=>(ae (s4 1 nd (c4 (jx T) hr (lc (af 0) (l1 ad))))
  (ae (gR FY rfl (dE rfl rfl T.zp (l1 ad)) (gn 2 nd) (ae (ve (c4 (kh T) hr (l1 (af 1))) (qT rfl (bj (gn 3 nd) (bj (gn 4 nd) fQ))))
  (ae (s4 5 nd (c4 (hJ T) hr (lc (af 1) (lc (af 3) (l1 (af 4))))))
  (ae (s4 6 nd (cB (fB (eV hr) hr.gd) T.zv (l1 (aG (lc (af 3) (lc (af 4) (l1 (af 5))))))))
  (ae (s4 7 nd (cB (fB (eV hr) hr.gd) T.zv (l1 (c4 (fX T) hr (lc (af 4) (lc (aG iM) (l1 (oU [] 2 [] ["_law_name","_law_price"] (ci (af 5)) (fun _=>(qT rfl (bj (gn 0 qX) (bj (gn 1 qX) fQ)))) (fun _=>ef) (fun _=>(aG (lc (af 0) (l1 (aG (lc au (l1 (af 1))))))))))))))))
  (ae (s4 8 nd (cB (fB (eV hr) hr.gd) T.zv (l1 (c4 (fX T) hr (lc (af 4) (lc (bE hr (af 3)) (l1 (bE hr (af 3)))))))))
  (ae (gR FY rfl (dE rfl rfl T.zp (l1 ad)) (gn 9 nd) (ar (bD (pR (jU (wN hr (cB (fB (eV hr) hr.gd) T.zv (l1 (c4 (mB T) hr (lc (af 4) (l1 (af 5)))))) (af 7)) (gK (wN hr (cB (fB (eV hr) hr.gd) T.zv (l1 (c4 (mC T) hr (lc (af 4) (l1 (af 3)))))) (af 8))))) (ar (ax sC)) a7)))
  (ar (bD (wN hr (cB (fB (eV hr) hr.gd) T.zv (l1 (aG (lc (af 3) (lc (af 4) (l1 (af 5))))))) (af 6)) (ar (ax sC)) a7)))))))))
  (ar (ax sC))))) rfl
end
end G51
namespace G51
open PySem L2 L3 Wd
open C
def mE{c:fw}{t u:bp}{v:Bool}{σ:bF}{S:ap}{D:dv}(h:∀Q E,Q v S->c σ S Q E)(qt:v=true->t D σ S)(qf:v=false->u D σ S):cC c t u D σ S:=by
 refine h _ _ ?_
 cases v with
 |true=>rw[if_pos rfl];exact qt rfl
 |false=>rw[if_neg Ff];exact qf rfl
def bB{te:aO}{D:dv}{σ:bF}{S:ap}(h:te σ S D.rt D.ex):aJ te D σ S:=h
def fg{n:Nat}(h:n<=1000000):n<=sizeLine:=Fc h (by decide)
theorem bZ{α:Type}{g:Tg}{te:aO}{σ':bF}{keep:ap->Prop}{fin:List PV->ap->Prop}(enc f:α->PV){S0:ap}(hk:∀S,Ext S0 S->keep S):∀(xs:List α) (ys:List PV) (S:ap),Ext S0 S->ys.length+xs.length<=1000000->
  (∀x∈xs,∀S,Ext S0 S->∃σ2,g.put (enc x) σ'=some σ2/\∀K:bY,(∀S',Ext S S'->K (f x) S')->te σ2 S K eu)->
  (∀S',Ext S0 S'->fin (ys++xs.map f) S')->cj g di te σ' keep fin (xs.map enc) ys S
 |[],ys,S,X,hl,_,hf=>⟨hk S X,fg (by simpa using hl),by simpa using hf S X⟩
 |x::r,ys,S,X,hl,h,hf=>by
  obtain⟨σ2,e,h1⟩:=h x (by simp) S X
  refine⟨hk S X,fg (by simp at hl ⊢;omega),?_⟩
  rw[e]
  simp only[di,G6]
  refine h1 _ fun S' X'=>?_
  exact bZ enc f hk r (ys++[f x]) S' (X.trans X') (by simp at hl ⊢;omega) (fun y hy=>h y (by simp[hy])) fun S2 X2=>by simpa using hf S2 X2
noncomputable def _root_.C.Bd.sub(f:Str->Bd):Bd->Bd
 | .use z=>f z
 | .zm a=>.zm (a.sub f)
 | .xZ a b=>.xZ (a.sub f) (b.sub f)
 | .zc a b=>.zc (a.sub f) (b.sub f)
 | .zf z m a b=>.zf z m (a.sub f) (b.sub f)
 |t=>t
noncomputable def _root_.C.Bd.us:Bd->List Str
 | .use z=>[z]
 | .zm a=>a.us
 | .xZ a b=>a.us++b.us
 | .zc a b=>a.us++b.us
 | .zf _ _ a b=>a.us++b.us
 |_=>[]
noncomputable def _root_.C.Bd.wd:Bd->List PV
 | .rest=>[.str "rest"]
 | .pay x y=>[.str "pay",.tup [.int x,.int y]]
 | .put z m=>[.str "put",.str z,.int m]
 | .use z=>[.str "use",.str z]
 | .zm _=>[.str "often"]
 | .xZ _ _=>[.str "then"]
 | .zc _ _=>[.str "either"]
 | .zf z m _ _=>[.str "take",.str z,.int m]
noncomputable def _root_.C.Bd.rs(f:Str->Bd):Bd->Bd
 | .use z=>.use z
 |t=>t.sub f
def vy(t:Bd):t.pv = .tup (t.wd++t.sides.map Bd.pv):=by cases t<;>rfl
def vz(f:Str->Bd)(t:Bd):PV.tup (t.wd++t.sides.map fun s=>(s.sub f).pv)=(t.rs f).pv:=by cases t<;>rfl
def tM(t:Bd):t.wd.length<=3:=by cases t<;>simp[Bd.wd]
def ou(t:Bd):t.sides.length<=2:=by cases t<;>simp[Bd.sides]
def tN{t s:Bd}(h:s∈t.sides):s.dep < t.dep:=by
 cases t<;>simp[Bd.sides]at h
 all_goals first|(subst h;simp[Bd.dep])|(rcases h with rfl|rfl<;>simp[Bd.dep]<;>omega)
def vA{t s:Bd}(h:s∈t.sides){z:Str}(hz:z∈s.us):z∈t.us:=by
 cases t<;>simp[Bd.sides]at h
 all_goals first|(subst h;exact hz)|(rcases h with rfl|rfl<;>simp[Bd.us,hz])
def BD(S:ap)(a:Addr)(us:Vs)(f:Str->Bd):Prop:=∃kvs,S a=some (.dct kvs)/\∀z∈us,f9 kvs (Sum.inr z)=some (f z).pv
def BD.ext{S S':ap}{a:Addr}{us:Vs}{f:Str->Bd}(h:BD S a us f)(X:Ext S S'):BD S' a us f:=let ⟨k,h1,h2⟩:=h;⟨k,X _ _ h1,h2⟩
abbrev ox(w:aH):Prop:=∀{S:ap} {t:Bd} {a:Addr} {us:Vs} {f:Str->Bd} {Q:bY} {E:de},BD S a us f->(∀z∈t.us,z∈us)->Q (t.sub f).pv S->w [(t.rs f).pv,.ref a] S Q E
def vB:ox (bC 2 aI):=by
 intro S t a us f Q E ⟨kvs,ha,hd⟩ hu k
 unfold aI
 refine iX ?_
 rw[show aA 2 [(t.rs f).pv,PV.ref a]=[some (t.rs f).pv,some (.ref a)] from rfl]
 cases t with
 |use z=>
  have hz:=hd z (hu z (by simp[Bd.us]))
  simp only[Bd.rs,Bd.pv]
  walk_at "y"
  simp only[ha,f8,hz]
  exact k
 |rest=>simp only[Bd.rs,Bd.sub,Bd.pv];walk_at "y"; exact k
 |pay x y=>simp only[Bd.rs,Bd.sub,Bd.pv];walk_at "y"; exact k
 |put z m=>simp only[Bd.rs,Bd.sub,Bd.pv];walk_at "y"; exact k
 |zm b=>simp only[Bd.rs,Bd.sub,Bd.pv];walk_at "y"; exact k
 |xZ b c=>simp only[Bd.rs,Bd.sub,Bd.pv];walk_at "y"; exact k
 |zc b c=>simp only[Bd.rs,Bd.sub,Bd.pv];walk_at "y"; exact k
 |zf z m b c=>simp only[Bd.rs,Bd.sub,Bd.pv];walk_at "y"; exact k
abbrev gv(n:Nat)(w:aH):Prop:=∀{S:ap} {t:Bd} {a:Addr} {us:Vs} {f:Str->Bd} {Q:bY} {E:de},t.dep<=n->BD S a us f->(∀z∈t.us,z∈us)->(∀S',Ext S S'->Q (t.sub f).pv S')->w [t.pv,.clo zV (.ref a)] S Q E
def k7{xs xw s0:aH}(zH:i3 xs)(Bx:ox xw)(n:Nat)(ih:gv n s0):gv (n+1) (bC 4 (fL xs xw s0)):=by
 intro S t a us f Q E hd hD hu k
 unfold fL
 refine iX ?_
 rw[show aA 4 [t.pv,PV.clo zV (.ref a)]=[some t.pv,some (.clo zV (.ref a)),none,none] from rfl]
 refine aE fun N hN=>?_
 walk_at "x"
 refine zH ?_
 refine hN _ _ (aE fun N hN=>?_)
 rw[vy]
 simp only[aw,aS,jX,fj,aj,ai,aq,v3,lk,bx,ck,dh,fA,List.set_cons_succ,List.set_cons_zero]
 rw[show(((t.wd++t.sides.map Bd.pv).length:Int) - ((t.sides.map Bd.pv).length:Int))=((t.wd.length:Nat):Int) by rw[E6];omega,om (by rw[E6];omega),List.take_left]
 refine hN _ _ ?_
 refine bB ⟨_,rfl,?_⟩
 simp only[aq,aj,ai,v3,lk,a8,aX,bS]
 refine bZ (S0:=S) (Bd.pv) (fun s=>(s.sub f).pv) (fun S X=>trivial) t.sides [] S .refl (by have:=ou t;simp;omega) (fun s hs S1 X1=>⟨_,rfl,fun K hK=>?_⟩) fun S1 X1 p hp=>?_
 ·have hds:=tN hs
  exact ih (by omega) (hD.ext X1) (fun z hz=>hu z (vA hs hz)) hK
 ·simp only[aU,fz,ac,aQ,List.nil_append]
  have:=tM t
  have:=ou t
  refine⟨fg (by rw[E5];omega),?_⟩
  rw[vz]
  exact Bx ((hD.ext X1).ext (.new hp)) hu (k _ (X1.trans (.new hp)))
def Tb(S:ap):Prop:=∃a,S a=some (.tab "deeds_without_uses" tK zV.qual)
def Tb.ext{S S':ap}(h:Tb S)(X:Ext S S'):Tb S':=let ⟨a,e⟩:=h;⟨a,X _ _ e⟩
abbrev jC(w:aH):Prop:=∀{S:ap} {js:Vs} {ds:List (Str×Bd)} {a:Addr} {us:Vs} {f:Str->Bd} {Q:bY} {E:de},Tb S->ds.length<=1000->(∀p∈ds,p.2.dep<=12/\∀z∈p.2.us,z∈us)->BD S a us f->(∀S',Ext S S'->Q (.tup (ds.map fun p=>yy (p.1,p.2.sub f))) S')->w [dj js ds,.ref a] S Q E
def vC{xc:aH}(Af:gv 12 xc):jC (bC 3 (bg xc)):=by
 intro S js ds a us f Q E hT hl hds hD k
 unfold bg
 refine iX ?_
 rw[show aA 3 [dj js ds,PV.ref a]=[some (dj js ds),some (.ref a),none] from rfl]
 refine aE fun N hN=>⟨hT,_,rfl,hN _ _ ?_⟩
 refine bB ?_
 simp only[ai,aq,a8,aX,aj,v3,lk,c3,al,List.set_cons_succ,List.set_cons_zero]
 simp only[dj,kx,bS]
 refine bZ (S0:=S) yy (fun p=>yy (p.1,p.2.sub f)) (fun S X=>trivial) ds [] S .refl (by simp;omega) (fun p hp S1 X1=>⟨_,rfl,fun K hK=>?_⟩) fun S1 X1 q hq=>?_
 ·simp only[ay,aq,aj,aa,c3,al,v3,lk,yy,ic,kx]
  exact Af (hds p hp).1 (hD.ext X1) (hds p hp).2 fun S' X'=>hK S' X'
 ·simp only[aU,fz,ac,List.nil_append]
  exact k _ (X1.trans (.new hq))
theorem hV:∀(l acc:List (aN×PV)),((acc++l).map Prod.fst).Nodup->cO acc l=acc++l
 |[],acc,_=>by simp[cO]
 |(k,v)::l,acc,h=>by
  have hk:(acc.any fun kv=>decide (kv.1=k))=false:=by
   rw[List.any_eq_false]
   intro x hx
   rw[Fj]
   intro e
   rw[Gj,List.nodup_append]at h
   exact h.2.2 x.1 (HD hx) k (by simp) e
  show cO (gQ acc k v) l=_
  rw[gQ,hk,if_neg (by decide),hV l _ (by simpa using h)]
  simp
noncomputable def hW:List (Str×Bd)->Str->Bd
 |[],_=>.rest
 |p::r,z=>if p.1=z then p.2 else hW r z
noncomputable def vD(p:Str×Bd):aN×PV:=(Sum.inr p.1,p.2.pv)
theorem jD{z:Str}:∀{l:List (Str×Bd)},z∈l.map (·.1)->f9 (l.map vD) (Sum.inr z)=some (hW l z).pv
 |[],h=>by simp at h
 |p::r,h=>by
  show(if (Sum.inr p.1:aN)=Sum.inr z then _ else _)=_
  by_cases e:p.1=z
  ·rw[if_pos (by rw[e]),hW,if_pos e]
  ·rw[if_neg (fun q=>e (Sum.inr.inj q)),hW,if_neg e]
   exact jD ((Fg.mp h).resolve_left fun q=>e q.symm)
theorem jE{z:Str}:∀{l:List (Str×Bd)},z∈l.map (·.1)->(z,hW l z)∈l
 |[],h=>by simp at h
 |p::r,h=>by
  by_cases e:p.1=z
  ·rw[hW,if_pos e,<-e];exact .head _
  ·rw[hW,if_neg e];exact .tail _ (jE ((Fg.mp h).resolve_left fun q=>e q.symm))
theorem jF:∀l:List (Str×Bd),cR (l.map yy)=some (l.map vD)
 |[]=>rfl
 |p::r=>by
  show(match f8 (.str p.1),cR (r.map yy)with|some k,some l=>some ((k,p.2.pv)::l)|_,_=>none)=_
  rw[jF r]
  rfl
def oy{l:List (Str×Bd)}(h:(l.map (·.1)).Nodup):((([]:List (aN×PV))++l.map vD).map Prod.fst).Nodup:=by
 rw[Gw,F6,show(Prod.fst ∘ vD)=(Sum.inr ∘ fun p:Str×Bd=>p.1)from rfl,<-F6]
 exact h.map (f:=Sum.inr) fun a b e=>fun q=>e (Sum.inr.inj q)
noncomputable def ie(pr:List (Str×Int×Int)):List (Str×Bd):=pr.map fun p=>(p.1,.pay p.2.1 p.2.2)
noncomputable def lI(p:Str×Int×Int):PV:=.tup [.str p.1,.tup [.int p.2.1,.int p.2.2]]
def gw(pr:List (Str×Int×Int)):(ie pr).map (·.1)=pr.map (·.1):=by unfold ie;rw[F6];rfl
noncomputable abbrev lJ(l:List (Str×Bd))(ds:List (Str×Bd)):List (Str×Bd):=ds.map fun p=>(p.1,p.2.sub (hW l))
abbrev hZ(w:aH):Prop:=∀{S:ap} {js:Vs} {ds:List (Str×Bd)} {pr:List (Str×Int×Int)} {Q:bY} {E:de},Tb S->ds.length<=1000->pr.length<=1000->(pr.map (·.1)).Nodup->(∀p∈ds,p.2.dep<=12/\∀z∈p.2.us,z∈pr.map (·.1))->(∀S',Ext S S'->Q (dj js (lJ (ie pr) ds)) S')->w [dj js ds,.tup (pr.map lI)] S Q E
def zx{xd:aH}(zy:jC xd):hZ (bC 3 (hE xd)):=by
 intro S js ds pr Q E hT hl hp hn hu k
 unfold hE
 refine iX ?_
 rw[show aA 3 [dj js ds,PV.tup (pr.map lI)]=[some (dj js ds),some (.tup (pr.map lI)),none] from rfl]
 refine aE fun N hN=>?_
 simp only[aw,ai,aq,a8,aX,v3,lk,bS]
 refine bZ (S0:=S) lI (fun p=>yy (p.1,.pay p.2.1 p.2.2)) (fun S X=>trivial) pr [] S .refl (by simp;omega) (fun p hp S1 X1=>⟨_,rfl,fun K hK=>?_⟩) fun S1 X1 q hq=>?_
 ·simp only[ay,aq,c3,v3,lk]
  exact hK S1 .refl
 ·have e:pr.map (fun p=>yy (p.1,Bd.pay p.2.1 p.2.2))=(ie pr).map yy:=by unfold ie;rw[F6];rfl
  simp only[jt,ac,List.nil_append]
  rw[e,jF]
  intro r hr
  rw[hV _ _ (oy (by rw[gw];exact hn)),Gw]
  have X2:Ext S (aR (aR S1 q (.lst ((ie pr).map yy))) r (.dct ((ie pr).map vD))):=(X1.trans (.new hq)).trans (.new hr)
  refine hN _ _ (bB ?_)
  simp only[ay,aq,aj,aa,c3,al,v3,lk,List.set_cons_succ,List.set_cons_zero]
  rw[show dj js ds = .tup [.tup (js.map PV.str),.tup (ds.map yy)] from rfl]
  simp only[ic]
  refine zy (js:=js) (ds:=ds) (us:=pr.map (·.1)) (f:=hW (ie pr)) (hT.ext X2) hl hu ⟨_,ac,fun z hz=>jD (by rw[gw];exact hz)⟩ fun S3 X3=>?_
  have:=k S3 (X2.trans X3)
  rw[show dj js (lJ (ie pr) ds) = .tup [.tup (js.map PV.str),.tup ((lJ (ie pr) ds).map yy)] from rfl,F6]at this
  exact this
abbrev h_(w:aH):Prop:=∀{S:ap} {js ks:Vs} {ds es:List (Str×Bd)} {Q:bY} {E:de},Tb S->ds.length<=1000->es.length<=1000->js.length<=1000->ks.length<=1000->(es.map (·.1)).Nodup->(∀p∈ds,p.2.dep<=12/\∀z∈p.2.us,z∈es.map (·.1))->(∀S',Ext S S'->Q (dj (js++ks) (lJ es ds)) S')->w [dj js ds,dj ks es] S Q E
def zz{xd:aH}(zy:jC xd):h_ (bC 2 (hG xd)):=by
 intro S js ks ds es Q E hT hl hl2 hl3 hl4 hn hu k
 unfold hG
 refine iX ?_
 rw[show aA 2 [dj js ds,dj ks es]=[some (.tup [.tup (js.map PV.str),.tup (ds.map yy)]),some (.tup [.tup (ks.map PV.str),.tup (es.map yy)])] from rfl]
 refine bB ?_
 simp only[ay,aq,aj,aa,ai,c3,al,v3,lk,ic,kx,aQ]
 refine⟨fg (by simp;omega),?_⟩
 simp only[gr]
 rw[jF]
 intro r hr
 rw[hV _ _ (oy hn),Gw]
 refine zy (js:=js) (ds:=ds) (us:=es.map (·.1)) (f:=hW es) (hT.ext (.new hr)) hl hu ⟨_,ac,fun z hz=>jD hz⟩ fun S3 X3=>?_
 have:=k S3 ((Ext.new hr).trans X3)
 rw[show dj (js++ks) (lJ es ds) = .tup [.tup ((js++ks).map PV.str),.tup ((lJ es ds).map yy)] from rfl,F6,Gj]at this
 exact this
def oz{n:Nat}(h:n<=1000):n<=sizeLine:=Fc h (by decide)
theorem eG{α:Type}{g:Tg}{te:aO}{σ':bF}{keep:ap->Prop}{fin:List PV->ap->Prop}{d l:Addr}(enc:α->PV)(R:α->PV->Prop){S0:ap}(hk:∀S,x_ S d l->yk d l S0 S->keep S):∀(xs:List α) (ys:List PV) (S:ap),x_ S d l->yk d l S0 S->ys.length+xs.length<=1000->
  (∀x∈xs,∀S,x_ S d l->yk d l S0 S->∃σ2,g.put (enc x) σ'=some σ2/\∀K:bY,(∀v S',R x v->x_ S' d l->yk d l S S'->K v S')->te σ2 S K eu)->
  (∀vs S',vs.length=xs.length->(∀(k:Nat) x v,xs[k]?=some x->vs[k]?=some v->R x v)->x_ S' d l->yk d l S0 S'->fin (ys++vs) S')->cj g di te σ' keep fin (xs.map enc) ys S
 |[],ys,S,D,O,hl,_,hf=>⟨hk S D O,oz (by simpa using hl),by simpa using hf [] S rfl (by simp) D O⟩
 |x::r,ys,S,D,O,hl,h,hf=>by
  obtain⟨σ2,e,h1⟩:=h x (by simp) S D O
  refine⟨hk S D O,oz (by simp at hl ⊢;omega),?_⟩
  rw[e]
  simp only[di,G6]
  refine h1 _ fun v S' hv D' O'=>?_
  refine eG enc R hk r (ys++[v]) S' D' (O.trans O') (by simp at hl ⊢;omega) (fun y hy=>h y (by simp[hy])) fun vs S2 hlen ha D2 O2=>?_
  have:=hf (v::vs) S2 (by simp[hlen]) (fun k y u h1 h2=>?_) D2 O2
  ·simpa using this
  ·cases k with
   |zero=>cases h1;cases h2;exact hv
   |succ k=>exact ha k y u h1 h2
theorem eI{α:Type}{g:Tg}{tc:fw}{te:aO}{σ':bF}{keep:ap->Prop}{fin:List PV->ap->Prop}(enc f:α->PV)(c:α->Bool){S0:ap}(hk:∀S,Ext S0 S->keep S):∀(xs:List α) (ys:List PV) (S:ap),Ext S0 S->ys.length+xs.length<=1000000->
  (∀x∈xs,∃σ2,g.put (enc x) σ'=some σ2/\(∀S,Ext S0 S->∀K:Bool->ap->Prop,(∀S',Ext S S'->K (c x) S')->tc σ2 S K eu)/\∀S,Ext S0 S->∀K:bY,(∀S',Ext S S'->K (f x) S')->te σ2 S K eu)->
  (∀S',Ext S0 S'->fin (ys++(xs.filter c).map f) S')->cj g tc te σ' keep fin (xs.map enc) ys S
 |[],ys,S,X,hl,_,hf=>⟨hk S X,fg (by simpa using hl),by simpa using hf S X⟩
 |x::r,ys,S,X,hl,h,hf=>by
  obtain⟨σ2,e,h1,h2⟩:=h x (by simp)
  refine⟨hk S X,fg (by simp at hl ⊢;omega),?_⟩
  rw[e]
  refine h1 S X _ fun S' X'=>?_
  cases hc:c x with
  |true=>
   simp only[G6]
   refine h2 S' (X.trans X') _ fun S2 X2=>?_
   exact eI enc f c hk r (ys++[f x]) S2 ((X.trans X').trans X2) (by simp at hl ⊢;omega) (fun y hy=>h y (by simp[hy])) fun S3 X3=>by simpa [hc]using hf S3 X3
  |false=>
   simp only[Fx,GB]
   exact eI enc f c hk r ys S' (X.trans X') (by simp at hl ⊢;omega) (fun y hy=>h y (by simp[hy])) fun S3 X3=>by simpa [hc]using hf S3 X3
def xU:∀z∈(["rest","pay","put"]:Vs),PyData.strOk z=true:=by decide +kernel
def vE:([PV.str "rest",PV.str "pay",PV.str "put"]:List PV)=(["rest","pay","put"]:Vs).map PV.str:=rfl
def tO{α:Type}{a b c d e:α}:cy [a,b,c,d,e] none (some 3)=[a,b,c]:=rfl
def oA{xd s0:aH}(xX:bf xd)(n:Nat)(ih:dR n s0):dR (n+1) (bC 4 (dS xd s0)):=by
 intro S d l js us t v Q E D hn BZ hu1 hd hg k
 unfold dS
 refine iX ?_
 rw[show aA 4 [PV.ref d,t.pv,v]=[some (.ref d),some t.pv,some v,none] from rfl]
 have leaf:∀(N:bF->ap->Prop),t.good js us->t.dep=1->t.size=1->ah (cC (a_ (aj (ce false) (aa xd [v3 0,c3 (.int 2)]) (c3 (.int 0)))) (aJ (v3 1)) be) (aJ (ay [c3 (.str "use"),aj al (v3 2) (aa xd [v3 0,ai bx [v3 2]])]))
   { nx:=N,rt:=Q,ex:=eu } [some (.ref d),some t.pv,some v,none] S:=by
  intro N g e1 e2
  refine aE fun N2 zS=>?_
  simp only[cC,a_,aj,aa,aq,v3,lk,c3]
  refine xX D (by decide) (by decide) fun r S1 r0 r1 D1 O1=>?_
  simp only[ce,Fi,Fj]
  by_cases hr:r=0
  ·rw[if_pos hr]
   exact k t S1 g rfl rfl D1 O1
  ·rw[if_neg hr]
   refine zS _ _ (bB ?_)
   simp only[ay,aq,aj,aa,ai,v3,lk,c3,bx]
   have fin:∀(q:Int) (S2:ap),0<=q->q < us.length->x_ S2 d l->yk d l S1 S2->∃z,yO (us.map PV.str) q=some (.str z)/\Q (.tup [.str "use",.str z]) S2:=by
    intro q S2 q0 q1 D2 O2
    obtain⟨w,hw,hm⟩:=eZ (xs:=us.map PV.str) q0 (by rw[E5];exact q1)
    obtain⟨z,hz,rfl⟩:=Fz.mp hm
    exact⟨z,hw,k (.use z) S2 hz (by rw[e1];rfl) (by rw[e2];rfl) D2 (O1.trans O2)⟩
   cases hn with
   |ref h h1 h2=>
    have h':=O1 _ _ h h1 h2
    simp only[h',E5]
    refine xX (m:=us.length) D1 (by omega) (by omega) fun q S2 q0 q1 D2 O2=>?_
    obtain⟨z,hz,qz⟩:=fin q S2 q0 q1 D2 O2
    simp only[al,O2 _ _ h' h1 h2,hz]
    exact qz
   |tup=>
    simp only[E5]
    refine xX (m:=us.length) D1 (by omega) (by omega) fun q S2 q0 q1 D2 O2=>?_
    obtain⟨z,hz,qz⟩:=fin q S2 q0 q1 D2 O2
    simp only[al,hz]
    exact qz
 refine aE fun N hN=>?_
 rw[Bd.zM]
 refine mE (v:=decide (t.hd∈(["rest","pay","put"]:Vs))) (fun Q E q=>?_) (fun h=>?_) (fun h=>hN _ _ (aE fun N hN=>?_))
 ·simp only[a_,aj,v3,lk,c3,al,ic,ay,aq]
  rw[vE]
  refine cH (Bd.Ba _) xU ?_
  rw[Fi]
  exact q
 ·rw[<-Bd.zM]
  have h:=GL h
  cases t with
  |rest=>exact leaf N trivial rfl rfl
  |pay x y=>exact leaf N hg rfl rfl
  |put z m=>exact leaf N hg rfl rfl
  |_=>simp[Bd.hd,aM]at h
 have h:=F1 h
 refine mE (v:=decide (t.hd=("take":Str))) (fun Q E q=>by simp only[a_,aj,v3,lk,c3,al,ic,ce,Fi];exact q) (fun h2=>?_) (fun h2=>hN _ _ (aE fun N hN=>?_))
 ·cases t with
  |zf z m a b=>
   simp only[Bd.dep]at hd
   refine aE fun N2 zS=>?_
   simp only[aw,aa,aq,aj,v3,lk,c3,al,Bd.hd,Bd.tl]
   refine ih (t:=a) D hn BZ hu1 (by omega) hg.2.2.2.1 fun u S1 g e1 e2 D1 O1=>zS _ _ (bB ?_)
   simp only[aj,aS,jX,fj,ay,aq,aa,v3,lk,c3,al,List.set_cons_succ,List.set_cons_zero,fA,tO]
   refine ih (t:=b) D1 (hn.yA O1) BZ hu1 (by omega) hg.2.2.2.2 fun u2 S2 g2 C1 C2 D2 O2=>?_
   exact⟨oz (by simp),k (.zf z m u u2) S2 ⟨hg.1,hg.2.1,hg.2.2.1,g,g2⟩ (by simp only[Bd.dep,e1,C1]) (by simp only[Bd.size,e2,C2]) D2 (O1.trans O2)⟩
  |_=>simp[Bd.hd,aM]at h2
 have h2:=F1 h2
 refine mE (v:=decide (t.hd=("often":Str))) (fun Q E q=>by simp only[a_,aj,v3,lk,c3,al,ic,ce,Fi];exact q) (fun h3=>?_) (fun h3=>hN _ _ (aE fun N hN=>?_))
 ·obtain⟨a,rfl⟩:=(Bd.AE t).mp (GL h3)
  simp only[Bd.dep]at hd
  refine bB ?_
  simp only[ay,aq,aa,aj,v3,lk,c3,al,Bd.tl,kx]
  exact ih (t:=a) D hn BZ hu1 (by omega) hg fun u S1 g e1 e2 D1 O1=>k (.zm u) S1 g (by simp only[Bd.dep,e1]) (by simp only[Bd.size,e2]) D1 O1
 have h3:=F1 h3
 have two:∀(hd':Str) (a b:Bd) (mk:Bd->Bd->Bd),t.hd=hd'->t.tl=[a.pv,b.pv]->a.dep<=n->b.dep<=n->a.good js []->b.good js []->(∀(u u2:Bd) S',u.good js us->u2.good js us->u.dep=a.dep->u2.dep=b.dep->u.size=a.size->u2.size=b.size->x_ S' d l->yk d l S S'->Q (.tup [.str hd',u.pv,u2.pv]) S')->
   aw 3 (aa s0 [v3 0,aj al (v3 1) (c3 (.int 1)),v3 2]) { nx:=N,rt:=Q,ex:=eu } [some (.ref d),some (.tup (.str t.hd::t.tl)),some v,none] S:=by
  intro hd' a b mk e1 e2 d1 d2 g1 g2 kk
  rw[e1,e2]
  simp only[aw,aa,aq,aj,v3,lk,c3,al,kx]
  refine ih (t:=a) D hn BZ hu1 d1 g1 fun u S1 g e1 e2 D1 O1=>hN _ _ (bB ?_)
  simp only[ay,aq,aj,aa,v3,lk,c3,al,List.set_cons_succ,List.set_cons_zero,ic,v1]
  exact ih (t:=b) D1 (hn.yA O1) BZ hu1 d2 g2 fun u2 S2 g2 C1 C2 D2 O2=>kk u u2 S2 g g2 e1 C1 e2 C2 D2 (O1.trans O2)
 cases t with
 |xZ a b=>
  simp only[Bd.dep]at hd
  exact two "then" a b .xZ rfl rfl (by omega) (by omega) hg.1 hg.2 fun u u2 S' g g2 e1 e2 e3 e4 D2 O2=>k (.xZ u u2) S' ⟨g,g2⟩ (by simp only[Bd.dep,e1,e2]) (by simp only[Bd.size,e3,e4]) D2 O2
 |zc a b=>
  simp only[Bd.dep]at hd
  exact two "either" a b .zc rfl rfl (by omega) (by omega) hg.1 hg.2 fun u u2 S' g g2 e1 e2 e3 e4 D2 O2=>k (.zc u u2) S' ⟨g,g2⟩ (by simp only[Bd.dep,e1,e2]) (by simp only[Bd.size,e3,e4]) D2 O2
 |zf z m a b=>exact absurd rfl h2
 |zm a=>exact absurd rfl h3
 |use z=>cases hg
 |_=>simp[Bd.hd,aM]at h
inductive A0 (S:ap) (l:List (Str×Bd)):PV->Prop
 |ref {a:Addr}:S a=some (.lst (l.map yy))->A0 S l (.ref a)
 |tup:A0 S l (.tup (l.map yy))
def A0.ext{S S':ap}{l:List (Str×Bd)}{v:PV}(h:A0 S l v)(X:Ext S S'):A0 S' l v:=by
 cases h with
 |ref h=>exact .ref (X _ _ h)
 |tup=>exact .tup
theorem A0.src{S:ap}{l:List (Str×Bd)}{v:PV}(h:A0 S l v):∃src,bS S v=some src/\src.items=l.map yy/\∀S',Ext S S'->src.keep S':=by
 cases h with
 |ref h=>rename_i a;exact⟨⟨l.map yy,fun S'=>S' a=some (.lst (l.map yy))⟩,by simp only[bS,h],rfl,fun S' X=>X _ _ h⟩
 |tup=>exact⟨_,rfl,rfl,fun S' _=>trivial⟩
theorem oB{z:Str}:∀{l:List (Str×Bd)},z∈l.map (·.1)->∃r,(l.filter fun p=>decide (p.1=z)).map (fun p=>p.2.pv)=(hW l z).pv::r
 |[],h=>by simp at h
 |p::r,h=>by
  by_cases e:p.1=z
  ·rw[GQ,if_pos (by simp[e]),hW,if_pos e];exact⟨_,rfl⟩
  ·rw[GQ,if_neg (by simp[e]),hW,if_neg e]
   exact oB ((Fg.mp h).resolve_left fun q=>e q.symm)
abbrev fh(n:Nat)(w:aH):Prop:=∀{S:ap} {t:Bd} {l:List (Str×Bd)} {v:PV} {Q:bY} {E:de},t.dep<=n->A0 S l v->l.length<=1000->(∀z∈t.us,z∈l.map (·.1))->(∀S',Ext S S'->Q (t.sub (hW l)).pv S')->w [t.pv,v] S Q E
def xV:∀z∈(["then","either"]:Vs),PyData.strOk z=true:=by decide +kernel
def vF:([PV.str "then",PV.str "either"]:List PV)=(["then","either"]:Vs).map PV.str:=rfl
def qA{s0:aH}(n:Nat)(ih:fh n s0):fh (n+1) (bC 2 (dX s0)):=by
 intro S t l v Q E hd hA hl hu k
 unfold dX
 refine iX ?_
 rw[show aA 2 [t.pv,v]=[some t.pv,some v] from rfl,Bd.zM]
 refine aE fun N hN=>?_
 refine mE (v:=decide (t.hd=("use":Str))) (fun Q E q=>by simp only[a_,aj,v3,lk,c3,al,ic,ce,Fi];exact q) (fun h=>?_) (fun h=>hN _ _ (aE fun N hN=>?_))
 ·cases t with
  |use z=>
   refine bB ?_
   obtain⟨src,e1,e2,hk⟩:=hA.src
   simp only[aj,a8,aX,v3,lk,e1,e2]
   refine eI (S0:=S) yy (fun p=>p.2.pv) (fun p=>decide (p.1=z)) hk l [] S .refl (by simp;omega) (fun p hp=>⟨_,rfl,fun S1 X1 Q hQ=>?_,fun S1 X1 K hK=>?_⟩) fun S1 X1 q hq=>?_
   ·simp only[a_,aj,v3,lk,c3,al,fF,List.replicate_succ,List.replicate_zero,Fd,Gn,List.cons_append,List.nil_append,List.set_cons_zero,List.set_cons_succ,Bd.tl,kx,ce,Fi]
    exact hQ S1 .refl
   ·exact hK S1 .refl
   ·obtain⟨r,hr⟩:=oB (hu z (by simp[Bd.us]))
    simp only[c3,al,ac,List.nil_append,hr,ic]
    exact k _ (X1.trans (.new hq))
  |_=>simp[Bd.hd,aM]at h
 have h:=F1 h
 refine mE (v:=decide (t.hd=("take":Str))) (fun Q E q=>by simp only[a_,aj,v3,lk,c3,al,ic,ce,Fi];exact q) (fun h2=>?_) (fun h2=>hN _ _ (aE fun N hN=>?_))
 ·cases t with
  |zf z m a b=>
   simp only[Bd.dep]at hd
   refine bB ?_
   simp only[ay,aq,aa,aj,v3,lk,c3,al,Bd.tl,Bd.hd]
   refine ih (t:=a) (by omega) hA hl (fun z hz=>hu z (by simp[Bd.us,hz])) fun S1 X1=>?_
   exact ih (t:=b) (by omega) (hA.ext X1) hl (fun z hz=>hu z (by simp[Bd.us,hz])) fun S2 X2=>k S2 (X1.trans X2)
  |_=>simp[Bd.hd,aM]at h2
 have h2:=F1 h2
 refine mE (v:=decide (t.hd=("often":Str))) (fun Q E q=>by simp only[a_,aj,v3,lk,c3,al,ic,ce,Fi];exact q) (fun h3=>?_) (fun h3=>hN _ _ (aE fun N hN=>?_))
 ·obtain⟨a,rfl⟩:=(Bd.AE t).mp (GL h3)
  simp only[Bd.dep]at hd
  refine bB ?_
  simp only[ay,aq,aa,aj,v3,lk,c3,al,Bd.tl,kx]
  exact ih (t:=a) (by omega) hA hl hu fun S1 X1=>k S1 X1
 have h3:=F1 h3
 refine mE (v:=decide (t.hd∈(["then","either"]:Vs))) (fun Q E q=>?_) (fun h4=>?_) (fun h4=>hN _ _ ?_)
 ·simp only[a_,aj,v3,lk,c3,al,ic,ay,aq]
  rw[vF]
  refine cH (Bd.Ba _) xV ?_
  rw[Fi]
  exact q
 ·have h4:=GL h4
  refine bB ?_
  cases t with
  |xZ a b=>
   simp only[Bd.dep]at hd
   simp only[ay,aq,aa,aj,v3,lk,c3,al,Bd.tl,ic,kx,v1]
   refine ih (t:=a) (by omega) hA hl (fun z hz=>hu z (by simp[Bd.us,hz])) fun S1 X1=>?_
   exact ih (t:=b) (by omega) (hA.ext X1) hl (fun z hz=>hu z (by simp[Bd.us,hz])) fun S2 X2=>k S2 (X1.trans X2)
  |zc a b=>
   simp only[Bd.dep]at hd
   simp only[ay,aq,aa,aj,v3,lk,c3,al,Bd.tl,ic,kx,v1]
   refine ih (t:=a) (by omega) hA hl (fun z hz=>hu z (by simp[Bd.us,hz])) fun S1 X1=>?_
   exact ih (t:=b) (by omega) (hA.ext X1) hl (fun z hz=>hu z (by simp[Bd.us,hz])) fun S2 X2=>k S2 (X1.trans X2)
  |_=>simp[Bd.hd,aM]at h4
 ·have h4:=F1 h4
  refine bB ?_
  simp only[v3,lk]
  rw[<-Bd.zM]
  cases t with
  |rest=>exact k S .refl
  |pay x y=>exact k S .refl
  |put z m=>exact k S .refl
  |use z=>exact absurd rfl h
  |zm a=>exact absurd rfl h3
  |zf z m a b=>exact absurd rfl h2
  |xZ a b=>exact absurd (by simp[Bd.hd]) h4
  |zc a b=>exact absurd (by simp[Bd.hd]) h4
abbrev kj(w:aH):Prop:=∀{S:ap} {ks js:Vs} {es l:List (Str×Bd)} {v:PV} {Q:bY} {E:de},A0 S l v->l.length<=1000->es.length<=1000->ks.length<=1000->js.length<=1000->(∀p∈es,p.2.dep<=12/\∀z∈p.2.us,z∈l.map (·.1))->(∀S',Ext S S'->Q (dj (ks++js) (lJ l es)) S')->w [dj ks es,.tup (js.map PV.str),v] S Q E
def qB{xw:aH}(Bx:fh 12 xw):kj (bC 3 (eF xw)):=by
 intro S ks js es l v Q E hA h1 h2 h3 h4 hu k
 unfold eF
 refine iX ?_
 rw[show aA 3 [dj ks es,PV.tup (js.map PV.str),v]=[some (.tup [.tup (ks.map PV.str),.tup (es.map yy)]),some (.tup (js.map PV.str)),some v] from rfl]
 refine bB ?_
 simp only[ay,aq,aj,ai,a8,aX,c3,al,v3,lk,ic,kx,aQ]
 refine⟨fg (by simp;omega),?_⟩
 simp only[bS]
 refine bZ (S0:=S) yy (fun p=>yy (p.1,p.2.sub (hW l))) (fun S X=>trivial) es [] S .refl (by simp;omega) (fun p hp S1 X1=>⟨_,rfl,fun K hK=>?_⟩) fun S1 X1 q hq=>?_
 ·simp only[ay,aq,aa,v3,lk,fF,List.replicate_succ,List.replicate_zero,Fd,Gn,List.cons_append,List.nil_append,List.set_cons_zero,List.set_cons_succ]
  exact Bx (hu p hp).1 (hA.ext X1) h1 (hu p hp).2 fun S' X'=>hK S' X'
 ·simp only[aU,fz,ac,List.nil_append]
  have:=k _ (X1.trans (.new (o:=.lst (es.map fun p=>yy (p.1,p.2.sub (hW l)))) hq))
  rw[show dj (ks++js) (lJ l es) = .tup [.tup ((ks++js).map PV.str),.tup ((lJ l es).map yy)] from rfl,F6,Gj]at this
  exact this
theorem dc:∀t:Bd,t.us.length<=t.size
 | .rest=>by simp[Bd.us]
 | .pay _ _=>by simp[Bd.us]
 | .put _ _=>by simp[Bd.us]
 | .use _=>by simp[Bd.us,Bd.size]
 | .zm a=>by have:=dc a;simp only[Bd.us,Bd.size];omega
 | .xZ a b=>by have:=dc a;have:=dc b;simp only[Bd.us,Bd.size,E6];omega
 | .zc a b=>by have:=dc a;have:=dc b;simp only[Bd.us,Bd.size,E6];omega
 | .zf _ _ a b=>by have:=dc a;have:=dc b;simp only[Bd.us,Bd.size,E6];omega
inductive tP (n m:Nat):PV->List Str->Prop
 |sd (s:Bd):s.dep<=n->s.size<=m->tP n m s.pv s.us
 |str (z:Str):tP n m (.str z) []
 |int (i:Int):tP n m (.int i) []
 |cost (x y:Int):tP n m (.tup [.int x,.int y]) []
def its(t:Bd){n m:Nat}(hd:t.dep<=n+1)(hs:t.size<=m)(hu:t.hd≠("use":Str)):∃l:List (PV×List Str),t.tl=l.map (·.1)/\(∀p∈l,tP n m p.1 p.2)/\(l.map (·.2)).flatten=t.us/\t.us.length<=m:=by
 have hl:=dc t
 cases t with
 |rest=>exact⟨[],rfl,by simp,rfl,by omega⟩
 |pay x y=>exact⟨[(.tup [.int x,.int y],[])],rfl,by simp only[FO,forall_eq];exact .cost x y,rfl,by omega⟩
 |put z k=>exact⟨[(.str z,[]),(.int k,[])],rfl,by intro p hp;simp at hp;rcases hp with rfl|rfl;exact .str z;exact .int k,rfl,by omega⟩
 |use z=>exact absurd rfl hu
 |zm a=>simp only[Bd.dep,Bd.size]at hd hs;exact⟨[(a.pv,a.us)],rfl,by simp only[FO,forall_eq];exact .sd a (by omega) (by omega),by simp[Bd.us],by simp only[Bd.size]at hl;omega⟩
 |xZ a b=>simp only[Bd.dep,Bd.size]at hd hs hl;exact⟨[(a.pv,a.us),(b.pv,b.us)],rfl,by intro p hp;simp at hp;rcases hp with rfl|rfl;exact .sd a (by omega) (by omega);exact .sd b (by omega) (by omega),by simp[Bd.us],by omega⟩
 |zc a b=>simp only[Bd.dep,Bd.size]at hd hs hl;exact⟨[(a.pv,a.us),(b.pv,b.us)],rfl,by intro p hp;simp at hp;rcases hp with rfl|rfl;exact .sd a (by omega) (by omega);exact .sd b (by omega) (by omega),by simp[Bd.us],by omega⟩
 |zf z k a b=>simp only[Bd.dep,Bd.size]at hd hs hl;exact⟨[(.str z,[]),(.int k,[]),(a.pv,a.us),(b.pv,b.us)],rfl,by intro p hp;simp at hp;rcases hp with rfl|rfl|rfl|rfl;exact .str z;exact .int k;exact .sd a (by omega) (by omega);exact .sd b (by omega) (by omega),by simp[Bd.us],by omega⟩
abbrev cJ(n:Nat)(w:aH):Prop:=∀{S:ap} {t:Bd} {Q:bY} {E:de},t.dep<=n->t.size<=1000->(∀p S',S p=none->Ext S S'->S' p=some (.lst (t.us.map PV.str))->Q (.ref p) S')->w [t.pv] S Q E
def tQ{i:Int}{S:ap}{Q:bY}:d6 [.int i,.ty "str"] S Q=Q (.bl false) S:=by simp[d6,nI,io,cN]
def tR{z:Str}{S:ap}{Q:bY}:d6 [.str z,.ty "str"] S Q=Q (.bl true) S:=by simp[d6,nI,io,cN]
def ub(s0:aH):bp:=cC (fy (a_ (ai d6 [v3 2,c3 (.ty "tuple")])) (fy (a_ (aj mh (ai bx [v3 2]) (c3 (.int 0)))) (a_ (ai d6 [aj al (v3 2) (c3 (.int 0)),c3 (.ty "str")])))) (bW (gq "list" bz (v3 1) [aa s0 [v3 2]])) be
theorem i5{s0:aH}{n:Nat}(ih:cJ n s0){D:dv}{tp:PV}{p:Addr}{S0:ap}{keep:ap->Prop}(hk:∀S,keep S)(hp:S0 p=none):∀(l:List (PV×List Str)) (acc:Vs) (x2:Option PV) (S:ap),(∀q∈l,tP n 1000 q.1 q.2)->acc.length+((l.map (·.2)).flatten).length<=1000->Ext S0 S->S p=some (.lst (acc.map PV.str))->
  (∀x2 S',Ext S0 S'->S' p=some (.lst ((acc++(l.map (·.2)).flatten).map PV.str))->D.nx [some tp,some (.ref p),x2] S')->eo (.n 2) (ub s0) D keep (l.map (·.1)) [some tp,some (.ref p),x2] S
 |[],acc,x2,S,_,_,X,f,k=>⟨hk S,k x2 S X (by simpa using f)⟩
 |(x,ys)::r,acc,x2,S,hi,hl,X,f,k=>by
  refine⟨hk S,?_⟩
  have hx:tP n 1000 x ys:=hi (x,ys) (by simp)
  have hl2:acc.length+(ys.length+((r.map (·.2)).flatten).length)<=1000:=by simpa using hl
  show ub s0 _ [some tp,some (.ref p),some x] S
  have go:∀(zs:Vs) (S':ap),zs=ys->Ext S0 S'->S' p=some (.lst ((acc++zs).map PV.str))->eo (.n 2) (ub s0) D keep (r.map (·.1)) [some tp,some (.ref p),some x] S':=fun zs S' e X' f'=>by
   subst e
   exact i5 ih hk hp r (acc++zs) (some x) S' (fun q hq=>hi q (by simp[hq])) (by rw[E6];omega) X' f' fun x2 S2 X2 f2=>k x2 S2 X2 (by simpa using f2)
  unfold ub
  cases hx with
  |str z=>
   refine mE (v:=false) (fun Q E q=>by simp only[fy,a_,ai,aq,v3,lk,c3,tI,Fx,GB];exact q) (fun h=>nomatch h) fun _=>go [] S rfl X (by simpa using f)
  |int i=>
   refine mE (v:=false) (fun Q E q=>by simp only[fy,a_,ai,aq,v3,lk,c3,tH,Fx,GB];exact q) (fun h=>nomatch h) fun _=>go [] S rfl X (by simpa using f)
  |cost i j=>
   refine mE (v:=false) (fun Q E q=>by simp only[fy,a_,aj,ai,aq,v3,lk,c3,on,G6,bx,mh,dh,al,ic,tQ];exact q) (fun h=>nomatch h) fun _=>go [] S rfl X (by simpa using f)
  |sd s h1 h2=>
   refine mE (v:=true) (fun Q E q=>?_) (fun _=>?_) fun h=>nomatch h
   ·simp only[fy,a_,aj,ai,aq,v3,lk,c3]
    rw[Bd.zM]
    simp only[on,G6,bx,mh,dh,al,ic,tR]
    rw[if_pos (G9 (by simp only[List.length_cons];omega))]
    exact q
   ·simp only[bW,gq,aa,aq,v3,lk]
    refine⟨by simp[p6,f],ih h1 h2 fun q S1 hq X1 f1=>?_⟩
    have fp:=X1 _ _ f
    have By:p≠q:=fun e=>by rw[e,hq]at f;cases f
    simp only[bz,fp,f1]
    refine⟨fg (by simp;omega),go s.us _ rfl (fun a o ha=>?_) (by rw[ac,Gj])⟩
    rw[am (fun e=>by rw[e,hp]at ha;cases ha)]
    exact X1 _ _ (X _ _ ha)
def qC{s0:aH}(n:Nat)(ih:cJ n s0):cJ (n+1) (bC 3 (dW s0)):=by
 intro S t Q E hd hs k
 unfold dW
 refine iX ?_
 rw[show aA 3 [t.pv]=[some t.pv,none,none] from rfl,Bd.zM]
 refine aE fun N hN=>?_
 refine mE (v:=decide (t.hd=("use":Str))) (fun Q E q=>by simp only[a_,aj,v3,lk,c3,al,ic,ce,Fi];exact q) (fun h=>?_) (fun h=>hN _ _ (aE fun N hN=>?_))
 ·cases t with
  |use z=>
   refine bB ?_
   simp only[b8,aq,aj,v3,lk,c3,al,Bd.tl,kx]
   exact fun p hp=>k p _ hp (.new hp) ac
  |_=>simp[Bd.hd,aM]at h
 have h:=F1 h
 simp only[aw,b8,aq]
 intro p hp
 refine hN _ _ (aE fun N hN=>?_)
 obtain⟨l,e1,e2,e3,e4⟩:=its t hd hs h
 simp only[dF,aX,aS,fj,jX,aj,v3,lk,c3,fA,List.set_cons_succ,List.set_cons_zero,bS]
 rw[show cy (PV.str t.hd::t.tl) (some 1) none=t.tl from tG (n:=1) (by simp),e1]
 refine i5 ih (fun _=>trivial) hp l [] none _ e2 (by rw[e3];simpa using e4) (.new hp) ac fun x2 S' X' f'=>hN _ _ (bB ?_)
 simp only[v3,lk]
 exact k p S' hp X' (by rw[f',e3];rfl)
theorem xq{P:Bd->Prop}:∀{vs:List PV},(∀v∈vs,∃t:Bd,v=t.pv/\P t)->∃bs:List Bd,vs=bs.map Bd.pv/\∀t∈bs,P t
 |[],_=>⟨[],rfl,by simp⟩
 |v::r,h=>by
  obtain⟨t,e,p⟩:=h v (by simp)
  obtain⟨bs,e2,p2⟩:=xq (P:=P) (vs:=r) fun x hx=>h x (by simp[hx])
  exact⟨t::bs,by rw[e,e2];rfl,fun s hs=>by rcases Fg.mp hs with rfl|hs;exact p;exact p2 s hs⟩
theorem qY:∀(ns:Vs) (bs:List Bd),en (ns.map PV.str) (bs.map Bd.pv)=(ns.zip bs).map yy
 |[],_=>by simp[en]
 |_::_,[]=>by simp[en]
 |n::ns,b::bs=>by
  have:=qY ns bs
  unfold en at this ⊢
  simp only[Fd,List.zip_cons_cons,this]
  rfl
abbrev oC(w:aH):Prop:=∀{S:ap} {d l p:Addr} {js ns:Vs} {size bound:Int} {Q:bY} {E:de},x_ S d l->S p=some (.lst (ns.map PV.str))->p≠d->p≠l->1<=ns.length->ns.length<=8->js.length<=100->1<=size->size<=60->
  (∀(bs:List Bd) S',bs.length=ns.length->(∀t∈bs,t.good js []/\t.dep<=6/\(t.size:Int)<=max size 4)->x_ S' d l->yk d l S S'->Q (dj js (ns.zip bs)) S')->w [.ref d,.tup (js.map PV.str),.ref p,.int size,.int bound] S Q E
def vG{xb:aH}(C3:cX xb):oC (bC 6 (bV xb)):=by
 intro S d l p js ns size bound Q E D hp p1 p2 n1 n2 hj s1 s2 k
 unfold bV
 refine iX ?_
 rw[show aA 6 [PV.ref d,PV.tup (js.map PV.str),PV.ref p,PV.int size,PV.int bound]=[some (.ref d),some (.tup (js.map PV.str)),some (.ref p),some (.int size),some (.int bound),none] from rfl]
 refine aE fun N hN=>?_
 simp only[aw,a8,aX,v3,lk,bS,hp]
 refine eG (S0:=S) (d:=d) (l:=l) PV.str (fun _ v=>∃t:Bd,v=t.pv/\(t.good js []/\t.dep<=6/\(t.size:Int)<=max size 4)) (fun S D O=>O _ _ hp p1 p2) ns [] S D .refl (by simp;omega) (fun x hx S1 D1 O1=>⟨_,rfl,fun K hK=>?_⟩) fun vs S1 hl hR D1 O1 q hq=>?_
 ·simp only[aa,aq,aj,ai,v3,lk,fF,List.replicate_succ,List.replicate_zero,Fd,Gn,List.cons_append,List.nil_append,List.set_cons_zero,bx,O1 _ _ hp p1 p2,eS,dB,E5]
  refine⟨?_,C3 D1 (by omega) s1 s2 fun t S2 g1 g2 g3 g4 _ D2 O2=>hK t.pv S2 ⟨t,rfl,g1,g2,g4⟩ D2 O2⟩
  exact⟨by omega,E7 (show _ < 2 ^ 64 by omega) (F3 (by decide) (by decide))⟩
 ·obtain⟨bs,rfl,hb⟩:=xq (vs:=vs) (P:=fun t=>t.good js []/\t.dep<=6/\(t.size:Int)<=max size 4) fun v hv=>by
   obtain⟨i,hi,e⟩:=List.mem_iff_getElem.mp hv
   exact hR i _ v (Fl (by omega)) (by rw[Fl hi,e])
  rw[E5]at hl
  have dq:=D1.free hq
  have By:p≠q:=fun e=>by have:=O1 _ _ hp p1 p2;rw[e,hq]at this;cases this
  refine hN _ _ (bB ?_)
  simp only[ay,aq,nW,v3,lk,List.set_cons_succ,List.set_cons_zero,List.nil_append,ac,am By,O1 _ _ hp p1 p2]
  refine⟨by rw[E5,E5,hl],by rw[E5];exact n1,?_⟩
  rw[qY]
  exact k bs _ hl hb (D1.new hq) (O1.trans (.new hq))
structure UH (js ks:Vs) (ds es:List (Str×Bd)):Prop where
 j1:js.length<=16
 k1:ks.length<=16
 d1:ds.length<=8
 e1:es.length<=8
 jw:∀z∈js,y3 z
 kw:∀z∈ks,y3 z
 dw:∀p∈ds,y3 p.1
 ew:∀p∈es,y3 p.1
 nd:(ds.map (·.1)).Nodup
 hd:∀p∈ds,p.2.good js []/\p.2.dep<=6/\p.2.size<=8
 he:∀p∈es,p.2.good ks (ds.map (·.1))/\p.2.dep<=6/\p.2.size<=12
theorem lK:∀{ns:Vs} {bs:List Bd},bs.length=ns.length->(ns.zip bs).map (·.1)=ns
 |[],_,_=>by simp
 |_::_,[],h=>by simp at h
 |n::ns,b::bs,h=>by simp only[List.zip_cons_cons,Fd,lK (by simpa using h)]
def k8{α:Type}{xs:List α}{a b:Nat}(ha:a<=b)(h:b<=xs.length):cy xs (some (a:Int)) (some (b:Int))=(xs.drop a).take (b - a):=by
 unfold cy
 rw[HT.gh,HT.gh,Hz h,Hz (by omega)]
def k9{α:Type}{xs:List α}{a b:Nat}{z:α}(h:z∈(xs.drop a).take b):z∈xs:=List.mem_of_mem_drop (Hs h)
abbrev jG(w:aH):Prop:=∀{S:ap} {d l:Addr} {Q:bY} {E:de},x_ S d l->(∀js ks ds es S',UH js ks ds es->x_ S' d l->yk d l S S'->Q (.tup [dj js ds,dj ks es]) S')->w [.ref d] S Q E
def Ag{xw xd xh xu:aH}(zF:fK xw)(xX:bf xd)(B1:oC xh)(At:dR 6 xu):jG (bC 8 (eC xw xd xh xu)):=by
 intro S d l Q E D k
 unfold eC
 refine iX ?_
 rw[show aA 8 [PV.ref d]=[some (.ref d),none,none,none,none,none,none,none] from rfl]
 refine aE fun N hN=>?_
 walk_at "x"
 refine zF (m:=16) D (by decide) (by decide) fun p ns S1 hl hnd hw hp p1 p2 f1 D1 O1=>hN _ _ (aE fun N hN=>?_)
 have hl:ns.length=16:=hl
 simp only[aw,aS,fj,aj,aQ,aa,aq,v3,lk,c3,List.set_cons_succ,List.set_cons_zero]
 refine xX D1 (by decide) (by decide) fun r S2 r0 r1 D2 O2=>?_
 have f2:=O2 _ _ f1 p1 p2
 simp only[fA,f2]
 intro q hq
 have dq:=D2.free hq
 have By:p≠q:=fun e=>by rw[e,hq]at f2;cases f2
 obtain⟨r',rfl⟩:=Ft r0
 have er:cy (ns.map PV.str) (some 4) (some (5+(r':Int)))=((ns.drop 4).take (1+r')).map PV.str:=by
  rw[dN,show(5+(r':Int))=((5+r':Nat):Int) by omega]
  have:=k8 (xs:=ns) (a:=4) (b:=5+r') (by omega) (by omega)
  rw[show((4:Nat):Int)=4 from rfl]at this
  rw[this,show 5+r' - 4=1+r' by omega]
 rw[er]
 generalize BK:(ns.drop 4).take (1+r')=us
 have ul:us.length=1+r':=by rw[<-BK,FD,FE,hl];omega
 have Ev:us.Nodup:=by rw[<-BK];exact(hnd.sublist (List.drop_sublist _ _)).sublist (G3 _ _)
 have uw:∀z∈us,y3 z:=fun z hz=>(hw z (k9 (by rw[BK];exact hz))).1
 refine hN _ _ (aE fun N hN=>?_)
 simp only[aw,aS,fj,jX,aj,ai,aa,aq,v3,lk,c3,List.set_cons_succ,List.set_cons_zero]
 refine xX (D2.new hq) (by decide) (by decide) fun s S3 s0 s1 D3 O3=>?_
 have f3:S3 p=some (.lst (ns.map PV.str)):=O3 _ _ (by rw[am By];exact f2) p1 p2
 have g3:S3 q=some (.lst (us.map PV.str)):=O3 _ _ ac dq.1 dq.2
 simp only[fA,f3]
 intro w hw'
 have dw:=D3.free hw'
 have Ew:p≠w:=fun e=>by rw[e,hw']at f3;cases f3
 have DD:q≠w:=fun e=>by rw[e,hw']at g3;cases g3
 obtain⟨s',rfl⟩:=Ft s0
 simp only[aU,fz,ac]
 rw[dN,om (by omega)]
 refine B1 (D3.new hw') (by rw[am DD];exact g3) dq.1 dq.2 (by omega) (by omega) (by rw[FD];omega) (by decide) (by decide) fun bs S4 hb Ex D4 O4=>hN _ _ (aE fun N hN=>?_)
 have f4:S4 p=some (.lst (ns.map PV.str)):=O4 _ _ (by rw[am Ew];exact f3) p1 p2
 have g4:S4 q=some (.lst (us.map PV.str)):=O4 _ _ (by rw[am DD];exact g3) dq.1 dq.2
 have OA:yk d l S S4:=O1.trans (O2.trans ((yk.new hq).trans (O3.trans ((yk.new hw').trans O4))))
 simp only[aw,aj,b8,aa,aq,v3,lk,c3,List.set_cons_succ,List.set_cons_zero]
 intro x hx
 have dx:=D4.free hx
 have Ey:p≠x:=fun e=>by rw[e,hx]at f4;cases f4
 have Ez:q≠x:=fun e=>by rw[e,hx]at g4;cases g4
 refine xX (D4.new hx) (by decide) (by decide) fun a S5 a0 a1 D5 O5=>?_
 have f5:S5 p=some (.lst (ns.map PV.str)):=O5 _ _ (by rw[am Ey];exact f4) p1 p2
 have g5:S5 q=some (.lst (us.map PV.str)):=O5 _ _ (by rw[am Ez];exact g4) dq.1 dq.2
 have x5:=O5 _ _ ac dx.1 dx.2
 simp only[al,x5]
 obtain⟨fi,EA,hfm⟩:∃fi:Nat,yO [PV.int 12,PV.int 12,PV.int 4,PV.int 0] a=some (.int (fi:Int))/\fi<=12:=by
  rcases(by omega:a=0\/a=1\/a=2\/a=3)with rfl|rfl|rfl|rfl
  ·exact⟨12,rfl,by decide⟩
  ·exact⟨12,rfl,by decide⟩
  ·exact⟨4,rfl,by decide⟩
  ·exact⟨0,rfl,by decide⟩
 simp only[EA]
 refine hN _ _ (aE fun N hN=>?_)
 simp only[aw,aS,fj,aj,aQ,aa,aq,v3,lk,c3,List.set_cons_succ,List.set_cons_zero]
 refine xX D5 (by decide) (by decide) fun b S6 b0 b1 D6 O6=>?_
 have f6:=O6 _ _ f5 p1 p2
 have g6:=O6 _ _ g5 dq.1 dq.2
 simp only[fA,f6]
 intro y hy
 have dy:=D6.free hy
 have EB:p≠y:=fun e=>by rw[e,hy]at f6;cases f6
 have EC:q≠y:=fun e=>by rw[e,hy]at g6;cases g6
 obtain⟨b',rfl⟩:=Ft b0
 rw[dN,show((fi:Int)+1+(b':Int))=((fi+1+b':Nat):Int) by omega,k8 (by omega) (by omega),show fi+1+b' - fi=1+b' by omega]
 generalize hos:(ns.drop fi).take (1+b')=os
 have ol:os.length=1+b':=by rw[<-hos,FD,FE,hl];omega
 have ow:∀z∈os,y3 z:=fun z hz=>(hw z (k9 (by rw[hos];exact hz))).1
 refine hN _ _ (aE fun N hN=>?_)
 simp only[aw,aS,fj,aj,aQ,ai,aa,aq,v3,lk,c3,List.set_cons_succ,List.set_cons_zero]
 refine xX (D6.new hy) (by decide) (by decide) fun e S7 e0 e1 D7 O7=>?_
 have f7:S7 p=some (.lst (ns.map PV.str)):=O7 _ _ (by rw[am EB];exact f6) p1 p2
 have g7:S7 q=some (.lst (us.map PV.str)):=O7 _ _ (by rw[am EC];exact g6) dq.1 dq.2
 have h7:=O7 _ _ ac dy.1 dy.2
 simp only[fA,f7]
 intro z hz
 have dz:=D7.free hz
 have ED:q≠z:=fun e=>by rw[e,hz]at g7;cases g7
 have EE:y≠z:=fun e=>by rw[e,hz]at h7;cases h7
 obtain⟨e',rfl⟩:=Ft e0
 simp only[aU,fz,ac]
 rw[dN,show(8+(e':Int))=((8+e':Nat):Int) by omega,show(8:Int)=((8:Nat):Int)from rfl,k8 (by omega) (by omega),show 8+e' - 8=e' by omega]
 generalize hks:(ns.drop 8).take e'=ks
 have kl:ks.length<=16:=by rw[<-hks,FD];omega
 have kw:∀z∈ks,y3 z:=fun z hz=>(hw z (k9 (by rw[hks];exact hz))).1
 refine B1 (D7.new hz) (by rw[am EE];exact h7) dy.1 dy.2 (by omega) (by omega) (by omega) (by decide) (by decide) fun cs S8 hc hcs D8 O8=>hN _ _ (aE fun N hN=>?_)
 have g8:S8 q=some (.lst (us.map PV.str)):=O8 _ _ (by rw[am ED];exact g7) dq.1 dq.2
 have OB:yk d l S S8:=OA.trans ((yk.new hx).trans (O5.trans (O6.trans ((yk.new hy).trans (O7.trans ((yk.new hz).trans O8))))))
 simp only[aw,ai,aq,a8,aX,aj,v3,lk,c3,al,dj,kx,bS,List.set_cons_succ,List.set_cons_zero]
 refine eG (S0:=S8) (d:=d) (l:=l) yy (fun o v=>∃u:Bd,v=yy (o.1,u)/\u.good ks us/\u.dep=o.2.dep/\u.size=o.2.size) (fun _ _ _=>trivial) (os.zip cs) [] S8 D8 .refl (by simp;omega) (fun o ho S9 D9 O9=>⟨_,rfl,fun K hK=>?_⟩) fun vs S9 hvl hR D9 O9 m hm=>?_
 ·have:=hcs o.2 (F9 (a:=o.1) (b:=o.2) ho).2
  simp only[ay,aq,aa,v3,lk,fF,List.replicate_succ,List.replicate_zero,Fd,Gn,List.cons_append,List.nil_append,List.set_cons_zero,List.set_cons_succ]
  exact At D9 (.ref (O9 _ _ g8 dq.1 dq.2) dq.1 dq.2) (by omega) (by omega) this.2.1 this.1 fun u EF q1 q2 q3 EG EH=>hK _ _ ⟨u,rfl,q1,q2,q3⟩ EG EH
 ·simp only[aU,fz,ac,List.nil_append]
  refine hN _ _ (bB ?_)
  simp only[ay,aq,aj,v3,lk,c3,al,ic,List.set_cons_succ,List.set_cons_zero]
  obtain⟨es,rfl,hes⟩:∃es:List (Str×Bd),vs=es.map yy/\∀p∈es,y3 p.1/\p.2.good ks us/\p.2.dep<=6/\p.2.size<=12:=by
   have hv:∀v∈vs,∃p:Str×Bd,v=yy p/\y3 p.1/\p.2.good ks us/\p.2.dep<=6/\p.2.size<=12:=fun v hv=>by
    obtain⟨i,hi,e⟩:=List.mem_iff_getElem.mp hv
    have hi2:i < (os.zip cs).length:=by omega
    obtain⟨u,e1,e2,e3,e4⟩:=hR i _ v (Fl hi2) (by rw[Fl hi,e])
    have hm2:=F9 (a:=((os.zip cs)[i]).1) (b:=((os.zip cs)[i]).2) (List.getElem_mem hi2)
    have:=hcs _ hm2.2
    exact⟨(_,u),e1,ow _ hm2.1,e2,by rw[e3];exact this.2.1,by rw[e4];have:=this.2.2;omega⟩
   clear hR hvl
   induction vs with
   |nil=>exact⟨[],rfl,by simp⟩
   |cons v r ih=>
    obtain⟨p,e,hp⟩:=hv v (by simp)
    obtain⟨es,e2,h2⟩:=ih fun x hx=>hv x (by simp[hx])
    exact⟨p::es,by rw[e,e2];rfl,fun x hx=>by rcases Fg.mp hx with rfl|hx;exact hp;exact h2 x hx⟩
  rw[E5,List.length_zip]at hvl
  have z1:=lK (ns:=us) (bs:=bs) (by omega)
  refine k (ns.take s') ks (us.zip bs) es _ ⟨by rw[FD];omega,kl,by rw[List.length_zip];omega,by omega,fun z hz=>(hw z (Hs hz)).1,kw,fun p hp=>uw _ (F9 (a:=p.1) (b:=p.2) hp).1,fun p hp=>(hes p hp).1,by rw[z1];exact Ev,fun p hp=>?_,fun p hp=>by rw[z1];exact(hes p hp).2⟩ (D9.new hm) (OB.trans (O9.trans (.new hm)))
  have:=Ex p.2 (F9 (a:=p.1) (b:=p.2) hp).2
  exact⟨this.1,this.2.1,by have:=this.2.2;omega⟩
def CB(a:Str×Int×Int):Prop:=y3 a.1/\a.2.1.natAbs < 2 ^ 64/\a.2.2.natAbs < 2 ^ 64
noncomputable abbrev vH:Tg:=.tp (.cons (.n 4) (.cons (.n 5) .nil))
def wZ(xu:aH):bp:=bW (gq "list" bz (v3 3) [aa xu [v3 5]])
theorem oD{xu:aH}(At:cJ 12 xu){D:dv}{a0 a1 a2:PV}{p:Addr}{S0:ap}{keep:ap->Prop}(hk:∀S,keep S)(hp:S0 p=none):∀(l:List (Str×Bd)) (acc:Vs) (x4 x5:Option PV) (S:ap),(∀q∈l,q.2.dep<=12/\q.2.size<=12)->acc.length+l.length * 12<=1000->Ext S0 S->S p=some (.lst (acc.map PV.str))->
  (∀x4 x5 S',Ext S0 S'->S' p=some (.lst ((acc++(l.map (·.2.us)).flatten).map PV.str))->D.nx [some a0,some a1,some a2,some (.ref p),x4,x5,none,none] S')->eo vH (wZ xu) D keep (l.map yy) [some a0,some a1,some a2,some (.ref p),x4,x5,none,none] S
 |[],acc,x4,x5,S,_,_,X,f,k=>⟨hk S,k x4 x5 S X (by simpa using f)⟩
 |q::r,acc,x4,x5,S,hi,hl,X,f,k=>by
  refine⟨hk S,?_⟩
  obtain⟨h1,h2⟩:=hi q (by simp)
  have hul:=dc q.2
  have hl:acc.length+(r.length+1) * 12<=1000:=by simpa using hl
  show wZ xu _ [some a0,some a1,some a2,some (.ref p),some (.str q.1),some q.2.pv,none,none] S
  unfold wZ
  simp only[bW,gq,aa,aq,v3,lk]
  refine⟨by simp[p6,f],At h1 (by omega) fun b S1 hb X1 f1=>?_⟩
  have fp:=X1 _ _ f
  simp only[bz,fp,f1]
  refine⟨fg (by simp;omega),?_⟩
  refine oD At hk hp r (acc++q.2.us) _ _ _ (fun x hx=>hi x (by simp[hx])) (by rw[E6];omega) (fun a o ha=>?_) (by rw[ac,Gj]) fun x4 x5 S' X' f'=>k x4 x5 S' X' (by simpa using f')
  rw[am (fun e=>by rw[e,hp]at ha;cases ha)]
  exact X1 _ _ (X _ _ ha)
def t5(xd xc xl:aH):bp:=cC (ku (a_ (aj (kR false) (v3 4) (v3 3))) (a_ (aj (ce false) (aa xd [v3 0,c3 (.int 2)]) (c3 (.int 0))))) (ah (aw 7 (aj al (b8 [aa xc [v3 0],aa xl [aa xd [v3 0,c3 (.int 1000001)],aj aQ (c3 (.int 1)) (aa xd [v3 0,c3 (.int 1000)])]]) (aa xd [v3 0,c3 (.int 2)])))
  (bW (gq "list" d3 (v3 6) [aa xd [v3 0,aj aQ (ai bx [v3 6]) (c3 (.int 1))],ay [v3 4,v3 7]]))) be
def qD(z:Str)(x y:Int):lI (z,x,y) = .tup [.str z,.tup [.int x,.int y]]:=rfl
theorem k_{xd xc xl:aH}(zy:bf xd)(Af:dP xc)(AI:eY xl){D:dv}{a1 a2:PV}{d l p q:Addr}{us:Vs}{S0:ap}{keep:ap->Prop}(hk:∀S,keep S)(uo:∀z∈us,y3 z)(p1:p≠d)(p2:p≠l)(q1:q≠d)(q2:q≠l)(hq:S0 q=none)(hpq:p≠q):∀(r:List (Str×Bd)) (acc:List (Str×Int×Int)) (x4 x5 x7:Option PV) (S:ap),(∀b∈r,y3 b.1)->((r.map (·.1))++acc.map (·.1)).Nodup->acc.length+r.length<=100->(∀a∈acc,CB a)->x_ S d l->yk d l S0 S->S p=some (.lst (us.map PV.str))->S q=some (.lst (acc.map lI))->
  (∀(acc':List (Str×Int×Int)) x4 x5 x7 S',(acc'.map (·.1)).Nodup->(∀a∈acc',CB a)->acc'.length<=100->(∀z∈acc.map (·.1),z∈acc'.map (·.1))->(∀z∈r.map (·.1),z∈us->z∈acc'.map (·.1))->x_ S' d l->yk d l S0 S'->S' q=some (.lst (acc'.map lI))->D.nx [some (.ref d),some a1,some a2,some (.ref p),x4,x5,some (.ref q),x7] S')->
  eo vH (t5 xd xc xl) D keep (r.map yy) [some (.ref d),some a1,some a2,some (.ref p),x4,x5,some (.ref q),x7] S
 |[],acc,x4,x5,x7,S,_,nd,hl,hc,Dl,O,fp,fq,k=>⟨hk S,k acc x4 x5 x7 S (by simpa using nd) hc (by simpa using hl) (fun z hz=>hz) (fun z hz=>by simp at hz) Dl O fq⟩
 |b::r,acc,x4,x5,x7,S,hw,nd,hl,hc,Dl,O,fp,fq,k=>by
  refine⟨hk S,?_⟩
  have DE:=hw b (by simp)
  have hl:acc.length+(r.length+1)<=100:=by simpa using hl
  have DF:b.1 ∉ (r.map (·.1))++acc.map (·.1)/\((r.map (·.1))++acc.map (·.1)).Nodup:=FF.mp (by simpa using nd)
  show t5 xd xc xl _ [some (.ref d),some a1,some a2,some (.ref p),some (.str b.1),some b.2.pv,some (.ref q),x7] S
  have skip:∀S',b.1 ∉ us->x_ S' d l->yk d l S S'->eo vH (t5 xd xc xl) D keep (r.map yy) [some (.ref d),some a1,some a2,some (.ref p),some (.str b.1),some b.2.pv,some (.ref q),x7] S':=fun S' hn D' O'=>
   k_ zy Af AI hk uo p1 p2 q1 q2 hq hpq r acc _ _ _ S' (fun x hx=>hw x (by simp[hx])) DF.2 (by omega) hc D' (O.trans O') (O' _ _ fp p1 p2) (O' _ _ fq q1 q2) fun acc' x4 x5 x7 S2 h1 h2 h3 h4 h5=>k acc' x4 x5 x7 S2 h1 h2 h3 h4 fun z hz hu=>by
    rcases Fg.mp (show z∈b.1::r.map (·.1)from hz)with rfl|hz
    ·exact absurd hu hn
    ·exact h5 z hz hu
  have put:∀S',x_ S' d l->yk d l S S'->ah (aw 7 (aj al (b8 [aa xc [v3 0],aa xl [aa xd [v3 0,c3 (.int 1000001)],aj aQ (c3 (.int 1)) (aa xd [v3 0,c3 (.int 1000)])]]) (aa xd [v3 0,c3 (.int 2)]))) (bW (gq "list" d3 (v3 6) [aa xd [v3 0,aj aQ (ai bx [v3 6]) (c3 (.int 1))],ay [v3 4,v3 7]]))
    { D with nx:=eo vH (t5 xd xc xl) D keep (r.map yy),ct:=eo vH (t5 xd xc xl) D keep (r.map yy),bk:=D.nx } [some (.ref d),some a1,some a2,some (.ref p),some (.str b.1),some b.2.pv,some (.ref q),x7] S':=by
   intro S' D' O'
   refine aE fun N hN=>?_
   simp only[aw,aj,b8,aa,aq,v3,lk,c3,aQ]
   refine Af D' fun x y S1 hxy D1 O1=>?_
   refine zy D1 (by decide) (by decide) fun t S2 t0 t1 D2 O2=>?_
   refine zy D2 (by decide) (by decide) fun e S3 e0 e1 D3 O3=>?_
   refine AI (by omega) (iY (by omega)) ?_
   intro m hm
   have dm:=D3.free hm
   have C4:yk d l S S3:=O'.trans (O1.trans (O2.trans O3))
   have C5:=C4 _ _ fq q1 q2
   have C6:=C4 _ _ fp p1 p2
   have EI:q≠m:=fun e=>by rw[e,hm]at C5;cases C5
   have EJ:p≠m:=fun e=>by rw[e,hm]at C6;cases C6
   refine zy (D3.new hm) (by decide) (by decide) fun j S4 j0 j1 D4 O4=>?_
   have EK:=O4 _ _ ac dm.1 dm.2
   have C7:S4 q=some (.lst (acc.map lI)):=O4 _ _ (by rw[am EI];exact C5) q1 q2
   have EL:S4 p=some (.lst (us.map PV.str)):=O4 _ _ (by rw[am EJ];exact C6) p1 p2
   have EM:yk d l S S4:=C4.trans ((yk.new hm).trans O4)
   simp only[al,EK]
   have hb0:(1+e:Int)≠0:=by omega
   obtain⟨s1,s2,s3,s4⟩:=M3.jR (t:=t) (b:=1+e) (T:=1000001) (B:=1000) hb0 (by omega) (by omega) (by omega) (by omega) (by omega) (by omega)
   obtain⟨u,v,he,hu1,EN⟩:∃u v:Int,yO [PV.tup [.int x,.int y],PV.tup [.int (M3.im t (1+e)),.int (M3.jh t (1+e))]] j=some (.tup [.int u,.int v])/\u.natAbs < 2 ^ 64/\v.natAbs < 2 ^ 64:=by
    rcases(by omega:j=0\/j=1)with rfl|rfl
    ·exact⟨x,y,rfl,oi hxy,oj hxy⟩
    ·exact⟨_,_,rfl,by omega,by omega⟩
   simp only[he]
   refine hN _ _ ?_
   simp only[bW,gq,aa,ai,aq,aj,ay,v3,lk,c3,bx,aQ,C7,E5,List.set_cons_succ,List.set_cons_zero]
   refine⟨by simp[p6,C7],?_⟩
   refine zy D4 (by omega) (by omega) fun i S5 i0 i1 D5 O5=>?_
   have EO:=O5 _ _ C7 q1 q2
   simp only[d3,EO,E5]
   refine⟨i0,by omega,GY (show _<=100 by omega) (by decide),?_⟩
   rw[<-qD,<-List.map_take,<-List.map_drop,<-Fd,<-Gj]
   have pm:(acc.take i.toNat++(b.1,u,v)::acc.drop i.toNat).Perm ((b.1,u,v)::acc):=List.perm_middle.trans (by rw[List.take_append_drop])
   have C8:=pm.map (·.1)
   have mm:∀a∈acc.take i.toNat++(b.1,u,v)::acc.drop i.toNat,CB a:=fun a ha=>by
    rcases Fg.mp (pm.mem_iff.mp ha)with rfl|ha
    ·exact⟨DE,hu1,EN⟩
    ·exact hc a ha
   have hlen:=pm.length_eq
   rw[Fe]at hlen
   refine k_ zy Af AI hk uo p1 p2 q1 q2 hq hpq r _ _ _ _ _ (fun x hx=>hw x (by simp[hx])) ?_ (by omega) mm (D5.upd q1 q2) ?_ (by rw[am hpq];exact O5 _ _ EL p1 p2) ac fun acc' x4 x5 x7 S6 h1 h2 h3 h4 h5 h6 h7 h8=>?_
   ·have:((r.map (·.1))++(acc.take i.toNat++(b.1,u,v)::acc.drop i.toNat).map (·.1)).Perm (b.1::((r.map (·.1))++acc.map (·.1))):=(List.Perm.append_left _ C8).trans List.perm_middle
    exact this.nodup_iff.mpr (FF.mpr DF)
   ·intro a o ha h1 h2
    rw[am (fun e=>by rw[e,hq]at ha;cases ha)]
    exact(O.trans (EM.trans O5)) _ _ ha h1 h2
   ·refine k acc' x4 x5 x7 S6 h1 h2 h3 (fun z hz=>h4 z (C8.mem_iff.mpr (FL _ hz))) (fun z hz hu=>?_) h6 h7 h8
    rcases Fg.mp (show z∈b.1::r.map (·.1)from hz)with rfl|hz
    ·exact h4 _ (C8.mem_iff.mpr (by simp))
    ·exact h5 z hz hu
  unfold t5
  simp only[cC,ku,a_,aj,v3,lk]
  refine ju fp (fI DE) (fun y hy=>fI (uo y hy)) ?_
  rw[Fi]
  by_cases hu:b.1∈us
  ·rw[G9 hu]
   simp only[reduceIte]
   exact put S Dl .refl
  ·rw[FP hu]
   simp only[Fx,GB]
   simp only[aa,aq,v3,lk,c3]
   refine zy Dl (by decide) (by decide) fun t S1 t0 t1 D1 O1=>?_
   simp only[ce,Fi,Fj]
   by_cases h0:t=0
   ·rw[if_pos h0];exact put S1 D1 O1
   ·rw[if_neg h0];exact skip S1 hu D1 O1
theorem bP{js us:Vs}:∀t:Bd,t.good js us->∀z∈t.us,z∈us
 | .rest,_,z,h=>by simp[Bd.us]at h
 | .pay _ _,_,z,h=>by simp[Bd.us]at h
 | .put _ _,_,z,h=>by simp[Bd.us]at h
 | .use y,g,z,h=>by simp[Bd.us]at h;rw[h];exact g
 | .zm a,g,z,h=>bP a g z h
 | .xZ a b,g,z,h=>(FA.mp h).elim (bP a g.1 z) (bP b g.2 z)
 | .zc a b,g,z,h=>(FA.mp h).elim (bP a g.1 z) (bP b g.2 z)
 | .zf _ _ a b,g,z,h=>(FA.mp h).elim (bP a g.2.2.2.1 z) (bP b g.2.2.2.2 z)
abbrev eJ(w:aH):Prop:=∀{S:ap} {d l:Addr} {js ks:Vs} {ds es:List (Str×Bd)} {Q:bY} {E:de},x_ S d l->UH js ks ds es->(∀(pr:List (Str×Int×Int)) S',(pr.map (·.1)).Nodup->(∀a∈pr,CB a)->pr.length<=100->(∀p∈es,∀z∈p.2.us,z∈pr.map (·.1))->x_ S' d l->yk d l S S'->Q (.tup (pr.map lI)) S')->w [.ref d,dj js ds,dj ks es] S Q E
def zA{xu xd xc xl:aH}(At:cJ 12 xu)(zy:bf xd)(Af:dP xc)(AI:eY xl):eJ (bC 8 (cz xu xd xc xl)):=by
 intro S d l js ks ds es Q E D H k
 unfold cz
 refine iX ?_
 rw[show aA 8 [PV.ref d,dj js ds,dj ks es]=[some (.ref d),some (.tup [.tup (js.map PV.str),.tup (ds.map yy)]),some (.tup [.tup (ks.map PV.str),.tup (es.map yy)]),none,none,none,none,none] from rfl]
 refine aE fun N hN=>?_
 simp only[aw,b8,aq]
 intro p hp
 have dp:=D.free hp
 refine hN _ _ (aE fun N hN=>?_)
 simp only[dF,aX,aj,v3,lk,c3,al,kx,bS,List.set_cons_succ,List.set_cons_zero]
 refine oD At (fun _=>trivial) hp es [] none none _ (fun q hq=>⟨by have:=(H.he q hq).2.1;omega,(H.he q hq).2.2⟩) (by have:=H.e1;simp;omega) (.new hp) ac fun x4 x5 S1 X1 f1=>hN _ _ (aE fun N hN=>?_)
 rw[Gw]at f1
 have D1:=D.ext X1
 have uw:∀z∈(es.map (·.2.us)).flatten,z∈ds.map (·.1):=fun z hz=>by
  obtain⟨u,hu,hz⟩:=List.mem_flatten.mp hz
  obtain⟨e,he,rfl⟩:=Fz.mp hu
  exact bP e.2 (H.he e he).1 z hz
 simp only[aw,b8,aq]
 intro q hq
 have dq:=D1.free hq
 have By:p≠q:=fun e=>by rw[e,hq]at f1;cases f1
 refine hN _ _ (aE fun N hN=>?_)
 simp only[dF,aX,aj,v3,lk,c3,al,kx,bS,List.set_cons_succ,List.set_cons_zero]
 refine k_ zy Af AI (S0:=S) (us:=(es.map (·.2.us)).flatten) (fun _=>trivial) (fun z hz=>?_) dp.1 dp.2 dq.1 dq.2 (X1.free hq) By ds [] x4 x5 none _ (fun b hb=>H.dw b hb) (by simpa using H.nd) (by have:=H.d1;simp;omega) (by simp) (D1.new hq) (X1.trans (.new hq)).yA (by rw[am By];exact f1) ac fun pr x4 x5 x7 S2 h1 h2 h3 h4 h5 D2 O2 f2=>hN _ _ (bB ?_)
 ·obtain⟨b,hb,rfl⟩:=Fz.mp (uw z hz)
  exact H.dw b hb
 ·simp only[ai,aq,v3,lk,aU,fz,f2]
  refine k pr S2 h1 h2 h3 (fun e he z hz=>?_) D2 O2
  have hm:z∈(es.map (·.2.us)).flatten:=List.mem_flatten.mpr ⟨_,HD he,hz⟩
  exact h5 z (uw z hm) hm
noncomputable def ky:Bd->Prop
 | .rest=>True
 | .pay x y=>x.natAbs < 2 ^ 64/\y.natAbs < 2 ^ 64
 | .put z m=>y3 z/\m.natAbs < 2 ^ 64
 | .use z=>y3 z
 | .zm a=>ky a
 | .xZ a b=>ky a/\ky b
 | .zc a b=>ky a/\ky b
 | .zf z m a b=>y3 z/\m.natAbs < 2 ^ 64/\ky a/\ky b
theorem dY{S:ap}:∀t:Bd,ky t->Sh S t.pv t.dt (t.size * 4200) (t.dep+1)
 | .rest,_=>(Sh.tup ((Sh.s "rest" 0 (by decide +kernel) (by decide +kernel)).cons .nil)).le (by decide) (by decide)
 | .pay x y,h=>(Sh.tup ((Sh.s "pay" 1 (by decide +kernel) (by decide +kernel)).cons ((Sh.tup ((Sh.i h.1).cons ((Sh.i h.2).cons .nil))).cons (.zU 1)))).le (by simp only[Bd.size];omega) (by simp only[Bd.dep];omega)
 | .put z m,h=>(Sh.tup ((Sh.s "put" 0 (by decide +kernel) (by decide +kernel)).cons ((Sh.w h.1).cons ((Sh.i h.2).cons .nil)))).le (by simp only[Bd.size];omega) (by simp only[Bd.dep];omega)
 | .use z,h=>(Sh.tup ((Sh.s "use" 0 (by decide +kernel) (by decide +kernel)).cons ((Sh.w h).cons .nil))).le (by simp only[Bd.size];omega) (by simp only[Bd.dep];omega)
 | .zm a,h=>(Sh.tup ((Sh.s "often" _ (by decide +kernel) (by decide +kernel)).cons ((dY a h).cons (.zU _)))).le (by simp only[Bd.size];omega) (by simp only[Bd.dep];omega)
 | .xZ a b,h=>(Sh.tup ((Sh.s "then" (max a.dep b.dep+1) (by decide +kernel) (by decide +kernel)).cons (((dY a h.1).le (E1 _) (Gf (Nat.le_max_left a.dep b.dep))).cons (((dY b h.2).le (E1 _) (Gf (HV a.dep b.dep))).cons (.zU _))))).le (by simp only[Bd.size];omega) (by simp only[Bd.dep];omega)
 | .zc a b,h=>(Sh.tup ((Sh.s "either" (max a.dep b.dep+1) (by decide +kernel) (by decide +kernel)).cons (((dY a h.1).le (E1 _) (Gf (Nat.le_max_left a.dep b.dep))).cons (((dY b h.2).le (E1 _) (Gf (HV a.dep b.dep))).cons (.zU _))))).le (by simp only[Bd.size];omega) (by simp only[Bd.dep];omega)
 | .zf z m a b,h=>(Sh.tup ((Sh.s "take" (max a.dep b.dep+1) (by decide +kernel) (by decide +kernel)).cons (((Sh.w h.1).le (E1 _) (FN _)).cons (((Sh.i h.2.1).le (E1 _) (FN _)).cons (((dY a h.2.2.1).le (E1 _) (Gf (Nat.le_max_left a.dep b.dep))).cons (((dY b h.2.2.2).le (E1 _) (Gf (HV a.dep b.dep))).cons (.zU _))))))).le (by simp only[Bd.size];omega) (by simp only[Bd.dep];omega)
theorem bQ{js us:Vs}(hj:∀z∈js,y3 z)(hu:∀z∈us,y3 z):∀t:Bd,t.good js us->ky t
 | .rest,_=>trivial
 | .pay x y,h=>⟨oi h,oj h⟩
 | .put z m,h=>⟨hj z h.1,vo h.2⟩
 | .use z,h=>hu z h
 | .zm a,h=>bQ hj hu a h
 | .xZ a b,h=>⟨bQ hj hu a h.1,bQ hj hu b h.2⟩
 | .zc a b,h=>⟨bQ hj hu a h.1,bQ hj hu b h.2⟩
 | .zf z m a b,h=>⟨hj z h.1,vo ⟨h.2.1,h.2.2.1⟩,bQ hj hu a h.2.2.2.1,bQ hj hu b h.2.2.2.2⟩
theorem dZ{f:Str->Bd}{m k:Nat}(hm:1<=m):∀t:Bd,ky t->(∀z∈t.us,ky (f z)/\(f z).size<=m/\(f z).dep<=k)->ky (t.sub f)/\(t.sub f).size<=t.size * m/\(t.sub f).dep<=t.dep+k
 | .rest,h,_=>⟨h,by simp only[Bd.sub,Bd.size];omega,by simp only[Bd.sub,Bd.dep];omega⟩
 | .pay x y,h,_=>⟨h,by simp only[Bd.sub,Bd.size];omega,by simp only[Bd.sub,Bd.dep];omega⟩
 | .put z n,h,_=>⟨h,by simp only[Bd.sub,Bd.size];omega,by simp only[Bd.sub,Bd.dep];omega⟩
 | .use z,_,hf=>by
  obtain⟨h1,h2,h3⟩:=hf z (by simp[Bd.us])
  exact⟨h1,by simp only[Bd.sub,Bd.size];omega,by simp only[Bd.sub,Bd.dep];omega⟩
 | .zm a,h,hf=>by
  obtain⟨h1,h2,h3⟩:=dZ hm a h hf
  exact⟨h1,by simp only[Bd.sub,Bd.size];rw[G0];omega,by simp only[Bd.sub,Bd.dep];omega⟩
 | .xZ a b,h,hf=>by
  obtain⟨h1,h2,h3⟩:=dZ hm a h.1 fun z hz=>hf z (by simp[Bd.us,hz])
  obtain⟨g1,g2,g3⟩:=dZ hm b h.2 fun z hz=>hf z (by simp[Bd.us,hz])
  exact⟨⟨h1,g1⟩,by simp only[Bd.sub,Bd.size];rw[G0,G0];omega,by simp only[Bd.sub,Bd.dep];omega⟩
 | .zc a b,h,hf=>by
  obtain⟨h1,h2,h3⟩:=dZ hm a h.1 fun z hz=>hf z (by simp[Bd.us,hz])
  obtain⟨g1,g2,g3⟩:=dZ hm b h.2 fun z hz=>hf z (by simp[Bd.us,hz])
  exact⟨⟨h1,g1⟩,by simp only[Bd.sub,Bd.size];rw[G0,G0];omega,by simp only[Bd.sub,Bd.dep];omega⟩
 | .zf y n a b,h,hf=>by
  obtain⟨h1,h2,h3⟩:=dZ hm a h.2.2.1 fun z hz=>hf z (by simp[Bd.us,hz])
  obtain⟨g1,g2,g3⟩:=dZ hm b h.2.2.2 fun z hz=>hf z (by simp[Bd.us,hz])
  exact⟨⟨h.1,h.2.1,h1,g1⟩,by simp only[Bd.sub,Bd.size];rw[G0,G0];omega,by simp only[Bd.sub,Bd.dep];omega⟩
structure AJ (js:Vs) (ds:List (Str×Bd)):Prop where
 jl:js.length<=40
 dl:ds.length<=8
 jw:∀z∈js,y3 z
 ds:∀p∈ds,y3 p.1/\ky p.2/\p.2.size<=100/\p.2.dep<=60
def AJ.sh{S:ap}{js:Vs}{ds:List (Str×Bd)}(h:AJ js ds):Sh S (dj js ds) (hdt js ds) 3500000 64:=by
 have a:Sh S (.tup (js.map PV.str)) (.tuple (js.map PyData.str)) 4000 63:=(Sh.tup (z6.map PV.str PyData.str (n:=62) (k:=0) fun z hz=>Sh.w (h.jw z hz))).le (by have:=h.jl;omega) (by decide)
 have b:Sh S (.tup (ds.map yy)) (.tuple (ds.map wT)) 3400000 63:=(Sh.tup (z6.map yy wT (n:=421000) (k:=62) fun p hp=>(Sh.tup (((Sh.w (h.ds p hp).1).le (E1 _) (FN _)).cons (((dY p.2 (h.ds p hp).2.1).le (E1 _) (show _<=61 by have:=(h.ds p hp).2.2.2;omega)).cons (.zU _)))).le (by have:=(h.ds p hp).2.2.1;omega) (by decide))).le (by have:=h.dl;omega) (by decide)
 exact(Sh.tup (a.cons (b.cons (.zU _)))).le (by decide) (by decide)
def AJ.repr{S:ap}{js:Vs}{ds:List (Str×Bd)}{Q:bY}(h:AJ js ds)(q:Q (.str (hdt js ds).shown) S):df [dj js ds] S Q:=kc h.sh (by decide) (by decide) q
noncomputable def w4(p:Str×Int×Int):PyData:=.tuple [.str p.1,.tuple [.int p.2.1,.int p.2.2]]
def vI{S:ap}{pr:List (Str×Int×Int)}(hl:pr.length<=100)(h:∀a∈pr,CB a):Sh S (.tup (pr.map lI)) (.tuple (pr.map w4)) 500000 64:=
 (Sh.tup (z6.map lI w4 (n:=4200) (k:=2) fun p hp=>(Sh.tup (((Sh.w (h p hp).1).le (E1 _) (FN 1)).cons ((Sh.tup ((Sh.i (h p hp).2.1).cons ((Sh.i (h p hp).2.2).cons .nil))).cons (.zU 1)))).le (by decide) (by decide))).le (by omega) (by decide)
noncomputable def xt(js ks:Vs)(ds es:List (Str×Bd))(pr:List (Str×Int×Int)):PyData:=.tuple [hdt js ds,hdt ks es,.tuple (pr.map w4)]
def km{S:ap}{js ks:Vs}{ds es:List (Str×Bd)}{pr:List (Str×Int×Int)}{Q:bY}(h1:AJ js ds)(h2:AJ ks es)(hl:pr.length<=100)(h:∀a∈pr,CB a)(q:Q (.str (xt js ks ds es pr).shown) S):df [.tup [dj js ds,dj ks es,.tup (pr.map lI)]] S Q:=
 kc (Sh.tup (h1.sh.cons (h2.sh.cons ((vI hl h).cons (.zU _))))) (by decide) (by decide) q
def UH.okd{js ks:Vs}{ds es:List (Str×Bd)}(H:UH js ks ds es):AJ js ds:=⟨by have:=H.j1;omega,H.d1,H.jw,fun p hp=>⟨H.dw p hp,bQ H.jw (by simp) p.2 (H.hd p hp).1,by have:=(H.hd p hp).2.2;omega,by have:=(H.hd p hp).2.1;omega⟩⟩
def UH.DG{js ks:Vs}{ds es:List (Str×Bd)}(H:UH js ks ds es):∀p∈es,ky p.2:=fun p hp=>bQ H.kw (fun z hz=>by obtain⟨q,hq,rfl⟩:=Fz.mp hz;exact H.dw q hq) p.2 (H.he p hp).1
def UH.DH{js ks:Vs}{ds es:List (Str×Bd)}(H:UH js ks ds es):AJ ks es:=⟨by have:=H.k1;omega,H.e1,H.kw,fun p hp=>⟨H.ew p hp,H.DG p hp,by have:=(H.he p hp).2.2;omega,by have:=(H.he p hp).2.1;omega⟩⟩
def oE{js ks:Vs}{ds es l:List (Str×Bd)}{zs:Vs}(H:UH js ks ds es)(hz:∀z∈zs,y3 z)(EQ:zs.length<=40)(hl:∀p∈es,∀z∈p.2.us,ky (hW l z)/\(hW l z).size<=8/\(hW l z).dep<=6):AJ zs (lJ l es):=
 ⟨EQ,by rw[E5];exact H.e1,hz,fun p hp=>by
  obtain⟨e,he,rfl⟩:=Fz.mp hp
  obtain⟨h1,h2,h3⟩:=dZ (m:=8) (k:=6) (by decide) e.2 (H.DG e he) (hl e he)
  have:=H.he e he
  exact⟨H.ew e he,h1,by dsimp only;omega,by dsimp only;omega⟩⟩
def Tb.yA{S S':ap}{d l:Addr}(h:Tb S)(D:x_ S d l)(O:yk d l S S'):Tb S':=by
 obtain⟨a,e⟩:=h
 obtain⟨_,_,_,D⟩:=D
 exact⟨a,O _ _ e (fun z=>by subst z;have:=D.1;rw[e]at this;cases this) fun z=>by subst z;have:=D.2;rw[e]at this;cases this⟩
abbrev qE(w:aH):Prop:=∀{ns:Vu} {S:ap} {Q:bY} {E:de},ns.length<=63->Tb S->(∀S',Q (.bl true) S')->w [.cl (ns.map PV.int)] S Q E
def tS{x0 x1 x2 x3 x4 x5:aH}(zQ:j_ x0)(Ag:jG x1)(zA:eJ x2)(AK:kj x3)(zx:hZ x4)(zz:h_ x5):qE (bC 10 (oq x0 x1 x2 x3 x4 x5)):=by
 intro ns S Q E hn hT k
 unfold oq
 refine iX ?_
 rw[show aA 10 [PV.cl (ns.map PV.int)]=[some (.cl (ns.map PV.int)),none,none,none,none,none,none,none,none,none] from rfl]
 refine aE fun N hN=>?_
 walk_at "x"
 refine zQ hn (by decide) (by decide) fun d l S1 _ _ D1 X1=>?_
 refine hN _ _ (aE fun N hN=>?_)
 simp only[dF,gg,c3]
 refine⟨by decide,by decide,?_⟩
 refine gu (fun done σ S'=>∃x2 x3 x4 x5 x6 x7 x8 x9,σ=[some (.cl (ns.map PV.int)),some (.ref d),x2,x3,x4,x5,x6,x7,x8,x9]/\x_ S' d l/\Tb S') ⟨_,_,_,_,_,_,_,_,rfl,D1,hT.ext X1⟩ (fun _ _ _ _=>trivial) ?_ ?_
 ·rintro done x rest σ S2 K e ⟨x2,x3,x4,x5,x6,x7,x8,x9,rfl,D2,T2⟩ hK
  simp only[Tg.put,List.set_cons_succ,List.set_cons_zero]
  refine aE fun N2 zS=>?_
  simp only[me,aa,aq,v3,lk]
  refine Ag D2 fun js ks ds es S3 H D3 O3=>?_
  have T3:=T2.yA D2 O3
  have e1:=H.e1
  have d1:=H.d1
  have j1:=H.j1
  have k1:=H.k1
  simp only[Tg.put,Tg.yP,List.set_cons_succ,List.set_cons_zero]
  refine zS _ _ (aE fun N2 zS=>?_)
  simp only[aw,aa,aq,v3,lk]
  refine zA D3 H fun pr S4 pn pc pl pu D4 O4=>?_
  have T4:=T3.yA D3 O4
  refine zS _ _ (aE fun N2 zS=>?_)
  simp only[aw,ai,aq,ay,v3,lk,List.set_cons_succ,List.set_cons_zero]
  refine km H.okd H.DH pl pc ?_
  refine zS _ _ (aE fun N2 zS=>?_)
  have ER:∀z∈pr.map (·.1),ky (hW (ie pr) z)/\(hW (ie pr) z).size<=8/\(hW (ie pr) z).dep<=6:=fun z hz=>by
   have hm:=jE (l:=ie pr) (z:=z) (by rw[gw];exact hz)
   unfold ie at hm
   obtain⟨a,ha,ea⟩:=Fz.mp hm
   have e2:hW (ie pr) z = .pay a.2.1 a.2.2:=(FI Prod.snd ea).symm
   rw[e2]
   exact⟨(pc a ha).2,by simp[Bd.size],by simp[Bd.dep]⟩
  have DI:AJ ks (lJ (ie pr) es):=oE H H.kw (by omega) fun p hp z hz=>ER z (pu p hp z hz)
  have DJ:AJ (ks++js) (lJ ds es):=oE H (fun z hz=>(FA.mp hz).elim (H.kw z) (H.jw z)) (by rw[E6];omega) fun p hp z hz=>by
   have hm:=jE (l:=ds) (z:=z) (bP p.2 (H.he p hp).1 z hz)
   have:=H.hd _ hm
   exact⟨bQ H.jw (by simp) _ this.1,this.2.2,this.2.1⟩
  have DK:∀p∈es,p.2.dep<=12:=fun p hp=>by have:=(H.he p hp).2.1;omega
  have ud:∀p∈es,p.2.dep<=12/\∀z∈p.2.us,z∈ds.map (·.1):=fun p hp=>⟨DK p hp,bP p.2 (H.he p hp).1⟩
  have up:∀p∈es,p.2.dep<=12/\∀z∈p.2.us,z∈pr.map (·.1):=fun p hp=>⟨DK p hp,pu p hp⟩
  simp only[aw,ai,aa,aq,ay,a8,aX,v3,lk,bS,List.set_cons_succ,List.set_cons_zero]
  refine bZ (S0:=S4) lI (fun p=>yy (p.1,.pay p.2.1 p.2.2)) (fun S X=>trivial) pr [] S4 .refl (by simp;omega) (fun p hp S1 X1=>⟨_,rfl,fun K hK=>?_⟩) fun S5 X5 q hq=>?_
  ·simp only[ay,aq,c3,v3,lk]
   exact hK S1 .refl
  have eq1:pr.map (fun p=>yy (p.1,Bd.pay p.2.1 p.2.2))=(ie pr).map yy:=by unfold ie;rw[F6];rfl
  rw[Gw,eq1,show PV.tup ([]:List PV) = .tup (([]:Vs).map PV.str)from rfl]
  refine AK (l:=ie pr) (.ref ac) (by rw[ie,E5];omega) (by omega) (by omega) (by simp) (fun p hp=>by rw[gw];exact up p hp) fun S6 X6=>?_
  rw[Gv]
  refine DI.repr ?_
  have ES:Ext S4 S6:=X5.trans ((Ext.new hq).trans X6)
  refine zS _ _ (aE fun N2 zS=>?_)
  simp only[aw,ai,aa,aq,aj,c3,al,v3,lk,dj,ic,kx,List.set_cons_succ,List.set_cons_zero]
  rw[show PV.tup [PV.tup (ks.map PV.str),PV.tup (es.map yy)]=dj ks es from rfl]
  refine AK (l:=ds) .tup (by omega) (by omega) (by omega) (by omega) ud fun S7 X7=>?_
  refine DJ.repr ?_
  have EU:Ext S4 S7:=ES.trans X7
  refine zS _ _ (aE fun N2 zS=>?_)
  simp only[dF,gg,c3]
  refine⟨by decide,by decide,?_⟩
  refine gu (fun done σ S'=>∃x9,σ=[some (.cl (ns.map PV.int)),some (.ref d),some x,some (dj js ds),some (dj ks es),some (.tup (pr.map lI)),some (.str (xt js ks ds es pr).shown),some (.str (hdt ks (lJ (ie pr) es)).shown),some (.str (hdt (ks++js) (lJ ds es)).shown),x9]/\Ext S4 S') ⟨_,rfl,EU⟩ (fun _ _ _ _=>trivial) ?_ ?_
  ·rintro done y rest σ S8 K8 e8 ⟨y9,rfl,X8⟩ EV
   simp only[Tg.put,List.set_cons_succ,List.set_cons_zero]
   simp only[cC,ku,a_,aj,ai,aa,aq,v3,lk]
   refine zx (T4.ext X8) (by omega) (by omega) pn up fun S9 X9=>DI.repr ?_
   refine dQ true ?_
   simp only[HQ,Bool.bne_true,HR,Fx,GB]
   refine zz ((T4.ext X8).ext X9) (by omega) (by omega) (by omega) (by omega) H.nd ud fun EF EW=>DJ.repr ?_
   refine dQ true ?_
   simp only[HQ,Bool.bne_true,HR,Fx,GB]
   exact EV _ _ ⟨_,rfl,X8.trans (X9.trans EW)⟩
  ·rintro σ S8 ⟨y9,rfl,X8⟩
   refine zS _ _ ?_
   simp only[cC,a_,aj,ai,aq,ay,v3,lk]
   refine km H.okd H.DH pl pc ?_
   refine dQ true ?_
   simp only[HQ,Bool.bne_true,HR,Fx,GB]
   exact hK _ _ ⟨_,_,_,_,_,_,_,_,rfl,D4.ext X8,T4.ext X8⟩
 ·rintro σ S2 ⟨x2,x3,x4,x5,x6,x7,x8,x9,rfl,D2,T2⟩
  refine hN _ _ ?_
  walk_at "x"
  exact k S2
def eL:bf w__law_draw:=xX
def qZ:eY cY:=Ab
def qF:fK cZ:=zF eL
def oF:dP cm:=zR eL qZ
def oG:e7 cp:=y6 eL oF
theorem oH:∀n,e9 n (cq n)
 |0=>fun _ _ _ _ _ _ _ h0 h1 _=>by omega
 |n+1=>zT eL oG n (oH n)
theorem kn:∀n,bL n (bc n)
 |0=>fun h _ _=>absurd h (by have:=Bd.y4;exact HN.mpr (this _))
 |n+1=>mw n (kn n)
def ko:bL 12 bd:=kn 12
theorem kq:∀n,n<=12->cW n (bb n)
 |0,_=>fun h _ _=>absurd h (by have:=Bd.y4;exact HN.mpr (this _))
 |n+1,hn=>mx n 12 ko (kq n (by omega)) (by omega)
def w5:cX bM:=jv 12 (by decide) (oH 12) ko (kq 12 (by decide)) oG
theorem oI:∀n,dR n (cr n)
 |0=>fun _ _ _ _ h _ _=>absurd h (by have:=Bd.y4;exact HN.mpr (this _))
 |n+1=>oA eL n (oI n)
def tT:dR 6 dU:=fun D hn h1 h2 h3 hg k=>oI 12 D hn h1 h2 (Fc h3 (by decide)) hg k
theorem oJ:∀n,cJ n (cu n)
 |0=>fun h _ _=>absurd h (by have:=Bd.y4;exact HN.mpr (this _))
 |n+1=>qC n (oJ n)
theorem oK:∀n,fh n (cw n)
 |0=>fun h _ _ _ _=>absurd h (by have:=Bd.y4;exact HN.mpr (this _))
 |n+1=>qA n (oK n)
theorem q5:∀n,gv n (d4 n)
 |0=>fun h _ _ _=>absurd h (by have:=Bd.y4;exact HN.mpr (this _))
 |n+1=>k7 zH vB n (q5 n)
def vJ:jC aZ:=vC (q5 12)
def vK:jG eE:=Ag qF eL (vG w5) tT
def oM:eJ cA:=zA (oJ 12) eL oF qZ
def oN:∀(ns:Vu) (S:ap),ns.length<=63->Tb S->ki [.cl (ns.map PV.int)] S (fun v _=>v = .bl true) eu:=fun ns S h hT=>tS zQ vK oM (qB (oK 12)) (zx vJ) (zz vJ) h hT fun _=>rfl
end G51
namespace G51
open PySem L2 L3
def tU{l:PySem.W.OpenLaw}{w:World}{K:Vo}{h:Heap}{mg:Vr}{fa:Addr}(X:K.In h)(G:h.Ns mainGlobals mg)(hfa:mg "law" = some (.ref fa)){tc tp:Addr}
  (Bz:PySem.W.tabIn K "deeds_without_uses" = some (tc,tp))
  (yR:zq K "sides_of" (b9 2))
  (yY:zq K "changed" (b9 3))
  (ya:zq K "deeds_without_uses" (b9 5))
  (zg:zq K "priced" (b9 6))
  (zh:zq K "joined" (b9 7))
  (yB:zq K "_law_deal" (b9 9))
  (yC:zq K "_law_draw" (b9 10))
  (yS:zq K "_law_low" (b9 11))
  (yw:zq K "_law_words" (b9 12))
  (yD:zq K "_law_cost" (b9 13))
  (yE:zq K "_law_leaf" (b9 14))
  (yF:zq K "_law_body" (b9 15))
  (yf:zq K "_law_pass_count" (b9 16))
  (ye:zq K "_law_round_count" (b9 17))
  (yj:zq K "_law_deed_body" (b9 18))
  (yo:zq K "_law_house_of" (b9 19))
  (yG:zq K "_law_used" (b9 20))
  (yT:zq K "_law_two" (b9 21))
  (yH:zq K "_law_uses" (b9 22))
  (yt:zq K "_law_prices" (b9 23))
  (yI:zq K "_law_with" (b9 24))
  (yU:zq K "_law_due" (b9 25))
  (yx:Cc l.prog w K "SIDES_FROM" (C.k_SIDES_FROM.map fun kv=>(kv.1,V.int kv.2)))
  (Au:((["dict","isinstance","len","list","max","range","repr","reversed","str","tuple","zip"]:Vs).all fun x=>qu (PySem.W.nsIn K mainGlobals x))=true)
  (AL:zq K "law" (b9 26))
  : ∃fd:FuncData,(∀(s:Shared) (v:Value),BindsTo s fd ⟨[v],[]⟩ [("_law_script",v)])/\∀base:Heap,K.In base->base.Ns mainGlobals mg->PySem.W.CodeHd base tc tp->base.BuiltinsAt mg tp->ig l.prog w K mg base oP 28 fa fd ["_law_script"] (t4 K 1 ki):=by
 obtain⟨kV,doc,pm,an,cdv,ct,O⟩:=AL.law X G hfa (ps:=["_law_script"]) (fun _ _ _ _ _ _=>qW fun _=>rfl)
 exact⟨_,fun s v=>.of_eq rfl,fun base kb nb hc hb=>(tL (P:=l.prog) (w:=w) (base:=base) ⟨⟨kb,nb,Bz,hc,hb⟩,yR.own X G (fun _ _ _ _ _ _=>qW fun _=>rfl),
  yY.own X G (fun _ _ _ _ _ _=>oV fun _ _=>rfl),
  ya.own X G (fun _ _ _ _ _ _=>oV fun _ _=>rfl),
  zg.own X G (fun _ _ _ _ _ _=>oV fun _ _=>rfl),
  zh.own X G (fun _ _ _ _ _ _=>oV fun _ _=>rfl),
  yB.own X G (fun _ _ _ _ _ _=>oV fun _ _=>rfl),
  yC.own X G (fun _ _ _ _ _ _=>oV fun _ _=>rfl),
  yS.own X G (fun _ _ _ _ _ _=>oV fun _ _=>rfl),
  yw.own X G (fun _ _ _ _ _ _=>oV fun _ _=>rfl),
  yD.own X G (fun _ _ _ _ _ _=>qW fun _=>rfl),
  yE.own X G (fun _ _ _ _ _ _=>oV fun _ _=>rfl),
  yF.own X G (fun _ _ _ _ _ _=>xp fun _ _ _ _=>rfl),
  yf.own X G (fun _ _ _ _ _ _=>qW fun _=>rfl),
  ye.own X G (fun _ _ _ _ _ _=>qW fun _=>rfl),
  yj.own X G (fun _ _ _ _ _ _=>xp fun _ _ _ _=>rfl),
  yo.own X G (fun _ _ _ _ _ _=>xR fun _ _ _ _ _=>rfl),
  yG.own X G (fun _ _ _ _ _ _=>wR fun _ _ _=>rfl),
  yT.own X G (fun _ _ _ _ _ _=>qW fun _=>rfl),
  yH.own X G (fun _ _ _ _ _ _=>qW fun _=>rfl),
  yt.own X G (fun _ _ _ _ _ _=>wR fun _ _ _=>rfl),
  yI.own X G (fun _ _ _ _ _ _=>oV fun _ _=>rfl),
  yU.own X G (fun _ _ _ _ _ _=>wR fun _ _ _=>rfl),
  gV (x:="dict") X G Au,
  gV (x:="isinstance") X G Au,
  gV (x:="len") X G Au,
  gV (x:="list") X G Au,
  gV (x:="max") X G Au,
  gV (x:="range") X G Au,
  gV (x:="repr") X G Au,
  gV (x:="reversed") X G Au,
  gV (x:="str") X G Au,
  gV (x:="tuple") X G Au,
  gV (x:="zip") X G Au,
  yx.kd X G⟩ O).ok⟩
def w9{l:PySem.W.OpenLaw}{q:Program}{loose:Vs}{XP:(Vr)->Heap->Prop}{YP:World->Heap->Prop}{d d2:DefRec}{K:Params->PySem.W.Frag}{tc tp:Addr}(hn:l.most=some 63)(hdf:d.params.defaults=[])
  (hY:∀(w:World) (h:Heap),YP w h->(K w.params).In h)
  (hy:(PyProof.Rows.recsOf q).find? (fun e=>e.name == ("deeds_without_uses":Str))=some d2) (hT:∀w:World,PySem.W.tabIn (K w.params) "deeds_without_uses" = some (tc,tp)) (Bq:∀w:World,(K w.params).lookup tp=none)
  (F:∀(w:World) (mg:Vr) (fa:Addr) (h:Heap),(K w.params).In h->h.Ns mainGlobals mg->mg d.name=some (.ref fa)->
   ∃fd:FuncData,(∀(s:Shared) (u:Value),BindsTo s fd ⟨[u],[]⟩ [("_law_script",u)])/\∀base:Heap,(K w.params).In base->base.Ns mainGlobals mg->PySem.W.CodeHd base tc tp->base.BuiltinsAt mg tp->ig l.prog w (K w.params) mg base oP 28 fa fd ["_law_script"] (t4 (K w.params) 1 ki)) :
  PySem.W.WalkO q loose XP YP l.row.toRowW d [] (fun f vs=>PySem.call f vs):=
 L2.nu (n:=63) (k:=28) (x:="_law_script") (CX:=fun _=>oP) (sp:=fun w=>t4 (K w.params) 1 ki) hn (by decide) hdf ⟨rfl,by decide,by decide,rfl⟩ hY hy hT Bq F (fun w _ a ns hl hO hS=>vm (pos:=tK) (q:=zV.qual) (hT w) hO hS (oN ns _ hl ⟨tp,if_pos rfl⟩)) fun _ _ _ _ _ z=>z
end G51
local macro_rules | `(tactic| walk_at "k")=>`(tactic| (apply L3.xS; k_is; k_is; k_is; k_is))
open PySem PySem.W PyProof.Rows
set_option maxRecDepth 100000 in
set_option maxHeartbeats 0 in
theorem PySem.Challenge.cw_dueworth_k51_users_priced_and_joined_holds : PySem.Challenge.rw_dueworth_k51_users_priced_and_joined.Holds := by
 w_on; refine holds_law E51.said fun said => ?_
 refine holds_open (q := E51.vw) (loose := ["SIDES_FROM"]) (Xt := fun s => (xlAt E51.vw [] s && recOk (RowW.records E51.rr) s)) (XP := XL E51.vw []) (N := 1664)
  (Yf := Hook.obs E51.hk) (Ya := Hook.val E51.hk) (YP := Hook.says (kmHook E51.early.heap_1 E51.as E51.w_ [29])) E51.left (Hook.of E51.hk) (Hook.keeps E51.hk) (fun s e => xl_of s (Gx.mp e).1)
  XL.keeps rfl rfl rfl (fun s e => recFacts_of (Gx.mp e).2) rfl (by assumption)
  (by decide +kernel) ⟨rfl, rfl, rfl, rfl, rfl, by decide +kernel⟩ ?hw ?hc
 (case hw => w_witness2)
 k_fill
 refine' G51.w9 (l := PySem.Challenge.rw_dueworth_k51_users_priced_and_joined) (tc := 31) (tp := 29) rfl rfl (fun w h Y => PySem.W.km_in_of Y) ?hy ?hT ?Bq ?F
 (case hy => exact rfl)
 (case hT => intro w; kernel_rfl)
 (case Bq => intro w; kernel_rfl)
 case F =>
  intro w mg fa h KX G hmg
  refine' G51.tU KX G hmg (tc := 31) (tp := 29) ?Bz ?yR ?yY ?ya ?zg ?zh ?yB ?yC ?yS ?yw ?yD ?yE ?yF ?yf ?ye ?yj ?yo ?yG ?yT ?yH ?yt ?yI ?yU ?yx ?Au ?AL
  (case yR => walk_at "k")
  (case yY => walk_at "k")
  (case ya => walk_at "k")
  (case zg => walk_at "k")
  (case zh => walk_at "k")
  (case yB => walk_at "k")
  (case yC => walk_at "k")
  (case yS => walk_at "k")
  (case yw => walk_at "k")
  (case yD => walk_at "k")
  (case yE => walk_at "k")
  (case yF => walk_at "k")
  (case yf => walk_at "k")
  (case ye => walk_at "k")
  (case yj => walk_at "k")
  (case yo => walk_at "k")
  (case yG => walk_at "k")
  (case yT => walk_at "k")
  (case yH => walk_at "k")
  (case yt => walk_at "k")
  (case yI => walk_at "k")
  (case yU => walk_at "k")
  (case yx => apply L3.xT; k_is; k_is; rfl; exact L2.sn _ w [("then", 1, _, _), ("either", 1, _, _), ("take", 3, _, _), ("often", 1, _, _)] _ (by decide +kernel))
  (case Au => kernel_rfl)
  (case Bz => kernel_rfl)
  (case AL => walk_at "k")
#print axioms PySem.Challenge.cw_dueworth_k51_users_priced_and_joined_holds
