import PyProof.Rows.All
import Wide.All
import OpenK.AllK
import Wide.FinOn
import Lean
import PyProof.EqAt
import PyProof.EqKinds
import PyProof.TupleCall
import PySem.Challenge.RW_dueworth_k31_rounds
import Open.Tree
import Open.Head
section
set_option Elab.async false
set_option linter.all false
set_option maxRecDepth 100000
set_option maxHeartbeats 0
abbrev Ji:=@PySem.wpAny_bind
abbrev Jj:=@List.length_append
abbrev Jk:=@List.length_map
abbrev Jl:=@PySem.Heap.get?_push_of_some
abbrev Jm:=@Nat.le_refl
abbrev Jo:=@List.size_toArray
abbrev Jp:=@PySem.wpAny_pure
abbrev Jq:=@List.mem_cons
abbrev Jr:=@PySem.Heap.lt_size
abbrev Js:=@List.mem_singleton
abbrev Jt:=@Bool.false_bne
abbrev Ju:=@List.mem_append
abbrev Jv:=@Bool.false_eq_true
abbrev Jw:=@Nat.le_trans
abbrev Jx:=@List.getElem?_map
abbrev Jy:=@List.length_singleton
abbrev Jz:=@decide_eq_true_eq
abbrev JA:=@PySem.Heap.get?_push_size
abbrev JB:=@List.length_cons
abbrev JC:=@Nat.lt_of_lt_of_le
abbrev JD:=@Array.getElem?_eq_getElem
abbrev JE:=@List.getElem?_eq_getElem
abbrev JF:=@List.not_mem_nil
abbrev JG:=@List.map_cons
abbrev JH:=@Bool.false_ne_true
abbrev JI:=@List.mem_of_getElem?
abbrev JJ:=@List.getElem?_eq_some_iff
abbrev JK:=@decide_eq_false
abbrev JL:=@Nat.ne_of_lt
abbrev JM:=@Nat.zero_le
abbrev JN:=@List.append_nil
abbrev JO:=@List.mem_map
abbrev JP:=@List.map_append
abbrev JQ:=@PySem.PassesOwn.never
abbrev JR:=@if_false
abbrev JS:=@List.mem_append_right
abbrev JT:=@Option.map_eq_some_iff
abbrev JU:=@PyProof.Rows.callWith_type1
abbrev JV:=@decide_eq_true
abbrev JW:=@if_true
abbrev JX:=@PySem.wpAny_field
abbrev JY:=@List.flatMap_append
abbrev JZ:=@List.getElem?_append_left
abbrev J3:=@PyProof.Rows.slot_tuple_getitem
abbrev J4:=@List.length_replicate
abbrev J5:=@decide_true
abbrev J6:=@List.nil_append
abbrev J7:=@List.length_nil
abbrev J8:=@List.getElem?_append_right
abbrev J9:=@List.length_drop
abbrev Ka:=@PySem.wpAny_callSpecial?_slot
abbrev Kc:=@Option.some.inj
abbrev Kd:=@List.replicate_succ
abbrev Ke:=@congrArg
abbrev Kf:=@PySem.wpAny_newObj_type
abbrev Kg:=@List.map_nil
abbrev Kh:=@List.mem_of_mem_take
abbrev Kl:=@List.filter_append
abbrev Km:=@List.nodup_cons
abbrev Kn:=@Bool.true_bne
abbrev Ko:=@List.length_take
abbrev Kp:=@PySem.Heap.get?_update_other
abbrev Kq:=@or_false
abbrev Kr:=@PySem.Heap.get?_update_self
abbrev Ks:=@PySem.wpAny_seqItems
abbrev Ku:=@List.mem_filter
abbrev Kv:=@List.mem_cons_self
abbrev Kw:=@PySem.Calls.spliced_cons
abbrev Ky:=@PySem.wpAny_pyIter_tuple
abbrev Kz:=@List.mem_cons_of_mem
abbrev KA:=@Bool.not_false
abbrev KC:=@List.fst_mem_of_mem_zipIdx
abbrev KG:=@PySem.F.plain_extend_loop
abbrev KH:=@List.getElem?_eq_none
abbrev KJ:=@PySem.wpAny_Call_Name_kw
abbrev KL:=@PySem.wpAny_call_entry
abbrev KN:=@PySem.wpAny_setField_rec
abbrev KO:=@Nat.le_add_right
abbrev KP:=@Nat.lt_irrefl
abbrev KQ:=@PySem.wpAny_holding
abbrev KR:=@PySem.Heap.size_push
abbrev KS:=@PySem.Around.under_plainId
abbrev KU:=@Nat.pow_le_pow_right
abbrev KW:=@true_and
abbrev KY:=@List.getElem?_replicate
abbrev KZ:=@Int.eq_ofNat_of_zero_le
abbrev K0:=@PySem.F.plainAttrs_list
abbrev K1:=@PySem.F.slot_zip_next
abbrev K3:=@PySem.mem_of_lookup
abbrev K4:=@PySem.Calls.callWith_builtin
abbrev K5:=@List.map_map
abbrev K6:=@Nat.zero_add
abbrev K7:=@List.mem_flatMap
abbrev K8:=@PyProof.Rows.assignInOrder_cons
abbrev K9:=@PySem.F.slot_tuple_iterator_next
abbrev La:=@List.take_succ
abbrev Lb:=@Nat.not_le
abbrev Lc:=@Ne.symm
abbrev Ld:=@PySem.F.slot_dict_get
abbrev Le:=@PySem.wpAny_passesOwn
abbrev Lf:=@List.mem_append_left
abbrev Lg:=@PySem.wpAny_truthy_bool
abbrev Lh:=@PySem.Calls.spliced_nil
abbrev Li:=@List.flatten_cons
abbrev Lj:=@PySem.wpAny_pyIter_list
abbrev Lk:=@decide_false
abbrev Ll:=@Int.mul_ediv_cancel_left
abbrev Lm:=@Int.fdiv_eq_ediv_of_dvd
abbrev Ln:=@List.take_length
abbrev Lo:=@PySem.wpAny_mono
abbrev Lp:=@PySem.tupleKind_room_in1
abbrev Lq:=@Array.getElem?_eq_none
abbrev Lr:=@List.take_of_length_le
abbrev Ls:=@List.length_mapIdx
abbrev Lu:=@Bool.eq_iff_iff
abbrev Lv:=@PySem.codeAny_builtin
abbrev Lw:=@List.dropLast_concat_getLast
abbrev Lx:=@Bool.not_true
abbrev Ly:=@PySem.builtinLookup_eq_fast
abbrev Lz:=@Int.toNat_natCast
abbrev LA:=@Bool.and_eq_true_iff
abbrev LB:=@List.mem_range
abbrev LD:=@PySem.Calls.evalArgs_plain
abbrev LF:=@PySem.call_meets
abbrev LG:=@List.mem_of_mem_drop
abbrev LH:=@List.getElem?_mapIdx
abbrev LJ:=@Array.getElem?_eq_some_iff
abbrev LK:=@Nat.ne_of_gt
abbrev LL:=@List.getElem_mem
abbrev LN:=@List.getElem?_zip_eq_some
abbrev LP:=@List.length_reverse
abbrev LQ:=@List.getElem?_range
abbrev LU:=@PySem.F.args_tuple_add_2
abbrev LV:=@PySem.plainId_quiet
abbrev LW:=@List.map_take
abbrev LX:=@PySem.wpAny_updateSeq
abbrev LY:=@List.forIn_cons
abbrev LZ:=@PySem.wpAny_loadPart'
abbrev L0:=@PySem.wpAny_rule
abbrev L4:=@Nat.lt_of_le_of_lt
abbrev L5:=@PySem.F.entry_tuple_add
abbrev L6:=@PySem.F.args_dict_get_3
abbrev L7:=@Nat.le_of_lt
abbrev L8:=@PySem.wpAny_bindName
abbrev Ma:=@PySem.F.slot_tuple_add
abbrev Mb:=@PySem.wpAny_typeOf
abbrev Mc:=@List.reverse_cons
abbrev Me:=@List.append_assoc
abbrev Mf:=@PySem.F.entry_dict_get
abbrev Mg:=@PySem.wpAny_nextOf_list_item
abbrev Mh:=@PySem.F.args_zip_next_1
abbrev Mi:=@PySem.wpAny_pyIter_enum
abbrev Mj:=@List.flatMap_cons
abbrev Mk:=@List.eraseIdxIfInBounds_toArray
abbrev Ml:=@Nat.le_of_ble_eq_true
abbrev Mm:=@List.length_filter_le
abbrev Mn:=@List.take_append_drop
abbrev Mp:=@List.all_eq_true
abbrev Mq:=@PySem.F.entry_zip_next
abbrev Mr:=@PySem.Heap.size_update
abbrev Ms:=@List.filter_cons
abbrev Mt:=@List.any_cons
abbrev Mv:=@PySem.wpAny_updateSeq_pair
abbrev Mw:=@PySem.wpAny_execs_nil
abbrev Mx:=@List.of_mem_zip
abbrev My:=@PySem.typeLookup_type
abbrev Mz:=@PySem.wpAny_specialOf
abbrev MA:=@Int.natCast_pos
abbrev MB:=@List.filterMap_cons
abbrev MC:=@Array.length_toList
abbrev MD:=@PySem.F.entry_extend_loop
abbrev ME:=@List.sum_append_nat
abbrev MF:=@Int.le_of_lt
abbrev MG:=@List.getElem?_drop
abbrev MH:=@List.nodup_nil
abbrev MI:=@Int.emod_lt_of_pos
abbrev MJ:=@Nat.mul_le_mul
abbrev MK:=@List.take_sublist
abbrev ML:=@Option.isSome_map
abbrev MM:=@Option.some.injEq
abbrev MN:=@List.length_range
abbrev MO:=@List.sum_cons
abbrev MP:=@Bool.and_true
abbrev MQ:=@PySem.W.mg_of
abbrev MR:=@Nat.le_max_right
abbrev MS:=@Nat.lt_trans
abbrev MT:=@List.map_id'
namespace ET
open PySem PySem.W PyProof.Rows
def gk(tb:String→Option Builtin)(p:Program)(w:World)(n₀:Nat)(ann:Option Value):Nat→SharedT→Thread→Option SharedT
 |0,_,_=>none
 |n+1,s,t=>match through t with
  |true=>some s
  |false=>match stepOk n₀ ann t with
   |false=>none
   |true=>match stepT (denote tb) p w s t with
    |some x=>gk tb p w n₀ ann n x.1 x.2
    |none=>none
theorem j9{tb:String→Option Builtin}{p:Program}{w:World}{n₀:Nat}{ann:Option Value}:∀{n:Nat} {s s':SharedT} {t:Thread},gk tb p w n₀ ann n s t=some s'→topRun tb p w n₀ ann n s.abs t=some s'.abs
 |0,_,_,_,h=>by cases h
 |n+1,s,s',t,h=>by
  unfold gk at h
  unfold topRun
  cases he:through t with
  |true=>rw[he]at h;cases h;rfl
  |false=>
   rw[he]at h
   cases hk:stepOk n₀ ann t with
   |false=>rw[hk]at h;cases h
   |true=>
    rw[hk]at h
    cases hs:stepT (denote tb) p w s t with
    |none=>rw[hs]at h;cases h
    |some r=>rw[hs]at h;rw[stepT_spec hs];exact j9 h
def wX:List Obj→BT→Nat→Option (BT×Nat)
 |[],t,n=>some (t,n)
 |o::os,t,n=>match ((t.ins n o).get n).isSome with
  |true=>wX os (t.ins n o) (n+1)
  |false=>none
theorem nA{life:Life}:∀{os:List Obj} {t t':BT} {n n':Nat},wX os t n=some (t',n')→absHeap t' n' life=⟨(absHeap t n life).objs++os.toArray,life⟩
 |[],t,t',n,n',h=>by cases h;simp[absHeap]
 |o::os,t,t',n,n',h=>by
  unfold wX at h
  cases g:((t.ins n o).get n).isSome with
  |false=>rw[g]at h;cases h
  |true=>
   rw[g]at h
   rw[nA h,absHeap_ins g]
   simp[Heap.push]
def gm(tb:String→Option Builtin)(p:Program)(w:World)(N:Nat)(s₀:Shared):Option Shared:=
 match s₀.heap.isNs mainGlobals&&s₀.gens.size == 0 with
 |true=>match wX s₀.heap.objs.toList .nil 0 with
  |some x=>match gk tb p w x.2 (s₀.heap.nsMap mainGlobals "__annotations__") N ⟨x.1,x.2,s₀.heap.life,s₀.gens,s₀.drawn,s₀.toks,s₀.os⟩ (topStub p)with
   |some s=>match staticsOk (importedModules p.main.body) s₀.heap s.abs.heap&&namesBound p s.abs.heap&&gensDone s.abs&&laidKept s₀.heap s.abs.heap with
    |true=>some s.abs
    |false=>none
   |none=>none
  |none=>none
 |false=>none
theorem mC{tb:String→Option Builtin}{p:Program}{w:World}{N:Nat}{s₀ s:Shared}(h:gm tb p w N s₀=some s):topFrom tb p w N s₀=some s:=by
 unfold gm at h
 unfold topFrom
 cases h1:s₀.heap.isNs mainGlobals&&s₀.gens.size == 0 with
 |false=>rw[h1]at h;cases h
 |true=>
  rw[h1]at h
  dsimp only at h ⊢
  cases h2:wX s₀.heap.objs.toList .nil 0 with
  |none=>rw[h2]at h;cases h
  |some x=>
   rw[h2]at h
   dsimp only at h
   have e:=nA (life:=s₀.heap.life) h2
   have e':absHeap x.1 x.2 s₀.heap.life=s₀.heap:=by
    rw[e]
    simp[absHeap,BT.list]
   have n':x.2=s₀.heap.objs.size:=by rw[←e',absHeap_size]
   cases h3:gk tb p w x.2 (s₀.heap.nsMap mainGlobals "__annotations__") N ⟨x.1,x.2,s₀.heap.life,s₀.gens,s₀.drawn,s₀.toks,s₀.os⟩ (topStub p)with
   |none=>rw[h3]at h;cases h
   |some r=>
    rw[h3]at h
    dsimp only at h
    have ea:SharedT.abs ⟨x.1,x.2,s₀.heap.life,s₀.gens,s₀.drawn,s₀.toks,s₀.os⟩=s₀:=by
     unfold SharedT.abs
     rw[e']
    have:=j9 h3
    rw[ea,n']at this
    rw[this]
    exact h
theorem mD{tb:String→Option Builtin}{p:Program}{w:World}{N:Nat}{s₀:Shared}{α:Type}{f:Shared→α}{a:α}(h:Option.map f (gm tb p w N s₀)=some a):Option.map f (topFrom tb p w N s₀)=some a:=by
 obtain⟨s,h1,h2⟩:=JT.mp h
 rw[mC h1]
 exact Ke some h2
def seenT(p q:Program)(loose:List Str)(Xt:Shared→Bool){α:Type}(Yf:Shared→α)(N:Nat)(u u':World):=
 Option.map (fun c=>Option.map (fun s=>(openSeen q loose (importedModules p.main.body) Xt true s,Yf s)) (gm treeTable p u' N c)) (fencedOpening treeTable p u N)
lay_quick seenT
theorem nB{p q:Program}{loose:List Str}{Xt:Shared→Bool}{α:Type}{Yf:Shared→α}{N:Nat}{u u':World}{r}(h:PySem.W.Fast.tw2787559817927863336 p q loose Xt Yf N u u'=r):seenT p q loose Xt Yf N u u'=r:=by
 rw[PySem.W.Fast.te2787559817927863336]
 exact h
theorem yG{p q:Program}{loose:List Str}{Xt:Shared→Bool}{α:Type}{Yf:Shared→α}{Ya:World→α}{N:Nat}
  (h:∀u:World,seenT p q loose Xt Yf N u u=some (some (openGood q loose,Ya u))):LeftO p q loose Xt Yf Ya N:=fun u=>by
 obtain⟨c,a,b⟩:=JT.mp (h u)
 unfold openEnds
 rw[a]
 exact mD b
theorem pR{p q:Program}{loose:List Str}{Xt:Shared→Bool}{α:Type}{Yf:Shared→α}{Ya:World→α}{N:Nat}(row:String)
  (h0:∀u:World,seenT p q loose Xt Yf N u (u.withFollow row false)=some (some (openGood q loose,Ya (u.withFollow row false))))
  (h1:∀u:World,seenT p q loose Xt Yf N u (u.withFollow row true)=some (some (openGood q loose,Ya (u.withFollow row true)))):LeftO p q loose Xt Yf Ya N:=fun u=>by
 obtain⟨c,a,b⟩:=JT.mp (h0 u)
 obtain⟨c',a',b'⟩:=JT.mp (h1 u)
 have hc:c'=c:=by rw[a]at a';cases a';rfl
 subst hc
 have b:=mD b
 have b':=mD b'
 have hu:=World.withFollow_self u row
 unfold openEnds
 rw[a]
 cases hb:u.params.followText row<;>rw[hb]at hu
 ·rw[hu]at b
  exact b
 ·rw[hu]at b'
  exact b'
end ET
namespace E31
open PySem PySem.W PyProof.Rows
abbrev tp(i:Nat):Stmt:=PySem.Challenge.pw_dueworth_k31_rounds.main.body.getD i (.Pass ⟨0,0,0,0⟩)
/-- the text without what says nothing -/
def vw:Program:={ PySem.Challenge.pw_dueworth_k31_rounds with main:={ PySem.Challenge.pw_dueworth_k31_rounds.main with body:=[tp 1,tp 2,tp 3,tp 4,tp 6,tp 7,tp 10,tp 11,tp 12,tp 14,tp 15,tp 16,tp 17,tp 19,tp 20,tp 21,tp 22,tp 23,tp 24,tp 25,tp 26,tp 27,tp 28,tp 29,tp 30,tp 31,tp 32,tp 33,tp 34,tp 35,tp 36,tp 37,tp 38,tp 39,tp 40,tp 41] } }
abbrev rr:RowW:=OpenRow.toRowW (OpenLaw.row PySem.Challenge.rw_dueworth_k31_rounds)
local macro_rules | `(tactic| o_head $H)=>`(tactic|
 refine holds_open (q:=vw) (loose:=["SIDES_FROM","parts_reached"]) (Xt:=fun s=>(xlAt vw [] s&&recOk (RowW.records rr) s)) (XP:=XL vw []) (N:=2488)
  (Yf:=Hook.obs $H) (Ya:=Hook.val $H) (YP:=Hook.says $H) ?hl (Hook.of $H) (Hook.keeps $H) (fun s e=>xl_of s (LA.mp e).1)
  XL.keeps rfl rfl rfl (fun s e=>recFacts_of (LA.mp e).2) rfl (by assumption)
  (by decide +kernel) ⟨rfl,rfl,rfl,rfl,rfl,by decide +kernel⟩ ?hw ?hc)
/-- the law is well said: by the quick twin of the look,with no twin of the program -/
theorem said:OpenLaw.wellSaid PySem.Challenge.rw_dueworth_k31_rounds=true:=(congrFun PySem.W.Fast.te9446332074065402090 _).trans (by kernel_rfl)
/-- says nothing; what lies in the heap is written down by the way -/
theorem early(h:∀P:Prop,P):PySem.Challenge.rw_dueworth_k31_rounds.Holds:=by
 w_on;refine holds_law said fun said=>?_;k_head
 all_goals exact h _
abbrev as:List Addr:=[2,3,15,16,18,19,21,22,23,25,26,28,29,30,32,33,35,36,37,39,40,42,43,44,46,47,49,50,51,52,54,55,57,58,59,61,62,64,65,66,68,69,71,72,73,76,77,78,81,82,83,86,87,88,91,92,93,96,97,98,101,102,103,105,106,108,109,110,113,114,115,117,118,120,121,122,124,125,127,128,129,131,132,134,135,136,138,139,141,142,143,145,146,148,149,150,152,153,155,156,157,159,160,162,163,164,167,168,169,171,172,174,175,176,178,179,181,182,183,186,187,188,191,192,193,195,196,198,199,200,203,204,205,208,209,210,212,213,215,216,217,219,220,222,223,224,227,228,229,231,232,234,235,236,239,240]
theorem z0(P:Params):as=(early.heap_1 P).map (·.1):=by kernel_rfl
noncomputable abbrev hk:Hook:=kHook early.heap_1 as z0
theorem wY(u:World):ET.seenT (OpenLaw.row PySem.Challenge.rw_dueworth_k31_rounds).prog vw ["SIDES_FROM","parts_reached"] (fun s=>(xlAt vw [] s&&recOk (RowW.records rr) s)) (Hook.obs hk) 2488 u (u.withFollow "special-get-raises" false)=some (some (openGood vw ["SIDES_FROM","parts_reached"],Hook.val hk (u.withFollow "special-get-raises" false))):=ET.nB (by kernel_rfl)
theorem wZ(u:World):ET.seenT (OpenLaw.row PySem.Challenge.rw_dueworth_k31_rounds).prog vw ["SIDES_FROM","parts_reached"] (fun s=>(xlAt vw [] s&&recOk (RowW.records rr) s)) (Hook.obs hk) 2488 u (u.withFollow "special-get-raises" true)=some (some (openGood vw ["SIDES_FROM","parts_reached"],Hook.val hk (u.withFollow "special-get-raises" true))):=ET.nB (by kernel_rfl)
theorem left:LeftO (OpenLaw.row PySem.Challenge.rw_dueworth_k31_rounds).prog vw ["SIDES_FROM","parts_reached"] (fun s=>(xlAt vw [] s&&recOk (RowW.records rr) s)) (Hook.obs hk) (Hook.val hk) 2488:=ET.pR "special-get-raises" wY wZ
end E31
end
open PySem in
abbrev Vq:=Value->Shared->Prop
open PySem in
abbrev Va:=List (Addr×Obj)
open PySem in
abbrev Vo:=PySem.W.Frag
open PySem in
abbrev Vr:=Str->Option Value
open PySem in
abbrev Vs:=List Str
open PySem in
abbrev Vu:=List Int
open PySem in
abbrev Vv:=List Value
open PySem in
abbrev Vw:=Array Value
set_option Elab.async false
set_option linter.all false
set_option maxRecDepth 100000
namespace L2
open PySem PySem.Spec PyProof.Rows
abbrev bf:=Sum Int Str
noncomputable def j_:bf->Value->Bool
 | .inl k,v=>Value.isInt k v
 | .inr x,v=>Value.isStrOf x v
noncomputable def yX(w:World):bf->Int
 | .inl k=>hashInt k
 | .inr x=>hashStr w x
theorem bh:∀{k:bf} {v:Value},j_ k v=true->(∃i t,k=Sum.inl i/\v=Value.int i t)\/(∃x t,k=Sum.inr x/\v=Value.str x t)
 | .inl i,v,h=>by
  obtain⟨t,e⟩:=Value.isInt_shape (k:=i) (v:=v) h
  exact .inl ⟨i,t,rfl,e⟩
 | .inr x,v,h=>by
  obtain⟨t,e⟩:=Value.isStrOf_shape (x:=x) (v:=v) h
  exact .inr ⟨x,t,rfl,e⟩
def ou(i:Int)(t:Tok):j_ (.inl i) (.int i t)=true:=by simp[j_,Value.isInt]
def hV(x:Str)(t:Tok):j_ (.inr x) (.str x t)=true:=by simp[j_,Value.isStrOf]
def uU(a b:Int):decide ((Sum.inl a:bf)=Sum.inl b)=(a == b):=by
 by_cases e:a=b
 ·subst e;simp
 ·have h:¬(Sum.inl a:bf)=Sum.inl b:=fun q=>e (Sum.inl.inj q)
  rw[JK h]
  exact(beq_eq_false_iff_ne.mpr e).symm
def uV(a b:Str):decide ((Sum.inr a:bf)=Sum.inr b)=decide (a=b):=by
 by_cases e:a=b
 ·subst e;simp
 ·have h:¬(Sum.inr a:bf)=Sum.inr b:=fun q=>e (Sum.inr.inj q)
  rw[JK h,JK e]
def uW(a:Int)(b:Str):decide ((Sum.inl a:bf)=Sum.inr b)=false:=JK (fun q=>nomatch q)
def uX(a:Str)(b:Int):decide ((Sum.inr a:bf)=Sum.inl b)=false:=JK (fun q=>nomatch q)
noncomputable def aR(prog:Program)(w:World):PySem.KeyKind prog w bf where
 is:=j_
 hash:=yX w
 inj:=fun v a b ha hb=>by
  rcases bh ha with⟨i,t,rfl,rfl⟩|⟨x,t,rfl,rfl⟩
  ·rcases bh hb with⟨j,u,rfl,e⟩|⟨y,u,rfl,e⟩
   ·injection e with e1 _;rw[e1]
   ·exact nomatch e
  ·rcases bh hb with⟨j,u,rfl,e⟩|⟨y,u,rfl,e⟩
   ·exact nomatch e
   ·injection e with e1 _;rw[e1]
 byValue:=fun k v h=>by
  rcases bh h with⟨i,t,rfl,rfl⟩|⟨x,t,rfl,rfl⟩<;>rfl
 pyHash:=fun hv h=>by
  rcases bh hv with⟨i,t,rfl,rfl⟩|⟨x,t,rfl,rfl⟩
  ·exact wpAny_pyHash_int h
  ·exact wpAny_pyHash_str h
 eqBool:=fun hu hv h=>by
  rcases bh hu with⟨i,t,rfl,rfl⟩|⟨x,t,rfl,rfl⟩
  ·rcases bh hv with⟨j,u,rfl,rfl⟩|⟨y,u,rfl,rfl⟩
   ·rw[uU]at h;exact wpAny_eqBool_int h
   ·rw[uW]at h;exact SeqAt.EqAt.int_str i t y u _ _ _ _ h
  ·rcases bh hv with⟨j,u,rfl,rfl⟩|⟨y,u,rfl,rfl⟩
   ·rw[uX]at h;exact SeqAt.EqAt.str_int x t j u _ _ _ _ h
   ·rw[uV]at h;exact wpAny_eqBool_str h
 «strs»:=fun k x t v h=>by
  rcases bh h with⟨i,u,rfl,e⟩|⟨y,u,rfl,e⟩
  ·exact nomatch e
  ·injection e with e1 _
   subst e1
   cases v<;>rfl
def lF(prog:Program)(w:World)(i:Int)(t:Tok):(aR prog w).is (.inl i) (.int i t)=true:=ou i t
def lG(prog:Program)(w:World)(x:Str)(t:Tok):(aR prog w).is (.inr x) (.str x t)=true:=hV x t
inductive V where
 |non|bl (b:Bool)|int (i:Int)|str (x:Str)|Eh (b:Array UInt8)|Gn (b:UInt64)|ref (a:Addr)|ty (n:String)
 deriving DecidableEq
noncomputable def RelV:V->Value->Prop
 | .non,u=>u=Value.none
 | .bl b,u=>u=Value.bool b
 | .int i,u=>∃t,u=Value.int i t
 | .str x,u=>∃t,u=Value.str x t
 | .Eh b,u=>∃t,u=Value.bytes b t
 | .Gn b,u=>∃t,u=Value.float b t
 | .ref a,u=>u=Value.ref a
 | .ty n,u=>u=Value.type n
noncomputable abbrev Vals:List V->List Value->Prop:=Paired RelV
theorem Vals.length{xs:List V}{us:Vv}(r:Vals xs us):xs.length=us.length:=Paired.length r
theorem Vals.get:∀{xs:List V} {us:Vv} {i:Nat} {x:V},Vals xs us->xs[i]?=some x->∃u,us[i]?=some u/\RelV x u
 |_,_,_,_,.nil,e=>by simp at e
 |_,_,0,_,.cons r _,e=>by simp at e;subst e;exact⟨_,rfl,r⟩
 |_,_,i+1,x,.cons _ t,e=>by
  obtain⟨u,h1,h2⟩:=Vals.get (i:=i) (x:=x) t (by simpa using e)
  exact⟨u,by simpa using h1,h2⟩
theorem Vals.set{x:V}{u:Value}(r:RelV x u):∀{xs:List V} {us:Vv} (i:Nat),Vals xs us->Vals (xs.set i x) (us.set i u)
 |_,_,_,.nil=>.nil
 |_,_,0,.cons _ t=>.cons r t
 |_,_,i+1,.cons q t=>.cons q (Vals.set r i t)
theorem Vals.append:∀{xs ys:List V} {us ws:Vv},Vals xs us->Vals ys ws->Vals (xs++ys) (us++ws)
 |_,_,_,_,.nil,s=>s
 |_,_,_,_,.cons r t,s=>.cons r (Vals.append t s)
theorem Vals.take:∀{xs:List V} {us:Vv} (n:Nat),Vals xs us->Vals (xs.take n) (us.take n)
 |_,_,0,_=>.nil
 |_,_,_+1,.nil=>.nil
 |_,_,n+1,.cons r t=>.cons r (Vals.take n t)
theorem Vals.drop:∀{xs:List V} {us:Vv} (n:Nat),Vals xs us->Vals (xs.drop n) (us.drop n)
 |_,_,0,r=>r
 |_,_,_+1,.nil=>.nil
 |_,_,n+1,.cons _ t=>Vals.drop n t
noncomputable def RelO:Option V->Option Value->Prop
 |some v,some u=>RelV v u
 |none,none=>True
 |_,_=>False
noncomputable def KV{κ:Type}:List (κ×V)->List (κ×Value)->Prop:=Paired fun(p:κ×V) (q:κ×Value)=>p.1=q.1/\RelV p.2 q.2
noncomputable def kV:bf->V
 | .inl i=>.int i
 | .inr x=>.str x
inductive HO where
 /-- a list -/
 |lst (xs:List V)
 /-- a tuple (never changes) -/
 |tup (xs:List V)
 /-- a dict whose keys are ints and texts; one whose keys are tuples of ints and texts (the empty one is both) -/
 |dK (kvs:List (bf×V))|dT (kvs:List (List bf×V))
 /-- a set of ints: its members,its size -/
 |set (S:Int->Bool) (n:Nat)
 /-- an instance of the class at C,its dict at dx,its attributes -/
 |ins (C dx:Addr) (fs:List (Str×V))
 /-- the dict of the instance at x -/
 |own (x:Addr)
 /-- the dict of an exception -/
 |xd (fs:List (Str×V))
 /-- a bound method,f of x -/
 |met (f x:Addr)
 /-- a range object lo,lo + 1,.. below hi -/
 |Go (lo hi:Int)
 /-- a thing that is known to the object (the script; a dict while a loop walks it): read,never written while it is so -/
 |frz (o:Obj) (u:HO)
 /-- a code object's table -/
 |E_ (ps:Vw)
 /-- any other thing,by what is true of its one object (a def of Hl own: Ih a S n:=HO.ext fun h=>..) -/
 |ext (φ:Heap->Prop)
abbrev Hp:=Addr->Option HO
noncomputable def upd(H:Hp)(a:Addr)(o:HO):Hp:=fun b=>if b=a then some o else H b
def ay{H:Hp}{a:Addr}{o:HO}:upd H a o a=some o:=by unfold upd;rw[if_pos rfl]
def ax{H:Hp}{a b:Addr}{o:HO}(h:b≠a):upd H a o b=H b:=by unfold upd;rw[if_neg h]
def w4{H:Hp}{a b:Addr}{o u:HO}(h:H a=some o)(h':H b=some u)(d:o≠u):a≠b:=by
 intro e;subst e;rw[h]at h';exact d (Kc h')
def aU{H:Hp}{a b:Addr}{o:HO}(h:H a=some o)(h':H b=none):a≠b:=by
 intro e;subst e;rw[h]at h';cases h'
def Bc(h:Heap)(a:Addr)(its:Vw):Prop:=∃o,h.get? a=some o/\o.dict=none/\o.cls = .type "tuple"/\∃n,o.data = .seq its n
def Bc.tup{h:Heap}{a:Addr}{its:Vw}(x:Bc h a its):IsTup h a its:=let ⟨o,e,_,c,d⟩:=x;⟨o,e,c,d⟩
def Bc.new(h:Heap)(its:Vw):Bc (h.push { cls:=.type "tuple",data:=.seq its }) h.objs.size its:=⟨_,JA _ rfl,rfl,rfl,_,rfl⟩
section
variable (P:Program) (w:World)
noncomputable def A3(H:Hp)(h:Heap)(a:Addr):HO->Prop
 | .lst xs=>xs.length<=sizeLine/\∃(its:Vv) (n:Nat),Vals xs its/\h.get? a=some { cls:=.type "list",data:=.seq its.toArray n }
 | .tup xs=>xs.length<=sizeLine/\∃its:List Value,Vals xs its/\Bc h a its.toArray
 | .dK kvs=>kvs.length<=sizeLine/\(a == sysModules)=false/\∃vs,KV kvs vs/\h.DictOf (aR P w) a vs
 | .dT kvs=>kvs.length<=sizeLine/\(a == sysModules)=false/\∃xs:List (List bf×Addr×Value),
   Paired (fun(p:List bf×V) (q:List bf×Addr×Value)=>p.1=q.1/\H q.2.1=some (.tup (p.1.map kV))/\RelV p.2 q.2.2) kvs xs/\
   ∃o es ep,h.get? a=some o/\o.ExactDict/\o.data = .dict es ep/\es.toList=xs.map (entryOfKey (tupleKind (aR P w)))/\(xs.map (·.1)).Nodup
 | .set S n=>h.SetOf (intKind P w) a S n
 | .ins C dx fs=>H dx=some (.own a)/\fs.length<=1000/\dx≠a/\h.get? a=some (PySem.W.instObj C dx)/\
   ∃mA,h.Ns1 dx mA/\(∀f,RelO (fs.lookup f) (mA f))/\PySem.Within mA (fs.map (·.1))
 | .own _=>∃o,h.get? a=some o
 | .xd fs=>∃mA,h.Ns1 a mA/\∀f,RelO (fs.lookup f) (mA f)
 | .Go lo hi=>∃t u v,h.get? a=some { cls:=.type "range",data:=.fields #[.int lo t,.int hi u,.int 1 v] }
 | .frz o u=>h.get? a=some o/\A3 H h a u
 | .E_ ps=>h.get? a=some { cls:=.none,data:=.fields ps }
 | .met f x=>h.get? a=some (PySem.W.methodObj (.ref f) (.ref x))
 | .ext φ=>φ h/\(∃o,h.get? a=some o)/\∀h1 h2:Heap,φ h1->(∀o,h1.get? a=some o->h2.get? a=some o)->φ h2
def Ck(H:Hp)(h:Heap):Prop:=∀a o,H a=some o->A3 P w H h a o
end
section
variable {P:Program} {w:World} {H H':Hp} {h h':Heap} {a:Addr} {o:HO}
theorem A3.lt(x:A3 P w H h a o):a < h.objs.size:=by
 cases o with
 |lst xs=>obtain⟨_,_,_,_,e⟩:=x;exact Jr e
 |tup xs=>obtain⟨_,_,_,p⟩:=x;exact p.tup.lt
 |dK kvs=>obtain⟨_,_,_,_,o,_,_,e,_⟩:=x;exact Jr e
 |dT kvs=>obtain⟨_,_,_,_,o,_,_,e,_⟩:=x;exact Jr e
 |set S n=>obtain⟨o,_,_,_,e,_⟩:=x;exact Jr e
 |ins C dx fs=>obtain⟨_,_,_,e,_⟩:=x;exact Jr e
 |own y=>obtain⟨_,e⟩:=x;exact Jr e
 |xd fs=>obtain⟨_,⟨_,_,_,e,_⟩,_⟩:=x;exact Jr e
 |Go lo hi=>obtain⟨_,_,_,e⟩:=x;exact Jr e
 |frz ob u=>obtain⟨e,_⟩:=x;exact Jr e
 |E_ ps=>exact Jr (show h.get? a=some _ from x)
 |met f y=>exact Jr (show h.get? a=some _ from x)
 |ext φ=>obtain⟨_,⟨_,e⟩,_⟩:=x;exact Jr e
theorem Paired.Fa{α β:Type}{F G:α->β->Prop}:∀{l₁:List α} {l₂:List β},Paired F l₁ l₂->(∀a b,F a b->G a b)->Paired G l₁ l₂
 |_,_,.nil,_=>.nil
 |_,_,.cons r t,f=>.cons (f _ _ r) (Paired.Fa t f)
def A3.stay(x:A3 P w H h a o)(k:∀b u,(b=a\/H b=some (.own a))->h.get? b=some u->h'.get? b=some u)
  (ho:∀b,H b=some (.own a)->H' b=some (.own a)) (ht:∀b xs,H b=some (.tup xs)->H' b=some (.tup xs)):A3 P w H' h' a o:=by
 induction o with
 |lst xs=>obtain⟨z,its,n,r,e⟩:=x;exact⟨z,its,n,r,k _ _ (.inl rfl) e⟩
 |tup xs=>obtain⟨z,its,r,ob,e,c⟩:=x;exact⟨z,its,r,ob,k _ _ (.inl rfl) e,c⟩
 |dK kvs=>obtain⟨z,y,vs,r,ob,es,ep,e,c⟩:=x;exact⟨z,y,vs,r,ob,es,ep,k _ _ (.inl rfl) e,c⟩
 |dT kvs=>
  obtain⟨z,y,xs,r,ob,es,ep,e,c⟩:=x
  exact⟨z,y,xs,Paired.Fa r fun p q z=>⟨z.1,ht _ _ z.2.1,z.2.2⟩,ob,es,ep,k _ _ (.inl rfl) e,c⟩
 |set S n=>obtain⟨ob,es,ep,t,e,c⟩:=x;exact⟨ob,es,ep,t,k _ _ (.inl rfl) e,c⟩
 |ins C dx fs=>
  obtain⟨d,z,ne,e,mA,⟨od,es,ep,e2,c⟩,r⟩:=x
  exact⟨ho _ d,z,ne,k _ _ (.inl rfl) e,mA,⟨od,es,ep,k _ _ (.inr d) e2,c⟩,r⟩
 |own y=>obtain⟨ob,e⟩:=x;exact⟨ob,k _ _ (.inl rfl) e⟩
 |xd fs=>obtain⟨mA,⟨od,es,ep,e,c⟩,r⟩:=x;exact⟨mA,⟨od,es,ep,k _ _ (.inl rfl) e,c⟩,r⟩
 |Go lo hi=>obtain⟨t,u,v,e⟩:=x;exact⟨t,u,v,k _ _ (.inl rfl) e⟩
 |frz ob u ih=>obtain⟨e,q⟩:=x;exact⟨k _ _ (.inl rfl) e,ih q⟩
 |E_ ps=>
  have e:h.get? a=some { cls:=.none,data:=.fields ps }:=x
  show h'.get? a=some { cls:=.none,data:=.fields ps }
  exact k a _ (.inl rfl) e
 |met f y=>
  have e:h.get? a=some (PySem.W.methodObj (.ref f) (.ref y)):=x
  show h'.get? a=some (PySem.W.methodObj (.ref f) (.ref y))
  exact k a _ (.inl rfl) e
 |ext φ=>obtain⟨p,⟨o,e⟩,st⟩:=x;exact⟨st _ _ p fun o q=>k _ _ (.inl rfl) q,⟨o,k _ _ (.inl rfl) e⟩,st⟩
theorem Ck.lt(x:Ck P w H h)(e:H a=some o):a < h.objs.size:=(x a o e).lt
def Ck.fresh(x:Ck P w H h)(e:h.objs.size<=a):H a=none:=by
 cases q:H a with
 |none=>rfl
 |some u=>exact absurd (JC (x.lt q) e) (KP _)
def Ck.kept(x:Ck P w H h)(k:∀b u,h.get? b=some u->h'.get? b=some u):Ck P w H h':=fun a o e=>
 (x a o e).stay (fun b u _ q=>k b u q) (fun _ q=>q) fun _ _ q=>q
def Ck.laid(x:Ck P w H h)(k:∀b u,h.get? b=some u->h'.get? b=some u)(hp:h.objs.size<=a)(new:A3 P w (upd H a o) h' a o):Ck P w (upd H a o) h':=fun b u e=>by
 have hn:=x.fresh hp
 by_cases hb:b=a
 ·subst hb;rw[ay]at e;cases e;exact new
 ·rw[ax hb]at e
  exact(x b u e).stay (fun c v _ q=>k c v q) (fun c q=>by rw[ax (aU q hn)];exact q) fun c xs q=>by rw[ax (aU q hn)];exact q
end
def Rd(H:Hp)(a:Addr)(u:HO):Prop:=H a=some u\/∃o,H a=some (.frz o u)
def Rd.ok{P:Program}{w:World}{H:Hp}{h:Heap}{a:Addr}{u:HO}(r:Rd H a u)(x:Ck P w H h):A3 P w H h a u:=by
 rcases r with r|⟨o,r⟩
 ·exact x a u r
 ·obtain⟨_,q⟩:=x a _ r
  exact q
noncomputable def w5:Option HO->Prop
 |some (.lst _)=>True
 |some (.dK _)=>True
 |some (.dT _)=>True
 |some (.set _ _)=>True
 |some (.ins _ _ _)=>True
 |some (.ext _)=>True
 |_=>False
section
variable {P:Program} {w:World} {H:Hp} {h h':Heap} {x e:Addr} {o':HO}
def Ck.write(ok:Ck P w H h)(mu:w5 (H x))(he:e=x\/H e=some (.own x))(k:∀b u,b≠e->h.get? b=some u->h'.get? b=some u)(FB:∃u,h'.get? e=some u)
  (new:A3 P w (upd H x o') h' x o'):Ck P w (upd H x o') h':=fun b u q=>by
 have FH:∀c y,H c=some (.own y)->c≠x:=fun c y r z=>by subst z;rw[r]at mu;exact mu
 have Gp:∀c xs,H c=some (.tup xs)->c≠x:=fun c xs r z=>by subst z;rw[r]at mu;exact mu
 by_cases hb:b=x
 ·subst hb;rw[ay]at q;cases q;exact new
 ·rw[ax hb]at q
  by_cases Fb:b=e
  ·have q':H b=some (.own x):=by
    rcases he with z|z
    ·exact absurd (Fb.trans z) hb
    ·rw[Fb];exact z
   rw[q]at q';cases q'
   obtain⟨v,hv⟩:=FB
   exact⟨v,by rw[Fb];exact hv⟩
  ·refine(ok b u q).stay (fun c v hc r=>k c v ?_ r) (fun c r=>by rw[ax (FH c b r)];exact r) fun c xs r=>by rw[ax (Gp c xs r)];exact r
   rcases hc with rfl|hc
   ·exact Fb
   ·rintro rfl
    rcases he with z|z
    ·exact FH c b hc z
    ·rw[hc]at z;cases z;exact hb rfl
end
structure Un (fs ex:List Addr) (H H':Hp) (h h':Heap):Prop where
 keep:∀b o,h.get? b=some o->H b=none->b ∉ fs->b ∉ ex->h'.get? b=some o
 slot:∀b o,h.get? b=some o->H b=none->b∈fs->b ∉ ex->∃sl,h'.get? b=some { o with slots:=sl }
 free:∀b o,h.get? b=some o->H b=none->b ∉ ex->H' b=none
 there:∀b o,h.get? b=some o->b ∉ ex->∃o',h'.get? b=some o'
 tups:∀b xs,H b=some (.tup xs)->H' b=some (.tup xs)
 Dg:∀b o u,H b=some (.frz o u)->H' b=some (.frz o u)
 Dw:∀b ps,H b=some (.E_ ps)->∃more,H' b=some (.E_ (ps++more))
section
variable {fs fs' ex ex':List Addr} {H H1 H2:Hp} {h h1 h2 h':Heap} {a x e:Addr} {o:HO}
def Un.any(u:Un fs ex H H1 h h1){b:Addr}{ob:Obj}(q:h.get? b=some ob)(n:H b=none)(hx:b ∉ ex):∃sl,h1.get? b=some { ob with slots:=sl }:=by
 by_cases hb:b∈fs
 ·exact u.slot b ob q n hb hx
 ·exact⟨ob.slots,u.keep b ob q n hb hx⟩
def Un.kept(k:∀b u,h.get? b=some u->h'.get? b=some u):Un fs ex H H h h':=
 ⟨fun b ob q _ _ _=>k b ob q,fun b ob q _ _ _=>⟨ob.slots,k b ob q⟩,fun _ _ _ n _=>n,fun b ob q _=>⟨ob,k b ob q⟩,fun _ _ q=>q,fun _ _ _ q=>q,fun _ ps q=>⟨#[],by rw[q];simp⟩⟩
def Un.refl:Un fs ex H H h h:=Un.kept fun _ _ q=>q
def Un.laid(k:∀b u,h.get? b=some u->h'.get? b=some u)(hp:h.objs.size<=a)(hn:H a=none):Un fs ex H (upd H a o) h h' where
 keep:=fun b u q _ _ _=>k b u q
 slot:=fun b u q _ _ _=>⟨u.slots,k b u q⟩
 free:=fun b u q n _=>by rw[ax (JL (JC (Jr q) hp))];exact n
 there:=fun b u q _=>⟨u,k b u q⟩
 tups:=fun b xs q=>by rw[ax (aU q hn)];exact q
 Dg:=fun b u xs q=>by rw[ax (aU q hn)];exact q
 Dw:=fun b ps q=>⟨#[],by rw[ax (aU q hn),q];simp⟩
def Un.write(mu:w5 (H x))(he:e=x\/H e=some (.own x))(k:∀b u,b≠e->h.get? b=some u->h'.get? b=some u)(FB:∃u,h'.get? e=some u):Un fs ex H (upd H x o) h h':=by
 have hx:∀b,H b=none->b≠x:=fun b n z=>by subst z;rw[n]at mu;exact mu
 have hb:∀b,H b=none->b≠e:=fun b n z=>by
  subst z
  rcases he with r|r
  ·exact hx b n r
  ·rw[n]at r;cases r
 have hm:∀b u,H b=some u->¬w5 (some u)->b≠x:=fun b u q nm z=>by subst z;rw[q]at mu;exact nm mu
 refine⟨fun b u q n _ _=>k b u (hb b n) q,fun b u q n _ _=>⟨u.slots,k b u (hb b n) q⟩,fun b u q n _=>by rw[ax (hx b n)];exact n,fun b u q _=>?_,
  fun b xs q=>by rw[ax (hm b _ q fun z=>z)];exact q,fun b u xs q=>by rw[ax (hm b _ q fun z=>z)];exact q,fun b ps q=>⟨#[],by rw[ax (hm b _ q fun z=>z),q];simp⟩⟩
 by_cases Fb:b=e
 ·subst Fb;exact FB
 ·exact⟨u,k b u Fb q⟩
end
noncomputable def yH(h:Heap)(H:Hp):List Addr:=(List.range h.objs.size).filter fun a=>(H a).isSome
noncomputable def kQ(h:Heap)(H:Hp):Heap:=PySem.W.hideAll h (yH h H)
def ow(h:Heap)(H:Hp):(kQ h H).objs.size=h.objs.size:=PySem.W.hideAll_size _ _
def pS{h:Heap}{H:Hp}{b:Addr}{o:Obj}(e:h.get? b=some o)(n:H b=none):(kQ h H).get? b=some o:=
 PySem.W.hideAll_get _ e fun hm=>by
  have q:(H b).isSome=true:=(Ku.mp hm).2
  rw[n]at q;simp at q
def ss{h:Heap}{H:Hp}{b:Addr}{o:Obj}(e:(kQ h H).get? b=some o):h.get? b=some o/\H b=none:=by
 have e':h.get? b=some o:=PySem.W.of_hideAll (yH h H) e
 refine⟨e',?_⟩
 cases q:H b with
 |none=>rfl
 |some x=>
  have hm:b∈yH h H:=Ku.mpr ⟨LB.mpr (Jr e'),by simp[q]⟩
  have z:(kQ h H).get? b=none:=PySem.W.hideAll_none (yH h H) hm
  rw[z]at e;cases e
structure Mod (K:Vo) (mg:Vr) (base:Heap):Prop where
 Gq:K.In base
 glob:base.Ns mainGlobals mg
 blt:∃mb,base.Ns builtinsNs mb/\∀x:Str,x ≠ "__name__"->mb x=bootBuiltins x
 nolimit:base.NoLimit
structure Cx where
 prog:Program
 w:World
 K:Vo
 mg:Vr
 base:Heap
 A:Around
 N:List Str
 s₀:Shared
 H₀:Hp
 env:Env
 outer:List Env
 stack:List Env
 ex:List Addr
 fn:Str->Bool
 calm:Bool
 pn:Va
 xe:Value->Shared->Prop
noncomputable def frs(l:List Env):List Addr:=l.filterMap (·.frame)
noncomputable abbrev Cx.fs(X:Cx):List Addr:=frs X.outer
def yI(sc:Scope)(x:Str):Prop:=sc.names.lookup x=some .local\/sc.names.lookup x=some .cell\/sc.names.lookup x=some .free
def ux(sc:Scope)(x:Str):Prop:=sc.names.lookup x=some .local\/sc.names.lookup x=some .cell
def yY(env:Env)(h:Heap)(m:Vr)(x:Str)(u:Value):Prop:=
 (env.kindOf x=some .local/\m x=some u)\/((env.kindOf x=some .cell\/env.kindOf x=some .free)/\∃c,env.cells.lookup x=some c/\h.IsCell c (some u))
structure Cx.Ok (X:Cx):Prop where
 mod:Mod X.K X.mg X.base
 kind:X.env.scope.kind = .function
 glob:X.env.globals=mainGlobals
 blt:X.env.builtins=builtinsNs
 above:X.s₀.heap.objs.size<=X.env.locals
 inj:∀x y c,X.env.cells.lookup x=some c->X.env.cells.lookup y=some c->x=y
 has:∀x,(X.env.kindOf x=some .cell\/X.env.kindOf x=some .free)->∃c,X.env.cells.lookup x=some c
 FC:∀x c,X.fn x=true->X.env.cells.lookup x=some c->X.s₀.heap.objs.size<=c
 hd:X.calm=true->X.A.handled=none
 frames:X.A.frames=some X.stack
 stk:X.stack=X.outer\/(X.stack=X.env::X.outer/\X.env.frame=some X.env.locals)
 Gr:∀b∈X.ex,b≠X.env.locals/\∀x c,X.env.cells.lookup x=some c->c≠b
 bs:∀b o,X.base.get? b=some o->X.s₀.heap.get? b=some o/\X.H₀ b=none
 EI:X.base.objs.size<=X.s₀.heap.objs.size
 DZ:∀b o,X.base.get? b=some o->b ∉ X.ex
 Ei:∀b∈X.ex,b ∉ X.fs
 CO:X.s₀.heap.FunFrames X.base X.outer
 Fc:∀b∈X.fs,X.H₀ b=none
structure Inv (X:Cx) (pins:Va) (σ:List (Option V)) (H:Hp) (s:Shared):Prop where
 ok:X.Ok
 os:s.os=X.s₀.os
 bare:AllBare s.gens
 base:Un X.fs X.ex X.H₀ H X.s₀.heap s.heap
 loc:∃m,s.heap.Ns X.env.locals m/\∀(i:Nat) (x:Str) (v:V),X.N[i]?=some x->σ[i]?=some (some v)->yI X.env.scope x->∃u,RelV v u/\yY X.env s.heap m x u
 cell:∀x c,X.env.cells.lookup x=some c->∃v,s.heap.IsCell c v
 free:H X.env.locals=none
 Ca:∀x c,X.env.cells.lookup x=some c->H c=none
 pin:∀p∈X.pn++pins,s.heap.get? p.1=some p.2/\H p.1=none/\p.1≠X.env.locals/\p.1 ∉ X.fs/\∀v,p.2.data ≠ .cell v
 hok:Ck X.prog X.w H s.heap
 len:σ.length=X.N.length
section
variable {X:Cx} {pins:Va} {σ:List (Option V)} {H H':Hp} {s:Shared} {h':Heap}
def Cx.Ok.Gs(ok:X.Ok){b:Addr}{o:Obj}(e:X.base.get? b=some o):b ∉ X.fs:=fun hb=>by
 have:=(ok.CO.mem hb).1
 rw[e]at this;cases this
theorem Inv.bs(I:Inv X pins σ H s):∀b o,X.base.get? b=some o->s.heap.get? b=some o/\H b=none:=fun b o e=>
 ⟨I.base.keep b o (I.ok.bs b o e).1 (I.ok.bs b o e).2 (I.ok.Gs e) (I.ok.DZ b o e),I.base.free b o (I.ok.bs b o e).1 (I.ok.bs b o e).2 (I.ok.DZ b o e)⟩
def Inv.bk(I:Inv X pins σ H s):∀b o,X.base.get? b=some o->s.heap.get? b=some o:=fun b o e=>(I.bs b o e).1
theorem Inv.mod(I:Inv X pins σ H s):Mod X.K X.mg X.base:=I.ok.mod
def Inv.Ej(I:Inv X pins σ H s):X.K.In s.heap:=I.ok.mod.Gq.keeps I.bk
theorem Inv.lt(I:Inv X pins σ H s):X.env.locals < s.heap.objs.size:=let ⟨_,hn,_⟩:=I.loc;hn.lt
def Inv.sz(I:Inv X pins σ H s):X.s₀.heap.objs.size<=s.heap.objs.size:=Jw I.ok.above (L7 I.lt)
def Inv.FI(I:Inv X pins σ H s){a:Addr}(h:s.heap.objs.size<=a):a ∉ X.fs:=fun hb=>by
 obtain⟨_,o,ho,_⟩:=I.ok.CO.mem hb
 exact absurd (JC (Jr ho) (Jw I.sz h)) (KP _)
def Inv.Fd(I:Inv X pins σ H s):∀x c,X.env.cells.lookup x=some c->c≠X.env.locals:=fun x c e z=>by
 obtain⟨v,o,ho,hd⟩:=I.cell x c e
 obtain⟨m,⟨o',es,ep,ho',hd',_⟩,_⟩:=I.loc
 rw[z,ho']at ho;cases ho;rw[hd']at hd;cases hd
theorem Inv.CO(I:Inv X pins σ H s):s.heap.FunFrames X.base X.outer:=by
 have all:∀(l:List Env),(∀b∈frs l,b∈X.fs)->X.s₀.heap.FunFrames X.base l->s.heap.FunFrames X.base l:=by
  intro l
  induction l with
  |nil=>intro _ _;trivial
  |cons env r ih=>
   intro hs hl
   obtain⟨hk,⟨L,o,hf,hn,ho,hd⟩,hr⟩:=hl
   have hL:L∈X.fs:=hs L (by unfold frs;rw[MB,hf];exact Kv)
   obtain⟨sl,e⟩:=I.base.slot L o ho (I.ok.Fc L hL) hL fun z=>I.ok.Ei L z hL
   exact⟨hk,⟨L,_,hf,hn,e,hd⟩,ih (fun b hb=>hs b (by unfold frs;rw[MB,hf];exact Kz _ hb)) hr⟩
 exact all X.outer (fun _ hb=>hb) I.ok.CO
theorem Inv.stack(I:Inv X pins σ H s):s.heap.FunFrames X.base X.stack:=by
 rcases I.ok.stk with e|⟨e,hf⟩
 ·rw[e];exact I.CO
 ·rw[e]
  obtain⟨m,hn,_⟩:=I.loc
  refine .cons (by rw[I.ok.kind];decide) hf hn ?_ I.CO
  exact Heap.get?_none_of_le (Jw I.ok.EI I.ok.above)
def Inv.CA(I:Inv X pins σ H s):∀b∈frs X.stack,b∈X.env.locals::X.fs:=fun b hb=>by
 rcases I.ok.stk with e|⟨e,hf⟩
 ·rw[e]at hb;exact Kz _ hb
 ·rw[e]at hb
  unfold frs at hb
  rw[MB,hf]at hb
  exact hb
def Inv.DQ(I:Inv X pins σ H s):∀b∈frs X.stack,H b=none:=fun b hb=>by
 rcases Jq.mp (I.CA b hb)with e|hb
 ·rw[e];exact I.free
 ·obtain⟨_,o,ho,_⟩:=I.ok.CO.mem hb
  exact I.base.free b o ho (I.ok.Fc b hb) fun z=>I.ok.Ei b z hb
def Inv.step{g':Array GenState}{t':Nat}{d':Drawn}{ch:List Addr}(I:Inv X pins σ H s)
  (hch:∀b∈ch,(b∈X.ex\/X.s₀.heap.objs.size<=b)/\b≠X.env.locals/\(∀x c,X.env.cells.lookup x=some c->c≠b)/\∀p∈X.pn++pins,p.1≠b)
  (keep:∀b o,b≠X.env.locals->b ∉ X.fs->b ∉ ch->s.heap.get? b=some o->H b=none->h'.get? b=some o)
  (slot:∀b o,b≠X.env.locals->b∈X.fs->b ∉ ch->s.heap.get? b=some o->H b=none->∃sl,h'.get? b=some { o with slots:=sl }) (free:∀b o,b ∉ ch->s.heap.get? b=some o->H b=none->H' b=none)
  (there:∀b o,b ∉ ch->s.heap.get? b=some o->∃o',h'.get? b=some o')
  (tups:∀b xs,H b=some (.tup xs)->H' b=some (.tup xs)) (Dg:∀b o u,H b=some (.frz o u)->H' b=some (.frz o u)) (Dw:∀b ps,H b=some (.E_ ps)->∃more,H' b=some (.E_ (ps++more)))
  (ns:∀m,s.heap.Ns X.env.locals m->h'.Ns X.env.locals m) (hok:Ck X.prog X.w H' h') (hg:AllBare g') :
  Inv X pins σ H' { s with heap:=h',gens:=g',drawn:=d',toks:=t' }:=by
 have Hm:∀b o,X.s₀.heap.get? b=some o->b≠X.env.locals:=fun b o e=>JL (JC (Jr e) I.ok.above)
 have F2:∀b o,X.s₀.heap.get? b=some o->b ∉ X.ex->b ∉ ch:=fun b o e hx hb=>by
  rcases(hch b hb).1 with z|z
  ·exact hx z
  ·exact absurd (JC (Jr e) z) (KP _)
 have cellK:∀x c,X.env.cells.lookup x=some c->∀v,s.heap.IsCell c v->h'.IsCell c v:=fun x c e v ⟨o,ho,hd⟩=>by
  have FJ:c ∉ ch:=fun z=>(hch c z).2.2.1 x c e rfl
  by_cases hc:c∈X.fs
  ·obtain⟨sl,q⟩:=slot c o (I.Fd x c e) hc FJ ho (I.Ca x c e)
   exact⟨_,q,hd⟩
  ·exact⟨o,keep c o (I.Fd x c e) hc FJ ho (I.Ca x c e),hd⟩
 refine⟨I.ok,I.os,hg,⟨fun b o e n hb hx=>?_,fun b o e n hb hx=>?_,fun b o e n hx=>?_,fun b o e hx=>?_,fun b xs e=>tups b xs (I.base.tups b xs e),fun b o xs e=>Dg b o xs (I.base.Dg b o xs e),fun b ps e=>?_⟩,?_,fun x c e=>?_,?_,fun x c e=>?_,fun p hp=>?_,hok,I.len⟩
 ·exact keep b o (Hm b o e) hb (F2 b o e hx) (I.base.keep b o e n hb hx) (I.base.free b o e n hx)
 ·obtain⟨sl,e1⟩:=I.base.slot b o e n hb hx
  obtain⟨sl',e2⟩:=slot b _ (Hm b o e) hb (F2 b o e hx) e1 (I.base.free b o e n hx)
  exact⟨sl',e2⟩
 ·obtain⟨o',e1⟩:=I.base.there b o e hx
  exact free b o' (F2 b o e hx) e1 (I.base.free b o e n hx)
 ·obtain⟨o',e1⟩:=I.base.there b o e hx
  exact there b o' (F2 b o e hx) e1
 ·obtain⟨m1,e1⟩:=I.base.Dw b ps e
  obtain⟨m2,e2⟩:=Dw b _ e1
  exact⟨m1++m2,by rw[e2,Array.append_assoc]⟩
 ·obtain⟨m,hn,hl⟩:=I.loc
  refine⟨m,ns m hn,fun i x v e1 e2 e3=>?_⟩
  obtain⟨u,r,l⟩:=hl i x v e1 e2 e3
  refine⟨u,r,?_⟩
  rcases l with l|⟨k,c,e,z⟩
  ·exact .inl l
  ·exact .inr ⟨k,c,e,cellK x c e _ z⟩
 ·obtain⟨v,z⟩:=I.cell x c e
  exact⟨v,cellK x c e v z⟩
 ·obtain⟨m,⟨o,_,_,ho,_⟩,_⟩:=I.loc
  exact free _ o (fun z=>(hch _ z).2.1 rfl) ho I.free
 ·obtain⟨v,o,ho,hd⟩:=I.cell x c e
  exact free c o (fun z=>(hch c z).2.2.1 x c e rfl) ho (I.Ca x c e)
 ·obtain⟨e,n,ne,nf,d⟩:=I.pin p hp
  have FJ:p.1 ∉ ch:=fun z=>(hch p.1 z).2.2.2 p hp rfl
  exact⟨keep p.1 p.2 ne nf FJ e n,free p.1 p.2 FJ e n,ne,nf,d⟩
def Inv.un{t':Nat}(I:Inv X pins σ H s)(u:Un X.fs [] H H' s.heap h')(hok:Ck X.prog X.w H' h'):Inv X pins σ H' { s with heap:=h',toks:=t' }:=by
 obtain⟨m,⟨o,es,ep,ho,r⟩,_⟩:=id I.loc
 obtain⟨sl,hL⟩:=u.any ho I.free (by simp)
 exact I.step (g':=s.gens) (d':=s.drawn) (ch:=[]) (fun _ z=>nomatch z) (fun b o _ hb _ e n=>u.keep b o e n hb (by simp)) (fun b o _ hb _ e n=>u.slot b o e n hb (by simp)) (fun b o _ e n=>u.free b o e n (by simp)) (fun b o _ e=>u.there b o e (by simp)) u.tups u.Dg u.Dw (fun m' hm=>by
  obtain⟨o',es',Gu,ho',r'⟩:=hm
  rw[ho]at ho';cases ho'
  exact⟨_,es',Gu,hL,r'⟩) hok I.bare
def Inv.call{g':Array GenState}{t':Nat}{d':Drawn}{ch:List Addr}(I:Inv X pins σ H s)(u:Un (frs X.stack) ch H H' s.heap h')(hok:Ck X.prog X.w H' h')(hg:AllBare g')
  (hch:∀b∈ch,(b∈X.ex\/X.s₀.heap.objs.size<=b)/\b≠X.env.locals/\(∀x c,X.env.cells.lookup x=some c->c≠b)/\∀p∈X.pn++pins,p.1≠b) :
  Inv X pins σ H' { s with heap:=h',gens:=g',drawn:=d',toks:=t' }:=by
 obtain⟨m,⟨o,es,ep,ho,r⟩,_⟩:=id I.loc
 obtain⟨sl,hL⟩:=u.any ho I.free fun z=>(hch _ z).2.1 rfl
 exact I.step (ch:=ch) hch (fun b o hL hb hc e n=>u.keep b o e n (fun z=>(Jq.mp (I.CA b z)).elim hL hb) hc) (fun b o _ _ hc e n=>u.any e n hc) (fun b o hc e n=>u.free b o e n hc) (fun b o hc e=>u.there b o e hc) u.tups u.Dg u.Dw (fun m' hm=>by
  obtain⟨o',es',Gu,ho',r'⟩:=hm
  rw[ho]at ho';cases ho'
  exact⟨_,es',Gu,hL,r'⟩) hok hg
def Inv.turned{t':Nat}{it:Addr}(I:Inv X pins σ H s)(k:∀b o,b≠it->s.heap.get? b=some o->h'.get? b=some o)(hn:H it=none)(hL:it≠X.env.locals)
  (h1:it∈X.ex\/X.s₀.heap.objs.size<=it) (h2:∀x c,X.env.cells.lookup x=some c->c≠it) (h3:∀p∈X.pn++pins,p.1≠it):Inv X pins σ H { s with heap:=h',toks:=t' }:=by
 have FK:∀b u,H b=some u->b≠it:=fun b u e z=>by rw[z,hn]at e;cases e
 refine I.step (g':=s.gens) (d':=s.drawn) (ch:=[it]) (fun b hb=>?_) (fun b o _ _ hc e _=>k b o (fun z=>hc (by simp[z])) e) (fun b o _ _ hc e _=>⟨o.slots,k b o (fun z=>hc (by simp[z])) e⟩) (fun _ _ _ _ n=>n)
  (fun b o hc e=>⟨o,k b o (fun z=>hc (by simp[z])) e⟩) (fun _ _ e=>e) (fun _ _ _ e=>e) (fun b ps e=>⟨#[],by rw[e];simp⟩) (fun m hm=>?_) (fun b u e=>?_) I.bare
 ·have e:b=it:=by simpa using hb
  subst e
  exact⟨h1,hL,h2,h3⟩
 ·obtain⟨o,es,ep,ho,r⟩:=hm
  exact⟨o,es,ep,k _ o (Lc hL) ho,r⟩
 ·refine(I.hok b u e).stay (fun c v hc q=>k c v ?_ q) (fun _ q=>q) fun _ _ q=>q
  rcases hc with z|z
  ·rw[z];exact FK b u e
  ·exact FK c _ z
def Inv.tok(I:Inv X pins σ H s)(t:Nat):Inv X pins σ H { s with toks:=t }:=I.un (h':=s.heap) (t':=t) Un.refl I.hok
theorem Inv.kept{t':Nat}(I:Inv X pins σ H s)(k:∀b u,s.heap.get? b=some u->h'.get? b=some u):Inv X pins σ H { s with heap:=h',toks:=t' }:=I.un (Un.kept k) (I.hok.kept k)
theorem Inv.laid{a:Addr}{o:HO}{t':Nat}(I:Inv X pins σ H s)(k:∀b u,s.heap.get? b=some u->h'.get? b=some u)(hp:s.heap.objs.size<=a)(new:A3 X.prog X.w (upd H a o) h' a o) :
  Inv X pins σ (upd H a o) { s with heap:=h',toks:=t' }:=I.un (Un.laid k hp (I.hok.fresh hp)) (I.hok.laid k hp new)
theorem Inv.write{x e:Addr}{o:HO}{t':Nat}(I:Inv X pins σ H s)(mu:w5 (H x))(he:e=x\/H e=some (.own x))(k:∀b u,b≠e->s.heap.get? b=some u->h'.get? b=some u)(FB:∃u,h'.get? e=some u)
  (new:A3 X.prog X.w (upd H x o) h' x o):Inv X pins σ (upd H x o) { s with heap:=h',toks:=t' }:=I.un (Un.write mu he k FB) (I.hok.write mu he k FB new)
def Inv.weak{σ':List (Option V)}(I:Inv X pins σ H s)(hl:σ'.length=σ.length)(w:∀(i:Nat) v,σ'[i]?=some (some v)->σ[i]?=some (some v)):Inv X pins σ' H s:=
 ⟨I.ok,I.os,I.bare,I.base,let ⟨m,hn,hl'⟩:=I.loc;⟨m,hn,fun i x v e1 e2 e3=>hl' i x v e1 (w i v e2) e3⟩,I.cell,I.free,I.Ca,I.pin,I.hok,hl.trans I.len⟩
def Inv.CQ{EV:Va}(I:Inv X pins σ H s)(h:∀p∈EV,s.heap.get? p.1=some p.2/\H p.1=none/\p.1≠X.env.locals/\p.1 ∉ X.fs/\∀v,p.2.data ≠ .cell v):Inv X EV σ H s:=
 ⟨I.ok,I.os,I.bare,I.base,I.loc,I.cell,I.free,I.Ca,fun p hp=>(Ju.mp hp).elim (fun z=>I.pin p (Lf _ z)) (h p),I.hok,I.len⟩
def lH{N:Vs}(hN:N.Nodup){i j:Nat}{x:Str}(a:N[i]?=some x)(b:N[j]?=some x):i=j:=by
 obtain⟨h1,e1⟩:=JJ.mp a
 obtain⟨h2,e2⟩:=JJ.mp b
 exact(List.getElem_inj hN).mp (e1.trans e2.symm)
def kc {M : Model} {A : Around} {E : Value -> Shared -> Prop} {i : Nat} {x : Str} {v : V} {u : Value} {Q : Unit -> Shared -> Prop} (I : Inv X pins σ H s) (hN : X.N.Nodup) (hi : X.N[i]? = some x) (hx : ux X.env.scope x) (r : RelV v u)
  (h : ∀ s', Inv X pins (σ.set i (some v)) H s' -> (∃ a, Heap.SameBut a s.heap s'.heap /\ (a = X.env.locals \/ X.env.cells.lookup x = some a)) -> Q () s') (hf : X.fn x = true \/ X.env.scope.names.lookup x = some .local := by first | exact .inl rfl | exact .inr rfl | assumption) : wpAny M A (storeName X.env x u) Q E s := by
 obtain ⟨m, hn, hl⟩ := id I.loc
 have hcls : (X.env.scope.kind == .class || (X.env.scope.kind == .module && X.env.locals != X.env.globals)) = false := by rw [I.ok.kind]; rfl
 have Hn : i < σ.length := by rw [I.len]; exact (JJ.mp hi).1
 have Fd := I.Fd
 have tracked : ∀ {a : Addr} {h' : Heap}, (∃ o, s.heap.get? a = some o /\ H a = none) -> Heap.SameBut a s.heap h' -> Ck X.prog X.w H h' := fun {a h'} ha hs b ob e => by
  obtain ⟨_, _, hfree⟩ := ha
  refine (I.hok b ob e).stay (fun c w' hc q => (hs.2 c ?_).trans q) (fun _ q => q) fun _ _ q => q
  rintro rfl
  rcases hc with rfl | hc
  ·rw [hfree] at e; cases e
  ·rw [hfree] at hc; cases hc
 rcases hx with hk | hk
 ·refine wpAny_storeName_local hk hn (fun h' hn' hs => ?_) hcls
  obtain ⟨oL, _, _, Ii, _⟩ := id hn
  refine h _ ⟨I.ok, I.os, I.bare, ⟨fun b o e n hb hx => ?_, fun b o e n hb hx => ?_, I.base.free, fun b o e hx => ?_, I.base.tups, I.base.Dg, I.base.Dw⟩, ⟨_, hn', fun j y v' e1 e2 e3 => ?_⟩, fun y c e => ?_, I.free, I.Ca, fun p hp => ?_, tracked ⟨oL, Ii, I.free⟩ hs, by simpa using I.len⟩ ⟨_, hs, .inl rfl⟩
  ·exact (hs.2 b (JL (JC (Jr e) I.ok.above))).trans (I.base.keep b o e n hb hx)
  ·obtain ⟨sl, e1⟩ := I.base.slot b o e n hb hx
   exact ⟨sl, (hs.2 b (JL (JC (Jr e) I.ok.above))).trans e1⟩
  ·obtain ⟨o', e1⟩ := I.base.there b o e hx
   exact ⟨o', (hs.2 b (JL (JC (Jr e) I.ok.above))).trans e1⟩
  ·by_cases hj : j = i
   ·subst hj
    rw [hi] at e1; cases e1
    rw [List.getElem?_set_self Hn] at e2
    cases e2
    exact ⟨u, r, .inl ⟨hk, by simp⟩⟩
   ·rw [List.getElem?_set_ne (Lc hj)] at e2
    obtain ⟨u', r', q⟩ := hl j y v' e1 e2 e3
    refine ⟨u', r', ?_⟩
    rcases q with ⟨k, e⟩ | ⟨k, c, e, z⟩
    ·refine .inl ⟨k, ?_⟩
     have : y ≠ x := fun e => hj (lH hN e1 (e ▸ hi))
     simp [this, e]
    ·exact .inr ⟨k, c, e, z.sameBut hs (Fd y c e)⟩
  ·obtain ⟨w', z⟩ := I.cell y c e
   exact ⟨w', z.sameBut hs (Fd y c e)⟩
  ·obtain ⟨e, n, ne, nf, d⟩ := I.pin p hp
   exact ⟨(hs.2 p.1 ne).trans e, n, ne, nf, d⟩
 ·have hfn : X.fn x = true := by
   rcases hf with z | z
   ·exact z
   ·rw [z] at hk; cases hk
  obtain ⟨c, hc⟩ := I.ok.has x (.inl hk)
  obtain ⟨w', z⟩ := I.cell x c hc
  refine wpAny_storeName_cell I.ok.kind hk hc z (fun h' hc' hs => ?_)
  obtain ⟨oc, hoc, Gv⟩ := id z
  refine h { s with heap := h' } ⟨I.ok, I.os, I.bare, ⟨fun b o e n hb hx => ?_, fun b o e n hb hx => ?_, I.base.free, fun b o e hx => ?_, I.base.tups, I.base.Dg, I.base.Dw⟩, ⟨m, hn.sameBut hs (Lc (Fd x c hc)), fun j y v' e1 e2 e3 => ?_⟩, fun y c' e => ?_, I.free, I.Ca, fun p hp => ?_, tracked ⟨oc, hoc, I.Ca x c hc⟩ hs, by simpa using I.len⟩ ⟨c, hs, .inr hc⟩
  ·exact (hs.2 b (JL (JC (Jr e) (I.ok.FC x c hfn hc)))).trans (I.base.keep b o e n hb hx)
  ·obtain ⟨sl, e1⟩ := I.base.slot b o e n hb hx
   exact ⟨sl, (hs.2 b (JL (JC (Jr e) (I.ok.FC x c hfn hc)))).trans e1⟩
  ·obtain ⟨o', e1⟩ := I.base.there b o e hx
   exact ⟨o', (hs.2 b (JL (JC (Jr e) (I.ok.FC x c hfn hc)))).trans e1⟩
  ·by_cases hj : j = i
   ·subst hj
    rw [hi] at e1; cases e1
    rw [List.getElem?_set_self Hn] at e2
    cases e2
    exact ⟨u, r, .inr ⟨.inl hk, c, hc, hc'⟩⟩
   ·rw [List.getElem?_set_ne (Lc hj)] at e2
    obtain ⟨u', r', q⟩ := hl j y v' e1 e2 e3
    refine ⟨u', r', ?_⟩
    rcases q with q | ⟨k, c', e, z'⟩
    ·exact .inl q
    ·refine .inr ⟨k, c', e, z'.sameBut hs ?_⟩
     rintro rfl
     exact hj (lH hN e1 (I.ok.inj _ _ _ e hc ▸ hi))
  ·by_cases hcc : c' = c
   ·subst hcc; exact ⟨_, hc'⟩
   ·obtain ⟨w2, z2⟩ := I.cell y c' e
    exact ⟨w2, z2.sameBut hs hcc⟩
  ·obtain ⟨e, n, ne, nf, d⟩ := I.pin p hp
   refine ⟨(hs.2 p.1 ?_).trans e, n, ne, nf, d⟩
   intro q
   rw [q, hoc] at e
   have q' : oc = p.2 := Kc e
   exact d w' (by rw [<- q']; exact Gv)
def cZ{M:Model}{A:Around}{E:Vq}{i:Nat}{x:Str}{v:V}{u:Value}{Q:Unit->Shared->Prop}(I:Inv X pins σ H s)(hN:X.N.Nodup)(hi:X.N[i]?=some x)(hx:ux X.env.scope x)(r:RelV v u)
  (h:∀s',Inv X pins (σ.set i (some v)) H s'->Q () s') (hf:X.fn x=true\/X.env.scope.names.lookup x=some .local:=by first|exact .inl rfl|exact .inr rfl|assumption):wpAny M A (storeName X.env x u) Q E s:=
 kc I hN hi hx r (fun s' I' _=>h s' I') hf
def Inv.FL{s':Shared}{ch:List Addr}(I:Inv X pins σ H s)(ho:s'.os=s.os)(u:Un (frs X.stack) ch H H' s.heap s'.heap)(hok:Ck X.prog X.w H' s'.heap)(hg:AllBare s'.gens)
  (hch:∀b∈ch,(b∈X.ex\/X.s₀.heap.objs.size<=b)/\b≠X.env.locals/\(∀x c,X.env.cells.lookup x=some c->c≠b)/\∀p∈X.pn++pins,p.1≠b):Inv X pins σ H' s':=by
 obtain⟨h',g',d',t',o'⟩:=s'
 have e:o'=s.os:=ho
 subst e
 exact I.call (g':=g') (t':=t') (d':=d') u hok hg hch
end
abbrev XK:=Value->Option Addr->Hp->Prop
abbrev St:=List (Option V)
abbrev VK:=V->Hp->Prop
abbrev TE:=St->Hp->VK->Prop
abbrev TT:=St->Hp->(Bool->Hp->Prop)->Prop
abbrev TA:=St->Hp->(List V->Hp->Prop)->Prop
structure mE where
 nx:St->Hp->Prop
 rt:VK
 bk:St->Hp->Prop:=fun _ _=>False
 ct:St->Hp->Prop:=fun _ _=>False
abbrev TS:=mE->St->Hp->Prop
def EP(X:Cx)(pins:Va)(σ:St)(Q:VK)(u:Value)(s':Shared):Prop:=∃v H',Inv X pins σ H' s'/\RelV v u/\Q v H'
def TP(X:Cx)(pins:Va)(σ:St)(Q:Bool->Hp->Prop)(b:Bool)(s':Shared):Prop:=∃H',Inv X pins σ H' s'/\Q b H'
def AP(X:Cx)(pins:Va)(σ:St)(Q:List V->Hp->Prop)(us:Vv)(s':Shared):Prop:=∃vs H',Inv X pins σ H' s'/\Vals vs us/\Q vs H'
def SP(X:Cx)(pins:Va)(D:mE)(f:Flow)(s':Shared):Prop:=
 match f with
 | .next=>∃σ' H',Inv X pins σ' H' s'/\D.nx σ' H'
 | .brk=>∃σ' H',Inv X pins σ' H' s'/\D.bk σ' H'
 | .cont=>∃σ' H',Inv X pins σ' H' s'/\D.ct σ' H'
 | .ret u=>∃v σ' H',Inv X pins σ' H' s'/\RelV v u/\D.rt v H'
def PE(X:Cx)(e:Expr)(t:TE):Prop:=
 ∀(pins:Va) (s:Shared) (σ:St) (H:Hp) (Q:VK),Inv X pins σ H s->t σ H Q->wpAny (model X.prog X.w) X.A (eval e X.env) (EP X pins σ Q) X.xe s
def PT(X:Cx)(e:Expr)(t:TT):Prop:=
 ∀(pins:Va) (s:Shared) (σ:St) (H:Hp) (Q:Bool->Hp->Prop),Inv X pins σ H s->t σ H Q->wpAny (model X.prog X.w) X.A (isTrue e X.env (eval e X.env)) (TP X pins σ Q) X.xe s
def PW(X:Cx)(e:Expr)(t:TT):Prop:=
 ∀(whole:Sem Value) (pins:Va) (s:Shared) (σ:St) (H:Hp) (Q:Bool->Hp->Prop),Inv X pins σ H s->t σ H Q->wpAny (model X.prog X.w) X.A (isTrue e X.env whole) (TP X pins σ Q) X.xe s
def PW.pt{X:Cx}{e:Expr}{t:TT}(h:PW X e t):PT X e t:=h _
def PA(X:Cx)(es:List Expr)(t:TA):Prop:=
 ∀(pos:Pos) (pins:Va) (s:Shared) (σ:St) (H:Hp) (Q:List V->Hp->Prop),Inv X pins σ H s->t σ H Q->wpAny (model X.prog X.w) X.A (spliced (backTo pos (starEach es X.env))) (AP X pins σ Q) X.xe s
def PS(X:Cx)(st:Stmt)(t:TS):Prop:=
 ∀(pins:Va) (s:Shared) (σ:St) (H:Hp) (D:mE),Inv X pins σ H s->t D σ H->wpAny (model X.prog X.w) X.A (exec st X.env) (SP X pins D) X.xe s
def Dx(X:Cx)(st:List Stmt)(t:TS):Prop:=
 ∀(pins:Va) (s:Shared) (σ:St) (H:Hp) (D:mE),Inv X pins σ H s->t D σ H->wpAny (model X.prog X.w) X.A (execs st X.env) (SP X pins D) X.xe s
def AL{α:Type}{t:Sem α}{Q Q':α->Shared->Prop}{M:Model}{A:Around}{E:Vq}{s:Shared}(h:wpAny M A t Q E s)(hQ:∀a s,Q a s->Q' a s):wpAny M A t Q' E s:=Lo h hQ fun _ _ x=>x
section
variable {X:Cx}
def yZ(i:Nat):TE:=fun σ H Q=>∃v,σ[i]?=some (some v)/\Q v H
def tC(v:V):TE:=fun _ H Q=>Q v H
def uY{i:Nat}{x:Str}{pos:Pos}(hN:X.N[i]?=some x)(hv:yI X.env.scope x)(hd:(x == ("__debug__":Str))=false:=by decide)(hcd:(x == ("__classdict__":Str))=false:=by decide):PE X (.Name x pos) (yZ i):=by
 intro pins s σ H Q I h
 obtain⟨v,e,h⟩:=h
 obtain⟨m,hn,hl⟩:=I.loc
 obtain⟨u,r,l⟩:=hl i x v hN e hv
 have fin:EP X pins σ Q u s:=⟨v,H,I,r,h⟩
 rcases l with⟨hk,hm⟩|⟨hk,c,hc,hcell⟩
 ·exact wpAny_Name (wpAny_loadName_local I.ok.kind hk hn hm fin) hd
 ·rcases hk with hk|hk
  ·exact wpAny_Name (wpAny_loadName_cell I.ok.kind hk hc hcell fin) hd
  ·exact wpAny_Name (wpAny_loadName_free I.ok.kind hk hc hcell fin hcd) hd
def uZ{i j pos}:PE X (.Constant (.int i) j pos) (tC (.int i)):=fun _ _ _ H _ I h=>wpAny_Constant_int ⟨.int i,H,I.tok _,⟨_,rfl⟩,h⟩
def w9{b j pos}:PE X (.Constant (.bool b) j pos) (tC (.bl b)):=fun _ _ _ H _ I h=>Constant_bool ⟨.bl b,H,I,rfl,h⟩
def u4{j pos}:PE X (.Constant .none j pos) (tC .non):=fun _ _ _ H _ I h=>Constant_none ⟨.non,H,I,rfl,h⟩
def u5{x j pos}:PE X (.Constant (.str x) j pos) (tC (.str x)):=fun _ _ _ H _ I h=>Calls.Constant_str ⟨.str x,H,I.tok _,⟨_,rfl⟩,h⟩
def Gl(X:Cx)(x:Str):Prop:=X.env.kindOf x=some .globalImplicit
def nC{E:Vq}{pins:Va}{s:Shared}{σ:St}{H:Hp}{x:Str}{u:Value}{pos:Pos}{Q:Vq}(I:Inv X pins σ H s)(hg:Gl X x)(hm:X.mg x=some u)(h:Q u s)
  (hd:(x == ("__debug__":Str))=false:=by decide):wpAny (model X.prog X.w) X.A (eval (.Name x pos) X.env) Q E s:=
 Calls.Name_function_global I.ok.kind hg (Calls.loadGlobal_global (by rw[I.ok.glob];exact I.mod.glob.keeps I.bk) hm h) hd
def dF{E:Vq}{pins:Va}{s:Shared}{σ:St}{H:Hp}{x:Str}{u:Value}{pos:Pos}{Q:Vq}(I:Inv X pins σ H s)(hg:Gl X x)(hm:X.mg x=none)(hv:bootBuiltins x=some u)(h:Q u s)
  (hn:x ≠ "__name__":=by decide) (hd:(x == ("__debug__":Str))=false:=by decide):wpAny (model X.prog X.w) X.A (eval (.Name x pos) X.env) Q E s:=by
 obtain⟨mb,h1,h2⟩:=I.mod.blt
 exact Calls.Name_function_global I.ok.kind hg (Calls.loadGlobal_builtin (by rw[I.ok.glob];exact I.mod.glob.keeps I.bk) hm (by rw[I.ok.blt];exact h1.keeps I.bk) ((h2 x hn).trans hv) h) hd
def su{x:Str}{v:V}{u:Value}{pos:Pos}(hg:Gl X x)(hm:X.mg x=none)(hv:bootBuiltins x=some u)(r:RelV v u)(hn:x ≠ "__name__":=by decide)(hd:(x == ("__debug__":Str))=false:=by decide):PE X (.Name x pos) (tC v):=
 fun _ _ _ H _ I h=>dF I hg hm hv ⟨v,H,I,r,h⟩ hn hd
variable {a b:Expr} {ta tb:TE} {pos:Pos}
def tB(t:TE):TT:=fun σ H Q=>t σ H fun x H1=>∃c,x = .bl c/\Q c H1
def u6{e:Expr}{t:TE}(h:PE X e t)(he:∀whole,isTrue e X.env whole=(do let v <-whole;standAt e.pos;holding [v] (truthy v)):=by intro _;rfl):PT X e (tB t):=by
 intro pins s σ H Q I hw
 refine isTrue_plain (AL (h pins s σ H _ I hw) fun v s1 ⟨x,H1,I1,r1,q1⟩=>?_) (he _)
 obtain⟨d,rfl,q⟩:=q1
 cases r1
 exact Lg ⟨H1,I1,q⟩
variable {tA F3:TT} {rest:List Expr}
def y3(t u:TT):TT:=fun σ H Q=>t σ H fun c H1=>if c=true then u σ H1 Q else Q false H1
def Ag(t u:TT):TT:=fun σ H Q=>t σ H fun c H1=>if c=true then Q true H1 else u σ H1 Q
def y7(t:TT):TT:=fun σ H Q=>t σ H fun c H1=>Q (!c) H1
def sv(ha:PT X a tA):PW X (.BoolOp .And [a] pos) tA:=by
 intro wh pins s σ H Q I h
 refine isTrue_and (AL (ha pins s σ H Q I h) fun c s1 e=>?_)
 cases c with
 |true=>exact isTrue_and_nil e
 |false=>exact e
def u7(ha:PT X a tA):PW X (.BoolOp .Or [a] pos) tA:=by
 intro wh pins s σ H Q I h
 refine isTrue_or (AL (ha pins s σ H Q I h) fun c s1 e=>?_)
 cases c with
 |false=>exact isTrue_or_nil e
 |true=>exact e
def u8(ha:PT X a tA)(hb:PW X (.BoolOp .And (b::rest) pos) F3):PW X (.BoolOp .And (a::b::rest) pos) (y3 tA F3):=by
 intro wh pins s σ H Q I h
 refine isTrue_and (AL (ha pins s σ H _ I h) fun c s1 ⟨H1,I1,q1⟩=>?_)
 cases c with
 |true=>exact hb wh pins s1 σ H1 Q I1 q1
 |false=>exact⟨H1,I1,q1⟩
def w_(ha:PT X a tA)(hb:PW X (.BoolOp .Or (b::rest) pos) F3):PW X (.BoolOp .Or (a::b::rest) pos) (Ag tA F3):=by
 intro wh pins s σ H Q I h
 refine isTrue_or (AL (ha pins s σ H _ I h) fun c s1 ⟨H1,I1,q1⟩=>?_)
 cases c with
 |true=>exact⟨H1,I1,q1⟩
 |false=>exact hb wh pins s1 σ H1 Q I1 q1
def u9(ha:PT X a tA):PT X (.UnaryOp .Not a pos) (y7 tA):=by
 intro pins s σ H Q I h
 exact isTrue_not (ha pins s σ H (fun c H1=>Q (!c) H1) I h)
def xa(ta tb:TE):TE:=fun σ H Q=>ta σ H fun x H1=>∃c,x = .bl c/\if c=true then tb σ H1 Q else Q (.bl false) H1
def y8(ta tb:TE):TE:=fun σ H Q=>ta σ H fun x H1=>∃c,x = .bl c/\if c=true then Q (.bl true) H1 else tb σ H1 Q
def xg(ta:TE):TE:=fun σ H Q=>ta σ H fun x H1=>∃c,x = .bl c/\Q (.bl (!c)) H1
def u_{op}{t:TE}(h:PE X a t):PE X (.BoolOp op [a] pos) t:=fun pins s σ H Q I hw=>BoolOp_one (h pins s σ H Q I hw)
def va(ha:PE X a ta)(hb:PE X (.BoolOp .And (b::rest) pos) tb):PE X (.BoolOp .And (a::b::rest) pos) (xa ta tb):=by
 intro pins s σ H Q I h
 refine BoolOp_and (AL (ha pins s σ H _ I h) fun v s1 ⟨x,H1,I1,r1,q1⟩=>?_)
 obtain⟨c,rfl,q1⟩:=q1
 cases r1
 refine Lg ?_
 cases c with
 |true=>exact hb pins s1 σ H1 Q I1 q1
 |false=>exact⟨.bl false,H1,I1,rfl,q1⟩
def xh(ha:PE X a ta)(hb:PE X (.BoolOp .Or (b::rest) pos) tb):PE X (.BoolOp .Or (a::b::rest) pos) (y8 ta tb):=by
 intro pins s σ H Q I h
 refine BoolOp_or (AL (ha pins s σ H _ I h) fun v s1 ⟨x,H1,I1,r1,q1⟩=>?_)
 obtain⟨c,rfl,q1⟩:=q1
 cases r1
 refine Lg ?_
 cases c with
 |false=>exact hb pins s1 σ H1 Q I1 q1
 |true=>exact⟨.bl true,H1,I1,rfl,q1⟩
def vb(ha:PE X a ta):PE X (.UnaryOp .Not a pos) (xg ta):=by
 intro pins s σ H Q I h
 refine UnaryOp_ (AL (ha pins s σ H _ I h) fun v s1 ⟨x,H1,I1,r1,q1⟩=>?_)
 obtain⟨c,rfl,q1⟩:=q1
 cases r1
 exact not_of (Lg ⟨.bl (!c),H1,I1,rfl,q1⟩)
def Ah(t:TT)(ta tb:TE):TE:=fun σ H Q=>t σ H fun c H1=>if c=true then ta σ H1 Q else tb σ H1 Q
def pU{c:Expr}(hc:PT X c tA)(ha:PE X a ta)(hb:PE X b tb):PE X (.IfExp c a b pos) (Ah tA ta tb):=by
 intro pins s σ H Q I h
 refine wpAny_IfExp (AL (hc pins s σ H _ I h) fun d s1 ⟨H1,I1,q1⟩=>?_)
 cases d with
 |true=>exact ha pins s1 σ H1 Q I1 q1
 |false=>exact hb pins s1 σ H1 Q I1 q1
end
def SqL(K:Vo)(H:Hp)(a:Addr)(xs:List V):Prop:=
 Rd H a (.lst xs) \/
  ∃(o:Obj) (its:Vw) (n:Nat),K.lookup a=some o/\o.cls = .type "list"/\o.dict=none/\o.data = .seq its n/\its.size<=sizeLine/\Vals xs its.toList
def SqT(K:Vo)(H:Hp)(a:Addr)(xs:List V):Prop:=
 Rd H a (.tup xs) \/
  ∃(o:Obj) (its:Vw) (n:Nat),K.lookup a=some o/\o.cls = .type "tuple"/\o.dict=none/\o.data = .seq its n/\its.size<=sizeLine/\Vals xs its.toList
noncomputable def y9:Value->Option V
 | .none=>some .non
 | .bool b=>some (.bl b)
 | .int i _=>some (.int i)
 | .str x _=>some (.str x)
 | .bytes b _=>some (.Eh b)
 | .float b _=>some (.Gn b)
 | .ref a=>some (.ref a)
 | .type n=>some (.ty n)
 |_=>none
def RelV.abs{x:V}{u:Value}(r:RelV x u):y9 u=some x:=by
 cases x with
 |non=>cases r;rfl
 |bl _=>cases r;rfl
 |int _=>obtain⟨t,rfl⟩:=r;rfl
 |str _=>obtain⟨t,rfl⟩:=r;rfl
 |Eh _=>obtain⟨t,rfl⟩:=r;rfl
 |Gn _=>obtain⟨t,rfl⟩:=r;rfl
 |ref _=>cases r;rfl
 |ty _=>cases r;rfl
theorem RelV.inj{x y:V}{u:Value}(r:RelV x u)(q:RelV y u):x=y:=Kc (r.abs.symm.trans q.abs)
theorem Vals.inj:∀{xs ys:List V} {us:Vv},Vals xs us->Vals ys us->xs=ys
 |_,_,_,.nil,.nil=>rfl
 |_,_,_,.cons r t,.cons r' t'=>by rw[r.inj r',Vals.inj t t']
section
variable {X:Cx} {pins:Va} {σ:St} {H:Hp} {s:Shared} {a:Addr} {xs ys:List V}
def SqL.of{K:Vo}(h:H a=some (.lst xs)):SqL K H a xs:=.inl (.inl h)
def SqT.of{K:Vo}(h:H a=some (.tup xs)):SqT K H a xs:=.inl (.inl h)
def Inv.list(I:Inv X pins σ H s)(h:SqL X.K H a xs):∃its:List Value,Vals xs its/\PlainL s.heap a its.toArray/\xs.length<=sizeLine:=by
 rcases h with h|⟨o,its,n,hk,hc,hd,hs,hz,r⟩
 ·obtain⟨z,its,n,r,e⟩:=h.ok I.hok
  exact⟨its,r,⟨_,n,e,rfl,rfl,rfl⟩,z⟩
 ·refine⟨its.toList,r,⟨o,n,I.Ej a o hk,hc,hd,by simpa using hs⟩,?_⟩
  have e:=r.length
  simp only[Array.length_toList]at e
  omega
def Inv.tuple(I:Inv X pins σ H s)(h:SqT X.K H a xs):∃its:List Value,Vals xs its/\IsTup s.heap a its.toArray/\xs.length<=sizeLine:=by
 rcases h with h|⟨o,its,n,hk,hc,_,hs,hz,r⟩
 ·obtain⟨z,its,r,p⟩:=h.ok I.hok
  exact⟨its,r,p.tup,z⟩
 ·refine⟨its.toList,r,⟨o,I.Ej a o hk,hc,n,by simpa using hs⟩,?_⟩
  have e:=r.length
  simp only[Array.length_toList]at e
  omega
def Inv.CW(I:Inv X pins σ H s)(h:SqL X.K H a xs)(h':SqL X.K H a ys):xs=ys:=by
 obtain⟨its,r,⟨o,n,e,_,_,d⟩,_⟩:=I.list h
 obtain⟨its',r',⟨o',n',e',_,_,d'⟩,_⟩:=I.list h'
 rw[e]at e';cases e'
 rw[d]at d'
 injection d' with d1 _
 have:its=its':=by simpa using Ke Array.toList d1
 subst this
 exact r.inj r'
def Inv.CC(I:Inv X pins σ H s)(h:SqT X.K H a xs)(h':SqT X.K H a ys):xs=ys:=by
 obtain⟨its,r,⟨o,e,_,n,d⟩,_⟩:=I.tuple h
 obtain⟨its',r',⟨o',e',_,n',d'⟩,_⟩:=I.tuple h'
 rw[e]at e';cases e'
 rw[d]at d'
 injection d' with d1 _
 have:its=its':=by simpa using Ke Array.toList d1
 subst this
 exact r.inj r'
end
noncomputable abbrev Cx.wish(X:Cx)(E:Vq):Cx:={ X with xe:=E }
noncomputable abbrev Cx.Fe(X:Cx):Cx:=X.wish fun _ _=>False
theorem Cx.Ok.wish{X:Cx}(ok:X.Ok)(E:Vq):(X.wish E).Ok:=
 ⟨ok.mod,ok.kind,ok.glob,ok.blt,ok.above,ok.inj,ok.has,ok.FC,ok.hd,ok.frames,ok.stk,ok.Gr,ok.bs,ok.EI,ok.DZ,ok.Ei,ok.CO,ok.Fc⟩
def Cx.Ok.Cb{X:Cx}{E:Vq}(ok:(X.wish E).Ok):X.Ok:=
 ⟨ok.mod,ok.kind,ok.glob,ok.blt,ok.above,ok.inj,ok.has,ok.FC,ok.hd,ok.frames,ok.stk,ok.Gr,ok.bs,ok.EI,ok.DZ,ok.Ei,ok.CO,ok.Fc⟩
section
variable {X:Cx} {pins:Va} {σ:St} {H:Hp} {s:Shared} {E:Vq}
theorem Inv.wish(I:Inv X pins σ H s)(E:Vq):Inv (X.wish E) pins σ H s:=⟨I.ok.wish E,I.os,I.bare,I.base,I.loc,I.cell,I.free,I.Ca,I.pin,I.hok,I.len⟩
theorem Inv.Cb(I:Inv (X.wish E) pins σ H s):Inv X pins σ H s:=⟨I.ok.Cb,I.os,I.bare,I.base,I.loc,I.cell,I.free,I.Ca,I.pin,I.hok,I.len⟩
theorem SP.Cb{D:mE}{f:Flow}{s':Shared}(h:SP (X.wish E) pins D f s'):SP X pins D f s':=by
 cases f with
 |next=>obtain⟨σ',H',I,q⟩:=h;exact⟨σ',H',I.Cb,q⟩
 |brk=>obtain⟨σ',H',I,q⟩:=h;exact⟨σ',H',I.Cb,q⟩
 |cont=>obtain⟨σ',H',I,q⟩:=h;exact⟨σ',H',I.Cb,q⟩
 |ret u=>obtain⟨v,σ',H',I,r,q⟩:=h;exact⟨v,σ',H',I.Cb,r,q⟩
theorem Dx.Fe{st:List Stmt}{t:TS}(h:Dx X.Fe st t):Dx X st t:=fun pins s σ H D I hw=>
 Lo (h pins s σ H D (I.wish _) hw) (fun _ _ q=>q.Cb) fun _ _ z=>False.elim z
end
section
variable {X:Cx} {st:Stmt} {rest:List Stmt} {t u:TS} {e:Expr} {te:TE} {pos:Pos}
def xi:TS:=fun D σ H=>D.nx σ H
def y_(t u:TS):TS:=fun D σ H=>t { D with nx:=u D } σ H
def sx:Dx X [] xi:=fun _ _ σ H _ I h=>Mw ⟨σ,H,I,h⟩
def pV(h1:PS X st t)(h2:Dx X rest u):Dx X (st::rest) (y_ t u):=by
 intro pins s σ H D I h
 refine wpAny_execs_cons (AL (h1 pins s σ H { D with nx:=u D } I h) fun f s1 q=>?_)
 cases f with
 |next=>
  obtain⟨σ',H',I',q⟩:=q
  exact h2 pins s1 σ' H' D I' q
 |ret v=>exact q
 |brk=>exact q
 |cont=>exact q
def sy(h1:PS X st t):Dx X [st] t:=by
 intro pins s σ H D I h
 refine wpAny_execs_cons (AL (h1 pins s σ H D I h) fun f s1 q=>?_)
 cases f with
 |next=>exact Mw q
 |ret v=>exact q
 |brk=>exact q
 |cont=>exact q
def Inv.quiet{pins:Va}{σ:St}{H:Hp}{s:Shared}(I:Inv X pins σ H s):interactive X.env=false:=by simp[interactive,I.ok.kind]
def xj(te:TE):TS:=fun D σ H=>te σ H fun _ H1=>D.nx σ H1
def sA(he:PE X e te)(hs:swapsWith e none pos.line X.env=pure false:=by rfl):PS X (.Expr e pos) (xj te):=by
 intro pins s σ H D I h
 exact wpAny_Expr_any (AL (he pins s σ H _ I h) fun v s1 ⟨x,H1,I1,r1,q1⟩=>⟨σ,H1,I1,q1⟩) I.quiet hs
def zc(te:TE):TS:=fun D σ H=>te σ H D.rt
def vc(he:PE X e te):PS X (.Return (some e) pos) (zc te):=by
 intro pins s σ H D I h
 exact wpAny_Return_some (AL (he pins s σ H _ I h) fun v s1 ⟨x,H1,I1,r1,q1⟩=>⟨x,σ,H1,I1,r1,q1⟩)
def zd(c:TT)(t u:TS):TS:=fun D σ H=>c σ H fun b H1=>if b=true then t D σ H1 else u D σ H1
def xk{c:Expr}{a b:List Stmt}{tc:TT}(hc:PT X c tc)(ha:Dx X a t)(hb:Dx X b u):PS X (.If c a b pos) (zd tc t u):=by
 intro pins s σ H D I h
 refine wpAny_If (AL (hc pins s σ H _ I h) fun d s1 ⟨H1,I1,q1⟩=>?_)
 cases d with
 |true=>exact ha pins s1 σ H1 D I1 q1
 |false=>exact hb pins s1 σ H1 D I1 q1
end
abbrev TG:=V->St->Hp->(St->Hp->Prop)->Prop
abbrev uy:=List V->St->Hp->(St->Hp->Prop)->Prop
def PG(X:Cx)(target:Expr)(t:TG):Prop:=
 ∀(pins:Va) (s:Shared) (σ:St) (H:Hp) (v:V) (u:Value) (Q:St->Hp->Prop),Inv X pins σ H s->RelV v u->t v σ H Q->
  wpAny (model X.prog X.w) X.A (assign target X.env u) (fun _ s'=>∃σ' H',Inv X pins σ' H' s'/\Q σ' H') X.xe s
def xm(X:Cx)(ts:List Expr)(t:uy):Prop:=
 ∀(pins:Va) (s:Shared) (σ:St) (H:Hp) (vs:List V) (us:Vv) (Q:St->Hp->Prop),Inv X pins σ H s->Vals vs us->t vs σ H Q->
  wpAny (model X.prog X.w) X.A (assignInOrder ((assignEach ts X.env).map (·.2)) us) (fun _ s'=>∃σ' H',Inv X pins σ' H' s'/\Q σ' H') X.xe s
abbrev vd:=V->V->V->Hp->(Hp->Prop)->Prop
def sB(X:Cx)(t:vd):Prop:=
 ∀(pins:Va) (s:Shared) (σ:St) (H:Hp) (o i v:V) (ov iv u:Value) (Q:Hp->Prop),Inv X pins σ H s->RelV o ov->RelV i iv->RelV v u->t o i v H Q->
  wpAny (model X.prog X.w) X.A (setItem ov iv u) (fun _ s'=>∃H',Inv X pins σ H' s'/\Q H') X.xe s
section
variable {X:Cx} {pos:Pos}
def lI(i:Nat):TG:=fun v σ H Q=>Q (σ.set i (some v)) H
def sC{i:Nat}{x:Str}(hN:X.N.Nodup)(hi:X.N[i]?=some x)(hx:ux X.env.scope x)(hf:X.fn x=true\/X.env.scope.names.lookup x=some .local:=by first|exact .inl rfl|exact .inr rfl|assumption):PG X (.Name x pos) (lI i):=by
 intro pins s σ H v u Q I r h
 exact wpAny_assign_Name (cZ I hN hi hx r (fun s' I'=>⟨_,H,I',h⟩) hf)
noncomputable def xq:uy:=fun vs σ H Q=>vs=[]/\Q σ H
noncomputable def uz(t:TG)(u:uy):uy:=fun vs σ H Q=>∃v r,vs=v::r/\t v σ H fun σ' H'=>u r σ' H' Q
def sD:xm X [] xq:=by
 intro pins s σ H vs us Q I r h
 obtain⟨e,h⟩:=h
 subst e
 cases r
 exact assignInOrder_nil ⟨σ,H,I,h⟩
def pW{e:Expr}{es:List Expr}{t:TG}{u:uy}(h1:PG X e t)(h2:xm X es u)
  (hs:(assignEach (e::es) X.env).map (·.2)=assign e X.env::(assignEach es X.env).map (·.2):=by rfl):xm X (e::es) (uz t u):=by
 intro pins s σ H vs us Q I r h
 obtain⟨v,vr,e1,h⟩:=h
 subst e1
 cases r with
 |cons r rr=>
  rw[hs]
  refine K8 (AL (h1 pins s σ H _ _ _ I r h) fun _ s1 ⟨σ1,H1,I1,q1⟩=>?_)
  exact h2 pins s1 σ1 H1 _ _ Q I1 rr q1
def xu(K:Vo)(n:Nat)(t:uy):TG:=fun v σ H Q=>∃a xs,v = .ref a/\SqT K H a xs/\xs.length=n/\t xs σ H Q
def ve{es:List Expr}{k:Nat}{t:uy}{n:Nat}(hc:X.calm=true)(h:xm X es t)
  (hn:(assignEach es X.env).length=n:=by rfl) (hst:(assignEach es X.env).findIdx? (·.1)=none:=by rfl):PG X (.Tuple es k pos) (xu X.K n t):=by
 intro pins s σ H v u Q I r hw
 obtain⟨a,xs,e1,hq,hl,hw⟩:=hw
 subst e1
 cases r
 obtain⟨its,rv,ht,hz⟩:=I.tuple hq
 refine assign_Tuple_tuple (I.ok.hd hc) ht (by simp[hn,<-hl,rv.length]) hst fun h' hx=>?_
 have I1:Inv X pins σ H { s with heap:=h' }:=I.kept (t':=s.toks) fun b o e=>hx b o (JL (Jr e)) e
 exact h pins _ σ H xs _ Q I1 (by simpa using rv) hw
def ze(to ti:TE)(t:vd):TG:=fun v σ H Q=>to σ H fun o H1=>ti σ H1 fun i H2=>t o i v H2 fun H3=>Q σ H3
def vf{o i:Expr}{to ti:TE}{t:vd}(ho:PE X o to)(hi:PE X i ti)(hs:sB X t)
  (ha:∀v,assign (.Subscript o i pos) X.env v=(do
   let ov <-holding [v] (eval o X.env)
   let iv <-holding [v,ov] (eval i X.env)
   standAt pos
   holding [v,ov,iv] (setItem ov iv v)
   release [v,ov,iv] []):=by intro _;rfl):PG X (.Subscript o i pos) (ze to ti t):=by
 intro pins s σ H v u Q I r h
 rw[ha]
 refine Ji (KQ (AL (ho pins s σ H _ I h) fun ov s1 ⟨x,H1,I1,r1,q1⟩=>?_))
 refine Ji (KQ (AL (hi pins s1 σ H1 _ I1 q1) fun iv s2 ⟨y,H2,I2,r2,q2⟩=>?_))
 refine Ji (wpAny_standAt (Ji (KQ (AL (hs pins s2 σ H2 x y v ov iv u _ I2 r1 r2 r q2) fun _ s3 ⟨H3,I3,q3⟩=>?_))))
 exact wpAny_release ⟨σ,H3,I3,q3⟩
def sE(te:TE)(g:TG):TS:=fun D σ H=>te σ H fun x H1=>g x σ H1 D.nx
def pX{tg e:Expr}{te:TE}{g:TG}(he:PE X e te)(hg:PG X tg g)(hs:swapsWithSole [tg] e pos.line X.env=pure false:=by rfl)(hw:swappedStores [tg] e X.env=pure none:=by rfl)
  (h1:(assignEach [tg] X.env).map (·.2)=[assign tg X.env]:=by rfl):PS X (.Assign [tg] e pos) (sE te g):=by
 intro pins s σ H D I h
 refine wpAny_Assign_stores (AL (he pins s σ H _ I h) fun v s1 ⟨x,H1,I1,r1,q1⟩=>?_) hs hw
 rw[h1]
 exact AL (hg pins s1 σ H1 x v _ I1 r1 q1) fun _ s2 q=>q
def vg{i:Nat}{x:Str}{e:Expr}{te:TE}{pos':Pos}(hN:X.N.Nodup)(hi:X.N[i]?=some x)(hx:ux X.env.scope x)(he:PE X e te)(hs:swapsWith e (some (.Name x pos')) pos.line X.env=pure false:=by rfl)(hf:X.fn x=true\/X.env.scope.names.lookup x=some .local:=by first|exact .inl rfl|exact .inr rfl|assumption) :
  PS X (.Assign [.Name x pos'] e pos) (sE te (lI i)):=by
 intro pins s σ H D I h
 refine wpAny_Assign_Name (AL (he pins s σ H _ I h) fun v s1 ⟨y,H1,I1,r1,q1⟩=>?_) hs
 exact cZ I1 hN hi hx r1 (fun s2 I2=>⟨_,H1,I2,q1⟩) hf
def zf(i j:Nat)(ta:TA):TS:=fun D σ H=>ta σ H fun vs H1=>∃v w,vs=[v,w]/\D.nx ((σ.set i (some v)).set j (some w)) H1
def vh{i j:Nat}{x y:Str}{a b:Expr}{ta:TA}{px py pt:Pos}{kt k2 Ff}(hc:X.calm=true)(hN:X.N.Nodup)(hi:X.N[i]?=some x)(hj:X.N[j]?=some y)(hij:i≠j)
  (hx:X.env.scope.names.lookup x=some .local) (hy:X.env.scope.names.lookup y=some .local) (ha:PA X [a,b] ta)
  (hw:swappedStores [.Tuple [.Name x px,.Name y py] kt pt] (.Tuple [a,b] k2 Ff) X.env=pure (some [x,y]))
  (hs:swapsWithSole [.Tuple [.Name x px,.Name y py] kt pt] (.Tuple [a,b] k2 Ff) pos.line X.env=pure false:=by rfl) :
  PS X (.Assign [.Tuple [.Name x px,.Name y py] kt pt] (.Tuple [a,b] k2 Ff) pos) (zf i j ta):=by
 intro pins s σ H D I h
 rw[exec_Assign_arm]
 refine Ji (wpAny_standAt ?_)
 rw[hs]
 refine Ji (Jp ?_)
 rw[if_neg (by decide)]
 refine Ji (Tuple_ (AL (ha _ pins s σ H _ I h) fun us s1 ⟨vs,H1,I1,r1,q1⟩=>?_))
 obtain⟨v,w,e1,q1⟩:=q1
 subst e1
 obtain⟨u1,u2,rfl,rv,rw'⟩:∃u1 u2,us=[u1,u2]/\RelV v u1/\RelV w u2:=by
  cases r1 with
  |cons p q=>
   cases q with
   |cons p' q'=>
    cases q'
    exact⟨_,_,rfl,p,p'⟩
 refine Kf ?_ (by show 2<=sizeLine;decide)
 have I2:Inv X pins σ H1 { s1 with heap:=s1.heap.push { cls:=.type "tuple",data:=.seq [u1,u2].toArray } }:=I1.kept (t':=s1.toks) fun b o e=>Jl _ e
 rw[hw]
 refine Ji (Jp ?_)
 show wpAny (model X.prog X.w) X.A (do rule "assign.swapped-stores"; let items <-unpackItems (.ref s1.heap.objs.size) 2 none;assignInOrder [fun v=>bindName X.env y v,fun v=>bindName X.env x v] items.reverse;pure Flow.next) _ _ _
 refine Ji (L0 (Ji (unpackItems_tuple (items:=#[u1,u2]) (I.ok.hd hc) (IsTup.new s1.heap _) fun h' hx'=>?_)))
 have I3:=I2.kept (h':=h') (t':=s1.toks) fun b o e=>hx' b o (JL (Jr e)) e
 show wpAny _ _ (assignInOrder [fun v=>bindName X.env y v,fun v=>bindName X.env x v] [u2,u1] >>= fun _=>pure Flow.next) _ _ _
 refine Ji (K8 (L8 (cZ I3 hN hj (.inl hy) rw' (fun s2 I4=>?_) (.inr hy))))
 refine K8 (L8 (cZ I4 hN hi (.inl hx) rv (fun s3 I5=>assignInOrder_nil (Jp ?_)) (.inr hx)))
 rw[List.set_comm _ _ (Lc hij)]at I5
 exact⟨_,H1,I5,q1⟩
end
section
variable {X:Cx} {pos:Pos}
def vi(c:TT)(tb:TS):TS:=fun D σ H=>∃W:Nat->St->Hp->Prop,(∃m,W m σ H)/\∀m σ H,W m σ H->
 c σ H fun b H1=>if b=true then ∃N:St->Hp->Prop,(∀σ' H',N σ' H'->∃m',m' < m/\W m' σ' H')/\tb { D with nx:=N,ct:=N,bk:=D.nx } σ H1 else D.nx σ H1
def pY{c:Expr}{body:List Stmt}{tc:TT}{tb:TS}(hp:PassesOwn (model X.prog X.w) X.A X.env X.xe)(hc:PT X c tc)(hb:Dx X body tb):PS X (.While c body [] pos) (vi tc tb):=by
 intro pins s σ H D I h
 obtain⟨W,⟨m0,w0⟩,turn⟩:=h
 refine wpAny_While (codeAny_whileLoop (fun n s'=>∃σ' H',Inv X pins σ' H' s'/\W n σ' H') ?_ m0 ⟨σ,H,I,w0⟩)
 rintro n s1 ⟨σ1,H1,I1,w1⟩
 refine Le hp (AL (hc pins s1 σ1 H1 _ I1 (turn n σ1 H1 w1)) fun b s2 ⟨H2,I2,q2⟩=>?_)
 cases b with
 |true=>
  obtain⟨N,hN,q2⟩:=q2
  rw[if_pos rfl]
  refine Le hp (AL (hb pins s2 σ1 H2 _ I2 q2) fun f s3 q3=>?_)
  cases f with
  |next=>
   obtain⟨σ3,H3,I3,n3⟩:=q3
   obtain⟨m',hm,w3⟩:=hN σ3 H3 n3
   exact⟨m',hm,σ3,H3,I3,w3⟩
  |cont=>
   obtain⟨σ3,H3,I3,n3⟩:=q3
   obtain⟨m',hm,w3⟩:=hN σ3 H3 n3
   exact⟨m',hm,σ3,H3,I3,w3⟩
  |brk=>exact q3
  |ret v=>exact q3
 |false=>
  rw[if_neg JH]
  exact Mw ⟨σ1,H2,I2,q2⟩
end
structure It where
 go:Nat->Hp->Prop
 F4:Nat->Hp->V->Hp->Prop
 stop:Nat->Hp->Prop
def dR(X:Cx)(pins:Va)(H:Hp)(b:Addr):Prop:=
 H b=none/\b≠X.env.locals/\b ∉ X.fs/\(b∈X.ex\/X.s₀.heap.objs.size<=b)/\(∀x c,X.env.cells.lookup x=some c->c≠b)/\∀p∈X.pn++pins,p.1≠b
def Inv.Cw{X:Cx}{pins:Va}{σ:St}{H H':Hp}{s:Shared}{b:Addr}(I:Inv X pins σ H s)(hb:s.heap.objs.size<=b)(hn:H' b=none):dR X pins H' b:=by
 refine⟨hn,LK (JC I.lt hb),I.FI hb,.inr (Jw I.sz hb),fun x c e z=>?_,fun p hp z=>?_⟩
 ·obtain⟨v,q⟩:=I.cell x c e
  exact absurd (JC q.lt (by rw[z];exact hb)) (KP _)
 ·exact absurd (JC (Jr (I.pin p hp).1) (by rw[z];exact hb)) (KP _)
structure kR (P:Program) (w:World) (K:Vo) (tg:Expr) (J:It) (fp:List Addr) (it:Addr) (tn:Nat->Heap->Prop):Prop where
 mem:it∈fp
 obj:∀i h,tn i h->∀b∈fp,∃o,h.get? b=some o/\∀v,o.data ≠ .cell v
 keep:∀i h h',tn i h->(∀b∈fp,∀o,h.get? b=some o->h'.get? b=some o)->tn i h'
 item:∀(X:Cx),X.prog=P->X.w=w->X.K=K->X.calm=true->∀(i:Nat) (pins:Va) (s:Shared) (σ:St) (H:Hp) (E:Vq),Inv X pins σ H s->(∀b∈fp,dR X pins H b)->tn i s.heap->J.go i H->
  wpAny (model P w) X.A (pyNext (.ref it)) (fun r s1=>∃u,r=some u/\
   wpAny (model P w) X.A (letOwnedTupleGo tg (.ref it) u) (fun _ s2=>∃x H',Inv X pins σ H' s2/\RelV x u/\J.F4 i H x H'/\tn (i+1) s2.heap/\∀b∈fp,H' b=none) E s1) E s
 done:∀(X:Cx),X.prog=P->X.w=w->X.K=K->X.calm=true->∀(i:Nat) (pins:Va) (s:Shared) (σ:St) (H:Hp) (E:Vq),Inv X pins σ H s->(∀b∈fp,dR X pins H b)->tn i s.heap->J.stop i H->
  wpAny (model P w) X.A (pyNext (.ref it)) (fun r s1=>r=none/\Inv X pins σ H s1) E s
 self:∀(A:Around) (i:Nat) (s:Shared) (Q:Vq) (E:Vq),tn i s.heap->Q (.ref it) s->wpAny (model P w) A (pyIter (.ref it)) Q E s
abbrev TI:=St->Hp->(It->Hp->Prop)->Prop
def zg(X:Cx)(pins:Va)(σ:St)(tg:Expr)(R:It->Hp->Prop)(itv:Value)(s2:Shared):Prop:=
 ∃(it:Addr) (fp:List Addr) (tn:Nat->Heap->Prop) (J:It) (H':Hp),itv = .ref it/\Inv X pins σ H' s2/\kR X.prog X.w X.K tg J fp it tn/\tn 0 s2.heap/\(∀b∈fp,dR X pins H' b)/\R J H'
def PI(X:Cx)(tg iter:Expr)(wi:TI):Prop:=
 ∀(pins:Va) (s:Shared) (σ:St) (H:Hp) (R:It->Hp->Prop),Inv X pins σ H s->wi σ H R->
  wpAny (model X.prog X.w) X.A (eval iter X.env) (fun v s1=>wpAny (model X.prog X.w) X.A (pyIter v) (zg X pins σ tg R) X.xe s1) X.xe s
def nE {M : Model} {A : Around} {E : Value -> Shared -> Prop} {s : Shared} {tg : Expr} {it : Addr} {u : Value} {o : Obj} {n : String} {vs : Array Value} {Q : Unit -> Shared -> Prop} (ho : s.heap.get? it = some o) (hc : o.cls = .type n) (hd : o.data = .fields vs)
    (hn : ["enumerate", "zip", "dict_itemiterator", "dict_reverseitemiterator", "odict_iterator", "itertools.zip_longest", "itertools.pairwise"].contains n = false) (hQ : Q () s) : wpAny M A (letOwnedTupleGo tg (.ref it) u) Q E s := by
  unfold letOwnedTupleGo
  cases tg <;> first
    | exact Jp hQ
    | (cases u <;> first
        | exact Jp hQ
        | (refine Ji (wpAny_load ho ?_)
           rw [hc, hd]
           show wpAny M A (if (["enumerate", "zip", "dict_itemiterator", "dict_reverseitemiterator", "odict_iterator", "itertools.zip_longest", "itertools.pairwise"].contains n && vs[0]? == some (rawInt _)) = true then _ else _) Q E s
           rw [if_neg (by intro h; rw [hn, Bool.false_and] at h; cases h)]
           exact Jp hQ))
noncomputable def yJ(K:Vo)(a:Addr):It:=
 ⟨fun i H=>∃xs x,SqL K H a xs/\xs[i]?=some x,fun i H x H'=>H'=H/\∀xs,SqL K H a xs->xs[i]?=some x,fun i H=>∃xs,SqL K H a xs/\xs.length<=i⟩
noncomputable def zh(K:Vo)(a:Addr):It:=
 ⟨fun i H=>∃xs x,SqT K H a xs/\xs[i]?=some x,fun i H x H'=>H'=H/\∀xs,SqT K H a xs->xs[i]?=some x,fun i H=>∃xs,SqT K H a xs/\xs.length<=i⟩
noncomputable def yK(lo:Int)(n:Nat):It:=⟨fun i _=>i < n,fun i H x H'=>H'=H/\x = .int (lo+i),fun i _=>n<=i⟩
def ox{P:Program}{w:World}{K:Vo}{tg:Expr}(a it:Addr):kR P w K tg (yJ K a) [it] it (fun i h=>h.IsListIter it a i) where
 mem:=by simp
 obj:=fun i h st b hb=>by
  have e:b=it:=by simpa using hb
  subst e
  obtain⟨o,e,c,d⟩:=st
  exact⟨o,e,fun v z=>by rw[d]at z;cases z⟩
 keep:=fun i h h' st k=>st.at fun o e=>k it (by simp) o e
 item:=by
  intro X hP hw hK hc i pins s σ H E I hf st hg
  subst hP hw hK
  obtain⟨xs,x,hq,hx⟩:=hg
  obtain⟨its,rv,p,hz⟩:=I.list hq
  obtain⟨u,hu,ru⟩:=rv.get hx
  obtain⟨f0,f1,f2,f3,f4,f5⟩:=hf it (by simp)
  refine wpAny_pyNext_list_item st p.isList (x:=u) (by simpa using hu) fun h' st' sb=>?_
  have I1:Inv X pins σ H { s with heap:=h' }:=I.turned (t':=s.toks) (fun b o hb e=>(sb.2 b hb).trans e) f0 f1 f3 f4 f5
  obtain⟨o,e,c,d⟩:=id st'
  exact⟨u,rfl,nE (s:={ s with heap:=h' }) e c d (by decide) ⟨x,H,I1,ru,⟨rfl,fun ys hy=>by rw[I.CW hy hq];exact hx⟩,st',fun b hb=>(hf b hb).1⟩⟩
 done:=by
  intro X hP hw hK hc i pins s σ H E I hf st hg
  subst hP hw hK
  obtain⟨xs,hq,hx⟩:=hg
  obtain⟨its,rv,p,hz⟩:=I.list hq
  obtain⟨f0,f1,f2,f3,f4,f5⟩:=hf it (by simp)
  have hl:=rv.length
  exact wpAny_pyNext_list_end (I.ok.hd hc) st p.isList (by simp;omega) fun h' eb=>⟨rfl,I.turned (t':=s.toks) (fun b o hb e=>eb b o hb e) f0 f1 f3 f4 f5⟩
 self:=fun _ _ _ _ _ st h=>wpAny_pyIter_listiter st h
def mF{P:Program}{w:World}{K:Vo}{tg:Expr}(a it:Addr):kR P w K tg (zh K a) [it] it (fun i h=>h.IsTupleIter it a i) where
 mem:=by simp
 obj:=fun i h st b hb=>by
  have e:b=it:=by simpa using hb
  subst e
  obtain⟨o,e,c,d⟩:=st
  exact⟨o,e,fun v z=>by rw[d]at z;cases z⟩
 keep:=fun i h h' st k=>st.at fun o e=>k it (by simp) o e
 item:=by
  intro X hP hw hK hc i pins s σ H E I hf st hg
  subst hP hw hK
  obtain⟨xs,x,hq,hx⟩:=hg
  obtain⟨its,rv,p,hz⟩:=I.tuple hq
  obtain⟨u,hu,ru⟩:=rv.get hx
  obtain⟨f0,f1,f2,f3,f4,f5⟩:=hf it (by simp)
  refine wpAny_pyNext_tuple_item st (show s.heap.IsTuple a its.toArray from p) (x:=u) (by simpa using hu) fun h' st' sb=>?_
  have I1:Inv X pins σ H { s with heap:=h' }:=I.turned (t':=s.toks) (fun b o hb e=>(sb.2 b hb).trans e) f0 f1 f3 f4 f5
  obtain⟨o,e,c,d⟩:=id st'
  exact⟨u,rfl,nE (s:={ s with heap:=h' }) e c d (by decide) ⟨x,H,I1,ru,⟨rfl,fun ys hy=>by rw[I.CC hy hq];exact hx⟩,st',fun b hb=>(hf b hb).1⟩⟩
 done:=by
  intro X hP hw hK hc i pins s σ H E I hf st hg
  subst hP hw hK
  obtain⟨xs,hq,hx⟩:=hg
  obtain⟨its,rv,p,hz⟩:=I.tuple hq
  obtain⟨f0,f1,f2,f3,f4,f5⟩:=hf it (by simp)
  have hl:=rv.length
  exact wpAny_pyNext_tuple_end (I.ok.hd hc) st (show s.heap.IsTuple a its.toArray from p) (by simp;omega) fun h' eb=>⟨rfl,I.turned (t':=s.toks) (fun b o hb e=>eb b o hb e) f0 f1 f3 f4 f5⟩
 self:=fun _ _ _ _ _ st h=>wpAny_pyIter_tupleiter st h
def mG{P:Program}{w:World}{K:Vo}{tg:Expr}(it:Addr)(lo:Int)(n:Nat):kR P w K tg (yK lo n) [it] it (fun i h=>IsRangeIter h it (lo+(i:Nat) * 1) ((n:Int) - (i:Nat)) 1) where
 mem:=by simp
 obj:=fun i h st b hb=>by
  have e:b=it:=by simpa using hb
  subst e
  exact⟨_,st,fun v z=>by
   have z':Data.fields _=Data.cell v:=z
   cases z'⟩
 keep:=fun i h h' st k=>k it (by simp) _ st
 item:=by
  intro X hP hw hK hc i pins s σ H E I hf st hg
  subst hP hw hK
  obtain⟨f0,f1,f2,f3,f4,f5⟩:=hf it (by simp)
  have W:=Walks.range (prog:=X.prog) (w:=X.w) (I.ok.hd hc) it lo 1 n
  refine W.item i s _ _ hg st fun v h' tk hv st' kk=>?_
  obtain⟨t,rfl⟩:=hv
  have I1:Inv X pins σ H { s with heap:=h',toks:=tk }:=I.turned (fun b o hb e=>kk b o (by simpa using hb) e) f0 f1 f3 f4 f5
  refine⟨_,rfl,nE (s:={ s with heap:=h',toks:=tk }) (n:="range_iterator") st' rfl rfl (by decide) ⟨.int (lo+i),H,I1,⟨t,?_⟩,⟨rfl,rfl⟩,st',fun b hb=>(hf b hb).1⟩⟩
  rw[Int.mul_one]
 done:=by
  intro X hP hw hK hc i pins s σ H E I hf st hg
  subst hP hw hK
  obtain⟨f0,f1,f2,f3,f4,f5⟩:=hf it (by simp)
  exact wpAny_pyNext_range_end (I.ok.hd hc) st (by have:n<=i:=hg;omega) fun h' eb=>⟨rfl,I.turned (t':=s.toks) (fun b o hb e=>eb b o hb e) f0 f1 f3 f4 f5⟩
 self:=fun _ _ _ _ _ st h=>wpAny_pyIter_rangeiter st h
section
variable {X:Cx} {tg:Expr}
def pZ{pins:Va}{σ:St}{H:Hp}{s:Shared}{R:It->Hp->Prop}{E:Vq}{lo hi:Int}{t u v:Tok}{tk:Nat}(I:Inv X pins σ H s)(h1:-(2 ^ 62)<=lo)(h2:lo < 2 ^ 62)(h3:-(2 ^ 62)<=hi)(h4:hi < 2 ^ 62)
  (q:R (yK lo (hi - lo).toNat) H):wpAny (model X.prog X.w) X.A (pyIter (.ref s.heap.objs.size)) (zg X pins σ tg R) E { s with heap:=s.heap.push { cls:=.type "range",data:=.fields #[.int lo t,.int hi u,.int 1 v] },toks:=tk }:=by
 refine wpAny_pyIter_range (IsRange.new ..) (small_one h1 h2 h3 h4) ?_
 have I1:Inv X pins σ H { s with heap:=s.heap.push { cls:=.type "range",data:=.fields #[.int lo t,.int hi u,.int 1 v] },toks:=tk }:=I.kept fun b o e=>Jl _ e
 refine⟨(s.heap.push { cls:=.type "range",data:=.fields #[.int lo t,.int hi u,.int 1 v] }).objs.size,[(s.heap.push { cls:=.type "range",data:=.fields #[.int lo t,.int hi u,.int 1 v] }).objs.size],_,_,H,rfl,
  I1.kept (t':=tk) fun b o e=>Jl _ e,mG _ lo (hi - lo).toNat,?_,fun b hb=>?_,q⟩
 ·have e1:lo+((0:Nat):Int) * 1=lo:=by simp
  have e2:(((hi - lo).toNat:Nat):Int) - ((0:Nat):Int)=Builtin.Range.rangeSize lo hi 1:=by rw[rangeSize_one];split<;>omega
  show IsRangeIter _ _ (lo+((0:Nat):Int) * 1) ((((hi - lo).toNat:Nat):Int) - ((0:Nat):Int)) 1
  rw[e1,e2]
  exact JA _ rfl
 ·have e:b=(s.heap.push { cls:=.type "range",data:=.fields #[.int lo t,.int hi u,.int 1 v] }).objs.size:=by simpa using hb
  subst e
  exact I1.Cw (Jm _) (I1.hok.fresh (Jm _))
def xv(ta:TA):TI:=fun σ H R=>ta σ H fun vs H1=>∃j:Int,vs=[.int j]/\-(2 ^ 62)<=j/\j < 2 ^ 62/\R (yK 0 j.toNat) H1
def oy{a:Expr}{ta:TA}{p pos:Pos}(hg:Gl X "range")(hm:X.mg "range" = none)(ha:PA X [a] ta)(hs:starEach [a] X.env=[(false,eval a X.env)]:=by rfl):PI X tg (.Call (.Name "range" p) [a] [] pos) (xv ta):=by
 intro pins s σ H R I h
 refine Call_ (dF I hg hm boot_range (JU (AL (ha pos pins s σ H _ I h) fun us s1 ⟨vs,H1,I1,r1,q1⟩=>?_) hs rfl))
 obtain⟨j,e,q1,q2,q⟩:=q1
 subst e
 cases r1 with
 |cons r rr=>
  cases rr
  obtain⟨t,rfl⟩:=r
  exact call_range_1 (pZ I1 (by omega) (by omega) q1 q2 (by simpa using q))
def zi(wi:TI)(g:TG)(tb:TS):TS:=fun D σ H=>wi σ H fun J H1=>∃W:Nat->Nat->St->Hp->Prop,(∃m,W 0 m σ H1)/\∀i m σ H,W i m σ H->
 (J.stop i H/\D.nx σ H)\/(J.go i H/\∃N:St->Hp->Prop,(∀σ' H',N σ' H'->∃m',m' < m/\W (i+1) m' σ' H')/\∀x H',J.F4 i H x H'->g x σ H' fun σ2 H2=>tb { D with nx:=N,ct:=N,bk:=D.nx } σ2 H2)
noncomputable def i9(fp:List Addr)(h:Heap):List (Addr×Obj):=fp.filterMap fun b=>(h.get? b).map fun o=>(b,o)
def fT{fp:List Addr}{h:Heap}{b:Addr}{o:Obj}(hb:b∈fp)(e:h.get? b=some o):(b,o)∈i9 fp h:=List.mem_filterMap.mpr ⟨b,hb,by rw[e];rfl⟩
def oz{fp:List Addr}{h:Heap}{p:Addr×Obj}(hp:p∈i9 fp h):p.1∈fp/\h.get? p.1=some p.2:=by
 obtain⟨b,hb,e⟩:=List.mem_filterMap.mp hp
 cases q:h.get? b with
 |none=>rw[q]at e;cases e
 |some o=>
  rw[q]at e
  have e':(b,o)=p:=Kc e
  subst e'
  exact⟨hb,q⟩
def Inv.pinned{pins:Va}{σ:St}{H:Hp}{s:Shared}{fp:List Addr}(I:Inv X pins σ H s)(hf:∀b∈fp,dR X pins H b)(ho:∀b∈fp,∃o,s.heap.get? b=some o/\∀v,o.data ≠ .cell v):Inv X (pins++i9 fp s.heap) σ H s:=
 I.CQ fun p hp=>(Ju.mp hp).elim (fun z=>I.pin p (JS _ z)) fun z=>by
  obtain⟨hb,e⟩:=oz z
  obtain⟨f0,f1,f2,_⟩:=hf p.1 hb
  obtain⟨o,e',d⟩:=ho p.1 hb
  rw[e]at e';cases e'
  exact⟨e,f0,f1,f2,d⟩
def Inv.Cy{pins pl:Va}{σ:St}{H:Hp}{s:Shared}(I:Inv X (pins++pl) σ H s):Inv X pins σ H s:=I.CQ fun p hp=>I.pin p (JS _ (Lf _ hp))
def vj{iter:Expr}{body:List Stmt}{wi:TI}{g:TG}{tb:TS}{pos:Pos}(hp:PassesOwn (model X.prog X.w) X.A X.env X.xe)(hc:X.calm=true)(hi:PI X tg iter wi)(hg:PG X tg g)(hb:Dx X body tb)
  (hs:∀x,foldedSetIterable iter X.env x=pure x:=by intro _;rfl):PS X (.For tg iter body [] pos) (zi wi g tb):=by
 intro pins s σ H D I h
 refine wpAny_For (AL (hi pins s σ H _ I h) fun v s1 h1=>AL h1 fun itv s2 h2=>?_) hs
 obtain⟨it,fp,tn,J,H2,e,I2,T,st2,f2,W,⟨m0,w0⟩,turn⟩:=h2
 subst e
 -- what stays true of the iterator's objects through the loop
 have stat:∀{H':Hp},(∀b∈fp,H' b=none)->∀b∈fp,dR X pins H' b:=fun hn b hb=>⟨hn b hb,(f2 b hb).2⟩
 refine codeAny_forLoop_any (fun n s'=>∃i σ' H',Inv X pins σ' H' s'/\tn i s'.heap/\(∀b∈fp,H' b=none)/\W i n σ' H') ?_ m0 ⟨0,σ,H2,I2,st2,fun b hb=>(f2 b hb).1,w0⟩
 rintro n s3 ⟨i,σ3,H3,I3,st3,Ho,w3⟩
 rcases turn i n σ3 H3 w3 with⟨stop,qn⟩|⟨go,N,hN,step⟩
 ·refine Le hp (AL (T.done X rfl rfl rfl hc i pins s3 σ3 H3 X.xe I3 (stat Ho) st3 stop) fun r s4 ⟨hr,I4⟩=>?_)
  subst hr
  exact Mw ⟨σ3,H3,I4,qn⟩
 ·refine Le hp (AL (T.item X rfl rfl rfl hc i pins s3 σ3 H3 X.xe I3 (stat Ho) st3 go) fun r s4 ⟨u,hr,h4⟩=>?_)
  subst hr
  refine Le hp (AL h4 fun _ s5 ⟨x,H5,I5,r5,y5,EJ,Gw⟩=>?_)
  have Gx:=I5.pinned (stat Gw) (T.obj _ _ EJ)
  refine Le hp (AL (hg _ s5 σ3 H5 x u _ Gx r5 (step x H5 y5)) fun _ s6 ⟨σ6,H6,I6,q6⟩=>?_)
  refine Le hp (AL (hb _ s6 σ6 H6 _ I6 q6) fun f s7 q7=>?_)
  have again:∀{σ7:St} {H7:Hp},Inv X (pins++i9 fp s5.heap) σ7 H7 s7->N σ7 H7->∃m,m < n/\∃i σ' H',Inv X pins σ' H' s7/\tn i s7.heap/\(∀b∈fp,H' b=none)/\W i m σ' H':=fun{σ7 H7} I7 n7=>by
   obtain⟨m',hm,w7⟩:=hN σ7 H7 n7
   refine⟨m',hm,i+1,σ7,H7,I7.Cy,T.keep _ _ _ EJ fun b hb o e=>(I7.pin (b,o) (JS _ (JS _ (fT hb e)))).1,fun b hb=>?_,w7⟩
   obtain⟨o,e,d⟩:=T.obj _ _ EJ b hb
   exact(I7.pin (b,o) (JS _ (JS _ (fT hb e)))).2.1
  cases f with
  |next=>obtain⟨σ7,H7,I7,n7⟩:=q7;exact again I7 n7
  |cont=>obtain⟨σ7,H7,I7,n7⟩:=q7;exact again I7 n7
  |brk=>obtain⟨σ7,H7,I7,q7⟩:=q7;exact⟨σ7,H7,I7.Cy,q7⟩
  |ret v=>obtain⟨x7,σ7,H7,I7,r7,q7⟩:=q7;exact⟨x7,σ7,H7,I7.Cy,r7,q7⟩
end
abbrev R2:=V->V->Hp->VK->Prop
def gq(X:Cx)(f:Value->Value->Sem Value)(r:R2):Prop:=
 ∀(pins:Va) (s:Shared) (σ:St) (H:Hp) (x y:V) (v u:Value) (Q:VK),Inv X pins σ H s->RelV x v->RelV y u->r x y H Q->
  wpAny (model X.prog X.w) X.A (f v u) (EP X pins σ Q) X.xe s
def yL(X:Cx)(f:Value->Sem Value)(r:V->Hp->VK->Prop):Prop:=
 ∀(pins:Va) (s:Shared) (σ:St) (H:Hp) (x:V) (v:Value) (Q:VK),Inv X pins σ H s->RelV x v->r x H Q->
  wpAny (model X.prog X.w) X.A (f v) (EP X pins σ Q) X.xe s
def fI(X:Cx)(f:Value)(r:List V->Hp->VK->Prop):Prop:=
 ∀(pins:Va) (s:Shared) (σ:St) (H:Hp) (xs:List V) (us:Vv) (Q:VK),Inv X pins σ H s->Vals xs us->r xs H Q->
  wpAny (model X.prog X.w) X.A (call f us) (EP X pins σ Q) X.xe s
def xx(r:R2)(ta tb:TE):TE:=fun σ H Q=>ta σ H fun x H1=>tb σ H1 fun y H2=>r x y H2 Q
def Ai(r:V->Hp->VK->Prop)(ta:TE):TE:=fun σ H Q=>ta σ H fun x H1=>r x H1 Q
def rI(C:Int->Int->Prop)(g:Int->Int->V):R2:=fun x y H Q=>∃i j,x = .int i/\y = .int j/\C i j/\Q (g i j) H
def sF(g:Int->Int->V):R2:=fun x y H Q=>∃i j,x = .int i/\y = .int j/\Q (g i j) H
noncomputable def rU(g:Int->V):V->Hp->VK->Prop:=fun x H Q=>∃i,x = .int i/\Q (g i) H
section
variable {X:Cx} {a b c:Expr} {ta tb tc:TE} {pos:Pos}
def vk(ha:PE X a ta)(hb:PE X b tb){pins:Va}{s:Shared}{σ:St}{H:Hp}{R:V->V->Hp->Prop}(I:Inv X pins σ H s)
  (h:ta σ H fun x H1=>tb σ H1 fun y H2=>R x y H2) {Q:Vq} {f:Value->Value->Sem Value}
  (hf:∀v u s2 x y H2,Inv X pins σ H2 s2->RelV x v->RelV y u->R x y H2->wpAny (model X.prog X.w) X.A (f v u) Q X.xe s2) :
  wpAny (model X.prog X.w) X.A (eval a X.env) (fun v s₁=>wpAny (model X.prog X.w) X.A (eval b X.env) (fun u s₂=>wpAny (model X.prog X.w) X.A (f v u) Q X.xe s₂) X.xe s₁) X.xe s:=by
 refine AL (ha pins s σ H _ I h) fun v s1 ⟨x,H1,I1,r1,q1⟩=>?_
 refine AL (hb pins s1 σ H1 _ I1 q1) fun u s2 ⟨y,H2,I2,r2,q2⟩=>?_
 exact hf v u s2 x y H2 I2 r1 r2 q2
def xy{op:Operator}{r:R2}(ho:gq X (binaryOp op) r)(ha:PE X a ta)(hb:PE X b tb):PE X (.BinOp a op b pos) (xx r ta tb):=by
 intro pins s σ H Q I h
 exact wpAny_BinOp (vk ha hb I h fun v u s2 x y H2 I2 rx ry q=>ho pins s2 σ H2 x y v u Q I2 rx ry q)
def xz{op:UnaryOp}{r:V->Hp->VK->Prop}(ho:yL X (unaryOp op) r)(ha:PE X a ta):PE X (.UnaryOp op a pos) (Ai r ta):=by
 intro pins s σ H Q I h
 exact UnaryOp_ (AL (ha pins s σ H _ I h) fun v s1 ⟨x,H1,I1,r1,q1⟩=>ho pins s1 σ H1 x v Q I1 r1 q1)
def yM{f:Value->Value->Sem Value}{C:Int->Int->Prop}{g:Int->Int->Int}
  (rule:∀(i j:Int) (t u:Tok) (s:Shared) (Q:Vq) (E:Vq),C i j->Q (.int (g i j) s.toks) { s with toks:=s.toks+1 }->wpAny (model X.prog X.w) X.A (f (.int i t) (.int j u)) Q E s) :
  gq X f (rI C fun i j=>.int (g i j)):=by
 intro pins s σ H x y v u Q I rx ry h
 obtain⟨i,j,rfl,rfl,hc,q⟩:=h
 obtain⟨t,rfl⟩:=rx
 obtain⟨t',rfl⟩:=ry
 exact rule i j t t' s _ _ hc ⟨.int (g i j),H,I.tok _,⟨_,rfl⟩,q⟩
def xA{f:Value->Value->Sem Value}{g:Int->Int->Int}
  (rule:∀(i j:Int) (t u:Tok) (s:Shared) (Q:Vq) (E:Vq),Q (.int (g i j) s.toks) { s with toks:=s.toks+1 }->wpAny (model X.prog X.w) X.A (f (.int i t) (.int j u)) Q E s) :
  gq X f (sF fun i j=>.int (g i j)):=by
 intro pins s σ H x y v u Q I rx ry h
 obtain⟨i,j,rfl,rfl,q⟩:=h
 obtain⟨t,rfl⟩:=rx
 obtain⟨t',rfl⟩:=ry
 exact rule i j t t' s _ _ ⟨.int (g i j),H,I.tok _,⟨_,rfl⟩,q⟩
def vm{f:Value->Value->Sem Value}{g:Int->Int->Bool}
  (rule:∀(i j:Int) (t u:Tok) (s:Shared) (Q:Vq) (E:Vq),Q (.bool (g i j)) s->wpAny (model X.prog X.w) X.A (f (.int i t) (.int j u)) Q E s) :
  gq X f (sF fun i j=>.bl (g i j)):=by
 intro pins s σ H x y v u Q I rx ry h
 obtain⟨i,j,rfl,rfl,q⟩:=h
 obtain⟨t,rfl⟩:=rx
 obtain⟨t',rfl⟩:=ry
 exact rule i j t t' s _ _ ⟨.bl (g i j),H,I,rfl,q⟩
def vn(i j:Int):Prop:=0<=j/\j<=1000000/\i.natAbs < 2 ^ 64
def EK(i j:Int):Prop:=(-(2 ^ 64) < i/\i < 2 ^ 64)\/(-(2 ^ 64) < j/\j < 2 ^ 64)
def EK.ok{i j:Int}(h:EK i j):IntMulOk i j:=by
 rcases h with⟨h1,h2⟩|⟨h1,h2⟩
 ·exact .of_left (intBits_le_64 h1 h2)
 ·exact .of_right (intBits_le_64 h1 h2)
def vo:gq X (binaryOp .Add) (sF fun i j=>.int (i+j)):=xA fun _ _ _ _ _ _ _ q=>add_int q
def vp:gq X (binaryOp .Sub) (sF fun i j=>.int (i - j)):=xA fun _ _ _ _ _ _ _ q=>sub_int q
def sG:gq X (binaryOp .Mod) (rI (fun _ j=>j≠0) fun i j=>.int (i.fmod j)):=yM fun _ _ _ _ _ _ _ hc q=>mod_int' hc q
def vq:gq X (binaryOp .Pow) (rI vn fun i j=>.int (i ^ j.toNat)):=yM fun _ _ _ _ _ _ _ hc q=>pow_int_small hc.1 hc.2.1 hc.2.2 q
def Aj{f:Value->Sem Value}{g:Int->Int}
  (rule:∀(i:Int) (t:Tok) (s:Shared) (Q:Vq) (E:Vq),Q (.int (g i) s.toks) { s with toks:=s.toks+1 }->wpAny (model X.prog X.w) X.A (f (.int i t)) Q E s) :
  yL X f (rU fun i=>.int (g i)):=by
 intro pins s σ H x v Q I rx h
 obtain⟨i,rfl,q⟩:=h
 obtain⟨t,rfl⟩:=rx
 exact rule i t s _ _ ⟨.int (g i),H,I.tok _,⟨_,rfl⟩,q⟩
def vt:yL X (unaryOp .USub) (rU fun i=>.int (-i)):=Aj fun _ _ _ _ _ q=>neg_int q
end
noncomputable def xB:V->V->Bool
 | .non,.non=>true | .non,.int _=>true | .int _,.non=>true | .non,.bl _=>true | .bl _,.non=>true | .non,.str _=>true | .str _,.non=>true
 | .int _,.int _=>true | .bl _,.bl _=>true | .str _,.str _=>true | .Eh _,.Eh _=>true
 | .int _,.str _=>true | .str _,.int _=>true | .bl _,.str _=>true | .str _,.bl _=>true
 |_,_=>false
def Ak:R2:=fun x y H Q=>xB x y=true/\Q (.bl (decide (x=y))) H
def Al:R2:=fun x y H Q=>xB x y=true/\Q (.bl (!decide (x=y))) H
def nF{i j:Int}:decide (V.int i=V.int j)=(i == j):=by
 rw[Lu]
 simp
def p5{i j:Bool}:decide (V.bl i=V.bl j)=(i == j):=by
 rw[Lu]
 simp
def nG{i j:Str}:decide (V.str i=V.str j)=(i == j):=by
 rw[Lu]
 simp
def nH{i j:Array UInt8}:decide (V.Eh i=V.Eh j)=(i.toList == j.toList):=by
 rw[Lu]
 cases i
 cases j
 simp
section
variable {X:Cx} {a b c:Expr} {ta tb tc:TE} {pos:Pos}
def aN{pins:Va}{σ:St}{H:Hp}{s:Shared}{Q:VK}{k k':Bool}(I:Inv X pins σ H s)(q:Q (.bl k) H)(e:k=k'):EP X pins σ Q (.bool k') s:=by
 subst e
 exact⟨.bl k,H,I,rfl,q⟩
def p7:gq X (compareOp .Eq) Ak:=by
 intro pins s σ H x y v u Q I rx ry h
 obtain⟨hs,q⟩:=h
 cases x with
 |non=>
  cases rx
  cases y with
  |non=>cases ry;exact PySem.EqNone.eq_none_none (aN I q (by simp))
  |bl j=>cases ry;exact PySem.EqNone.eq_none_bool (aN I q (by simp))
  |int j=>obtain⟨t',rfl⟩:=ry;exact PySem.EqNone.eq_none_int (aN I q (by simp))
  |str j=>obtain⟨t',rfl⟩:=ry;exact PySem.EqNone.eq_none_str (aN I q (by simp))
  |_=>exact absurd (show false=true from hs) JH
 |bl i=>
  cases rx
  cases y with
  |non=>cases ry;exact PySem.EqNone.eq_bool_none (aN I q (by simp))
  |bl j=>cases ry;exact eq_bool (aN I q p5)
  |str j=>obtain⟨t',rfl⟩:=ry;exact PySem.EqMixed.eq_bool_str (aN I q (by simp))
  |_=>exact absurd (show false=true from hs) JH
 |int i=>
  obtain⟨t,rfl⟩:=rx
  cases y with
  |non=>cases ry;exact PySem.EqNone.eq_int_none (aN I q (by simp))
  |int j=>obtain⟨t',rfl⟩:=ry;exact eq_int (aN I q nF)
  |str j=>obtain⟨t',rfl⟩:=ry;exact PySem.EqMixed.eq_int_str (aN I q (by simp))
  |_=>exact absurd (show false=true from hs) JH
 |str i=>
  obtain⟨t,rfl⟩:=rx
  cases y with
  |non=>cases ry;exact PySem.EqNone.eq_str_none (aN I q (by simp))
  |bl j=>cases ry;exact PySem.EqMixed.eq_str_bool (aN I q (by simp))
  |int j=>obtain⟨t',rfl⟩:=ry;exact PySem.EqMixed.eq_str_int (aN I q (by simp))
  |str j=>obtain⟨t',rfl⟩:=ry;exact eq_str (aN I q nG)
  |_=>exact absurd (show false=true from hs) JH
 |Eh i=>
  obtain⟨t,rfl⟩:=rx
  cases y with
  |Eh j=>obtain⟨t',rfl⟩:=ry;exact PySem.W.eq_bytes (aN I q nH)
  |_=>exact absurd (show false=true from hs) JH
 |_=>cases y<;>exact absurd (show false=true from hs) JH
def p8:gq X (compareOp .NotEq) Al:=by
 intro pins s σ H x y v u Q I rx ry h
 obtain⟨hs,q⟩:=h
 cases x with
 |non=>
  cases rx
  cases y with
  |non=>cases ry;exact PySem.EqNone.ne_none_none (aN I q (by simp))
  |bl j=>cases ry;exact PySem.EqNone.ne_none_bool (aN I q (by simp))
  |int j=>obtain⟨t',rfl⟩:=ry;exact PySem.EqNone.ne_none_int (aN I q (by simp))
  |str j=>obtain⟨t',rfl⟩:=ry;exact PySem.EqNone.ne_none_str (aN I q (by simp))
  |_=>exact absurd (show false=true from hs) JH
 |bl i=>
  cases rx
  cases y with
  |non=>cases ry;exact PySem.EqNone.ne_bool_none (aN I q (by simp))
  |bl j=>cases ry;exact ne_bool (aN I q (Ke not p5))
  |str j=>obtain⟨t',rfl⟩:=ry;exact PySem.EqMixed.ne_bool_str (aN I q (by simp))
  |_=>exact absurd (show false=true from hs) JH
 |int i=>
  obtain⟨t,rfl⟩:=rx
  cases y with
  |non=>cases ry;exact PySem.EqNone.ne_int_none (aN I q (by simp))
  |int j=>obtain⟨t',rfl⟩:=ry;exact ne_int (aN I q (Ke not nF))
  |str j=>obtain⟨t',rfl⟩:=ry;exact PySem.EqMixed.ne_int_str (aN I q (by simp))
  |_=>exact absurd (show false=true from hs) JH
 |str i=>
  obtain⟨t,rfl⟩:=rx
  cases y with
  |non=>cases ry;exact PySem.EqNone.ne_str_none (aN I q (by simp))
  |bl j=>cases ry;exact PySem.EqMixed.ne_str_bool (aN I q (by simp))
  |int j=>obtain⟨t',rfl⟩:=ry;exact PySem.EqMixed.ne_str_int (aN I q (by simp))
  |str j=>obtain⟨t',rfl⟩:=ry;exact ne_str (aN I q (Ke not nG))
  |_=>exact absurd (show false=true from hs) JH
 |Eh i=>
  obtain⟨t,rfl⟩:=rx
  cases y with
  |Eh j=>obtain⟨t',rfl⟩:=ry;exact PySem.W.ne_bytes (aN I q (Ke not nH))
  |_=>exact absurd (show false=true from hs) JH
 |_=>cases y<;>exact absurd (show false=true from hs) JH
def xC:gq X (compareOp .Lt) (sF fun i j=>.bl (decide (i < j))):=vm fun _ _ _ _ _ _ _ q=>lt_int q
def xD:gq X (compareOp .Gt) (sF fun i j=>.bl (decide (j < i))):=vm fun _ _ _ _ _ _ _ q=>gt_int q
def xE:gq X (compareOp .GtE) (sF fun i j=>.bl (decide (j<=i))):=vm fun _ _ _ _ _ _ _ q=>ge_int q
def oA:gq X (compareOp .In) (fun x y H Q=>∃i j,x = .str i/\y = .str j/\Q (.bl (!(Builtin.Str.occurrences j i 0 j.length 1).isEmpty)) H):=by
 intro pins s σ H x y v u Q I rx ry h
 obtain⟨i,j,rfl,rfl,q⟩:=h
 obtain⟨t,rfl⟩:=rx
 obtain⟨t',rfl⟩:=ry
 exact in_str (aN I q rfl)
def sH:gq X (compareOp .IsNot) (fun x y H Q=>y = .non/\Q (.bl (!decide (x = .non))) H):=by
 intro pins s σ H x y v u Q I rx ry h
 obtain⟨rfl,q⟩:=h
 cases ry
 refine isnot_none_gen (aN I q ?_)
 cases x<;>first
  |(cases rx;rfl)
  |(obtain⟨t,rfl⟩:=rx;rfl)
def aX(b:Expr){op:CmpOp}(h:op ≠ .In:=by decide)(h2:op ≠ .NotIn:=by decide):behindInMarks op b=false:=by
 have e1:(op == CmpOp.In)=false:=by cases op<;>first|rfl|exact absurd rfl h
 have e2:(op == CmpOp.NotIn)=false:=by cases op<;>first|rfl|exact absurd rfl h2
 cases b<;>simp[behindInMarks,e1,e2]
def sI{op:CmpOp}{r:R2}(ho:gq X (compareOp op) r)(ha:PE X a ta)(hb:PE X b tb)(hm:behindInMarks op b=false):PE X (.Compare a [op] [b] pos) (xx r ta tb):=by
 intro pins s σ H Q I h
 exact wpAny_Compare1 (vk ha hb I h fun v u s2 x y H2 I2 rx ry q=>ho pins s2 σ H2 x y v u Q I2 rx ry q) hm
def xF(t:TE):TT:=fun σ H Q=>t σ H fun x H'=>∃k,x = .bl k/\Q k H'
def sJ{op:CmpOp}{r:R2}(ho:gq X (compareOp op) r)(ha:PE X a ta)(hb:PE X b tb)(hm:behindInMarks op b=false):PT X (.Compare a [op] [b] pos) (xF (xx r ta tb)):=by
 intro pins s σ H Q I h
 refine wpAny_isTrue_Compare1 (AL (ha pins s σ H _ I h) fun v s1 ⟨x,H1,I1,r1,q1⟩=>AL (hb pins s1 σ H1 _ I1 q1) fun u s2 ⟨y,H2,I2,r2,q2⟩=>
  AL (ho pins s2 σ H2 x y v u _ I2 r1 r2 q2) fun c s3 ⟨z,H3,I3,r3,k,e,q3⟩=>?_) hm
 subst e
 cases r3
 exact Lg ⟨H3,I3,q3⟩
def hW:(sizeLine:Nat) < 2 ^ 63:=by rw[sizeLine_eq];decide
def mH:gq X (binaryOp .Add) (fun x y H Q=>∃i j,x = .str i/\y = .str j/\i.length+j.length<=sizeLine/\Q (.str (i++j)) H):=by
 intro pins s σ H x y v u Q I rx ry h
 obtain⟨i,j,rfl,rfl,hz,q⟩:=h
 obtain⟨t,rfl⟩:=rx
 obtain⟨t',rfl⟩:=ry
 exact add_str (fun t' tk=>⟨.str (i++j),H,I.tok _,⟨_,rfl⟩,q⟩) hz
def eP{x:V}{us:Vv}(r:Vals [x] us):∃u,us=[u]/\RelV x u:=by
 cases r with
 |cons r1 r2=>cases r2;exact⟨_,rfl,r1⟩
def p_{x y:V}{us:Vv}(r:Vals [x,y] us):∃u w',us=[u,w']/\RelV x u/\RelV y w':=by
 cases r with
 |cons r1 r2=>
  cases r2 with
  |cons r3 r4=>cases r4;exact⟨_,_,rfl,r1,r3⟩
def oB(hc:X.calm=true):fI X (.builtin "max") (fun xs H Q=>∃i j,xs=[.int i,.int j]/\Q (.int (if j > i then j else i)) H):=by
 intro pins s σ H xs us Q I r h
 obtain⟨i,j,rfl,q⟩:=h
 obtain⟨u,w',rfl,⟨t,rfl⟩,⟨t',rfl⟩⟩:=p_ r
 refine max_two_ints (I.ok.hd hc) fun h' tk k=>⟨_,H,I.kept k,?_,q⟩
 by_cases hj:j > i
 ·rw[if_pos hj,if_pos hj];exact⟨_,rfl⟩
 ·rw[if_neg hj,if_neg hj];exact⟨_,rfl⟩
def ke:fI X (.type "int") (fun xs H Q=>(∃i,xs=[.int i]/\Q (.int i) H)\/∃k,xs=[.bl k]/\Q (.int (if k then 1 else 0)) H):=by
 intro pins s σ H xs us Q I r h
 rcases h with⟨i,rfl,q⟩|⟨k,rfl,q⟩
 ·obtain⟨u,rfl,t,rfl⟩:=eP r
  exact call_int_int ⟨.int i,H,I,⟨_,rfl⟩,q⟩
 ·obtain⟨u,rfl,r1⟩:=eP r
  cases r1
  exact call_int_bool ⟨.int (if k then 1 else 0),H,I.tok _,⟨_,rfl⟩,q⟩
end
def RelO.some_of{v:V}{o:Option Value}(r:RelO (some v) o):∃u,o=some u/\RelV v u:=by
 cases o with
 |none=>exact(show False from r).elim
 |some u=>exact⟨u,rfl,r⟩
structure Room (k:Nat) (A:Around):Prop where
 hd:A.handled=none
 dp:A.depth+3 * k+5 < recursionLimit
 un:A.units+16 * k+200 < cLine
 gd:A.guards=some []
def Room.mono{j k:Nat}{A:Around}(r:Room k A)(h:j<=k):Room j A:=⟨r.hd,by have:=r.dp;omega,by have:=r.un;omega,r.gd⟩
theorem Room.deeper{k:Nat}{A:Around}(r:Room (k+1) A)(env:Env):Room k (A.deeper env):=
 ⟨r.hd,by have:=r.dp;show A.depth+1+3 * k+5 < _;omega,by have:=r.un;show A.units+3+16 * k+200 < _;omega,r.gd⟩
theorem Room.depth{k:Nat}{A:Around}(r:Room k A):A.depth < recursionLimit:=by have:=r.dp;omega
def xG:TA:=fun _ H Q=>Q [] H
def uA(ta:TE)(tr:TA):TA:=fun σ H Q=>ta σ H fun x H1=>tr σ H1 fun xs H2=>Q (x::xs) H2
section
variable {X:Cx} {e:Expr} {es:List Expr} {te:TE} {t:TA} {pos:Pos}
def vv:PA X [] xG:=fun _ _ _ _ H Q I h=>Lh ⟨[],H,I,.nil,h⟩
def sK(ha:PE X e te)(hr:PA X es t)(hs:starEach (e::es) X.env=(false,eval e X.env)::starEach es X.env:=by rfl):PA X (e::es) (uA te t):=by
 intro pos pins s σ H Q I h
 rw[hs]
 show wpAny _ _ (spliced ((false,eval e X.env)::backTo pos (starEach es X.env))) _ _ s
 refine Kw (AL (ha pins s σ H _ I h) fun u s1 ⟨x,H1,I1,r1,q1⟩=>?_)
 exact AL (hr pos pins s1 σ H1 _ I1 q1) fun us s2 ⟨xs,H2,I2,r2,q2⟩=>⟨x::xs,H2,I2,.cons r1 r2,q2⟩
def zj(t:TA):TE:=fun σ H Q=>t σ H fun xs H1=>xs.length<=sizeLine/\∀p,H1 p=none->Q (.ref p) (upd H1 p (.tup xs))
def zk(t:TA):TE:=fun σ H Q=>t σ H fun xs H1=>xs.length<=sizeLine/\∀p,H1 p=none->Q (.ref p) (upd H1 p (.lst xs))
def vx{x1}(h:PA X es t):PE X (.Tuple es x1 pos) (zj t):=by
 intro pins s σ H Q I hq
 refine wpAny_Tuple_spliced (AL (h pos pins s σ H _ I hq) fun us s1 ⟨xs,H1,I1,r,z,q⟩=>⟨by rw[<-r.length];exact z,?_⟩)
 have hf:H1 s1.heap.objs.size=none:=I1.hok.fresh (Jm _)
 refine⟨.ref s1.heap.objs.size,upd H1 s1.heap.objs.size (.tup xs),I1.laid (t':=s1.toks) (fun b u e=>Jl _ e) (Jm _) ?_,rfl,q _ hf⟩
 exact⟨z,us,r,⟨_,JA _ rfl,rfl,rfl,_,rfl⟩⟩
def vy(h:PA X es t):PE X (.List es pos) (zk t):=by
 intro pins s σ H Q I hq
 refine wpAny_List_spliced (AL (h pos pins s σ H _ I hq) fun us s1 ⟨xs,H1,I1,r,z,q⟩=>⟨by rw[<-r.length];exact z,?_⟩)
 have hf:H1 s1.heap.objs.size=none:=I1.hok.fresh (Jm _)
 refine⟨.ref s1.heap.objs.size,upd H1 s1.heap.objs.size (.lst xs),I1.laid (t':=s1.toks) (fun b u e=>Jl _ e) (Jm _) ?_,rfl,q _ hf⟩
 exact⟨z,us,0,r,JA _ rfl⟩
end
abbrev Sp:=List V->Hp->VK->XK->Prop
abbrev si:=List Env->Hp->Shared->XK->Value->Shared->Prop
structure sL (P:Program) (w:World) (K:Vo) (mg:Vr) (base:Heap) (A:Around) (outer:List Env) (s:Shared) (H:Hp):Prop where
 frames:A.frames=some outer
 mod:Mod K mg base
 bs:∀b o,base.get? b=some o->s.heap.get? b=some o/\H b=none
 EI:base.objs.size<=s.heap.objs.size
 CO:s.heap.FunFrames base outer
 Fc:∀b∈frs outer,H b=none
 hok:Ck P w H s.heap
 bare:AllBare s.gens
def CE(outer:List Env)(P:Program)(w:World)(H:Hp)(s:Shared)(Q:VK)(u:Value)(s':Shared):Prop:=
 ∃v H',s'.os=s.os/\AllBare s'.gens/\Un (frs outer) [] H H' s.heap s'.heap/\Ck P w H' s'.heap/\RelV v u/\Q v H'
def CR(CX:si)(outer:List Env)(P:Program)(w:World)(H:Hp)(s:Shared)(Q:VK)(E:XK)(r:Result)(s':Shared):Prop:=
 match r with
 | .ok (.ret u)=>CE outer P w H s Q u s'
 | .ok _=>False
 | .error e=>CX outer H s E e s'
structure jX (P:Program) (w:World) (K:Vo) (mg:Vr) (base:Heap) (CX:si) (k:Nat) (f:Addr) (fd:FuncData) (ps:Vs) (sp:Sp):Prop where
 len:∀vs H Q E,sp vs H Q E->vs.length=ps.length
 run:∀(A:Around) (outer:List Env) (s:Shared) (H:Hp) (args:Args) (us:Vv) (vs:List V) (Q:VK) (E:XK),Room k A->sL P w K mg base A outer s H->BindsTo s fd args (ps.zip us)->Vals vs us->sp vs H Q E->
  codeAny (model P w) A (.call (.ref f) args) (CR CX outer P w H s Q E) s
section
variable {X:Cx} {pins:Va} {σ:St} {H:Hp} {s s':Shared}
def Inv.Gy(I:Inv X pins σ H s):sL X.prog X.w X.K X.mg X.base X.A X.stack s H:=
 ⟨I.ok.frames,I.ok.mod,I.bs,Jw I.ok.EI I.sz,I.stack,I.DQ,I.hok,I.bare⟩
def Inv.after{Q:VK}{u:Value}(I:Inv X pins σ H s)(h:CE X.stack X.prog X.w H s Q u s'):EP X pins σ Q u s':=by
 obtain⟨v,H',os,bare,un,hok,r,q⟩:=h
 obtain⟨hh,g,d,t,os'⟩:=s'
 obtain rfl:os'=s.os:=os
 exact⟨v,H',I.call (h':=hh) (g':=g) (d':=d) (t':=t) (ch:=[]) un hok bare (fun b z=>absurd z (by simp)),r,q⟩
end
def xH(sp:Sp)(dvs:List V)(E:XK)(t:TA):TE:=fun σ H Q=>t σ H fun vs H1=>sp (vs++dvs) H1 Q E
def Binds(K:Vo)(fd:FuncData)(ps:Vs)(ds:Vv):Prop:=
 ∀(s:Shared) (us:Vv),K.In s.heap->(us++ds).length=ps.length->BindsTo s fd ⟨us,[]⟩ (ps.zip (us++ds))
def Binds.all{K:Vo}{fd:FuncData}{ps:Vs}(h:∀us:List Value,us.length=ps.length->bindArgs fd ⟨us,[]⟩=pure (ps.zip us)):Binds K fd ps []:=fun s us _ hl=>by
 rw[JN]at hl ⊢
 exact .of_eq (h us hl)
def mI(CX:si)(X:Cx)(E:XK):Prop:=∀(pins:Va) (σ:St) (H:Hp) (s:Shared) (e:Value) (s':Shared),Inv X pins σ H s->CX X.stack H s E e s'->X.xe e s'
section
variable {X:Cx} {CX:si} {k:Nat} {f C:Addr} {fd:FuncData} {ps:Vs} {sp:Sp} {dvs:List V} {ds:Vv} {E:XK} {x m:Str} {p pos apos:Pos} {e o:Expr} {es:List Expr} {ta:TE} {t:TA}
def vz{pins:Va}{σ:St}{H:Hp}{s:Shared}{Q:VK}{us:Vv}{vs:List V}(F:jX X.prog X.w X.K X.mg X.base CX k f fd ps sp)(hr:Room k X.A)(hb:Binds X.K fd ps ds)(hd:Vals dvs ds)(hx:mI CX X E)
  (I:Inv X pins σ H s) (r:Vals vs us) (h:sp (vs++dvs) H Q E):wpAny (model X.prog X.w) X.A (call (.ref f) us) (EP X pins σ Q) X.xe s:=by
 have r2:Vals (vs++dvs) (us++ds):=r.append hd
 have hl:(us++ds).length=ps.length:=by rw[<-r2.length];exact F.len _ _ _ _ h
 refine wpAny_call (codeAny_mono (F.run X.A X.stack s H ⟨us,[]⟩ (us++ds) (vs++dvs) Q E hr I.Gy (hb s us I.Ej hl) r2 h) fun r s' hq=>?_)
 cases r with
 |error e=>exact hx pins σ H s e s' I hq
 |ok fl=>
  cases fl with
  |ret u=>exact I.after hq
  |next=>exact False.elim hq
  |brk=>exact False.elim hq
  |cont=>exact False.elim hq
def nI(F:jX X.prog X.w X.K X.mg X.base CX k f fd ps sp)(hr:Room k X.A)(hg:Gl X x)(hm:X.mg x=some (.ref f))(hk:PySem.W.keepIn X.K (.ref f)=true)(hb:Binds X.K fd ps ds)(hd:Vals dvs ds)(hx:mI CX X E)
  (ha:PA X (e::es) t) (hdb:(x == ("__debug__":Str))=false:=by decide) (he:starEach (e::es) X.env=(false,eval e X.env)::starEach es X.env:=by rfl) (hpl:(backTo pos (starEach es X.env)).any (·.1)=false:=by rfl) :
  PE X (.Call (.Name x p) (e::es) [] pos) (xH sp dvs E t):=by
 intro pins s σ H Q I h
 refine KJ (nC I hg hm ?_ hdb)
 refine PySem.W.callWith_K (h₀:=X.base) I.ok.mod.Gq hk (AL (ha pos pins s σ H _ I h) fun us s1 ⟨vs,H1,I1,r,q⟩=>⟨I1.Ej,?_⟩) he hpl
 exact vz F hr hb hd hx I1 r q
end
structure cO (N P:Vs) (sc:Scope):Prop where
 kind:sc.kind = .function
 co:sc.isCoroutine=false
 gen:sc.isGenerator=false
 nd:N.Nodup
 pre:N.take P.length=P
 par:∀x∈P,sc.names.lookup x=some .local\/sc.names.lookup x=some .cell
 Fg:∀y∈sc.names,y.2 ≠ .free
theorem kf{kindOf:Str->Option NameKind}{x:Str}:∀{binds:List (Str×Value)} {m:Vr},(∀v,(x,v) ∉ binds)->bindL kindOf binds m x=m x
 |[],_,_=>rfl
 |(n,v)::r,m,h=>by
  unfold bindL
  rw[kf fun w hw=>h w (Kz _ hw)]
  split
  ·have:x≠n:=by rintro rfl;exact h v Kv
   simp[this]
  ·rfl
theorem kg{kindOf:Str->Option NameKind}{x:Str}:∀{binds:List (Str×Value)} {m:Vr},(∀v,(x,v) ∉ binds)->bindC kindOf binds m x=m x
 |[],_,_=>rfl
 |(n,v)::r,m,h=>by
  unfold bindC
  rw[kg fun w hw=>h w (Kz _ hw)]
  split
  ·rfl
  ·have:x≠n:=by rintro rfl;exact h v Kv
   simp[this]
theorem kh{kindOf:Str->Option NameKind}{x:Str}{v:Value}:∀{P:Vs} {vs:Vv} {i:Nat} {m:Vr},P.Nodup->P[i]?=some x->vs[i]?=some v->kindOf x=some .local->
  bindL kindOf (P.zip vs) m x=some v
 |[],_,_,_,_,h,_,_=>by simp at h
 |_::_,[],_,_,_,_,h,_=>by simp at h
 |p::P,w::vs,0,m,nd,h1,h2,hk=>by
  simp at h1 h2;subst h1;subst h2
  show bindL kindOf ((p,w)::P.zip vs) m p=_
  unfold bindL
  rw[kf fun v hv=>(Km.mp nd).1 (Mx hv).1,if_pos hk]
  simp
 |p::P,w::vs,i+1,m,nd,h1,h2,hk=>by
  show bindL kindOf ((p,w)::P.zip vs) m x=_
  unfold bindL
  exact kh (i:=i) (Km.mp nd).2 (by simpa using h1) (by simpa using h2) hk
theorem ki{kindOf:Str->Option NameKind}{x:Str}{v:Value}:∀{P:Vs} {vs:Vv} {i:Nat} {m:Vr},P.Nodup->P[i]?=some x->vs[i]?=some v->kindOf x≠some .local->
  bindC kindOf (P.zip vs) m x=some v
 |[],_,_,_,_,h,_,_=>by simp at h
 |_::_,[],_,_,_,_,h,_=>by simp at h
 |p::P,w::vs,0,m,nd,h1,h2,hk=>by
  simp at h1 h2;subst h1;subst h2
  show bindC kindOf ((p,w)::P.zip vs) m p=_
  unfold bindC
  rw[kg fun v hv=>(Km.mp nd).1 (Mx hv).1,if_neg hk]
  simp
 |p::P,w::vs,i+1,m,nd,h1,h2,hk=>by
  show bindC kindOf ((p,w)::P.zip vs) m x=_
  unfold bindC
  exact ki (i:=i) (Km.mp nd).2 (by simpa using h1) (by simpa using h2) hk
noncomputable def eN(N:Vs)(vs:List V):St:=vs.map some++List.replicate (N.length - vs.length) none
noncomputable def lJ(CX:si)(P:Program)(w:World)(K:Vo)(mg:Vr)(base:Heap)(N:Vs)(qual:Str)(scope:Scope)(f:Addr)(cd:Value)(A:Around)(outer:List Env)(s:Shared)(H:Hp)(E:XK):Cx where
 prog:=P
 w:=w
 K:=K
 mg:=mg
 base:=base
 A:=A.deeper (envOfC qual scope s.heap.objs.size f cd)
 N:=N
 s₀:=s
 H₀:=H
 env:=envOfC qual scope s.heap.objs.size f cd
 outer:=outer
 stack:=envOfC qual scope s.heap.objs.size f cd::outer
 ex:=[]
 calm:=true
 fn:=fun _=>true
 pn:=[]
 xe:=fun e s'=>wpAny (model P w) (A.deeper (envOfC qual scope s.heap.objs.size f cd)) (leaving (envOfC qual scope s.heap.objs.size f cd) e) (fun _ s''=>CX outer H s E e s'') (fun e' s''=>CX outer H s E e' s'') s'
def lK{sc:Scope}{n:Nat}{x:Str}(h:sc.names.lookup x=some .cell):∃c,(cellsFrom n sc.names []).lookup x=some c:=by
 have q:=PySem.W.cellsFrom_some sc.names n [] (.inl h)
 exact Option.isSome_iff_exists.mp q
def oC{CX:si}{P:Program}{w:World}{K:Vo}{mg:Vr}{base:Heap}{N ps:Vs}{qual:Str}{scope:Scope}{f:Addr}{cd:Value}{A:Around}{outer:List Env}{s s1:Shared}{H:Hp}{E:XK}{us:Vv}{vs:List V}
  (S:cO N ps scope) (hd:A.handled=none) (e0:sL P w K mg base A outer s H) (hl:vs.length=ps.length) (r:Vals vs us)
  (x:InCallC s s.heap.objs.size (bindL (envOfC qual scope s.heap.objs.size f cd).kindOf (ps.zip us) fun _=>none) (cellsFrom (s.heap.objs.size+1) scope.names []) (bindC (envOfC qual scope s.heap.objs.size f cd).kindOf (ps.zip us) fun _=>none) s1) :
  Inv (lJ CX P w K mg base N qual scope f cd A outer s H E) [] (eN N vs) H s1:=by
 have hpl:ps.length<=N.length:=by have:=Ke List.length S.pre;rw[Ko]at this;omega
 obtain⟨h1,tk,rfl,hk⟩:=x.done
 have FM:∀b:Addr,b ∉ (lJ CX P w K mg base N qual scope f cd A outer s H E).ex:=fun b z=>absurd (show b∈([]:List Addr)from z) (by simp)
 refine⟨⟨e0.mod,S.kind,rfl,rfl,Jm _,fun y z c h1 h2=>?_,fun y hy=>?_,fun y c _ h=>?_,fun _=>hd,Around.frames_deeper e0.frames,.inr ⟨rfl,rfl⟩,fun b z=>absurd z (FM b),e0.bs,e0.EI,fun b _ _=>FM b,fun b z=>absurd z (FM b),e0.CO,e0.Fc⟩,
  rfl,e0.bare,Un.kept hk,⟨_,x.toInCall.ns,fun i y v h1 h2 h3=>?_⟩,fun y c h=>⟨_,x.cell y c h⟩,e0.hok.fresh (Jm _),fun y c h=>?_,fun p hp=>absurd (show p∈([]:Va)from hp) (by simp),e0.hok.kept hk,?_⟩
 ·exact name_of_addr x.apart (K3 h1) (K3 h2)
 ·have hy:scope.names.lookup y=some .cell\/scope.names.lookup y=some .free:=hy
  rcases hy with hy|hy
  ·exact lK hy
  ·exact absurd rfl (S.Fg _ (K3 hy))
 ·exact L7 (x.above y c (K3 h))
 ·have hi:i < vs.length:=by
   unfold eN at h2
   by_cases hi:i < vs.length
   ·exact hi
   ·rw[J8 (by simpa using hi)]at h2
    rw[KY]at h2
    split at h2<;>cases h2
  have ha:vs[i]?=some v:=by
   unfold eN at h2
   rw[JZ (by simpa using hi),Jx]at h2
   cases e:vs[i]? with
   |none=>rw[e]at h2;cases h2
   |some a=>rw[e]at h2;cases h2;rfl
  obtain⟨u,hu,rv⟩:=r.get ha
  have hp:ps[i]?=some y:=by
   rw[<-S.pre,List.getElem?_take_of_lt (by omega)];exact h1
  have Hq:ps.Nodup:=by rw[<-S.pre];exact S.nd.sublist (MK _ _)
  refine⟨u,rv,?_⟩
  rcases S.par y (JI hp)with k|k
  ·exact .inl ⟨k,kh Hq hp hu k⟩
  ·obtain⟨c,e⟩:=lK (n:=s.heap.objs.size+1) k
   refine .inr ⟨.inl k,c,e,?_⟩
   have q:=x.cell y c e
   rw[ki Hq hp hu (by show scope.names.lookup y≠_;rw[k];decide)]at q
   exact q
 ·exact e0.hok.fresh (L7 (x.above y c (K3 h)))
 ·unfold eN
  show _=N.length
  rw[Jj,Jk,J4]
  omega
def uB{CX:si}{P:Program}{w:World}{K:Vo}{mg:Vr}{base:Heap}{k:Nat}{f:Addr}{name qual:Str}{params:Arguments}{body:List Stmt}{scope:Scope}{dV kV doc pm cdv ct oc:Value}{an od:Option Addr}
  {osl:Array (Option Value)} {N ps:Vs} {sp:Sp} (lk:K.lookup f=some ⟨oc,od,.func (PySem.W.fnOf name qual params body scope dV kV doc pm an cdv ct),osl⟩) (hcd:PySem.W.codeIn K cdv qual=true) (S:cO N ps scope)
  (len:∀vs H Q E,sp vs H Q E->vs.length=ps.length)
  (hbody:∀(A:Around) (outer:List Env) (s:Shared) (H:Hp) (vs:List V) (Q:VK) (E:XK),Room k (A.deeper (envOfC qual scope s.heap.objs.size f cdv))->sp vs H Q E->
   ∃t,Dx (lJ CX P w K mg base N qual scope f cdv A outer s H E) body t/\t { nx:=fun _ H'=>Q .non H',rt:=Q } (eN N vs) H) :
  jX P w K mg base CX (k+1) f (PySem.W.fnOf name qual params body scope dV kV doc pm an cdv ct) ps sp:=by
 refine⟨len,fun A outer s H args us vs Q E hr e0 hb r EB=>?_⟩
 have hl:=len _ _ _ _ EB
 have KX:K.In s.heap:=e0.mod.Gq.keeps fun b o e=>(e0.bs b o e).1
 have lim:s.heap.NoLimit:=e0.mod.nolimit.keeps fun b o e=>(e0.bs b o e).1
 have hkind:∀y∈ps.zip us,scope.names.lookup y.1=some .local\/(scope.names.lookup y.1=some .cell/\((cellsFrom (s.heap.objs.size+1) scope.names []).lookup y.1).isSome=true):=fun⟨n,v⟩ hy=>by
  rcases S.par n (Mx hy).1 with q|q
  ·exact .inl q
  ·exact .inr ⟨q,PySem.W.cellsFrom_some _ _ _ (.inl q)⟩
 refine codeAny_call_function hr.depth (KX _ _ lk) rfl S.co S.gen rfl (PySem.W.codeRec_of KX hcd) (hb _ _ _ _ ?_)
 refine wpAny_newFunctionEnv_cells S.kind hkind fun env he s1 x=>?_
 subst he
 refine⟨lim.keeps x.toInCall.keep,codeAny_func ?_⟩
 obtain⟨t,ht,hq⟩:=hbody A outer s H vs Q E (hr.deeper _) EB
 have I:Inv (lJ CX P w K mg base N qual scope f cdv A outer s H E) [] (eN N vs) H s1:=oC S hr.hd e0 hl r x
 refine Lo (ht [] s1 (eN N vs) H _ I hq) (fun fl s' hs=>?_) fun e s' hs=>hs
 have fin:∀{σ':St} {H':Hp} {v:V} {u:Value},Inv (lJ CX P w K mg base N qual scope f cdv A outer s H E) [] σ' H' s'->RelV v u->Q v H'->CE outer P w H s Q u s':=
  fun{σ' H' v u} J rv q=>⟨v,H',J.os,J.bare,J.base,J.hok,rv,q⟩
 cases fl with
 |ret u=>
  obtain⟨v,σ',H',J,rv,q⟩:=hs
  exact fin J rv q
 |next=>
  obtain⟨σ',H',J,q⟩:=hs
  exact fin (v:=V.non) (u:=Value.none) J rfl q
 |brk=>
  obtain⟨_,_,_,q⟩:=hs
  exact False.elim q
 |cont=>
  obtain⟨_,_,_,q⟩:=hs
  exact False.elim q
section
variable {X:Cx} {x:Str} {p pos:Pos} {e:Expr} {es:List Expr} {t:TA} {id T:String} {r:List V->Hp->VK->Prop}
def z9(r:List V->Hp->VK->Prop)(t:TA):TE:=fun σ H Q=>t σ H fun vs H1=>r vs H1 Q
def qc(hc:fI X (.builtin id) r)(hg:Gl X x)(hm:X.mg x=none)(hv:bootBuiltins x=some (.builtin id))(ha:PA X (e::es) t)(hn:x ≠ "__name__":=by decide)(hdb:(x == ("__debug__":Str))=false:=by decide)
  (he:starEach (e::es) X.env=(false,eval e X.env)::starEach es X.env:=by rfl) (hpl:(backTo pos (starEach es X.env)).any (·.1)=false:=by rfl):PE X (.Call (.Name x p) (e::es) [] pos) (z9 r t):=by
 intro pins s σ H Q I h
 refine KJ (dF I hg hm hv ?_ hn hdb)
 exact PyProof.Rows.callWith_builtin1 (AL (ha pos pins s σ H _ I h) fun us s1 ⟨vs,H1,I1,r1,q1⟩=>hc pins s1 σ H1 vs us Q I1 r1 q1) he hpl
def oD(hc:fI X (.type T) r)(hg:Gl X x)(hm:X.mg x=none)(hv:bootBuiltins x=some (.type T))(ha:PA X (e::es) t)(hn:x ≠ "__name__":=by decide)(hdb:(x == ("__debug__":Str))=false:=by decide)
  (he:starEach (e::es) X.env=(false,eval e X.env)::starEach es X.env:=by rfl) (hpl:(backTo pos (starEach es X.env)).any (·.1)=false:=by rfl):PE X (.Call (.Name x p) (e::es) [] pos) (z9 r t):=by
 intro pins s σ H Q I h
 refine KJ (dF I hg hm hv ?_ hn hdb)
 exact JU (AL (ha pos pins s σ H _ I h) fun us s1 ⟨vs,H1,I1,r1,q1⟩=>hc pins s1 σ H1 vs us Q I1 r1 q1) he hpl
end
end L2
namespace HT
open PySem PyProof.Rows
section
open PySem.SeqAt
open PySem.AutoSeq1 (wpAny_loadPart')
open PySem.MeetsSeq PySem.MeetsSeq2 PySem.MeetsSeq3
end
section
variable {prog:Program} {w:World} {A:Around} {E:Vq} {s:Shared}
def sM{t b:Addr}{vs ws:Vv}{Q:Vq}(ht:IsTup s.heap t vs.toArray)(hb:IsTup s.heap b ws.toArray)(hv:vs≠[])
  (h1:ws=[]->Q (.ref t) s) (h2:ws≠[]->Q (.ref s.heap.objs.size) { s with heap:=s.heap.push { cls:=.type "tuple",data:=.seq (vs++ws).toArray } })
  (hsz:vs.length+ws.length<=sizeLine):wpAny (model prog w) A (binaryOp .Add (.ref t) (.ref b)) Q E s:=by
 obtain⟨⟨cls,dd,data,sl⟩,ho,hc,n,hd⟩:=id ht
 obtain⟨⟨Gz,dd2,data2,sl2⟩,ho2,hc2,n2,hd2⟩:=id hb
 simp only at hc hd hc2 hd2
 subst hc hd hc2 hd2
 have e:vs.toArray++ws.toArray=(vs++ws).toArray:=by simp
 by_cases hw:ws=[]
 ·exact concat_meets ⟨_,ho,rfl⟩ ⟨_,ho2,rfl⟩ noFill_tuple_add seq_tuple_add Ma L5 (LU _ _)
   (tuple_addW1 t b vs.toArray ws.toArray n n2 dd dd2 sl sl2 (by simpa using hv) (by simp[hw])) ⟨ho,ho2,h1 hw⟩
 ·refine concat_meets ⟨_,ho,rfl⟩ ⟨_,ho2,rfl⟩ noFill_tuple_add seq_tuple_add Ma L5 (LU _ _)
   (tuple_addW2 t b vs.toArray ws.toArray n n2 dd dd2 sl sl2 (by simpa using hv) (by simpa using hw) (by rw[Jo,Jo];exact hsz)) ⟨ho,ho2,?_⟩
  rw[e]
  exact h2 hw
noncomputable def A1(n d:Nat):Option Int->Nat
 |none=>d
 |some v=>if v < 0 then (v+(n:Int)).toNat else min v.toNat n
def i_(n d:Nat):A1 n d none=d:=rfl
def nJ(n d k:Nat):A1 n d (some (k:Int))=min k n:=by
 show(if (k:Int) < 0 then ((k:Int)+(n:Int)).toNat else min (k:Int).toNat n)=min k n
 rw[if_neg (by omega),Lz]
def vA(n d:Nat)(hd:d<=n)(o:Option Int):A1 n d o<=n:=by
 cases o with
 |none=>exact hd
 |some v=>
  show(if v < 0 then (v+(n:Int)).toNat else min v.toNat n)<=n
  by_cases hv:v < 0
  ·rw[if_pos hv];omega
  ·rw[if_neg hv];exact Nat.min_le_right _ _
def nK(v:Int)(n d:Nat):(if v < 0 then max (v+(n:Int)) 0 else min v (n:Int))=((A1 n d (some v):Nat):Int):=by
 show(if v < 0 then max (v+(n:Int)) 0 else min v (n:Int))=(((if v < 0 then (v+(n:Int)).toNat else min v.toNat n):Nat):Int)
 by_cases hv:v < 0
 ·simp only[if_pos hv];omega
 ·simp only[if_neg hv];omega
def mJ(lo hi:Option Int)(n:Nat):Builtin.Slice.sliceAdjust lo hi 1 (n:Int)=(((A1 n 0 lo:Nat):Int),((A1 n n hi:Nat):Int)):=by
 have h1:¬((1:Int) < 0):=by omega
 unfold Builtin.Slice.sliceAdjust
 simp only[h1,JR]
 refine Prod.ext ?_ ?_
 ·cases lo with
  |none=>rfl
  |some v=>exact nK v n 0
 ·cases hi with
  |none=>rfl
  |some v=>exact nK v n n
def mK(i j:Nat):Builtin.Slice.slicePlaces (i:Int) (j:Int) 1=j - i:=by
 unfold Builtin.Slice.slicePlaces
 have h1:(1:Int) > 0:=by omega
 simp only[h1,JW,Int.ediv_one]
 split<;>omega
def jc{v:Value}{o:Option Int}{Q:Option Int->Shared->Prop}(p:IsPart v o)(h:Q o s):wpAny (model prog w) A (Builtin.Slice.slicePartIndex v) Q E s:=by
 cases p with
 |none=>exact slicePart_none h
 |int i t=>exact slicePart_int h
def dS{sl:Addr}{vl vu:Value}{lo hi:Option Int}{n:Nat}{Q:Int×Int×Nat->Shared->Prop}(hs:s.heap.IsSliceOf sl vl vu .none)(pl:IsPart vl lo)(pu:IsPart vu hi)
  (h:Q (((A1 n 0 lo:Nat):Int),1,A1 n n hi - A1 n 0 lo) s):wpAny (model prog w) A (Builtin.Slice.sliceApplied (.ref sl) (pure (n:Int))) Q E s:=by
 obtain⟨os,hos,hcs,hds⟩:=id hs
 unfold Builtin.Slice.sliceApplied Builtin.Slice.sliceFields
 refine Ji (Ji (JX hos hds (x:=vl) rfl (Ji (JX hos hds (x:=vu) rfl (Ji (JX hos hds (x:=.none) rfl (Jp ?_)))))))
 refine Ji (slicePart_none ?_)
 show wpAny _ _ (if ((1:Int) == 0)=true then _ else _) _ _ s
 rw[if_neg (by decide)]
 refine Ji (jc pl (Ji (jc pu (Ji (Jp ?_)))))
 show wpAny _ _ (match Builtin.Slice.sliceAdjust lo hi 1 (n:Int)with|(lo,hi)=>pure (lo,(1:Int),Builtin.Slice.slicePlaces lo hi 1)) _ _ s
 rw[mJ lo hi n]
 show wpAny _ _ (pure (((A1 n 0 lo:Nat):Int),(1:Int),Builtin.Slice.slicePlaces ((A1 n 0 lo:Nat):Int) ((A1 n n hi:Nat):Int) 1)) _ _ s
 rw[mK]
 exact Jp h
def qd(xs:Vw)(i k:Nat):((List.range k).filterMap fun(m:Nat)=>xs[((i:Int)+(m:Int) * 1).toNat]?).toArray=((xs.toList.drop i).take k).toArray:=by
 have e:(fun(m:Nat)=>xs[((i:Int)+(m:Int) * 1).toNat]?)=fun m=>xs[i+m]?:=by
  funext m
  have:((i:Int)+(m:Int) * 1).toNat=i+m:=by omega
  rw[this]
 rw[e]
 have:=pick_run xs i k
 rw[List.filterMap_map]at this
 have e2:((fun x=>xs[x]?) ∘ fun x=>i+x)=fun m=>xs[i+m]?:=rfl
 rw[e2]at this
 rw[this]
def gr{t sl:Addr}{items:Vw}{vl vu:Value}{lo hi:Option Int}{Q:Vq}(ht:IsTup s.heap t items)(hs:s.heap.IsSliceOf sl vl vu .none)(pl:IsPart vl lo)(pu:IsPart vu hi)
  (hw:¬(A1 items.size 0 lo=0/\A1 items.size items.size hi=items.size))
  (h:Q (.ref s.heap.objs.size) { s with heap:=s.heap.push { cls:=.type "tuple",data:=.seq ((items.toList.drop (A1 items.size 0 lo)).take (A1 items.size items.size hi - A1 items.size 0 lo)).toArray } })
  (hsz:items.size<=sizeLine):wpAny (model prog w) A (getItem (.ref t) (.ref sl)) Q E s:=by
 have DR:sizeOk (.seq ((items.toList.drop (A1 items.size 0 lo)).take (A1 items.size items.size hi - A1 items.size 0 lo)).toArray):=by
  show((items.toList.drop (A1 items.size 0 lo)).take (A1 items.size items.size hi - A1 items.size 0 lo)).toArray.size<=sizeLine
  rw[Jo,Ko,J9,MC]
  omega
 have hj:A1 items.size items.size hi<=items.size:=vA _ _ (Jm _) hi
 obtain⟨os,hos,hcs,hds⟩:=id hs
 have GA:s.TypeIs (.ref sl) "slice":=⟨os,hos,hcs⟩
 unfold getItem
 try with_reducible refine KQ ?_
 first|refine Ji (Jp ?_)|skip
 refine Ji (wpAny_sequenceKey ht.typeIs (by decide) ?_)
 refine Ji (Ka (name:=Str.ofString "__getitem__") ht.typeIs J3
  (KL J3 ht.typeIs entry_tuple_getitem ?_ (args_tuple_getitem _ _)))
 show wpAny _ _ (Builtin.Tuple.tupleItemsOf (.ref t) >>= _) _ _ s
 refine Ji (tupleItemsOf_ ht ?_)
 refine Ji (Mb GA ?_)
 rw[if_pos (by decide)]
 refine Ji (dS hs pl pu ?_)
 have hno:¬((((A1 items.size 0 lo:Nat):Int) == 0&&(1:Int) == 1&&(A1 items.size items.size hi - A1 items.size 0 lo) == items.size)=true):=by
  intro q
  rw[Bool.and_eq_true,Bool.and_eq_true]at q
  have q1:((A1 items.size 0 lo:Nat):Int)=0:=eq_of_beq q.1.1
  have q2:A1 items.size items.size hi - A1 items.size 0 lo=items.size:=eq_of_beq q.2
  exact hw ⟨by omega,by omega⟩
 show wpAny _ _ (if (((A1 items.size 0 lo:Nat):Int) == 0&&(1:Int) == 1&&(A1 items.size items.size hi - A1 items.size 0 lo) == items.size)=true then _ else _) _ _ s
 rw[if_neg hno,qd]
 first
  |exact Ji (m:=Builtin.Tuple.tupleExact _) (Kf (Jp ⟨_,rfl,Jp h⟩) DR)
  |exact Ji (m:=Builtin.Tuple.tupleExact _) (Kf (Ji (Jp (Jp ⟨_,rfl,Jp h⟩))) DR)
  |exact Ji (Ji (m:=Builtin.Tuple.tupleExact _) (Kf (Jp (Jp ⟨_,rfl,Jp h⟩)) DR))
  |exact Ji (Ji (m:=Builtin.Tuple.tupleExact _) (Kf (Jp ⟨_,rfl,Jp h⟩) DR))
end
end HT
namespace L2
open PySem PySem.Spec PyProof.Rows
abbrev TO:=St->Hp->(Option Int->Hp->Prop)->Prop
def PO(X:Cx)(e:Option Expr)(t:TO):Prop:=
 ∀(pins:Va) (s:Shared) (σ:St) (H:Hp) (Q:Option Int->Hp->Prop),Inv X pins σ H s->t σ H Q->
  wpAny (model X.prog X.w) X.A (evalPart e X.env) (fun u s'=>∃o H',Inv X pins σ H' s'/\IsPart u o/\Q o H') X.xe s
noncomputable def sN:TO:=fun _ H Q=>Q none H
noncomputable def xI(t:TE):TO:=fun σ H Q=>t σ H fun x H1=>∃i,x = .int i/\Q (some i) H1
section
variable {X:Cx} {e:Expr} {te:TE} {lo hi:Option Expr} {tl th:TO} {pos p2:Pos}
def sO:PO X none sN:=by
 intro pins s σ H Q I h
 rw[evalPart_none]
 exact Jp ⟨none,H,I,.none,h⟩
def sP(h:PE X e te):PO X (some e) (xI te):=by
 intro pins s σ H Q I hw
 rw[evalPart_some]
 refine AL (h pins s σ H _ I hw) fun u s1 ⟨x,H1,I1,r1,q1⟩=>?_
 obtain⟨i,rfl,q⟩:=q1
 obtain⟨t,rfl⟩:=r1
 exact⟨some i,H1,I1,.int i t,q⟩
def wR(X:Cx)(r:V->Option Int->Option Int->Hp->VK->Prop):Prop:=
 ∀(pins:Va) (s:Shared) (σ:St) (H:Hp) (x:V) (v vl vu:Value) (lo hi:Option Int) (sl:Addr) (Q:VK),Inv X pins σ H s->RelV x v->s.heap.IsSliceOf sl vl vu .none->IsPart vl lo->IsPart vu hi->r x lo hi H Q->
  ∃T id,typeLookup (.type T) "__getitem__" = pure (some (.builtin id))/\s.TypeIs v T/\wpAny (model X.prog X.w) X.A (getItem v (.ref sl)) (EP X pins σ Q) X.xe s
def Am(r:V->Option Int->Option Int->Hp->VK->Prop)(te:TE)(tl th:TO):TE:=fun σ H Q=>te σ H fun x H1=>tl σ H1 fun l H2=>th σ H2 fun u H3=>r x l u H3 Q
def qe{r:V->Option Int->Option Int->Hp->VK->Prop}(hr:wR X r)(he:PE X e te)(hl:PO X lo tl)(hu:PO X hi th):PE X (.Subscript e (.Slice lo hi none p2) pos) (Am r te tl th):=by
 intro pins s σ H Q I h
 refine Subscript_ (AL (he pins s σ H _ I h) fun v s1 ⟨x,H1,I1,r1,q1⟩=>?_)
 refine wpAny_Slice (AL (hl pins s1 σ H1 _ I1 q1) fun vl s2 ⟨l,H2,I2,pl,q2⟩=>AL (hu pins s2 σ H2 _ I2 q2) fun vu s3 ⟨u,H3,I3,pu,q3⟩=>?_)
 rw[evalPart_none]
 refine Jp ?_
 have I4:Inv X pins σ H3 { s3 with heap:=s3.heap.push { cls:=.type "slice",data:=.fields #[vl,vu,.none] } }:=I3.kept (t':=s3.toks) fun b ob q=>Jl _ q
 obtain⟨T,id,hT,ht,hg⟩:=hr pins { s3 with heap:=s3.heap.push { cls:=.type "slice",data:=.fields #[vl,vu,.none] } } σ H3 x v vl vu l u s3.heap.objs.size Q I4 r1 (Heap.IsSliceOf.new ..) pl pu q3
 show wpAny (model X.prog X.w) X.A (subscriptTail e (.Slice lo hi none p2) v (.ref s3.heap.objs.size)) (EP X pins σ Q) X.xe { s3 with heap:=s3.heap.push { cls:=.type "slice",data:=.fields #[vl,vu,.none] } }
 exact tail_any (ops:=[.ref s3.heap.objs.size,v]) ht hT hg (by with_unfolding_all rfl)
noncomputable def jd(xs:List V)(lo hi:Option Int):List V:=(xs.drop (HT.A1 xs.length 0 lo)).take (HT.A1 xs.length xs.length hi - HT.A1 xs.length 0 lo)
def iF(xs:List V)(lo hi:Option Int):(jd xs lo hi).length<=xs.length:=by
 unfold jd
 rw[Ko,J9]
 omega
noncomputable def zm(K:Vo):V->Option Int->Option Int->Hp->VK->Prop:=fun x lo hi H Q=>∃a xs,x = .ref a/\SqT K H a xs/\
 ¬(HT.A1 xs.length 0 lo=0/\HT.A1 xs.length xs.length hi=xs.length)/\∀p,H p=none->Q (.ref p) (upd H p (.tup (jd xs lo hi)))
def vB:wR X (zm X.K):=by
 intro pins s σ H x v vl vu lo hi sl Q I rx hs pl pu h
 obtain⟨a,xs,rfl,hx,hw,q⟩:=h
 cases rx
 obtain⟨its,r,ht,hz⟩:=I.tuple hx
 have hlen:its.toArray.size=xs.length:=by rw[Jo];exact r.length.symm
 refine⟨"tuple",_,J3.lookup,ht.typeIs,?_⟩
 refine HT.gr ht hs pl pu (by rw[hlen];exact hw) ?_ (by rw[hlen];exact hz)
 rw[hlen]
 refine⟨.ref s.heap.objs.size,_,I.laid (t':=s.toks) (o:=.tup (jd xs lo hi)) (fun b ob q=>Jl _ q) (Jm _) ?_,rfl,q _ (I.hok.fresh (Jm _))⟩
 exact⟨Jw (iF xs lo hi) hz,_,(r.drop (HT.A1 xs.length 0 lo)).take (HT.A1 xs.length xs.length hi - HT.A1 xs.length 0 lo),Bc.new _ _⟩
def xJ(K:Vo):R2:=fun x y H Q=>∃a b xs ys,x = .ref a/\y = .ref b/\SqT K H a xs/\SqT K H b ys/\xs≠[]/\xs.length+ys.length<=sizeLine/\
 (ys=[]->Q (.ref a) H)/\(ys≠[]->∀p,H p=none->Q (.ref p) (upd H p (.tup (xs++ys))))
def Vals.Dh{xs:List V}{us:Vv}(r:Vals xs us):us=[]↔xs=[]:=by
 cases r with
 |nil=>simp
 |cons _ _=>simp
def sQ:gq X (binaryOp .Add) (xJ X.K):=by
 intro pins s σ H x y v u Q I rx ry h
 obtain⟨a,b,xs,ys,rfl,rfl,ha,hb,hx,hz,q1,q2⟩:=h
 cases rx
 cases ry
 obtain⟨its,r1,p1,_⟩:=I.tuple ha
 obtain⟨its2,r2,p2,_⟩:=I.tuple hb
 refine HT.sM p1 p2 (fun z=>hx (r1.Dh.mp z)) (fun z=>⟨.ref a,H,I,rfl,q1 (r2.Dh.mp z)⟩) (fun z=>?_) (by rw[<-r1.length,<-r2.length];exact hz)
 refine⟨.ref s.heap.objs.size,_,I.laid (t':=s.toks) (o:=.tup (xs++ys)) (fun b ob q=>Jl _ q) (Jm _) ?_,rfl,q2 (fun w=>z (r2.Dh.mpr w)) _ (I.hok.fresh (Jm _))⟩
 exact⟨by rw[Jj];exact hz,_,r1.append r2,Bc.new _ _⟩
end
noncomputable def oE(n:Nat)(i:Int):Option Nat:=if 0<=i then (if i < n then some i.toNat else none) else if -(n:Int)<=i then some (i+n).toNat else none
noncomputable def Be{α:Type}(xs:List α)(i:Int):Option α:=(oE xs.length i).bind fun j=>xs[j]?
def nL{n:Nat}{i:Int}{j:Nat}(h:oE n i=some j):seqIndex? i n=some j/\j < n/\-(n:Int)<=i/\i < n:=by
 unfold oE at h
 by_cases h0:0<=i
 ·rw[if_pos h0]at h
  by_cases h1:i < n
  ·rw[if_pos h1]at h
   have e:i.toNat=j:=Kc h
   exact⟨by rw[seqIndex_of h0 h1,e],by omega,by omega,h1⟩
  ·rw[if_neg h1]at h;cases h
 ·rw[if_neg h0]at h
  by_cases h1:-(n:Int)<=i
  ·rw[if_pos h1]at h
   have e:(i+n).toNat=j:=Kc h
   exact⟨by rw[seqIndex_neg (by omega) h1,e],by omega,h1,by omega⟩
  ·rw[if_neg h1]at h;cases h
def kS{α:Type}{xs:List α}{i:Int}{v:α}(h:Be xs i=some v):∃j,seqIndex? i xs.length=some j/\xs[j]?=some v/\j < xs.length/\-(xs.length:Int)<=i/\i < xs.length:=by
 unfold Be at h
 cases e:oE xs.length i with
 |none=>rw[e]at h;cases h
 |some j=>
  rw[e]at h
  obtain⟨h1,h2,h3,h4⟩:=nL e
  exact⟨j,h1,h,h2,h3,h4⟩
def cP{α:Type}{xs:List α}{j:Nat}{v:α}(h:xs[j]?=some v):Be xs (j:Int)=some v:=by
 have hj:j < xs.length:=(JJ.mp h).1
 have e:oE xs.length (j:Int)=some j:=by
  unfold oE
  rw[if_pos (by omega),if_pos (by omega)];simp
 unfold Be;rw[e];exact h
def i0(b:Expr):Prop:=∀o i,subscripted b false o i=operate [o,i] (getItem o i)
def wS(X:Cx)(r:R2):Prop:=
 ∀(value slice:Expr) (pins:Va) (s:Shared) (σ:St) (H:Hp) (x y:V) (v u:Value) (Q:VK),Inv X pins σ H s->RelV x v->RelV y u->r x y H Q->
  subscripted slice false v u=operate [v,u] (getItem v u)->wpAny (model X.prog X.w) X.A (subscriptTail value slice v u) (EP X pins σ Q) X.xe s
def vC(X:Cx)(id:String)(r:V->List V->Hp->VK->Prop):Prop:=
 ∀(pins:Va) (s:Shared) (σ:St) (H:Hp) (x:V) (xs:List V) (v:Value) (us:Vv) (Q:VK),Inv X pins σ H s->RelV x v->Vals xs us->r x xs H Q->
  wpAny (model X.prog X.w) X.A (call (.builtin id) (v::us)) (EP X pins σ Q) X.xe s
section
variable {X:Cx} {a b:Expr} {ta tb:TE} {pos:Pos}
def xK{r:R2}(hr:wS X r)(ha:PE X a ta)(hb:PE X b tb)(hs:i0 b):PE X (.Subscript a b pos) (xx r ta tb):=by
 intro pins s σ H Q I h
 exact Subscript_ (vk ha hb I h fun v u s2 x y H2 I2 rx ry q=>hr a b pins s2 σ H2 x y v u Q I2 rx ry q (hs _ _))
def zn(K:Vo):R2:=fun x y H Q=>∃p xs i v,x = .ref p/\y = .int i/\SqL K H p xs/\Be xs i=some v/\Q v H
def zo(K:Vo):R2:=fun x y H Q=>∃p xs i v,x = .ref p/\y = .int i/\SqT K H p xs/\Be xs i=some v/\Q v H
def zp:R2:=fun x y H Q=>∃z i c,x = .str z/\y = .int i/\z.length<=sizeLine/\Be z.cps.toList i=some c/\Q (.str ⟨#[c]⟩) H
def nM:wS X (zn X.K):=by
 intro value slice pins s σ H x y v u Q I rx ry h hs
 obtain⟨p,xs,i,z,rfl,rfl,hq,he,q⟩:=h
 cases rx
 obtain⟨t,rfl⟩:=ry
 obtain⟨its,r,pl,hz⟩:=I.list hq
 obtain⟨j,h1,h2,h3,h4,h5⟩:=kS he
 obtain⟨w,ew,rw'⟩:=r.get h2
 have hl:=r.length
 have hn:=hW
 have fin:EP X pins σ Q w s:=⟨z,H,I,rw',q⟩
 by_cases h0:0<=i
 ·have hj:i.toNat=j:=by
   rw[seqIndex_of h0 h5]at h1
   exact Kc h1
  exact item_listR pl.isList h0 (by omega) (by rw[hj];simpa using ew) fin hs
 ·have hj:(i+(its.toArray.size:Int)).toNat=j:=by
   rw[seqIndex_neg (by omega) h4]at h1
   rw[Jo,<-hl]
   exact Kc h1
  exact subscriptTail_builtinR (x:=w) pl.isList.typeIs slot_list_getitem.lookup
   (wpAny_getItem_list_neg (Q:=fun r s'=>r=w/\EP X pins σ Q r s') pl.isList (by omega) (by rw[Jo]<;>omega) (by omega) (by rw[hj];simpa using ew) ⟨rfl,fin⟩) hs
def vD:wS X (zo X.K):=by
 intro value slice pins s σ H x y v u Q I rx ry h hs
 obtain⟨p,xs,i,z,rfl,rfl,hq,he,q⟩:=h
 cases rx
 obtain⟨t,rfl⟩:=ry
 obtain⟨its,r,pl,hz⟩:=I.tuple hq
 obtain⟨j,h1,h2,h3,h4,h5⟩:=kS he
 obtain⟨w,ew,rw'⟩:=r.get h2
 have hl:=r.length
 have hn:=hW
 have fin:EP X pins σ Q w s:=⟨z,H,I,rw',q⟩
 exact subscriptTail_builtinR (x:=w) pl.typeIs slot_tuple_getitem.lookup
  (getItem_tuple (j:=j) (Q:=fun r s'=>r=w/\EP X pins σ Q r s') pl (by omega) (by omega) (by rw[Jo,<-hl];exact h1) (by simpa using ew) ⟨rfl,fin⟩) hs
def vE:wS X zp:=by
 intro value slice pins s σ H x y v u Q I rx ry h hs
 obtain⟨z,i,c,rfl,rfl,hz,he,q⟩:=h
 obtain⟨t,rfl⟩:=rx
 obtain⟨t',rfl⟩:=ry
 obtain⟨j,h1,h2,h3,h4,h5⟩:=kS he
 have hl:z.cps.toList.length=z.length:=by simp[Str.length]
 rw[hl]at h1 h4 h5
 have hn:=hW
 exact tail_any (typeIs_str s z t) slot_str_getitem.lookup (getItem_str (c:=c) (by
  have e1:decide (i < -(2 ^ 63:Int))=false:=JK (by omega)
  have e2:decide (i>=2 ^ 63)=false:=JK (by omega)
  rw[e1,e2,Bool.or_false]) (by rw[h1];simpa using h2) ⟨.str ⟨#[c]⟩,H,I.tok _,⟨_,rfl⟩,q⟩) hs
def mL(its:Vv)(n j:Nat)(u:Value):Obj.mapSeq (·.setIfInBounds j u) { cls:=.type "list",data:=.seq its.toArray n }={ cls:=.type "list",data:=.seq (its.set j u).toArray n }:=by
 simp[Obj.mapSeq]
theorem Inv.lst{pins:Va}{σ:St}{H:Hp}{s:Shared}{p:Addr}{xs:List V}(I:Inv X pins σ H s)(h:H p=some (.lst xs)) :
  ∃(its:Vv) (n:Nat),Vals xs its/\s.heap.get? p=some { cls:=.type "list",data:=.seq its.toArray n }/\xs.length<=sizeLine:=by
 obtain⟨z,its,n,r,e⟩:=I.hok p _ h
 exact⟨its,n,r,e,z⟩
def Inv.Fh{pins:Va}{σ:St}{H:Hp}{s:Shared}{p:Addr}{xs ys:List V}{its its':Vv}{n n':Nat}{f:Obj->Obj}(I:Inv X pins σ H s)(h:H p=some (.lst xs))
  (ho:s.heap.get? p=some { cls:=.type "list",data:=.seq its.toArray n }) (hf:f { cls:=.type "list",data:=.seq its.toArray n }={ cls:=.type "list",data:=.seq its'.toArray n' }) (r:Vals ys its') (hz:ys.length<=sizeLine) (t:Nat) :
  Inv X pins σ (upd H p (.lst ys)) { s with heap:=s.heap.update p f,toks:=t }:=by
 have e:(s.heap.update p f).get? p=some { cls:=.type "list",data:=.seq its'.toArray n' }:=by
  rw[Kr f ho (by rw[hf]<;>rfl),hf]
 refine I.write (x:=p) (e:=p) (by rw[h];trivial) (.inl rfl) (fun b u hb q=>(Kp _ _ (Lc hb)).trans q) ⟨_,e⟩ ?_
 exact⟨hz,its',n',r,e⟩
noncomputable def xL:V->V->V->Hp->(Hp->Prop)->Prop:=fun o i v H Q=>∃p xs k j,o = .ref p/\i = .int k/\H p=some (.lst xs)/\oE xs.length k=some j/\Q (upd H p (.lst (xs.set j v)))
def qf:sB X xL:=by
 intro pins s σ H o i v ov iv u Q I ro ri rv h
 obtain⟨p,xs,k,j,rfl,rfl,hp,hj,q⟩:=h
 cases ro
 obtain⟨t,rfl⟩:=ri
 obtain⟨its,n,r,ho,hz⟩:=I.lst hp
 obtain⟨h1,h2,h3,h4⟩:=nL hj
 have hl:=r.length
 have hn:=hW
 have I':Inv X pins σ (upd H p (.lst (xs.set j v))) { s with heap:=s.heap.update p (Obj.mapSeq (·.setIfInBounds j u)) }:=
  I.Fh hp ho (mL its n j u) (r.set rv j) (by rw[List.length_set];exact hz) s.toks
 by_cases h0:0<=k
 ·have hk:k.toNat=j:=by
   rw[seqIndex_of h0 h4]at h1
   exact Kc h1
  exact PySem.W.ki_setAt ho h0 (by omega) (by rw[Jo,<-hl];exact h4) (by rw[hk];exact⟨_,I',q⟩)
 ·have hk:(k+(its.toArray.size:Int)).toNat=j:=by
   rw[seqIndex_neg (by omega) h3]at h1
   rw[Jo,<-hl]
   exact Kc h1
  exact PySem.W.ki_setBack ho (by omega) (by rw[Jo,<-hl];exact h3) (by omega) (by rw[hk];exact⟨_,I',q⟩)
def kT(lo hi:Option Int)(n:Nat):(sliceBounds lo hi none n).1=((HT.A1 n 0 lo:Nat):Int)/\(sliceBounds lo hi none n).2.1=((HT.A1 n n hi:Nat):Int)/\(sliceBounds lo hi none n).2.2=1:=by
 refine⟨?_,?_,rfl⟩
 ·cases lo with
  |none=>simp[sliceBounds,HT.A1]
  |some i=>
   simp only[sliceBounds,HT.A1,Option.getD_none,show(1:Int) > 0 by decide,JW]
   by_cases h:i < 0
   ·simp only[h,JW]<;>omega
   ·simp only[h,JR]<;>omega
 ·cases hi with
  |none=>simp[sliceBounds,HT.A1]
  |some i=>
   simp only[sliceBounds,HT.A1,Option.getD_none,show(1:Int) > 0 by decide,JW]
   by_cases h:i < 0
   ·simp only[h,JW]<;>omega
   ·simp only[h,JR]<;>omega
def jY(its:Vv)(lo hi:Option Int):slicePick its.toArray lo hi none=((its.drop (HT.A1 its.length 0 lo)).take (HT.A1 its.length its.length hi - HT.A1 its.length 0 lo)).toArray:=by
 obtain⟨h1,h2,h3⟩:=kT lo hi its.toArray.size
 unfold slicePick
 rw[h1,h2,h3]
 simp only[sliceRange_one,pick_run,Jo]<;>rfl
noncomputable def zq(K:Vo):V->Option Int->Option Int->Hp->VK->Prop:=fun x lo hi H Q=>∃a xs,x = .ref a/\SqL K H a xs/\∀p,H p=none->Q (.ref p) (upd H p (.lst (jd xs lo hi)))
def nN:wR X (zq X.K):=by
 intro pins s σ H x v vl vu lo hi sl Q I rx hs pl pu h
 obtain⟨a,xs,rfl,hx,q⟩:=h
 cases rx
 obtain⟨its,r,ht,hz⟩:=I.list hx
 have hlen:=r.length
 refine⟨"list",_,slot_list_getitem.lookup,ht.isList.typeIs,?_⟩
 refine wpAny_getItem_list_slice ht.isList hs pl pu .none (by simp) ?_ (by rw[Jo]<;>omega)
 rw[jY,<-hlen]
 refine⟨.ref s.heap.objs.size,_,I.laid (t':=s.toks) (o:=.lst (jd xs lo hi)) (fun b ob q=>Jl _ q) (Jm _) ?_,rfl,q _ (I.hok.fresh (Jm _))⟩
 exact⟨Jw (iF xs lo hi) hz,_,0,(r.drop (HT.A1 xs.length 0 lo)).take (HT.A1 xs.length xs.length hi - HT.A1 xs.length 0 lo),JA _ rfl⟩
def kU:gq X (compareOp .NotIn) (fun x y H Q=>∃i j,x = .str i/\y = .str j/\Q (.bl (!(!(Builtin.Str.occurrences j i 0 j.length 1).isEmpty))) H):=by
 intro pins s σ H x y v u Q I rx ry h
 obtain⟨i,j,rfl,rfl,q⟩:=h
 obtain⟨t,rfl⟩:=rx
 obtain⟨t',rfl⟩:=ry
 exact notIn_str ⟨.bl _,H,I,rfl,q⟩
def d5:fI X (.builtin "len") (fun xs H Q=>∃p ys,xs=[.ref p]/\(SqL X.K H p ys\/SqT X.K H p ys)/\Q (.int ys.length) H):=by
 intro pins s σ H xs us Q I r h
 obtain⟨p,ys,rfl,hq,q⟩:=h
 obtain⟨u,rfl,rx⟩:=eP r
 cases rx
 have hn:=hW
 rcases hq with hq|hq
 ·obtain⟨its,r',pl,hz⟩:=I.list hq
  have hlen:=r'.length
  exact Calls.call_len_list pl.isList (by simp only[Jo]<;>omega) ⟨.int ys.length,H,I.tok _,⟨s.toks+1,by rw[Jo,hlen]⟩,q⟩
 ·obtain⟨its,r',pl,hz⟩:=I.tuple hq
  have hlen:=r'.length
  exact len_tuple pl (by simp only[Jo]<;>omega) ⟨.int ys.length,H,I.tok _,⟨s.toks+1,by rw[Jo,hlen]⟩,q⟩
def kW:fI X (.builtin "len") (fun xs H Q=>∃z,xs=[.str z]/\z.length<=sizeLine/\Q (.int z.length) H):=by
 intro pins s σ H xs us Q I r h
 obtain⟨z,rfl,hz,q⟩:=h
 obtain⟨u,rfl,t,rfl⟩:=eP r
 have hn:=hW
 exact len_str (by omega) ⟨.int z.length,H,I.tok _,⟨_,rfl⟩,q⟩
def fJ:fI X (.type "tuple") (fun xs H Q=>∃p ys,xs=[.ref p]/\((SqL X.K H p ys/\∀l,H l=none->Q (.ref l) (upd H l (.tup ys)))\/(SqT X.K H p ys/\Q (.ref p) H))):=by
 intro pins s σ H xs us Q I r h
 obtain⟨p,ys,rfl,h⟩:=h
 obtain⟨u,rfl,rx⟩:=eP r
 cases rx
 rcases h with⟨hq,q⟩|⟨hq,q⟩
 ·obtain⟨its,r',pl,hz⟩:=I.list hq
  have hlen:=r'.length
  refine call_tuple_list pl.isList (fun h' kp=>?_) (by simp only[Jo]<;>omega)
  have I1:Inv X pins σ H { s with heap:=h' }:=I.kept (t':=s.toks) kp
  have I2:Inv X pins σ (upd H h'.objs.size (.tup ys)) { s with heap:=h'.push { cls:=.type "tuple",data:=.seq its.toArray } }:=
   I1.laid (t':=s.toks) (fun b o e=>Jl _ e) (Jm _) (show A3 X.prog X.w _ _ _ (.tup ys)from ⟨hz,its,r',Bc.new _ _⟩)
  exact⟨.ref h'.objs.size,_,I2,rfl,q _ (I1.hok.fresh (Jm _))⟩
 ·obtain⟨its,r',pl,hz⟩:=I.tuple hq
  exact call_tuple_same pl ⟨.ref p,H,I,rfl,q⟩
def yN(K:Vo)(T:String)(x:V)(H:Hp):Prop:=match x with
 | .str _=>T = "str"
 | .int _=>T = "int"
 | .ref p=>(T = "list"/\∃xs,SqL K H p xs)\/(T = "tuple"/\∃o,K.lookup p=some o/\o.cls = .type "tuple"/\o.dict=none) \/
   (T = "dict"/\((∃kvs,H p=some (.dK kvs))\/∃kvs,H p=some (.dT kvs)))\/(T = "set"/\∃S n,H p=some (.set S n))
 |_=>False
def qg{pins:Va}{σ:St}{H:Hp}{s:Shared}{T:String}{x:V}{v:Value}(I:Inv X pins σ H s)(r:RelV x v)(ty:yN X.K T x H) :
  s.TypeIs v T/\∀a,v = .ref a->∃ob,s.heap.get? a=some ob/\ob.dict=none:=by
 cases x with
 |str z=>
  obtain⟨t,rfl⟩:=r
  cases (show T = "str" from ty)
  exact⟨typeIs_str s z t,fun _ e=>nomatch e⟩
 |int i=>
  obtain⟨t,rfl⟩:=r
  cases (show T = "int" from ty)
  exact⟨typeIs_int s i t,fun _ e=>nomatch e⟩
 |ref p=>
  cases r
  rcases ty with⟨rfl,xs,hq⟩|⟨rfl,o,hk,hc,hd⟩|⟨rfl,hk⟩|⟨rfl,S,n,hk⟩
  ·obtain⟨its,_,pl,_⟩:=I.list hq
   refine⟨pl.isList.typeIs,fun a e=>?_⟩
   cases e
   obtain⟨o,n,e,c,hd,_⟩:=pl
   exact⟨o,e,hd⟩
  ·refine⟨⟨o,I.Ej p o hk,hc⟩,fun a e=>?_⟩
   cases e
   exact⟨o,I.Ej _ o hk,hd⟩
  ·have z:∃o,s.heap.get? p=some o/\o.ExactDict:=by
    rcases hk with⟨kvs,hk⟩|⟨kvs,hk⟩
    ·obtain⟨_,_,_,_,o,_,_,e,ex,_⟩:=I.hok p _ hk
     exact⟨o,e,ex⟩
    ·obtain⟨_,_,_,_,o,_,_,e,ex,_⟩:=I.hok p _ hk
     exact⟨o,e,ex⟩
   obtain⟨o,e,ex⟩:=z
   refine⟨⟨o,e,ex.1⟩,fun a e2=>?_⟩
   cases e2
   exact⟨o,e,ex.2.1⟩
  ·obtain⟨o,_,_,_,e,ex,_⟩:=I.hok p _ hk
   refine⟨⟨o,e,ex.1⟩,fun a e2=>?_⟩
   cases e2
   exact⟨o,e,ex.2.1⟩
 |_=>exact False.elim ty
def zr(K:Vo)(T:String)(r:V->List V->Hp->VK->Prop)(to:TE):TE:=fun σ H Q=>to σ H fun x H1=>yN K T x H1/\r x [] H1 Q
def An(K:Vo)(T:String)(r:V->List V->Hp->VK->Prop)(to:TE)(t:TA):TE:=fun σ H Q=>to σ H fun x H1=>yN K T x H1/\t σ H1 fun xs H2=>r x xs H2 Q
variable {o e:Expr} {es:List Expr} {to:TE} {t:TA} {name:Str} {apos cpos:Pos} {T id:String} {r:V->List V->Hp->VK->Prop}
def vF(pa:PlainAttrs T)(slot:Slot T name id)(hty:typeOf (.builtin id)=pure (.type "method_descriptor"))(hm:vC X id r)(ho:PE X o to)
  (hbase:attributeBase o name X.env (eval o X.env)=eval o X.env:=by rfl) (hline:(apos.endLine == cpos.line)=true:=by rfl):PE X (.Call (.Attribute o name apos) [] [] cpos) (zr X.K T r to):=by
 intro pins s σ H Q I h
 refine wpAny_Call_method0_late hbase hline (AL (ho pins s σ H _ I h) fun v s1 ⟨x,H1,I1,r1,ty,q1⟩=>?_)
 obtain⟨h1,h2⟩:=qg I1 r1 ty
 exact⟨T,id,pa,slot,hty,h1,h2,K4 rfl (PySem.evalArgs_none (hm pins s1 σ H1 x [] v [] Q I1 r1 .nil q1))⟩
def xM(pa:PlainAttrs T)(slot:Slot T name id)(hty:typeOf (.builtin id)=pure (.type "method_descriptor"))(hm:vC X id r)(ho:PE X o to)(ha:PA X (e::es) t)
  (hbase:attributeBase o name X.env (eval o X.env)=eval o X.env:=by rfl)
  (hfew:((backTo cpos (starEach (e::es) X.env)).all (fun x=>!x.1)&&(backToKw cpos (keywordEach [] X.env)).all (fun x=>x.1.isSome)
   && decide ((e::es).length+([]:List Keyword).length+(if ([]:List Keyword).isEmpty then 0 else 1) < 30))=true:=by rfl)
  (hline:(apos.endLine == cpos.line)=true:=by rfl) (hs:starEach (e::es) X.env=(false,eval e X.env)::starEach es X.env:=by rfl) (hplain:(backTo cpos (starEach es X.env)).any (·.1)=false:=by rfl) :
  PE X (.Call (.Attribute o name apos) (e::es) [] cpos) (An X.K T r to t):=by
 intro pins s σ H Q I h
 refine wpAny_Call_method_late hbase hfew hline rfl (AL (ho pins s σ H _ I h) fun v s1 ⟨x,H1,I1,r1,ty,q1⟩=>?_)
 obtain⟨h1,h2⟩:=qg I1 r1 ty
 refine⟨T,id,pa,slot,hty,h1,h2,?_⟩
 have hA:=ha cpos pins s1 σ H1 _ I1 q1
 rw[hs]at hA ⊢
 refine K4 (by show(false || (backTo cpos (starEach es X.env)).any (·.1))=false;rw[hplain]<;>rfl) (LD ?_)
 exact AL hA fun us s2 ⟨vs,H2,I2,r2,q2⟩=>hm pins s2 σ H2 x vs v us Q I2 r1 r2 q2
end
def wT(X:Cx)(id:String)(r:V->List V->Hp->VK->Prop):Prop:=
 ∀(pins:Va) (s:Shared) (σ:St) (H:Hp) (x:V) (xs:List V) (v:Value) (us:Vv) (Q:VK),Inv X pins σ H s->RelV x v->Vals xs us->r x xs H Q->
  wpAny (model X.prog X.w) X.A (call (.builtin id) (v::us)) (EP X pins σ Q) X.xe s
theorem Vals.one:∀{x:V} {us:Vv},Vals [x] us->∃u,us=[u]/\RelV x u
 |_,_,.cons r .nil=>⟨_,rfl,r⟩
theorem Vals.zero:∀{us:Vv},Vals [] us->us=[]
 |_,.nil=>rfl
theorem Vals.dropLast{xs:List V}{us:Vv}(h:Vals xs us):Vals xs.dropLast us.dropLast:=by
 induction h with
 |nil=>exact .nil
 |cons r t ih=>
  cases t with
  |nil=>exact .nil
  |cons q t'=>exact .cons r ih
theorem Vals.eraseIdx:∀{xs:List V} {us:Vv} (i:Nat),Vals xs us->Vals (xs.eraseIdx i) (us.eraseIdx i)
 |_,_,_,.nil=>.nil
 |_,_,0,.cons _ t=>t
 |_,_,i+1,.cons r t=>.cons r (Vals.eraseIdx i t)
theorem Vals.reverse{xs:List V}{us:Vv}(h:Vals xs us):Vals xs.reverse us.reverse:=by
 induction h with
 |nil=>exact .nil
 |cons r t ih=>rw[Mc,Mc];exact Vals.append ih (.cons r .nil)
theorem Vals.rep{xs:List V}{us:Vv}(h:Vals xs us):∀k:Nat,Vals (List.replicate k xs).flatten (List.replicate k us).flatten
 |0=>.nil
 |k+1=>by
  rw[Kd,Kd,Li,Li]
  exact Vals.append h (Vals.rep h k)
def mM{α:Type}(l:List α):l.eraseIdx (l.length - 1)=l.dropLast:=by
 induction l with
 |nil=>rfl
 |cons a r ih=>
  cases r with
  |nil=>rfl
  |cons b r=>
   have e:(a::b::r).length - 1=((b::r).length - 1)+1:=by
    have h1:(a::b::r).length=r.length+2:=rfl
    have h2:(b::r).length=r.length+1:=rfl
    omega
   rw[e,List.eraseIdx_cons_succ,ih]
   all_goals rfl
theorem kj{α:Type}:∀(l:List α) (i:Nat),(l.eraseIdx i).length<=l.length
 |[],_=>Jm _
 |_::_,0=>Nat.le_succ _
 |_::r,i+1=>Nat.succ_le_succ (kj r i)
theorem kl(its:Vv):∀(k:Nat) (acc:Vv),
  List.foldl (fun x1 x2=>x1++x2) acc.toArray (List.replicate k its.toArray)=(acc++(List.replicate k its).flatten).toArray
 |0,acc=>by simp
 |k+1,acc=>by
  have e:acc.toArray++its.toArray=(acc++its).toArray:=by simp
  have e2:(acc++its)++(List.replicate k its).flatten=acc++(List.replicate (k+1) its).flatten:=by
   rw[Kd,Li,Me]
  rw[<-e2,<-kl its k (acc++its),<-e,Kd,List.foldl_cons]
section
variable {X:Cx} {pins:Va} {σ:St} {H:Hp} {s:Shared} {l b:Addr} {xs ys zs:List V}
def Inv.D8{its its':Vv}{n:Nat}{f:Array Value->Array Value}{t':Nat}(I:Inv X pins σ H s)(hH:H l=some (.lst xs))
  (e:s.heap.get? l=some { cls:=.type "list",data:=.seq its.toArray n }) (hf:f its.toArray=its'.toArray) (hv:Vals ys its') (hz:ys.length<=sizeLine) :
  Inv X pins σ (upd H l (.lst ys)) { s with heap:=s.heap.update l (Obj.mapSeq f),toks:=t' }:=by
 have q:=PySem.IsL.update e f
 rw[hf]at q
 refine I.write (x:=l) (e:=l) (by rw[hH];exact trivial) (.inl rfl) (fun b' u hb hu=>(Kp s.heap (Obj.mapSeq f) (Lc hb)).trans hu) ⟨_,q⟩ ?_
 exact⟨hz,its',_,hv,q⟩
def Inv.FN{its:Vv}{t':Nat}(I:Inv X pins σ H s)(hv:Vals ys its)(hz:ys.length<=sizeLine) :
  Inv X pins σ (upd H s.heap.objs.size (.lst ys)) { s with heap:=s.heap.push { cls:=.type "list",data:=.seq its.toArray },toks:=t' }:=
 I.laid (fun _ _ q=>Jl _ q) (Jm _) ⟨hz,its,0,hv,JA _ rfl⟩
theorem Inv.fresh(I:Inv X pins σ H s):H s.heap.objs.size=none:=I.hok.fresh (Jm _)
def Inv.C_(I:Inv X pins σ H s)(hH:H l=some (.lst xs)):xs.length<=sizeLine/\∃(its:Vv) (n:Nat),Vals xs its/\xs.length=its.length/\s.heap.get? l=some { cls:=.type "list",data:=.seq its.toArray n }:=by
 obtain⟨z,its,n,r,e⟩:=I.hok l _ hH
 exact⟨z,its,n,r,r.length,e⟩
def lL{n:Nat}(h:n<=sizeLine):Builtin.List.listTooLong n=false:=by
 unfold Builtin.List.listTooLong
 exact JK (by omega)
end
section
variable {X:Cx}
noncomputable def sR:V->List V->Hp->VK->Prop:=fun x vs H Q=>∃l xs y,x = .ref l/\vs=[y]/\H l=some (.lst xs)/\xs.length < sizeLine/\Q .non (upd H l (.lst (xs++[y])))
def oF:wT X "list.append" sR:=by
 intro pins s σ H x vs v us Q I rx rv h
 obtain⟨l,xs,y,rfl,rfl,hH,hz,q⟩:=h
 cases rx
 obtain⟨u,rfl,ru⟩:=rv.one
 obtain⟨z,its,n,r,hl,e⟩:=I.C_ hH
 refine LF F.slot_list_append ⟨_,e,rfl⟩ F.entry_list_append (F.args_list_append_2 _ _) (PySem.list_append l its.toArray n u (by rw[Jo];omega)) ⟨e,?_⟩
 refine⟨.non,_,I.D8 (its':=its++[u]) hH e (by simp) (r.append (.cons ru .nil)) ?_,rfl,q⟩
 rw[Jj,Jy]
 omega
noncomputable def sU:V->List V->Hp->VK->Prop:=fun x vs H Q=>∃l b xs zs,x = .ref l/\vs=[.ref b]/\H l=some (.lst xs)/\H b=some (.lst zs)/\xs.length+zs.length<=sizeLine/\Q .non (upd H l (.lst (xs++zs)))
def oG:wT X "list.extend" sU:=by
 intro pins s σ H x vs v us Q I rx rv h
 obtain⟨l,b,xs,zs,rfl,rfl,hH,hB,hz,q⟩:=h
 cases rx
 obtain⟨u,rfl,ru⟩:=rv.one
 cases ru
 obtain⟨z,its,n,r,hl,e⟩:=I.C_ hH
 obtain⟨z2,its2,n2,r2,hl2,e2⟩:=I.C_ hB
 have hsz:its.toArray.size+its2.toArray.size<=sizeLine:=by rw[Jo,Jo];omega
 have Ek:¬(!its.toArray.isEmpty&&Builtin.List.listTooLong (its.toArray.size+its2.toArray.size))=true:=by
  rw[lL hsz,Bool.and_false]
  exact JH
 refine LF F.slot_list_extend ⟨_,e,rfl⟩ F.entry_list_extend (F.args_list_extend_2 _ _)
  (AutoSeq1.list_extend_list_list_0 l its.toArray n b its2.toArray n2 Ek (by rw[Jo];omega) (by omega)) ⟨e,e2,?_⟩
 refine⟨.non,_,I.D8 (its':=its++its2) hH e (by simp) (r.append r2) ?_,rfl,q⟩
 rw[Jj]
 omega
noncomputable def zt:V->List V->Hp->VK->Prop:=fun x vs H Q=>∃l xs y,x = .ref l/\vs=[]/\H l=some (.lst xs)/\xs[xs.length - 1]?=some y/\Q y (upd H l (.lst xs.dropLast))
def vG:wT X "list.pop" zt:=by
 intro pins s σ H x vs v us Q I rx rv h
 obtain⟨l,xs,y,rfl,rfl,hH,hy,q⟩:=h
 cases rx
 have GB:=rv.zero
 subst GB
 obtain⟨z,its,n,r,hl,e⟩:=I.C_ hH
 obtain⟨u,hu,ru⟩:=r.get hy
 have hy':its.toArray[its.toArray.size - 1]?=some u:=by
  show its.toArray[its.length - 1]?=some u
  rw[<-Array.getElem?_toList,<-hl]
  exact hu
 refine LF F.slot_list_pop ⟨_,e,rfl⟩ F.entry_list_pop (F.args_list_pop_1 _) (MeetsSeq.list_pop_last l its.toArray n u hy' (by rw[Jo];omega)) ⟨e,?_⟩
 refine⟨y,_,I.D8 (its':=its.dropLast) hH e ?_ r.dropLast ?_,ru,q⟩
 ·show its.toArray.eraseIdxIfInBounds (its.toArray.size - 1)=its.dropLast.toArray
  rw[Jo,Mk,mM]
 ·rw[List.length_dropLast]
  omega
noncomputable def vH:V->List V->Hp->VK->Prop:=fun x vs H Q=>∃l xs i k y,x = .ref l/\vs=[.int i]/\H l=some (.lst xs)/\-(2 ^ 63)<=i/\i < 2 ^ 63/\seqIndex? i xs.length=some k/\xs[k]?=some y/\Q y (upd H l (.lst (xs.eraseIdx k)))
def qh:wT X "list.pop" vH:=by
 intro pins s σ H x vs v us Q I rx rv h
 obtain⟨l,xs,i,k,y,rfl,rfl,hH,h1,h2,hk,hy,q⟩:=h
 cases rx
 obtain⟨u,rfl,ru⟩:=rv.one
 obtain⟨t,rfl⟩:=ru
 obtain⟨z,its,n,r,hl,e⟩:=I.C_ hH
 obtain⟨w,hw,rw'⟩:=r.get hy
 refine LF F.slot_list_pop ⟨_,e,rfl⟩ F.entry_list_pop (F.args_list_pop_2 _ _)
  (MeetsSeq.list_pop_at l its.toArray n i t k w (fitsIndex_both h1 h2) (by rw[Jo,<-hl];exact hk) (by rw[<-Array.getElem?_toList];exact hw) (by rw[Jo];omega)) ⟨e,?_⟩
 refine⟨y,_,I.D8 (its':=its.eraseIdx k) hH e ?_ (r.eraseIdx k) ?_,rw',q⟩
 ·show its.toArray.eraseIdxIfInBounds k=(its.eraseIdx k).toArray
  rw[Mk]
 ·have:=kj xs k
  omega
noncomputable def qi:V->List V->Hp->VK->Prop:=fun x vs H Q=>∃l xs,x = .ref l/\vs=[]/\H l=some (.lst xs)/\Q .non (upd H l (.lst xs.reverse))
def mN:wT X "list.reverse" qi:=by
 intro pins s σ H x vs v us Q I rx rv h
 obtain⟨l,xs,rfl,rfl,hH,q⟩:=h
 cases rx
 have GB:=rv.zero
 subst GB
 obtain⟨z,its,n,r,hl,e⟩:=I.C_ hH
 refine LF F.slot_list_reverse ⟨_,e,rfl⟩ F.entry_list_reverse (F.args_list_reverse_1 _) (AutoSeq1.list_reverse_list_0 l its.toArray n (by rw[Jo];omega)) ⟨e,?_⟩
 refine⟨.non,_,I.D8 (its':=its.reverse) hH e (by simp) r.reverse ?_,rfl,q⟩
 rw[LP]
 omega
def zu:R2:=fun x y H Q=>∃l b xs zs,x = .ref l/\y = .ref b/\H l=some (.lst xs)/\H b=some (.lst zs)/\xs.length+zs.length<=sizeLine/\∀p,H p=none->Q (.ref p) (upd H p (.lst (xs++zs)))
def vI:gq X (binaryOp .Add) zu:=by
 intro pins s σ H x y v u Q I rx ry h
 obtain⟨l,b,xs,zs,rfl,rfl,hH,hB,hz,q⟩:=h
 cases rx
 cases ry
 obtain⟨z,its,n,r,hl,e⟩:=I.C_ hH
 obtain⟨z2,its2,n2,r2,hl2,e2⟩:=I.C_ hB
 refine PySem.P.add_list e e2 ?_ (by rw[Jo,Jo];omega)
 have ea:its.toArray++its2.toArray=(its++its2).toArray:=by simp
 rw[ea]
 exact⟨.ref _,_,I.FN (t':=s.toks) (r.append r2) (by rw[Jj];omega),rfl,q _ I.fresh⟩
def zv:R2:=fun x y H Q=>∃l k xs,x = .ref l/\y = .int k/\H l=some (.lst xs)/\-(2 ^ 63)<=k/\k < 2 ^ 63/\xs.length * k.toNat<=sizeLine/\
 ∀p,H p=none->Q (.ref p) (upd H p (.lst (List.replicate k.toNat xs).flatten))
def sV{α:Type}(xs:List α)(k:Nat):(List.replicate k xs).flatten.length=k * xs.length:=by
 induction k with
 |zero=>simp
 |succ k ih=>rw[Kd,Li,Jj,ih,Nat.succ_mul,Nat.add_comm]
def vJ:gq X (binaryOp .Mult) zv:=by
 intro pins s σ H x y v u Q I rx ry h
 obtain⟨l,k,xs,rfl,rfl,hH,h1,h2,hz,q⟩:=h
 cases rx
 obtain⟨t,rfl⟩:=ry
 obtain⟨z,its,n,r,hl,e⟩:=I.C_ hH
 have hlen:its.toArray.size * k.toNat<=sizeLine:=by rw[Jo,<-hl];exact hz
 have hcap:¬its.toArray.size * k.toNat > (2 ^ 63 - 1) / 8:=by
  have:(sizeLine:Nat)<=(2 ^ 63 - 1) / 8:=by decide
  omega
 have hfit:¬(!Builtin.List.listFitsIndex k)=true:=by
  rw[fitsIndex_both h1 h2]
  exact JH
 have Ek:¬Builtin.List.listTooLong (its.toArray.size * k.toNat)=true:=by
  rw[lL hlen]
  exact JH
 have hnew:List.foldl (fun x1 x2=>x1++x2) #[] (List.replicate (if its.toArray.isEmpty=true then 0 else k.toNat) its.toArray)=(List.replicate k.toNat its).flatten.toArray:=by
  have f0:∀m:Nat,List.foldl (fun x1 x2=>x1++x2) #[] (List.replicate m its.toArray)=(List.replicate m its).flatten.toArray:=fun m=>by
   have:=kl its m []
   rw[J6]at this
   exact this
  rw[f0]
  cases its with
  |nil=>simp
  |cons a r'=>rw[if_neg (by simp)]
 refine wpAny_binaryOp_repeat_ref (T:="list") (U:="int") (by decide) ⟨_,e,rfl⟩ (fun s'=>typeIs_int s' k t) noFill_list_mul F.fills_int_mul F.slot_int_rmul repeat_list F.slot_int_index.lookup
  (LF F.slot_int_rmul (typeIs_int s k t) F.entry_int_rmul (F.args_int_rmul_2 _ _) (int___rmul___int_list k t l its.toArray n)
   ⟨e,rfl,⟨_,e,rfl⟩,LF F.slot_list_mul ⟨_,e,rfl⟩ F.entry_list_mul (F.args_list_mul_2 _ _) (AutoListH.list___mul___list_int_3 l its.toArray n k t hfit hcap Ek) ⟨e,?_⟩⟩)
 rw[hnew]
 exact⟨.ref _,_,I.FN (t':=s.toks) (r.rep k.toNat) (by rw[sV,Nat.mul_comm];exact hz),rfl,q _ I.fresh⟩
end
section
variable {κ:Type} [DecidableEq κ]
noncomputable def fD(kvs:List (κ×V))(k:κ):Option V:=(kvs.find? fun kv=>decide (kv.1=k)).map (·.2)
noncomputable def eQ(kvs:List (κ×V))(k:κ)(v:V):List (κ×V):=
 if (kvs.any fun kv=>decide (kv.1=k))=true then kvs.map (fun kv=>if kv.1=k then (kv.1,v) else kv) else kvs++[(k,v)]
def BX{p:κ×V}{r:List (κ×V)}{k:κ}(e:p.1=k):fD (p::r) k=some p.2:=by simp[fD,List.find?_cons,e]
def BB{p:κ×V}{r:List (κ×V)}{k:κ}(e:¬p.1=k):fD (p::r) k=fD r k:=by simp[fD,List.find?_cons,e]
theorem je(k:κ):∀kvs:List (κ×V),(kvs.any fun kv=>decide (kv.1=k))=(fD kvs k).isSome
 |[]=>rfl
 |p::r=>by
  rw[Mt]
  by_cases e:p.1=k
  ·simp only[BX e,JV e,Bool.true_or,Option.isSome_some]
  ·rw[BB e,JK e,Bool.false_or];exact je k r
def eR(kvs:List (κ×V))(k:κ)(v:V):(eQ kvs k v).length<=kvs.length+1:=by
 unfold eQ
 split
 ·rw[Jk];omega
 ·rw[Jj,JB,J7];omega
def RelO.BY{o:Option V}{u:Option Value}(r:RelO o u):o.isSome=u.isSome:=by
 cases o with
 |none=>cases u with
  |none=>rfl
  |some _=>exact(show False from r).elim
 |some _=>cases u with
  |none=>exact(show False from r).elim
  |some _=>rfl
theorem RelO.getD{o:Option V}{u:Option Value}{d:V}{d':Value}(r:RelO o u)(rd:RelV d d'):RelV (o.getD d) (u.getD d'):=by
 cases o with
 |none=>cases u with
  |none=>exact rd
  |some _=>exact(show False from r).elim
 |some _=>cases u with
  |none=>exact(show False from r).elim
  |some _=>exact r
def KV.val{kvs:List (κ×V)}{vs:List (κ×Value)}(r:KV kvs vs)(k:κ):RelO (fD kvs k) (valueAt vs k):=by
 unfold KV at r
 induction r with
 |nil=>exact True.intro
 |@cons p q ps qs h t ih=>
  obtain⟨h1,h2⟩:=h
  by_cases e:p.1=k
  ·have e':q.1=k:=h1.symm.trans e
   have b:valueAt (q::qs) k=some q.2:=by simp[valueAt,List.find?_cons,e']
   rw[BX e,b];exact h2
  ·have e':¬q.1=k:=fun z=>e (h1.trans z)
   have b:valueAt (q::qs) k=valueAt qs k:=by simp[valueAt,List.find?_cons,e']
   rw[BB e,b];exact ih
theorem KV.any{kvs:List (κ×V)}{vs:List (κ×Value)}(r:KV kvs vs)(k:κ):(kvs.any fun kv=>decide (kv.1=k))=vs.any fun kv=>decide (kv.1=k):=by
 unfold KV at r
 induction r with
 |nil=>rfl
 |cons h t ih=>rw[Mt,Mt,ih,h.1]
def KV.repl{kvs:List (κ×V)}{vs:List (κ×Value)}(r:KV kvs vs)(k:κ){y:V}{u:Value}(ry:RelV y u) :
  KV (kvs.map fun kv=>if kv.1=k then (kv.1,y) else kv) (vs.map fun kv=>if kv.1=k then (kv.1,u) else kv):=by
 unfold KV at r ⊢
 induction r with
 |nil=>exact .nil
 |@cons p q ps qs h t ih=>
  rw[JG,JG]
  refine .cons ?_ ih
  obtain⟨h1,h2⟩:=h
  by_cases e:p.1=k
  ·rw[if_pos e,if_pos (h1.symm.trans e)];exact⟨h1,ry⟩
  ·rw[if_neg e,if_neg (fun z=>e (h1.trans z))];exact⟨h1,h2⟩
def KV.put{kvs:List (κ×V)}{vs:List (κ×Value)}(r:KV kvs vs)(k:κ){y:V}{u:Value}(ry:RelV y u):KV (eQ kvs k y) (stored vs k u):=by
 unfold eQ stored
 rw[r.any k]
 by_cases e:(vs.any fun kv=>decide (kv.1=k))=true
 ·rw[if_pos e,if_pos e];exact r.repl k ry
 ·rw[if_neg e,if_neg e];exact Paired.snoc r ⟨rfl,ry⟩
theorem KV.length{kvs:List (κ×V)}{vs:List (κ×Value)}(r:KV kvs vs):kvs.length=vs.length:=Paired.length r
end
def iG{P:Program}{w:World}{k:bf}{u:Value}(r:RelV (kV k) u):(aR P w).is k u=true:=by
 cases k with
 |inl i=>obtain⟨t,e⟩:=(show ∃t,u=Value.int i t from r);subst e;exact lF P w i t
 |inr x=>obtain⟨t,e⟩:=(show ∃t,u=Value.str x t from r);subst e;exact lG P w x t
theorem km{P:Program}{w:World}:∀{ks:List bf} {us:Vv},Vals (ks.map kV) us->ItemsAre (aR P w) ks us
 |[],_,r=>by rw[Kg]at r;cases r;exact .nil
 |k::ks,_,r=>by
  rw[JG]at r
  cases r with
  |cons h t=>exact .cons (iG h) (km t)
noncomputable abbrev KT(H:Hp):List (List bf×V)->List (List bf×Addr×Value)->Prop:=Paired fun p q=>p.1=q.1/\H q.2.1=some (.tup (p.1.map kV))/\RelV p.2 q.2.2
def KT.val{H:Hp}{kvs:List (List bf×V)}{xs:List (List bf×Addr×Value)}(r:KT H kvs xs)(k:List bf):RelO (fD kvs k) ((atKey xs k).map (·.2)):=by
 induction r with
 |nil=>exact True.intro
 |@cons p q ps qs h t ih=>
  obtain⟨h1,_,h2⟩:=h
  by_cases e:p.1=k
  ·have e':q.1=k:=h1.symm.trans e
   have b:atKey (q::qs) k=some q.2:=by simp[atKey,List.find?_cons,e']
   rw[BX e,b];exact h2
  ·have e':¬q.1=k:=fun z=>e (h1.trans z)
   have b:atKey (q::qs) k=atKey qs k:=by simp[atKey,List.find?_cons,e']
   rw[BB e,b];exact ih
def KT.repl{H:Hp}{kvs:List (List bf×V)}{xs:List (List bf×Addr×Value)}(r:KT H kvs xs)(k:List bf){y:V}{u:Value}(ry:RelV y u) :
  KT H (kvs.map fun kv=>if kv.1=k then (kv.1,y) else kv) (xs.map (putAt k u)):=by
 induction r with
 |nil=>exact .nil
 |@cons p q ps qs h t ih=>
  rw[JG,JG]
  refine .cons ?_ ih
  obtain⟨h1,h2,h3⟩:=h
  unfold putAt
  by_cases e:p.1=k
  ·rw[if_pos e,if_pos (h1.symm.trans e)];exact⟨h1,h2,ry⟩
  ·rw[if_neg e,if_neg (fun z=>e (h1.trans z))];exact⟨h1,h2,h3⟩
def KT.put{H:Hp}{kvs:List (List bf×V)}{xs:List (List bf×Addr×Value)}(r:KT H kvs xs)(k:List bf){b:Addr}{y:V}{u:Value}(hb:H b=some (.tup (k.map kV)))(ry:RelV y u) :
  KT H (eQ kvs k y) (storedH xs k b u):=by
 have e:(kvs.any fun kv=>decide (kv.1=k))=(atKey xs k).isSome:=by
  rw[je,(r.val k).BY,ML]
 unfold eQ storedH
 rw[e]
 by_cases q:(atKey xs k).isSome=true
 ·rw[if_pos q,if_pos q];exact r.repl k ry
 ·rw[if_neg q,if_neg q];exact Paired.snoc r ⟨rfl,hb,ry⟩
def KT.keeps{H H':Hp}{kvs:List (List bf×V)}{xs:List (List bf×Addr×Value)}(r:KT H kvs xs)(ht:∀b ys,H b=some (.tup ys)->H' b=some (.tup ys)):KT H' kvs xs:=
 Paired.Fa r fun _ _ z=>⟨z.1,ht _ _ z.2.1,z.2.2⟩
section
variable {P:Program} {w:World} {H:Hp} {h:Heap} {a:Addr}
def uC{u:HO}(ok:Ck P w H h)(e:Rd H a u):A3 P w H h a u:=e.ok ok
def iH{kvs:List (bf×V)}(ok:Ck P w H h)(e:Rd H a (.dK kvs)):kvs.length<=sizeLine/\(a == sysModules)=false/\∃vs,KV kvs vs/\h.DictOf (aR P w) a vs:=
 show A3 P w H h a (.dK kvs)from uC ok e
def uD{kvs:List (bf×V)}(ok:Ck P w H h)(e:H a=some (.dK kvs)):kvs.length<=sizeLine/\(a == sysModules)=false/\∃vs,KV kvs vs/\h.DictOf (aR P w) a vs:=iH ok (.inl e)
def cF{ks:List bf}(ok:Ck P w H h)(e:H a=some (.tup (ks.map kV))):(tupleKind (aR P w)).is h ks a:=by
 obtain⟨_,its,r,o,h1,_,h2,n,h3⟩:=(show A3 P w H h a (.tup (ks.map kV))from ok a _ e)
 exact⟨o,its.toArray,n,h1,h2,h3,by simpa using km r⟩
def jf{kvs:List (List bf×V)}(ok:Ck P w H h)(e:Rd H a (.dT kvs)):kvs.length<=sizeLine/\(a == sysModules)=false/\
  ∃xs,KT H kvs xs/\h.DictOfH (tupleKind (aR P w)) a xs:=by
 obtain⟨z,y,xs,r,o,es,ep,h1,h2,h3,h4,h5⟩:=(show A3 P w H h a (.dT kvs)from uC ok e)
 refine⟨z,y,xs,r,o,es,ep,h1,h2,h3,h4,fun x hx=>?_,h5⟩
 have all:∀{l:List (List bf×V)} {m:List (List bf×Addr×Value)},KT H l m->∀x∈m,(tupleKind (aR P w)).is h x.1 x.2.1:=by
  intro l m q
  induction q with
  |nil=>intro x hx;exact nomatch hx
  |@cons p q ps qs hq t ih=>
   intro x hx
   rcases Jq.mp hx with e|hx
   ·subst e
    exact cF ok (by rw[<-hq.1];exact hq.2.1)
   ·exact ih x hx
 exact all r x hx
def xN{kvs:List (List bf×V)}(ok:Ck P w H h)(e:H a=some (.dT kvs)):kvs.length<=sizeLine/\(a == sysModules)=false/\
  ∃xs,KT H kvs xs/\h.DictOfH (tupleKind (aR P w)) a xs:=jf ok (.inl e)
end
def DGet(H:Hp)(a:Addr)(y:V)(r:Option V):Prop:=
 (∃kvs k,Rd H a (.dK kvs)/\y=kV k/\r=fD kvs k)\/∃kvs k b,Rd H a (.dT kvs)/\y = .ref b/\H b=some (.tup (k.map kV))/\r=fD kvs k
def El(H:Hp)(a:Addr)(y v:V)(H':Hp):Prop:=
 (∃kvs k,H a=some (.dK kvs)/\y=kV k/\kvs.length < sizeLine/\H'=upd H a (.dK (eQ kvs k v))) \/
 ∃kvs k b,H a=some (.dT kvs)/\y = .ref b/\H b=some (.tup (k.map kV))/\kvs.length < sizeLine/\H'=upd H a (.dT (eQ kvs k v))
theorem DGet.k{H:Hp}{a:Addr}{kvs:List (bf×V)}{k:bf}(e:H a=some (.dK kvs)):DGet H a (kV k) (fD kvs k):=.inl ⟨kvs,k,.inl e,rfl,rfl⟩
theorem El.k{H:Hp}{a:Addr}{kvs:List (bf×V)}{k:bf}{v:V}(e:H a=some (.dK kvs))(hl:kvs.length < sizeLine):El H a (kV k) v (upd H a (.dK (eQ kvs k v))):=.inl ⟨kvs,k,e,rfl,hl,rfl⟩
section
variable {X:Cx} {pins:Va} {σ:St} {H:Hp} {s:Shared} {a:Addr} {y v:V} {u r:Value} {o:Option V} {A:Around} {E:Vq}
def Inv.big(I:Inv X pins σ H s):sysModules < s.heap.objs.size:=by
 have h:mainGlobals < s.heap.objs.size:=(I.mod.glob.keeps I.bk).lt
 exact MS (by decide) h
def oH{Q:Vq}(hu:A.units+1 < cLine)(I:Inv X pins σ H s)(g:DGet H a y (some v))(ry:RelV y u)(h:∀w' s',Inv X pins σ H s'->RelV v w'->Q w' s') :
  wpAny (model X.prog X.w) A (getItem (.ref a) u) Q E s:=by
 rcases g with⟨kvs,k,e,ey,l⟩|⟨kvs,k,b,e,ey,eb,l⟩
 ·subst ey
  obtain⟨z,hd,vs,rel,dd⟩:=iH I.hok e
  obtain⟨w',hw,rw'⟩:=RelO.some_of (v:=v) (o:=valueAt vs k) (by rw[l];exact rel.val k)
  exact wpAny_getItem_of (iG ry) dd.mapOf hw (h w' _ (I.tok _) rw')
 ·subst ey
  cases (show u=Value.ref b from ry)
  obtain⟨z,hd,xs,rel,dd⟩:=jf I.hok e
  obtain⟨w',hw,rw'⟩:=RelO.some_of (v:=v) (o:=(atKey xs k).map (·.2)) (by rw[l];exact rel.val k)
  obtain⟨p,hp,hp2⟩:=JT.mp hw
  refine wpAny_getItem_heap (Lp hu) (cF I.hok eb) dd hp ?_
  rw[hp2]
  exact h w' _ (I.tok _) rw'
def xO{Q:Vq}(hu:A.units+1 < cLine)(I:Inv X pins σ H s)(g:DGet H a y o)(ry:RelV y u)(h:∀s',Inv X pins σ H s'->Q (.bool o.isSome) s') :
  wpAny (model X.prog X.w) A (compareOp .In u (.ref a)) Q E s:=by
 rcases g with⟨kvs,k,e,ey,l⟩|⟨kvs,k,b,e,ey,eb,l⟩
 ·subst ey
  obtain⟨z,hd,vs,rel,dd⟩:=iH I.hok e
  refine wpAny_in_of (iG ry) hd dd.mapOf ?_
  rw[<-(rel.val k).BY,<-l]
  exact h _ (I.tok _)
 ·subst ey
  cases (show u=Value.ref b from ry)
  obtain⟨z,hd,xs,rel,dd⟩:=jf I.hok e
  refine wpAny_in_heap (Lp hu) (cF I.hok eb) hd dd ?_
  have q:=(rel.val k).BY
  rw[ML]at q
  rw[<-q,<-l]
  exact h _ (I.tok _)
def nO{Q:Vq}(hu:A.units+1 < cLine)(I:Inv X pins σ H s)(g:DGet H a y o)(ry:RelV y u)(h:∀s',Inv X pins σ H s'->Q (.bool (!o.isSome)) s') :
  wpAny (model X.prog X.w) A (compareOp .NotIn u (.ref a)) Q E s:=by
 rcases g with⟨kvs,k,e,ey,l⟩|⟨kvs,k,b,e,ey,eb,l⟩
 ·subst ey
  obtain⟨z,hd,vs,rel,dd⟩:=iH I.hok e
  refine wpAny_notIn_of (iG ry) hd dd.mapOf ?_
  rw[<-(rel.val k).BY,<-l]
  exact h _ (I.tok _)
 ·subst ey
  cases (show u=Value.ref b from ry)
  obtain⟨z,hd,xs,rel,dd⟩:=jf I.hok e
  refine wpAny_notIn_heap (Lp hu) (cF I.hok eb) hd dd ?_
  have q:=(rel.val k).BY
  rw[ML]at q
  rw[<-q,<-l]
  exact h _ (I.tok _)
def kX{h':Heap}{t':Nat}{ob:HO}(I:Inv X pins σ H s)(mu:w5 (H a))(hs:Heap.SameBut a s.heap h')(he:∃q,h'.get? a=some q)(new:A3 X.prog X.w (upd H a ob) h' a ob) :
  Inv X pins σ (upd H a ob) { s with heap:=h',toks:=t' }:=
 I.write (x:=a) (e:=a) mu (.inl rfl) (fun b q hb z=>(hs.2 b hb).trans z) he new
def qj{P:Program}{w:World}{H':Hp}{h':Heap}{kvs:List (bf×V)}{vs:List (bf×Value)}(z:kvs.length<=sizeLine)(hd:(a == sysModules)=false)(rel:KV kvs vs)(dd:h'.DictOf (aR P w) a vs) :
  A3 P w H' h' a (.dK kvs):=⟨z,hd,vs,rel,dd⟩
def oI{H':Hp}{Q:Unit->Shared->Prop}(hu:A.units+1 < cLine)(I:Inv X pins σ H s)(g:El H a y v H')(ry:RelV y u)(rv:RelV v r)(h:∀s',Inv X pins σ H' s'->Q () s') :
  wpAny (model X.prog X.w) A (setItem (.ref a) u r) Q E s:=by
 rcases g with⟨kvs,k,e,ey,l,eH⟩|⟨kvs,k,b,e,ey,eb,l,eH⟩
 ·subst ey eH
  obtain⟨z,hd,vs,rel,dd⟩:=uD I.hok e
  have hz:vs.length<=sizeLine:=by rw[<-rel.length];exact z
  have hl:(eQ kvs k v).length<=sizeLine:=by have:=eR kvs k v;omega
  refine wpAny_setItem_pairs (hsz:=hz) (iG ry) dd fun h' Fi hs=>h _ ?_
  have he:∃q,h'.get? a=some q:=let ⟨q,_,_,hq,_⟩:=Fi;⟨q,hq⟩
  exact kX I (by rw[e];exact True.intro) hs he (qj hl hd (rel.put k rv) Fi)
 ·subst ey eH
  cases (show u=Value.ref b from ry)
  obtain⟨z,hd,xs,rel,dd⟩:=xN I.hok e
  have hz:xs.length<=sizeLine:=by rw[<-Paired.length rel];exact z
  have hl:(eQ kvs k v).length<=sizeLine:=by have:=eR kvs k v;omega
  refine wpAny_setItem_heap (hsz:=hz) (Lp hu) (cF I.hok eb) dd fun h' Fi hs=>h _ ?_
  obtain⟨q,es,ep,hq,h2,h3,h4,_,h5⟩:=Fi
  refine kX I (by rw[e];exact True.intro) hs ⟨q,hq⟩ ⟨hl,hd,_,(rel.put k eb rv).keeps fun c ys ec=>?_,q,es,ep,hq,h2,h3,h4,h5⟩
  rw[ax (w4 ec e (fun z=>nomatch z))]
  exact ec
end
section
variable {X:Cx} {pins:Va} {σ:St} {H:Hp} {s:Shared} {a:Addr} {kvs:List (bf×V)} {k:bf} {u:Value} {A:Around} {E:Vq}
def xP{Q:Vq}(I:Inv X pins σ H s)(e:Rd H a (.dK kvs))(h:∀t s',Inv X pins σ H s'->Q (.int kvs.length t) s'):wpAny (model X.prog X.w) A (call (.builtin "len") [.ref a]) Q E s:=by
 obtain⟨z,hd,vs,rel,dd⟩:=iH I.hok e
 refine call_len_dict hd dd (by rw[<-rel.length];rw[sizeLine_eq]at z;omega) ?_
 rw[<-rel.length]
 exact h _ _ (I.tok _)
end
def lM{X:Cx}{pins:Va}{σ:St}{H:Hp}{s:Shared}{a:Addr}{y:V}{o:Option V}(I:Inv X pins σ H s)(g:DGet H a y o):s.TypeIs (.ref a) "dict":=by
 rcases g with⟨kvs,k,e,_,_⟩|⟨kvs,k,b,e,_,_,_⟩
 ·obtain⟨_,_,vs,_,dd⟩:=iH I.hok e
  exact dd.typeIs
 ·obtain⟨_,_,xs,_,dd⟩:=jf I.hok e
  exact dd.typeIs
def qk{P:Program}{w:World}{H:Hp}(h:Heap)(hb:sysModules < h.objs.size):A3 P w H (h.push { cls:=.type "dict",data:=.dict #[] }) h.objs.size (.dK []):=
 ⟨JM _,beq_eq_false_iff_ne.mpr (Lc (JL hb)),[],.nil,Heap.DictOf.new h⟩
noncomputable def kY:List (TE×TE)->St->Hp->(List (V×V)->Hp->Prop)->Prop
 |[],_,H,Q=>Q [] H
 |(tk,tv)::r,σ,H,Q=>tk σ H fun x H1=>tv σ H1 fun y H2=>kY r σ H2 fun ps H3=>Q ((x,y)::ps) H3
noncomputable abbrev VV:List (V×V)->List (Value×Value)->Prop:=Paired fun p q=>RelV p.1 q.1/\RelV p.2 q.2
def xQ(X:Cx)(pos:Pos)(keys:List (Option Expr))(values:List Expr)(CS:List (TE×TE)):Prop:=
 ∀(pins:Va) (s:Shared) (σ:St) (H:Hp) (Q:List (V×V)->Hp->Prop),Inv X pins σ H s->kY CS σ H Q->
  wpAny (model X.prog X.w) X.A (evalPairs (pairTrees keys values X.env pos)) (fun vs s'=>∃ps H',Inv X pins σ H' s'/\VV ps vs/\Q ps H') X.xe s
def sW{X:Cx}{pos:Pos}:xQ X pos [] [] []:=fun pins s σ H Q I h=>pairTrees_nil_walk ⟨[],H,I,.nil,h⟩
def qm{X:Cx}{pos:Pos}{k v:Expr}{ks:List (Option Expr)}{vs:List Expr}{tk tv:TE}{CS:List (TE×TE)}(hk:PE X k tk)(hv:PE X v tv)(hr:xQ X pos ks vs CS) :
  xQ X pos (some k::ks) (v::vs) ((tk,tv)::CS):=fun pins s σ H Q I h=>
 pairTrees_cons_walk (AL (hk pins s σ H _ I h) fun u s1 ⟨x,H1,I1,rx,q1⟩=>AL (hv pins s1 σ H1 _ I1 q1) fun w2 s2 ⟨y,H2,I2,ry,q2⟩=>
  AL (hr pins s2 σ H2 _ I2 q2) fun ws s3 ⟨ps,H3,I3,rel,q3⟩=>⟨(x,y)::ps,H3,I3,.cons ⟨rx,ry⟩ rel,q3⟩)
noncomputable def hZ(kvs more:List (bf×V)):List (bf×V):=more.foldl (fun acc kv=>eQ acc kv.1 kv.2) kvs
def KV.merge:∀{more:List (bf×V)} {rs:List (bf×Value)} {kvs:List (bf×V)} {vs:List (bf×Value)},KV more rs->KV kvs vs->KV (hZ kvs more) (merged vs rs):=by
 intro more rs kvs vs r
 unfold KV at r
 induction r generalizing kvs vs with
 |nil=>intro q;exact q
 |@cons p q ps qs h t ih=>
  intro r0
  have e:KV (eQ kvs p.1 p.2) (stored vs q.1 q.2):=by
   have:=r0.put p.1 h.2
   rw[<-h.1];exact this
  exact ih e
theorem fK:∀(more kvs:List (bf×V)),(hZ kvs more).length<=kvs.length+more.length
 |[],kvs=>by show kvs.length<=kvs.length+0;omega
 |p::r,kvs=>by
  have h1:=fK r (eQ kvs p.1 p.2)
  have h2:=eR kvs p.1 p.2
  show(hZ (eQ kvs p.1 p.2) r).length<=_
  rw[JB];omega
theorem jg{P:Program}{w:World}:∀{kvs:List (bf×V)} {ws:List (Value×Value)},VV (kvs.map fun kv=>(kV kv.1,kv.2)) ws->∃rs,Carries (aR P w) ws rs/\KV kvs rs
 |[],_,r=>by rw[Kg]at r;cases r;exact⟨[],True.intro,.nil⟩
 |p::kvs,_,r=>by
  rw[JG]at r
  cases r with
  |@cons a b as bs h t=>
   obtain⟨rs,c,q⟩:=jg (P:=P) (w:=w) t
   obtain⟨b1,b2⟩:=b
   exact⟨(p.1,b2)::rs,⟨iG h.1,rfl,c⟩,.cons ⟨rfl,h.2⟩ q⟩
def xR(CS:List (TE×TE)):TE:=fun σ H Q=>∀p,H p=none->kY CS σ (upd H p (.dK [])) fun ps H2=>H2 p=some (.dK [])/\∃kvs:List (bf×V),ps=kvs.map (fun kv=>(kV kv.1,kv.2))/\kvs.length<=15/\Q (.ref p) (upd H2 p (.dK (hZ [] kvs)))
def sX{X:Cx}{pos:Pos}{keys:List (Option Expr)}{values:List Expr}{CS:List (TE×TE)}(h:xQ X pos keys values CS)(hall:keys.all (·.isSome)=true)(hl:keys.length=values.length)(h0:keys≠[])
  (GC:keys.length<=15):PE X (.Dict keys values pos) (xR CS):=by
 intro pins s σ H Q I q
 have hn:=I.hok.fresh (Jm s.heap.objs.size)
 have I1:=I.laid (a:=s.heap.objs.size) (o:=.dK []) (h':=s.heap.push { cls:=.type "dict",data:=.dict #[] }) (t':=s.toks) (fun _ _ q=>Jl _ q) (Jm _) (qk s.heap I.big)
 refine wpAny_Dict_walk (knd:=aR X.prog X.w) hall hl h0 GC (AL (h pins _ σ _ _ I1 (q _ hn)) fun ws s2 ⟨ps,H2,I2,rel,e,kvs,ep,lk,q2⟩=>?_)
 subst ep
 obtain⟨rs,c,rk⟩:=jg (P:=X.prog) (w:=X.w) rel
 obtain⟨z,hd,vs0,r0,dd⟩:=uD I2.hok e
 cases r0
 refine⟨rs,c,dd,fun h' Fi hs=>⟨.ref s.heap.objs.size,_,?_,rfl,q2⟩⟩
 have hz:(hZ [] kvs).length<=sizeLine:=by
  have h1:=fK kvs []
  rw[J7]at h1
  rw[sizeLine_eq];omega
 have he:∃q,h'.get? s.heap.objs.size=some q:=let ⟨q,_,_,hq,_⟩:=Fi;⟨q,hq⟩
 exact kX I2 (by rw[e];exact True.intro) hs he (qj hz hd (rk.merge .nil) Fi)
structure M2 (X:Cx) (o:Expr) (m:Str) (apos:Pos) (e f:Expr) (cpos:Pos):Prop where
 base:attributeBase o m X.env (eval o X.env)=eval o X.env
 few:((backTo cpos (starEach [e,f] X.env)).all (fun x=>!x.1)&&(backToKw cpos (keywordEach [] X.env)).all (fun x=>x.1.isSome)
  && decide (([e,f]:List Expr).length+([]:List Keyword).length+(if ([]:List Keyword).isEmpty then 0 else 1) < 30))=true
 line:(apos.endLine == cpos.line)=true
 trees:backTo cpos (starEach [e,f] X.env)=[(false,eval e X.env),(false,eval f X.env)]
def z_(H:Hp)(a:Addr):Prop:=(∃kvs,Rd H a (.dK kvs))\/∃kvs,Rd H a (.dT kvs)
def vK{X:Cx}{pins:Va}{σ:St}{H:Hp}{s:Shared}{a:Addr}(I:Inv X pins σ H s)(d:z_ H a) :
  s.TypeIs (.ref a) "dict"/\(∀b,Value.ref a = .ref b->∃ob,s.heap.get? b=some ob/\ob.dict=none)/\(a == sysModules)=false:=by
 rcases d with⟨kvs,e⟩|⟨kvs,e⟩
 ·obtain⟨_,hd,vs,_,dd⟩:=iH I.hok e
  refine⟨dd.typeIs,fun b q=>?_,hd⟩
  cases q
  obtain⟨ob,_,_,h1,h2,_⟩:=dd
  exact⟨ob,h1,h2.2.1⟩
 ·obtain⟨_,hd,xs,_,dd⟩:=jf I.hok e
  refine⟨dd.typeIs,fun b q=>?_,hd⟩
  cases q
  obtain⟨ob,_,_,h1,h2,_⟩:=dd
  exact⟨ob,h1,h2.2.1⟩
section
variable {X:Cx} {pins:Va} {σ:St} {H:Hp} {s:Shared} {a:Addr} {y d:V} {u r:Value} {o:Option V} {A:Around} {E:Vq}
def vL{Q:Vq}(hu:A.units+1 < cLine)(I:Inv X pins σ H s)(g:DGet H a y o)(ry:RelV y u)(rd:RelV d r)(h:∀w' s',Inv X pins σ H s'->RelV (o.getD d) w'->Q w' s') :
  wpAny (model X.prog X.w) A (call (.builtin "dict.get") [.ref a,u,r]) Q E s:=by
 rcases g with⟨kvs,k,e,ey,l⟩|⟨kvs,k,b,e,ey,eb,l⟩
 ·subst ey
  obtain⟨z,hd,vs,rel,dd⟩:=iH I.hok e
  refine call_meetsIn Ld dd.typeIs Mf (L6 _ _ _) (meets_dict_get_default (aR X.prog X.w) a (iG ry) hd r) ⟨_,dd.mapOf,h _ _ (I.tok _) ?_⟩
  rw[l]
  exact(rel.val k).getD rd
 ·subst ey
  cases (show u=Value.ref b from ry)
  obtain⟨z,hd,xs,rel,dd⟩:=jf I.hok e
  refine call_meetsIn Ld dd.typeIs Mf (L6 _ _ _) (meetsH_dict_get_default (tupleKind (aR X.prog X.w)) a b hd r) ⟨Lp hu,k,xs,cF I.hok eb,dd,h _ _ (I.tok _) ?_⟩
  rw[l]
  exact(rel.val k).getD rd
end
def vM(td ty tx:TE):TE:=fun σ H Q=>td σ H fun x H1=>∃a,x = .ref a/\z_ H1 a/\ty σ H1 fun y H2=>tx σ H2 fun z H3=>∃o,DGet H3 a y o/\Q (o.getD z) H3
section
variable {X:Cx} {o e f:Expr} {apos cpos:Pos} {td ty tx:TE}
def qo(hu:X.A.units+1 < cLine)(ho:PE X o td)(he:PE X e ty)(hf:PE X f tx)(m:M2 X o "get" apos e f cpos):PE X (.Call (.Attribute o "get" apos) [e,f] [] cpos) (vM td ty tx):=by
 intro pins s σ H Q I h
 refine wpAny_Call_method m.base m.few m.line PySem.F.plainAttrs_dict Ld PySem.F.type_dict_get (AL (ho pins s σ H _ I h) fun u s1 ⟨x,H1,I1,rx,a,ex,d,q1⟩=>?_)
 subst ex
 obtain rfl:u=Value.ref a:=rx
 obtain⟨t1,t2,_⟩:=vK I1 d
 refine⟨t1,t2,?_⟩
 rw[m.trees]
 refine K4 rfl (LD (Kw (AL (he pins s1 σ H1 _ I1 q1) fun iv s2 ⟨y,H2,I2,ry,q2⟩=>
  Kw (AL (hf pins s2 σ H2 _ I2 q2) fun fv s3 ⟨z,H3,I3,rz,ov,g,q3⟩=>Lh ?_))))
 exact vL hu I3 g ry rz fun w' s4 I4 rw'=>⟨_,H3,I4,rw',q3⟩
end
end L2
namespace Att
open PySem PySem.W PySem.Calls PyProof.Rows
def iU{P:Params}{h:Heap}:∀(ns:Vu) (vs:Vv),WellAll P h vs (ns.map WData.int)->IntsAre vs ns:=by
 intro ns
 induction ns with
 |nil=>
  intro vs w
  rw[Kg]at w
  cases w
  exact .nil
 |cons n ns ih=>
  intro vs w
  rw[JG]at w
  cases w with
  |cons a b=>
   cases a
   exact .cons _ _ (ih _ b)
def oJ{l:OpenLaw}{n:Nat}(hn:l.most=some n){P:Params}{h:Heap}{args:List WData}{vals:Vv}
  (hpre:l.row.toRowW.claim.pre args=true) (hwl:WellAll P h vals args) :
  ∃a vs ns,vals=[Value.ref a]/\args=[WData.list (ns.map WData.int)]/\h.get? a=some { cls:=.type "list",data:=.seq vs.toArray }/\IntsAre vs ns/\ns.length<=n:=by
 have hsh:WShape.hasAll [] args [.list .int]=true:=(pre_splitW hpre).1
 have hc:l.pre.holds [] { args:=args }=true:=(pre_splitW hpre).2
 obtain⟨d,r,rfl,h1,h2⟩:=hasAllW_cons hsh
 obtain rfl:=hasAllW_nil h2
 obtain⟨xs,rfl,h3⟩:=hasW_list h1
 obtain⟨ns,rfl⟩:=items_int h3
 have hlen:ns.length<=n:=by
  unfold OpenLaw.pre at hc
  have h4:(WTm.not (.lt (.lit (.int (n:Int))) (.len (.arg 0)))).holds [] { args:=[.list (ns.map .int)] }=true:=by
   have h4:=(holds_andW hc).1
   rw[hn]at h4
   exact h4
  have h5:=condW_of h4 (w_not (w_lt w_lit (w_len_list (w_arg rfl))))
  rw[Jk]at h5
  refine Nat.le_of_not_lt fun q=>?_
  have q':(n:Int) < ((ns.length:Nat):Int):=by omega
  first
   |(rw[JV q']at h5;exact absurd h5 (by decide))
   |(simp at h5;omega)
 cases hwl with
 |cons w1 w2=>
  cases w2
  cases w1 with
  |list ho hall=>exact⟨_,_,ns,rfl,rfl,ho,iU ns _ hall,hlen⟩
def oK(l:OpenLaw)(args:List WData):l.row.toRowW.claim.post args (.bool true) args=true:=
 postW_of (r:=l.row.toRowW) (X:=(true == true))
  (show WShape.has [] (.bool true) .bool=true by first|rfl|decide|simp[WShape.has,WShape.arms,WShape.armsAll])
  (show(WTm.eq .res (.lit (.bool true))).value [] { args:=args,res:=some (.bool true),after:=args }=some (.bool (true == true))from w_eq_bool (w_res rfl) w_lit) rfl
def lN{l:OpenLaw}{n:Nat}{q:Program}{loose:Vs}{XP:(Vr)->Heap->Prop}{YP:World->Heap->Prop}{d:DefRec}
  (hn:l.most=some n) (hdf:d.params.defaults=[])
  (call:∀(w:World) (s₀ s₁:Shared) (mg mb:Vr) (fa:Addr) (o:Obj) (pm cd doc:Value) (a:Addr) (vs:Vv) (ns:Vu),
   Ground q loose [] XP w s₀ mg mb s₁.heap->YP w s₁.heap->
   s₁.heap.get? fa=some o->o.data = .func (docDef d.name d.params d.body d.scope pm cd doc)->s₁.heap.CodeRec cd d.name->mg d.name=some (.ref fa)->
   s₁.heap.get? a=some { cls:=.type "list",data:=.seq vs.toArray }->IntsAre vs ns->ns.length<=n->s₁.gens=#[]->
   codeAny (model l.prog w) callerA (.call (.ref fa) ⟨[.ref a],[]⟩) (fun r s'=>r = .ok (.ret (.bool true))/\OldK s₁.heap s'.heap/\s'.os=s₁.os/\AllBare s'.gens) s₁) :
  WalkO q loose XP YP l.row.toRowW d [] (fun f vs=>PySem.call f vs):=by
 intro w s₀ s₁ mg mb G Y fa o pm cd doc dV kV ho hd hcd hD hmg hg args vals as hpre hlay hrd hwl hlo
 obtain rfl:dV = .none:=Dflts.none hD hdf
 obtain rfl:kV = .none:=Dflts.noKw hD
 obtain⟨a,vs,ns,rfl,rfl,hobj,hints,hlen⟩:=oJ hn hpre hwl
 refine enter_call (codeAny_mono (call w s₀ s₁ mg mb fa o pm cd doc a vs ns G Y ho (fd_plain hd) hcd hmg hobj hints hlen hg) fun r s' hq=>?_)
 obtain⟨rfl,h2,h3,h4⟩:=hq
 exact⟨.inl ⟨.bool true,.bool true,[],rfl,fun _=>rfl,.bool true,oK l _,fun _=>⟨List.Pairwise.nil,fun _ hm=>(nomatch hm)⟩⟩,h2,h3,h4⟩
end Att
namespace L2
open PySem PySem.Spec PyProof.Rows
theorem kn:∀{vs:Vv} {ns:Vu},IntsAre vs ns->Vals (ns.map V.int) vs
 |_,_,.nil=>.nil
 |_,_,.cons n t h=>.cons ⟨t,rfl⟩ (kn h)
def sY(H:Hp):Prop:=∀b,H b=none\/∃o xs,H b=some (.frz o (.lst xs))
def qp{P:Program}{w:World}{K:Vo}{mg mb:Vr}{CX:si}{k:Nat}{fa a:Addr}{fd:FuncData}{x:Str}{sp:Sp}{s₁:Shared}{vs:Vv}{ns:Vu}
  (KX:K.In s₁.heap) (hns:s₁.heap.Ns mainGlobals mg) (hb:s₁.heap.Ns builtinsNs mb) (Ij:∀x:Str,x ≠ "__name__"->mb x=bootBuiltins x) (hlim:s₁.heap.NoLimit) (hg:s₁.gens=#[])
  (ha:s₁.heap.get? a=some { cls:=.type "list",data:=.seq vs.toArray }) (hi:IntsAre vs ns) (hl:ns.length<=sizeLine) (hr:Room k callerA)
  (F:∀base:Heap,K.In base->base.Ns mainGlobals mg->jX P w K mg base CX k fa fd [x] sp) (hbind:∀(s:Shared) (u:Value),BindsTo s fd ⟨[u],[]⟩ [(x,u)])
  (EB:∀H:Hp,sY H->SqL K H a (ns.map V.int)->sp [.ref a] H (fun v _=>v = .bl true) fun _ _ _=>False)
  (GD:∀H e s',CX [] H s₁ (fun _ _ _=>False) e s'->False) :
  codeAny (model P w) callerA (.call (.ref fa) ⟨[.ref a],[]⟩) (fun r s'=>r = .ok (.ret (.bool true))/\OldK s₁.heap s'.heap/\s'.os=s₁.os/\AllBare s'.gens) s₁:=by
 have rv:=kn hi
 have GE:=hi.length
 -- from an abstract heap in which nothing but the script may be tracked
 have core:∀H:Hp,sY H->SqL K H a (ns.map V.int)->Ck P w H s₁.heap->(∀b,H b≠none->b=a)->(H a≠none->K.lookup a=none)->
   codeAny (model P w) callerA (.call (.ref fa) ⟨[.ref a],[]⟩) (fun r s'=>r = .ok (.ret (.bool true))/\OldK s₁.heap s'.heap/\s'.os=s₁.os/\AllBare s'.gens) s₁:=by
  intro H hO hS hok hA hK
  have DS:∀{b:Addr} {o:Obj},s₁.heap.get? b=some o->H b=none->(kQ s₁.heap H).get? b=some o:=fun e n=>pS e n
  have FM:∀{b:Addr} {o:Obj} {es:Array DictEntry} {ep:Nat},s₁.heap.get? b=some o->o.data = .dict es ep->H b=none:=fun{b o es ep} e d=>by
   cases q:H b with
   |none=>rfl
   |some u=>
    have e':b=a:=hA b (by rw[q];simp)
    subst e'
    rw[ha]at e;cases e
    have d':Data.seq vs.toArray _=Data.dict es ep:=d
    cases d'
  have F5:∀{b:Addr} {m:Vr},s₁.heap.Ns b m->(kQ s₁.heap H).Ns b m:=fun{b m} ⟨o,es,ep,e,d,r⟩=>⟨o,es,ep,DS e (FM e d),d,r⟩
  have Hr:K.In (kQ s₁.heap H):=fun b o e=>DS (KX b o e) (by
   cases q:H b with
   |none=>rfl
   |some u=>
    have e':b=a:=hA b (by rw[q];simp)
    subst e'
    rw[hK (by rw[q];simp)]at e;cases e)
  have hM:Mod K mg (kQ s₁.heap H):=⟨Hr,F5 hns,⟨mb,F5 hb,Ij⟩,let ⟨mc,h1,h2⟩:=hlim;⟨mc,F5 h1,h2⟩⟩
  have e0:sL P w K mg (kQ s₁.heap H) callerA [] s₁ H:=⟨rfl,hM,fun b o e=>ss e,Nat.le_of_eq (ow _ _),trivial,fun b hb=>absurd (show b∈([]:List Addr)from hb) (by simp),hok,.of_eq hg⟩
  refine codeAny_mono ((F _ Hr (F5 hns)).run callerA [] s₁ H ⟨[.ref a],[]⟩ [.ref a] [.ref a] _ _ hr e0 (hbind s₁ (.ref a)) (.cons rfl .nil) (EB H hO hS)) fun r s' h=>?_
  cases r with
  |error e=>exact(GD H e s' h).elim
  |ok fl=>
   cases fl with
   |next=>exact False.elim h
   |brk=>exact False.elim h
   |cont=>exact False.elim h
   |ret u=>
    obtain⟨v,H',os,bare,un,GF,r',q⟩:=h
    have q':v = .bl true:=q
    subst q'
    obtain rfl:u=Value.bool true:=r'
    refine⟨rfl,OldK.of_keep fun b o e=>?_,os,bare⟩
    cases q:H b with
    |none=>exact un.keep b o e q (by intro z;exact absurd (show b∈([]:List Addr)from z) (by simp)) (by simp)
    |some u=>
     rcases hO b with z|⟨ob,xs,z⟩
     ·rw[q]at z;cases z
     ·have z2:=un.Dg b ob _ z
      obtain⟨e1,_⟩:=hok b _ z
      obtain⟨e2,_⟩:=GF b _ z2
      rw[e]at e1;cases e1
      exact e2
 cases hk:K.lookup a with
 |some o=>
  -- the script is one of the module's own objects
  have e:=KX a o hk
  rw[ha]at e
  cases e
  refine core (fun _=>none) (fun _=>.inl rfl) (.inr ⟨_,vs.toArray,_,hk,rfl,rfl,rfl,by rw[Jo,GE];exact hl,by simpa using rv⟩) (fun b u z=>by have z':(none:Option HO)=some u:=z;cases z') (fun b z=>absurd rfl z) fun z=>absurd rfl z
 |none=>
  refine core (fun b=>if b=a then some (.frz { cls:=.type "list",data:=.seq vs.toArray } (.lst (ns.map V.int))) else none) (fun b=>?_) (.inl (.inr ⟨{ cls:=.type "list",data:=.seq vs.toArray },if_pos rfl⟩)) (fun b u z=>?_) (fun b z=>?_) fun _=>hk
  ·by_cases hb:b=a
   ·exact .inr ⟨_,_,if_pos hb⟩
   ·exact .inl (if_neg hb)
  ·by_cases hb:b=a
   ·have z':=(if_pos hb).symm.trans z
    cases z'
    subst hb
    exact⟨ha,by rw[Jk];exact hl,vs,_,rv,ha⟩
   ·have z':=(if_neg hb).symm.trans z
    cases z'
  ·by_cases hb:b=a
   ·exact hb
   ·exact absurd (if_neg hb) z
def sZ{l:PySem.W.OpenLaw}{n k:Nat}{q:Program}{loose:Vs}{XP:(Vr)->Heap->Prop}{YP:World->Heap->Prop}{d:DefRec}{K:Params->PySem.W.Frag}{CX:World->si}{sp:World->Sp}{x:Str}
  (hn:l.most=some n) (hn2:n<=sizeLine) (hdf:d.params.defaults=[]) (hr:Room k callerA)
  (hY:∀(w:World) (h:Heap),YP w h->(K w.params).In h)
  (F:∀(w:World) (mg:Vr) (fa:Addr) (h:Heap),(K w.params).In h->h.Ns mainGlobals mg->mg d.name=some (.ref fa)->
   ∃fd:FuncData,(∀(s:Shared) (u:Value),BindsTo s fd ⟨[u],[]⟩ [(x,u)])/\
    ∀base:Heap,(K w.params).In base->base.Ns mainGlobals mg->jX l.prog w (K w.params) mg base (CX w) k fa fd [x] (sp w))
  (EB:∀(w:World) (H:Hp) (a:Addr) (ns:Vu),ns.length<=n->sY H->SqL (K w.params) H a (ns.map V.int)->sp w [.ref a] H (fun v _=>v = .bl true) fun _ _ _=>False)
  (GD:∀(w:World) (H:Hp) (s:Shared) (e:Value) (s':Shared),CX w [] H s (fun _ _ _=>False) e s'->False) :
  PySem.W.WalkO q loose XP YP l.row.toRowW d [] (fun f vs=>PySem.call f vs):=by
 refine Att.lN hn hdf fun w s₀ s₁ mg mb fa o pm cd doc a vs ns G Y ho hd hcd hmg hobj hints hlen hg=>?_
 have KX:=hY w _ Y
 obtain⟨fd,hb,hF⟩:=F w mg fa _ KX G.T.g hmg
 exact qp KX G.T.g G.T.b G.T.builtins G.T.nolimit hg hobj hints (Jw hlen hn2) hr hF hb (fun H hO hS=>EB w H a ns hlen hO hS) fun H e s'=>GD w H s₁ e s'
noncomputable def bH(s:Stmt):Arguments:=match s with
 | .FunctionDef _ a _ _ _ _ _ _ _ _=>a
 |_=>{ posonlyargs:=[],args:=[],vararg:=none,kwonlyargs:=[],kw_defaults:=[],kwarg:=none,defaults:=[] }
noncomputable def aY(s:Stmt):List Stmt:=match s with
 | .FunctionDef _ _ b _ _ _ _ _ _ _=>b
 |_=>[]
noncomputable def az(s:Stmt):Scope:=match s with
 | .FunctionDef _ _ _ _ _ _ sc _ _ _=>sc
 |_=>{ kind:=.function,names:=[],isGenerator:=false,isCoroutine:=false }
noncomputable abbrev sj:si:=fun _ _ _ _ _ _=>False
noncomputable abbrev E0:XK:=fun _ _ _=>False
def uE{X:Cx}:mI sj X E0:=fun _ _ _ _ _ _ _ h=>h.elim
structure EW (K:Vo) (x qual:Str) (st:Stmt) (f:Addr) (fd:FuncData):Prop where
 ex:∃(oc:Value) (od:Option Addr) (kV doc pm:Value) (an:Option Addr) (cdv ct:Value) (osl:Array (Option Value)),
  fd=PySem.W.fnOf x qual (bH st) (aY st) (az st) .none kV doc pm an cdv ct/\K.lookup f=some ⟨oc,od,.func fd,osl⟩/\PySem.W.codeIn K cdv qual=true
 kp:PySem.W.keepIn K (.ref f)=true
section
variable {P:Program} {w:World} {K:Vo} {mg:Vr} {base:Heap}
def EW.ok{x qual:Str}{st:Stmt}{f:Addr}{fd:FuncData}{N ps:Vs}{k:Nat}{sp:Sp}(F:EW K x qual st f fd)(S:cO N ps (az st))(len:∀vs H Q E,sp vs H Q E->vs.length=ps.length)
  (hbody:∀(cdv:Value) (A:Around) (outer:List Env) (s:Shared) (H:Hp) (vs:List V) (Q:VK) (E:XK),Room k (A.deeper (envOfC qual (az st) s.heap.objs.size f cdv))->sp vs H Q E->
   ∃t,Dx (lJ sj P w K mg base N qual (az st) f cdv A outer s H E).Fe (aY st) t/\t { nx:=fun _ H'=>Q .non H',rt:=Q } (eN N vs) H):jX P w K mg base sj (k+1) f fd ps sp:=by
 obtain⟨oc,od,kV,doc,pm,an,cdv,ct,osl,rfl,lk,hcd⟩:=F.ex
 refine uB lk hcd S len fun A outer s H vs Q E hr EB=>?_
 obtain⟨t,h,q⟩:=hbody cdv A outer s H vs Q E hr EB
 exact⟨t,h.Fe,q⟩
def EW.binds{x qual:Str}{st:Stmt}{f:Addr}{fd:FuncData}{ps:Vs}(F:EW K x qual st f fd)
  (h:∀(kV doc pm:Value) (an:Option Addr) (cdv ct:Value) (us:Vv),us.length=ps.length->bindArgs (PySem.W.fnOf x qual (bH st) (aY st) (az st) .none kV doc pm an cdv ct) ⟨us,[]⟩=pure (ps.zip us)):Binds K fd ps []:=by
 obtain⟨oc,od,kV,doc,pm,an,cdv,ct,osl,rfl,lk,hcd⟩:=F.ex
 exact .all (h kV doc pm an cdv ct)
def kZ{x qual:Str}{st:Stmt}{f:Addr}{oc:Value}{od an:Option Addr}{osl:Array (Option Value)}{kV doc pm cdv ct:Value}(l:K.lookup f=some ⟨oc,od,.func (PySem.W.fnOf x qual (bH st) (aY st) (az st) .none kV doc pm an cdv ct),osl⟩)
  (c:PySem.W.codeIn K cdv qual=true) (k:PySem.W.keepIn K (.ref f)=true):EW K x qual st f (PySem.W.fnOf x qual (bH st) (aY st) (az st) .none kV doc pm an cdv ct):=⟨⟨oc,od,kV,doc,pm,an,cdv,ct,osl,rfl,l,c⟩,k⟩
end
def dU{n:Nat}(h:n<=1000):n < sizeLine:=L4 h (by decide)
section
variable {X:Cx}
def oM:fI X (.builtin "len") (fun xs H Q=>∃a kvs,xs=[V.ref a]/\H a=some (.dK kvs)/\Q (.int kvs.length) H):=by
 intro pins s σ H xs us Q I r h
 obtain⟨a,kvs,rfl,ha,q⟩:=h
 obtain⟨u,rfl,ru⟩:=eP r
 cases ru
 exact xP I (.inl ha) fun t s' I'=>⟨.int kvs.length,H,I',⟨t,rfl⟩,q⟩
end
end L2
set_option maxHeartbeats 4000000
namespace L2
open PySem PySem.Spec PyProof.Rows
def k4{prog:Program}{w:World}{A:Around}{R:Result->Shared->Prop}{s:Shared}{elt target iter:Expr}{ifs:List Expr}{scope:Scope}{pos:Pos}{it acc:Value}{env:Env}(I:Nat->Shared->Prop)
  (turn:∀n s,I n s->wpAny (model prog w) A (pyNext it) (fun r s₁=>match r with
   |none=>R (.ok .next) s₁
   |some v=>wpAny (model prog w) A (letOwnedTupleGo target it v) (fun _ s₁'=>wpAny (model prog w) A (assign target env v) (fun _ s₂=>
     wpAny (model prog w) A (forIn ifs true fun c r=>if r=true then do let ok <-isTrue c env (eval c env);pure (ForInStep.yield ok) else pure (ForInStep.yield r)) (fun ok s₃=>
      if ok=true then wpAny (model prog w) A (eval elt env) (fun x s₄=>
       wpAny (model prog w) A (call (.builtin "list.append") [acc,x]) (fun _ s₅=>∃m,m < n/\I m s₅) (fun _ _=>False) s₄) (fun _ _=>False) s₃
      else ∃m,m < n/\I m s₃) (fun _ _=>False) s₂) (fun _ _=>False) s₁') (fun _ _=>False) s₁) (fun _ _=>False) s)
  (n:Nat) (h:I n s) :
  codeAny (model prog w) A (.compLoop (.ListComp elt [⟨target,iter,ifs,0⟩] scope pos) 0 it acc env) R s:=by
 refine codeAny_loop rfl I (fun n s hI=>?_) n h
 show wpAny _ A ((compTurn (.ListComp elt [⟨target,iter,ifs,0⟩] scope pos) 0 it acc env).onRaise (fun x=>do noteFrame x env;theTreesLotGoes x)) _ _ s
 refine wpAny_noted ?_
 rw[compTurn_list]
 refine Ji (wpAny_standAt (Ji (Lo (turn n s hI) (fun r s₁ h₁=>?_) fun _ _ h'=>h'.elim)))
 cases r with
 |none=>exact Jp h₁
 |some v=>
  refine Ji (Lo h₁ (fun _ s₁' h₁'=>?_) fun _ _ h'=>h'.elim)
  refine Ji (Lo h₁' (fun _ s₂ h₂=>Ji (Lo h₂ (fun ok s₃ h₃=>?_) fun _ _ h'=>h'.elim)) fun _ _ h'=>h'.elim)
  cases ok with
  |false=>exact Jp ⟨rfl,h₃⟩
  |true=>
   exact Ji (Ji (Lo h₃ (fun x s₄ h₄=>Ji (Lo h₄ (fun _ s₅ h₅=>Jp (Jp ⟨rfl,h₅⟩)) fun _ _ h'=>h'.elim)) fun _ _ h'=>h'.elim))
structure Bk where
 C:Addr
 s:Shared
 H:Hp
 fp:List Addr
 pn:Va
noncomputable def cg(env:Env)(fs:Vs):List (Str×Addr):=fs.map fun x=>(x,(env.cells.lookup x).getD 0)
noncomputable abbrev Cx.Ch(X:Cx)(N:Vs)(scope:Scope)(fs:Vs)(B:Bk):Cx:=
 { X with N:=N,s₀:=B.s,H₀:=B.H,env:=compEnvC scope (cg X.env fs) B.C X.env,outer:=X.stack,ex:=B.fp,fn:=fun _=>false,pn:=B.pn,xe:=fun _ _=>False }
noncomputable def bZ(env:Env):List Str->Prop
 |[]=>True
 |x::r=>(∃c,env.cells.lookup x=some c)/\bZ env r
theorem iI{env:Env}:∀{fs:Vs},bZ env fs->∀{x:Str} {c:Addr},(cg env fs).lookup x=some c->env.cells.lookup x=some c
 |[],_,x,c,h=>by cases h
 |y::r,k,x,c,h=>by
  obtain⟨⟨d,hd⟩,k⟩:=k
  have h':List.lookup x ((y,(env.cells.lookup y).getD 0)::cg env r)=some c:=h
  rw[List.lookup_cons]at h'
  cases e:x == y with
  |true=>
   rw[e]at h'
   have e':x=y:=by simpa using e
   subst e'
   rw[hd]at h'
   rw[hd]
   exact h'
  |false=>
   rw[e]at h'
   exact iI k h'
noncomputable def k5(names:List (Str×NameKind))(cl:List (Str×Addr)):Bool:=names.all fun y=>(y.2 != .cell&&y.2 != .free) || (cl.lookup y.1).isSome
def qq{names:List (Str×NameKind)}{cl:List (Str×Addr)}{x:Str}{k:NameKind}(h:k5 names cl=true)(e:names.lookup x=some k)(hk:k = .cell\/k = .free):∃c,cl.lookup x=some c:=by
 have hm:(x,k)∈names:=K3 e
 have q:=Mp.mp h _ hm
 have z:(cl.lookup x).isSome=true:=by
  rcases hk with rfl|rfl
  ·simpa using q
  ·simpa using q
 exact Option.isSome_iff_exists.mp z
noncomputable def Bq(env:Env)(scope:Scope)(cl:List (Str×Addr)):List Str->Prop
 |[]=>True
 |x::r=>((env.scope.names.lookup x=some .cell\/env.scope.names.lookup x=some .free)/\((relabel scope env).names.lookup x=some .cell\/(relabel scope env).names.lookup x=some .free)/\cl.lookup x=env.cells.lookup x)/\Bq env scope cl r
theorem Bq.mem{env:Env}{scope:Scope}{cl:List (Str×Addr)}:∀{l:Vs},Bq env scope cl l->∀x∈l,
  (env.scope.names.lookup x=some .cell\/env.scope.names.lookup x=some .free)/\((relabel scope env).names.lookup x=some .cell\/(relabel scope env).names.lookup x=some .free)/\cl.lookup x=env.cells.lookup x
 |[],_,x,h=>nomatch h
 |y::r,k,x,h=>by
  rcases Jq.mp h with rfl|h
  ·exact k.1
  ·exact Bq.mem k.2 x h
noncomputable def dW(own:Nat)(fr:List Nat)(σ:St):St:=List.replicate own none++fr.map fun j=>(σ[j]?).getD none
noncomputable abbrev h_(us:Vv):Obj:={ cls:=.type "list",data:=.seq us.toArray us.length }
def oN(us:Vv)(u:Value):({ cls:=.type "list",data:=.seq (us.toArray.push u) (us.length+1) }:Obj)=h_ (us++[u]):=by
 show({ cls:=.type "list",data:=.seq (us.toArray.push u) (us.length+1) }:Obj)={ cls:=.type "list",data:=.seq (us++[u]).toArray (us++[u]).length }
 rw[Jj,Jy,List.push_toArray]
section
variable {X:Cx} {pins:Va} {σ:St} {H:Hp} {s:Shared}
def Inv.FO{D:Addr}{us:Vv}{n:Nat}{ys:List V}(I:Inv X pins σ H s)(f:dR X pins H D)(e:s.heap.get? D=some { cls:=.type "list",data:=.seq us.toArray n })(r:Vals ys us)(hz:ys.length<=sizeLine) :
  Inv X pins σ (upd H D (.lst ys)) s:=by
 obtain⟨f0,f1,f2,f3,f4,f5⟩:=f
 have nD:∀b u,H b=some u->b≠D:=fun b u q=>aU q f0
 have hok:Ck X.prog X.w (upd H D (.lst ys)) s.heap:=fun b u q=>by
  by_cases hb:b=D
  ·subst hb
   rw[ay]at q
   cases q
   exact⟨hz,us,n,r,e⟩
  ·rw[ax hb]at q
   exact(I.hok b u q).stay (fun _ _ _ z=>z) (fun c z=>by rw[ax (nD c _ z)];exact z) fun c xs z=>by rw[ax (nD c _ z)];exact z
 exact I.step (H':=upd H D (.lst ys)) (h':=s.heap) (g':=s.gens) (t':=s.toks) (d':=s.drawn) (ch:=[D])
  (fun b hb=>by
   have z:b=D:=by simpa using hb
   subst z
   exact⟨f3,f1,f4,f5⟩)
  (fun _ _ _ _ _ q _=>q) (fun _ o _ _ _ q _=>⟨o.slots,q⟩)
  (fun b o hb _ n=>by rw[ax (fun z=>hb (by simp[z]))];exact n)
  (fun _ o _ q=>⟨o,q⟩) (fun b xs q=>by rw[ax (nD b _ q)];exact q) (fun b o u q=>by rw[ax (nD b _ q)];exact q)
  (fun b ps q=>⟨#[],by rw[ax (nD b _ q),q];simp⟩) (fun _ q=>q) hok I.bare
def vN{N:Vs}{scope:Scope}{fs:Vs}{C:Addr}{fp:List Addr}(I:Inv X pins σ H s)(hkind:scope.kind = .function)(hC:s.heap.objs.size<=C)(hcl:bZ X.env fs)
  (hhas:k5 (relabel scope X.env).names (cg X.env fs)=true) (hf:∀b∈fp,dR X pins H b) (hlt:∀b∈fp,b < s.heap.objs.size):(X.Ch N scope fs ⟨C,s,H,fp,X.pn++pins⟩).Ok where
 mod:=I.ok.mod
 kind:=hkind
 glob:=I.ok.glob
 blt:=I.ok.blt
 above:=hC
 inj:=fun x y c h1 h2=>I.ok.inj x y c (iI hcl h1) (iI hcl h2)
 has:=fun x hx=>by
  rcases hx with e|e
  ·exact qq hhas e (.inl rfl)
  ·exact qq hhas e (.inr rfl)
 FC:=fun x c h=>by cases h
 hd:=I.ok.hd
 frames:=I.ok.frames
 stk:=.inl rfl
 Gr:=fun b hb=>⟨JL (JC (hlt b hb) hC),fun x c e=>(hf b hb).2.2.2.2.1 x c (iI hcl e)⟩
 bs:=I.bs
 EI:=Jw I.ok.EI I.sz
 DZ:=fun b o e hb=>(hf b hb).2.2.2.1.elim (fun z=>I.ok.DZ b o e z) fun z=>absurd (JC (Jr e) (Jw I.ok.EI z)) (KP _)
 Ei:=fun b hb z=>(Jq.mp (I.CA b z)).elim (hf b hb).2.1 (hf b hb).2.2.1
 CO:=I.stack
 Fc:=I.DQ
def s9{N:Vs}{scope:Scope}{fs:Vs}{C D:Addr}{fp:List Addr}{own:Nat}{fr:List Nat}{h₁:Heap}{m0:Vr}{t':Nat}(I:Inv X pins σ H s)
  (ok:(X.Ch N scope fs ⟨C,s,H,fp,X.pn++pins⟩).Ok) (hC:s.heap.objs.size<=C) (hD:s.heap.objs.size<=D) (hDC:D≠C) (hcl:bZ X.env fs)
  (old:∀b o,s.heap.get? b=some o->h₁.get? b=some o) (hns:h₁.Ns C m0) (hacc:h₁.get? D=some (h_ [])) (hlen:N.length=own+fr.length) (hN:(N.drop own).map some=fr.map fun j=>X.N[j]?)
  (hF:Bq X.env scope (cg X.env fs) (N.drop own)) :
  Inv (X.Ch N scope fs ⟨C,s,H,fp,X.pn++pins⟩) [(D,h_ [])] (dW own fr σ) H { s with heap:=h₁,toks:=t' }:=by
 refine⟨ok,rfl,I.bare,Un.kept old,⟨m0,hns,fun i x v e1 e2 e3=>?_⟩,fun x c e=>?_,I.hok.fresh hC,fun x c e=>I.Ca x c (iI hcl e),fun p hp=>?_,I.hok.kept old,?_⟩
 ·have e1:N[i]?=some x:=e1
  by_cases hi:i < own
  ·unfold dW at e2
   rw[JZ (by rw[J4];exact hi),KY,if_pos hi]at e2
   cases e2
  ·obtain⟨k,rfl⟩:∃k,i=own+k:=⟨i - own,by omega⟩
   have e1':(N.drop own)[k]?=some x:=by rw[MG];exact e1
   have q:=Ke (fun l=>l[k]?) hN
   simp only[Jx,e1',Option.map_some]at q
   unfold dW at e2
   rw[J8 (by rw[J4];omega),J4,Nat.add_sub_cancel_left,Jx]at e2
   cases hj:fr[k]? with
   |none=>rw[hj]at e2;cases e2
   |some j=>
    rw[hj]at e2 q
    simp only[Option.map_some,MM]at e2 q
    have hσ:σ[j]?=some (some v):=by
     cases z:σ[j]? with
     |none=>rw[z]at e2;cases e2
     |some w=>rw[z]at e2;simp only[Option.getD_some]at e2;rw[e2]
    obtain⟨k1,k2,k3⟩:=hF.mem x (JI e1')
    obtain⟨m,hn,hl⟩:=I.loc
    have vis:yI X.env.scope x:=by
     rcases k1 with z|z
     ·exact .inr (.inl z)
     ·exact .inr (.inr z)
    obtain⟨u,ru,l⟩:=hl j x v q.symm hσ vis
    rcases l with⟨hk,_⟩|⟨_,c,hc,o,ho,hd⟩
    ·have hk':X.env.scope.names.lookup x=some .local:=hk
     rcases k1 with z|z
     ·rw[z]at hk';cases hk'
     ·rw[z]at hk';cases hk'
    ·exact⟨u,ru,.inr ⟨k2,c,k3.trans hc,o,old _ _ ho,hd⟩⟩
 ·obtain⟨v,o,ho,hd⟩:=I.cell x c (iI hcl e)
  exact⟨v,o,old _ _ ho,hd⟩
 ·rcases Ju.mp hp with z|z
  ·obtain⟨e,n,ne,nf,d⟩:=I.pin p z
   exact⟨old _ _ e,n,JL (JC (Jr e) hC),fun q=>(Jq.mp (I.CA _ q)).elim ne nf,d⟩
  ·have z':p=(D,h_ []):=by simpa using z
   subst z'
   exact⟨hacc,I.hok.fresh hD,hDC,fun q=>(Jq.mp (I.CA _ q)).elim (fun e=>absurd e (LK (JC I.lt hD))) (I.FI hD),fun v z=>by cases z⟩
 ·show(dW own fr σ).length=N.length
  unfold dW
  rw[Jj,J4,Jk,hlen]
end
def PF(X:Cx)(ifs:List Expr)(t:TT):Prop:=
 ∀(pins:Va) (s:Shared) (σ:St) (H:Hp) (Q:Bool->Hp->Prop),Inv X pins σ H s->t σ H Q->
  wpAny (model X.prog X.w) X.A (forIn ifs true fun c r=>if r=true then do let ok <-isTrue c X.env (eval c X.env);pure (ForInStep.yield ok) else pure (ForInStep.yield r)) (TP X pins σ Q) X.xe s
def zw:TT:=fun _ H Q=>Q true H
def vO{X:Cx}:PF X [] zw:=fun _ _ _ H _ I h=>wpAny_tests_nil ⟨H,I,h⟩
def vP{X:Cx}{c:Expr}{t:TT}(h:PT X c t):PF X [c] t:=fun pins s σ H Q I q=>wpAny_tests_one (h pins s σ H Q I q)
def uF(J:It)(g:TG)(tc:TT)(te:TE)(own:Nat)(σ':St)(fin:List V->Hp->Prop)(H1:Hp):Prop:=
 ∃W:Nat->Nat->List V->Hp->Prop,(∃m,W 0 m [] H1)/\∀i m ys H,W i m ys H->
  (J.stop i H/\ys.length<=sizeLine/\fin ys H) \/
  (J.go i H/\ys.length<=sizeLine/\∃Nx:List V->Hp->Prop,(∀ys' H',Nx ys' H'->∃m',m' < m/\W (i+1) m' ys' H')/\∀x H',J.F4 i H x H'->g x σ' H' fun σ2 H2=>σ2.drop own=σ'.drop own/\tc σ2 H2 fun b H3=>
   if b=true then te σ2 H3 fun y H4=>Nx (ys++[y]) H4 else Nx ys H3)
section
variable {X:Cx} {pins:Va} {σ:St} {H:Hp} {s:Shared}
variable {elt iter tg:Expr} {ifs:List Expr} {scope:Scope} {pos:Pos} {N:Vs} {own:Nat} {fr:List Nat} {fs:Vs} {g:TG} {tc:TT} {te:TE}
def jh{J:It}{fp:List Addr}{it:Addr}{tn:Nat->Heap->Prop}{fin:List V->Hp->Prop}{E:Vq}{RR:Value->Addr->Result->Shared->Prop}
  (hc:X.calm=true) (hcell:∀y∈scope.names,y.2 ≠ .cell) (hkind:scope.kind = .function) (hcl:bZ X.env fs) (hhas:k5 (relabel scope X.env).names (cg X.env fs)=true)
  (hlen:N.length=own+fr.length) (hN:(N.drop own).map some=fr.map fun j=>X.N[j]?) (hF:Bq X.env scope (cg X.env fs) (N.drop own))
  (hg:∀B,PG (X.Ch N scope fs B) tg g) (hf:∀B,PF (X.Ch N scope fs B) ifs tc) (he:∀B,PE (X.Ch N scope fs B) elt te)
  (I:Inv X pins σ H s) (T:kR X.prog X.w X.K tg J fp it tn) (st:tn 0 s.heap) (f:∀b∈fp,dR X pins H b) (W:uF J g tc te own (dW own fr σ) fin H)
  (hRR:∀D C s' ys H' m',Inv X pins σ (upd H' D (.lst ys)) s'->H' D=none->s'.heap.Ns C m'->dR X pins (upd H' D (.lst ys)) C->fin ys H'->RR (.ref D) C (.ok .next) s') :
  wpAny (model X.prog X.w) X.A (newList []) (fun acc s₃=>wpAny (model X.prog X.w) X.A (newFunctionEnv scope X.env.globals (cg X.env fs) [] X.env.qual none .none (some X.env)) (fun cenv s₄=>
   codeAny (model X.prog X.w) X.A (.compStart (.ListComp elt [⟨tg,iter,ifs,0⟩] scope pos) 0 (.ref it) acc { cenv with scope:=relabel scope X.env }) (RR acc cenv.locals) s₄) E s₃) E s:=by
 refine Kf (wpAny_newFunctionEnv hcell (by intro y hy;simp at hy) (fun h₁ Fj EL=>?_) hkind)
 dsimp only at Fj EL ⊢
 generalize GG:s.heap.push { cls:=.type "list",dict:=none,data:=.seq ([]:Vv).toArray }=H2 at Fj EL ⊢
 have hC:H2.objs.size=s.heap.objs.size+1:=by rw[<-GG,KR]
 have Fk:s.heap.objs.size<=H2.objs.size:=by rw[hC];exact Nat.le_succ _
 have hDC:s.heap.objs.size≠H2.objs.size:=by rw[hC];exact JL (Nat.lt_succ_self _)
 have below:∀b,b < s.heap.objs.size->b≠H2.objs.size/\b≠s.heap.objs.size:=fun b hb=>⟨by rw[hC];exact JL (Nat.lt_succ_of_lt hb),JL hb⟩
 have old:∀b o,s.heap.get? b=some o->h₁.get? b=some o:=fun b o e=>EL.extBut b o (below b (Jr e)).1 (Jl _ (GG▸Jl _ e))
 have hacc:h₁.get? s.heap.objs.size=some (h_ []):=EL.extBut _ _ hDC (Jl _ (GG▸JA _ rfl))
 have hlt:∀b∈fp,b < s.heap.objs.size:=fun b hb=>by
  obtain⟨o,e,_⟩:=T.obj 0 _ st b hb
  exact Jr e
 obtain⟨Wv,⟨m0,w0⟩,turn⟩:=W
 have ok:=vN (N:=N) I hkind Fk hcl hhas f hlt
 have loop:∀s₃:Shared,s₃={ s with heap:=h₁,toks:=s.toks+([]:List (Str×Value)).length }->
   codeAny (model X.prog X.w) X.A (.compLoop (.ListComp elt [⟨tg,iter,ifs,0⟩] scope pos) 0 (.ref it) (.ref s.heap.objs.size) (compEnvC scope (cg X.env fs) H2.objs.size X.env))
    (RR (.ref s.heap.objs.size) H2.objs.size) s₃:=by
  rintro s₃ rfl
  have I0:=s9 (own:=own) (fr:=fr) (t':=s.toks+([]:List (Str×Value)).length) I ok Fk (Jm _) hDC hcl old Fj hacc hlen hN hF
  have Ik:tn 0 h₁:=T.keep 0 _ _ st fun b _ o e=>old b o e
  have stat:∀{us:Vv} {H':Hp},(∀b∈fp,H' b=none)->∀b∈fp,dR (X.Ch N scope fs ⟨H2.objs.size,s,H,fp,X.pn++pins⟩) [(s.heap.objs.size,h_ us)] H' b:=fun{us H'} hn b hb=>by
   obtain⟨f0,f1,f2,f3,f4,f5⟩:=f b hb
   refine⟨hn b hb,(below b (hlt b hb)).1,fun z=>(Jq.mp (I.CA b z)).elim f1 f2,.inl hb,fun x c e=>f4 x c (iI hcl e),fun p hp=>?_⟩
   rcases Ju.mp hp with z|z
   ·exact f5 p z
   ·have z':p=(s.heap.objs.size,h_ us):=by simpa using z
    subst z'
    exact Lc (below b (hlt b hb)).2
  have GH:∀p∈X.pn++pins,p.1 < s.heap.objs.size:=fun p hp=>Jr (I.pin p hp).1
  refine k4 (fun k s'=>∃i ys us H',Inv (X.Ch N scope fs ⟨H2.objs.size,s,H,fp,X.pn++pins⟩) [(s.heap.objs.size,h_ us)] (dW own fr σ) H' s'/\Vals ys us/\tn i s'.heap/\(∀b∈fp,H' b=none)/\Wv i k ys H') ?_ m0
   ⟨0,[],[],H,I0,.nil,Ik,fun b hb=>(f b hb).1,w0⟩
  rintro n s' ⟨i,ys,us,H',I',rv,st',Hs,w'⟩
  rcases turn i n ys H' w' with⟨stop,hz,GI⟩|⟨go,hz,Nx,Ht,step⟩
  ·refine AL (T.done (X.Ch N scope fs ⟨H2.objs.size,s,H,fp,X.pn++pins⟩) rfl rfl rfl hc i _ s' _ H' (fun _ _=>False) I' (stat Hs) st' stop) (fun r s1 ⟨hr,I1⟩=>?_)
   subst hr
   show RR _ _ (.ok .next) s1
   have IX:Inv X pins σ H' s1:=I.FL I1.os I1.base I1.hok I1.bare fun b hb=>by
    obtain⟨f0,f1,f2,f3,f4,f5⟩:=f b hb
    exact⟨f3,f1,f4,f5⟩
   obtain⟨eD,nD,_⟩:=I1.pin (s.heap.objs.size,h_ us) (by simp)
   have IT:=IX.FO (I.Cw (H':=H') (Jm _) nD) eD rv hz
   obtain⟨m',hn',_⟩:=I1.loc
   exact hRR _ _ s1 ys H' m' IT nD hn' (I.Cw Fk (by rw[ax (Lc hDC)];exact I1.free)) GI
  ·refine AL (T.item (X.Ch N scope fs ⟨H2.objs.size,s,H,fp,X.pn++pins⟩) rfl rfl rfl hc i _ s' _ H' (fun _ _=>False) I' (stat Hs) st' go) (fun r s1 ⟨u,hr,h1⟩=>?_)
   subst hr
   show wpAny _ _ (letOwnedTupleGo tg (.ref it) u) _ _ s1
   refine AL h1 (fun _ s5 ⟨x,H5,I5,r5,y5,EJ,Gw⟩=>?_)
   have Gx:=I5.pinned (stat Gw) (T.obj _ _ EJ)
   refine AL (hg _ _ s5 _ H5 x u _ Gx r5 (step x H5 y5)) (fun _ s6 ⟨σ6,H6,I6,Il,q6⟩=>?_)
   refine AL (hf _ _ s6 σ6 H6 _ I6 q6) (fun b s7 ⟨H7,I7,q7⟩=>?_)
   -- Fl the turn's own names
   have forget:∀{H8:Hp} {s8:Shared} {pl:Va},Inv (X.Ch N scope fs ⟨H2.objs.size,s,H,fp,X.pn++pins⟩) pl σ6 H8 s8->Inv (X.Ch N scope fs ⟨H2.objs.size,s,H,fp,X.pn++pins⟩) pl (dW own fr σ) H8 s8:=fun{H8 s8 pl} I8=>by
    refine I8.weak (I0.len.trans I8.len.symm) fun j v e=>?_
    by_cases hj:j < own
    ·unfold dW at e
     rw[JZ (by rw[J4];exact hj),KY,if_pos hj]at e
     cases e
    ·obtain⟨k,rfl⟩:∃k,j=own+k:=⟨j - own,by omega⟩
     rw[<-MG]at e ⊢
     rw[Il]
     exact e
   have F6:∀{H8:Hp} {s8:Shared},Inv (X.Ch N scope fs ⟨H2.objs.size,s,H,fp,X.pn++pins⟩) ([(s.heap.objs.size,h_ us)]++i9 fp s5.heap) σ6 H8 s8->∀b∈fp,∀o,s5.heap.get? b=some o->s8.heap.get? b=some o/\H8 b=none:=fun I8 b hb o e=>
    let z:=I8.pin (b,o) (JS _ (JS _ (fT hb e)))
    ⟨z.1,z.2.1⟩
   cases b with
   |false=>
    show ∃m,m < n/\_
    obtain⟨m',hm,w7⟩:=Ht _ _ (show Nx ys H7 from q7)
    refine⟨m',hm,i+1,ys,us,H7,(forget I7).Cy,rv,T.keep _ _ _ EJ fun b hb o e=>(F6 I7 b hb o e).1,fun b hb=>?_,w7⟩
    obtain⟨o,e,_⟩:=T.obj _ _ EJ b hb
    exact(F6 I7 b hb o e).2
   |true=>
    show wpAny _ _ (eval elt _) _ _ s7
    have Im:te σ6 H7 fun y H4=>Nx (ys++[y]) H4:=q7
    refine AL (he _ _ s7 σ6 H7 _ I7 Im) (fun v s8 ⟨y,H8,I8,r8,n8⟩=>?_)
    obtain⟨m',hm,w8⟩:=Ht _ _ n8
    obtain⟨eD,nD,Hu,Io,_⟩:=I8.pin (s.heap.objs.size,h_ us) (JS _ (Lf _ (by simp)))
    refine append_at (hsz:=by show us.toArray.size<=sizeLine;rw[Jo,<-rv.length];exact hz) eD fun h9 F7 Ip=>?_
    have J0:Inv (X.Ch N scope fs ⟨H2.objs.size,s,H,fp,X.pn++pins⟩) [] σ6 H8 s8:=I8.CQ fun p hp=>nomatch hp
    have J1:Inv (X.Ch N scope fs ⟨H2.objs.size,s,H,fp,X.pn++pins⟩) [] σ6 H8 { s8 with heap:=h9 }:=J0.turned (t':=s8.toks) (it:=s.heap.objs.size) (fun b o hb e=>(F7.2 b hb).trans e) nD Hu (.inr (Jm _))
     (fun x c e z=>by
      obtain⟨v',q⟩:=I.cell x c (iI hcl e)
      exact absurd (JC q.lt (by rw[z];exact Jm _)) (KP _))
     (fun p hp=>by
      rw[JN]at hp
      exact JL (GH p hp))
    have J2:Inv (X.Ch N scope fs ⟨H2.objs.size,s,H,fp,X.pn++pins⟩) [(s.heap.objs.size,h_ (us++[v]))] σ6 H8 { s8 with heap:=h9 }:=J1.CQ fun p hp=>by
     have z':p=(s.heap.objs.size,h_ (us++[v])):=by simpa using hp
     subst z'
     exact⟨Ip.trans (Ke some (oN us v)),nD,Hu,Io,fun v z=>by cases z⟩
    refine⟨m',hm,i+1,ys++[y],us++[v],H8,forget J2,Vals.append rv (.cons r8 .nil),T.keep _ _ _ EJ fun b hb o e=>(F7.2 b (below b (hlt b hb)).2).trans (F6 I8 b hb o e).1,fun b hb=>?_,w8⟩
    obtain⟨o,e,_⟩:=T.obj _ _ EJ b hb
    exact(F6 I8 b hb o e).2
 exact codeAny_compStart_list (loop _ rfl) (T.self _ 0 _ _ _ (T.keep 0 _ _ st fun b _ o e=>old b o e) (loop _ rfl))
def qr(wi:TI)(g:TG)(tc:TT)(te:TE)(own:Nat)(fr:List Nat):TE:=fun σ H Q=>wi σ H fun J H1=>
 uF J g tc te own (dW own fr σ) (fun ys H2=>∀D,H2 D=none->Q (.ref D) (upd H2 D (.lst ys))) H1
def s_(fs:Vs)(own:Nat)(fr:List Nat)(N:Vs){wi:TI}(hc:X.calm=true)(hclos:closureFor scope X.env=pure (cg X.env fs))(hcell:∀y∈scope.names,y.2 ≠ .cell)(hkind:scope.kind = .function)
  (hnames:∀x∈scope.names,x.2 = .local->scope.names.lookup x.1=some .local) (hcl:bZ X.env fs) (hhas:k5 (relabel scope X.env).names (cg X.env fs)=true)
  (hlen:N.length=own+fr.length) (hN:(N.drop own).map some=fr.map fun j=>X.N[j]?) (hF:Bq X.env scope (cg X.env fs) (N.drop own))
  (hi:PI X tg iter wi) (hg:∀B,PG (X.Ch N scope fs B) tg g) (hf:∀B,PF (X.Ch N scope fs B) ifs tc) (he:∀B,PE (X.Ch N scope fs B) elt te)
  (hs:∀x,foldedSetIterable iter X.env x=pure x:=by intro _;rfl):PE X (.ListComp elt [⟨tg,iter,ifs,0⟩] scope pos) (qr wi g tc te own fr):=by
 intro pins s σ H Q I h
 rw[eval_ListComp]
 refine wpAny_comprehension_free (use:=none) (g:=⟨tg,iter,ifs,0⟩) (gs:=[]) rfl hs hclos hkind hnames (AL (hi pins s σ H _ I h) fun v s1 h1=>AL h1 fun itv s2 h2=>?_)
 obtain⟨it,fp,tn,J,H2,e,I2,T,st2,f2,W⟩:=h2
 subst e
 refine jh (RR:=fun acc C=>compPost (model X.prog X.w) X.A X.xe none (EP X pins σ Q) acc C) hc hcell hkind hcl hhas hlen hN hF hg hf he I2 T st2 f2 W ?_
 intro D C s' ys H' m' I' nD hn fC fin
 exact⟨m',hn,fun h' hs'=>⟨.ref D,_,I'.turned (t':=s'.toks) (fun b o hb e=>(hs'.2 b hb).trans e) fC.1 fC.2.1 fC.2.2.2.1 fC.2.2.2.2.1 fC.2.2.2.2.2,rfl,fin D nD⟩⟩
def tj(fs:Vs)(own:Nat)(fr:List Nat)(N:Vs){wi:TI}{i:Nat}{y:Str}{py spos:Pos}(hX:X.N.Nodup)(hix:X.N[i]?=some y)(hy:X.env.scope.names.lookup y=some .local)
  (hsw:swapsWith (.ListComp elt [⟨tg,iter,ifs,0⟩] scope pos) (some (.Name y py)) spos.line X.env=pure true)
  (hc:X.calm=true) (hclos:closureFor scope X.env=pure (cg X.env fs)) (hcell:∀y∈scope.names,y.2 ≠ .cell) (hkind:scope.kind = .function)
  (hnames:∀x∈scope.names,x.2 = .local->scope.names.lookup x.1=some .local) (hcl:bZ X.env fs) (hhas:k5 (relabel scope X.env).names (cg X.env fs)=true)
  (hlen:N.length=own+fr.length) (hN:(N.drop own).map some=fr.map fun j=>X.N[j]?) (hF:Bq X.env scope (cg X.env fs) (N.drop own))
  (hi:PI X tg iter wi) (hg:∀B,PG (X.Ch N scope fs B) tg g) (hf:∀B,PF (X.Ch N scope fs B) ifs tc) (he:∀B,PE (X.Ch N scope fs B) elt te)
  (hs:∀x,foldedSetIterable iter X.env x=pure x:=by intro _;rfl):PS X (.Assign [.Name y py] (.ListComp elt [⟨tg,iter,ifs,0⟩] scope pos) spos) (sE (qr wi g tc te own fr) (lI i)):=by
 intro pins s σ H D I h
 rw[exec_Assign_Name_used _ _ _ _ hsw]
 refine Ji (wpAny_standAt (Ji ?_))
 show wpAny _ X.A (do let _ <-comprehension (.ListComp elt [⟨tg,iter,ifs,0⟩] scope pos) scope X.env _ (newList []) false (eval iter X.env) (some (assign (.Name y py) X.env))) _ _ s
 refine Ji (Lo (wpAny_comprehension_free (use:=some (assign (.Name y py) X.env)) (Q:=fun _ s'=>SP X pins D .next s') (g:=⟨tg,iter,ifs,0⟩) (gs:=[]) rfl hs hclos hkind hnames
  (AL (hi pins s σ H _ I h) fun v s1 h1=>AL h1 fun itv s2 h2=>?_)) (fun _ s' hq=>Jp (Jp hq)) fun _ _ e=>e)
 obtain⟨it,fp,tn,J,H2,e,I2,T,st2,f2,W⟩:=h2
 subst e
 refine jh (RR:=fun acc C=>compPost (model X.prog X.w) X.A X.xe (some (assign (.Name y py) X.env)) (fun _ s'=>SP X pins D .next s') acc C) hc hcell hkind hcl hhas hlen hN hF hg hf he I2 T st2 f2 W ?_
 intro Da C s' ys H' m' I' nD hn fC fin
 show wpAny _ X.A (assign (.Name y py) X.env (.ref Da)) _ _ s'
 refine wpAny_assign_Name (kc (v:=.ref Da) I' hX hix (.inl hy) rfl (fun s2 I3 ⟨a,sb,ha⟩=>?_) (.inr hy))
 have ca:C≠a:=by
  rcases ha with z|z
  ·rw[z];exact fC.2.1
  ·exact Lc (fC.2.2.2.2.1 _ _ z)
 exact⟨m',hn.sameBut sb ca,fun h' hs'=>⟨_,_,I3.turned (t':=s2.toks) (fun b o hb e=>(hs'.2 b hb).trans e) fC.1 fC.2.1 fC.2.2.2.1 fC.2.2.2.2.1 fC.2.2.2.2.2,fin Da nD⟩⟩
end
end L2
namespace PySem
open Sem (wp)
namespace F
def oO:typeLookup (.type "list_reverseiterator") "__len__" = pure none:=by rw[My,Ly];kernel_rfl
def qt:typeLookup (.type "list_reverseiterator") "__length_hint__" = pure (some (.builtin "list_reverseiterator.__length_hint__")):=by rw[My,Ly];kernel_rfl
end F
section
variable {prog:Program} {w:World} {A:Around} {s:Shared} {R:Result->Shared->Prop}
variable {I:Addr} {fp wr:List Addr} {G:Array GenState->Array GenState->Prop} {n:Nat} {P:Nat->Value->Prop} {St:Nat->Shared->Prop}
def mO(W:WalksS prog w A.in1 I fp wr G n P St)(hT:∀i s,St i s->s.TypeIs (.ref I) "list_reverseiterator")(S:Addr)(res:Value)(c₀:Nat)(hst:St 0 s)(hSf:S ∉ fp)(hI:I∈fp)
  (hS:s.heap.get? S=some { cls:=.type "list",data:=.seq #[] c₀ })
  (hR:∀s' acc' c',Moved (S::wr) G s s'->s'.heap.get? S=some { cls:=.type "list",dict:=none,data:=.seq acc' c',slots:=#[] }->ItemsOf P acc' n->R (.ok (.ret res)) s') (hn:n<=sizeLine) :
  wpAny (model prog w) A.in1 (Builtin.List.listExtendWith (.ref S) (.ref I) res)
   (fun fin s'=>match fin with | .done f=>R (.ok f) s' | .again c'=>c'.quiet=true/\codeAny (model prog w) A c' R s') (fun e s'=>R (.error e) s') s:=by
 have hSI:S≠I:=fun e=>hSf (e▸hI)
 have h1:Builtin.List.listSameRef (.ref S) (.ref I)=false:=by simp[Builtin.List.listSameRef,hSI]
 unfold Builtin.List.listExtendWith
 refine Ji (Mb (hT 0 _ hst) ?_)
 rw[if_neg (by rw[h1];decide)]
 refine Ji (W.self 0 _ _ _ hst ?_)
 refine Ji (KQ ?_)
 unfold Builtin.List.listLengthHint
 refine Ji (Mz (hT 0 _ hst) F.oO ?_)
 show wpAny _ A.in1 (specialOf (Value.ref I) (Str.ofString "__length_hint__") >>= _) _ _ _
 refine Ji (Mz (hT 0 _ hst) F.qt ?_)
 (generalize hid:("list_reverseiterator.__length_hint__":String)=Iq;wp_delta;rw[show splitId Iq=some ("list_reverseiterator","__length_hint__")from by subst hid;decide +kernel];subst hid)
 refine Ji (wpAny_isInstance (b:=true) (hT 0 _ hst) (by rw[isSubtype_type];kernel_rfl) ?_)
 refine Jp ?_
 rw[if_neg (by decide)]
 exact Jp ⟨LV KG _,codeAny_extend_loopS W hn _ hSf _ n 0 _ _ _ rfl (JM _) hst hS (ItemsOf.nil P) fun s' acc' c' hm hS' hacc=>hR s' acc' c' hm hS' hacc⟩
def jZ(W:WalksS prog w A.in1 I fp wr G n P St)(hT:∀i s,St i s->s.TypeIs (.ref I) "list_reverseiterator")(S:Addr)(hst:St 0 s)(hSf:S ∉ fp)(hI:I∈fp)
  (hS:s.heap.get? S=some { cls:=.type "list",data:=.seq #[] })
  (hR:∀s' acc' c',Moved (S::wr) G s s'->s'.heap.get? S=some { cls:=.type "list",dict:=none,data:=.seq acc' c',slots:=#[] }->ItemsOf P acc' n->R (.ok (.ret .none)) s') (hn:n<=sizeLine) :
  wpAny (model prog w) A.in1 (Builtin.«list.__init__» ⟨[.ref S,.ref I],[]⟩)
   (fun fin s'=>match fin with | .done f=>R (.ok f) s' | .again c'=>c'.quiet=true/\codeAny (model prog w) A c' R s') (fun e s'=>R (.error e) s') s:=by
 show wpAny _ A.in1 (do let old <-Builtin.List.listItems (.ref S);Builtin.List.listUpdate (.ref S) (fun _=>#[]);letGo old.toList.reverse;Builtin.List.listExtendWith (.ref S) (.ref I) .none) _ _ s
 refine Ji ?_
 unfold Builtin.List.listItems
 refine Ji (Ks hS rfl (Jp ?_))
 show wpAny _ A.in1 (updateSeq S (fun _=>#[]) >>= fun _=>letGo (#[]:Vw).toList.reverse >>= fun _=>Builtin.List.listExtendWith (.ref S) (.ref I) .none) _ _ s
 refine Ji (LX hS rfl ?_)
 have F8:=Kr (Obj.mapSeq (fun _=>(#[]:Vw))) hS rfl
 have Cn:∀b o,b≠S->s.heap.get? b=some o->(s.heap.update S (Obj.mapSeq (fun _=>(#[]:Vw)))).get? b=some o:=
  fun b o hb e=>(Kp _ _ (Lc hb)).trans e
 refine Ji (wpAny_letGo ?_)
 refine mO (hn:=hn) W hT S .none _ (W.frame 0 s _ s.toks hst (Jm _) fun b hb o e=>Cn b o (fun h=>hSf (h▸hb)) e) hSf hI F8 fun s' acc' c' hm hS' hacc=>?_
 exact hR s' acc' c' (Moved.trans W.gtrans ((Moved.refl W.grefl).then_heap (Jm _) fun b o hb e=>Cn b o (fun h=>hb (h▸Kv)) e) hm) hS' hacc
end
section
variable {prog:Program} {w:World} {A:Around} {E:Vq} {s:Shared}
def j0{I l:Addr}{items:Vw}{Q:Vq}(hh:A.handled=none)(hl:s.heap.IsList l items)(hit:s.heap.IsRevIter I l ((items.size:Int) - 1))(hne:l≠I)(hn:items.size<=sizeLine)
  (hQ:∀h' tk acc' c',(∀b o,b≠I->s.heap.get? b=some o->h'.get? b=some o)->h'.get? s.heap.objs.size=some { cls:=.type "list",dict:=none,data:=.seq acc' c',slots:=#[] }->
   acc'.toList=items.toList.reverse->Q (.ref s.heap.objs.size) { s with heap:=h',toks:=tk }) :
  wpAny (model prog w) A (call (.type "list") [.ref I]) Q E s:=by
 have W:=(Walks.listRev (prog:=prog) (w:=w) (A:=A.in1.in1) hh I l hne items).toS
 have GJ:I < s.heap.objs.size:=by obtain⟨o,ho,_⟩:=hit;exact Jr ho
 have GK:l < s.heap.objs.size:=by obtain⟨o,ho,_⟩:=hl;exact Jr ho
 have hfp:∀b∈[I,l],b < s.heap.objs.size:=fun b hb=>by
  rcases Jq.mp hb with rfl|hb
  ·exact GJ
  ·rw[Js.mp hb];exact GK
 have hSf:s.heap.objs.size ∉ [I,l]:=fun hm=>KP _ (hfp _ hm)
 have hst:(fun i (s:Shared)=>i<=items.size/\s.heap.IsRevIter I l ((items.size:Int) - 1 - (i:Int))/\s.heap.IsList l items) 0 s:=⟨JM _,by simpa using hit,hl⟩
 refine callType_codes (Q₁:=fun obj s₁=>obj = .ref s.heap.objs.size/\s₁={ s with heap:=s.heap.push { cls:=.type "list",data:=.seq #[] } }) F.called_list (F.typeCall_list_1 _) F.entry_list_init
  (code_list_new _ ⟨rfl,rfl⟩) fun obj s₁ h₁=>?_
 obtain⟨rfl,rfl⟩:=h₁
 have hS:(s.heap.push { cls:=.type "list",data:=.seq #[] }).get? s.heap.objs.size=some { cls:=.type "list",data:=.seq #[] }:=JA _ rfl
 refine⟨⟨_,hS,rfl⟩,F.args_list_init_2 _ _,jZ (hn:=hn) W (fun i s st=>st.2.1.typeIs) _ (W.frame 0 s _ s.toks hst (Jm _) fun b _ o e=>Jl _ e) hSf (Kv ..) hS fun s' acc' c' hm hS' hacc=>?_⟩
 refine⟨rfl,?_⟩
 rw[hm.eq_with]
 refine hQ s'.heap s'.toks acc' c' (fun b o hb e=>hm.heap b o (fun z=>?_) (Jl _ e)) hS' ?_
 ·rcases Jq.mp z with z|z
  ·exact absurd (Jr e) (by rw[z];exact KP _)
  ·exact hb (Js.mp z)
 ·obtain⟨hsz,hP⟩:=hacc
  apply List.ext_getElem?
  intro j
  by_cases hj:j < items.size
  ·have hj':j < acc'.size:=by rw[hsz];exact hj
   have q:=hP j acc'[j] (by simp[hj'])
   have e1:acc'.toList[j]?=some acc'[j]:=by simp[hj']
   rw[e1,List.getElem?_reverse (by simpa using hj)]
   simpa using q.symm
  ·rw[KH (by simpa [hsz]using hj),KH (by simpa using hj)]
end
end PySem
namespace L2
open PySem PySem.Spec PyProof.Rows
section
variable {X:Cx}
def qu(K:Vo)(te:TE):TE:=fun σ H Q=>te σ H fun x H1=>∃a xs,x = .ref a/\SqL K H1 a xs/\∀q,H1 q=none->Q (.ref q) (upd H1 q (.lst xs.reverse))
def mP{e:Expr}{te:TE}{p1 p2 q1 q2:Pos}(hc:X.calm=true)(he:PE X e te)(Fm:Gl X "list")(hm1:X.mg "list" = none)(EM:Gl X "reversed")(hm2:X.mg "reversed" = none)
  (hs:starEach [e] X.env=[(false,eval e X.env)]:=by rfl) (hs2:starEach [.Call (.Name "reversed" p2) [e] [] q2] X.env=[(false,eval (.Call (.Name "reversed" p2) [e] [] q2) X.env)]:=by rfl) :
  PE X (.Call (.Name "list" p1) [.Call (.Name "reversed" p2) [e] [] q2] [] q1) (qu X.K te):=by
 intro pins s σ H Q I h
 refine KJ (dF I Fm hm1 (u:=.type "list") (by decide +kernel) ?_)
 refine JU ?_ hs2 rfl
 rw[hs2]
 show wpAny _ _ (spliced ((false,eval (.Call (.Name "reversed" p2) [e] [] q2) X.env)::backTo q1 [])) _ _ s
 refine Kw ?_
 refine KJ (dF I EM hm2 (u:=.type "reversed") boot_reversed ?_)
 refine JU ?_ hs rfl
 rw[hs]
 show wpAny _ _ (spliced ((false,eval e X.env)::backTo q2 [])) _ _ s
 refine Kw (AL (he pins s σ H _ I h) fun u s1 ⟨x,H1,I1,r1,a,xs,ex,hx,q⟩=>?_)
 subst ex
 cases r1
 obtain⟨its,rv,p,hz⟩:=I1.list hx
 have hl:=rv.length
 have hal:a < s1.heap.objs.size:=by obtain⟨o,ho,_⟩:=p.isList;exact Jr ho
 refine Lh (call_reversed_list p.isList ?_)
 refine Lh ?_
 refine j0 (I.ok.hd hc) (p.isList.push _) ⟨_,JA _ rfl,rfl,rfl⟩ (JL hal) (by rw[Jo,<-hl];exact hz) fun h' tk acc c hk hS ha=>?_
 have hsz:(s1.heap.push (revObj a ((its.toArray.size:Int) - 1))).objs.size=s1.heap.objs.size+1:=KR _ _
 have hle:s1.heap.objs.size<=(s1.heap.push (revObj a ((its.toArray.size:Int) - 1))).objs.size:=by rw[hsz];exact Nat.le_succ _
 refine⟨.ref _,_,I1.laid (a:=(s1.heap.push (revObj a ((its.toArray.size:Int) - 1))).objs.size) (o:=.lst xs.reverse) (h':=h') (t':=tk) (fun b u e=>hk b u (JL (Jr e)) (Jl _ e)) hle ?_,rfl,q _ (I1.hok.fresh hle)⟩
 refine⟨by rw[LP];exact hz,its.reverse,c,Vals.reverse rv,?_⟩
 rw[hS]
 have e:acc=its.reverse.toArray:=by
  apply Array.toList_inj.mp
  rw[ha]
 rw[e]
end
section
variable {X:Cx}
noncomputable abbrev k6(c:Nat):Str:=⟨#[c]⟩
noncomputable def zx(z:Str):It:=⟨fun i _=>i < z.cps.size,fun i H x H'=>H'=H/\∃c,z.cps[i]?=some c/\x = .str (k6 c),fun i _=>z.cps.size<=i⟩
def qv{P:Program}{w:World}{K:Vo}{tg:Expr}{ty:String}(hty:ty = "str_ascii_iterator" \/ ty = "str_iterator")(it:Addr)(z:Str)(t:Tok):kR P w K tg (zx z) [it] it (fun i h=>i<=z.cps.size/\h.IsStrIter it ty z t i):=by
 have W:∀A':Around,A'.handled=none->Walks P w A' it [it] [it] z.cps.size (SignAt z) (fun i h=>h.IsStrIter it ty z t i):=fun A' hA=>by
  rcases hty with rfl|rfl
  ·exact Walks.strAscii hA it z t
  ·exact Walks.strWide hA it z t
 have nt:(["enumerate","zip","dict_itemiterator","dict_reverseitemiterator","odict_iterator","itertools.zip_longest","itertools.pairwise"].contains ty)=false:=by
  rcases hty with rfl|rfl<;>decide
 refine⟨by simp,fun i h st b hb=>?_,fun i h h' st k=>?_,?_,?_,?_⟩
 ·have e:b=it:=by simpa using hb
  subst e
  obtain⟨_,o,e,c,d⟩:=st
  exact⟨o,e,fun v q=>by rw[d]at q;cases q⟩
 ·obtain⟨hi,o,e,r⟩:=st
  exact⟨hi,o,k it (by simp) o e,r⟩
 ·intro X hP hw hK hc i pins s σ H E I hf st hg
  subst hP hw hK
  obtain⟨f0,f1,f2,f3,f4,f5⟩:=hf it (by simp)
  refine(W X.A (I.ok.hd hc)).item i s _ _ hg st.2 fun v h' tk hv st' kk=>?_
  obtain⟨c,u,hcp,rfl⟩:=hv
  have I1:Inv X pins σ H { s with heap:=h',toks:=tk }:=I.turned (fun b o hb e=>kk b o (by simpa using hb) e) f0 f1 f3 f4 f5
  obtain⟨o,e,co,d⟩:=id st'
  exact⟨_,rfl,nE (s:={ s with heap:=h',toks:=tk }) e co d nt ⟨.str (k6 c),H,I1,⟨u,rfl⟩,⟨rfl,c,hcp,rfl⟩,⟨hg,st'⟩,fun b hb=>(hf b hb).1⟩⟩
 ·intro X hP hw hK hc i pins s σ H E I hf st hg
  subst hP hw hK
  obtain⟨f0,f1,f2,f3,f4,f5⟩:=hf it (by simp)
  have e:i=z.cps.size:=Nat.le_antisymm st.1 hg
  subst e
  exact(W X.A (I.ok.hd hc)).done s _ _ st.2 fun h' tk kk=>⟨rfl,I.turned (fun b o hb e=>kk b o (by simpa using hb) e) f0 f1 f3 f4 f5⟩
 ·intro A i s Q E st h
  rcases hty with rfl|rfl
  ·exact wpAny_pyIter_striter_ascii st.2 h
  ·exact wpAny_pyIter_striter_wide st.2 h
def tm{ys:Vs}:∀{us:Vv},Vals (ys.map V.str) us->StrsAre us ys:=by
 induction ys with
 |nil=>intro us r;rw[Kg]at r;cases r;exact .nil
 |cons n ns ih=>
  intro us r
  rw[JG]at r
  cases r with
  |cons r1 r2=>
   obtain⟨t,e⟩:=r1
   subst e
   exact .cons n t (ih r2)
noncomputable def xS(K:Vo):V->List V->Hp->VK->Prop:=fun x vs H Q=>∃sep p ys,x = .str sep/\vs=[.ref p]/\SqL K H p (ys.map V.str)/\(ys.map (·.length)).sum+ys.length * sep.length<=1000000/\Q (.str (Txt.join sep ys)) H
def tq:vC X "str.join" (xS X.K):=by
 intro pins s σ H x vs v us Q I rx rv h
 obtain⟨sep,p,ys,rfl,rfl,hp,hz,q⟩:=h
 obtain⟨t,rfl⟩:=rx
 obtain⟨u,rfl,ru⟩:=eP rv
 cases ru
 obtain⟨its,r,pl,_⟩:=I.list hp
 exact join_list pl.isList (by simpa using tm r) (by omega) fun t' k=>⟨.str _,H,I.tok k,⟨t',rfl⟩,q⟩
def oP(hc:X.calm=true):fI X (.builtin "all") (fun xs H Q=>∃(p:Addr) (bs:List Bool),xs=[.ref p]/\SqL X.K H p (bs.map V.bl)/\Q (.bl (bs.all id)) H):=by
 intro pins s σ H xs us Q I r h
 obtain⟨p,bs,rfl,hp,q⟩:=h
 obtain⟨u,rfl,rx⟩:=eP r
 cases rx
 obtain⟨its,rv,pl,hz⟩:=I.list hp
 have hl:=rv.length
 rw[Jk]at hl
 have hlt:p < s.heap.objs.size:=by obtain⟨o,ho,_⟩:=pl.isList;exact Jr ho
 refine call_all_walk (Lj pl.isList ?_)
 have up:∀b o,s.heap.get? b=some o->(s.heap.push { cls:=.type "list_iterator",data:=.fields #[.ref p,.int 0 0] }).get? b=some o:=fun b o e=>Jl _ e
 refine⟨s.heap.objs.size,_,_,_,_,_,fun i=>(bs[i]?).getD true,rfl,Walks.list (A:=X.A.in1) (I.ok.hd hc) s.heap.objs.size p (JL hlt) its.toArray,⟨⟨_,JA _ rfl,rfl,rfl⟩,pl.isList.push _⟩,?_,fun h' tk hk=>?_⟩
 ·intro i v s' Q' E' hv hq
  have hi:i < its.length:=by
   by_cases z:i < its.length
   ·exact z
   ·rw[Lq (by simpa using z)]at hv;cases hv
  obtain⟨u',e1,r1⟩:=rv.get (i:=i) (x:=.bl bs[i]) (by rw[Jx,JE (by omega)];rfl)
  have e2:v=u':=by
   have z:its[i]?=some v:=by simpa using hv
   rw[z]at e1;exact Kc e1
  subst e2
  cases (show v=Value.bool bs[i] from r1)
  refine Lg ?_
  have hq':Q' ((bs[i]?).getD true) s':=hq
  rw[JE (show i < bs.length by omega)]at hq'
  exact hq'
 ·have e:(List.range its.toArray.size).all (fun i=>(bs[i]?).getD true)=bs.all id:=by
   rw[Jo,<-hl,Lu,Mp,Mp]
   constructor
   ·intro h1 x hx
    obtain⟨j,hj,e⟩:=List.getElem_of_mem hx
    have q1:=h1 j (LB.mpr hj)
    rw[JE hj]at q1
    rw[<-e];exact q1
   ·intro h1 j hj
    have hj':=LB.mp hj
    rw[JE hj']
    exact h1 _ (LL hj')
  rw[e]
  exact⟨.bl _,H,(I.kept (t':=tk) (h':=h') fun b o eo=>hk b o (by
   intro hm
   have hb:b=s.heap.objs.size:=by simpa using hm
   exact absurd (Jr eo) (by rw[hb];exact KP _)) (up b o eo)),rfl,q⟩
end
section
variable {X:Cx}
noncomputable def zy:V->Option Int->Option Int->Hp->VK->Prop:=fun x lo hi H Q=>∃z,x = .str z/\z.length<=sizeLine/\Q (.str (Txt.slice z lo hi)) H
def vQ:wR X zy:=by
 intro pins s σ H x v vl vu lo hi sl Q I rx hs pl pu h
 obtain⟨z,rfl,hz,q⟩:=h
 obtain⟨t,rfl⟩:=rx
 refine⟨"str",_,F.slot_str_getitem.lookup,typeIs_str _ _ _,?_⟩
 obtain⟨o,e,c,d⟩:=hs
 have fin:∀l u:Option (Int×Tok),(vl=partValue l/\lo=l.map (·.1))->(vu=partValue u/\hi=u.map (·.1))->wpAny (model X.prog X.w) X.A (getItem (.str z t) (.ref sl)) (EP X pins σ Q) X.xe s:=by
  rintro l u ⟨rfl,rfl⟩ ⟨rfl,rfl⟩
  exact wpAny_getItem_str_slice (l:=l) (u:=u) (st:=none) ⟨o,e,c,d⟩ rfl (post_val_or_str ⟨Jw (Txt.slice_le z _ _) hz,fun t' k=>⟨.str _,H,I.tok k,⟨t',rfl⟩,q⟩⟩)
 cases pl with
 |none=>
  cases pu with
  |none=>exact fin none none ⟨rfl,rfl⟩ ⟨rfl,rfl⟩
  |int j uj=>exact fin none (some (j,uj)) ⟨rfl,rfl⟩ ⟨rfl,rfl⟩
 |int i ui=>
  cases pu with
  |none=>exact fin (some (i,ui)) none ⟨rfl,rfl⟩ ⟨rfl,rfl⟩
  |int j uj=>exact fin (some (i,ui)) (some (j,uj)) ⟨rfl,rfl⟩ ⟨rfl,rfl⟩
noncomputable def vR:V->List V->Hp->VK->Prop:=fun x vs H Q=>∃a b i rest,x = .str a/\vs=[.str b]/\Builtin.Str.occurrences a b 0 a.length 1=i::rest/\Q (.int i) H
def qw:vC X "str.index" vR:=by
 intro pins s σ H x vs v us Q I rx rv h
 obtain⟨a,b,i,rest,rfl,rfl,ho,q⟩:=h
 obtain⟨t,rfl⟩:=rx
 obtain⟨w,rfl,u,rfl⟩:=eP rv
 exact call_gives F.slot_str_index (typeIs_str _ _ _) F.entry_str_index (F.args_str_index_2 _ _) (gives_str_index a b t u i rest ho) ⟨.int i,H,I.tok _,⟨_,rfl⟩,q⟩
def vS(K:Vo)(i j k:Nat)(te:TE):TS:=fun D σ H=>te σ H fun x H1=>∃p v w u,x = .ref p/\SqT K H1 p [v,w,u]/\D.nx (((σ.set k (some u)).set j (some w)).set i (some v)) H1
def qx{i j k:Nat}{x y z:Str}{e:Expr}{te:TE}{px py pz pt:Pos}{kt:Nat}{pos:Pos}(hc:X.calm=true)(hN:X.N.Nodup)(hi:X.N[i]?=some x)(hj:X.N[j]?=some y)(hk:X.N[k]?=some z)
  (hx:X.env.scope.names.lookup x=some .local) (hy:X.env.scope.names.lookup y=some .local) (hz:X.env.scope.names.lookup z=some .local) (he:PE X e te)
  (hw:swappedStores [.Tuple [.Name x px,.Name y py,.Name z pz] kt pt] e X.env=pure (some [x,y,z]))
  (hs:swapsWithSole [.Tuple [.Name x px,.Name y py,.Name z pz] kt pt] e pos.line X.env=pure false) :
  PS X (.Assign [.Tuple [.Name x px,.Name y py,.Name z pz] kt pt] e pos) (vS X.K i j k te):=by
 intro pins s σ H D I h
 refine Assign_Tuple_swapped (names:=[x,y,z]) (AL (he pins s σ H _ I h) fun r s1 ⟨xr,H1,I1,r1,p,v,w,u,ex,hp,q⟩=>?_) hs hw
 subst ex
 cases r1
 obtain⟨its,rv,tp,_⟩:=I1.tuple hp
 obtain⟨u1,u2,u3,ei,a1,a2,a3⟩:∃u1 u2 u3,its=[u1,u2,u3]/\RelV v u1/\RelV w u2/\RelV u u3:=by
  cases rv with
  |cons a1 rv=>
   cases rv with
   |cons a2 rv=>
    cases rv with
    |cons a3 rv=>
     cases rv
     exact⟨_,_,_,rfl,a1,a2,a3⟩
 subst ei
 refine unpackItems_tuple (items:=#[u1,u2,u3]) (I.ok.hd hc) tp fun h' kp=>?_
 have I2:=I1.kept (h':=h') (t':=s1.toks) fun b o eb=>kp b o (JL (Jr eb)) eb
 refine K8 (L8 (cZ I2 hN hk (.inl hz) a3 (fun s2 I3=>?_) (.inr hz)))
 refine K8 (L8 (cZ I3 hN hj (.inl hy) a2 (fun s3 I4=>?_) (.inr hy)))
 exact K8 (L8 (cZ I4 hN hi (.inl hx) a1 (fun s4 I5=>assignInOrder_nil ⟨_,H1,I5,q⟩) (.inr hx)))
end
end L2
namespace Zt
open PySem
open Sem (wp)
def Si(kd:Bool)(h:Heap)(a t:Addr)(i:Nat):Prop:=cond kd (h.IsListIter a t i) (h.IsTupleIter a t i)
def Sq(kd:Bool)(h:Heap)(a:Addr)(xs:Vw):Prop:=cond kd (h.IsList a xs) (h.IsTuple a xs)
theorem Si.at{kd:Bool}{h h':Heap}{a t:Addr}{i:Nat}(x:Si kd h a t i)(e:∀o,h.get? a=some o->h'.get? a=some o):Si kd h' a t i:=match kd,x with|true,x=>Heap.IsListIter.at x e|false,x=>Heap.IsTupleIter.at x e
theorem Sq.at{kd:Bool}{h h':Heap}{a:Addr}{xs:Vw}(x:Sq kd h a xs)(e:∀o,h.get? a=some o->h'.get? a=some o):Sq kd h' a xs:=match kd,x with|true,x=>Heap.IsList.at x e|false,x=>Heap.IsTuple.at x e
def Sq.lt{kd:Bool}{h:Heap}{a:Addr}{xs:Vw}(x:Sq kd h a xs):a < h.objs.size:=match kd,x with|true,⟨_,e,_⟩=>Jr e|false,⟨_,e,_⟩=>Jr e
def Si.ob{kd:Bool}{h:Heap}{a t:Addr}{i:Nat}(x:Si kd h a t i):∃o f,h.get? a=some o/\o.data = .fields f:=match kd,x with|true,⟨o,e,_,d⟩=>⟨o,_,e,d⟩|false,⟨o,e,_,d⟩=>⟨o,_,e,d⟩
def Si.extBut{kd:Bool}{h h':Heap}{a c t:Addr}{i:Nat}(x:Si kd h a t i)(e:Heap.ExtBut c h h')(n:a≠c):Si kd h' a t i:=x.at fun _ q=>e _ _ n q
def Sq.extBut{kd:Bool}{h h':Heap}{a c:Addr}{xs:Vw}(x:Sq kd h a xs)(e:Heap.ExtBut c h h')(n:a≠c):Sq kd h' a xs:=x.at fun _ q=>e _ _ n q
section
variable {prog:Program} {w:World} {A:Around} {E:Vq} {s:Shared}
def nx{j t:Addr}{i:Nat}{its:Vw}{x:Value}{Q:Vq}(hj:s.heap.IsTupleIter j t i)(ht:s.heap.IsTuple t its)(hx:its[i]?=some x)
  (k:∀g:Heap,g.IsTupleIter j t (i+1)->Heap.SameBut j s.heap g->Q x { s with heap:=g }):wpAny (model prog w) A (Builtin.SmallTypes.nextOf (.ref j)) Q E s:=by
 obtain⟨ob,eb,kb,db⟩:=id hj
 obtain⟨oc,ec,_,nc,dc⟩:=ht
 unfold Builtin.SmallTypes.nextOf
 refine Ji (Ka (name:=Str.ofString "__next__") hj.typeIs K9 (KL K9 hj.typeIs F.entry_tuple_iterator_next ?_ (F.args_tuple_iterator_next_1 _)))
 show wpAny _ _ (field (.ref j) 0 >>= _) _ _ s;refine Ji (JX eb db (x:=.ref t) rfl ?_)
 show wpAny _ _ (if (Value.ref t == Value.none)=true then _ else _) _ _ s;rw[if_neg (show ¬((Value.ref t == Value.none)=true)from JH)]
 show wpAny _ _ (field (.ref j) 1 >>= _) _ _ s;refine Ji (JX eb db (x:=.int i 0) rfl ?_)
 show wpAny _ _ (seqItems? (.ref t) >>= _) _ _ s;refine Ji (Ks ec dc ?_)
 simp only[Int.toNat_natCast,hx];refine Ji (wpAny_setField eb db (by simp) (Jp ⟨x,rfl,Jp (k _ ?_ (Heap.SameBut.update ..))⟩))
 exact⟨_,Kr _ eb (Obj.isFreed_of_fields (Obj.data_mapFields db _)),(Obj.cls_mapFields ..).trans kb,by rw[Obj.data_mapFields db];simp[rawInt]⟩
def Aa{j t:Addr}{i:Nat}{its:Vw}{Q:Vq}(hh:A.handled=none)(hj:s.heap.IsTupleIter j t i)(ht:s.heap.IsTuple t its)(hx:its[i]?=none)
  (k:∀(g:Heap) (e:Addr),Heap.ExtBut j s.heap g->(∃o,g.get? e=some o/\o.cls = .type "StopIteration")->E (.ref e) { s with heap:=g }):wpAny (model prog w) A (Builtin.SmallTypes.nextOf (.ref j)) Q E s:=by
 obtain⟨ob,eb,kb,db⟩:=id hj
 obtain⟨oc,ec,_,nc,dc⟩:=ht
 unfold Builtin.SmallTypes.nextOf
 refine Ji (Ka (name:=Str.ofString "__next__") hj.typeIs K9 (KL K9 hj.typeIs F.entry_tuple_iterator_next ?_ (F.args_tuple_iterator_next_1 _)))
 show wpAny _ _ (field (.ref j) 0 >>= _) _ _ s;refine Ji (JX eb db (x:=.ref t) rfl ?_)
 show wpAny _ _ (if (Value.ref t == Value.none)=true then _ else _) _ _ s;rw[if_neg (show ¬((Value.ref t == Value.none)=true)from JH)]
 show wpAny _ _ (field (.ref j) 1 >>= _) _ _ s;refine Ji (JX eb db (x:=.int i 0) rfl ?_)
 show wpAny _ _ (seqItems? (.ref t) >>= _) _ _ s;refine Ji (Ks ec dc ?_)
 simp only[Int.toNat_natCast,hx];refine Ji (L0 (Ji (wpAny_setField eb db (by simp) ?_)))
 show wpAny _ _ (newExc (.type "StopIteration") [] >>= _) _ _ _;refine Ji ?_
 simp only[newExc,newTuple];refine Ji (Kf ?_ (by size_fits))
 refine Ji (m:=firstArgMember _ _) (wpAny_of_eq (a:=Value.none) (by first|rfl|(simp only[firstArgMember];rfl)) ?_);refine Kf ?_ (by size_fits)
 simp only[raiseNew];refine Ji (wpAny_handled ?_)
 first|(rw[hh])|(rw[show A.in1.handled=none from hh])
 exact Ji (Jp (wpAny_throw (k _ _ (((Heap.SameBut.update ..).extBut.push _).push _) ⟨_,JA _ rfl,rfl⟩)))
def zz{kd:Bool}{j t:Addr}{i:Nat}{its:Vw}{x:Value}{Q:Vq}(hj:Si kd s.heap j t i)(ht:Sq kd s.heap t its)(hx:its[i]?=some x)
  (k:∀g:Heap,Si kd g j t (i+1)->Heap.SameBut j s.heap g->Q x { s with heap:=g }):wpAny (model prog w) A (Builtin.SmallTypes.nextOf (.ref j)) Q E s:=by
 cases kd with
 |true=>exact Mg hj ht hx k
 |false=>exact nx hj ht hx k
def xT{kd:Bool}{j t:Addr}{i:Nat}{its:Vw}{Q:Vq}(hh:A.handled=none)(hj:Si kd s.heap j t i)(ht:Sq kd s.heap t its)(hx:its[i]?=none)
  (k:∀(g:Heap) (e:Addr),Heap.ExtBut j s.heap g->(∃o,g.get? e=some o/\o.cls = .type "StopIteration")->E (.ref e) { s with heap:=g }):wpAny (model prog w) A (Builtin.SmallTypes.nextOf (.ref j)) Q E s:=by
 cases kd with
 |true=>exact wpAny_nextOf_list_end hh hj ht hx k
 |false=>exact Aa hh hj ht hx k
variable {ka kb:Bool} {z TI TO i1 i2 l1 l2:Addr} {k1 k2:Nat} {xs ys:Vw} {x y a b:Value}
def tt{Q:Vq}(D:ZipApart z TI TO i1 i2 l1 l2)(gz:IsZip s.heap z TI TO .none)(gI:IsPair s.heap TI (.ref i1) (.ref i2))(gO:IsPair s.heap TO a b)
  (g1:Si ka s.heap i1 l1 k1) (g2:Si kb s.heap i2 l2 k2) (t1:Sq ka s.heap l1 xs) (t2:Sq kb s.heap l2 ys) (hx:xs[k1]?=some x) (hy:ys[k2]?=some y)
  (k:∀g,IsZip g z TI TO (rawInt s.heap.objs.size)->IsPair g TO x y->Si ka g i1 l1 (k1+1)->Si kb g i2 l2 (k2+1)->IsPair g s.heap.objs.size x y->
   (∀c o,c≠z->c≠TO->c≠i1->c≠i2->s.heap.get? c=some o->g.get? c=some o)->Q (.ref s.heap.objs.size) { s with heap:=g }) :
  wpAny (model prog w) A (Builtin.«zip.__next__» ⟨[.ref z],[]⟩) (fun fin s'=>∃v,fin = .done (.ret v)/\Q v s') E s:=by
 show wpAny _ _ (field (.ref z) 2 >>= _) _ _ _;refine Ji (JX gz rfl (x:=.bool false) rfl ?_)
 show wpAny _ _ (field (.ref z) 3 >>= _) _ _ _;refine Ji (JX gz rfl (x:=.ref TI) rfl (Ji (Ks gI rfl ?_)))
 show wpAny _ _ (Builtin.SmallTypes.ownedTupleIsFree (.ref z) >>= _) _ _ _;refine Ji ?_;unfold Builtin.SmallTypes.ownedTupleIsFree
 refine Ji (JX gz rfl (x:=.none) rfl (Jp ?_));simp only[JW]
 refine Ji (L0 (Ji (JX gz rfl (x:=.ref TO) rfl (Ji (KN gz (by simp) fun h₁ z1 q1=>?_)))))
 replace z1:IsZip h₁ z TI TO .ellipsis:=z1
 refine Ji ?_;simp only[List.zipIdx_cons,List.zipIdx_nil,LY,List.forIn_nil]
 refine Ji (Ji (wpAny_onRaise ?_));show wpAny _ _ (Builtin.SmallTypes.nextOf (.ref i1) >>= _) _ _ _
 refine Ji (zz (g1.extBut q1.extBut D.i1z) (t1.extBut q1.extBut D.l1z) hx fun h₂ n1 q2=>Jp ?_)
 have o2:IsPair h₂ TO a b:=q2.extBut _ _ D.TOi1 (q1.extBut _ _ D.TOz gO)
 refine Ji (Ks o2 rfl (Ji (Mv o2 fun h₃ o3 q3=>?_)))
 replace o3:IsPair h₃ TO x b:=o3
 refine Ji (wpAny_letGo (Jp ?_));refine Ji (Ji (wpAny_onRaise ?_));show wpAny _ _ (Builtin.SmallTypes.nextOf (.ref i2) >>= _) _ _ _
 refine Ji (zz (((g2.extBut q1.extBut D.i2z).extBut q2.extBut D.i12.symm).extBut q3.extBut D.TOi2.symm) (((t2.extBut q1.extBut D.l2z).extBut q2.extBut D.l2i1).extBut q3.extBut D.l2TO) hy fun h₄ n2 q4=>Jp ?_)
 have o4:IsPair h₄ TO x b:=q4.extBut _ _ D.TOi2 o3
 refine Ji (Ks o4 rfl (Ji (Mv o4 fun h₅ o5 q5=>?_)))
 replace o5:IsPair h₅ TO x y:=o5
 refine Ji (wpAny_letGo (Jp (Jp ?_)));refine Ji (Ks o5 rfl (Ji (wpAny_newTuple ?_)))
 have sz:h₅.objs.size=s.heap.objs.size:=by rw[q5.1,q4.1,q3.1,q2.1,q1.1]
 have z5:IsZip h₅ z TI TO .ellipsis:=q5.extBut _ _ D.TOz.symm (q4.extBut _ _ D.i2z.symm (q3.extBut _ _ D.TOz.symm (q2.extBut _ _ D.i1z.symm z1)))
 have kk:∀c o,c≠z->c≠TO->c≠i1->c≠i2->s.heap.get? c=some o->h₅.get? c=some o:=fun c o c1 c2 c3 c4 e=>q5.extBut _ _ c2 (q4.extBut _ _ c4 (q3.extBut _ _ c2 (q2.extBut _ _ c3 (q1.extBut _ _ c1 e))))
 have m1:Si ka h₅ i1 l1 (k1+1):=((n1.extBut q3.extBut D.TOi1.symm).extBut q4.extBut D.i12).extBut q5.extBut D.TOi1.symm
 have m2:Si kb h₅ i2 l2 (k2+1):=n2.extBut q5.extBut D.TOi2.symm
 have zl:z < h₅.objs.size:=Jr z5
 show wpAny _ _ (Builtin.SmallTypes.ownedTupleHandOut (.ref z) (.ref h₅.objs.size) >>= _) _ _ _;refine Ji ?_;unfold Builtin.SmallTypes.ownedTupleHandOut
 have z6:IsZip (h₅.push { cls:=.type "tuple",data:=.seq #[x,y] }) z TI TO .ellipsis:=Jl _ z5
 refine Ji (KN z6 (by simp) fun h₇ z7 q7=>?_)
 replace z7:IsZip h₇ z TI TO (rawInt h₅.objs.size):=z7
 refine KN z7 (by simp) fun h₈ z8 q8=>?_
 replace z8:IsZip h₈ z TI TO (rawInt h₅.objs.size):=z8
 have up:∀c o,c≠z->h₅.get? c=some o->h₈.get? c=some o:=fun c o c1 e=>q8.extBut _ _ c1 (q7.extBut _ _ c1 (Jl _ e))
 have T8:IsPair h₈ h₅.objs.size x y:=q8.extBut _ _ (LK zl) (q7.extBut _ _ (LK zl) (JA _ rfl))
 rw[sz]at z8 T8
 refine Jp ⟨_,rfl,?_⟩
 show Q (.ref h₅.objs.size) _
 rw[sz]
 exact k h₈ z8 (up _ _ D.TOz o5) (m1.at fun o e=>up _ o D.i1z e) (m2.at fun o e=>up _ o D.i2z e) T8 fun c o c1 c2 c3 c4 e=>up c o c1 (kk c o c1 c2 c3 c4 e)
def vT{Q:Fin->Shared->Prop}(hh:A.handled=none)(D:ZipApart z TI TO i1 i2 l1 l2)(gz:IsZip s.heap z TI TO .none)(gI:IsPair s.heap TI (.ref i1) (.ref i2))(gO:IsPair s.heap TO a b)
  (g1:Si ka s.heap i1 l1 k1) (g2:Si kb s.heap i2 l2 k2) (t1:Sq ka s.heap l1 xs) (t2:Sq kb s.heap l2 ys) (he:xs[k1]?=none\/ys[k2]?=none)
  (k:∀(g:Heap) (e:Addr),(∀c o,c≠z->c≠TO->c≠i1->c≠i2->s.heap.get? c=some o->g.get? c=some o)->(∃o,g.get? e=some o/\o.cls = .type "StopIteration")->E (.ref e) { s with heap:=g }) :
  wpAny (model prog w) A (Builtin.«zip.__next__» ⟨[.ref z],[]⟩) Q E s:=by
 show wpAny _ _ (field (.ref z) 2 >>= _) _ _ _;refine Ji (JX gz rfl (x:=.bool false) rfl ?_)
 show wpAny _ _ (field (.ref z) 3 >>= _) _ _ _;refine Ji (JX gz rfl (x:=.ref TI) rfl (Ji (Ks gI rfl ?_)))
 show wpAny _ _ (Builtin.SmallTypes.ownedTupleIsFree (.ref z) >>= _) _ _ _;refine Ji ?_;unfold Builtin.SmallTypes.ownedTupleIsFree
 refine Ji (JX gz rfl (x:=.none) rfl (Jp ?_));simp only[JW]
 refine Ji (L0 (Ji (JX gz rfl (x:=.ref TO) rfl (Ji (KN gz (by simp) fun h₁ z1 q1=>?_)))))
 replace z1:IsZip h₁ z TI TO .ellipsis:=z1
 refine Ji ?_;simp only[List.zipIdx_cons,List.zipIdx_nil,LY,List.forIn_nil]
 refine Ji (Ji (wpAny_onRaise ?_));show wpAny _ _ (Builtin.SmallTypes.nextOf (.ref i1) >>= _) _ _ _
 cases hx:xs[k1]? with
 |none=>
  refine Ji (xT hh (g1.extBut q1.extBut D.i1z) (t1.extBut q1.extBut D.l1z) hx fun h₂ e q2 ⟨oe,ge,ce⟩=>?_)
  have z2:IsZip h₂ z TI TO .ellipsis:=q2 _ _ D.i1z.symm z1
  have ez:e≠z:=fun u=>by subst u;rw[z2]at ge;cases ge;simp at ce
  exact KN z2 (by simp) fun h₃ _ q3=>k h₃ e (fun c o c1 _ c3 _ u=>q3.extBut _ _ c1 (q2 _ _ c3 (q1.extBut _ _ c1 u))) ⟨oe,q3.extBut _ _ ez ge,ce⟩
 |some x=>
  have hy:ys[k2]?=none:=he.elim (fun q=>by rw[hx]at q;cases q) id
  refine Ji (zz (g1.extBut q1.extBut D.i1z) (t1.extBut q1.extBut D.l1z) hx fun h₂ n1 q2=>Jp ?_)
  have o2:IsPair h₂ TO a b:=q2.extBut _ _ D.TOi1 (q1.extBut _ _ D.TOz gO)
  refine Ji (Ks o2 rfl (Ji (Mv o2 fun h₃ o3 q3=>?_)))
  refine Ji (wpAny_letGo (Jp ?_));refine Ji (Ji (wpAny_onRaise ?_));show wpAny _ _ (Builtin.SmallTypes.nextOf (.ref i2) >>= _) _ _ _
  refine Ji (xT hh (((g2.extBut q1.extBut D.i2z).extBut q2.extBut D.i12.symm).extBut q3.extBut D.TOi2.symm) (((t2.extBut q1.extBut D.l2z).extBut q2.extBut D.l2i1).extBut q3.extBut D.l2TO) hy fun h₄ e q4 ⟨oe,ge,ce⟩=>?_)
  have z4:IsZip h₄ z TI TO .ellipsis:=q4 _ _ D.i2z.symm (q3.extBut _ _ D.TOz.symm (q2.extBut _ _ D.i1z.symm z1))
  have ez:e≠z:=fun u=>by subst u;rw[z4]at ge;cases ge;simp at ce
  exact KN z4 (by simp) fun h₅ _ q5=>k h₅ e (fun c o c1 c2 c3 c4 u=>q5.extBut _ _ c1 (q4 _ _ c4 (q3.extBut _ _ c2 (q2.extBut _ _ c3 (q1.extBut _ _ c1 u))))) ⟨oe,q5.extBut _ _ ez ge,ce⟩
def oQ{Q:Option Value->Shared->Prop}(D:ZipApart z TI TO i1 i2 l1 l2)(gz:IsZip s.heap z TI TO .none)(gI:IsPair s.heap TI (.ref i1) (.ref i2))(gO:IsPair s.heap TO a b)
  (g1:Si ka s.heap i1 l1 k1) (g2:Si kb s.heap i2 l2 k2) (t1:Sq ka s.heap l1 xs) (t2:Sq kb s.heap l2 ys) (hx:xs[k1]?=some x) (hy:ys[k2]?=some y)
  (k:∀g,IsZip g z TI TO (rawInt s.heap.objs.size)->IsPair g TO x y->Si ka g i1 l1 (k1+1)->Si kb g i2 l2 (k2+1)->IsPair g s.heap.objs.size x y->
   (∀c o,c≠z->c≠TO->c≠i1->c≠i2->s.heap.get? c=some o->g.get? c=some o)->Q (some (.ref s.heap.objs.size)) { s with heap:=g }):wpAny (model prog w) A (pyNext (.ref z)) Q E s:=by
 have ty:s.TypeIs (.ref z) "zip":=⟨_,gz,rfl⟩
 unfold pyNext
 exact Ji (wpAny_attempt (Ka (name:=Str.ofString "__next__") ty K1 (KL K1 ty Mq
  (tt D gz gI gO g1 g2 t1 t2 hx hy fun g a1 a2 a3 a4 a5 a6=>Jp (k g a1 a2 a3 a4 a5 a6)) (Mh _))))
def qy{Q:Option Value->Shared->Prop}(hh:A.handled=none)(D:ZipApart z TI TO i1 i2 l1 l2)(gz:IsZip s.heap z TI TO .none)(gI:IsPair s.heap TI (.ref i1) (.ref i2))(gO:IsPair s.heap TO a b)
  (g1:Si ka s.heap i1 l1 k1) (g2:Si kb s.heap i2 l2 k2) (t1:Sq ka s.heap l1 xs) (t2:Sq kb s.heap l2 ys) (he:xs[k1]?=none\/ys[k2]?=none)
  (k:∀g:Heap,(∀c o,c≠z->c≠TO->c≠i1->c≠i2->s.heap.get? c=some o->g.get? c=some o)->Q none { s with heap:=g }):wpAny (model prog w) A (pyNext (.ref z)) Q E s:=by
 have ty:s.TypeIs (.ref z) "zip":=⟨_,gz,rfl⟩
 unfold pyNext
 refine Ji (wpAny_attempt (Ka (name:=Str.ofString "__next__") ty K1 (KL K1 ty Mq (vT hh D gz gI gO g1 g2 t1 t2 he fun g e kk ⟨o,ho,hc⟩=>?_) (Mh _))))
 exact Ji (wpAny_isInstance (T:="StopIteration") (b:=true) ⟨o,ho,hc⟩ isSubtype_stop (Jp (k _ kk)))
end
noncomputable abbrev it(kd:Bool)(l:Addr):Obj:={ cls:=.type (cond kd "list_iterator" "tuple_iterator"),data:=.fields #[.ref l,.int 0 0] }
def Si.mk{kd:Bool}{h:Heap}{a l:Addr}(e:h.get? a=some (it kd l)):Si kd h a l 0:=match kd,e with|true,e=>⟨_,e,rfl,rfl⟩|false,e=>⟨_,e,rfl,rfl⟩
noncomputable abbrev H1(ka:Bool)(h:Heap)(l1:Addr):Heap:=h.push (it ka l1)
noncomputable abbrev H2(ka kb:Bool)(h:Heap)(l1 l2:Addr):Heap:=(H1 ka h l1).push (it kb l2)
noncomputable abbrev H3(ka kb:Bool)(h:Heap)(l1 l2:Addr):Heap:=(H2 ka kb h l1 l2).push { cls:=.type "tuple",data:=.seq #[.ref h.objs.size,.ref (H1 ka h l1).objs.size] }
noncomputable abbrev H4(ka kb:Bool)(h:Heap)(l1 l2:Addr):Heap:=(H3 ka kb h l1 l2).push { cls:=.type "tuple",data:=.seq #[.none,.none] }
noncomputable abbrev H5(ka kb:Bool)(h:Heap)(l1 l2:Addr):Heap:=(H4 ka kb h l1 l2).push { cls:=.type "zip",data:=.fields #[.none,.bool false,.bool false,.ref (H2 ka kb h l1 l2).objs.size,.ref (H3 ka kb h l1 l2).objs.size] }
def ic(ka kb:Bool)(l1 l2:Addr)(xs ys:Vw) :
  Meets (Builtin.«zip.__new__» ⟨[.type "zip",.ref l1,.ref l2],[]⟩) (fun _ R s=>Sq ka s.heap l1 xs/\Sq kb s.heap l2 ys/\R (.ok (.ret (.ref (H4 ka kb s.heap l1 l2).objs.size))) { s with heap:=H5 ka kb s.heap l1 l2 }):=
 .of_wp fun prog w A R s h=>by
  obtain⟨hp,g,d,tk,os⟩:=s;obtain⟨e1,e2,h⟩:=h
  have hsub:=sub_zip
  match ka,kb,e1,e2,h with
  |false,false,e1,e2,h=>
   have L1:Heap.IsTuple (Shared.heap ⟨hp,g,d,tk,os⟩) l1 xs:=e1
   have L2:Heap.IsTuple (Shared.heap ⟨hp.push { cls:=.type "tuple_iterator",data:=.fields #[.ref l1,.int 0 0] },g,d,tk,os⟩) l2 ys:=Heap.IsTuple.push e2 _
   wp_walk using Ky L1,Ky L2
   exact⟨_,rfl,h⟩
  |false,true,e1,e2,h=>
   have L1:Heap.IsTuple (Shared.heap ⟨hp,g,d,tk,os⟩) l1 xs:=e1
   have L2:Heap.IsList (Shared.heap ⟨hp.push { cls:=.type "tuple_iterator",data:=.fields #[.ref l1,.int 0 0] },g,d,tk,os⟩) l2 ys:=Heap.IsList.push e2 _
   wp_walk using Ky L1,Lj L2
   exact⟨_,rfl,h⟩
  |true,false,e1,e2,h=>
   have L1:Heap.IsList (Shared.heap ⟨hp,g,d,tk,os⟩) l1 xs:=e1
   have L2:Heap.IsTuple (Shared.heap ⟨hp.push { cls:=.type "list_iterator",data:=.fields #[.ref l1,.int 0 0] },g,d,tk,os⟩) l2 ys:=Heap.IsTuple.push e2 _
   wp_walk using Lj L1,Ky L2
   exact⟨_,rfl,h⟩
  |true,true,e1,e2,h=>
   have L1:Heap.IsList (Shared.heap ⟨hp,g,d,tk,os⟩) l1 xs:=e1
   have L2:Heap.IsList (Shared.heap ⟨hp.push { cls:=.type "list_iterator",data:=.fields #[.ref l1,.int 0 0] },g,d,tk,os⟩) l2 ys:=Heap.IsList.push e2 _
   wp_walk using Lj L1,Lj L2
   exact⟨_,rfl,h⟩
section
variable {ka kb:Bool} {prog:Program} {w:World} {A:Around} {E:Vq} {s:Shared}
def ji{l1 l2:Addr}{xs ys:Vw}{Q:Vq}(e1:Sq ka s.heap l1 xs)(e2:Sq kb s.heap l2 ys)
  (k:∀g,IsZip g (s.heap.objs.size+4) (s.heap.objs.size+2) (s.heap.objs.size+3) .none->IsPair g (s.heap.objs.size+2) (.ref s.heap.objs.size) (.ref (s.heap.objs.size+1))->
   IsPair g (s.heap.objs.size+3) .none .none->Si ka g s.heap.objs.size l1 0->Si kb g (s.heap.objs.size+1) l2 0->
   (∀c o,s.heap.get? c=some o->g.get? c=some o)->Q (.ref (s.heap.objs.size+4)) { s with heap:=g }) :
  wpAny (model prog w) A (call (.type "zip") [.ref l1,.ref l2]) Q E s:=by
 refine callType_new F.called_zip (by decide) (F.typeCall_zip_2 _ _) (F.newCall_zip_2 _ _) (fun obj=>F.args_object_init_3 obj _ _) F.entry_zip_new (ic ka kb l1 l2 xs ys) ⟨e1,e2,?_⟩
 have z1:(H1 ka s.heap l1).objs.size=s.heap.objs.size+1:=KR ..
 have z2:(H2 ka kb s.heap l1 l2).objs.size=s.heap.objs.size+2:=by rw[KR,z1]
 have z3:(H3 ka kb s.heap l1 l2).objs.size=s.heap.objs.size+3:=by rw[KR,z2]
 have z4:(H4 ka kb s.heap l1 l2).objs.size=s.heap.objs.size+4:=by rw[KR,z3]
 have g5:(H5 ka kb s.heap l1 l2).get? (H4 ka kb s.heap l1 l2).objs.size=some _:=JA _ rfl
 have g4:(H5 ka kb s.heap l1 l2).get? (H3 ka kb s.heap l1 l2).objs.size=some _:=Jl _ (JA _ rfl)
 have g3:(H5 ka kb s.heap l1 l2).get? (H2 ka kb s.heap l1 l2).objs.size=some _:=Jl _ (Jl _ (JA _ rfl))
 have g2:(H5 ka kb s.heap l1 l2).get? (H1 ka s.heap l1).objs.size=some _:=Jl _ (Jl _ (Jl _ (JA _ rfl)))
 have g1:(H5 ka kb s.heap l1 l2).get? s.heap.objs.size=some _:=Jl _ (Jl _ (Jl _ (Jl _ (JA _ rfl))))
 show _/\_
 rw[z2,z3,z4]at g5
 rw[z1,z2]at g3
 rw[z3]at g4
 rw[z1]at g2
 rw[z4]
 exact⟨⟨_,g5,rfl⟩,k _ g5 g3 g4 (.mk g1) (.mk g2) fun c o e=>Jl _ (Jl _ (Jl _ (Jl _ (Jl _ e))))⟩
end
end Zt
namespace L2
open PySem PySem.Spec PyProof.Rows
section
variable {X:Cx} {pins:Va} {σ:St} {H:Hp} {s:Shared} {h':Heap}
def Inv.Ci{t':Nat}{fp:List Addr}(I:Inv X pins σ H s)(k:∀b o,b ∉ fp->s.heap.get? b=some o->h'.get? b=some o)(hf:∀b∈fp,dR X pins H b):Inv X pins σ H { s with heap:=h',toks:=t' }:=by
 have FK:∀b u,H b=some u->b ∉ fp:=fun b u e z=>by rw[(hf b z).1]at e;cases e
 refine I.step (g':=s.gens) (d':=s.drawn) (ch:=fp) (fun b hb=>?_) (fun b o _ _ hc e _=>k b o hc e) (fun b o _ _ hc e _=>⟨o.slots,k b o hc e⟩) (fun _ _ _ _ n=>n)
  (fun b o hc e=>⟨o,k b o hc e⟩) (fun _ _ e=>e) (fun _ _ _ e=>e) (fun b ps e=>⟨#[],by rw[e];simp⟩) (fun m hm=>?_) (fun b u e=>?_) I.bare
 ·obtain⟨f0,f1,f2,f3,f4,f5⟩:=hf b hb
  exact⟨f3,f1,f4,f5⟩
 ·obtain⟨o,es,ep,ho,r⟩:=hm
  exact⟨o,es,ep,k _ o (fun z=>(hf _ z).2.1 rfl) ho,r⟩
 ·refine(I.hok b u e).stay (fun c v hc q=>k c v ?_ q) (fun _ q=>q) fun _ _ q=>q
  rcases hc with z|z
  ·rw[z];exact FK b u e
  ·exact FK c _ z
def Inv.CZ{D:Addr}{us:Vv}{ys:List V}(I:Inv X pins σ H s)(f:dR X pins H D)(e:Bc s.heap D us.toArray)(r:Vals ys us)(hz:ys.length<=sizeLine) :
  Inv X pins σ (upd H D (.tup ys)) s:=by
 obtain⟨f0,f1,f2,f3,f4,f5⟩:=f
 have nD:∀b u,H b=some u->b≠D:=fun b u q=>aU q f0
 have hok:Ck X.prog X.w (upd H D (.tup ys)) s.heap:=fun b u q=>by
  by_cases hb:b=D
  ·subst hb
   rw[ay]at q
   cases q
   exact⟨hz,us,r,e⟩
  ·rw[ax hb]at q
   exact(I.hok b u q).stay (fun _ _ _ z=>z) (fun c z=>by rw[ax (nD c _ z)];exact z) fun c xs z=>by rw[ax (nD c _ z)];exact z
 exact I.step (H':=upd H D (.tup ys)) (h':=s.heap) (g':=s.gens) (t':=s.toks) (d':=s.drawn) (ch:=[D])
  (fun b hb=>by
   have z:b=D:=by simpa using hb
   subst z
   exact⟨f3,f1,f4,f5⟩)
  (fun _ _ _ _ _ q _=>q) (fun _ o _ _ _ q _=>⟨o.slots,q⟩)
  (fun b o hb _ n=>by rw[ax (fun z=>hb (by simp[z]))];exact n)
  (fun _ o _ q=>⟨o,q⟩) (fun b xs q=>by rw[ax (nD b _ q)];exact q) (fun b o u q=>by rw[ax (nD b _ q)];exact q)
  (fun b ps q=>⟨#[],by rw[ax (nD b _ q),q];simp⟩) (fun _ q=>q) hok I.bare
end
def oR(kd:Bool)(K:Vo)(H:Hp)(a:Addr)(xs:List V):Prop:=cond kd (SqL K H a xs) (SqT K H a xs)
def Inv.D9{X:Cx}{pins:Va}{σ:St}{H:Hp}{s:Shared}{kd:Bool}{a:Addr}{xs:List V}(I:Inv X pins σ H s)(h:oR kd X.K H a xs):∃its:List Value,Vals xs its/\Zt.Sq kd s.heap a its.toArray:=by
 cases kd with
 |true=>obtain⟨i,r,p,z⟩:=I.list h;exact⟨i,r,p.isList⟩
 |false=>obtain⟨i,r,p,z⟩:=I.tuple h;exact⟨i,r,p⟩
def Inv.Dy{X:Cx}{pins:Va}{σ:St}{H:Hp}{s:Shared}{kd:Bool}{a:Addr}{xs ys:List V}(I:Inv X pins σ H s)(h:oR kd X.K H a xs)(g:oR kd X.K H a ys):xs=ys:=by
 cases kd with
 |true=>exact I.CW h g
 |false=>exact I.CC h g
noncomputable def zA(ka kb:Bool)(K:Vo)(a b:Addr):It:=
  ⟨fun i H=>∃xs ys x y,oR ka K H a xs/\oR kb K H b ys/\xs[i]?=some x/\ys[i]?=some y,
   fun i H v H'=>∃p x y,v = .ref p/\H p=none/\H'=upd H p (.tup [x,y])/\∀xs ys,oR ka K H a xs->oR kb K H b ys->xs[i]?=some x/\ys[i]?=some y,
   fun i H=>∃xs ys,oR ka K H a xs/\oR kb K H b ys/\(xs.length<=i\/ys.length<=i)⟩
def qz{ka kb:Bool}{P:Program}{w:World}{K:Vo}{elts:List Expr}{k0:Nat}{CD:Pos}{z TI TO i1 i2 a b:Addr}(D:ZipApart z TI TO i1 i2 a b) :
  kR P w K (.Tuple elts k0 CD) (zA ka kb K a b) [z,TI,TO,i1,i2] z (fun i h=>IsZip h z TI TO .none/\IsPair h TI (.ref i1) (.ref i2)/\(∃x y,IsPair h TO x y)/\Zt.Si ka h i1 a i/\Zt.Si kb h i2 b i) where
 mem:=by simp
 obj:=fun i h st c hc=>by
  obtain⟨gz,gI,⟨x,y,gO⟩,g1,g2⟩:=st
  obtain⟨o1,_,e1,d1⟩:=g1.ob;obtain⟨o2,_,e2,d2⟩:=g2.ob
  simp only[Jq,JF,Kq]at hc
  rcases hc with rfl|rfl|rfl|rfl|rfl
  ·exact⟨_,gz,fun v q=>by cases q⟩
  ·exact⟨_,gI,fun v q=>by cases q⟩
  ·exact⟨_,gO,fun v q=>by cases q⟩
  ·exact⟨_,e1,fun v q=>by rw[d1]at q;cases q⟩
  ·exact⟨_,e2,fun v q=>by rw[d2]at q;cases q⟩
 keep:=fun i h h' st k=>by
  obtain⟨gz,gI,⟨x,y,gO⟩,g1,g2⟩:=st
  exact⟨k z (by simp) _ gz,k TI (by simp) _ gI,⟨x,y,k TO (by simp) _ gO⟩,g1.at fun o e=>k i1 (by simp) o e,g2.at fun o e=>k i2 (by simp) o e⟩
 item:=by
  intro X hP hw hK hc i pins s σ H E I hf st hg
  subst hP hw hK
  obtain⟨gz,gI,⟨ta,tb,gO⟩,g1,g2⟩:=st
  obtain⟨xs,ys,x,y,DT,F9,hx,hy⟩:=hg
  obtain⟨ia,ra,pa⟩:=I.D9 DT
  obtain⟨ib,rb,pb⟩:=I.D9 F9
  obtain⟨u,hu,ru⟩:=ra.get hx
  obtain⟨v,hv,rv⟩:=rb.get hy
  refine Zt.oQ D gz gI gO g1 g2 pa pb (x:=u) (y:=v) (by simpa using hu) (by simpa using hv) fun g a1 a2 a3 a4 a5 a6=>?_
  refine⟨_,rfl,wpAny_letOwnedTupleGo_zip (s:={ s with heap:=g }) a1 fun g' z' q'=>?_⟩
  have kk:∀c o,c ∉ [z,TI,TO,i1,i2]->s.heap.get? c=some o->g'.get? c=some o:=fun c o hc e=>by
   simp only[Jq,JF,Kq,not_or]at hc
   exact q'.extBut _ _ hc.1 (a6 c o hc.1 hc.2.2.1 hc.2.2.2.1 hc.2.2.2.2 e)
  have I1:Inv X pins σ H { s with heap:=g' }:=I.Ci (t':=s.toks) kk hf
  have f0:dR X pins H s.heap.objs.size:=I.Cw (Jm _) (I.hok.fresh (Jm _))
  have eT:Bc g' s.heap.objs.size [u,v].toArray:=⟨_,q'.extBut _ _ (LK (Jr gz)) a5,rfl,rfl,_,rfl⟩
  have I2:=I1.CZ f0 eT (.cons ru (.cons rv .nil)) (by show 2<=sizeLine;decide)
  refine⟨.ref s.heap.objs.size,_,I2,rfl,⟨s.heap.objs.size,x,y,rfl,f0.1,rfl,fun xs' ys' h1 h2=>by rw[I.Dy h1 DT,I.Dy h2 F9];exact⟨hx,hy⟩⟩,
   ⟨z',q'.extBut _ _ D.TIz (a6 TI _ D.TIz D.TITO D.TIi1 D.TIi2 gI),⟨_,_,q'.extBut _ _ D.TOz a2⟩,a3.extBut q'.extBut D.i1z,a4.extBut q'.extBut D.i2z⟩,fun c hc=>?_⟩
  have hlt:c < s.heap.objs.size:=by
   obtain⟨_,_,e1,_⟩:=g1.ob
   obtain⟨_,_,e2,_⟩:=g2.ob
   simp only[Jq,JF,Kq]at hc
   rcases hc with rfl|rfl|rfl|rfl|rfl
   ·exact Jr gz
   ·exact Jr gI
   ·exact Jr gO
   ·exact Jr e1
   ·exact Jr e2
  rw[ax (JL hlt)]
  exact(hf c hc).1
 done:=by
  intro X hP hw hK hc i pins s σ H E I hf st hg
  subst hP hw hK
  obtain⟨gz,gI,⟨ta,tb,gO⟩,g1,g2⟩:=st
  obtain⟨xs,ys,DT,F9,hl⟩:=hg
  obtain⟨ia,ra,pa⟩:=I.D9 DT
  obtain⟨ib,rb,pb⟩:=I.D9 F9
  have la:=ra.length
  have lb:=rb.length
  refine Zt.qy (I.ok.hd hc) D gz gI gO g1 g2 pa pb ?_ fun g kk=>⟨rfl,I.Ci (t':=s.toks) (fun c o hc e=>?_) hf⟩
  ·rcases hl with q|q
   ·exact .inl (by simp;omega)
   ·exact .inr (by simp;omega)
  ·simp only[Jq,JF,Kq,not_or]at hc
   exact kk c o hc.1 hc.2.2.1 hc.2.2.2.1 hc.2.2.2.2 e
 self:=fun _ _ _ _ _ st h=>wpAny_pyIter_zip st.1 h
section
variable {X:Cx}
def zB(K:Vo)(ta:TA):TI:=fun σ H R=>ta σ H fun vs H1=>∃ka kb a b,vs=[.ref a,.ref b]/\(∃xs,oR ka K H1 a xs)/\(∃ys,oR kb K H1 b ys)/\R (zA ka kb K a b) H1
def vU{elts:List Expr}{k0:Nat}{CD:Pos}{a b:Expr}{ta:TA}{p pos:Pos}(hg:Gl X "zip")(hm:X.mg "zip" = none)(hv:bootBuiltins "zip" = some (.type "zip"))(ha:PA X [a,b] ta)
  (hs:starEach [a,b] X.env=[(false,eval a X.env),(false,eval b X.env)]:=by rfl) (hs2:starEach [b] X.env=[(false,eval b X.env)]:=by rfl):PI X (.Tuple elts k0 CD) (.Call (.Name "zip" p) [a,b] [] pos) (zB X.K ta):=by
 intro pins s σ H R I h
 refine Call_ (dF I hg hm hv (JU (AL (ha pos pins s σ H _ I h) fun us s1 ⟨vs,H1,I1,r1,q1⟩=>?_) (by rw[hs,hs2]) (by rw[hs2];rfl)))
 obtain⟨ka,kb,a,b,e,⟨xs,qa⟩,⟨ys,qb⟩,q⟩:=q1
 subst e
 obtain⟨u,v,rfl,ru,rv⟩:=p_ r1
 cases ru
 cases rv
 obtain⟨ia,ra,pa⟩:=I1.D9 qa
 obtain⟨ib,rb,pb⟩:=I1.D9 qb
 have la:a < s1.heap.objs.size:=pa.lt
 have lb:b < s1.heap.objs.size:=pb.lt
 refine Zt.ji pa pb fun g gz gI gO g1 g2 kk=>?_
 refine wpAny_pyIter_zip (s:={ s1 with heap:=g }) gz ?_
 refine⟨_,[s1.heap.objs.size+4,s1.heap.objs.size+2,s1.heap.objs.size+3,s1.heap.objs.size,s1.heap.objs.size+1],_,_,H1,rfl,I1.kept (t':=s1.toks) kk,qz (zipApart_new la lb),⟨gz,gI,⟨_,_,gO⟩,g1,g2⟩,fun c hc=>?_,q⟩
 have hle:s1.heap.objs.size<=c:=by
  simp only[Jq,JF,Kq]at hc
  rcases hc with rfl|rfl|rfl|rfl|rfl
  ·exact KO _ _
  ·exact KO _ _
  ·exact KO _ _
  ·exact Jm _
  ·exact KO _ _
 exact I1.Cw hle (I1.hok.fresh hle)
def KD(P:Program)(w:World)(K:Vo)(a:Addr)(kvs:List (bf×V)):Prop:=(a == sysModules)=false/\∃o vs,K.lookup a=some o/\KV kvs vs/\Obj.IsDictOf (aR P w) o vs
def xU(a:Addr)(kvs:List (bf×V))(ty tx:TE):TE:=fun σ H Q=>ty σ H fun y H2=>tx σ H2 fun z H3=>∃k,y=kV k/\Q ((fD kvs k).getD z) H3
def tw{x:Str}{e f:Expr}{px apos cpos:Pos}{ty tx:TE}{a:Addr}{kvs:List (bf×V)}(hu:X.A.units+1 < cLine)(hg:Gl X x)(hm:X.mg x=some (.ref a))(hD:KD X.prog X.w X.K a kvs)(he:PE X e ty)(hf:PE X f tx)(m:M2 X (.Name x px) "get" apos e f cpos)
  (hd:(x == ("__debug__":Str))=false:=by decide):PE X (.Call (.Attribute (.Name x px) "get" apos) [e,f] [] cpos) (xU a kvs ty tx):=by
 intro pins s σ H Q I h
 obtain⟨hsys,o,vs,hk,rel,ii⟩:=hD
 have dd:∀{s1:Shared} {H1:Hp},Inv X pins σ H1 s1->s1.heap.DictOf (aR X.prog X.w) a vs:=fun I1=>Heap.dictOf_iff.mpr ⟨o,I1.Ej a o hk,ii⟩
 refine wpAny_Call_method m.base m.few m.line PySem.F.plainAttrs_dict Ld PySem.F.type_dict_get (nC I hg hm ?_ hd)
 refine⟨(dd I).typeIs,fun b q=>?_,?_⟩
 ·cases q
  obtain⟨ob,_,_,h1,h2,_⟩:=dd I
  exact⟨ob,h1,h2.2.1⟩
 rw[m.trees]
 refine K4 rfl (LD (Kw (AL (he pins s σ H _ I h) fun iv s2 ⟨y,H2,I2,ry,q2⟩=>
  Kw (AL (hf pins s2 σ H2 _ I2 q2) fun fv s3 ⟨z,H3,I3,rz,k,ey,q3⟩=>Lh ?_))))
 subst ey
 refine call_meetsIn Ld (dd I3).typeIs Mf (L6 _ _ _) (meets_dict_get_default (aR X.prog X.w) a (iG ry) hsys fv) ⟨_,(dd I3).mapOf,⟨_,H3,I3.tok _,?_,q3⟩⟩
 exact(rel.val k).getD rz
end
section
variable {env:Env} {rest:List Expr} {pos:Pos}
def oS{a:Expr}{gs:List Comprehension}{sc:Scope}:starEach (.ListComp a gs sc pos::rest) env=(false,eval (.ListComp a gs sc pos) env)::starEach rest env:=rfl
end
noncomputable def zC(K:Vo)(a:Addr):It:=
  ⟨fun i H=>∃xs x,SqL K H a xs/\xs[i]?=some x,
   fun i H v H'=>∃p x,v = .ref p/\H p=none/\H'=upd H p (.tup [.int (i:Nat),x])/\∀xs,SqL K H a xs->xs[i]?=some x,
   fun i H=>∃xs,SqL K H a xs/\xs.length<=i⟩
def oU{P:Program}{w:World}{K:Vo}{elts:List Expr}{k0:Nat}{CD:Pos}{e it a:Addr}(hei:e≠it) :
  kR P w K (.Tuple elts k0 CD) (zC K a) [e,it] e (fun i h=>(∃old,IsEnum h e it i old)/\h.IsListIter it a i) where
 mem:=by simp
 obj:=fun i h st c hc=>by
  obtain⟨⟨old,ge⟩,⟨o1,e1,_,d1⟩⟩:=st
  simp only[Jq,JF,Kq]at hc
  rcases hc with rfl|rfl
  ·exact⟨_,ge,fun v q=>by cases q⟩
  ·exact⟨_,e1,fun v q=>by rw[d1]at q;cases q⟩
 keep:=fun i h h' st k=>by
  obtain⟨⟨old,ge⟩,g1⟩:=st
  exact⟨⟨old,k e (by simp) _ ge⟩,g1.at fun o q=>k it (by simp) o q⟩
 item:=by
  intro X hP hw hK hc i pins s σ H E I hf st hg
  subst hP hw hK
  obtain⟨⟨old,ge⟩,g1⟩:=st
  obtain⟨xs,x,DT,hx⟩:=hg
  obtain⟨ia,ra,pa,za⟩:=I.list DT
  obtain⟨u,hu,ru⟩:=ra.get hx
  refine wpAny_pyNext_enum_item ge g1 pa.isList (x:=u) (by simpa using hu) hei fun g a1 a2 a3 a4 a5=>?_
  refine⟨_,rfl,wpAny_letOwnedTupleGo_enum (s:={ s with heap:=g,toks:=s.toks+1 }) a1 fun g' z' q'=>?_⟩
  have kk:∀c o,c ∉ [e,it]->s.heap.get? c=some o->g'.get? c=some o:=fun c o hc q=>by
   simp only[Jq,JF,Kq,not_or]at hc
   exact(q'.2 c hc.1).trans (a5 c o hc.1 hc.2 q)
  have I1:Inv X pins σ H { s with heap:=g',toks:=s.toks+1 }:=I.Ci kk hf
  have f0:dR X pins H s.heap.objs.size:=I.Cw (Jm _) (I.hok.fresh (Jm _))
  have GL:s.heap.objs.size≠e:=LK (Jr ge)
  have eT:Bc g' s.heap.objs.size [Value.int i s.toks,u].toArray:=⟨_,(q'.2 _ GL).trans a3,rfl,rfl,_,rfl⟩
  have I2:=I1.CZ (ys:=[.int i,x]) f0 eT (.cons ⟨_,rfl⟩ (.cons ru .nil)) (by show 2<=sizeLine;decide)
  refine⟨.ref s.heap.objs.size,_,I2,rfl,⟨s.heap.objs.size,x,rfl,f0.1,rfl,fun xs' h1=>by rw[I.CW h1 DT];exact hx⟩,⟨⟨u,by simpa using z'⟩,a2.at fun o q=>(q'.2 it hei.symm).trans q⟩,fun c hc=>?_⟩
  have hlt:c < s.heap.objs.size:=by
   obtain⟨o1,e1,_⟩:=g1
   simp only[Jq,JF,Kq]at hc
   rcases hc with rfl|rfl
   ·exact Jr ge
   ·exact Jr e1
  rw[ax (JL hlt)]
  exact(hf c hc).1
 done:=by
  intro X hP hw hK hc i pins s σ H E I hf st hg
  subst hP hw hK
  obtain⟨⟨old,ge⟩,g1⟩:=st
  obtain⟨xs,DT,hl⟩:=hg
  obtain⟨ia,ra,pa,za⟩:=I.list DT
  have la:=ra.length
  refine wpAny_pyNext_enum_end (I.ok.hd hc) ge g1 pa.isList (by simp;omega) fun g kk=>⟨rfl,I.Ci (t':=s.toks) (fun c o hc q=>?_) hf⟩
  simp only[Jq,JF,Kq,not_or]at hc
  exact kk c o hc.2 q
 self:=fun _ _ _ _ _ st h=>by
  obtain⟨⟨old,ge⟩,_⟩:=st
  exact Mi ge h
end L2
namespace Et
open PySem
open Sem (wp)
open AutoSeq1 (wpAny_loadPart')
def uG{P:Program}{w:World}{A:Around}(hh:A.handled=none)(it t:Addr)(hne:t≠it)(its:Vw) :
  Draws P w A it [it,t] its.size (fun i v=>its[i]?=some v) (fun i h=>h.IsTupleIter it t i/\h.IsTuple t its) where
 live:=fun i h st=>let ⟨⟨o,e,_⟩,_⟩:=st;⟨o,e⟩
 frame:=fun i h h' st k=>⟨st.1.at fun o e=>k it (by simp) o e,let ⟨o,e,r⟩:=st.2;⟨o,k t (by simp) o e,r⟩⟩
 item:=fun i s Q E hi st hQ=>Zt.nx st.1 st.2 (JD hi) fun g a b=>hQ _ g s.toks (JD hi) ⟨a,st.2.extBut b.extBut hne⟩ b
 done:=fun s Q E st hE=>Zt.Aa hh st.1 st.2 (Lq (Jm _)) hE
noncomputable abbrev E1(h:Heap)(l:Addr):Heap:=h.push { cls:=.type "tuple_iterator",data:=.fields #[.ref l,.int 0 0] }
noncomputable abbrev E2(h:Heap)(l:Addr):Heap:=(E1 h l).push { cls:=.type "enumerate",data:=.fields #[.none,.bool false,.ref h.objs.size,rawInt 0,.none,.none] }
def ic(l:Addr)(its:Vw)(n:Nat)(dct:Option Addr)(sl:Array (Option Value)) :
  Meets (Builtin.«enumerate.__new__» ⟨[.type "enumerate",.ref l],[]⟩) (fun _ R s=>s.heap.get? l=some { cls:=.type "tuple",dict:=dct,data:=.seq its n,slots:=sl }/\R (.ok (.ret (.ref (E1 s.heap l).objs.size))) { s with heap:=E2 s.heap l }):=
 .of_wp fun prog w A R s h=>by
  obtain⟨hp,g,d,tk,os⟩:=s;obtain⟨hl,h⟩:=h
  have hsub:=sub_enumerate
  have T:Heap.IsTuple (Shared.heap ⟨hp,g,d,tk,os⟩) l its:=⟨_,hl,rfl,n,rfl⟩
  wp_walk using LZ hl
  refine wpAny_stack_any fun st=>Jp ?_
  split
  ·rename_i c _ _ _ _ _
   cases (c == Value.type "enumerate")
   ·wp_walk using LZ hl,Ky T
    exact⟨_,rfl,h⟩
   ·wp_walk using LZ hl,Ky T
    exact⟨_,rfl,h⟩
  ·wp_walk using LZ hl,Ky T
   exact⟨_,rfl,h⟩
def ji{P:Program}{w:World}{A:Around}{E:Vq}{s:Shared}{l:Addr}{its:Vw}{Q:Vq}(hT:s.heap.IsTuple l its)
  (k:∀g,IsEnum g (s.heap.objs.size+1) s.heap.objs.size 0 .none->g.IsTupleIter s.heap.objs.size l 0->(∀b o,s.heap.get? b=some o->g.get? b=some o)->Q (.ref (s.heap.objs.size+1)) { s with heap:=g }) :
  wpAny (model P w) A (call (.type "enumerate") [.ref l]) Q E s:=by
 obtain⟨⟨c,dct,dt,sl⟩,hl,hc,n,hd⟩:=hT
 replace hc:c = .type "tuple":=hc
 replace hd:dt = .seq its n:=hd
 subst hc hd
 refine callType_new F.called_enumerate (by decide) (F.typeCall_enumerate_1 _) (F.newCall_enumerate_1 _) (fun obj=>F.args_object_init_2 obj _) F.entry_enumerate_new (ic l its n dct sl) ⟨hl,?_⟩
 have hz:(E1 s.heap l).objs.size=s.heap.objs.size+1:=KR ..
 show _/\_
 rw[hz]
 have he:IsEnum (E2 s.heap l) (s.heap.objs.size+1) s.heap.objs.size 0 .none:=by
  have q:=JA (E1 s.heap l) (o:={ cls:=.type "enumerate",data:=.fields #[.none,.bool false,.ref s.heap.objs.size,rawInt 0,.none,.none] }) rfl
  rw[hz]at q
  exact q
 exact⟨⟨_,he,rfl⟩,k _ he ⟨_,Jl _ (JA _ rfl),rfl,rfl⟩ fun b o x=>Jl _ (Jl _ x)⟩
end Et
namespace L2
open PySem PySem.Spec PyProof.Rows
noncomputable def zD(K:Vo)(a:Addr):It:=
  ⟨fun i H=>∃xs x,SqT K H a xs/\xs[i]?=some x,
   fun i H v H'=>∃p x,v = .ref p/\H p=none/\H'=upd H p (.tup [.int (i:Nat),x])/\∀xs,SqT K H a xs->xs[i]?=some x,
   fun i H=>∃xs,SqT K H a xs/\xs.length=i⟩
def mQ{P:Program}{w:World}{K:Vo}{elts:List Expr}{k0:Nat}{CD:Pos}{e it a:Addr}(hei:e≠it)(Ir:a≠e)(hai:a≠it) :
  kR P w K (.Tuple elts k0 CD) (zD K a) [e,it] e (fun i h=>(∃old,IsEnum h e it i old)/\h.IsTupleIter it a i) where
 mem:=by simp
 obj:=fun i h st c hc=>by
  obtain⟨⟨old,ge⟩,⟨o1,e1,_,d1⟩⟩:=st
  simp only[Jq,JF,Kq]at hc
  rcases hc with rfl|rfl
  ·exact⟨_,ge,fun v q=>by cases q⟩
  ·exact⟨_,e1,fun v q=>by rw[d1]at q;cases q⟩
 keep:=fun i h h' st k=>by
  obtain⟨⟨old,ge⟩,g1⟩:=st
  exact⟨⟨old,k e (by simp) _ ge⟩,g1.at fun o q=>k it (by simp) o q⟩
 item:=by
  intro X hP hw hK hc i pins s σ H E I hf st hg
  subst hP hw hK
  obtain⟨⟨old,ge⟩,g1⟩:=st
  obtain⟨xs,x,DT,hx⟩:=hg
  obtain⟨ia,ra,pa,za⟩:=I.tuple DT
  obtain⟨u,hu,ru⟩:=ra.get hx
  have hil:i < ia.toArray.size:=by
   rcases Nat.lt_or_ge i ia.length with q|q
   ·simpa using q
   ·rw[KH q]at hu;cases hu
  refine wpAny_pyNext_enum_itemD (Et.uG (P:=X.prog) (w:=X.w) (A:=X.A.in1) (I.ok.hd hc) it a hai ia.toArray) ge ⟨g1,(show s.heap.IsTuple a ia.toArray from pa)⟩ hil hei (by simp[hei,Lc Ir]) fun v g tk hv a1 a2 a3 a4 a5=>?_
  have ev:v=u:=by
   have q:ia[i]?=some v:=by simpa using hv
   rw[q]at hu
   exact Kc hu
  subst ev
  refine⟨_,rfl,wpAny_letOwnedTupleGo_enum (s:={ s with heap:=g,toks:=tk+1 }) a1 fun g' z' q'=>?_⟩
  have kk:∀c o,c ∉ [e,it]->s.heap.get? c=some o->g'.get? c=some o:=fun c o hc q=>by
   simp only[Jq,JF,Kq,not_or]at hc
   exact(q'.2 c hc.1).trans (a5 c o hc.1 hc.2 q)
  have I1:Inv X pins σ H { s with heap:=g',toks:=tk+1 }:=I.Ci kk hf
  have f0:dR X pins H s.heap.objs.size:=I.Cw (Jm _) (I.hok.fresh (Jm _))
  have GL:s.heap.objs.size≠e:=LK (Jr ge)
  have eT:Bc g' s.heap.objs.size [Value.int i tk,v].toArray:=⟨_,(q'.2 _ GL).trans a3,rfl,rfl,_,rfl⟩
  have I2:=I1.CZ (ys:=[.int i,x]) f0 eT (.cons ⟨_,rfl⟩ (.cons ru .nil)) (by show 2<=sizeLine;decide)
  refine⟨.ref s.heap.objs.size,_,I2,rfl,⟨s.heap.objs.size,x,rfl,f0.1,rfl,fun xs' h1=>by rw[I.CC h1 DT];exact hx⟩,⟨⟨v,by simpa using z'⟩,a2.1.at fun o q=>(q'.2 it hei.symm).trans q⟩,fun c hc=>?_⟩
  have hlt:c < s.heap.objs.size:=by
   obtain⟨o1,e1,_⟩:=g1
   simp only[Jq,JF,Kq]at hc
   rcases hc with rfl|rfl
   ·exact Jr ge
   ·exact Jr e1
  rw[ax (JL hlt)]
  exact(hf c hc).1
 done:=by
  intro X hP hw hK hc i pins s σ H E I hf st hg
  subst hP hw hK
  obtain⟨⟨old,ge⟩,g1⟩:=st
  obtain⟨xs,DT,hl⟩:=hg
  obtain⟨ia,ra,pa,za⟩:=I.tuple DT
  have la:=ra.length
  have ei:i=ia.toArray.size:=by simp;omega
  subst ei
  refine wpAny_pyNext_enum_endD (Et.uG (P:=X.prog) (w:=X.w) (A:=X.A.in1) (I.ok.hd hc) it a hai ia.toArray) ge ⟨g1,(show s.heap.IsTuple a ia.toArray from pa)⟩ fun g kk=>⟨rfl,I.Ci (t':=s.toks) (fun c o hc q=>?_) hf⟩
  simp only[Jq,JF,Kq,not_or]at hc
  exact kk c o hc.2 q
 self:=fun _ _ _ _ _ st h=>by
  obtain⟨⟨old,ge⟩,_⟩:=st
  exact Mi ge h
section
variable {X:Cx}
def oV:gq X (compareOp .IsNot) (fun x y H Q=>x = .bl true/\y = .bl true/\Q (.bl false) H):=by
 intro pins s σ H x y v u Q I rx ry h
 obtain⟨rfl,rfl,q⟩:=h
 cases (show v=Value.bool true from rx)
 cases (show u=Value.bool true from ry)
 exact wpAny_isNot_self rfl ⟨.bl false,H,I,rfl,q⟩
end
def qA(w:World)(x:Str):PyData.keyHash w.params x=hashStr w x:=rfl
noncomputable abbrev yO(w:World)(x:Str×Int×Tok×Tok):DictEntry:=⟨PyData.keyHash w.params x.1,.str x.1 x.2.2.1,.int x.2.1 x.2.2.2⟩
def vV(P:Program)(w:World)(xs:List (Str×Int×Tok×Tok))(ep:Nat)(nd:(xs.map (·.1)).Nodup) :
  ∃vs,KV (xs.map fun x=>((Sum.inr x.1:bf),V.int x.2.1)) vs/\Obj.IsDictOf (aR P w) { cls:=.type "dict",data:=.dict (xs.map (yO w)).toArray ep } vs:=by
 refine⟨xs.map fun x=>((Sum.inr x.1:bf),Value.int x.2.1 x.2.2.2),?_,(xs.map (yO w)).toArray,ep,⟨rfl,rfl,rfl⟩,rfl,?_,?_,?_⟩
 ·induction xs with
  |nil=>exact .nil
  |cons x xs ih=>exact .cons ⟨rfl,_,rfl⟩ (ih (by simpa using(Km.mp (by simpa using nd)).2))
 ·intro e he
  have he':e∈xs.map (yO w):=by simpa using he
  obtain⟨x,_,rfl⟩:=JO.mp he'
  exact⟨Sum.inr x.1,hV x.1 x.2.2.1,qA w x.1⟩
 ·have key:∀ys:List (Str×Int×Tok×Tok),Pairs (aR P w) (ys.map (yO w)) (ys.map fun x=>((Sum.inr x.1:bf),Value.int x.2.1 x.2.2.2)):=by
   intro ys
   induction ys with
   |nil=>exact .nil
   |cons y ys ih=>exact .cons (hV y.1 y.2.2.1) rfl ih
  exact key xs
 ·rw[K5]
  have e:((fun x:bf×Value=>x.1) ∘ fun x:Str×Int×Tok×Tok=>((Sum.inr x.1:bf),Value.int x.2.1 x.2.2.2))=fun x=>Sum.inr x.1:=rfl
  have key:∀ys:List (Str×Int×Tok×Tok),(ys.map (·.1)).Nodup->(ys.map fun x=>(Sum.inr x.1:bf)).Nodup:=by
   intro ys
   induction ys with
   |nil=>intro _;exact MH
   |cons y ys ih=>
    intro h
    rw[JG,Km]at h ⊢
    refine⟨fun hm=>h.1 ?_,ih h.2⟩
    obtain⟨z,hz,e⟩:=JO.mp hm
    have e':z.1=y.1:=Sum.inr.inj e
    exact JO.mpr ⟨z,hz,e'⟩
  exact key xs nd
end L2
namespace Wd
open PySem L2 PyProof.Rows
noncomputable def abc:Str:="abcdefghijklmnopqrstuvwxyz"
noncomputable def BC:List Str:=["jars","deed","rest","pay","put","then","either","take","often","use"]
def vW:∀i,i < 26->abc.cps.toList[i]?=some (97+i):=by decide +kernel
def i3:abc.length<=sizeLine/\abc.cps.toList.length=26:=by decide +kernel
def qB:∀i,i < 26->Builtin.Str.occurrences abc (k6 (97+i)) 0 abc.length 1=[i]:=by decide +kernel
theorem nP{α:Type} [BEq α] [LawfulBEq α]:∀{xs ys:List α},xs.Nodup->(∀x∈xs,x∈ys)->xs.length<=ys.length
 |[],ys,_,_=>JM _
 |x::xs,ys,nd,h=>by
  have hx:=h x (Kv ..)
  have q:=nP (xs:=xs) (ys:=ys.erase x) (Km.mp nd).2 fun y hy=>by
   have ne:y≠x:=fun e=>(Km.mp nd).1 (e▸hy)
   exact(List.mem_erase_of_ne ne).mpr (h y (Kz _ hy))
  rw[List.length_erase_of_mem hx]at q
  have:=List.length_pos_of_mem hx
  rw[JB]
  omega
noncomputable def cand(r:List Nat)(i:Nat):Str:=⟨((97+i % 26)::r).toArray⟩
def qC{r:List Nat}{i j:Nat}(h:cand r i=cand r j):i % 26=j % 26:=by
 have e:(((97+i % 26)::r).toArray).toList=(((97+j % 26)::r).toArray).toList:=Ke (fun z:Str=>z.cps.toList) h
 simp only[List.cons.injEq]at e
 omega
def mR(r:List Nat)(c:Nat):((List.range 26).map fun i=>cand r (c+i)).Nodup:=by
 refine List.pairwise_map.mpr (List.Pairwise.imp_of_mem (R:=(·≠·)) ?_ List.nodup_range)
 intro a b ha hb ne e
 have h1:=LB.mp ha
 have h2:=LB.mp hb
 have h3:=qC e
 omega
def oW(r:List Nat)(c:Nat)(bad:Vs)(h:bad.length < 26):∃j,j < 26/\cand r (c+j) ∉ bad:=by
 refine Classical.byContradiction fun no=>?_
 have q:=nP (mR r c) (ys:=bad) fun x hx=>by
  obtain⟨j,hj,rfl⟩:=JO.mp hx
  exact Classical.byContradiction fun z=>no ⟨j,LB.mp hj,z⟩
 rw[Jk,MN]at q
 omega
structure Du (z:Str):Prop where
 ne:z.cps.toList≠[]
 le:z.cps.toList.length<=6
 sm:∀c∈z.cps.toList,97<=c/\c<=122
theorem Du.cand{z:Str}(h:Du z):∃i r,z=Wd.cand r i/\i < 26/\r.length<=5/\∀c∈r,97<=c/\c<=122:=by
 obtain⟨⟨⟨l⟩⟩,ne,le,sm⟩:∃z',_/\_/\_:=⟨z,h.ne,h.le,h.sm⟩
 obtain⟨⟨l⟩⟩:=z
 cases l with
 |nil=>exact absurd rfl h.ne
 |cons c r=>
  have q:=h.sm c (Kv ..)
  refine⟨c - 97,r,?_,by omega,by have:=h.le;simp at this;omega,fun d hd=>h.sm d (Kz _ hd)⟩
  unfold Wd.cand
  rw[show 97+(c - 97) % 26=c by omega]
def qD{r:List Nat}(h:r.length<=5)(hs:∀c∈r,97<=c/\c<=122)(i:Nat):Du (cand r i):=by
 refine⟨by simp[cand],by simp[cand];omega,fun c hc=>?_⟩
 have hc':c∈(97+i % 26)::r:=hc
 rcases Jq.mp hc' with e|e
 ·omega
 ·exact hs c e
def Du.len{z:Str}(h:Du z):z.length<=6:=by have q:=h.le;rw[MC]at q;exact q
def Du.line{z:Str}(h:Du z):z.length<=sizeLine:=Jw h.len (by decide)
def ko(r:List Nat)(i:Nat):Be (cand r i).cps.toList 0=some (97+i % 26):=cP (j:=0) rfl
def fq(r:List Nat)(i:Nat):Txt.slice (cand r i) (some 1) none=⟨r.toArray⟩:=by
 have e:Txt.slice (cand r i) (some 1) none=StrLaws.sliceText (cand r i) (some 1) none:=rfl
 rw[e,StrLaws.sliceText_from ⟨by decide,by simp[cand];omega⟩]
 simp[cand]
def kq(r:List Nat)(i:Nat):(k6 (97+(i+1) % 26):Str)++(⟨r.toArray⟩:Str)=cand r (i+1):=by
 refine Str.ext' ?_
 show #[97+(i+1) % 26]++r.toArray=_
 simp[cand]
def k7(i:Nat):Be abc.cps.toList ((i % 26:Nat):Int)=some (97+i % 26):=cP (vW _ (Nat.mod_lt _ (by decide)))
def jj(cs:List Nat):Txt.join "" (cs.map k6)=⟨cs.toArray⟩:=by
 have q:=join_nil_signs ⟨cs.toArray⟩
 have e:Txt.join "" (cs.map k6)=Str.join ⟨#[]⟩ (cs.map k6):=StrLaws.glued_eq_join _ _
 rw[e]
 exact q
def tD(cs:List Nat):((cs.map k6).map (·.length)).sum=cs.length:=by
 induction cs with
 |nil=>rfl
 |cons c r ih=>rw[JG,JG,MO,ih,JB];show 1+r.length=_;omega
def tE{cs:List Nat}{a i:Nat}(h:cs.length<=5)(hs:∀c∈cs,97<=c/\c<=122)(ha:a<=cs.length)(hi:i < 26) :
  Du (Txt.slice ⟨cs.toArray⟩ none (some (a:Int))++(k6 (97+i):Str)++Txt.slice ⟨cs.toArray⟩ (some (a:Int)) none)/\(Txt.slice ⟨cs.toArray⟩ none (some (a:Int))).length<=5/\(Txt.slice ⟨cs.toArray⟩ (some (a:Int)) none).length<=5:=by
 have e1:Txt.slice ⟨cs.toArray⟩ none (some (a:Int))=⟨(cs.take a).toArray⟩:=by
  have e:Txt.slice ⟨cs.toArray⟩ none (some (a:Int))=StrLaws.sliceText ⟨cs.toArray⟩ none (some (a:Int)):=rfl
  rw[e,StrLaws.sliceText_to ⟨by omega,by simp;omega⟩]
  simp
 have e2:Txt.slice ⟨cs.toArray⟩ (some (a:Int)) none=⟨(cs.drop a).toArray⟩:=by
  have e:Txt.slice ⟨cs.toArray⟩ (some (a:Int)) none=StrLaws.sliceText ⟨cs.toArray⟩ (some (a:Int)) none:=rfl
  rw[e,StrLaws.sliceText_from ⟨by omega,by simp;omega⟩]
  refine Str.ext' ?_
  show((cs.drop (a:Int).toNat).take ((cs.length:Int) - a).toNat).toArray=(cs.drop a).toArray
  rw[Lz,Lr (by rw[J9];omega)]
 rw[e1,e2]
 have e3:((⟨(cs.take a).toArray⟩:Str)++(k6 (97+i):Str)++(⟨(cs.drop a).toArray⟩:Str)).cps.toList=cs.take a++[97+i]++cs.drop a:=by
  show((cs.take a).toArray++#[97+i]++(cs.drop a).toArray).toList=_
  simp
 refine⟨⟨by rw[e3];simp,by rw[e3];simp;omega,fun c hc=>?_⟩,?_,?_⟩
 ·rw[e3]at hc
  rcases Ju.mp hc with hc|hc
  ·rcases Ju.mp hc with hc|hc
   ·exact hs c (Kh hc)
   ·rw[Js.mp hc];omega
  ·exact hs c (LG hc)
 ·show(cs.take a).toArray.size<=5
  rw[Jo,Ko];omega
 ·show(cs.drop a).toArray.size<=5
  rw[Jo,J9];omega
end Wd
namespace M3
noncomputable def k8(t b:Int):Int:=(if b < 0 then -t else t) / (Int.gcd t b:Int)
noncomputable def lO(t b:Int):Int:=(if b < 0 then -b else b) / (Int.gcd t b:Int)
def gw{t b:Int}(h:b≠0):0 < Int.gcd t b:=Nat.gcd_pos_of_pos_right _ (by omega)
def vX{t b:Int}(h:b≠0):(Int.gcd t b:Int)<=b.natAbs:=by
 have q:Nat.gcd t.natAbs b.natAbs<=b.natAbs:=Nat.gcd_le_right _ (by omega)
 have e:Int.gcd t b=Nat.gcd t.natAbs b.natAbs:=rfl
 omega
def qE(t b:Int):Int.gcd (-t) (-b)=Int.gcd t b:=by rw[Int.gcd_neg,Int.neg_gcd]
def parts(t b:Int):∃x y:Int,t=(Int.gcd t b:Int) * x/\b=(Int.gcd t b:Int) * y:=by
 obtain⟨x,hx⟩:=Int.gcd_dvd_left t b
 obtain⟨y,hy⟩:=Int.gcd_dvd_right t b
 exact⟨x,y,hx,hy⟩
def vY{t b x y g:Int}(hg:g=(Int.gcd t b:Int))(h:b≠0)(ht:t=g * x)(hb:b=g * y):k8 t b=(if y < 0 then -x else x)/\lO t b=(if y < 0 then -y else y):=by
 have gp:0 < g:=by rw[hg];exact MA.mpr (gw h)
 have hy:b < 0↔y < 0:=by
  rw[hb]
  constructor
  ·intro q
   by_cases z:y < 0
   ·exact z
   ·have:=Int.mul_nonneg (MF gp) (Int.not_lt.mp z)
    omega
  ·intro q
   exact Int.mul_neg_of_pos_of_neg gp q
 unfold k8 lO
 rw[<-hg]
 by_cases z:y < 0
 ·rw[if_pos (hy.mpr z),if_pos (hy.mpr z),if_pos z,if_pos z]
  constructor
  ·rw[ht,<-Int.mul_neg,Ll _ (by omega)]
  ·rw[hb,<-Int.mul_neg,Ll _ (by omega)]
 ·rw[if_neg (fun q=>z (hy.mp q)),if_neg (fun q=>z (hy.mp q)),if_neg z,if_neg z]
  constructor
  ·rw[ht,Ll _ (by omega)]
  ·rw[hb,Ll _ (by omega)]
def tF{t b x y:Int}(h:b≠0)(ht:t=(Int.gcd t b:Int) * x)(hb:b=(Int.gcd t b:Int) * y):Int.gcd x y=1:=by
 have gp:=gw (t:=t) h
 have q:Int.gcd ((Int.gcd t b:Int) * x) ((Int.gcd t b:Int) * y)=(Int.gcd t b:Int).natAbs * Int.gcd x y:=Int.gcd_mul_left _ _ _
 rw[<-ht,<-hb,Int.natAbs_natCast]at q
 have q2:Int.gcd t b * 1=Int.gcd t b * Int.gcd x y:=by omega
 exact(Nat.eq_of_mul_eq_mul_left gp q2).symm
structure Ab (a b:Int):Prop where
 pos:0 < b
 one:Int.gcd a b=1
def nQ{t b:Int}(h:b≠0):Ab (k8 t b) (lO t b):=by
 obtain⟨x,y,ht,hb⟩:=parts t b
 have c:=tF h ht hb
 obtain⟨e1,e2⟩:=vY rfl h ht hb
 have y0:y≠0:=fun z=>h (by rw[hb,z,Int.mul_zero])
 rw[e1,e2]
 by_cases z:y < 0
 ·rw[if_pos z,if_pos z]
  exact⟨by omega,by rw[qE];exact c⟩
 ·rw[if_neg z,if_neg z]
  exact⟨by omega,c⟩
def qF{t b:Int}(h:b≠0):t.fdiv (if b < 0 then -(Int.gcd t b:Int) else (Int.gcd t b:Int))=k8 t b/\b.fdiv (if b < 0 then -(Int.gcd t b:Int) else (Int.gcd t b:Int))=lO t b:=by
 have gp:(0:Int) < (Int.gcd t b:Int):=MA.mpr (gw h)
 have d1:=Int.gcd_dvd_left t b
 have d2:=Int.gcd_dvd_right t b
 unfold k8 lO
 by_cases z:b < 0
 ·rw[if_pos z,if_pos z,if_pos z,Int.fdiv_neg (by omega),if_pos d1,Int.fdiv_neg (by omega),if_pos d2,Lm d1,Lm d2,Int.neg_ediv_of_dvd d1,Int.neg_ediv_of_dvd d2]
  exact⟨rfl,rfl⟩
 ·rw[if_neg z,if_neg z,if_neg z,Lm d1,Lm d2]
  exact⟨rfl,rfl⟩
def qG(x y:Int):Int.gcd y (x.fmod y)=Int.gcd x y:=by
 have q:=Int.mul_fdiv_add_fmod x y
 have e:Int.gcd y (x.fmod y+x.fdiv y * y)=Int.gcd y (x.fmod y):=Int.gcd_add_mul_right_right _ _ _
 rw[<-e,Int.mul_comm (x.fdiv y) y,Int.add_comm,q,Int.gcd_comm]
def qH{t b T B:Int}(h:b≠0)(h1:-T<=t)(h2:t<=T)(h3:-B<=b)(h4:b<=B)(hT:0<=T)(hB:0<=B):-T<=k8 t b/\k8 t b<=T/\0 < lO t b/\lO t b<=B:=by
 have gp:(0:Int) < (Int.gcd t b:Int):=MA.mpr (gw h)
 have L:=(nQ (t:=t) h).pos
 have key:∀z M:Int,0<=M->-M<=z->z<=M->-M<=z / (Int.gcd t b:Int)/\z / (Int.gcd t b:Int)<=M:=fun z M hM z1 z2=>by
  generalize (Int.gcd t b:Int)=g at gp
  have m2:M * 1<=M * g:=Int.mul_le_mul_of_nonneg_left (by omega) hM
  have m3:-M * g = -(M * g):=Int.neg_mul M g
  exact⟨Int.le_ediv_of_mul_le gp (by omega),Int.ediv_le_of_le_mul gp (by omega)⟩
 have k1:=key (if b < 0 then -t else t) T hT (by split<;>omega) (by split<;>omega)
 have k2:=key (if b < 0 then -b else b) B hB (by split<;>omega) (by split<;>omega)
 exact⟨k1.1,k1.2,L,k2.2⟩
end M3
namespace Xc
open PySem PySem.W PySem.Calls PyProof.Rows Builtin Builtin.ObjectAttr
structure zE (h:Heap) (e:Addr) (oe:Obj) (vs:Vw):Prop where
 at_:h.get? e=some oe
 dat:oe.data = .fields vs
 tb:vs[1]?=some .none\/∃T oT ts,vs[1]?=some (.ref T)/\T≠e/\h.get? T=some oT/\oT.data = .fields ts/\ts[3]?=some .none
end Xc
namespace L2
open PySem PySem.Spec PyProof.Rows Xc
def Ao(X:Cx)(pins:Va)(H:Hp)(h:Heap)(a C dx:Addr):Prop:=
 ∃oe vs,zE h a oe vs/\oe.cls = .ref C/\oe.dict=some dx/\dR X pins H a/\∀T,vs[1]?=some (.ref T)->dR X pins H T
def XD(dx:Addr)(fs:List (Str×V))(h:Heap):Prop:=∃mA,h.Ns1 dx mA/\(∀f,RelO (fs.lookup f) (mA f))/\PySem.Within mA (fs.map (·.1))
end L2
namespace L3
open PySem L2
inductive PV where
 |non|bl (b:Bool)|int (i:Int)|str (x:Str)|tup (xs:List PV)|cl (xs:List PV)|ref (a:Addr)|ty (n:String)|exc (c:Str) (ks:Vs) (ps:List PV)|cls (c:Str)
def FD(K:Vo)(H:Hp)(a:Addr)(xs:List V):Prop:=
 (∃o,H a=some (.frz o (.lst xs))) \/
  ∃(o:Obj) (its:Vw) (n:Nat),K.lookup a=some o/\o.cls = .type "list"/\o.dict=none/\o.data = .seq its n/\its.size<=sizeLine/\Vals xs its.toList
def FD.sq{K:Vo}{H:Hp}{a:Addr}{xs:List V}(h:FD K H a xs):SqL K H a xs:=h.elim (fun z=>.inl (.inr z)) .inr
def F_(H:Hp)(a C:Addr)(ks:Vs)(vs:List V):Prop:=
 ∃oe dx od,H a=some (.frz oe (.ext fun _=>True))/\oe.cls = .ref C/\oe.dict=some dx/\(∀c,oe.data ≠ .cls c)/\H dx=some (.frz od (.ext (XD dx (ks.zip vs))))
def tG(K:Vo)(c:Str)(C:Addr):Prop:=PySem.W.nsIn K mainGlobals c=some (some (.ref C))
mutual
inductive Rep (K:Vo) (H:Hp):V->PV->Prop
 |non:Rep K H .non .non
 |bl (b:Bool):Rep K H (.bl b) (.bl b)
 |int (i:Int):Rep K H (.int i) (.int i)
 |str (x:Str):Rep K H (.str x) (.str x)
 |ty (n:String):Rep K H (.ty n) (.ty n)
 |ref (a:Addr):Rep K H (.ref a) (.ref a)
 |tup {a:Addr} {vs:List V} {ps:List PV}:SqT K H a vs->Reps K H vs ps->Rep K H (.ref a) (.tup ps)
 |cl {a:Addr} {vs:List V} {ps:List PV}:FD K H a vs->Reps K H vs ps->Rep K H (.ref a) (.cl ps)
 |exc {a C:Addr} {c:Str} {ks:Vs} {vs:List V} {ps:List PV}:tG K c C->F_ H a C ks vs->Reps K H vs ps->Rep K H (.ref a) (.exc c ks ps)
 |cls {C:Addr} {c:Str}:tG K c C->Rep K H (.ref C) (.cls c)
inductive Reps (K:Vo) (H:Hp):List V->List PV->Prop
 |nil:Reps K H [] []
 |cons {v:V} {p:PV} {vs:List V} {ps:List PV}:Rep K H v p->Reps K H vs ps->Reps K H (v::vs) (p::ps)
end
structure Grow (K:Vo) (H H':Hp):Prop where
 t:∀a vs,SqT K H a vs->SqT K H' a vs
 c:∀a vs,FD K H a vs->FD K H' a vs
 x:∀a o u,H a=some (.frz o u)->H' a=some (.frz o u)
def Grow.refl{K:Vo}{H:Hp}:Grow K H H:=⟨fun _ _ h=>h,fun _ _ h=>h,fun _ _ _ h=>h⟩
def Grow.trans{K:Vo}{H H1 H2:Hp}(a:Grow K H H1)(b:Grow K H1 H2):Grow K H H2:=⟨fun x vs h=>b.t x vs (a.t x vs h),fun x vs h=>b.c x vs (a.c x vs h),fun x o u h=>b.x x o u (a.x x o u h)⟩
def F_.mono{K:Vo}{H H':Hp}(g:Grow K H H'){a C:Addr}{ks:Vs}{vs:List V}(h:F_ H a C ks vs):F_ H' a C ks vs:=let ⟨oe,dx,od,h1,h2,h3,h4,h5⟩:=h;⟨oe,dx,od,g.x _ _ _ h1,h2,h3,h4,g.x _ _ _ h5⟩
def Grow.of{K:Vo}{H H':Hp}(h:∀a xs,H a=some (.tup xs)->H' a=some (.tup xs))(h2:∀a o u,H a=some (.frz o u)->H' a=some (.frz o u)):Grow K H H':=by
 refine⟨fun a vs q=>?_,fun a vs q=>?_,h2⟩
 ·rcases q with(q|⟨o,q⟩)|q
  ·exact .inl (.inl (h a vs q))
  ·exact .inl (.inr ⟨o,h2 a o _ q⟩)
  ·exact .inr q
 ·rcases q with⟨o,q⟩|q
  ·exact .inl ⟨o,h2 a o _ q⟩
  ·exact .inr q
def Grow.same{K:Vo}{H H':Hp}(h:∀c o,H c=some o->H' c=some o):Grow K H H':=.of (fun a _ q=>h a _ q) (fun a _ _ q=>h a _ q)
def Grow.new{K:Vo}{H:Hp}{p:Addr}{o:HO}(h:H p=none):Grow K H (upd H p o):=.same fun c u q=>by rw[ax (aU q h)];exact q
noncomputable def Mu:HO->Prop
 | .tup _=>False
 | .frz _ _=>False
 |_=>True
def Grow.mut{K:Vo}{H:Hp}{p:Addr}{o u:HO}(h:H p=some u)(m:Mu u):Grow K H (upd H p o):=
 .of (fun a xs q=>by rw[ax (fun e=>by subst e;rw[h]at q;cases q;exact m)];exact q) (fun a _ _ q=>by rw[ax (fun e=>by subst e;rw[h]at q;cases q;exact m)];exact q)
mutual
theorem Rep.mono{K:Vo}{H H':Hp}(g:Grow K H H'):∀{v:V} {p:PV},Rep K H v p->Rep K H' v p
 |_,_,.non=>.non
 |_,_,.bl b=>.bl b
 |_,_,.int i=>.int i
 |_,_,.str x=>.str x
 |_,_,.ty n=>.ty n
 |_,_,.ref a=>.ref a
 |_,_,.tup h r=>.tup (g.t _ _ h) (Reps.mono g r)
 |_,_,.cl h r=>.cl (g.c _ _ h) (Reps.mono g r)
 |_,_,.exc n h r=>.exc n (h.mono g) (Reps.mono g r)
 |_,_,.cls n=>.cls n
theorem Reps.mono{K:Vo}{H H':Hp}(g:Grow K H H'):∀{vs:List V} {ps:List PV},Reps K H vs ps->Reps K H' vs ps
 |_,_,.nil=>.nil
 |_,_,.cons a r=>.cons (Rep.mono g a) (Reps.mono g r)
end
theorem Reps.length{K:Vo}{H:Hp}:∀{vs:List V} {ps:List PV},Reps K H vs ps->vs.length=ps.length
 |_,_,.nil=>rfl
 |_,_,.cons _ r=>by rw[JB,JB,Reps.length r]
theorem Reps.append{K:Vo}{H:Hp}:∀{vs us:List V} {ps qs:List PV},Reps K H vs ps->Reps K H us qs->Reps K H (vs++us) (ps++qs)
 |_,_,_,_,.nil,s=>s
 |_,_,_,_,.cons a r,s=>.cons a (Reps.append r s)
theorem Reps.get{K:Vo}{H:Hp}:∀{vs:List V} {ps:List PV} {i:Nat} {p:PV},Reps K H vs ps->ps[i]?=some p->∃v,vs[i]?=some v/\Rep K H v p
 |_,_,_,_,.nil,e=>by simp at e
 |_,_,0,_,.cons a r,e=>by simp at e;subst e;exact⟨_,rfl,a⟩
 |_,_,i+1,p,.cons a r,e=>by
  obtain⟨v,h1,h2⟩:=Reps.get (i:=i) (p:=p) r (by simpa using e)
  exact⟨v,by simpa using h1,h2⟩
theorem Reps.take{K:Vo}{H:Hp}:∀{vs:List V} {ps:List PV} (n:Nat),Reps K H vs ps->Reps K H (vs.take n) (ps.take n)
 |_,_,0,_=>.nil
 |_,_,_+1,.nil=>.nil
 |_,_,n+1,.cons a r=>.cons a (Reps.take n r)
theorem Reps.drop{K:Vo}{H:Hp}:∀{vs:List V} {ps:List PV} (n:Nat),Reps K H vs ps->Reps K H (vs.drop n) (ps.drop n)
 |_,_,0,r=>r
 |_,_,_+1,.nil=>.nil
 |_,_,n+1,.cons _ r=>Reps.drop n r
theorem Reps.set{K:Vo}{H:Hp}{v:V}{p:PV}(q:Rep K H v p):∀{vs:List V} {ps:List PV} (n:Nat),Reps K H vs ps->Reps K H (vs.set n v) (ps.set n p)
 |_,_,_,.nil=>.nil
 |_,_,0,.cons _ r=>.cons q r
 |_,_,n+1,.cons a r=>.cons a (Reps.set q n r)
theorem Reps.eraseIdx{K:Vo}{H:Hp}:∀{vs:List V} {ps:List PV} (n:Nat),Reps K H vs ps->Reps K H (vs.eraseIdx n) (ps.eraseIdx n)
 |_,_,_,.nil=>.nil
 |_,_,0,.cons _ r=>r
 |_,_,n+1,.cons a r=>.cons a (Reps.eraseIdx n r)
theorem Reps.reverse{K:Vo}{H:Hp}:∀{vs:List V} {ps:List PV},Reps K H vs ps->Reps K H vs.reverse ps.reverse
 |_,_,.nil=>.nil
 |_,_,.cons a r=>by rw[Mc,Mc];exact(Reps.reverse r).append (.cons a .nil)
theorem Reps.dropLast{K:Vo}{H:Hp}{vs:List V}{ps:List PV}(r:Reps K H vs ps):Reps K H vs.dropLast ps.dropLast:=by
 rw[List.dropLast_eq_take,List.dropLast_eq_take,r.length]
 exact r.take _
inductive SO where
 |lst (xs:List PV)
 |dct (kvs:List (bf×PV))
 |ins (c:Str) (fs:List (Str×PV))
abbrev aq:=Addr->Option SO
noncomputable def AH(S:aq)(a:Addr)(o:SO):aq:=fun b=>if b=a then some o else S b
def aa{S:aq}{a:Addr}{o:SO}:AH S a o a=some o:=by unfold AH;rw[if_pos rfl]
def ai{S:aq}{a b:Addr}{o:SO}(h:b≠a):AH S a o b=S b:=by unfold AH;rw[if_neg h]
inductive AX (K:Vo) (H:Hp) {κ:Type}:List (κ×V)->List (κ×PV)->Prop
 |nil:AX K H [] []
 |cons {k:κ} {v:V} {p:PV} {vs:List (κ×V)} {ps:List (κ×PV)}:Rep K H v p->AX K H vs ps->AX K H ((k,v)::vs) ((k,p)::ps)
theorem AX.mono{K:Vo}{H H':Hp}(g:Grow K H H'){κ:Type}:∀{vs:List (κ×V)} {ps:List (κ×PV)},AX K H vs ps->AX K H' vs ps
 |_,_,.nil=>.nil
 |_,_,.cons a r=>.cons (a.mono g) (AX.mono g r)
theorem AX.length{K:Vo}{H:Hp}{κ:Type}:∀{vs:List (κ×V)} {ps:List (κ×PV)},AX K H vs ps->vs.length=ps.length
 |_,_,.nil=>rfl
 |_,_,.cons _ r=>by rw[JB,JB,AX.length r]
noncomputable def Dz(K:Vo)(H:Hp)(a:Addr):SO->Prop
 | .lst xs=>∃vs,H a=some (.lst vs)/\Reps K H vs xs
 | .dct kvs=>∃kv,H a=some (.dK kv)/\AX K H kv kvs
 | .ins c fs=>∃C dx f',tG K c C/\H a=some (.ins C dx f')/\AX K H f' fs
theorem Dz.stay{K:Vo}{H H':Hp}(g:Grow K H H'){a:Addr}(e:H' a=H a):∀{o:SO},Dz K H a o->Dz K H' a o
 | .lst _,⟨vs,h,r⟩=>⟨vs,e.trans h,r.mono g⟩
 | .dct _,⟨vs,h,r⟩=>⟨vs,e.trans h,r.mono g⟩
 | .ins _ _,⟨C,dx,vs,n,h,r⟩=>⟨C,dx,vs,n,e.trans h,r.mono g⟩
theorem Dz.some{K:Vo}{H:Hp}{a:Addr}:∀{o:SO},Dz K H a o->∃u,H a=Option.some u/\Mu u
 | .lst _,⟨_,h,_⟩=>⟨_,h,trivial⟩
 | .dct _,⟨_,h,_⟩=>⟨_,h,trivial⟩
 | .ins _ _,⟨_,_,_,_,h,_⟩=>⟨_,h,trivial⟩
def AM(K:Vo)(H:Hp)(S:aq):Prop:=∀a o,S a=some o->Dz K H a o
def AM.free{K:Vo}{H:Hp}{S:aq}(r:AM K H S){p:Addr}(h:H p=none):S p=none:=by
 cases e:S p with
 |none=>rfl
 |some o=>
  obtain⟨u,q,_⟩:=(r p o e).some
  rw[h]at q;cases q
def AM.grow{K:Vo}{H H':Hp}{S:aq}(r:AM K H S)(h:∀c o,H c=some o->H' c=some o):AM K H' S:=fun a o e=>by
 obtain⟨u,q,_⟩:=(r a o e).some
 exact(r a o e).stay (.same h) ((h a u q).trans q.symm)
def AM.other{K:Vo}{H:Hp}{S:aq}(r:AM K H S){p:Addr}{o:HO}(h:H p=none):AM K (upd H p o) S:=r.grow fun c u q=>by rw[ax (aU q h)];exact q
theorem AM.new{K:Vo}{H:Hp}{S:aq}(r:AM K H S){p:Addr}{u:HO}{o:SO}(h:H p=none)(q:Dz K (upd H p u) p o):AM K (upd H p u) (AH S p o):=fun a x e=>by
 by_cases z:a=p
 ·subst z;rw[aa]at e;cases e;exact q
 ·rw[ai z]at e;exact(r a x e).stay (.new h) (ax z)
def AM.put{K:Vo}{H:Hp}{S:aq}(r:AM K H S){p:Addr}{u0 u:HO}{o:SO}(h:H p=some u0)(m:Mu u0)(q:Dz K (upd H p u) p o):AM K (upd H p u) (AH S p o):=fun a x e=>by
 by_cases z:a=p
 ·subst z;rw[aa]at e;cases e;exact q
 ·rw[ai z]at e;exact(r a x e).stay (.mut h m) (ax z)
abbrev b3:=List (Option PV)
noncomputable def lk:b3->Nat->Option PV
 |[],_=>none
 |x::_,0=>x
 |_::r,i+1=>lk r i
def qI{σ:b3}{i:Nat}{p:PV}(h:lk σ i=some p):σ[i]?=some (some p):=by
 induction σ generalizing i with
 |nil=>cases h
 |cons x r ih=>
  cases i with
  |zero=>exact Ke some h
  |succ i=>exact ih h
structure AO (K:Vo) (H:Hp) (σ:St) (σ3:b3):Prop where
 len:σ.length=σ3.length
 at':∀(i:Nat) (p:PV),σ3[i]?=some (some p)->∃v,σ[i]?=some (some v)/\Rep K H v p
theorem AO.mono{K:Vo}{H H':Hp}{σ:St}{σ3:b3}(r:AO K H σ σ3)(g:Grow K H H'):AO K H' σ σ3:=⟨r.len,fun i p e=>let ⟨v,h,q⟩:=r.at' i p e;⟨v,h,q.mono g⟩⟩
theorem AO.set{K:Vo}{H:Hp}{σ:St}{σ3:b3}(r:AO K H σ σ3){v:V}{p:PV}(q:Rep K H v p)(i:Nat):AO K H (σ.set i (some v)) (σ3.set i (some p)):=by
 refine⟨by rw[List.length_set,List.length_set,r.len],fun j x e=>?_⟩
 rw[List.getElem?_set]at e ⊢
 split at e
 ·rename_i hij
  rw[if_pos hij]
  subst hij
  split at e
  ·rename_i hl
   cases e
   rw[if_pos (by rw[r.len];exact hl)]
   exact⟨v,rfl,q⟩
  ·cases e
 ·rename_i hij
  rw[if_neg hij]
  exact r.at' j x e
abbrev bM:=PV->aq->Prop
abbrev cQ:=PV->b3->aq->Prop
abbrev aV:=b3->aq->bM->cQ->Prop
abbrev iJ:=b3->aq->(Bool->aq->Prop)->cQ->Prop
abbrev Ap:=b3->aq->(List PV->aq->Prop)->cQ->Prop
structure lP where
 nx:b3->aq->Prop
 rt:bM
 ex:cQ
 bk:b3->aq->Prop:=fun _ _=>False
 ct:b3->aq->Prop:=fun _ _=>False
abbrev bN:=lP->b3->aq->Prop
def Ee(X:Cx)(H:Hp)(E:cQ):Prop:=∀(c:Str) (ks:Vs) (ps:List PV) (σ3:b3) (S':aq) (H':Hp) (pins:Va) (σ:St) (s':Shared) (a C dx:Addr) (od:Obj) (vs:List V),E (.exc c ks ps) σ3 S'->tG X.K c C->vs.length=ks.length->
 H' dx=some (.frz od (.ext (XD dx (ks.zip vs))))->Reps X.K H' vs ps->AM X.K H' S'->AO X.K H' σ σ3->Grow X.K H H'->Inv X pins σ H' s'->Ao X pins H' s'.heap a C dx->X.xe (.ref a) s'
def Ee.mono{X:Cx}{H H':Hp}{E:cQ}(x:Ee X H E)(g:Grow X.K H H'):Ee X H' E:=fun c ks ps σ3 S' H2 pins σ s' a C dx od vs h1 h2 h3 h4 h5 h6 h7 h8 h9 Is=>x c ks ps σ3 S' H2 pins σ s' a C dx od vs h1 h2 h3 h4 h5 h6 h7 (g.trans h8) h9 Is
def Ef(K:Vo)(H:Hp)(Q3:bM)(Q:VK):Prop:=∀p S' v H',Q3 p S'->Rep K H' v p->AM K H' S'->Grow K H H'->Q v H'
def Ef.mono{K:Vo}{H H':Hp}{Q3:bM}{Q:VK}(r:Ef K H Q3 Q)(g:Grow K H H'):Ef K H' Q3 Q:=fun p S' v H2 h1 h2 h3 h4=>r p S' v H2 h1 h2 h3 (g.trans h4)
def FE(K:Vo)(H:Hp)(N3:b3->aq->Prop)(N:St->Hp->Prop):Prop:=∀σ3 S' σ H',N3 σ3 S'->AO K H' σ σ3->AM K H' S'->Grow K H H'->N σ H'
def FE.mono{K:Vo}{H H':Hp}{Q3:b3->aq->Prop}{Q:St->Hp->Prop}(r:FE K H Q3 Q)(g:Grow K H H'):FE K H' Q3 Q:=fun p S' v H2 h1 h2 h3 h4=>r p S' v H2 h1 h2 h3 (g.trans h4)
inductive LE (X:Cx) (t:aV) (σ:L2.St) (H:Hp) (Q:VK):Prop
 |mk (σ3 S Q3 E3) (rσ:AO X.K H σ σ3) (rS:AM X.K H S) (h:t σ3 S Q3 E3) (xo:Ee X H E3) (k:Ef X.K H Q3 Q):LE X t σ H Q
inductive LT (X:Cx) (t:iJ) (σ:L2.St) (H:Hp) (Q:Bool->Hp->Prop):Prop
 |mk (σ3 S Q3 E3) (rσ:AO X.K H σ σ3) (rS:AM X.K H S) (h:t σ3 S Q3 E3) (xo:Ee X H E3) (k:∀b S' H',Q3 b S'->AM X.K H' S'->Grow X.K H H'->Q b H'):LT X t σ H Q
inductive LS (X:Cx) (t:bN) (D:mE) (σ:L2.St) (H:Hp):Prop
 |mk (σ3 S D3) (rσ:AO X.K H σ σ3) (rS:AM X.K H S) (h:t D3 σ3 S) (xo:Ee X H D3.ex) (nx:FE X.K H D3.nx D.nx) (rt:Ef X.K H D3.rt D.rt) (bk:FE X.K H D3.bk D.bk) (ct:FE X.K H D3.ct D.ct):LS X t D σ H
structure a_ (X:Cx) (e:Expr) (t:aV):Prop where
 ok:PE X e (LE X t)
structure mS (X:Cx) (e:Expr) (t:iJ):Prop where
 ok:PT X e (LT X t)
structure vZ (X:Cx) (e:Expr) (t:iJ):Prop where
 ok:PW X e (LT X t)
structure mT (X:Cx) (st:Stmt) (t:bN):Prop where
 ok:PS X st (LS X t)
structure ie (X:Cx) (st:List Stmt) (t:bN):Prop where
 ok:Dx X st (LS X t)
def aO{X:Cx}{e:Expr}{t t':TE}(h:PE X e t)(k:∀σ H Q,t' σ H Q->t σ H Q):PE X e t':=fun pins s σ H Q I q=>h pins s σ H Q I (k σ H Q q)
def mU{X:Cx}{e:Expr}{t t':TT}(h:PT X e t)(k:∀σ H Q,t' σ H Q->t σ H Q):PT X e t':=fun pins s σ H Q I q=>h pins s σ H Q I (k σ H Q q)
def qJ{X:Cx}{e:Expr}{t t':TT}(h:PW X e t)(k:∀σ H Q,t' σ H Q->t σ H Q):PW X e t':=fun wh pins s σ H Q I q=>h wh pins s σ H Q I (k σ H Q q)
def c_{X:Cx}{e:Stmt}{t t':TS}(h:PS X e t)(k:∀D σ H,t' D σ H->t D σ H):PS X e t':=fun pins s σ H D I q=>h pins s σ H D I (k D σ H q)
def nR{X:Cx}{e:List Stmt}{t t':TS}(h:Dx X e t)(k:∀D σ H,t' D σ H->t D σ H):Dx X e t':=fun pins s σ H D I q=>h pins s σ H D I (k D σ H q)
section
variable {X:Cx} {a b c e o:Expr} {es:List Expr} {ta tb tc te:aV} {pos:Pos}
def v3(i:Nat):aV:=fun σ S Q _=>match lk σ i with|some p=>Q p S|none=>False
def ad(i:Nat){x:Str}(hN:X.N[i]?=some x:=by rfl)(hv:yI X.env.scope x:=by first|exact Or.inl rfl|exact Or.inr (Or.inl rfl)|exact Or.inr (Or.inr rfl))(hd:(x == ("__debug__":Str))=false:=by decide)
  (hcd:(x == ("__classdict__":Str))=false:=by decide):a_ X (.Name x pos) (v3 i):=
 ⟨aO (uY hN hv hd hcd) fun σ H Q ⟨σ3,S,Q3,E3,rσ,rS,h,xo,k⟩=>by
  unfold v3 at h
  split at h
  ·rename_i p e
   obtain⟨v,ev,rv⟩:=rσ.at' i p (qI e)
   exact⟨v,ev,k p S v H h rv rS .refl⟩
  ·exact h.elim⟩
def c3(p:PV):aV:=fun _ S Q _=>Q p S
def af{i:Int}{j:Nat}:a_ X (.Constant (.int i) j pos) (c3 (.int i)):=⟨aO uZ fun σ H Q ⟨σ3,S,Q3,E3,rσ,rS,h,xo,k⟩=>k _ S _ H h (.int i) rS .refl⟩
def tH{i:Bool}{j:Nat}:a_ X (.Constant (.bool i) j pos) (c3 (.bl i)):=⟨aO w9 fun σ H Q ⟨σ3,S,Q3,E3,rσ,rS,h,xo,k⟩=>k _ S _ H h (.bl i) rS .refl⟩
def ao{i:Str}{j:Nat}:a_ X (.Constant (.str i) j pos) (c3 (.str i)):=⟨aO u5 fun σ H Q ⟨σ3,S,Q3,E3,rσ,rS,h,xo,k⟩=>k _ S _ H h (.str i) rS .refl⟩
def lQ{j:Nat}:a_ X (.Constant .none j pos) (c3 .non):=⟨aO u4 fun σ H Q ⟨σ3,S,Q3,E3,rσ,rS,h,xo,k⟩=>k _ S _ H h .non rS .refl⟩
def zF{x:Str}{n:String}(hg:Gl X x)(hm:X.mg x=none)(hv:bootBuiltins x=some (.type n))(hn:x ≠ "__name__":=by decide)(hd:(x == ("__debug__":Str))=false:=by decide):a_ X (.Name x pos) (c3 (.ty n)):=
 ⟨aO (su (v:=.ty n) hg hm hv rfl hn hd) fun σ H Q ⟨σ3,S,Q3,E3,rσ,rS,h,xo,k⟩=>k _ S _ H h (.ty n) rS .refl⟩
noncomputable def am:List aV->Ap
 |[],_,S,Q,_=>Q [] S
 |t::ts,σ,S,Q,E=>t σ S (fun x S1=>am ts σ S1 (fun xs S2=>Q (x::xs) S2) E) E
noncomputable def yP:List TE->TA
 |[]=>xG
 |t::ts=>uA t (yP ts)
structure iV (X:Cx) (es:List Expr) (ts:List aV):Prop where
 ok:PA X es (yP (ts.map (LE X)))
def b4:iV X [] []:=⟨vv⟩
def qK{ts:List aV}(hs:starEach (e::es) X.env=(false,eval e X.env)::starEach es X.env)(ha:a_ X e te)(hr:iV X es ts):iV X (e::es) (te::ts):=⟨sK ha.ok hr.ok hs⟩
theorem bV:∀{ts:List aV} {σ:L2.St} {H:Hp} {Q:List V->Hp->Prop} {σ3:b3} {S:aq} {Q3:List PV->aq->Prop} {E3:cQ},AO X.K H σ σ3->AM X.K H S->am ts σ3 S Q3 E3->Ee X H E3->
  (∀ps S' vs H',ps.length=ts.length->Q3 ps S'->Reps X.K H' vs ps->AM X.K H' S'->Grow X.K H H'->Q vs H')->yP (ts.map (LE X)) σ H Q
 |[],σ,H,Q,σ3,S,Q3,E3,rσ,rS,h,xo,k=>k [] S [] H rfl h .nil rS .refl
 |t::ts,σ,H,Q,σ3,S,Q3,E3,rσ,rS,h,xo,k=>
  ⟨σ3,S,_,E3,rσ,rS,h,xo,fun p S1 v H1 h1 rv AQ g1=>bV (rσ.mono g1) AQ h1 (xo.mono g1) fun ps S2 vs H2 hl h2 GM B_ g2=>k (p::ps) S2 (v::vs) H2 (by rw[JB,JB,hl]) h2 (.cons (rv.mono g2) GM) B_ (g1.trans g2)⟩
def av(ts:List aV):aV:=fun σ S Q E=>am ts σ S (fun xs S1=>Q (.tup xs) S1) E
def aA{ts:List aV}{x1:Nat}(h:iV X es ts)(hn:ts.length<=1000:=by exact Ml rfl):a_ X (.Tuple es x1 pos) (av ts):=
 ⟨aO (vx h.ok) fun σ H Q ⟨σ3,S,Q3,E3,rσ,rS,hq,xo,k⟩=>bV rσ rS hq xo fun ps S' vs H' hl q rv Cl g=>
  ⟨L7 (dU (by rw[rv.length,hl];exact hn)),fun p hp=>k _ S' _ _ q (.tup (SqT.of ay) (rv.mono (.new hp))) (Cl.other hp) (g.trans (.new hp))⟩⟩
def bm(ts:List aV):aV:=fun σ S Q E=>am ts σ S (fun xs S1=>∀p,S1 p=none->Q (.ref p) (AH S1 p (.lst xs))) E
def bi{ts:List aV}(h:iV X es ts)(hn:ts.length<=1000:=by exact Ml rfl):a_ X (.List es pos) (bm ts):=
 ⟨aO (vy h.ok) fun σ H Q ⟨σ3,S,Q3,E3,rσ,rS,hq,xo,k⟩=>bV rσ rS hq xo fun ps S' vs H' hl q rv Cl g=>
  ⟨L7 (dU (by rw[rv.length,hl];exact hn)),fun p hp=>k _ _ _ _ (q p (Cl.free hp)) (.ref p) (Cl.new hp ⟨vs,ay,rv.mono (.new hp)⟩) (g.trans (.new hp))⟩⟩
abbrev R3:=PV->PV->aq->bM->Prop
inductive LR (X:Cx) (r:R3) (x y:V) (H:Hp) (Q:VK):Prop
 |mk (px py S Q3) (rx:Rep X.K H x px) (ry:Rep X.K H y py) (rS:AM X.K H S) (h:r px py S Q3) (k:Ef X.K H Q3 Q):LR X r x y H Q
structure ig (X:Cx) (f:Value->Value->Sem Value) (r:R3):Prop where
 ok:gq X f (LR X r)
def ah(r:R3)(ta tb:aV):aV:=fun σ S Q E=>ta σ S (fun x S1=>tb σ S1 (fun y S2=>r x y S2 Q) E) E
def i4{r:R3}{σ:L2.St}{H:Hp}{Q:VK}:LE X (ah r ta tb) σ H Q->xx (LR X r) (LE X ta) (LE X tb) σ H Q:=fun⟨σ3,S,Q3,E3,rσ,rS,h,xo,k⟩=>
 ⟨σ3,S,_,E3,rσ,rS,h,xo,fun x S1 v H1 h1 rx AQ g1=>⟨σ3,S1,_,E3,rσ.mono g1,AQ,h1,xo.mono g1,fun y S2 u H2 h2 ry B_ g2=>⟨x,y,S2,Q3,rx.mono g2,ry,B_,h2,k.mono (g1.trans g2)⟩⟩⟩
def aK{op:Operator}{r:R3}(ho:ig X (binaryOp op) r)(ha:a_ X a ta)(hb:a_ X b tb):a_ X (.BinOp a op b pos) (ah r ta tb):=⟨aO (xy ho.ok ha.ok hb.ok) fun _ _ _=>i4⟩
def gx{op:CmpOp}{r:R3}(ho:ig X (compareOp op) r)(ha:a_ X a ta)(hb:a_ X b tb)(hm:behindInMarks op b=false):a_ X (.Compare a [op] [b] pos) (ah r ta tb):=⟨aO (sI ho.ok ha.ok hb.ok hm) fun _ _ _=>i4⟩
def aS(t:aV):iJ:=fun σ S Q E=>t σ S (fun v S'=>match v with | .bl k=>Q k S'|_=>False) E
def qL{σ:L2.St}{H:Hp}{Q:Bool->Hp->Prop}:LT X (aS te) σ H Q->LE X te σ H (fun x H'=>∃k,x = .bl k/\Q k H'):=fun⟨σ3,S,Q3,E3,rσ,rS,h,xo,k⟩=>
 ⟨σ3,S,_,E3,rσ,rS,h,xo,fun p S' v H' h1 rv Cl g=>by
  cases p with
  |bl z=>cases rv;exact⟨z,rfl,k z S' H' h1 Cl g⟩
  |_=>exact h1.elim⟩
def bd{op:CmpOp}{r:R3}(ho:ig X (compareOp op) r)(ha:a_ X a ta)(hb:a_ X b tb)(hm:behindInMarks op b=false):mS X (.Compare a [op] [b] pos) (aS (ah r ta tb)):=
 ⟨mU (sJ ho.ok ha.ok hb.ok hm) fun σ H Q ⟨σ3,S,Q3,E3,rσ,rS,h,xo,k⟩=>i4 ⟨σ3,S,_,E3,rσ,rS,h,xo,fun p S' v H' h1 rv Cl g=>by
  cases p with
  |bl z=>cases rv;exact⟨z,rfl,k z S' H' h1 Cl g⟩
  |_=>exact h1.elim⟩⟩
def lR(h:a_ X e te)(he:∀whole,isTrue e X.env whole=(do let v <-whole;standAt e.pos;holding [v] (truthy v)):=by intro _;rfl):mS X e (aS te):=
 ⟨mU (u6 h.ok he) fun σ H Q q=>qL q⟩
end
section
variable {X:Cx} {a b c:Expr} {rest:List Expr} {ta tb te:aV} {tA tB:iJ} {pos:Pos}
def j1(t u:iJ):iJ:=fun σ S Q E=>t σ S (fun c S1=>if c=true then u σ S1 Q E else Q false S1) E
def jk(t u:iJ):iJ:=fun σ S Q E=>t σ S (fun c S1=>if c=true then Q true S1 else u σ S1 Q E) E
def mV(t:iJ):iJ:=fun σ S Q E=>t σ S (fun c S1=>Q (!c) S1) E
def mW(ha:mS X a tA):vZ X (.BoolOp .And [a] pos) tA:=⟨sv ha.ok⟩
def fL(ha:mS X a tA):vZ X (.BoolOp .Or [a] pos) tA:=⟨u7 ha.ok⟩
def nS(ha:mS X a tA)(hb:vZ X (.BoolOp .And (b::rest) pos) tB):vZ X (.BoolOp .And (a::b::rest) pos) (j1 tA tB):=
 ⟨qJ (u8 ha.ok hb.ok) fun σ H Q ⟨σ3,S,Q3,E3,rσ,rS,h,xo,k⟩=>⟨σ3,S,_,E3,rσ,rS,h,xo,fun c S1 H1 h1 AQ g1=>by
  cases c with
  |true=>rw[if_pos rfl]at h1 ⊢;exact⟨σ3,S1,Q3,E3,rσ.mono g1,AQ,h1,xo.mono g1,fun b S2 H2 h2 B_ g2=>k b S2 H2 h2 B_ (g1.trans g2)⟩
  |false=>rw[if_neg (by decide)]at h1 ⊢;exact k false S1 H1 h1 AQ g1⟩⟩
def jm(ha:mS X a tA)(hb:vZ X (.BoolOp .Or (b::rest) pos) tB):vZ X (.BoolOp .Or (a::b::rest) pos) (jk tA tB):=
 ⟨qJ (w_ ha.ok hb.ok) fun σ H Q ⟨σ3,S,Q3,E3,rσ,rS,h,xo,k⟩=>⟨σ3,S,_,E3,rσ,rS,h,xo,fun c S1 H1 h1 AQ g1=>by
  cases c with
  |true=>rw[if_pos rfl]at h1 ⊢;exact k true S1 H1 h1 AQ g1
  |false=>rw[if_neg (by decide)]at h1 ⊢;exact⟨σ3,S1,Q3,E3,rσ.mono g1,AQ,h1,xo.mono g1,fun b S2 H2 h2 B_ g2=>k b S2 H2 h2 B_ (g1.trans g2)⟩⟩⟩
def oX(h:vZ X a tA):mS X a tA:=⟨h.ok.pt⟩
def uH(ha:mS X a tA):mS X (.UnaryOp .Not a pos) (mV tA):=
 ⟨mU (u9 ha.ok) fun σ H Q ⟨σ3,S,Q3,E3,rσ,rS,h,xo,k⟩=>⟨σ3,S,_,E3,rσ,rS,h,xo,fun c S1 H1 h1 AQ g1=>k (!c) S1 H1 h1 AQ g1⟩⟩
def bP(t u:aV):aV:=fun σ S Q E=>t σ S (fun v S1=>match v with | .bl c=>if c=true then u σ S1 Q E else Q (.bl false) S1|_=>False) E
def j2(t u:aV):aV:=fun σ S Q E=>t σ S (fun v S1=>match v with | .bl c=>if c=true then Q (.bl true) S1 else u σ S1 Q E|_=>False) E
def kr(t:aV):aV:=fun σ S Q E=>t σ S (fun v S1=>match v with | .bl c=>Q (.bl (!c)) S1|_=>False) E
def kw{op:BoolOp}(h:a_ X a ta):a_ X (.BoolOp op [a] pos) ta:=⟨u_ h.ok⟩
def ky(ha:a_ X a ta)(hb:a_ X (.BoolOp .And (b::rest) pos) tb):a_ X (.BoolOp .And (a::b::rest) pos) (bP ta tb):=
 ⟨aO (va ha.ok hb.ok) fun σ H Q ⟨σ3,S,Q3,E3,rσ,rS,h,xo,k⟩=>⟨σ3,S,_,E3,rσ,rS,h,xo,fun p S1 v H1 h1 rv AQ g1=>by
  cases p with
  |bl z=>
   cases rv
   refine⟨z,rfl,?_⟩
   cases z with
   |true=>rw[if_pos rfl];exact⟨σ3,S1,Q3,E3,rσ.mono g1,AQ,h1,xo.mono g1,k.mono g1⟩
   |false=>rw[if_neg (by decide)];exact k _ S1 _ H1 h1 (.bl false) AQ g1
  |_=>exact h1.elim⟩⟩
def zG(ha:a_ X a ta)(hb:a_ X (.BoolOp .Or (b::rest) pos) tb):a_ X (.BoolOp .Or (a::b::rest) pos) (j2 ta tb):=
 ⟨aO (xh ha.ok hb.ok) fun σ H Q ⟨σ3,S,Q3,E3,rσ,rS,h,xo,k⟩=>⟨σ3,S,_,E3,rσ,rS,h,xo,fun p S1 v H1 h1 rv AQ g1=>by
  cases p with
  |bl z=>
   cases rv
   refine⟨z,rfl,?_⟩
   cases z with
   |true=>rw[if_pos rfl];exact k _ S1 _ H1 h1 (.bl true) AQ g1
   |false=>rw[if_neg (by decide)];exact⟨σ3,S1,Q3,E3,rσ.mono g1,AQ,h1,xo.mono g1,k.mono g1⟩
  |_=>exact h1.elim⟩⟩
def xV(ha:a_ X a ta):a_ X (.UnaryOp .Not a pos) (kr ta):=
 ⟨aO (vb ha.ok) fun σ H Q ⟨σ3,S,Q3,E3,rσ,rS,h,xo,k⟩=>⟨σ3,S,_,E3,rσ,rS,h,xo,fun p S1 v H1 h1 rv AQ g1=>by
  cases p with
  |bl z=>cases rv;exact⟨z,rfl,k _ S1 _ H1 h1 (.bl _) AQ g1⟩
  |_=>exact h1.elim⟩⟩
def oY(t:iJ)(ta tb:aV):aV:=fun σ S Q E=>t σ S (fun c S1=>if c=true then ta σ S1 Q E else tb σ S1 Q E) E
def uI(hc:mS X c tA)(ha:a_ X a ta)(hb:a_ X b tb):a_ X (.IfExp c a b pos) (oY tA ta tb):=
 ⟨aO (pU hc.ok ha.ok hb.ok) fun σ H Q ⟨σ3,S,Q3,E3,rσ,rS,h,xo,k⟩=>⟨σ3,S,_,E3,rσ,rS,h,xo,fun c S1 H1 h1 AQ g1=>by
  cases c with
  |true=>rw[if_pos rfl]at h1 ⊢;exact⟨σ3,S1,Q3,E3,rσ.mono g1,AQ,h1,xo.mono g1,k.mono g1⟩
  |false=>rw[if_neg (by decide)]at h1 ⊢;exact⟨σ3,S1,Q3,E3,rσ.mono g1,AQ,h1,xo.mono g1,k.mono g1⟩⟩⟩
abbrev xW:=PV->aq->bM->Prop
noncomputable def Aq(X:Cx)(r:xW):V->Hp->VK->Prop:=fun x H Q=>∃px S Q3,Rep X.K H x px/\AM X.K H S/\r px S Q3/\Ef X.K H Q3 Q
structure Ac (X:Cx) (f:Value->Sem Value) (r:xW):Prop where
 ok:yL X f (Aq X r)
def dG(r:xW)(ta:aV):aV:=fun σ S Q E=>ta σ S (fun x S1=>r x S1 Q) E
def d6{op:UnaryOp}{r:xW}(ho:Ac X (unaryOp op) r)(ha:a_ X a ta):a_ X (.UnaryOp op a pos) (dG r ta):=
 ⟨aO (xz ho.ok ha.ok) fun σ H Q ⟨σ3,S,Q3,E3,rσ,rS,h,xo,k⟩=>⟨σ3,S,_,E3,rσ,rS,h,xo,fun p S1 v H1 h1 rv AQ g1=>⟨p,S1,Q3,rv,AQ,h1,k.mono g1⟩⟩⟩
noncomputable def bn:xW:=fun x S Q=>match x with | .int i=>Q (.int (-i)) S|_=>False
def br:Ac X (unaryOp .USub) bn:=⟨fun pins s σ H x v Q I rx ⟨px,S,Q3,r1,rS,h,k⟩=>by
 cases px with
 |int i=>cases r1;exact vt pins s σ H _ v Q I rx ⟨i,rfl,k _ S _ H h (.int _) rS .refl⟩
 |_=>exact h.elim⟩
end
section
variable {X:Cx}
def d8(g:Int->Int->PV):R3:=fun x y S Q=>match x,y with | .int i,.int j=>Q (g i j) S|_,_=>False
def fM(C:Int->Int->Prop)(g:Int->Int->PV):R3:=fun x y S Q=>match x,y with | .int i,.int j=>C i j/\Q (g i j) S|_,_=>False
def v5{f:Value->Value->Sem Value}{g:Int->Int->Int}(h:gq X f (sF fun i j=>.int (g i j))):ig X f (d8 fun i j=>.int (g i j)):=⟨fun pins s σ H x y v u Q I rx ry ⟨px,py,S,Q3,r1,r2,rS,q,k⟩=>by
 cases px with
 |int i=>
  cases py with
  |int j=>cases r1;cases r2;exact h pins s σ H _ _ v u Q I rx ry ⟨i,j,rfl,rfl,k _ S _ H q (.int _) rS .refl⟩
  |_=>exact q.elim
 |_=>exact q.elim⟩
def k9{f:Value->Value->Sem Value}{g:Int->Int->Bool}(h:gq X f (sF fun i j=>.bl (g i j))):ig X f (d8 fun i j=>.bl (g i j)):=⟨fun pins s σ H x y v u Q I rx ry ⟨px,py,S,Q3,r1,r2,rS,q,k⟩=>by
 cases px with
 |int i=>
  cases py with
  |int j=>cases r1;cases r2;exact h pins s σ H _ _ v u Q I rx ry ⟨i,j,rfl,rfl,k _ S _ H q (.bl _) rS .refl⟩
  |_=>exact q.elim
 |_=>exact q.elim⟩
def k_{f:Value->Value->Sem Value}{C:Int->Int->Prop}{g:Int->Int->Int}(h:gq X f (rI C fun i j=>.int (g i j))):ig X f (fM C fun i j=>.int (g i j)):=⟨fun pins s σ H x y v u Q I rx ry ⟨px,py,S,Q3,r1,r2,rS,q,k⟩=>by
 cases px with
 |int i=>
  cases py with
  |int j=>cases r1;cases r2;exact h pins s σ H _ _ v u Q I rx ry ⟨i,j,rfl,rfl,q.1,k _ S _ H q.2 (.int _) rS .refl⟩
  |_=>exact q.elim
 |_=>exact q.elim⟩
def lS(i j:Int):Prop:=j≠0/\j.natAbs < 2 ^ 8000
def mX{n:Nat}(h:n < 2 ^ 8000):n.log2 < 9000:=by
 by_cases z:n=0
 ·rw[z];decide +kernel
 ·exact MS ((Nat.log2_lt z).mpr h) (by decide)
def v6:ig X (binaryOp .Sub) (d8 fun i j=>.int (i - j)):=v5 vp
def v7:ig X (binaryOp .Mod) (fM (fun _ j=>j≠0) fun i j=>.int (i.fmod j)):=k_ sG
def tI:ig X (binaryOp .FloorDiv) (fM lS fun i j=>.int (i.fdiv j)):=k_ (yM fun _ _ _ _ _ _ _ hc q=>PyProof.Rows.floordiv_int hc.1 q (.inl (PyProof.noPylong_of_log2 (mX hc.2))))
def v8:ig X (binaryOp .Pow) (fM vn fun i j=>.int (i ^ j.toNat)):=k_ vq
def xX:ig X (compareOp .Lt) (d8 fun i j=>.bl (decide (i < j))):=k9 xC
def xY:ig X (compareOp .Gt) (d8 fun i j=>.bl (decide (j < i))):=k9 xD
def xZ:ig X (compareOp .GtE) (d8 fun i j=>.bl (decide (j<=i))):=k9 xE
end
end L3
namespace L2
open PySem PySem.Spec PyProof.Rows
section
variable {X:Cx}
def x_(K:Vo):R2:=fun x y H Q=>∃a b xs ys,x = .ref a/\y = .ref b/\SqT K H a xs/\SqT K H b ys/\xs.length+ys.length<=sizeLine/\∀r H',(∀c o,H c=some o->H' c=some o)->SqT K H' r (xs++ys)->Q (.ref r) H'
def tJ:gq X (binaryOp .Add) (x_ X.K):=by
 intro pins s σ H x y v u Q I rx ry h
 obtain⟨a,b,xs,ys,rfl,rfl,ha,hb,hz,q⟩:=h
 by_cases hx:xs=[]
 ·subst hx
  cases rx
  cases ry
  obtain⟨its,r1,p1,_⟩:=I.tuple ha
  obtain⟨its2,r2,p2,_⟩:=I.tuple hb
  cases r1
  obtain⟨⟨cls,dd,data,sl⟩,ho,hc,n,hd⟩:=id p1
  obtain⟨⟨Gz,dd2,data2,sl2⟩,ho2,hc2,n2,hd2⟩:=id p2
  simp only at hc hd hc2 hd2
  subst hc hd hc2 hd2
  exact concat_meets ⟨_,ho,rfl⟩ ⟨_,ho2,rfl⟩ noFill_tuple_add seq_tuple_add Ma L5 (LU _ _)
   (tuple_addW0 a b _ its2.toArray n n2 dd dd2 sl sl2 rfl) ⟨ho,ho2,⟨.ref b,H,I,rfl,q b H (fun _ _ e=>e) hb⟩⟩
 ·exact sQ pins s σ H _ _ v u Q I rx ry ⟨a,b,xs,ys,rfl,rfl,ha,hb,hx,hz,fun e=>q a H (fun _ _ e=>e) (by rw[e,JN];exact ha),
   fun _ p hp=>q p _ (fun c o e=>by rw[ax (aU e hp)];exact e) (SqT.of ay)⟩
end
end L2
namespace L3
open PySem L2
section
variable {X:Cx}
def aW:R3:=fun x y S Q=>match x,y with
 | .int i,.int j=>Q (.int (i+j)) S
 | .str i,.str j=>i.length+j.length<=sizeLine/\Q (.str (i++j)) S
 | .tup i,.tup j=>i.length+j.length<=sizeLine/\Q (.tup (i++j)) S
 | .ref i,.ref j=>match S i,S j with
  |some (.lst xs),some (.lst ys)=>xs.length+ys.length<=sizeLine/\∀p,S p=none->Q (.ref p) (AH S p (.lst (xs++ys)))
  |_,_=>False
 |_,_=>False
def aI:ig X (binaryOp .Add) aW:=⟨fun pins s σ H x y v u Q I rx ry ⟨px,py,S,Q3,r1,r2,rS,q,k⟩=>by
 unfold aW at q
 split at q
 ·cases r1;cases r2
  exact vo pins s σ H _ _ v u Q I rx ry ⟨_,_,rfl,rfl,k _ S _ H q (.int _) rS .refl⟩
 ·cases r1;cases r2
  exact mH pins s σ H _ _ v u Q I rx ry ⟨_,_,rfl,rfl,q.1,k _ S _ H q.2 (.str _) rS .refl⟩
 ·cases r1 with
  |tup h1 s1=>
   cases r2 with
   |tup h2 s2=>
    refine tJ pins s σ H _ _ v u Q I rx ry ⟨_,_,_,_,rfl,rfl,h1,h2,by rw[s1.length,s2.length];exact q.1,fun r H' hs hr=>?_⟩
    exact k _ S _ H' q.2 (.tup hr ((s1.mono (.same hs)).append (s2.mono (.same hs)))) (rS.grow hs) (.same hs)
 ·cases r1;cases r2
  split at q
  ·rename_i i j xs ys e1 e2
   obtain⟨vs,h1,s1⟩:=rS _ _ e1
   obtain⟨us,h2,s2⟩:=rS _ _ e2
   exact vI pins s σ H _ _ v u Q I rx ry ⟨_,_,_,_,rfl,rfl,h1,h2,by rw[s1.length,s2.length];exact q.1,fun p hp=>k _ _ _ _ (q.2 p (rS.free hp)) (.ref p) (rS.new hp ⟨_,ay,(s1.append s2).mono (.new hp)⟩) (.new hp)⟩
  ·exact q.elim
 ·exact q.elim⟩
end
mutual
inductive Dat (S:aq):PV->PyData->Prop
 |non:Dat S .non .none
 |bl (b:Bool):Dat S (.bl b) (.bool b)
 |int (i:Int):Dat S (.int i) (.int i)
 |str (x:Str):Dat S (.str x) (.str x)
 |tup {ps:List PV} {ds:List PyData}:Co S ps ds->Dat S (.tup ps) (.tuple ds)
 |cl {ps:List PV} {ds:List PyData}:Co S ps ds->Dat S (.cl ps) (.list ds)
 |ref {a:Addr} {ps:List PV} {ds:List PyData}:S a=some (.lst ps)->Co S ps ds->Dat S (.ref a) (.list ds)
inductive Co (S:aq):List PV->List PyData->Prop
 |nil:Co S [] []
 |cons {p:PV} {d:PyData} {ps:List PV} {ds:List PyData}:Dat S p d->Co S ps ds->Co S (p::ps) (d::ds)
end
section
variable {X:Cx} {pins:Va} {σ:L2.St} {H:Hp} {s:Shared} {S:aq}
def mY(I:Inv X pins σ H s)(rS:AM X.K H S):(∀{p:PV} {d:PyData},Dat S p d->∀{v:V} {u:Value},Rep X.K H v p->RelV v u->∃as,Reads s.heap u d as)/\∀{ps:List PV} {ds:List PyData},Co S ps ds->∀{vs:List V} {us:Vv},Reps X.K H vs ps->Vals vs us->∃as,ReadsAll s.heap us ds as:=by
 have one:=@Dat.rec S (motive_1:=fun p d _=>∀{v:V} {u:Value},Rep X.K H v p->RelV v u->∃as,Reads s.heap u d as) (motive_2:=fun ps ds _=>∀{vs:List V} {us:Vv},Reps X.K H vs ps->Vals vs us->∃as,ReadsAll s.heap us ds as)
 have two:=@Co.rec S (motive_1:=fun p d _=>∀{v:V} {u:Value},Rep X.K H v p->RelV v u->∃as,Reads s.heap u d as) (motive_2:=fun ps ds _=>∀{vs:List V} {us:Vv},Reps X.K H vs ps->Vals vs us->∃as,ReadsAll s.heap us ds as)
 have c1:∀{v:V} {u:Value},Rep X.K H v .non->RelV v u->∃as,Reads s.heap u .none as:=fun h r=>by cases h;cases r;exact⟨_,.none⟩
 have c2:∀(b:Bool) {v:V} {u:Value},Rep X.K H v (.bl b)->RelV v u->∃as,Reads s.heap u (.bool b) as:=fun b _ _ h r=>by cases h;cases r;exact⟨_,.bool b⟩
 have c3:∀(i:Int) {v:V} {u:Value},Rep X.K H v (.int i)->RelV v u->∃as,Reads s.heap u (.int i) as:=fun i _ _ h r=>by cases h;obtain⟨t,rfl⟩:=r;exact⟨_,.int i t⟩
 have c4:∀(x:Str) {v:V} {u:Value},Rep X.K H v (.str x)->RelV v u->∃as,Reads s.heap u (.str x) as:=fun x _ _ h r=>by cases h;obtain⟨t,rfl⟩:=r;exact⟨_,.str x t⟩
 have c5:∀{ps:List PV} {ds:List PyData},Co S ps ds->(∀{vs:List V} {us:Vv},Reps X.K H vs ps->Vals vs us->∃as,ReadsAll s.heap us ds as)->∀{v:V} {u:Value},Rep X.K H v (.tup ps)->RelV v u->∃as,Reads s.heap u (.tuple ds) as:=fun _ ih _ _ h r=>by
  cases h with
  |tup h rs=>
   cases r
   obtain⟨its,rv,⟨o,ho,hc,n,hd⟩,hz⟩:=I.tuple h
   obtain⟨as,q⟩:=ih rs rv
   exact⟨as,.tuple ho hc hd (by simpa using q)⟩
 have c6:∀{ps:List PV} {ds:List PyData},Co S ps ds->(∀{vs:List V} {us:Vv},Reps X.K H vs ps->Vals vs us->∃as,ReadsAll s.heap us ds as)->∀{v:V} {u:Value},Rep X.K H v (.cl ps)->RelV v u->∃as,Reads s.heap u (.list ds) as:=fun _ ih _ _ h r=>by
  cases h with
  |cl h rs=>
   cases r
   obtain⟨its,rv,⟨o,n,ho,hc,_,hd⟩,hz⟩:=I.list h.sq
   obtain⟨as,q⟩:=ih rs rv
   exact⟨_,.list ho hc hd (by simpa using q)⟩
 have c7:∀{a:Addr} {ps:List PV} {ds:List PyData},S a=some (.lst ps)->Co S ps ds->(∀{vs:List V} {us:Vv},Reps X.K H vs ps->Vals vs us->∃as,ReadsAll s.heap us ds as)->∀{v:V} {u:Value},Rep X.K H v (.ref a)->RelV v u->∃as,Reads s.heap u (.list ds) as:=fun e _ ih _ _ h r=>by
  cases h
  cases r
  obtain⟨vs,hv,rs⟩:=rS _ _ e
  obtain⟨its,rv,⟨o,n,ho,hc,_,hd⟩,hz⟩:=I.list (SqL.of hv)
  obtain⟨as,q⟩:=ih rs rv
  exact⟨_,.list ho hc hd (by simpa using q)⟩
 have c8:∀{vs:List V} {us:Vv},Reps X.K H vs []->Vals vs us->∃as,ReadsAll s.heap us [] as:=fun h r=>by cases h;cases r;exact⟨_,.nil⟩
 have c9:∀{p:PV} {d:PyData} {ps:List PV} {ds:List PyData},Dat S p d->Co S ps ds->(∀{v:V} {u:Value},Rep X.K H v p->RelV v u->∃as,Reads s.heap u d as)->(∀{vs:List V} {us:Vv},Reps X.K H vs ps->Vals vs us->∃as,ReadsAll s.heap us ds as)->∀{vs:List V} {us:Vv},Reps X.K H vs (p::ps)->Vals vs us->∃as,ReadsAll s.heap us (d::ds) as:=fun _ _ i1 i2 _ _ h r=>by
  cases h with
  |cons a rs=>
   cases r with
   |cons r1 r2=>
    obtain⟨as,q⟩:=i1 a r1
    obtain⟨bs,q2⟩:=i2 rs r2
    exact⟨_,.cons q q2⟩
 exact⟨fun h=>one c1 c2 c3 c4 c5 c6 c7 c8 c9 h,fun h=>two c1 c2 c3 c4 c5 c6 c7 c8 c9 h⟩
def Dat.reads(I:Inv X pins σ H s)(rS:AM X.K H S){p:PV}{d:PyData}{v:V}{u:Value}(h:Dat S p d)(r:Rep X.K H v p)(r2:RelV v u):∃as,Reads s.heap u d as:=(mY I rS).1 h r r2
end
section
variable {X:Cx}
def bc(neg:Bool):R3:=fun x y S Q=>match x,y with
 | .int i,.int j=>Q (.bl (neg != decide (i=j))) S
 | .str i,.str j=>Q (.bl (neg != decide (i=j))) S
 | .bl i,.bl j=>Q (.bl (neg != decide (i=j))) S
 |x,y=>∃d d',Dat S x d/\Dat S y d'/\d.canLay0=true/\d'.canLay0=true/\min d.depth d'.depth<=150/\Q (.bl (neg != PyData.eqv d d')) S
def jo(hu:X.A.units+150 < cLine):ig X (compareOp .Eq) (bc false):=⟨fun pins s σ H x y v u Q I rx ry ⟨px,py,S,Q3,r1,r2,rS,q,k⟩=>by
 unfold bc at q
 split at q
 ·cases r1;cases r2
  exact p7 pins s σ H _ _ v u Q I rx ry ⟨rfl,k _ S _ H (by simpa using q) (.bl _) rS .refl⟩
 ·cases r1;cases r2
  exact p7 pins s σ H _ _ v u Q I rx ry ⟨rfl,k _ S _ H (by simpa using q) (.bl _) rS .refl⟩
 ·cases r1;cases r2
  exact p7 pins s σ H _ _ v u Q I rx ry ⟨rfl,k _ S _ H (by simpa using q) (.bl _) rS .refl⟩
 ·obtain⟨d,d',h1,h2,c1,c2,hd,q⟩:=q
  obtain⟨as,a1⟩:=h1.reads I rS r1 rx
  obtain⟨bs,a2⟩:=h2.reads I rS r2 ry
  exact SeqAt.compareEq_reads a1 a2 c1 c2 (by omega) ⟨.bl _,H,I,rfl,k _ S _ H (by simpa using q) (.bl _) rS .refl⟩⟩
def uJ(hu:X.A.units+150 < cLine):ig X (compareOp .NotEq) (bc true):=⟨fun pins s σ H x y v u Q I rx ry ⟨px,py,S,Q3,r1,r2,rS,q,k⟩=>by
 unfold bc at q
 split at q
 ·cases r1;cases r2
  exact p8 pins s σ H _ _ v u Q I rx ry ⟨rfl,k _ S _ H (by simpa using q) (.bl _) rS .refl⟩
 ·cases r1;cases r2
  exact p8 pins s σ H _ _ v u Q I rx ry ⟨rfl,k _ S _ H (by simpa using q) (.bl _) rS .refl⟩
 ·cases r1;cases r2
  exact p8 pins s σ H _ _ v u Q I rx ry ⟨rfl,k _ S _ H (by simpa using q) (.bl _) rS .refl⟩
 ·obtain⟨d,d',h1,h2,c1,c2,hd,q⟩:=q
  obtain⟨as,a1⟩:=h1.reads I rS r1 rx
  obtain⟨bs,a2⟩:=h2.reads I rS r2 ry
  exact SeqAt.compareNe_reads a1 a2 c1 c2 (by omega) ⟨.bl _,H,I,rfl,k _ S _ H (by simpa using q) (.bl _) rS .refl⟩⟩
def qM(neg:Bool):R3:=fun x y S Q=>match y with
 | .non=>Q (.bl (neg != match x with | .non=>true|_=>false)) S
 | .bl true=>match x with | .bl true=>Q (.bl (neg != true)) S|_=>False
 |_=>False
def lU:ig X (compareOp .IsNot) (qM true):=⟨fun pins s σ H x y v u Q I rx ry ⟨px,py,S,Q3,r1,r2,rS,q,k⟩=>by
 unfold qM at q
 split at q
 ·cases r2
  refine sH pins s σ H _ _ v u Q I rx ry ⟨rfl,?_⟩
  cases r1<;>exact k _ S _ H (by simpa using q) (.bl _) rS .refl
 ·cases r2
  split at q
  ·cases r1
   exact oV pins s σ H _ _ v u Q I rx ry ⟨rfl,rfl,k _ S _ H (by simpa using q) (.bl _) rS .refl⟩
  ·exact q.elim
 ·exact q.elim⟩
noncomputable def lV(S:aq):PV->Option (List PV)
 | .tup xs=>some xs
 | .cl xs=>some xs
 | .ref a=>match S a with|some (.lst xs)=>some xs|_=>none
 |_=>none
def v9{H:Hp}{S:aq}{v:V}{p:PV}{xs:List PV}(rS:AM X.K H S)(r:Rep X.K H v p)(h:lV S p=some xs):∃a vs,v = .ref a/\(SqL X.K H a vs\/SqT X.K H a vs)/\Reps X.K H vs xs:=by
 unfold lV at h
 split at h
 ·cases h;cases r with|tup h1 rs=>exact⟨_,_,rfl,.inr h1,rs⟩
 ·cases h;cases r with|cl h1 rs=>exact⟨_,_,rfl,.inl h1.sq,rs⟩
 ·cases r
  split at h
  ·rename_i e
   cases h
   obtain⟨vs,hv,rs⟩:=rS _ _ e
   exact⟨_,vs,rfl,.inl (SqL.of hv),rs⟩
  ·cases h
 ·cases h
noncomputable def iK(x:PyData)(xs:List PyData):Bool:=xs.any fun y=>PyData.eqv y x
def iL(neg:Bool):R3:=fun x y S Q=>match x,y with
 | .str i,.str j=>Q (.bl (neg != !(Builtin.Str.occurrences j i 0 j.length 1).isEmpty)) S
 |x,y=>match y with
  | .ref a=>match S a with
   |some (.lst xs)=>∃d ds,Dat S x d/\Co S xs ds/\d.canLay0=true/\PyData.canLayAll0 ds=true/\d.depth<=150/\Q (.bl (neg != iK d ds)) S
   |some (.dct kvs)=>match x with
    | .str z=>Q (.bl (neg != (kvs.any fun kv=>decide (kv.1=Sum.inr z)))) S
    | .int z=>Q (.bl (neg != (kvs.any fun kv=>decide (kv.1=Sum.inl z)))) S
    |_=>False
   |_=>False
  | .tup xs=>∃d ds,Dat S x d/\Co S xs ds/\d.canLay0=true/\PyData.canLayAll0 ds=true/\d.depth<=150/\Q (.bl (neg != iK d ds)) S
  |_=>False
theorem AX.any{K:Vo}{H:Hp}{κ:Type} [DecidableEq κ](k:κ):∀{vs:List (κ×V)} {ps:List (κ×PV)},AX K H vs ps->(fD vs k).isSome=ps.any fun kv=>decide (kv.1=k)
 |_,_,.nil=>rfl
 |_,_,.cons (k:=k') a r=>by
  rw[Mt,<-AX.any k r]
  by_cases e:k'=k
  ·rw[BX e];simp[e]
  ·rw[BB e];simp[e]
def gy(hu:X.A.units+160 < cLine):ig X (compareOp .In) (iL false):=⟨fun pins s σ H x y v u Q I rx ry ⟨px,py,S,Q3,r1,r2,rS,q,k⟩=>by
 unfold iL at q
 split at q
 ·cases r1;cases r2
  exact oA pins s σ H _ _ v u Q I rx ry ⟨_,_,rfl,rfl,k _ S _ H (by simpa using q) (.bl _) rS .refl⟩
 ·split at q
  ·cases r2
   cases ry
   split at q
   ·rename_i xs e
    obtain⟨d,ds,h1,h2,c1,c2,hd,q⟩:=q
    obtain⟨as,a1⟩:=h1.reads I rS r1 rx
    obtain⟨bs,a2⟩:=(Dat.ref e h2).reads I rS (.ref _) (rfl:RelV (.ref _) (.ref _))
    exact SeqAt.in_list_reads a2 a1 c2 c1 (by omega) ⟨.bl _,H,I,rfl,k _ S _ H (by simpa [iK]using q) (.bl _) rS .refl⟩
   ·rename_i kvs e
    obtain⟨kv,hv,rk⟩:=rS _ _ e
    split at q
    ·cases r1
     exact xO (by omega) I (DGet.k (k:=Sum.inr _) hv) rx fun s3 I3=>⟨.bl _,H,I3,rfl,k _ S _ H (by rw[rk.any];simpa using q) (.bl _) rS .refl⟩
    ·cases r1
     exact xO (by omega) I (DGet.k (k:=Sum.inl _) hv) rx fun s3 I3=>⟨.bl _,H,I3,rfl,k _ S _ H (by rw[rk.any];simpa using q) (.bl _) rS .refl⟩
    ·exact q.elim
   ·exact q.elim
  ·rename_i xs
   obtain⟨d,ds,h1,h2,c1,c2,hd,q⟩:=q
   obtain⟨as,a1⟩:=h1.reads I rS r1 rx
   obtain⟨bs,a2⟩:=(Dat.tup h2).reads I rS r2 ry
   exact SeqAt.in_tuple_reads a2 a1 c2 c1 (by omega) ⟨.bl _,H,I,rfl,k _ S _ H (by simpa [iK]using q) (.bl _) rS .refl⟩
  ·exact q.elim⟩
def gA(hu:X.A.units+160 < cLine):ig X (compareOp .NotIn) (iL true):=⟨fun pins s σ H x y v u Q I rx ry ⟨px,py,S,Q3,r1,r2,rS,q,k⟩=>by
 unfold iL at q
 split at q
 ·cases r1;cases r2
  exact kU pins s σ H _ _ v u Q I rx ry ⟨_,_,rfl,rfl,k _ S _ H (by simpa using q) (.bl _) rS .refl⟩
 ·split at q
  ·cases r2
   cases ry
   split at q
   ·rename_i xs e
    obtain⟨d,ds,h1,h2,c1,c2,hd,q⟩:=q
    obtain⟨as,a1⟩:=h1.reads I rS r1 rx
    obtain⟨bs,a2⟩:=(Dat.ref e h2).reads I rS (.ref _) (rfl:RelV (.ref _) (.ref _))
    exact SeqAt.notIn_list_reads a2 a1 c2 c1 (by omega) ⟨.bl _,H,I,rfl,k _ S _ H (by simpa [iK]using q) (.bl _) rS .refl⟩
   ·rename_i kvs e
    obtain⟨kv,hv,rk⟩:=rS _ _ e
    split at q
    ·cases r1
     exact nO (by omega) I (DGet.k (k:=Sum.inr _) hv) rx fun s3 I3=>⟨.bl _,H,I3,rfl,k _ S _ H (by rw[rk.any];simpa using q) (.bl _) rS .refl⟩
    ·cases r1
     exact nO (by omega) I (DGet.k (k:=Sum.inl _) hv) rx fun s3 I3=>⟨.bl _,H,I3,rfl,k _ S _ H (by rw[rk.any];simpa using q) (.bl _) rS .refl⟩
    ·exact q.elim
   ·exact q.elim
  ·rename_i xs
   obtain⟨d,ds,h1,h2,c1,c2,hd,q⟩:=q
   obtain⟨as,a1⟩:=h1.reads I rS r1 rx
   obtain⟨bs,a2⟩:=(Dat.tup h2).reads I rS r2 ry
   exact SeqAt.notIn_tuple_reads a2 a1 c2 c1 (by omega) ⟨.bl _,H,I,rfl,k _ S _ H (by simpa [iK]using q) (.bl _) rS .refl⟩
  ·exact q.elim⟩
end
end L3
namespace HT
open PySem PySem.Spec PyProof.Rows
section
variable {prog:Program} {w:World} {A:Around} {E:Vq} {s:Shared}
def gB{t sl:Addr}{items:Vw}{vl vu:Value}{lo hi:Option Int}{Q:Vq}(ht:IsTup s.heap t items)(hs:s.heap.IsSliceOf sl vl vu .none)(pl:IsPart vl lo)(pu:IsPart vu hi)
  (hw:A1 items.size 0 lo=0/\A1 items.size items.size hi=items.size)
  (h:Q (.ref t) s):wpAny (model prog w) A (getItem (.ref t) (.ref sl)) Q E s:=by
 obtain⟨os,hos,hcs,hds⟩:=id hs
 have GA:s.TypeIs (.ref sl) "slice":=⟨os,hos,hcs⟩
 unfold getItem
 try with_reducible refine KQ ?_
 first|refine Ji (Jp ?_)|skip
 refine Ji (wpAny_sequenceKey ht.typeIs (by decide) ?_)
 refine Ji (Ka (name:=Str.ofString "__getitem__") ht.typeIs J3
  (KL J3 ht.typeIs entry_tuple_getitem ?_ (args_tuple_getitem _ _)))
 show wpAny _ _ (Builtin.Tuple.tupleItemsOf (.ref t) >>= _) _ _ s
 refine Ji (tupleItemsOf_ ht ?_)
 refine Ji (Mb GA ?_)
 rw[if_pos (by decide)]
 refine Ji (dS hs pl pu ?_)
 have hyes:(((A1 items.size 0 lo:Nat):Int) == 0&&(1:Int) == 1&&(A1 items.size items.size hi - A1 items.size 0 lo) == items.size)=true:=by
  rw[hw.1,hw.2];simp
 show wpAny _ _ (if (((A1 items.size 0 lo:Nat):Int) == 0&&(1:Int) == 1&&(A1 items.size items.size hi - A1 items.size 0 lo) == items.size)=true then _ else _) _ _ s
 rw[if_pos hyes]
 unfold Builtin.Tuple.tupleIsExact
 refine Ji (Ji (Mb ht.typeIs (Jp ?_)))
 rw[if_pos (by decide)]
 first
  |exact Ji (L0 (Jp ⟨_,rfl,Jp h⟩))
  |exact Ji (L0 (Ji (Jp (Jp ⟨_,rfl,Jp h⟩))))
  |exact Ji (L0 (Ji (Jp ⟨_,rfl,Jp h⟩)))
end
end HT
namespace L2
open PySem PySem.Spec PyProof.Rows
section
variable {X:Cx}
noncomputable def ya(K:Vo):V->Option Int->Option Int->Hp->VK->Prop:=fun x lo hi H Q=>∃a xs,x = .ref a/\SqT K H a xs/\∀r H',(∀c o,H c=some o->H' c=some o)->SqT K H' r (jd xs lo hi)->Q (.ref r) H'
def tK:wR X (ya X.K):=by
 intro pins s σ H x v vl vu lo hi sl Q I rx hs pl pu h
 obtain⟨a,xs,rfl,hx,q⟩:=h
 by_cases hw:HT.A1 xs.length 0 lo=0/\HT.A1 xs.length xs.length hi=xs.length
 ·cases rx
  obtain⟨its,r,ht,hz⟩:=I.tuple hx
  have hlen:its.toArray.size=xs.length:=by rw[Jo];exact r.length.symm
  refine⟨"tuple",_,J3.lookup,ht.typeIs,HT.gB ht hs pl pu (by rw[hlen];exact hw) ⟨.ref a,H,I,rfl,q a H (fun _ _ e=>e) ?_⟩⟩
  have e:jd xs lo hi=xs:=by unfold jd;rw[hw.1,hw.2];simp
  rw[e];exact hx
 ·exact vB pins s σ H _ v vl vu lo hi sl Q I rx hs pl pu ⟨a,xs,rfl,hx,hw,fun p hp=>q p _ (fun c o e=>by rw[ax (aU e hp)];exact e) (SqT.of ay)⟩
def tL(hu:X.A.units+1 < cLine):wS X (fun x y H Q=>∃a v,x = .ref a/\DGet H a y (some v)/\Q v H):=by
 intro value slice pins s σ H x y v u Q I rx ry h hs
 obtain⟨a,z,rfl,g,q⟩:=h
 cases rx
 exact tail_any (lM I g) PySem.F.slot_dict_getitem.lookup (oH hu I g ry fun w' s3 I3 rw'=>⟨z,H,I3,rw',q⟩) hs
def qN(hu:X.A.units+1 < cLine):sB X (fun o i v H Q=>∃a H',o = .ref a/\El H a i v H'/\Q H'):=by
 intro pins s σ H o i v ov iv u Q I ro ri rv h
 obtain⟨a,H',rfl,g,q⟩:=h
 cases ro
 exact oI hu I g ri rv fun s' I'=>⟨H',I',q⟩
end
end L2
namespace L3
open PySem L2
theorem Reps.Be{K:Vo}{H:Hp}{vs:List V}{ps:List PV}{i:Int}{p:PV}(r:Reps K H vs ps)(h:L2.Be ps i=some p):∃v,L2.Be vs i=some v/\Rep K H v p:=by
 unfold L2.Be at h ⊢
 rw[r.length]
 cases e:oE ps.length i with
 |none=>rw[e]at h;cases h
 |some j=>
  rw[e]at h
  obtain⟨v,h1,h2⟩:=r.get h
  exact⟨v,h1,h2⟩
noncomputable def ij:PV->Option bf
 | .int i=>some (.inl i)
 | .str x=>some (.inr x)
 |_=>none
def cF{K:Vo}{H:Hp}{v:V}{p:PV}{k:bf}(r:Rep K H v p)(h:ij p=some k):v=kV k:=by
 cases p with
 |int i=>cases h;cases r;rfl
 |str i=>cases h;cases r;rfl
 |_=>cases h
noncomputable def dX{κ:Type} [DecidableEq κ]:List (κ×PV)->κ->Option PV
 |[],_=>none
 |(k',v)::r,k=>if k'=k then some v else dX r k
theorem AX.val{K:Vo}{H:Hp}{κ:Type} [DecidableEq κ]{k:κ}{p:PV}:∀{vs:List (κ×V)} {ps:List (κ×PV)},AX K H vs ps->dX ps k=some p->∃v,fD vs k=some v/\Rep K H v p
 |_,_,.nil,h=>by cases h
 |_,_,.cons (k:=k') a r,h=>by
  unfold dX at h
  split at h
  ·rename_i e;cases h;exact⟨_,BX e,a⟩
  ·rename_i e;rw[BB e];exact AX.val r h
theorem AX.valN{K:Vo}{H:Hp}{κ:Type} [DecidableEq κ]{k:κ}:∀{vs:List (κ×V)} {ps:List (κ×PV)},AX K H vs ps->dX ps k=none->fD vs k=none
 |_,_,.nil,_=>rfl
 |_,_,.cons (k:=k') a r,h=>by
  unfold dX at h
  split at h
  ·cases h
  ·rename_i e;rw[BB e];exact AX.valN r h
section
variable {X:Cx} {a b e lo hi:Expr} {ta tb te:aV} {pos p2:Pos}
structure Ad (X:Cx) (r:R3):Prop where
 ok:wS X (LR X r)
def yb{r:R3}(hr:Ad X r)(ha:a_ X a ta)(hb:a_ X b tb)(hs:i0 b):a_ X (.Subscript a b pos) (ah r ta tb):=⟨aO (xK hr.ok ha.ok hb.ok hs) fun _ _ _=>i4⟩
def ae:R3:=fun x y S Q=>match x with
 | .tup xs=>match y with | .int i=>(match Be xs i with|some v=>Q v S|none=>False)|_=>False
 | .cl xs=>match y with | .int i=>(match Be xs i with|some v=>Q v S|none=>False)|_=>False
 | .str z=>match y with | .int i=>z.length<=sizeLine/\(match Be z.cps.toList i with|some c=>Q (.str ⟨#[c]⟩) S|none=>False)|_=>False
 | .ref a=>match S a with
  |some (.lst xs)=>(match y with | .int i=>(match Be xs i with|some v=>Q v S|none=>False)|_=>False)
  |some (.dct kvs)=>(match ij y with|some k=>(match dX kvs k with|some v=>Q v S|none=>False)|none=>False)
  |_=>False
 |_=>False
def Ae(hu:X.A.units+1 < cLine):Ad X ae:=⟨fun value slice pins s σ H x y v u Q I rx ry ⟨px,py,S,Q3,r1,r2,rS,q,k⟩ hs=>by
 unfold ae at q
 split at q
 ·split at q
  ·split at q
   ·rename_i e
    cases r2
    cases r1 with
    |tup h1 rs=>
     obtain⟨w,hw,rw'⟩:=rs.Be e
     exact vD value slice pins s σ H _ _ v u Q I rx ry ⟨_,_,_,w,rfl,rfl,h1,hw,k _ S _ H q rw' rS .refl⟩ hs
   ·exact q.elim
  ·exact q.elim
 ·split at q
  ·split at q
   ·rename_i e
    cases r2
    cases r1 with
    |cl h1 rs=>
     obtain⟨w,hw,rw'⟩:=rs.Be e
     exact nM value slice pins s σ H _ _ v u Q I rx ry ⟨_,_,_,w,rfl,rfl,h1.sq,hw,k _ S _ H q rw' rS .refl⟩ hs
   ·exact q.elim
  ·exact q.elim
 ·split at q
  ·obtain⟨hz,q⟩:=q
   split at q
   ·rename_i e
    cases r1;cases r2
    exact vE value slice pins s σ H _ _ v u Q I rx ry ⟨_,_,_,rfl,rfl,hz,e,k _ S _ H q (.str _) rS .refl⟩ hs
   ·exact q.elim
  ·exact q.elim
 ·split at q
  ·rename_i e0
   split at q
   ·split at q
    ·rename_i e
     cases r1;cases r2
     obtain⟨vs,hv,rs⟩:=rS _ _ e0
     obtain⟨w,hw,rw'⟩:=rs.Be e
     exact nM value slice pins s σ H _ _ v u Q I rx ry ⟨_,_,_,w,rfl,rfl,SqL.of hv,hw,k _ S _ H q rw' rS .refl⟩ hs
    ·exact q.elim
   ·exact q.elim
  ·rename_i e0
   split at q
   ·rename_i ek
    split at q
    ·rename_i ev
     cases r1
     have e1:=cF r2 ek
     subst e1
     obtain⟨kv,hv,rk⟩:=rS _ _ e0
     obtain⟨w,hw,rw'⟩:=rk.val ev
     refine tL hu value slice pins s σ H _ _ v u Q I rx ry ⟨_,w,rfl,?_,k _ S _ H q rw' rS .refl⟩ hs
     rw[<-hw]
     exact DGet.k hv
    ·exact q.elim
   ·exact q.elim
  ·exact q.elim
 ·exact q.elim⟩
abbrev wU:=b3->aq->(Option Int->aq->Prop)->cQ->Prop
inductive LO (X:Cx) (t:wU) (σ:L2.St) (H:Hp) (Q:Option Int->Hp->Prop):Prop
 |mk (σ3 S Q3 E3) (rσ:AO X.K H σ σ3) (rS:AM X.K H S) (h:t σ3 S Q3 E3) (xo:Ee X H E3) (k:∀o S' H',Q3 o S'->AM X.K H' S'->Grow X.K H H'->Q o H'):LO X t σ H Q
structure yQ (X:Cx) (e:Option Expr) (t:wU):Prop where
 ok:PO X e (LO X t)
noncomputable def lD:wU:=fun _ S Q _=>Q none S
noncomputable def kz(t:aV):wU:=fun σ S Q E=>t σ S (fun v S'=>match v with | .int i=>Q (some i) S'|_=>False) E
def qO{e:Option Expr}{t t':TO}(h:PO X e t)(k:∀σ H Q,t' σ H Q->t σ H Q):PO X e t':=fun pins s σ H Q I q=>h pins s σ H Q I (k σ H Q q)
def dH:yQ X none lD:=⟨qO sO fun σ H Q ⟨σ3,S,Q3,E3,rσ,rS,h,xo,k⟩=>k none S H h rS .refl⟩
def cG(h:a_ X e te):yQ X (some e) (kz te):=⟨qO (sP h.ok) fun σ H Q ⟨σ3,S,Q3,E3,rσ,rS,h,xo,k⟩=>⟨σ3,S,_,E3,rσ,rS,h,xo,fun p S' v H' h1 rv Cl g=>by
 cases p with
 |int i=>cases rv;exact⟨i,rfl,k _ S' H' h1 Cl g⟩
 |_=>exact h1.elim⟩⟩
noncomputable def dI{α:Type}(xs:List α)(lo hi:Option Int):List α:=(xs.drop (HT.A1 xs.length 0 lo)).take (HT.A1 xs.length xs.length hi - HT.A1 xs.length 0 lo)
def Reps.cut{K:Vo}{H:Hp}{vs:List V}{ps:List PV}(r:Reps K H vs ps)(lo hi:Option Int):Reps K H (jd vs lo hi) (dI ps lo hi):=by
 unfold jd dI
 rw[r.length]
 exact(r.drop _).take _
def ld(x:PV)(lo hi:Option Int)(S:aq)(Q:bM):Prop:=match x with
 | .tup xs=>Q (.tup (dI xs lo hi)) S
 | .cl xs=>∀p,S p=none->Q (.ref p) (AH S p (.lst (dI xs lo hi)))
 | .str z=>z.length<=sizeLine/\Q (.str (Txt.slice z lo hi)) S
 | .ref a=>match S a with|some (.lst xs)=>∀p,S p=none->Q (.ref p) (AH S p (.lst (dI xs lo hi)))|_=>False
 |_=>False
noncomputable def Ar(X:Cx):V->Option Int->Option Int->Hp->VK->Prop:=fun x lo hi H Q=>∃px S Q3,Rep X.K H x px/\AM X.K H S/\ld px lo hi S Q3/\Ef X.K H Q3 Q
def As:wR X (Ar X):=by
 intro pins s σ H x v vl vu lo hi sl Q I rx hs pl pu ⟨px,S,Q3,r1,rS,q,k⟩
 unfold ld at q
 split at q
 ·cases r1 with
  |tup h1 rs=>exact tK pins s σ H _ v vl vu lo hi sl Q I rx hs pl pu ⟨_,_,rfl,h1,fun r H' hh hr=>k _ S _ H' q (.tup hr ((rs.cut lo hi).mono (.same hh))) (rS.grow hh) (.same hh)⟩
 ·cases r1 with
  |cl h1 rs=>exact nN pins s σ H _ v vl vu lo hi sl Q I rx hs pl pu ⟨_,_,rfl,h1.sq,fun p hp=>k _ _ _ _ (q p (rS.free hp)) (.ref p) (rS.new hp ⟨_,ay,(rs.cut lo hi).mono (.new hp)⟩) (.new hp)⟩
 ·cases r1
  exact vQ pins s σ H _ v vl vu lo hi sl Q I rx hs pl pu ⟨_,rfl,q.1,k _ S _ H q.2 (.str _) rS .refl⟩
 ·split at q
  ·rename_i e
   cases r1
   obtain⟨vs,hv,rs⟩:=rS _ _ e
   exact nN pins s σ H _ v vl vu lo hi sl Q I rx hs pl pu ⟨_,_,rfl,SqL.of hv,fun p hp=>k _ _ _ _ (q p (rS.free hp)) (.ref p) (rS.new hp ⟨_,ay,(rs.cut lo hi).mono (.new hp)⟩) (.new hp)⟩
  ·exact q.elim
 ·exact q.elim
def bt(te:aV)(tl th:wU):aV:=fun σ S Q E=>te σ S (fun x S1=>tl σ S1 (fun l S2=>th σ S2 (fun u S3=>ld x l u S3 Q) E) E) E
def b5{lo hi:Option Expr}{tl th:wU}(he:a_ X e te)(hl:yQ X lo tl)(hu:yQ X hi th):a_ X (.Subscript e (.Slice lo hi none p2) pos) (bt te tl th):=
 ⟨aO (qe As he.ok hl.ok hu.ok) fun σ H Q ⟨σ3,S,Q3,E3,rσ,rS,h,xo,k⟩=>⟨σ3,S,_,E3,rσ,rS,h,xo,fun x S1 v H1 h1 rx AQ g1=>⟨σ3,S1,_,E3,rσ.mono g1,AQ,h1,xo.mono g1,fun l S2 H2 h2 B_ g2=>
  ⟨σ3,S2,_,E3,rσ.mono (g1.trans g2),B_,h2,xo.mono (g1.trans g2),fun u S3 H3 h3 EC g3=>⟨x,S3,Q3,rx.mono (g2.trans g3),EC,h3,k.mono (g1.trans (g2.trans g3))⟩⟩⟩⟩⟩
def tM:gq X (binaryOp .Mult) (rI IntMulOk fun i j=>.int (i * j)):=yM fun _ _ _ _ _ _ _ hc q=>PyProof.Rows.mul_int q hc
def iW:R3:=fun x y S Q=>match x,y with
 | .int i,.int j=>IntMulOk i j/\Q (.int (i * j)) S
 | .ref a,.int j=>(match S a with|some (.lst xs)=>-(2 ^ 63)<=j/\j < 2 ^ 63/\xs.length * j.toNat<=sizeLine/\∀p,S p=none->Q (.ref p) (AH S p (.lst (List.replicate j.toNat xs).flatten))|_=>False)
 |_,_=>False
theorem Reps.rep{K:Vo}{H:Hp}{vs:List V}{ps:List PV}(r:Reps K H vs ps):∀n:Nat,Reps K H (List.replicate n vs).flatten (List.replicate n ps).flatten
 |0=>.nil
 |n+1=>by
  rw[Kd,Kd,Li,Li]
  exact r.append (Reps.rep r n)
def fU:ig X (binaryOp .Mult) iW:=⟨fun pins s σ H x y v u Q I rx ry ⟨px,py,S,Q3,r1,r2,rS,q,k⟩=>by
 unfold iW at q
 split at q
 ·cases r1;cases r2
  exact tM pins s σ H _ _ v u Q I rx ry ⟨_,_,rfl,rfl,q.1,k _ S _ H q.2 (.int _) rS .refl⟩
 ·split at q
  ·rename_i e
   cases r1;cases r2
   obtain⟨vs,hv,rs⟩:=rS _ _ e
   exact vJ pins s σ H _ _ v u Q I rx ry ⟨_,_,_,rfl,rfl,hv,q.1,q.2.1,by rw[rs.length];exact q.2.2.1,fun p hp=>k _ _ _ _ (q.2.2.2 p (rS.free hp)) (.ref p) (rS.new hp ⟨_,ay,(rs.rep _).mono (.new hp)⟩) (.new hp)⟩
  ·exact q.elim
 ·exact q.elim⟩
end
end L3
namespace L2
open PySem PySem.Spec PyProof.Rows
section
variable {X:Cx}
def mZ{pins:Va}{σ:St}{H:Hp}{s:Shared}{x:Value}{t:Value}{p:Heap->Prop}{vs:List V}{tp:Addr}{b:Bool}{Q:Vq}{E:Vq}(I:Inv X pins σ H s)(Z:PySem.W.KitX X.K x t p)(hp:p s.heap)(hx:x ≠ .builtin "__main__.__loader__#opaque")
  (ht:SqT X.K H tp vs) (e:∀its,Vals vs its->PySem.W.kitAny X.K t its=some b) (h:∀tk,Q (.bool b) { s with toks:=tk }):wpAny (model X.prog X.w) X.A (call (.builtin "isinstance") [x,.ref tp]) Q E s:=by
 obtain⟨its,rv,⟨⟨cls,dd,data,sl⟩,ho,hc,n,hd⟩,hz⟩:=I.tuple ht
 simp only at hc hd
 subst hc hd
 exact PySem.W.kia_tup Z I.Ej hp ho (e its rv) hx h
end
end L2
namespace L3
open PySem L2
abbrev nU:=List PV->aq->bM->Prop
section
variable {X:Cx} {e o:Expr} {es:List Expr} {te to:aV} {ts:List aV} {x:Str} {p pos apos cpos:Pos}
inductive LC (X:Cx) (r:nU) (xs:List V) (H:Hp) (Q:VK):Prop
 |mk (ps S Q3) (rx:Reps X.K H xs ps) (rS:AM X.K H S) (h:r ps S Q3) (k:Ef X.K H Q3 Q):LC X r xs H Q
structure fN (X:Cx) (f:Value) (r:nU):Prop where
 ok:fI X f (LC X r)
def ap(r:nU)(ts:List aV):aV:=fun σ S Q E=>am ts σ S (fun ps S1=>r ps S1 Q) E
def nV{r:nU}{σ:L2.St}{H:Hp}{Q:VK}:LE X (ap r ts) σ H Q->yP (ts.map (LE X)) σ H fun vs H1=>LC X r vs H1 Q:=fun⟨σ3,S,Q3,E3,rσ,rS,h,xo,k⟩=>
 bV rσ rS h xo fun ps S' vs H' hl q rv Cl g=>⟨ps,S',Q3,rv,Cl,q,k.mono g⟩
def tN{id:String}{r:nU}(hc:fN X (.builtin id) r)(hg:Gl X x)(hm:X.mg x=none)(hv:bootBuiltins x=some (.builtin id))(he:starEach (e::es) X.env=(false,eval e X.env)::starEach es X.env)(ha:iV X (e::es) ts)
  (hn:x ≠ "__name__":=by decide) (hdb:(x == ("__debug__":Str))=false:=by decide) (hpl:(backTo pos (starEach es X.env)).any (·.1)=false:=by rfl):a_ X (.Call (.Name x p) (e::es) [] pos) (ap r ts):=
 ⟨aO (qc hc.ok hg hm hv ha.ok hn hdb he hpl) fun _ _ _=>nV⟩
def tO{id:String}{r:nU}(hc:fN X (.type id) r)(hg:Gl X x)(hm:X.mg x=none)(hv:bootBuiltins x=some (.type id))(he:starEach (e::es) X.env=(false,eval e X.env)::starEach es X.env)(ha:iV X (e::es) ts)
  (hn:x ≠ "__name__":=by decide) (hdb:(x == ("__debug__":Str))=false:=by decide) (hpl:(backTo pos (starEach es X.env)).any (·.1)=false:=by rfl):a_ X (.Call (.Name x p) (e::es) [] pos) (ap r ts):=
 ⟨aO (oD hc.ok hg hm hv ha.ok hn hdb he hpl) fun _ _ _=>nV⟩
def b9:nU:=fun ps S Q=>match ps with
 |[.tup xs]=>Q (.int xs.length) S
 |[.cl xs]=>Q (.int xs.length) S
 |[.str z]=>z.length<=sizeLine/\Q (.int z.length) S
 |[.ref a]=>(match S a with|some (.lst xs)=>Q (.int xs.length) S|some (.dct kvs)=>Q (.int kvs.length) S|_=>False)
 |_=>False
def dv:fN X (.builtin "len") b9:=⟨fun pins s σ H xs us Q I r ⟨ps,S,Q3,rp,rS,q,k⟩=>by
 unfold b9 at q
 split at q
 ·cases rp with|cons a rr=>cases rr;cases a with|tup h rs=>exact d5 pins s σ H _ us Q I r ⟨_,_,rfl,.inr h,by rw[rs.length];exact k _ S _ H q (.int _) rS .refl⟩
 ·cases rp with|cons a rr=>cases rr;cases a with|cl h rs=>exact d5 pins s σ H _ us Q I r ⟨_,_,rfl,.inl h.sq,by rw[rs.length];exact k _ S _ H q (.int _) rS .refl⟩
 ·cases rp with|cons a rr=>cases rr;cases a;exact kW pins s σ H _ us Q I r ⟨_,rfl,q.1,k _ S _ H q.2 (.int _) rS .refl⟩
 ·cases rp with
  |cons a rr=>
   cases rr;cases a
   split at q
   ·rename_i e
    obtain⟨vs,hv,rs⟩:=rS _ _ e
    exact d5 pins s σ H _ us Q I r ⟨_,_,rfl,.inl (SqL.of hv),by rw[rs.length];exact k _ S _ H q (.int _) rS .refl⟩
   ·rename_i e
    obtain⟨vs,hv,rs⟩:=rS _ _ e
    exact oM pins s σ H _ us Q I r ⟨_,_,rfl,hv,by rw[rs.length];exact k _ S _ H q (.int _) rS .refl⟩
   ·exact q.elim
 ·exact q.elim⟩
def jp:nU:=fun ps S Q=>match ps with|[.int i,.int j]=>Q (.int (if j > i then j else i)) S|_=>False
def qP(hc:X.calm=true):fN X (.builtin "max") jp:=⟨fun pins s σ H xs us Q I r ⟨ps,S,Q3,rp,rS,q,k⟩=>by
 unfold jp at q
 split at q
 ·cases rp with|cons a rr=>cases rr with|cons b r3=>cases r3;cases a;cases b;exact oB hc pins s σ H _ us Q I r ⟨_,_,rfl,k _ S _ H q (.int _) rS .refl⟩
 ·exact q.elim⟩
def jq:nU:=fun ps S Q=>match ps with|[.int i]=>Q (.int i) S|[.bl b]=>Q (.int (if b then 1 else 0)) S|_=>False
def yc:fN X (.type "int") jq:=⟨fun pins s σ H xs us Q I r ⟨ps,S,Q3,rp,rS,q,k⟩=>by
 unfold jq at q
 split at q
 ·cases rp with|cons a rr=>cases rr;cases a;exact ke pins s σ H _ us Q I r (.inl ⟨_,rfl,k _ S _ H q (.int _) rS .refl⟩)
 ·cases rp with|cons a rr=>cases rr;cases a;exact ke pins s σ H _ us Q I r (.inr ⟨_,rfl,k _ S _ H q (.int _) rS .refl⟩)
 ·exact q.elim⟩
def bS:nU:=fun ps S Q=>match ps with
 |[v]=>(match lV S v with|some xs=>Q (.tup xs) S|none=>False)
 |_=>False
def gC:fN X (.type "tuple") bS:=⟨fun pins s σ H xs us Q I r ⟨ps,S,Q3,rp,rS,q,k⟩=>by
 unfold bS at q
 split at q
 ·cases rp with
  |cons a rr=>
   cases rr
   split at q
   ·rename_i e
    obtain⟨b,vs,rfl,hs,rs⟩:=v9 rS a e
    rcases hs with hs|hs
    ·exact fJ pins s σ H _ us Q I r ⟨_,_,rfl,.inl ⟨hs,fun p hp=>k _ S _ _ q (.tup (SqT.of ay) (rs.mono (.new hp))) (rS.other hp) (.new hp)⟩⟩
    ·exact fJ pins s σ H _ us Q I r ⟨_,_,rfl,.inr ⟨hs,k _ S _ _ q (.tup hs rs) rS .refl⟩⟩
   ·exact q.elim
 ·exact q.elim⟩
noncomputable def jt:List PV->Option (List Bool)
 |[]=>some []
 | .bl b::r=>(jt r).map (b::·)
 |_::_=>none
theorem ju{K:Vo}{H:Hp}:∀{vs:List V} {ps:List PV} {bs:List Bool},Reps K H vs ps->jt ps=some bs->vs=bs.map V.bl
 |_,_,_,.nil,h=>by cases h;rfl
 |_,_,bs,.cons (p:=p) a r,h=>by
  cases p with
  |bl b=>
   cases a
   unfold jt at h
   cases e:jt _ with
   |none=>rw[e]at h;cases h
   |some l=>rw[e]at h;cases h;rw[ju r e];rfl
  |_=>cases h
def m4:nU:=fun ps S Q=>match ps with
 |[.ref a]=>(match S a with|some (.lst xs)=>(match jt xs with|some bs=>Q (.bl (bs.all id)) S|none=>False)|_=>False)
 |_=>False
def uK(hc:X.calm=true):fN X (.builtin "all") m4:=⟨fun pins s σ H xs us Q I r ⟨ps,S,Q3,rp,rS,q,k⟩=>by
 unfold m4 at q
 split at q
 ·cases rp with
  |cons a rr=>
   cases rr;cases a
   split at q
   ·rename_i e
    split at q
    ·rename_i eb
     obtain⟨vs,hv,rs⟩:=rS _ _ e
     have e2:=ju rs eb
     subst e2
     exact oP hc pins s σ H _ us Q I r ⟨_,_,rfl,SqL.of hv,k _ S _ H q (.bl _) rS .refl⟩
    ·exact q.elim
   ·exact q.elim
 ·exact q.elim⟩
end
noncomputable def fE(t c:String):Bool:=t == c || (t == "bool" && c == "int")
noncomputable def m5(S:aq):PV->Option String
 | .non=>some "NoneType"
 | .bl _=>some "bool"
 | .int _=>some "int"
 | .str _=>some "str"
 | .tup _=>some "tuple"
 | .cl _=>some "list"
 | .ref a=>(match S a with|some (.lst _)=>some "list" | some (.dct _)=>some "dict" | _=>none)
 | .ty _=>none
 | .exc _ _ _=>none
 | .cls _=>none
noncomputable def cN(c:String):Bool:=["int","str","bool","tuple","list","dict"].contains c
def qQ(K:Vo)(t c:String):PySem.W.kitCls K (.type t) (.type c)=(if PySem.W.kitMeta c=true then (PySem.fastBuiltinMro t).map (·.contains (Value.type c)) else none):=rfl
def nW{K:Vo}{t c:String}(ht:t∈["NoneType","bool","int","str","tuple","list","dict"])(hc:cN c=true):PySem.W.kitOne K (.type t) (.type c)=some (fE t c):=by
 have hc':c∈["int","str","bool","tuple","list","dict"]:=by
  have:=hc
  unfold cN at this
  simpa using this
 simp only[Jq,JF,Kq]at ht hc'
 rcases ht with rfl|rfl|rfl|rfl|rfl|rfl|rfl<;>rcases hc' with rfl|rfl|rfl|rfl|rfl|rfl <;>
  first
   |(unfold PySem.W.kitOne;rw[if_pos (by decide)];rfl)
   |(unfold PySem.W.kitOne;rw[if_neg (by decide),qQ];decide +kernel)
def qR{S:aq}{p:PV}{t:String}(h:m5 S p=some t):t∈["NoneType","bool","int","str","tuple","list","dict"]:=by
 unfold m5 at h
 split at h<;>first|(cases h;decide)|(split at h<;>first|(cases h;decide)|cases h)|cases h
section
variable {X:Cx}
noncomputable def v_:List PV->Option (List String)
 |[]=>some []
 | .ty c::r=>if cN c then (v_ r).map (c::·) else none
 |_::_=>none
def jv:nU:=fun ps S Q=>match ps with
 |[x,.ty c]=>(match m5 S x with|some t=>cN c=true/\Q (.bl (fE t c)) S|none=>False)
 |[x,.tup cs]=>(match m5 S x,v_ cs with|some t,some l=>Q (.bl (l.any (fE t))) S|_,_=>False)
 |_=>False
def tP{K:Vo}{H:Hp}{t:String}(ht:t∈["NoneType","bool","int","str","tuple","list","dict"]):∀(cs:List PV) {l:List String} {vs:List V} {its:Vv},v_ cs=some l->Reps K H vs cs->Vals vs its->PySem.W.kitAny K (.type t) its=some (l.any (fE t)):=by
 intro cs
 induction cs with
 |nil=>intro l vs its h rs r;cases h;cases rs;cases r;rfl
 |cons p cs ih=>
  intro l vs its h rs r
  cases p with
  |ty c=>
   unfold v_ at h
   split at h
   ·rename_i hc
    cases e:v_ cs with
    |none=>rw[e]at h;cases h
    |some l'=>
     rw[e]at h
     cases h
     cases rs with
     |cons a rs=>
      cases a
      cases r with
      |@cons _ u _ us r1 r2=>
       cases (show u=Value.type c from r1)
       show(match PySem.W.kitOne K (.type t) (.type c)with|some true=>some true|some false=>PySem.W.kitAny K (.type t) us|none=>none)=_
       rw[nW ht hc,Mt]
       cases fE t c with
       |true=>rfl
       |false=>exact ih e rs r2
   ·cases h
  |_=>cases h
def jx:fN X (.builtin "isinstance") jv:=⟨fun pins s σ H xs us Q I r ⟨ps,S,Q3,rp,rS,q,k⟩=>by
 have main:∀{v:PV} {x:V} {u:Value} {t:String},Rep X.K H x v->RelV x u->m5 S v=some t->∃(h:Heap->Prop),PySem.W.KitX X.K u (.type t) h/\h s.heap/\u ≠ .builtin "__main__.__loader__#opaque":=by
  intro v x u t rv rx ht
  cases rv with
  |non=>cases ht;cases rx;exact⟨_,PySem.W.kitx_none,True.intro,fun z=>nomatch z⟩
  |bl b=>cases ht;cases rx;exact⟨_,PySem.W.kitx_bool,True.intro,fun z=>nomatch z⟩
  |int b=>cases ht;obtain⟨t,rfl⟩:=rx;exact⟨_,PySem.W.kitx_int,True.intro,fun z=>nomatch z⟩
  |str b=>cases ht;obtain⟨t,rfl⟩:=rx;exact⟨_,PySem.W.kitx_str,True.intro,fun z=>nomatch z⟩
  |ty b=>cases ht
  |exc _ _ _=>cases ht
  |cls _=>cases ht
  |tup h rs=>
   cases ht;cases rx
   obtain⟨its,_,⟨o,ho,hc,_⟩,_⟩:=I.tuple h
   exact⟨_,PySem.W.kitx_tuple,⟨o,ho,hc⟩,fun z=>nomatch z⟩
  |cl h rs=>
   cases ht;cases rx
   obtain⟨its,_,⟨o,n,ho,hc,_⟩,_⟩:=I.list h.sq
   exact⟨_,PySem.W.kitx_list,⟨o,ho,hc⟩,fun z=>nomatch z⟩
  |ref a=>
   cases rx
   unfold m5 at ht
   simp only at ht
   split at ht
   ·rename_i e
    cases ht
    obtain⟨vs,hv,_⟩:=rS _ _ e
    obtain⟨its,_,⟨o,n,ho,hc,_⟩,_⟩:=I.list (SqL.of hv)
    exact⟨_,PySem.W.kitx_list,⟨o,ho,hc⟩,fun z=>nomatch z⟩
   ·rename_i e
    cases ht
    obtain⟨vs,hv,_⟩:=rS _ _ e
    obtain⟨_,_,vs',_,p⟩:=(show A3 X.prog X.w H s.heap _ (.dK vs)from I.hok _ _ hv)
    obtain⟨o,es,ep,h1,h2,_⟩:=p
    exact⟨_,PySem.W.kitx_dict,⟨o,h1,h2.1⟩,fun z=>nomatch z⟩
   ·cases ht
 unfold jv at q
 split at q
 ·split at q
  ·rename_i ht
   cases rp with
   |cons a rr=>
    cases rr with
    |cons b r3=>
     cases r3;cases b
     cases r with
     |cons r1 r2=>
      cases r2 with
      |cons r4 r5=>
       cases r5
       cases (show _=Value.type _ from r4)
       obtain⟨h,Z,hp,hx⟩:=main a r1 ht
       exact PySem.W.kia_one Z I.Ej hp (nW (qR ht) q.1) hx fun tk=>⟨.bl _,H,I.tok _,rfl,k _ S _ H q.2 (.bl _) rS .refl⟩
  ·exact q.elim
 ·split at q
  ·rename_i ht hl
   cases rp with
   |cons a rr=>
    cases rr with
    |cons b r3=>
     cases r3
     cases b with
     |tup h1 rs=>
      cases r with
      |cons r1 r2=>
       cases r2 with
       |cons r4 r5=>
        cases r5
        cases r4
        obtain⟨h,Z,hp,hx⟩:=main a r1 ht
        exact mZ I Z hp hx h1 (fun its rv=>tP (qR ht) _ hl rs rv) fun tk=>⟨.bl _,H,I.tok _,rfl,k _ S _ H q (.bl _) rS .refl⟩
  ·exact q.elim
 ·exact q.elim⟩
end
abbrev my:=PV->List PV->aq->bM->Prop
section
variable {X:Cx} {e o:Expr} {es:List Expr} {te to:aV} {ts:List aV} {name:Str} {p pos apos cpos:Pos} {T id:String}
inductive LM (X:Cx) (r:my) (x:V) (xs:List V) (H:Hp) (Q:VK):Prop
 |mk (px ps S Q3) (rx:Rep X.K H x px) (rs:Reps X.K H xs ps) (rS:AM X.K H S) (h:r px ps S Q3) (k:Ef X.K H Q3 Q):LM X r x xs H Q
structure oZ (X:Cx) (id:String) (r:my):Prop where
 ok:vC X id (LM X r)
def j3(T:String)(x:PV)(S:aq):Prop:=match x with
 | .str _=>T = "str"
 | .ref a=>(match S a with|some (.lst _)=>T = "list" | some (.dct _)=>T = "dict" | _=>False)
 | .cl _=>T = "list"
 |_=>False
def qS{H:Hp}{S:aq}{v:V}{p:PV}(rS:AM X.K H S)(r:Rep X.K H v p)(h:j3 T p S):yN X.K T v H:=by
 cases r with
 |str x=>exact h
 |ref a=>
  unfold j3 at h
  simp only at h
  split at h
  ·rename_i e
   obtain⟨vs,hv,_⟩:=rS _ _ e
   exact .inl ⟨h,_,SqL.of hv⟩
  ·rename_i e
   obtain⟨vs,hv,_⟩:=rS _ _ e
   exact .inr (.inr (.inl ⟨h,.inl ⟨_,hv⟩⟩))
  ·exact h.elim
 |cl h1 _=>exact .inl ⟨h,_,h1.sq⟩
 |_=>exact h.elim
def cH(T:String)(r:my)(to:aV)(ts:List aV):aV:=fun σ S Q E=>to σ S (fun x S1=>j3 T x S1/\am ts σ S1 (fun ps S2=>r x ps S2 Q) E) E
def zH{r:my}(pa:PlainAttrs T)(slot:Slot T name id)(hty:typeOf (.builtin id)=pure (.type "method_descriptor"))(hm:oZ X id r)(hs:starEach (e::es) X.env=(false,eval e X.env)::starEach es X.env)(ho:a_ X o to)(ha:iV X (e::es) ts)
  (hbase:attributeBase o name X.env (eval o X.env)=eval o X.env:=by rfl)
  (hfew:((backTo cpos (starEach (e::es) X.env)).all (fun x=>!x.1)&&(backToKw cpos (keywordEach [] X.env)).all (fun x=>x.1.isSome)
   && decide ((e::es).length+([]:List Keyword).length+(if ([]:List Keyword).isEmpty then 0 else 1) < 30))=true:=by rfl)
  (hline:(apos.endLine == cpos.line)=true:=by rfl) (hplain:(backTo cpos (starEach es X.env)).any (·.1)=false:=by rfl):a_ X (.Call (.Attribute o name apos) (e::es) [] cpos) (cH T r to ts):=
 ⟨aO (xM pa slot hty hm.ok ho.ok ha.ok hbase hfew hline hs hplain) fun σ H Q ⟨σ3,S,Q3,E3,rσ,rS,h,xo,k⟩=>⟨σ3,S,_,E3,rσ,rS,h,xo,fun x S1 v H1 h1 rx AQ g1=>
  ⟨qS AQ rx h1.1,bV (rσ.mono g1) AQ h1.2 (xo.mono g1) fun ps S2 vs H2 hl q rv B_ g2=>⟨x,ps,S2,Q3,rx.mono g2,rv,B_,q,k.mono (g1.trans g2)⟩⟩⟩⟩
def yd{r:my}(pa:PlainAttrs T)(slot:Slot T name id)(hty:typeOf (.builtin id)=pure (.type "method_descriptor"))(hm:oZ X id r)(ho:a_ X o to)
  (hbase:attributeBase o name X.env (eval o X.env)=eval o X.env:=by rfl) (hline:(apos.endLine == cpos.line)=true:=by rfl):a_ X (.Call (.Attribute o name apos) [] [] cpos) (cH T r to []):=
 ⟨aO (vF pa slot hty hm.ok ho.ok hbase hline) fun σ H Q ⟨σ3,S,Q3,E3,rσ,rS,h,xo,k⟩=>⟨σ3,S,_,E3,rσ,rS,h,xo,fun x S1 v H1 h1 rx AQ g1=>
  ⟨qS AQ rx h1.1,⟨x,[],S1,Q3,rx,.nil,AQ,h1.2,k.mono g1⟩⟩⟩⟩
def bj:my:=fun x ps S Q=>match x,ps with
 | .ref a,[y]=>(match S a with|some (.lst xs)=>xs.length < sizeLine/\Q .non (AH S a (.lst (xs++[y])))|_=>False)
 |_,_=>False
def de:oZ X "list.append" bj:=⟨fun pins s σ H x xs v us Q I rx rs ⟨px,ps,S,Q3,r1,rp,rS,q,k⟩=>by
 unfold bj at q
 split at q
 ·split at q
  ·rename_i e
   cases r1
   cases rp with
   |cons b rr=>
    cases rr
    obtain⟨vs,hv,rl⟩:=rS _ _ e
    exact oF pins s σ H _ _ v us Q I rx rs ⟨_,_,_,rfl,rfl,hv,by rw[rl.length];exact q.1,k _ _ _ _ q.2 .non (rS.put hv trivial ⟨_,ay,(rl.append (.cons b .nil)).mono (.mut hv trivial)⟩) (.mut hv trivial)⟩
  ·exact q.elim
 ·exact q.elim⟩
def aH:my:=fun x ps S Q=>match x,ps with
 | .ref a,[.ref b]=>(match S a,S b with|some (.lst xs),some (.lst ys)=>xs.length+ys.length<=sizeLine/\Q .non (AH S a (.lst (xs++ys)))|_,_=>False)
 |_,_=>False
def bQ:oZ X "list.extend" aH:=⟨fun pins s σ H x xs v us Q I rx rs ⟨px,ps,S,Q3,r1,rp,rS,q,k⟩=>by
 unfold aH at q
 split at q
 ·split at q
  ·rename_i e e2
   cases r1
   cases rp with
   |cons b rr=>
    cases rr
    cases b
    obtain⟨vs,hv,rl⟩:=rS _ _ e
    obtain⟨us',hu,ru⟩:=rS _ _ e2
    exact oG pins s σ H _ _ v us Q I rx rs ⟨_,_,_,_,rfl,rfl,hv,hu,by rw[rl.length,ru.length];exact q.1,k _ _ _ _ q.2 .non (rS.put hv trivial ⟨_,ay,(rl.append ru).mono (.mut hv trivial)⟩) (.mut hv trivial)⟩
  ·exact q.elim
 ·exact q.elim⟩
def lW:my:=fun x ps S Q=>match x,ps with
 | .ref a,[]=>(match S a with|some (.lst xs)=>(match xs[xs.length - 1]? with|some y=>Q y (AH S a (.lst xs.dropLast))|none=>False)|_=>False)
 | .ref a,[.int i]=>(match S a with|some (.lst xs)=>-(2 ^ 63)<=i/\i < 2 ^ 63/\(match seqIndex? i xs.length with|some j=>(match xs[j]? with|some y=>Q y (AH S a (.lst (xs.eraseIdx j)))|none=>False)|none=>False)|_=>False)
 |_,_=>False
def uL:oZ X "list.pop" lW:=⟨fun pins s σ H x xs v us Q I rx rs ⟨px,ps,S,Q3,r1,rp,rS,q,k⟩=>by
 unfold lW at q
 split at q
 ·split at q
  ·rename_i e
   split at q
   ·rename_i ey
    cases r1
    cases rp
    obtain⟨vs,hv,rl⟩:=rS _ _ e
    rw[<-rl.length]at ey
    obtain⟨y',GN,ry⟩:=rl.get ey
    exact vG pins s σ H _ _ v us Q I rx rs ⟨_,_,_,rfl,rfl,hv,GN,k _ _ _ _ q (ry.mono (.mut hv trivial)) (rS.put hv trivial ⟨_,ay,rl.dropLast.mono (.mut hv trivial)⟩) (.mut hv trivial)⟩
   ·exact q.elim
  ·exact q.elim
 ·split at q
  ·rename_i e
   obtain⟨h1,h2,q⟩:=q
   split at q
   ·rename_i ej
    split at q
    ·rename_i ey
     cases r1
     cases rp with
     |cons b rr=>
      cases rr;cases b
      obtain⟨vs,hv,rl⟩:=rS _ _ e
      obtain⟨y',GN,ry⟩:=rl.get ey
      rw[<-rl.length]at ej
      exact qh pins s σ H _ _ v us Q I rx rs ⟨_,_,_,_,_,rfl,rfl,hv,h1,h2,ej,GN,k _ _ _ _ q (ry.mono (.mut hv trivial)) (rS.put hv trivial ⟨_,ay,(rl.eraseIdx _).mono (.mut hv trivial)⟩) (.mut hv trivial)⟩
    ·exact q.elim
   ·exact q.elim
  ·exact q.elim
 ·exact q.elim⟩
def gD:my:=fun x ps S Q=>match x,ps with
 | .ref a,[]=>(match S a with|some (.lst xs)=>Q .non (AH S a (.lst xs.reverse))|_=>False)
 |_,_=>False
def o0:oZ X "list.reverse" gD:=⟨fun pins s σ H x xs v us Q I rx rs ⟨px,ps,S,Q3,r1,rp,rS,q,k⟩=>by
 unfold gD at q
 split at q
 ·split at q
  ·rename_i e
   cases r1;cases rp
   obtain⟨vs,hv,rl⟩:=rS _ _ e
   exact mN pins s σ H _ _ v us Q I rx rs ⟨_,_,rfl,rfl,hv,k _ _ _ _ q .non (rS.put hv trivial ⟨_,ay,rl.reverse.mono (.mut hv trivial)⟩) (.mut hv trivial)⟩
  ·exact q.elim
 ·exact q.elim⟩
noncomputable def texts:List PV->Option (List Str)
 |[]=>some []
 | .str b::r=>(texts r).map (b::·)
 |_::_=>none
theorem jy{K:Vo}{H:Hp}:∀{vs:List V} {ps:List PV} {bs:Vs},Reps K H vs ps->texts ps=some bs->vs=bs.map V.str
 |_,_,_,.nil,h=>by cases h;rfl
 |_,_,bs,.cons (p:=p) a r,h=>by
  cases p with
  |str b=>
   cases a
   unfold texts at h
   cases e:texts _ with
   |none=>rw[e]at h;cases h
   |some l=>rw[e]at h;cases h;rw[jy r e];rfl
  |_=>cases h
def kA:my:=fun x ps S Q=>match x,ps with
 | .str z,[.ref a]=>(match S a with|some (.lst xs)=>(match texts xs with|some ys=>(ys.map (·.length)).sum+ys.length * z.length<=1000000/\Q (.str (Txt.join z ys)) S|none=>False)|_=>False)
 |_,_=>False
def qT:oZ X "str.join" kA:=⟨fun pins s σ H x xs v us Q I rx rs ⟨px,ps,S,Q3,r1,rp,rS,q,k⟩=>by
 unfold kA at q
 split at q
 ·split at q
  ·rename_i e
   split at q
   ·rename_i et
    cases r1
    cases rp with
    |cons b rr=>
     cases rr;cases b
     obtain⟨vs,hv,rl⟩:=rS _ _ e
     have e2:=jy rl et
     subst e2
     exact tq pins s σ H _ _ v us Q I rx rs ⟨_,_,_,rfl,rfl,SqL.of hv,q.1,k _ S _ H q.2 (.str _) rS .refl⟩
   ·exact q.elim
  ·exact q.elim
 ·exact q.elim⟩
def ik:my:=fun x ps S Q=>match x,ps with
 | .str a,[.str b]=>(match Builtin.Str.occurrences a b 0 a.length 1 with|i::_=>Q (.int i) S|[]=>False)
 |_,_=>False
def tQ:oZ X "str.index" ik:=⟨fun pins s σ H x xs v us Q I rx rs ⟨px,ps,S,Q3,r1,rp,rS,q,k⟩=>by
 unfold ik at q
 split at q
 ·split at q
  ·rename_i e
   cases r1
   cases rp with
   |cons b rr=>
    cases rr;cases b
    exact qw pins s σ H _ _ v us Q I rx rs ⟨_,_,_,_,rfl,rfl,e,k _ S _ H q (.int _) rS .refl⟩
  ·exact q.elim
 ·exact q.elim⟩
end
section
variable {X:Cx} {e c:Expr} {te:aV} {st:Stmt} {rest a b:List Stmt} {t u:bN} {tc:iJ} {pos:Pos}
def aM:bN:=fun D σ S=>D.nx σ S
def ag(t u:bN):bN:=fun D σ S=>t { D with nx:=u D } σ S
def aJ:ie X [] aM:=⟨nR sx fun D σ H ⟨σ3,S,D3,rσ,rS,h,xo,n,r,bk,ct⟩=>n σ3 S σ H h rσ rS .refl⟩
def ab(h1:mT X st t)(h2:ie X rest u):ie X (st::rest) (ag t u):=
 ⟨nR (pV h1.ok h2.ok) fun D σ H ⟨σ3,S,D3,rσ,rS,h,xo,n,r,bk,ct⟩=>⟨σ3,S,{ D3 with nx:=u D3 },rσ,rS,h,xo,fun σ4 S' σ' H' h' ED Cl g=>⟨σ4,S',D3,ED,Cl,h',xo.mono g,n.mono g,r.mono g,bk.mono g,ct.mono g⟩,r,bk,ct⟩⟩
def ak(h1:mT X st t):ie X [st] t:=⟨sy h1.ok⟩
def aG(te:aV):bN:=fun D σ S=>te σ S (fun _ S1=>D.nx σ S1) D.ex
def ba(he:a_ X e te)(hs:swapsWith e none pos.line X.env=pure false:=by rfl):mT X (.Expr e pos) (aG te):=
 ⟨c_ (sA he.ok hs) fun D σ H ⟨σ3,S,D3,rσ,rS,h,xo,n,r,bk,ct⟩=>⟨σ3,S,_,D3.ex,rσ,rS,h,xo,fun p S1 v H1 h1 rv AQ g1=>n σ3 S1 σ H1 h1 (rσ.mono g1) AQ g1⟩⟩
def aw(te:aV):bN:=fun D σ S=>te σ S D.rt D.ex
def ar(he:a_ X e te):mT X (.Return (some e) pos) (aw te):=
 ⟨c_ (vc he.ok) fun D σ H ⟨σ3,S,D3,rσ,rS,h,xo,n,r,bk,ct⟩=>⟨σ3,S,D3.rt,D3.ex,rσ,rS,h,xo,r⟩⟩
def bo(c:iJ)(t u:bN):bN:=fun D σ S=>c σ S (fun b S1=>if b=true then t D σ S1 else u D σ S1) D.ex
def bb(hc:mS X c tc)(ha:ie X a t)(hb:ie X b u):mT X (.If c a b pos) (bo tc t u):=
 ⟨c_ (xk hc.ok ha.ok hb.ok) fun D σ H ⟨σ3,S,D3,rσ,rS,h,xo,n,r,bk,ct⟩=>⟨σ3,S,_,D3.ex,rσ,rS,h,xo,fun z S1 H1 h1 AQ g1=>by
  cases z with
  |true=>rw[if_pos rfl]at h1 ⊢;exact⟨σ3,S1,D3,rσ.mono g1,AQ,h1,xo.mono g1,n.mono g1,r.mono g1,bk.mono g1,ct.mono g1⟩
  |false=>rw[if_neg (by decide)]at h1 ⊢;exact⟨σ3,S1,D3,rσ.mono g1,AQ,h1,xo.mono g1,n.mono g1,r.mono g1,bk.mono g1,ct.mono g1⟩⟩⟩
def au(i:Nat)(te:aV):bN:=fun D σ S=>te σ S (fun v S1=>D.nx (σ.set i (some v)) S1) D.ex
def qU{i:Nat}{D:mE}{σ:L2.St}{H:Hp}:LS X (au i te) D σ H->sE (LE X te) (lI i) D σ H:=fun⟨σ3,S,D3,rσ,rS,h,xo,n,r,bk,ct⟩=>
 ⟨σ3,S,_,D3.ex,rσ,rS,h,xo,fun p S1 v H1 h1 rv AQ g1=>n _ S1 _ H1 h1 ((rσ.mono g1).set rv i) AQ g1⟩
def ye{i:Nat}{x:Str}{pos':Pos}(hN:X.N.Nodup)(hi:X.N[i]?=some x)(hx:ux X.env.scope x)(he:a_ X e te)(hs:swapsWith e (some (.Name x pos')) pos.line X.env=pure false:=by rfl)
  (hf:X.fn x=true\/X.env.scope.names.lookup x=some .local:=by first|exact .inl rfl|exact .inr rfl|assumption):mT X (.Assign [.Name x pos'] e pos) (au i te):=⟨c_ (vg hN hi hx he.ok hs hf) fun _ _ _=>qU⟩
def o6(i j:Nat)(ta tb:aV):bN:=fun D σ S=>ta σ S (fun v S1=>tb σ S1 (fun w S2=>D.nx ((σ.set i (some v)).set j (some w)) S2) D.ex) D.ex
def uM{i j:Nat}{x y:Str}{a b:Expr}{ta tb:aV}{px py pt:Pos}{kt k2 Ff}(hc:X.calm=true)(hN:X.N.Nodup)(hi:X.N[i]?=some x)(hj:X.N[j]?=some y)(hij:i≠j)
  (hx:X.env.scope.names.lookup x=some .local) (hy:X.env.scope.names.lookup y=some .local) (ha:iV X [a,b] [ta,tb])
  (hw:swappedStores [.Tuple [.Name x px,.Name y py] kt pt] (.Tuple [a,b] k2 Ff) X.env=pure (some [x,y]):=by rfl)
  (hs:swapsWithSole [.Tuple [.Name x px,.Name y py] kt pt] (.Tuple [a,b] k2 Ff) pos.line X.env=pure false:=by rfl) :
  mT X (.Assign [.Tuple [.Name x px,.Name y py] kt pt] (.Tuple [a,b] k2 Ff) pos) (o6 i j ta tb):=
 ⟨c_ (vh hc hN hi hj hij hx hy ha.ok hw hs) fun D σ H ⟨σ3,S,D3,rσ,rS,h,xo,n,r,bk,ct⟩=>
  ⟨σ3,S,_,D3.ex,rσ,rS,h,xo,fun v S1 v' H1 h1 rv AQ g1=>⟨σ3,S1,_,D3.ex,rσ.mono g1,AQ,h1,xo.mono g1,fun w S2 w' H2 h2 rw' B_ g2=>
   ⟨v',w',rfl,n _ S2 _ H2 h2 (((rσ.mono (g1.trans g2)).set (rv.mono g2) i).set rw' j) B_ (g1.trans g2)⟩⟩⟩⟩
def jz(i j k:Nat)(te:aV):bN:=fun D σ S=>te σ S (fun p S1=>match p with | .tup [v,w,u]=>D.nx (((σ.set k (some u)).set j (some w)).set i (some v)) S1|_=>False) D.ex
def tR{i j k:Nat}{x y z:Str}{px py pz pt:Pos}{kt:Nat}(hc:X.calm=true)(hN:X.N.Nodup)(hi:X.N[i]?=some x)(hj:X.N[j]?=some y)(hk:X.N[k]?=some z)
  (hx:X.env.scope.names.lookup x=some .local) (hy:X.env.scope.names.lookup y=some .local) (hz:X.env.scope.names.lookup z=some .local) (he:a_ X e te)
  (hw:swappedStores [.Tuple [.Name x px,.Name y py,.Name z pz] kt pt] e X.env=pure (some [x,y,z]):=by rfl)
  (hs:swapsWithSole [.Tuple [.Name x px,.Name y py,.Name z pz] kt pt] e pos.line X.env=pure false:=by rfl):mT X (.Assign [.Tuple [.Name x px,.Name y py,.Name z pz] kt pt] e pos) (jz i j k te):=
 ⟨c_ (qx hc hN hi hj hk hx hy hz he.ok hw hs) fun D σ H ⟨σ3,S,D3,rσ,rS,h,xo,n,r,bk,ct⟩=>⟨σ3,S,_,D3.ex,rσ,rS,h,xo,fun p S1 v H1 h1 rv AQ g1=>by
  try dsimp only at h1
  split at h1
  ·cases rv with
   |tup hq rs=>
    cases rs with
    |cons r1 rs=>
     cases rs with
     |cons r2 rs=>
      cases rs with
      |cons r3 rs=>
       cases rs
       exact⟨_,_,_,_,rfl,hq,n _ S1 _ H1 h1 ((((rσ.mono g1).set r3 k).set r2 j).set r1 i) AQ g1⟩
  ·exact h1.elim⟩⟩
inductive Tg where
 |n (i:Nat)|tp (l:Tg)|nil|cons (a r:Tg)
mutual
noncomputable def Tg.put:Tg->PV->b3->Option b3
 | .n i,p,σ=>some (σ.set i (some p))
 | .tp l,.tup xs,σ=>l.AK xs σ
 |_,_,_=>none
noncomputable def Tg.AK:Tg->List PV->b3->Option b3
 | .nil,[],σ=>some σ
 | .cons a r,x::xs,σ=>(match a.put x σ with|some σ'=>r.AK xs σ'|none=>none)
 |_,_,_=>none
end
noncomputable def Tg.len:Tg->Nat
 | .cons _ r=>r.len+1
 |_=>0
mutual
noncomputable def Tg.g2(K:Vo):Tg->TG
 | .n i=>lI i
 | .tp l=>xu K l.len (l.EX K)
 |_=>fun _ _ _ _=>False
noncomputable def Tg.EX(K:Vo):Tg->uy
 | .nil=>xq
 | .cons a r=>uz (a.g2 K) (r.EX K)
 |_=>fun _ _ _ _=>False
end
noncomputable def Tg.under(own:Nat):Tg->Bool
 | .n i=>decide (i < own)
 | .tp l=>l.under own
 | .nil=>true
 | .cons a r=>a.under own&&r.under own
theorem Tg.AV:∀(g:Tg) {ps:List PV} {σ3 σ4:b3},g.AK ps σ3=some σ4->ps.length=g.len
 | .nil,ps,σ3,σ4,h=>by
  cases ps with
  |nil=>rfl
  |cons _ _=>unfold Tg.AK at h;cases h
 | .cons a r,ps,σ3,σ4,h=>by
  cases ps with
  |nil=>unfold Tg.AK at h;cases h
  |cons x xs=>
   unfold Tg.AK at h
   split at h
   ·rw[JB,Tg.AV r h];rfl
   ·cases h
 | .n _,ps,σ3,σ4,h=>by unfold Tg.AK at h;cases h
 | .tp _,ps,σ3,σ4,h=>by unfold Tg.AK at h;cases h
mutual
theorem Tg.Di{K:Vo}{H:Hp}{own:Nat}:∀(g:Tg) {v:V} {p:PV} {σ:L2.St} {σ3 σ4:b3} {Q:L2.St->Hp->Prop},Rep K H v p->AO K H σ σ3->g.put p σ3=some σ4->(∀σ',AO K H σ' σ4->(g.under own=true->σ'.drop own=σ.drop own)->Q σ' H)->g.g2 K v σ H Q
 | .n i,v,p,σ,σ3,σ4,Q,r,rσ,h,k=>by
  unfold Tg.put at h
  cases h
  unfold Tg.g2
  refine k _ (rσ.set r i) fun hb=>?_
  have hi:i < own:=of_decide_eq_true hb
  rw[List.drop_set]
  rw[if_pos hi]
 | .tp l,v,p,σ,σ3,σ4,Q,r,rσ,h,k=>by
  cases p with
  |tup xs=>
   unfold Tg.put at h
   cases r with
   |tup hq rs=>
    have hg:=Tg.DU (own:=own) l rs rσ h k
    unfold Tg.g2
    exact⟨_,_,rfl,hq,rs.length.trans (Tg.AV l h),hg⟩
  |_=>unfold Tg.put at h;cases h
 | .nil,v,p,σ,σ3,σ4,Q,r,rσ,h,k=>by unfold Tg.put at h;cases h
 | .cons _ _,v,p,σ,σ3,σ4,Q,r,rσ,h,k=>by unfold Tg.put at h;cases h
theorem Tg.DU{K:Vo}{H:Hp}{own:Nat}:∀(g:Tg) {vs:List V} {ps:List PV} {σ:L2.St} {σ3 σ4:b3} {Q:L2.St->Hp->Prop},Reps K H vs ps->AO K H σ σ3->g.AK ps σ3=some σ4->(∀σ',AO K H σ' σ4->(g.under own=true->σ'.drop own=σ.drop own)->Q σ' H)->g.EX K vs σ H Q
 | .nil,vs,ps,σ,σ3,σ4,Q,r,rσ,h,k=>by
  cases ps with
  |nil=>
   unfold Tg.AK at h
   cases h
   cases r
   unfold Tg.EX
   exact⟨rfl,k _ rσ fun _=>rfl⟩
  |cons _ _=>unfold Tg.AK at h;cases h
 | .cons a r',vs,ps,σ,σ3,σ4,Q,r,rσ,h,k=>by
  cases ps with
  |nil=>unfold Tg.AK at h;cases h
  |cons x xs=>
   unfold Tg.AK at h
   split at h
   ·rename_i σ5 e5
    cases r with
    |cons r1 r2=>
     unfold Tg.EX
     refine⟨_,_,rfl,Tg.Di (own:=own) a r1 rσ e5 fun σ' ED d1=>Tg.DU (own:=own) r' r2 ED h fun Iu GO d2=>k Iu GO fun hb=>?_⟩
     have hb':a.under own=true/\r'.under own=true:=by simpa [Tg.under]using hb
     rw[d2 hb'.2,d1 hb'.1]
   ·cases h
 | .n _,vs,ps,σ,σ3,σ4,Q,r,rσ,h,k=>by unfold Tg.AK at h;cases h
 | .tp _,vs,ps,σ,σ3,σ4,Q,r,rσ,h,k=>by unfold Tg.AK at h;cases h
end
structure sk (X:Cx) (e:Expr) (g:Tg):Prop where
 ok:PG X e (g.g2 X.K)
structure tS (X:Cx) (es:List Expr) (g:Tg):Prop where
 ok:xm X es (g.EX X.K)
 len:(assignEach es X.env).length=g.len
def At(i:Nat){x:Str}(hN:X.N.Nodup)(hi:X.N[i]?=some x)(hx:ux X.env.scope x)(hf:X.fn x=true\/X.env.scope.names.lookup x=some .local:=by first|exact .inl rfl|exact .inr rfl|assumption):sk X (.Name x pos) (.n i):=⟨by
 have h:=sC (pos:=pos) hN hi hx hf
 unfold Tg.g2
 exact h⟩
def cM:tS X [] .nil:=⟨by unfold Tg.EX;exact sD,rfl⟩
def aP{es:List Expr}{a r:Tg}(h1:sk X e a)(h2:tS X es r)(hs:(assignEach (e::es) X.env).map (·.2)=assign e X.env::(assignEach es X.env).map (·.2):=by rfl)(hl:(assignEach (e::es) X.env).length=(assignEach es X.env).length+1:=by rfl):tS X (e::es) (.cons a r):=
 ⟨by unfold Tg.EX;exact pW h1.ok h2.ok hs,by rw[hl,h2.len];rfl⟩
def mz{es:List Expr}{k:Nat}{l:Tg}(hc:X.calm=true)(h:tS X es l)(hst:(assignEach es X.env).findIdx? (·.1)=none:=by rfl):sk X (.Tuple es k pos) (.tp l):=⟨by
 have h:=ve (pos:=pos) (k:=k) hc h.ok h.len hst
 unfold Tg.g2
 exact h⟩
def qV(te:aV)(g:Tg):bN:=fun D σ S=>te σ S (fun v S1=>match g.put v σ with|some σ'=>D.nx σ' S1|none=>False) D.ex
def yf{tg:Expr}{g:Tg}(he:a_ X e te)(hg:sk X tg g)(hs:swapsWithSole [tg] e pos.line X.env=pure false:=by rfl)(hw:swappedStores [tg] e X.env=pure none:=by rfl)
  (h1:(assignEach [tg] X.env).map (·.2)=[assign tg X.env]:=by rfl):mT X (.Assign [tg] e pos) (qV te g):=
 ⟨c_ (pX he.ok hg.ok hs hw h1) fun D σ H ⟨σ3,S,D3,rσ,rS,h,xo,n,r,bk,ct⟩=>⟨σ3,S,_,D3.ex,rσ,rS,h,xo,fun p S1 v H1 h1 rv AQ g1=>by
  try dsimp only at h1
  split at h1
  ·rename_i σ' e'
   exact Tg.Di (own:=0) g rv (rσ.mono g1) e' fun σ2 Iw _=>n _ S1 _ H1 h1 Iw AQ g1
  ·exact h1.elim⟩⟩
end
noncomputable def il{κ:Type} [DecidableEq κ](kvs:List (κ×PV))(k:κ)(v:PV):List (κ×PV):=
 if (kvs.any fun kv=>decide (kv.1=k))=true then kvs.map (fun kv=>if kv.1=k then (kv.1,v) else kv) else kvs++[(k,v)]
theorem AX.append{K:Vo}{H:Hp}{κ:Type}:∀{vs us:List (κ×V)} {ps qs:List (κ×PV)},AX K H vs ps->AX K H us qs->AX K H (vs++us) (ps++qs)
 |_,_,_,_,.nil,s=>s
 |_,_,_,_,.cons a r,s=>.cons a (AX.append r s)
def AX.put{K:Vo}{H:Hp}{κ:Type} [DecidableEq κ]{k:κ}{v:V}{p:PV}(q:Rep K H v p){vs:List (κ×V)}{ps:List (κ×PV)}(r:AX K H vs ps):AX K H (eQ vs k v) (il ps k p):=by
 have e:(vs.any fun kv=>decide (kv.1=k))=(ps.any fun kv=>decide (kv.1=k)):=by rw[je,r.any]
 unfold eQ il
 rw[e]
 split
 ·clear e
  rename_i h
  clear h
  induction r with
  |nil=>exact .nil
  |@cons k' v' p' vs' ps' a r ih=>
   rw[JG,JG]
   by_cases z:k'=k
   ·rw[if_pos z,if_pos z];exact .cons q ih
   ·rw[if_neg z,if_neg z];exact .cons a ih
 ·exact r.append (.cons q .nil)
def im(o i v:PV)(S:aq)(Q:aq->Prop):Prop:=match o with
 | .ref a=>(match S a with
  |some (.lst xs)=>(match i with | .int k=>(match oE xs.length k with|some j=>Q (AH S a (.lst (xs.set j v)))|none=>False)|_=>False)
  |some (.dct kvs)=>(match ij i with|some k=>kvs.length < sizeLine/\Q (AH S a (.dct (il kvs k v)))|none=>False)
  |_=>False)
 |_=>False
section
variable {X:Cx} {e o i:Expr} {te to ti:aV} {pos pos':Pos}
noncomputable def zI(X:Cx):V->V->V->Hp->(Hp->Prop)->Prop:=fun o i v H Q=>∃po pi pv S Q3,Rep X.K H o po/\Rep X.K H i pi/\Rep X.K H v pv/\AM X.K H S/\im po pi pv S Q3/\∀S' H',Q3 S'->AM X.K H' S'->Grow X.K H H'->Q H'
def wa(hu:X.A.units+1 < cLine):sB X (zI X):=by
 intro pins s σ H o i v ov iv u Q I ro ri rv ⟨po,pi,pv,S,Q3,r1,r2,r3,rS,q,k⟩
 unfold im at q
 split at q
 ·split at q
  ·rename_i e
   split at q
   ·split at q
    ·rename_i ej
     cases r1;cases r2
     obtain⟨vs,hv,rl⟩:=rS _ _ e
     rw[<-rl.length]at ej
     exact qf pins s σ H _ _ _ ov iv u Q I ro ri rv ⟨_,_,_,_,rfl,rfl,hv,ej,k _ _ q (rS.put hv trivial ⟨_,ay,((rl.set r3 _).mono (.mut hv trivial))⟩) (.mut hv trivial)⟩
    ·exact q.elim
   ·exact q.elim
  ·rename_i e
   split at q
   ·rename_i ek
    cases r1
    have e1:=cF r2 ek
    subst e1
    obtain⟨kv,hv,rk⟩:=rS _ _ e
    exact qN hu pins s σ H _ _ _ ov iv u Q I ro ri rv ⟨_,_,rfl,El.k hv (by rw[rk.length];exact q.1),k _ _ q.2 (rS.put hv trivial ⟨_,ay,(rk.put r3).mono (.mut hv trivial)⟩) (.mut hv trivial)⟩
   ·exact q.elim
  ·exact q.elim
 ·exact q.elim
def lg(te to ti:aV):bN:=fun D σ S=>te σ S (fun v S1=>to σ S1 (fun o S2=>ti σ S2 (fun i S3=>im o i v S3 (fun S4=>D.nx σ S4)) D.ex) D.ex) D.ex
def lX(hu:X.A.units+1 < cLine)(he:a_ X e te)(ho:a_ X o to)(hi:a_ X i ti)
  (ha:∀v,assign (.Subscript o i pos') X.env v=(do
   let ov <-holding [v] (eval o X.env)
   let iv <-holding [v,ov] (eval i X.env)
   standAt pos'
   holding [v,ov,iv] (setItem ov iv v)
   release [v,ov,iv] []):=by intro _;rfl)
  (hs:swapsWithSole [.Subscript o i pos'] e pos.line X.env=pure false:=by rfl) (hw:swappedStores [.Subscript o i pos'] e X.env=pure none:=by rfl)
  (h1:(assignEach [.Subscript o i pos'] X.env).map (·.2)=[assign (.Subscript o i pos') X.env]:=by rfl):mT X (.Assign [.Subscript o i pos'] e pos) (lg te to ti):=
 ⟨c_ (pX he.ok (vf ho.ok hi.ok (wa hu) ha) hs hw h1) fun D σ H ⟨σ3,S,D3,rσ,rS,h,xo,n,r,bk,ct⟩=>⟨σ3,S,_,D3.ex,rσ,rS,h,xo,fun v S1 v' H1 h1 rv AQ g1=>
  ⟨σ3,S1,_,D3.ex,rσ.mono g1,AQ,h1,xo.mono g1,fun o S2 o' H2 h2 ro B_ g2=>⟨σ3,S2,_,D3.ex,rσ.mono (g1.trans g2),B_,h2,xo.mono (g1.trans g2),fun i S3 i' H3 h3 ri EC g3=>
   ⟨o,i,v,S3,_,ro.mono g3,ri,rv.mono (g2.trans g3),EC,h3,fun S4 H4 h4 Ix g4=>n _ S4 _ H4 h4 (rσ.mono (g1.trans (g2.trans (g3.trans g4)))) Ix (g1.trans (g2.trans (g3.trans g4)))⟩⟩⟩⟩⟩
end
end L3
namespace L2
open PySem PySem.Spec PyProof.Rows
section
variable {X:Cx} {tg:Expr}
def zJ(K:Vo)(tl:TE):TI:=fun σ H R=>tl σ H fun x H1=>(∃a,x = .ref a/\(∃xs,SqL K H1 a xs)/\R (yJ K a) H1)\/(∃a,x = .ref a/\(∃xs,SqT K H1 a xs)/\R (zh K a) H1)\/∃z,x = .str z/\R (zx z) H1
def wb{l:Expr}{tl:TE}(hl:PE X l tl):PI X tg l (zJ X.K tl):=by
 intro pins s σ H R I h
 refine AL (hl pins s σ H _ I h) fun v s1 ⟨x,H1,I1,r1,q1⟩=>?_
 rcases q1 with⟨a,e,⟨xs,hq⟩,q⟩|⟨a,e,⟨xs,hq⟩,q⟩|⟨z,e,q⟩
 ·subst e
  cases r1
  obtain⟨its,rv,p,hz⟩:=I1.list hq
  refine Lj p.isList ?_
  refine⟨s1.heap.objs.size,[s1.heap.objs.size],_,_,H1,rfl,I1.kept (t':=s1.toks) fun b o e=>Jl _ e,ox a _,⟨_,JA _ rfl,rfl,rfl⟩,fun b hb=>?_,q⟩
  have e:b=s1.heap.objs.size:=by simpa using hb
  subst e
  exact I1.Cw (Jm _) (I1.hok.fresh (Jm _))
 ·subst e
  cases r1
  obtain⟨its,rv,p,hz⟩:=I1.tuple hq
  refine Ky (show s1.heap.IsTuple a its.toArray from p) ?_
  refine⟨s1.heap.objs.size,[s1.heap.objs.size],_,_,H1,rfl,I1.kept (t':=s1.toks) fun b o e=>Jl _ e,mF a _,⟨_,JA _ rfl,rfl,rfl⟩,fun b hb=>?_,q⟩
  have e:b=s1.heap.objs.size:=by simpa using hb
  subst e
  exact I1.Cw (Jm _) (I1.hok.fresh (Jm _))
 ·subst e
  obtain⟨t,rfl⟩:=r1
  have fin:∀ty,(ty = "str_ascii_iterator" \/ ty = "str_iterator")->zg X pins σ tg R (.ref s1.heap.objs.size) { s1 with heap:=s1.heap.push { cls:=.type ty,data:=.fields #[.str z t,.int 0 0] } }:=fun ty hty=>by
   refine⟨s1.heap.objs.size,[s1.heap.objs.size],_,_,H1,rfl,I1.kept (t':=s1.toks) fun b o e=>Jl _ e,qv hty _ z t,⟨JM _,_,JA _ rfl,rfl,rfl⟩,fun b hb=>?_,q⟩
   have e:b=s1.heap.objs.size:=by simpa using hb
   subst e
   exact I1.Cw (Jm _) (I1.hok.fresh (Jm _))
  cases ha:z.cps.all (· < 128)
  ·exact wpAny_pyIter_wide ha (fin _ (.inr rfl))
  ·exact wpAny_pyIter_ascii ha (fin _ (.inl rfl))
def we(K:Vo)(ta:TA):TI:=fun σ H R=>ta σ H fun vs H1=>∃a,vs=[.ref a]/\(((∃xs,SqL K H1 a xs)/\R (zC K a) H1)\/((∃xs,SqT K H1 a xs)/\R (zD K a) H1))
def qW{elts:List Expr}{k0:Nat}{CD:Pos}{a:Expr}{ta:TA}{p pos:Pos}(hg:Gl X "enumerate")(hm:X.mg "enumerate" = none)(hv:bootBuiltins "enumerate" = some (.type "enumerate"))(ha:PA X [a] ta)
  (hs:starEach [a] X.env=[(false,eval a X.env)]:=by rfl):PI X (.Tuple elts k0 CD) (.Call (.Name "enumerate" p) [a] [] pos) (we X.K ta):=by
 intro pins s σ H R I h
 refine Call_ (dF I hg hm hv (JU (AL (ha pos pins s σ H _ I h) fun us s1 ⟨vs,H1,I1,r1,q1⟩=>?_) hs rfl))
 obtain⟨a,e,q⟩:=q1
 subst e
 obtain⟨u,rfl,ru⟩:=eP r1
 cases ru
 rcases q with⟨⟨xs,qa⟩,q⟩|⟨⟨xs,qa⟩,q⟩
 ·obtain⟨ia,ra,pa,za⟩:=I1.list qa
  refine call_enumerate_list pa.isList fun g ge g1 gz kk=>?_
  refine Mi (s:={ s1 with heap:=g }) ge ?_
  refine⟨_,[s1.heap.objs.size+1,s1.heap.objs.size],_,_,H1,rfl,I1.kept (t':=s1.toks) kk,oU (Nat.succ_ne_self _),⟨⟨_,ge⟩,g1⟩,fun c hc=>?_,q⟩
  have hle:s1.heap.objs.size<=c:=by
   simp only[Jq,JF,Kq]at hc
   rcases hc with rfl|rfl
   ·exact KO _ _
   ·exact Jm _
  exact I1.Cw hle (I1.hok.fresh hle)
 ·obtain⟨ia,ra,pa,za⟩:=I1.tuple qa
  have la:a < s1.heap.objs.size:=by obtain⟨o,e,_⟩:=pa;exact Jr e
  refine Et.ji (show s1.heap.IsTuple a ia.toArray from pa) fun g ge g1 kk=>?_
  refine Mi (s:={ s1 with heap:=g }) ge ?_
  refine⟨_,[s1.heap.objs.size+1,s1.heap.objs.size],_,_,H1,rfl,I1.kept (t':=s1.toks) kk,mQ (Nat.succ_ne_self _) (JL (Nat.lt_succ_of_lt la)) (JL la),⟨⟨_,ge⟩,g1⟩,fun c hc=>?_,q⟩
  have hle:s1.heap.objs.size<=c:=by
   simp only[Jq,JF,Kq]at hc
   rcases hc with rfl|rfl
   ·exact KO _ _
   ·exact Jm _
  exact I1.Cw hle (I1.hok.fresh hle)
end
end L2
namespace L3
open PySem L2
structure yR where
 items:List PV
 keep:aq->Prop
def gE(K:Vo)(H0:Hp)(J:It)(src:yR):Prop:=∀(i:Nat) (S:aq) (H:Hp),Grow K H0 H->AM K H S->src.keep S->
 (∀p,src.items[i]?=some p->J.go i H/\∀x H',J.F4 i H x H'->Rep K H' x p/\AM K H' S/\Grow K H H')/\(i=src.items.length->J.stop i H)
abbrev qX:=b3->aq->(yR->aq->Prop)->cQ->Prop
inductive LI (X:Cx) (t:qX) (σ:L2.St) (H:Hp) (R:It->Hp->Prop):Prop
 |mk (σ3 S R3 E3) (rσ:AO X.K H σ σ3) (rS:AM X.K H S) (h:t σ3 S R3 E3) (xo:Ee X H E3) (k:∀src S' J H',R3 src S'->gE X.K H' J src->AM X.K H' S'->Grow X.K H H'->R J H'):LI X t σ H R
structure tT (X:Cx) (tg iter:Expr) (t:qX):Prop where
 ok:PI X tg iter (LI X t)
def lh{X:Cx}{tg iter:Expr}{t t':TI}(h:PI X tg iter t)(k:∀σ H R,t' σ H R->t σ H R):PI X tg iter t':=fun pins s σ H R I q=>h pins s σ H R I (k σ H R q)
section
variable {X:Cx} {e tg:Expr} {es:List Expr} {te:aV} {ts:List aV} {p pos:Pos}
noncomputable def bv(S:aq):PV->Option yR
 | .tup xs=>some ⟨xs,fun _=>True⟩
 | .cl xs=>some ⟨xs,fun _=>True⟩
 | .str z=>some ⟨z.cps.toList.map fun c=>.str (k6 c),fun _=>True⟩
 | .ref a=>(match S a with|some (.lst xs)=>some ⟨xs,fun S'=>S' a=some (.lst xs)⟩|_=>none)
 |_=>none
def aD(te:aV):qX:=fun σ S R E=>te σ S (fun v S1=>match bv S1 v with|some src=>R src S1|none=>False) E
end
section
variable {X:Cx} {e tg a b:Expr} {es:List Expr} {te ta tb:aV} {ts:List aV} {p pos:Pos}
def qY{K:Vo}{H0:Hp}{a:Addr}{xs:List PV}:gE K H0 (yJ K a) ⟨xs,fun S'=>S' a=some (.lst xs)⟩:=by
 intro i S H g rS hk
 obtain⟨vs,hv,rs⟩:=rS a _ hk
 refine⟨fun p hp=>?_,fun hi=>⟨vs,SqL.of hv,by rw[rs.length,hi];exact Jm _⟩⟩
 obtain⟨v,hx,rv⟩:=rs.get hp
 refine⟨⟨vs,v,SqL.of hv,hx⟩,fun x H' ⟨e,h⟩=>?_⟩
 subst e
 have:=h vs (SqL.of hv)
 rw[hx]at this
 cases this
 exact⟨rv,rS,.refl⟩
def tU{K:Vo}{H0:Hp}{a:Addr}{vs:List V}{xs:List PV}(h:SqT K H0 a vs)(rs:Reps K H0 vs xs):gE K H0 (zh K a) ⟨xs,fun _=>True⟩:=by
 intro i S H g rS _
 have hv:=g.t _ _ h
 refine⟨fun p hp=>?_,fun hi=>⟨vs,hv,by rw[rs.length,hi];exact Jm _⟩⟩
 obtain⟨v,hx,rv⟩:=rs.get hp
 refine⟨⟨vs,v,hv,hx⟩,fun x H' ⟨e,h⟩=>?_⟩
 subst e
 have:=h vs hv
 rw[hx]at this
 cases this
 exact⟨rv.mono g,rS,.refl⟩
def wf{K:Vo}{H0:Hp}{a:Addr}{vs:List V}{xs:List PV}(h:FD K H0 a vs)(rs:Reps K H0 vs xs):gE K H0 (yJ K a) ⟨xs,fun _=>True⟩:=by
 intro i S H g rS _
 have hv:=(g.c _ _ h).sq
 refine⟨fun p hp=>?_,fun hi=>⟨vs,hv,by rw[rs.length,hi];exact Jm _⟩⟩
 obtain⟨v,hx,rv⟩:=rs.get hp
 refine⟨⟨vs,v,hv,hx⟩,fun x H' ⟨e,h⟩=>?_⟩
 subst e
 have:=h vs hv
 rw[hx]at this
 cases this
 exact⟨rv.mono g,rS,.refl⟩
def tV{K:Vo}{H0:Hp}{z:Str}:gE K H0 (zx z) ⟨z.cps.toList.map fun c=>.str (k6 c),fun _=>True⟩:=by
 intro i S H g rS _
 refine⟨fun p hp=>?_,fun hi=>by show z.cps.size<=i;rw[hi,Jk,MC];exact Jm _⟩
 rw[Jx]at hp
 cases hc:z.cps.toList[i]? with
 |none=>rw[hc]at hp;cases hp
 |some c=>
  rw[hc]at hp
  cases hp
  have hc':z.cps[i]?=some c:=by simpa using hc
  refine⟨?_,fun x H' ⟨e,c',h1,h2⟩=>?_⟩
  ·show i < z.cps.size
   by_cases hi:i < z.cps.size
   ·exact hi
   ·rw[Lq (by omega)]at hc';cases hc'
  ·subst e
   rw[hc']at h1
   cases h1
   subst h2
   exact⟨.str _,rS,.refl⟩
def bA(he:a_ X e te):tT X tg e (aD te):=⟨lh (wb he.ok) fun σ H R ⟨σ3,S,R3,E3,rσ,rS,h,xo,k⟩=>⟨σ3,S,_,E3,rσ,rS,h,xo,fun v S1 v' H1 h1 rv AQ g1=>by
 split at h1
 ·rename_i src hs
  unfold bv at hs
  split at hs
  ·cases hs
   cases rv with
   |tup hq rs=>exact .inr (.inl ⟨_,rfl,⟨_,hq⟩,k _ S1 _ H1 h1 (tU hq rs) AQ g1⟩)
  ·cases hs
   cases rv with
   |cl hq rs=>exact .inl ⟨_,rfl,⟨_,hq.sq⟩,k _ S1 _ H1 h1 (wf hq rs) AQ g1⟩
  ·cases hs
   cases rv
   exact .inr (.inr ⟨_,rfl,k _ S1 _ H1 h1 tV AQ g1⟩)
  ·cases rv
   split at hs
   ·rename_i ea
    cases hs
    obtain⟨vs,hv,rs⟩:=AQ _ _ ea
    exact .inl ⟨_,rfl,⟨_,SqL.of hv⟩,k _ S1 _ H1 h1 qY AQ g1⟩
   ·cases hs
  ·cases hs
 ·exact h1.elim⟩⟩
noncomputable def bE(lo:Int)(n:Nat):List PV:=(List.range n).map fun(i:Nat)=>PV.int (lo+i)
def o7{K:Vo}{H0:Hp}{lo:Int}{n:Nat}:gE K H0 (yK lo n) ⟨bE lo n,fun _=>True⟩:=by
 intro i S H g rS _
 refine⟨fun p hp=>?_,fun hi=>by show n<=i;rw[hi];simp[bE]⟩
 unfold bE at hp
 rw[Jx]at hp
 by_cases hi:i < n
 ·rw[LQ hi]at hp
  cases hp
  refine⟨hi,fun x H' ⟨e,h⟩=>?_⟩
  subst e h
  exact⟨.int _,rS,.refl⟩
 ·rw[KH (by simpa using hi)]at hp
  cases hp
def li(ta:aV):qX:=fun σ S R E=>ta σ S (fun v S1=>match v with | .int j=>-(2 ^ 62)<=j/\j < 2 ^ 62/\R ⟨bE 0 j.toNat,fun _=>True⟩ S1|_=>False) E
def gF(hs:starEach [a] X.env=[(false,eval a X.env)])(hg:Gl X "range")(hm:X.mg "range" = none)(ha:iV X [a] [ta]):tT X tg (.Call (.Name "range" p) [a] [] pos) (li ta):=
 ⟨lh (oy hg hm ha.ok hs) fun σ H R ⟨σ3,S,R3,E3,rσ,rS,h,xo,k⟩=>⟨σ3,S,_,E3,rσ,rS,h,xo,fun v S1 v' H1 h1 rv AQ g1=>by
  split at h1
  ·cases rv
   exact⟨_,rfl,h1.1,h1.2.1,k _ S1 _ H1 h1.2.2 o7 AQ g1⟩
  ·exact h1.elim⟩⟩
noncomputable def aQ(xs:List PV):List PV:=xs.mapIdx fun i x=>.tup [.int i,x]
def o8{K:Vo}{H0:Hp}{a:Addr}{xs:List PV}:gE K H0 (zC K a) ⟨aQ xs,fun S'=>S' a=some (.lst xs)⟩:=by
 intro i S H g rS hk
 obtain⟨vs,hv,rs⟩:=rS a _ hk
 refine⟨fun p hp=>?_,fun hi=>⟨vs,SqL.of hv,by rw[rs.length,hi];simp[aQ]⟩⟩
 unfold aQ at hp
 rw[LH]at hp
 cases hx:xs[i]? with
 |none=>rw[hx]at hp;cases hp
 |some y=>
  rw[hx]at hp
  cases hp
  obtain⟨v,hx',rv⟩:=rs.get hx
  refine⟨⟨vs,v,SqL.of hv,hx'⟩,fun x H' ⟨q,x2,e1,hq,e2,h⟩=>?_⟩
  subst e1 e2
  have:=h vs (SqL.of hv)
  rw[hx']at this
  cases this
  exact⟨.tup (SqT.of ay) (.cons (.int _) (.cons (rv.mono (.new hq)) .nil)),rS.other hq,.new hq⟩
def o9{K:Vo}{H0:Hp}{a:Addr}{vs:List V}{xs:List PV}(h0:SqT K H0 a vs)(rs:Reps K H0 vs xs):gE K H0 (zD K a) ⟨aQ xs,fun _=>True⟩:=by
 intro i S H g rS _
 have hv:=g.t _ _ h0
 refine⟨fun p hp=>?_,fun hi=>⟨vs,hv,by rw[rs.length,hi];simp[aQ]⟩⟩
 unfold aQ at hp
 rw[LH]at hp
 cases hx:xs[i]? with
 |none=>rw[hx]at hp;cases hp
 |some y=>
  rw[hx]at hp
  cases hp
  obtain⟨v,hx',rv⟩:=rs.get hx
  refine⟨⟨vs,v,hv,hx'⟩,fun x H' ⟨q,x2,e1,hq,e2,h⟩=>?_⟩
  subst e1 e2
  have:=h vs hv
  rw[hx']at this
  cases this
  exact⟨.tup (SqT.of ay) (.cons (.int _) (.cons ((rv.mono g).mono (.new hq)) .nil)),rS.other hq,.new hq⟩
def b6(ta:aV):qX:=fun σ S R E=>ta σ S (fun v S1=>match v with
 | .tup xs=>R ⟨aQ xs,fun _=>True⟩ S1
 | .ref a=>(match S1 a with|some (.lst xs)=>R ⟨aQ xs,fun S'=>S' a=some (.lst xs)⟩ S1|_=>False)
 |_=>False) E
def eU{elts:List Expr}{k0:Nat}{CD:Pos}(hs:starEach [a] X.env=[(false,eval a X.env)])(hg:Gl X "enumerate")(hm:X.mg "enumerate" = none)(hv:bootBuiltins "enumerate" = some (.type "enumerate"))(ha:iV X [a] [ta]):tT X (.Tuple elts k0 CD) (.Call (.Name "enumerate" p) [a] [] pos) (b6 ta):=
 ⟨lh (qW hg hm hv ha.ok hs) fun σ H R ⟨σ3,S,R3,E3,rσ,rS,h,xo,k⟩=>⟨σ3,S,_,E3,rσ,rS,h,xo,fun v S1 v' H1 h1 rv AQ g1=>by
  split at h1
  ·cases rv with
   |tup hq rs=>exact⟨_,rfl,.inr ⟨⟨_,hq⟩,k _ S1 _ H1 h1 (o9 hq rs) AQ g1⟩⟩
  ·cases rv
   split at h1
   ·rename_i ea
    obtain⟨vs,hv,rs⟩:=AQ _ _ ea
    exact⟨_,rfl,.inl ⟨⟨_,SqL.of hv⟩,k _ S1 _ H1 h1 o8 AQ g1⟩⟩
   ·exact h1.elim
  ·exact h1.elim⟩⟩
noncomputable def bp(xs ys:List PV):List PV:=(xs.zip ys).map fun z=>.tup [z.1,z.2]
def D_(K:Vo)(H0:Hp)(ka:Bool)(a:Addr)(xs:List PV)(keep:aq->Prop):Prop:=∀S H,Grow K H0 H->AM K H S->keep S->∃vs,oR ka K H a vs/\Reps K H vs xs
def D_.tup{K:Vo}{H0:Hp}{a:Addr}{vs:List V}{xs:List PV}{keep:aq->Prop}(h:SqT K H0 a vs)(r:Reps K H0 vs xs):D_ K H0 false a xs keep:=fun _ _ g _ _=>⟨vs,g.t _ _ h,r.mono g⟩
theorem D_.lst{K:Vo}{H0:Hp}{a:Addr}{xs:List PV}{keep:aq->Prop}(h:∀S,keep S->S a=some (.lst xs)):D_ K H0 true a xs keep:=fun S _ _ rS k=>let ⟨vs,hv,r⟩:=rS _ _ (h S k);⟨vs,SqL.of hv,r⟩
def i5{K:Vo}{H0:Hp}{ka kb:Bool}{a b:Addr}{xs ys:List PV}{keep:aq->Prop}(h1:D_ K H0 ka a xs keep)(h2:D_ K H0 kb b ys keep):gE K H0 (zA ka kb K a b) ⟨bp xs ys,keep⟩:=by
 intro i S H g rS kp
 obtain⟨vs,hv,r1⟩:=h1 S H g rS kp
 obtain⟨us,hu,r2⟩:=h2 S H g rS kp
 have l1:=r1.length
 have l2:=r2.length
 refine⟨fun p hp=>?_,fun hi=>⟨vs,us,hv,hu,?_⟩⟩
 ·unfold bp at hp
  rw[Jx]at hp
  cases hz:(xs.zip ys)[i]? with
  |none=>rw[hz]at hp;cases hp
  |some z=>
   rw[hz]at hp
   cases hp
   obtain⟨e1,e2⟩:=LN.mp hz
   obtain⟨v,hx',rv⟩:=r1.get e1
   obtain⟨u,hy',ru⟩:=r2.get e2
   refine⟨⟨vs,us,v,u,hv,hu,hx',hy'⟩,fun x H' ⟨q,x2,y2,e3,hq,e4,h⟩=>?_⟩
   subst e3 e4
   obtain⟨k1,k2⟩:=h vs us hv hu
   rw[hx']at k1
   rw[hy']at k2
   cases k1;cases k2
   exact⟨.tup (SqT.of ay) (.cons (rv.mono (.new hq)) (.cons (ru.mono (.new hq)) .nil)),rS.other hq,.new hq⟩
 ·have e:(bp xs ys).length=min xs.length ys.length:=by simp[bp]
  rw[e]at hi
  by_cases hle:xs.length<=ys.length
  ·exact .inl (by omega)
  ·exact .inr (by omega)
end
section
variable {X:Cx} {iter tg c:Expr} {body:List Stmt} {ti:qX} {g:Tg} {tb:bN} {tc:iJ} {pos:Pos}
noncomputable def ll(g:Tg)(tb:bN)(D:lP)(keep:aq->Prop):List PV->b3->aq->Prop
 |[],σ,S=>keep S/\D.nx σ S
 |x::r,σ,S=>keep S/\match g.put x σ with|some σ'=>tb { D with nx:=ll g tb D keep r,ct:=ll g tb D keep r,bk:=D.nx } σ' S|none=>False
def bY(ti:qX)(g:Tg)(tb:bN):bN:=fun D σ S=>ti σ S (fun src S1=>ll g tb D src.keep src.items σ S1) D.ex
def dy(hp:PassesOwn (model X.prog X.w) X.A X.env X.xe)(hc:X.calm=true)(hi:tT X tg iter ti)(hg:sk X tg g)(hb:ie X body tb)(hs:∀x,foldedSetIterable iter X.env x=pure x:=by intro _;rfl):mT X (.For tg iter body [] pos) (bY ti g tb):=
 ⟨c_ (vj hp hc hi.ok hg.ok hb.ok hs) fun D σ H ⟨σ3,S,D3,rσ,rS,h,xo,n,r,bk,ct⟩=>⟨σ3,S,_,D3.ex,rσ,rS,h,xo,fun src S1 J H1 h1 sim AQ g1=>by
  refine⟨fun i m σ' H'=>i+m=src.items.length/\∃σ4 S',AO X.K H' σ' σ4/\AM X.K H' S'/\Grow X.K H1 H'/\ll g tb D3 src.keep (src.items.drop i) σ4 S',⟨src.items.length,K6 _,σ3,S1,rσ.mono g1,AQ,.refl,by simpa using h1⟩,?_⟩
  rintro i m σ' H' ⟨hm,σ4,S',ED,Cl,g',hw⟩
  cases hd:src.items.drop i with
  |nil=>
   rw[hd]at hw
   have hi:i=src.items.length:=by
    have:=Ke List.length hd
    rw[J9,J7]at this
    omega
   exact .inl ⟨(sim i S' H' g' Cl hw.1).2 hi,n _ S' _ H' hw.2 ED Cl (g1.trans g')⟩
  |cons x rest=>
   rw[hd]at hw
   have hx:src.items[i]?=some x:=by
    have:=Ke (fun l=>l[0]?) hd
    simpa using this
   have hrest:src.items.drop (i+1)=rest:=by
    have:=Ke List.tail hd
    simpa [List.tail_drop]using this
   have hlt:i < src.items.length:=by
    by_cases z:i < src.items.length
    ·exact z
    ·rw[KH (by omega)]at hx;cases hx
   obtain⟨go,yl⟩:=(sim i S' H' g' Cl hw.1).1 x hx
   refine .inr ⟨go,fun σ5 H5=>∃σ6 S6,AO X.K H5 σ5 σ6/\AM X.K H5 S6/\Grow X.K H1 H5/\ll g tb D3 src.keep rest σ6 S6,?_,fun v H5 hv=>?_⟩
   ·rintro σ5 H5 ⟨σ6,S6,q1,q2,q3,q4⟩
    exact⟨m - 1,by omega,by omega,σ6,S6,q1,q2,q3,by rw[hrest];exact q4⟩
   ·obtain⟨rv,GP,g5⟩:=yl v H5 hv
    obtain⟨_,hw⟩:=hw
    split at hw
    ·rename_i σ6 e6
     refine Tg.Di (own:=0) g rv (ED.mono g5) e6 fun σ7 Ga _=>?_
     exact⟨σ6,S',_,Ga,GP,hw,xo.mono (g1.trans (g'.trans g5)),fun σ8 S8 σ9 H9 q1 q2 q3 q4=>⟨σ8,S8,q2,q3,g'.trans (g5.trans q4),q1⟩,r.mono (g1.trans (g'.trans g5)),n.mono (g1.trans (g'.trans g5)),
      fun σ8 S8 σ9 H9 q1 q2 q3 q4=>⟨σ8,S8,q2,q3,g'.trans (g5.trans q4),q1⟩⟩
    ·exact hw.elim⟩⟩
def io(tc:iJ)(tb:bN):bN:=fun D σ S=>∃W:Nat->b3->aq->Prop,(∃m,W m σ S)/\∀m σ S,W m σ S->
 tc σ S (fun b S1=>if b=true then ∃N:b3->aq->Prop,(∀σ' S',N σ' S'->∃m',m' < m/\W m' σ' S')/\tb { D with nx:=N,ct:=N,bk:=D.nx } σ S1 else D.nx σ S1) D.ex
def i6(hp:PassesOwn (model X.prog X.w) X.A X.env X.xe)(hc:mS X c tc)(hb:ie X body tb):mT X (.While c body [] pos) (io tc tb):=
 ⟨c_ (pY hp hc.ok hb.ok) fun D σ H ⟨σ3,S,D3,rσ,rS,⟨W,⟨m0,w0⟩,turn⟩,xo,n,r,bk,ct⟩=>by
  refine⟨fun m σ' H'=>∃σ4 S',AO X.K H' σ' σ4/\AM X.K H' S'/\Grow X.K H H'/\W m σ4 S',⟨m0,σ3,S,rσ,rS,.refl,w0⟩,?_⟩
  rintro m σ' H' ⟨σ4,S',ED,Cl,g',w'⟩
  refine⟨σ4,S',_,D3.ex,ED,Cl,turn m σ4 S' w',xo.mono g',fun b S1 H1 h1 AQ g1=>?_⟩
  cases b with
  |true=>
   rw[if_pos rfl]at h1 ⊢
   obtain⟨N,hN,h1⟩:=h1
   refine⟨fun σ5 H5=>∃σ6 S6,AO X.K H5 σ5 σ6/\AM X.K H5 S6/\Grow X.K H H5/\N σ6 S6,?_,?_⟩
   ·rintro σ5 H5 ⟨σ6,S6,q1,q2,q3,q4⟩
    obtain⟨m',hm,w6⟩:=hN σ6 S6 q4
    exact⟨m',hm,σ6,S6,q1,q2,q3,w6⟩
   ·exact⟨σ4,S1,_,ED.mono g1,AQ,h1,xo.mono (g'.trans g1),fun σ8 S8 σ9 H9 q1 q2 q3 q4=>⟨σ8,S8,q2,q3,g'.trans (g1.trans q4),q1⟩,r.mono (g'.trans g1),n.mono (g'.trans g1),
     fun σ8 S8 σ9 H9 q1 q2 q3 q4=>⟨σ8,S8,q2,q3,g'.trans (g1.trans q4),q1⟩⟩
  |false=>
   rw[if_neg (by decide)]at h1 ⊢
   exact n _ S1 _ H1 h1 (ED.mono g1) AQ (g'.trans g1)⟩
end
noncomputable def cX:cQ:=fun _ _ _=>False
def Ee.no{X:Cx}{H:Hp}:Ee X H cX:=fun _ _ _ _ _ _ _ _ _ _ _ _ _ _ h=>h.elim
section
variable {X:Cx} {elt iter tg c:Expr} {ifs:List Expr} {scope:Scope} {pos:Pos} {ti:qX} {g:Tg} {tc:iJ} {te:aV} {fs N:Vs} {own:Nat} {fr:List Nat}
noncomputable def b_(g:Tg)(tc:iJ)(te:aV)(σ':b3)(keep:aq->Prop)(fin:List PV->aq->Prop):List PV->List PV->aq->Prop
 |[],ys,S=>keep S/\ys.length<=sizeLine/\fin ys S
 |x::r,ys,S=>keep S/\ys.length<=sizeLine/\match g.put x σ' with
  |some σ2=>tc σ2 S (fun b S3=>if b=true then te σ2 S3 (fun y S4=>b_ g tc te σ' keep fin r (ys++[y]) S4) cX else b_ g tc te σ' keep fin r ys S3) cX
  |none=>False
def bq:iJ:=fun _ S Q _=>Q true S
structure wV (X:Cx) (ifs:List Expr) (t:iJ):Prop where
 ok:PF X ifs (LT X t)
def m6{t t':TT}(h:PF X ifs t)(k:∀σ H Q,t' σ H Q->t σ H Q):PF X ifs t':=fun pins s σ H Q I q=>h pins s σ H Q I (k σ H Q q)
def bW:wV X [] bq:=⟨m6 vO fun σ H Q ⟨σ3,S,Q3,E3,rσ,rS,h,xo,k⟩=>k true S H h rS .refl⟩
def qZ(h:mS X c tc):wV X [c] tc:=⟨vP h.ok⟩
noncomputable def cR(own:Nat)(fr:List Nat)(σ:b3):b3:=List.replicate own none++fr.map fun j=>lk σ j
def tW{K:Vo}{H:Hp}{σ:L2.St}{σ3:b3}(r:AO K H σ σ3)(own:Nat)(fr:List Nat):AO K H (dW own fr σ) (cR own fr σ3):=by
 refine⟨by unfold dW cR;simp,fun i p e=>?_⟩
 unfold cR at e
 unfold dW
 by_cases hi:i < own
 ·rw[JZ (by simpa using hi),KY,if_pos hi]at e
  cases e
 ·rw[J8 (by simpa using hi),J4,Jx]at e ⊢
  cases hj:fr[i - own]? with
  |none=>rw[hj]at e;cases e
  |some j=>
   rw[hj]at e
   simp only[Option.map_some,MM]at e ⊢
   obtain⟨v,hv,rv⟩:=r.at' j p (qI e)
   exact⟨v,by rw[hv];rfl,rv⟩
def aE(ti:qX)(g:Tg)(tc:iJ)(te:aV)(own:Nat)(fr:List Nat):aV:=fun σ S Q E=>ti σ S (fun src S1=>b_ g tc te (cR own fr σ) src.keep (fun ys S2=>∀p,S2 p=none->Q (.ref p) (AH S2 p (.lst ys))) src.items [] S1) E
def kB{σ:L2.St}{H:Hp}{Q:VK}(EE:g.under own=true)(B0:Bk):LE X (aE ti g tc te own fr) σ H Q->qr (LI X ti) (g.g2 X.K) (fun σ H Q=>∃σ3 S Q3,AO X.K H σ σ3/\AM X.K H S/\tc σ3 S Q3 cX/\∀b S' H',Q3 b S'->AM X.K H' S'->Grow X.K H H'->Q b H')
  (fun σ H Q=>∃σ3 S Q3,AO X.K H σ σ3/\AM X.K H S/\te σ3 S Q3 cX/\Ef X.K H Q3 Q) own fr σ H Q:=fun⟨σ3,S,Q3,E3,rσ,rS,h,xo,k⟩=>by
 refine⟨σ3,S,_,E3,rσ,rS,h,xo,fun src S1 J H1 h1 sim AQ g1=>?_⟩
 refine⟨fun i m ys H'=>i+m=src.items.length/\∃zs S',Reps X.K H' ys zs/\AM X.K H' S'/\Grow X.K H1 H'/\b_ g tc te (cR own fr σ3) src.keep (fun ys S2=>∀p,S2 p=none->Q3 (.ref p) (AH S2 p (.lst ys))) (src.items.drop i) zs S',⟨src.items.length,K6 _,[],S1,.nil,AQ,.refl,by simpa using h1⟩,?_⟩
 rintro i m ys H' ⟨hm,zs,S',rz,Cl,g',hw⟩
 cases hd:src.items.drop i with
 |nil=>
  rw[hd]at hw
  have hi:i=src.items.length:=by
   have:=Ke List.length hd
   rw[J9,J7]at this
   omega
  refine .inl ⟨(sim i S' H' g' Cl hw.1).2 hi,by rw[rz.length];exact hw.2.1,fun D hD=>?_⟩
  exact k _ _ _ _ (hw.2.2 D (Cl.free hD)) (.ref D) (Cl.new hD ⟨_,ay,rz.mono (.new hD)⟩) (g1.trans (g'.trans (.new hD)))
 |cons x rest=>
  rw[hd]at hw
  have hx:src.items[i]?=some x:=by
   have:=Ke (fun l=>l[0]?) hd
   simpa using this
  have hrest:src.items.drop (i+1)=rest:=by
   have:=Ke List.tail hd
   simpa [List.tail_drop]using this
  have hlt:i < src.items.length:=by
   by_cases z:i < src.items.length
   ·exact z
   ·rw[KH (by omega)]at hx;cases hx
  obtain⟨go,yl⟩:=(sim i S' H' g' Cl hw.1).1 x hx
  refine .inr ⟨go,by rw[rz.length];exact hw.2.1,fun ys' H5=>∃zs' S6,Reps X.K H5 ys' zs'/\AM X.K H5 S6/\Grow X.K H1 H5/\b_ g tc te (cR own fr σ3) src.keep (fun ys S2=>∀p,S2 p=none->Q3 (.ref p) (AH S2 p (.lst ys))) rest zs' S6,?_,fun v H5 hv=>?_⟩
  ·rintro ys' H5 ⟨zs',S6,q1,q2,q3,q4⟩
   exact⟨m - 1,by omega,by omega,zs',S6,q1,q2,q3,by rw[hrest];exact q4⟩
  ·obtain⟨rv,GP,g5⟩:=yl v H5 hv
   obtain⟨_,_,hw⟩:=hw
   split at hw
   ·rename_i σ6 e6
    refine Tg.Di (own:=own) g rv ((tW rσ own fr).mono (g1.trans (g'.trans g5))) e6 fun σ7 Ga d7=>⟨d7 EE,?_⟩
    refine⟨σ6,S',_,Ga,GP,hw,fun b S8 H8 h8 Hv g8=>?_⟩
    cases b with
    |true=>
     rw[if_pos rfl]at h8 ⊢
     exact⟨σ6,S8,_,Ga.mono g8,Hv,h8,fun y S9 y' H9 h9 ry Iy g9=>⟨zs++[y],S9,(rz.mono (g5.trans (g8.trans g9))).append (.cons ry .nil),Iy,g'.trans (g5.trans (g8.trans g9)),h9⟩⟩
    |false=>
     rw[if_neg (by decide)]at h8 ⊢
     exact⟨zs,S8,rz.mono (g5.trans g8),Hv,g'.trans (g5.trans g8),h8⟩
   ·exact hw.elim
def wg(fs:Vs)(own:Nat)(fr:List Nat)(N:Vs)(EE:g.under own=true)(hc:X.calm=true)(hclos:closureFor scope X.env=pure (cg X.env fs))(hcell:∀y∈scope.names,y.2 ≠ .cell)(hkind:scope.kind = .function)
  (hnames:∀x∈scope.names,x.2 = .local->scope.names.lookup x.1=some .local) (hcl:bZ X.env fs) (hhas:k5 (relabel scope X.env).names (cg X.env fs)=true)
  (hlen:N.length=own+fr.length) (hN:(N.drop own).map some=fr.map fun j=>X.N[j]?) (hF:Bq X.env scope (cg X.env fs) (N.drop own))
  (hi:tT X tg iter ti) (hg:∀B,sk (X.Ch N scope fs B) tg g) (hf:∀B,wV (X.Ch N scope fs B) ifs tc) (he:∀B,a_ (X.Ch N scope fs B) elt te)
  (hs:∀x,foldedSetIterable iter X.env x=pure x:=by intro _;rfl):a_ X (.ListComp elt [⟨tg,iter,ifs,0⟩] scope pos) (aE ti g tc te own fr):=
 ⟨aO (s_ fs own fr N hc hclos hcell hkind hnames hcl hhas hlen hN hF hi.ok (fun B=>(hg B).ok)
  (fun B=>m6 (hf B).ok fun σ H Q ⟨σ3,S,Q3,rσ,rS,h,k⟩=>⟨σ3,S,Q3,cX,rσ,rS,h,.no,k⟩) (fun B=>aO (he B).ok fun σ H Q ⟨σ3,S,Q3,rσ,rS,h,k⟩=>⟨σ3,S,Q3,cX,rσ,rS,h,.no,k⟩) hs) fun _ _ _=>kB EE ⟨0,X.s₀,X.H₀,[],[]⟩⟩
def wj(fs:Vs)(own:Nat)(fr:List Nat)(N:Vs){i:Nat}{y:Str}{py spos:Pos}(hX:X.N.Nodup)(hix:X.N[i]?=some y)(hy:X.env.scope.names.lookup y=some .local)
  (hsw:swapsWith (.ListComp elt [⟨tg,iter,ifs,0⟩] scope pos) (some (.Name y py)) spos.line X.env=pure true)
  (EE:g.under own=true) (hc:X.calm=true) (hclos:closureFor scope X.env=pure (cg X.env fs)) (hcell:∀y∈scope.names,y.2 ≠ .cell) (hkind:scope.kind = .function)
  (hnames:∀x∈scope.names,x.2 = .local->scope.names.lookup x.1=some .local) (hcl:bZ X.env fs) (hhas:k5 (relabel scope X.env).names (cg X.env fs)=true)
  (hlen:N.length=own+fr.length) (hN:(N.drop own).map some=fr.map fun j=>X.N[j]?) (hF:Bq X.env scope (cg X.env fs) (N.drop own))
  (hi:tT X tg iter ti) (hg:∀B,sk (X.Ch N scope fs B) tg g) (hf:∀B,wV (X.Ch N scope fs B) ifs tc) (he:∀B,a_ (X.Ch N scope fs B) elt te)
  (hs:∀x,foldedSetIterable iter X.env x=pure x:=by intro _;rfl):mT X (.Assign [.Name y py] (.ListComp elt [⟨tg,iter,ifs,0⟩] scope pos) spos) (au i (aE ti g tc te own fr)):=
 ⟨c_ (tj fs own fr N hX hix hy hsw hc hclos hcell hkind hnames hcl hhas hlen hN hF hi.ok (fun B=>(hg B).ok)
  (fun B=>m6 (hf B).ok fun σ H Q ⟨σ3,S,Q3,rσ,rS,h,k⟩=>⟨σ3,S,Q3,cX,rσ,rS,h,.no,k⟩) (fun B=>aO (he B).ok fun σ H Q ⟨σ3,S,Q3,rσ,rS,h,k⟩=>⟨σ3,S,Q3,cX,rσ,rS,h,.no,k⟩) hs)
  fun D σ H ⟨σ3,S,D3,rσ,rS,h,xo,n,r,bk,ct⟩=>kB EE ⟨0,X.s₀,X.H₀,[],[]⟩ ⟨σ3,S,_,D3.ex,rσ,rS,h,xo,fun p S1 v H1 h1 rv AQ g1=>n _ S1 _ H1 h1 ((rσ.mono g1).set rv i) AQ g1⟩⟩
end
abbrev aC:=List PV->aq->bM->cQ->Prop
noncomputable def yg(K:Vo)(n:Nat)(sp:aC):Sp:=fun vs H Q _=>vs.length=n/\∃ps S Q3 E3,Reps K H vs ps/\AM K H S/\sp ps S Q3 E3/\Ef K H Q3 Q
structure EF (P:Program) (w:World) (K:Vo) (mg:Vr) (base:Heap) (k:Nat) (f:Addr) (fd:FuncData) (ps:Vs) (sp:aC):Prop where
 ok:jX P w K mg base sj k f fd ps (yg K ps.length sp)
section
variable {X:Cx} {e o:Expr} {es:List Expr} {te to:aV} {ts:List aV} {x:Str} {p pos apos cpos:Pos} {k:Nat} {f:Addr} {fd:FuncData} {ps:Vs} {sp:aC}
def ac(sp:aC)(ts:List aV):aV:=fun σ S Q E=>am ts σ S (fun ps S1=>sp ps S1 Q E) E
def q9(F:EF X.prog X.w X.K X.mg X.base k f fd ps sp)(hr:Room k X.A)(hg:Gl X x)(hm:X.mg x=some (.ref f))(hk:PySem.W.keepIn X.K (.ref f)=true)(hb:Binds X.K fd ps [])(he:starEach (e::es) X.env=(false,eval e X.env)::starEach es X.env)(ha:iV X (e::es) ts)
  (hl:ts.length=ps.length:=by rfl) (hdb:(x == ("__debug__":Str))=false:=by decide) (hpl:(backTo pos (starEach es X.env)).any (·.1)=false:=by rfl):a_ X (.Call (.Name x p) (e::es) [] pos) (ac sp ts):=
 ⟨aO (nI F.ok hr hg hm hk hb .nil uE ha.ok hdb he hpl) fun σ H Q ⟨σ3,S,Q3,E3,rσ,rS,h,xo,k⟩=>bV rσ rS h xo fun ps' S' vs H' hl' q rv Cl g=>by
  rw[JN]
  exact⟨by rw[rv.length,hl',hl],ps',S',Q3,E3,rv,Cl,q,k.mono g⟩⟩
end
noncomputable def aB(n:Nat)(args:List PV):b3:=args.map some++List.replicate (n - args.length) none
def AN(n:Nat)(t:bN):aC:=fun args S Q _=>t { nx:=fun _ S'=>Q .non S',rt:=Q,ex:=cX } (aB n args) S
def kC{K:Vo}{H:Hp}{N:Vs}{vs:List V}{ps:List PV}(r:Reps K H vs ps):AO K H (L2.eN N vs) (aB N.length ps):=by
 refine⟨by unfold L2.eN aB;simp[r.length],fun i p e=>?_⟩
 unfold aB at e
 unfold L2.eN
 by_cases hi:i < ps.length
 ·rw[JZ (by simpa using hi),Jx]at e
  cases hp:ps[i]? with
  |none=>rw[hp]at e;cases e
  |some q=>
   rw[hp]at e
   cases e
   obtain⟨v,hv,rv⟩:=r.get hp
   rw[JZ (by rw[Jk,r.length];exact hi),Jx,hv]
   exact⟨v,rfl,rv⟩
 ·rw[J8 (by simpa using hi),KY]at e
  split at e
  ·cases e
  ·cases e
section
variable {P:Program} {w:World} {K:Vo} {mg:Vr} {base:Heap}
noncomputable abbrev yh(P:Program)(w:World)(K:Vo)(mg:Vr)(base:Heap)(N:Vs)(qual:Str)(st:Stmt)(f:Addr)(cdv:Value)(A:Around)(outer:List Env)(s:Shared)(H:Hp)(E:XK):Cx:=(lJ sj P w K mg base N qual (az st) f cdv A outer s H E).Fe
def Af{x qual:Str}{st:Stmt}{f:Addr}{fd:FuncData}{N ps:Vs}{k:Nat}{t:bN}(F:EW K x qual st f fd)(S:cO N ps (az st))
  (hbody:∀(cdv:Value) (A:Around) (outer:List Env) (s:Shared) (H:Hp) (E:XK),Room k (A.deeper (PyProof.Rows.envOfC qual (az st) s.heap.objs.size f cdv))->ie (yh P w K mg base N qual st f cdv A outer s H E) (aY st) t) :
  EF P w K mg base (k+1) f fd ps (AN N.length t):=
 ⟨F.ok S (fun vs H Q E h=>h.1) fun cdv A outer s H vs Q E hr ⟨hl,ps',S',Q3,E3,rv,rS,q,kk⟩=>⟨_,(hbody cdv A outer s H E hr).ok,aB N.length ps',S',_,kC rv,rS,q,.no,fun σ3 S2 σ2 H2 h2 _ B_ g2=>kk _ S2 _ H2 h2 .non B_ g2,kk,fun _ _ _ _ h2=>h2.elim,fun _ _ _ _ h2=>h2.elim⟩⟩
end
section
variable {X:Cx} {o e f:Expr} {to te tf:aV} {pos apos cpos:Pos}
noncomputable def fV:List (aV×aV)->b3->aq->(List (PV×PV)->aq->Prop)->cQ->Prop
 |[],_,S,Q,_=>Q [] S
 |(tk,tv)::r,σ,S,Q,E=>tk σ S (fun x S1=>tv σ S1 (fun y S2=>fV r σ S2 (fun ps S3=>Q ((x,y)::ps) S3) E) E) E
noncomputable def kD:List (PV×PV)->Option (List (bf×PV))
 |[]=>some []
 |(x,y)::r=>match ij x,kD r with|some k,some l=>some ((k,y)::l)|_,_=>none
noncomputable def df(kvs more:List (bf×PV)):List (bf×PV):=more.foldl (fun acc kv=>il acc kv.1 kv.2) kvs
structure yS (X:Cx) (pos:Pos) (keys:List (Option Expr)) (values:List Expr) (CS:List (aV×aV)):Prop where
 ok:xQ X pos keys values (CS.map fun t=>(LE X t.1,LE X t.2))
def q_:yS X pos [] [] []:=⟨sW⟩
def gG{k v:Expr}{ks:List (Option Expr)}{vs:List Expr}{tk tv:aV}{CS:List (aV×aV)}(hk:a_ X k tk)(hv:a_ X v tv)(hr:yS X pos ks vs CS):yS X pos (some k::ks) (v::vs) ((tk,tv)::CS):=⟨qm hk.ok hv.ok hr.ok⟩
inductive kE (K:Vo) (H:Hp):List (V×V)->List (PV×PV)->Prop
 |nil:kE K H [] []
 |cons {a b:V} {p q:PV} {vs:List (V×V)} {ps:List (PV×PV)}:Rep K H a p->Rep K H b q->kE K H vs ps->kE K H ((a,b)::vs) ((p,q)::ps)
theorem jA:∀{CS:List (aV×aV)} {σ:L2.St} {H:Hp} {Q:List (V×V)->Hp->Prop} {σ3:b3} {S:aq} {Q3:List (PV×PV)->aq->Prop} {E3:cQ},AO X.K H σ σ3->AM X.K H S->fV CS σ3 S Q3 E3->Ee X H E3->
  (∀ps S' vs H',ps.length=CS.length->Q3 ps S'->kE X.K H' vs ps->AM X.K H' S'->Grow X.K H H'->Q vs H')->kY (CS.map fun t=>(LE X t.1,LE X t.2)) σ H Q
 |[],σ,H,Q,σ3,S,Q3,E3,rσ,rS,h,xo,k=>k [] S [] H rfl h .nil rS .refl
 |(tk,tv)::ts,σ,H,Q,σ3,S,Q3,E3,rσ,rS,h,xo,k=>
  ⟨σ3,S,_,E3,rσ,rS,h,xo,fun p S1 v H1 h1 rv AQ g1=>⟨σ3,S1,_,E3,rσ.mono g1,AQ,h1,xo.mono g1,fun p2 S2 v2 H2 h2 Iz B_ g2=>jA (rσ.mono (g1.trans g2)) B_ h2 (xo.mono (g1.trans g2)) fun ps S3 vs H3 hl h3 GM EC g3=>
   k ((p,p2)::ps) S3 ((v,v2)::vs) H3 (by rw[JB,JB,hl]) h3 (.cons (rv.mono (g2.trans g3)) (Iz.mono g3) GM) EC (g1.trans (g2.trans g3))⟩⟩
theorem kF{K:Vo}{H:Hp}:∀{vs:List (V×V)} {ps:List (PV×PV)} {l:List (bf×PV)},kE K H vs ps->kD ps=some l->∃kvs:List (bf×V),vs=kvs.map (fun kv=>(kV kv.1,kv.2))/\AX K H kvs l
 |_,_,_,.nil,h=>by cases h;exact⟨[],rfl,.nil⟩
 |_,_,l,.cons a b r,h=>by
  unfold kD at h
  split at h
  ·rename_i k l' ek el
   cases h
   obtain⟨kvs,e,q⟩:=kF r el
   refine⟨(k,_)::kvs,?_,.cons b q⟩
   rw[JG,<-e,cF a ek]
  ·cases h
def AX.merge{K:Vo}{H:Hp}{more:List (bf×V)}{m3:List (bf×PV)}(r:AX K H more m3):∀{kvs:List (bf×V)} {k3:List (bf×PV)},AX K H kvs k3->AX K H (hZ kvs more) (df k3 m3):=by
 induction r with
 |nil=>intro kvs k3 q;exact q
 |cons a r ih=>intro kvs k3 q;exact ih (q.put a)
def jB(CS:List (aV×aV)):aV:=fun σ S Q E=>∀p,S p=none->fV CS σ (AH S p (.dct [])) (fun ps S2=>S2 p=some (.dct [])/\match kD ps with|some kvs=>Q (.ref p) (AH S2 p (.dct (df [] kvs)))|none=>False) E
def re{keys:List (Option Expr)}{values:List Expr}{CS:List (aV×aV)}(h:yS X pos keys values CS)(hall:keys.all (·.isSome)=true:=by rfl)(hl:keys.length=values.length:=by rfl)(h0:keys≠[]:=by exact List.cons_ne_nil _ _)(GC:keys.length<=15:=by decide)
  (ht:CS.length<=15:=by exact Ml rfl):a_ X (.Dict keys values pos) (jB CS):=
 ⟨aO (sX h.ok hall hl h0 GC) fun σ H Q ⟨σ3,S,Q3,E3,rσ,rS,hq,xo,k⟩=>fun p hp=>by
  have g0:Grow X.K H (upd H p (.dK [])):=.new hp
  refine jA (rσ.mono g0) (rS.new hp (o:=.dct []) ⟨[],ay,.nil⟩) (hq p (rS.free hp)) (xo.mono g0) fun ps S' vs H' hl' q rv Cl g=>?_
  obtain⟨e,q⟩:=q
  obtain⟨kv,hv,rk⟩:=Cl _ _ e
  cases rk
  refine⟨hv,?_⟩
  split at q
  ·rename_i kvs ek
   obtain⟨l,el,rl⟩:=kF rv ek
   refine⟨l,el,?_,k _ _ _ _ q (.ref p) (Cl.put hv trivial ⟨_,ay,(AX.merge rl .nil).mono (.mut hv trivial)⟩) (g0.trans (g.trans (.mut hv trivial)))⟩
   have z1:∀{vs:List (V×V)} {ps:List (PV×PV)},kE X.K H' vs ps->vs.length=ps.length:=by
    intro vs ps r
    induction r with
    |nil=>rfl
    |cons _ _ _ ih=>rw[JB,JB,ih]
   have z2:=Ke List.length el
   rw[Jk,z1 rv,hl']at z2
   omega
  ·exact q.elim⟩
def lY(to te tf:aV):aV:=fun σ S Q E=>to σ S (fun x S1=>match x with
 | .ref a=>(match S1 a with
  |some (.dct _)=>te σ S1 (fun y S2=>tf σ S2 (fun z S3=>match S3 a,ij y with|some (.dct kvs),some k=>Q ((dX kvs k).getD z) S3|_,_=>False) E) E
  |_=>False)
 |_=>False) E
def rf(hu:X.A.units+1 < cLine)(ho:a_ X o to)(he:a_ X e te)(hf:a_ X f tf)(m:M2 X o "get" apos e f cpos):a_ X (.Call (.Attribute o "get" apos) [e,f] [] cpos) (lY to te tf):=
 ⟨aO (qo hu ho.ok he.ok hf.ok m) fun σ H Q ⟨σ3,S,Q3,E3,rσ,rS,h,xo,k⟩=>⟨σ3,S,_,E3,rσ,rS,h,xo,fun x S1 v H1 h1 rx AQ g1=>by
  split at h1
  ·cases rx
   split at h1
   ·rename_i ea
    obtain⟨kv,hv,rk⟩:=AQ _ _ ea
    refine⟨_,rfl,.inl ⟨_,.inl hv⟩,σ3,S1,_,E3,rσ.mono g1,AQ,h1,xo.mono g1,fun y S2 y' H2 h2 ry B_ g2=>⟨σ3,S2,_,E3,rσ.mono (g1.trans g2),B_,h2,xo.mono (g1.trans g2),fun z S3 z' H3 h3 rz EC g3=>?_⟩⟩
    split at h3
    ·rename_i kvs k' eb ek
     obtain⟨kv3,IA,Hw⟩:=EC _ _ eb
     have e1:=cF (ry.mono g3) ek
     subst e1
     refine⟨_,DGet.k IA,k _ S3 _ H3 h3 ?_ EC (g1.trans (g2.trans g3))⟩
     cases ev:dX kvs k' with
     |none=>rw[Hw.valN ev];exact rz
     |some w=>
      obtain⟨w',hw,rw'⟩:=Hw.val ev
      rw[hw];exact rw'
    ·exact h3.elim
   ·exact h1.elim
  ·exact h1.elim⟩⟩
def nX(kvs:List (bf×Int))(te tf:aV):aV:=fun σ S Q E=>te σ S (fun y S2=>tf σ S2 (fun z S3=>match ij y with|some k=>Q (((kvs.find? fun kv=>decide (kv.1=k)).map fun kv=>PV.int kv.2).getD z) S3|none=>False) E) E
def wk{x:Str}{px:Pos}{a:Addr}{kvs:List (bf×Int)}(hu:X.A.units+1 < cLine)(hg:Gl X x)(hm:X.mg x=some (.ref a))(hD:KD X.prog X.w X.K a (kvs.map fun kv=>(kv.1,V.int kv.2)))(he:a_ X e te)(hf:a_ X f tf)(m:M2 X (.Name x px) "get" apos e f cpos)
  (hd:(x == ("__debug__":Str))=false:=by decide):a_ X (.Call (.Attribute (.Name x px) "get" apos) [e,f] [] cpos) (nX kvs te tf):=
 ⟨aO (tw hu hg hm hD he.ok hf.ok m hd) fun σ H Q ⟨σ3,S,Q3,E3,rσ,rS,h,xo,k⟩=>⟨σ3,S,_,E3,rσ,rS,h,xo,fun y S2 y' H2 h2 ry B_ g2=>⟨σ3,S2,_,E3,rσ.mono g2,B_,h2,xo.mono g2,fun z S3 z' H3 h3 rz EC g3=>by
  split at h3
  ·rename_i k' ek
   have e1:=cF (ry.mono g3) ek
   subst e1
   refine⟨_,rfl,k _ S3 _ H3 h3 ?_ EC (g2.trans g3)⟩
   have:∀l:List (bf×Int),Rep X.K H3 ((fD (l.map fun kv=>(kv.1,V.int kv.2)) k').getD z') (((l.find? fun kv=>decide (kv.1=k')).map fun kv=>PV.int kv.2).getD z):=by
    intro l
    induction l with
    |nil=>exact rz
    |cons q r ih=>
     rw[JG,List.find?_cons]
     by_cases e:q.1=k'
     ·rw[BX e,JV e];exact .int _
     ·rw[BB e,JK e];exact ih
   exact this kvs
  ·exact h3.elim⟩⟩⟩
def lZ(te:aV):aV:=fun σ S Q E=>te σ S (fun x S1=>match x with
 | .ref a=>(match S1 a with|some (.lst xs)=>∀p,S1 p=none->Q (.ref p) (AH S1 p (.lst xs.reverse))|_=>False)
 |_=>False) E
def wm{p1 p2 q1 q2:Pos}(hs:starEach [e] X.env=[(false,eval e X.env)])(hc:X.calm=true)(he:a_ X e te)(Fm:Gl X "list")(hm1:X.mg "list" = none)(EM:Gl X "reversed")(hm2:X.mg "reversed" = none):a_ X (.Call (.Name "list" p1) [.Call (.Name "reversed" p2) [e] [] q2] [] q1) (lZ te):=
 ⟨aO (mP hc he.ok Fm hm1 EM hm2 hs rfl) fun σ H Q ⟨σ3,S,Q3,E3,rσ,rS,h,xo,k⟩=>⟨σ3,S,_,E3,rσ,rS,h,xo,fun x S1 v H1 h1 rx AQ g1=>by
  split at h1
  ·cases rx
   split at h1
   ·rename_i ea
    obtain⟨vs,hv,rs⟩:=AQ _ _ ea
    exact⟨_,_,rfl,SqL.of hv,fun q hq=>k _ _ _ _ (h1 q (AQ.free hq)) (.ref q) (AQ.new hq ⟨_,ay,rs.reverse.mono (.new hq)⟩) (g1.trans (.new hq))⟩
   ·exact h1.elim
  ·exact h1.elim⟩⟩
end
def cf:R3:=d8 fun i j=>.int (i - j)
def fF:R3:=fM (fun _ j=>j≠0) fun i j=>.int (i.fmod j)
def iM:R3:=fM lS fun i j=>.int (i.fdiv j)
def rg:R3:=fM vn fun i j=>.int (i ^ j.toNat)
def pQ:R3:=d8 fun i j=>.bl (decide (i < j))
def m7:R3:=d8 fun i j=>.bl (decide (j < i))
def yi:R3:=d8 fun i j=>.bl (decide (j<=i))
section
variable {X:Cx}
def eO:ig X (binaryOp .Sub) cf:=v6
def eV:ig X (binaryOp .Mod) fF:=v7
def lm:ig X (binaryOp .FloorDiv) iM:=tI
def yj:ig X (binaryOp .Pow) rg:=v8
def m8:ig X (compareOp .Lt) pQ:=xX
def m9:ig X (compareOp .Gt) m7:=xY
def zK:ig X (compareOp .GtE) yi:=xZ
end
def sn{A:Around}{k:Nat}(hr:Room k A):A.units+1 < cLine:=by have:=hr.un;omega
def gH{A:Around}{k:Nat}(hr:Room k A):A.units+150 < cLine:=by have:=hr.un;omega
def dY{A:Around}{k:Nat}(hr:Room k A):A.units+160 < cLine:=by have:=hr.un;omega
structure yT (K:Vo) (mg:Vr) (x:Str) (st:Stmt) (ps:Vs) (f:Addr) (fd:FuncData):Prop where
 F:EW K x x st f fd
 b:Binds K fd ps []
 k:PySem.W.keepIn K (.ref f)=true
 m:mg x=some (.ref f)
def EF.zero{P:Program}{w:World}{K:Vo}{mg:Vr}{base:Heap}{k:Nat}{f:Addr}{fd:FuncData}{ps:Vs}{sp:aC}(h:sp=fun _ _ _ _=>False):EF P w K mg base k f fd ps sp:=by
 subst h
 exact⟨⟨fun vs H Q E q=>q.1,fun A outer s H args us vs Q E _ _ _ _ ⟨_,_,_,_,_,_,_,q,_⟩=>q.elim⟩⟩
def zL{K:Vo}{H:Hp}{a:Addr}{ns:Vu}{sp:aC}(hO:sY H)(hS:SqL K H a (ns.map V.int))(h:sp [.cl (ns.map PV.int)] (fun _=>none) (fun v _=>v = .bl true) cX):yg K 1 sp [.ref a] H (fun v _=>v = .bl true) fun _ _ _=>False:=by
 have hr:∀l:List Int,Reps K H (l.map V.int) (l.map PV.int):=by
  intro l
  induction l with
  |nil=>exact .nil
  |cons x r ih=>exact .cons (.int x) ih
 refine⟨rfl,[.cl (ns.map PV.int)],fun _=>none,_,cX,.cons (.cl (vs:=ns.map V.int) ?_ (hr ns)) .nil,(fun b o e=>by simp at e),h,fun p S' v H' q rv rS g=>?_⟩
 ·rcases hS with(q|q)|q
  ·rcases hO a with z|⟨o,xs,z⟩
   ·rw[z]at q;cases q
   ·rw[z]at q;cases q
  ·exact .inl q
  ·exact .inr q
 ·subst q
  cases rv
  rfl
end L3
namespace L2
open PySem PySem.Spec PyProof.Rows
end L2
namespace HT
open PySem PySem.Spec PyProof.Rows
end HT
namespace L2
open PySem PySem.Spec PyProof.Rows
end L2
namespace L3
open PySem L2
end L3
namespace L2
open PySem PySem.Spec PyProof.Rows
section
variable {X:Cx}
noncomputable def tX:V->List V->Hp->VK->Prop:=fun x vs H Q=>∃(l:Addr) (xs:List V) (j:Nat) (y:V),x = .ref l/\vs=[.int j,y]/\H l=some (.lst xs)/\j<=xs.length/\xs.length < sizeLine/\Q .non (upd H l (.lst (xs.take j++y::xs.drop j)))
def o_:wT X "list.insert" tX:=by
 intro pins s σ H x vs v us Q I rx rv h
 obtain⟨l,xs,j,y,rfl,rfl,hH,hj,hz,q⟩:=h
 cases rx
 cases rv with
 |@cons _ u0 _ IB r1 rr=>
  obtain⟨u,rfl,ru⟩:∃u,IB=[u]/\RelV y u:=by
   cases rr with
   |@cons _ u _ us r2 r3=>cases r3;exact⟨u,rfl,r2⟩
  obtain⟨tk,rfl⟩:∃tk,u0 = .int (j:Int) tk:=r1
  obtain⟨z,its,n,r,hl,e⟩:=I.C_ hH
  have hfit:¬(!Builtin.List.listFitsIndex (j:Int))=true:=by
   have:j < 2 ^ 62:=L4 hj (JC hz (by decide))
   simp[Builtin.List.listFitsIndex]
   omega
  have hs1:its.toArray.size<=sizeLine:=by rw[Jo];omega
  generalize hx:(j:Int)=x at hfit
  refine LF F.slot_list_insert ⟨_,e,rfl⟩ F.entry_list_insert (F.args_list_insert_3 _ _ _) (PySem.AutoSeq1.list_insert_list_int_val_1 l its.toArray n x tk u hfit hs1) ⟨e,?_⟩
  refine⟨.non,_,I.D8 (its':=its.take j++u::its.drop j) hH e ?_ ((r.take j).append (.cons ru (r.drop j))) ?_,rfl,q⟩
  ·show((its.toArray.extract 0 (if x < 0 then (x+(its.toArray.size:Int)).toNat else min x.toNat its.toArray.size)).push u++its.toArray.extract (if x < 0 then (x+(its.toArray.size:Int)).toNat else min x.toNat its.toArray.size))=_
   have hl2:its.length=xs.length:=r.length.symm
   have ek:(if x < 0 then (x+(its.toArray.size:Int)).toNat else min x.toNat its.toArray.size)=j:=by
    rw[if_neg (by omega),<-hx,Lz,Jo]
    omega
   rw[ek]
   apply Array.toList_inj.mp
   simp[List.extract_eq_take_drop]
   exact Lr (by rw[J9];exact Jm _)
  ·rw[Jj,JB,Ko,J9]
   omega
end
end L2
namespace L3
open PySem L2
section
variable {X:Cx} {a b c:Expr} {ta tb tc:aV} {pos:Pos}
def i7:my:=fun x ps S Q=>match x,ps with
 | .ref a,[.int i,y]=>(match S a with|some (.lst xs)=>0<=i/\i<=xs.length/\xs.length < sizeLine/\Q .non (AH S a (.lst (xs.take i.toNat++y::xs.drop i.toNat)))|_=>False)
 |_,_=>False
def rh:oZ X "list.insert" i7:=⟨fun pins s σ H x xs v us Q I rx rs ⟨px,ps,S,Q3,r1,rp,rS,q,k⟩=>by
 unfold i7 at q
 split at q
 ·rename_i i y
  split at q
  ·rename_i e
   cases r1
   cases rp with
   |cons b rr=>
    cases b
    cases rr with
    |cons b2 rr=>
     cases rr
     obtain⟨vs,hv,rl⟩:=rS _ _ e
     obtain⟨j,rfl⟩:=KZ q.1
     exact o_ pins s σ H _ _ v us Q I rx rs ⟨_,_,j,_,rfl,rfl,hv,by rw[rl.length];have:=q.2.1;omega,by rw[rl.length];exact q.2.2.1,k _ _ _ _ q.2.2.2 .non (rS.put hv trivial ⟨_,ay,((rl.take j).append (.cons b2 (rl.drop j))).mono (.mut hv trivial)⟩) (.mut hv trivial)⟩
  ·exact q.elim
 ·exact q.elim⟩
end
end L3
namespace L2
open PySem PySem.Spec PyProof.Rows PySem.AutoSeq1
end L2
namespace L3
open PySem L2
end L3
namespace C
open PySem L2 L3
noncomputable def k_SIDES_FROM:List (bf×Int):=[(Sum.inr "then",1),(Sum.inr "either",1),(Sum.inr "take",3),(Sum.inr "often",1)]
def eW:bN:=(ag (au 3 (aE (aD (bt (v3 0) (kz (v3 1)) (kz (c3 (.int 63))))) (.n 0) bq (ap jp [(v3 0),(ah cf (c3 (.int 0)) (v3 0))]) 1 []))
  (ag (au 4 (ah aW (c3 (.int 7919)) (v3 1)))
  (ag (bY (aD (v3 3)) (.n 2) (au 4 (ah fF (ah aW (ah iW (v3 4) (c3 (.int 48271))) (ah fF (v3 2) (c3 (.int 2147483629)))) (c3 (.int 2147483647)))))
  (aw (jB [((c3 (.str "seed")),(v3 4)),((c3 (.str "number")),(c3 (.int 0))),((c3 (.str "left")),(lZ (aE (aD (v3 3)) (.n 0) (aS (ah yi (v3 0) (ah rg (c3 (.int 10)) (c3 (.int 18))))) (v3 0) 1 [])))])))))
def eX:bN:=(ag (io (j1 (aS (ah (bc false) (ah ae (v3 0) (c3 (.str "number"))) (c3 (.int 0)))) (aS (ah m7 (ap b9 [(ah ae (v3 0) (c3 (.str "left")))]) (c3 (.int 0))))) (lg (cH "list" lW (ah ae (v3 0) (c3 (.str "left"))) []) (v3 0) (c3 (.str "number"))))
  (ag (au 2 (ah ae (v3 0) (c3 (.str "number"))))
  (ag (bo (aS (ah m7 (v3 2) (c3 (.int 0)))) (ag (lg (ah iM (v3 2) (v3 1)) (v3 0) (c3 (.str "number")))
  (aw (ah fF (v3 2) (v3 1)))) aM)
  (ag (au 3 (ah fF (ah aW (ah iW (ah ae (v3 0) (c3 (.str "seed"))) (c3 (.int 48271))) (c3 (.int 7919))) (c3 (.int 2147483647))))
  (ag (lg (ah fF (ah aW (ah iW (v3 3) (c3 (.int 40692))) (c3 (.int 104729))) (c3 (.int 2147483399))) (v3 0) (c3 (.str "seed")))
  (ag (au 4 (ah fF (ah iW (ah ae (v3 0) (c3 (.str "seed"))) (ah ae (v3 0) (c3 (.str "seed")))) (c3 (.int 2147483563))))
  (aw (ah fF (ah aW (ah iW (ah fF (ah iW (v3 3) (v3 3)) (c3 (.int 2147483629))) (c3 (.int 2147483563))) (v3 4)) (v3 1)))))))))
def fW:bN:=(ag (o6 2 3 (ap jp [(v3 0),(ah cf (c3 (.int 0)) (v3 0))]) (v3 1))
  (ag (io (aS (ah m7 (v3 3) (c3 (.int 0)))) (o6 2 3 (v3 3) (ah fF (v3 2) (v3 3))))
  (aw (av [(ah iM (v3 0) (v3 2)),(ah iM (v3 1) (v3 2))]))))
def d9(AF:aC):bN:=(ag (au 2 (c3 (.str "abcdefghijklmnopqrstuvwxyz")))
  (ag (au 3 (bm [(c3 (.str "jars")),(c3 (.str "deed")),(c3 (.str "rest")),(c3 (.str "pay")),(c3 (.str "put")),(c3 (.str "then")),(c3 (.str "either")),(c3 (.str "take")),(c3 (.str "often")),(c3 (.str "use"))]))
  (ag (au 5 (cH "str" kA (c3 (.str "")) [(aE (li (ac AF [(v3 0),(c3 (.int 6))])) (.n 0) bq (ah ae (v3 2) (ac AF [(v3 1),(c3 (.int 26))])) 1 [0,2])]))
  (ag (jz 6 7 8 (av [(ac AF [(v3 0),(ah aW (ap b9 [(v3 5)]) (c3 (.int 1)))]),(ac AF [(v3 0),(c3 (.int 26))]),(ah (bc false) (ac AF [(v3 0),(c3 (.int 2))]) (c3 (.int 0)))]))
  (ag (au 9 (bm []))
  (ag (bY (li (v3 1)) (.n 4) (ag (au 10 (ah aW (ah aW (bt (v3 5) lD (kz (v3 6))) (ah ae (v3 2) (ah fF (ah aW (v3 7) (v3 4)) (c3 (.int 26))))) (bt (v3 5) (kz (v3 6)) lD)))
  (ag (bo (mV (aS (v3 8))) (au 10 (cH "str" kA (c3 (.str "")) [(aE (li (ah aW (c3 (.int 1)) (ac AF [(v3 0),(c3 (.int 6))]))) (.n 0) bq (ah ae (v3 2) (ac AF [(v3 1),(c3 (.int 26))])) 1 [0,2])])) aM)
  (ag (io (jk (aS (ah (iL false) (v3 10) (v3 3))) (aS (ah (iL false) (v3 10) (v3 9)))) (au 10 (ah aW (ah ae (v3 2) (ah fF (ah aW (cH "str" ik (v3 2) [(ah ae (v3 10) (c3 (.int 0)))]) (c3 (.int 1))) (c3 (.int 26)))) (bt (v3 10) (kz (c3 (.int 1))) lD))))
  (aG (cH "list" bj (v3 9) [(v3 10)]))))))
  (aw (v3 9))))))))
def eY(AF DI:aC):bN:=(ag (au 1 (ac AF [(v3 0),(c3 (.int 4))]))
  (ag (bo (aS (ah (bc false) (v3 1) (c3 (.int 0)))) (aw (av [(c3 (.int 0)),(c3 (.int 1))])) aM)
  (ag (bo (aS (ah pQ (v3 1) (c3 (.int 3)))) (aw (av [(ah aW (c3 (.int 1)) (ac AF [(v3 0),(c3 (.int 5))])),(c3 (.int 1))])) aM)
  (aw (ac DI [(ac AF [(v3 0),(c3 (.int 1000))]),(ah aW (c3 (.int 1)) (ac AF [(v3 0),(c3 (.int 9))]))])))))
def cE(AF DA:aC):bN:=(ag (au 2 (ac AF [(v3 0),(c3 (.int 7))]))
  (ag (bo (aS (ah (bc false) (v3 2) (c3 (.int 0)))) (aw (av [(c3 (.str "rest"))])) aM)
  (ag (bo (jk (aS (ah pQ (v3 2) (c3 (.int 4)))) (aS (ah (bc false) (ap b9 [(v3 1)]) (c3 (.int 0))))) (aw (av [(c3 (.str "pay")),(ac DA [(v3 0)])])) aM)
  (ag (au 3 (ah ae (bm [(c3 (.int 1)),(c3 (.int 2)),(ah aW (c3 (.int 1)) (ac AF [(v3 0),(c3 (.int 9))]))]) (ac AF [(v3 0),(c3 (.int 3))])))
  (aw (av [(c3 (.str "put")),(ah ae (v3 1) (ac AF [(v3 0),(ap b9 [(v3 1)])])),(v3 3)]))))))
def eZ(AF AR s0:aC):bN:=(ag (au 4 (ac AF [(v3 0),(c3 (.int 12))]))
  (ag (bo (jk (aS (ah (bc false) (v3 3) (c3 (.int 0)))) (jk (aS (ah pQ (ah ae (v3 2) (c3 (.int 0))) (c3 (.int 2)))) (aS (ah pQ (v3 4) (c3 (.int 3)))))) (aw (ac AR [(v3 0),(v3 1)])) aM)
  (ag (bo (aS (ah pQ (v3 4) (c3 (.int 5)))) (ag (lg (ah cf (ah ae (v3 2) (c3 (.int 0))) (c3 (.int 1))) (v3 2) (c3 (.int 0)))
  (aw (av [(c3 (.str "often")),(ac s0 [(v3 0),(v3 1),(v3 2),(ah cf (v3 3) (c3 (.int 1)))])]))) aM)
  (ag (lg (ah cf (ah ae (v3 2) (c3 (.int 0))) (c3 (.int 2))) (v3 2) (c3 (.int 0)))
  (ag (au 5 (ac s0 [(v3 0),(v3 1),(v3 2),(ah cf (v3 3) (c3 (.int 1)))]))
  (ag (au 6 (ac s0 [(v3 0),(v3 1),(v3 2),(ah cf (v3 3) (c3 (.int 1)))]))
  (ag (bo (aS (ah pQ (v3 4) (c3 (.int 8)))) (aw (av [(c3 (.str "then")),(v3 5),(v3 6)])) aM)
  (ag (bo (jk (aS (ah (bc false) (v3 4) (c3 (.int 8)))) (aS (ah (bc false) (ap b9 [(v3 1)]) (c3 (.int 0))))) (aw (av [(c3 (.str "either")),(v3 5),(v3 6)])) aM)
  (ag (au 7 (ah ae (bm [(c3 (.int 1)),(c3 (.int 1)),(c3 (.int 2)),(ah aW (c3 (.int 1)) (ac AF [(v3 0),(c3 (.int 9))]))]) (ac AF [(v3 0),(c3 (.int 4))])))
  (aw (av [(c3 (.str "take")),(ah ae (v3 1) (ac AF [(v3 0),(ap b9 [(v3 1)])])),(v3 7),(v3 5),(v3 6)])))))))))))
def b7(s0:aC):bN:=(ag (bo (aS (ah (bc false) (ah ae (v3 0) (c3 (.int 0))) (c3 (.str "then")))) (aw (ah iW (ac s0 [(ah ae (v3 0) (c3 (.int 1)))]) (ac s0 [(ah ae (v3 0) (c3 (.int 2)))]))) aM)
  (ag (bo (jk (aS (ah (bc false) (ah ae (v3 0) (c3 (.int 0))) (c3 (.str "either")))) (aS (ah (bc false) (ah ae (v3 0) (c3 (.int 0))) (c3 (.str "take"))))) (aw (ah aW (ac s0 [(ah ae (v3 0) (dG bn (c3 (.int 2))))]) (ac s0 [(ah ae (v3 0) (dG bn (c3 (.int 1))))]))) aM)
  (aw (c3 (.int 1)))))
def bU(Bf s0:aC):bN:=(ag (bo (aS (ah (bc false) (ah ae (v3 0) (c3 (.int 0))) (c3 (.str "often")))) (aw (ah aW (ac Bf [(ah ae (v3 0) (c3 (.int 1)))]) (ac s0 [(ah ae (v3 0) (c3 (.int 1)))]))) aM)
  (ag (bo (aS (ah (iL false) (ah ae (v3 0) (c3 (.int 0))) (av [(c3 (.str "then")),(c3 (.str "either")),(c3 (.str "take"))]))) (aw (ah aW (ac s0 [(ah ae (v3 0) (dG bn (c3 (.int 2))))]) (ac s0 [(ah ae (v3 0) (dG bn (c3 (.int 1))))]))) aM)
  (aw (c3 (.int 0)))))
def ci(DB Bf Cp AR:aC):bN:=(ag (au 4 (ac DB [(v3 0),(v3 1),(bm [(ah cf (v3 2) (c3 (.int 1)))]),(c3 (.int 5))]))
  (ag (bo (aS (ah m7 (ah aW (ac Bf [(v3 4)]) (ac Cp [(v3 4)])) (v3 3))) (au 4 (av [(c3 (.str "then")),(av [(c3 (.str "often")),(ac AR [(v3 0),(v3 1)])]),(ac AR [(v3 0),(v3 1)])])) aM)
  (aw (v3 4))))
def d_(B3 AF CF:aC):bN:=(ag (au 4 (ac B3 [(v3 0),(c3 (.int 8))]))
  (ag (au 5 (ap bS [(bt (v3 4) lD (kz (ac AF [(v3 0),(ah aW (v3 1) (c3 (.int 1)))])))]))
  (ag (au 6 (ah ae (bm [(c3 (.int 0)),(c3 (.int 4))]) (ac AF [(v3 0),(c3 (.int 2))])))
  (ag (au 7 (ah aW (c3 (.int 1)) (ac AF [(v3 0),(v3 2)])))
  (ag (au 8 (aE (li (v3 7)) (.n 0) bq (av [(ah ae (v3 6) (ah aW (v3 2) (v3 0))),(ac CF [(v3 1),(v3 3),(v3 5),(ah iM (c3 (.int 24)) (v3 4))])]) 1 [0,6,5,7,3,4]))
  (aw (av [(v3 5),(ap bS [(v3 8)])])))))))
def fX:bN:=(aw (bt (v3 0) (kz (nX C.k_SIDES_FROM (ah ae (v3 0) (c3 (.int 0))) (ap b9 [(v3 0)]))) lD))
def fY(Cq s0:aC):bN:=(ag (au 1 (bm [(v3 0)]))
  (ag (bY (aD (ac Cq [(v3 0)])) (.n 2) (aG (cH "list" aH (v3 1) [(ac s0 [(v3 2)])])))
  (aw (v3 1))))
def lp(DJ:aC):bN:=(aw (ap b9 [(ac DJ [(v3 0)])]))
def dJ(s0:aC):bN:=(ag (bo (aS (ah (bc false) (ah ae (v3 0) (c3 (.int 0))) (c3 (.str "then")))) (aw (av [(ac s0 [(ah ae (v3 0) (c3 (.int 1)))]),(ac s0 [(ah ae (v3 0) (c3 (.int 2)))])])) aM)
  (ag (bo (aS (ah (bc false) (ah ae (v3 0) (c3 (.int 0))) (c3 (.str "either")))) (aw (av [(c3 (.int 0)),(ac s0 [(ah ae (v3 0) (c3 (.int 1)))])])) aM)
  (ag (bo (aS (ah (bc false) (ah ae (v3 0) (c3 (.int 0))) (c3 (.str "take")))) (aw (av [(c3 (.int 1)),(ac s0 [(ah ae (v3 0) (c3 (.int 4)))])])) aM)
  (aw (av [])))))
def dL(EN Cm s0:aC):bN:=(ag (bo (aS (ah (bc false) (v3 1) (c3 (.int 0)))) (aw (v3 2)) aM)
  (ag (bo (aS (ah (bc false) (ah ae (v3 0) (c3 (.int 0))) (c3 (.str "often")))) (aw (av [(av [(c3 (.int 1)),(ac s0 [(ah ae (v3 0) (c3 (.int 1))),(ah cf (v3 1) (c3 (.int 1))),(v3 2)])])])) aM)
  (ag (au 3 (ah ae (v3 0) (dG bn (c3 (.int 2)))))
  (ag (au 4 (ah ae (v3 0) (dG bn (c3 (.int 1)))))
  (ag (au 5 (ah aW (c3 (.int 1)) (ac EN [(v3 3)])))
  (ag (au 6 (oY (aS (ah pQ (v3 1) (v3 5))) (c3 (.int 0)) (c3 (.int 1))))
  (ag (au 7 (oY (aS (ah (bc false) (v3 6) (c3 (.int 0)))) (ac s0 [(v3 3),(ah cf (v3 1) (c3 (.int 1))),(v3 2)]) (ac s0 [(v3 4),(ah cf (v3 1) (v3 5)),(v3 2)])))
  (ag (bo (aS (ah (bc true) (ah ae (v3 0) (c3 (.int 0))) (c3 (.str "then")))) (aw (av [(v3 6),(v3 7)])) aM)
  (ag (bo (aS (ah (bc false) (v3 6) (c3 (.int 0)))) (aw (av [(v3 7),(ac Cm [(v3 4)])])) aM)
  (aw (av [(ac Cm [(v3 3)]),(v3 7)])))))))))))
def e7(s0:aC):bN:=(ag (bo (aS (ah (bc false) (ah ae (v3 0) (c3 (.int 0))) (c3 (.str "put")))) (aG (cH "list" bj (v3 2) [(ah ae (v3 0) (c3 (.int 1)))])) aM)
  (ag (bo (aS (ah (bc false) (ah ae (v3 0) (c3 (.int 0))) (c3 (.str "often")))) (aG (ac s0 [(ah ae (v3 0) (c3 (.int 1))),(v3 1),(v3 2)])) aM)
  (bo (aS (ah (iL false) (ah ae (v3 0) (c3 (.int 0))) (av [(c3 (.str "then")),(c3 (.str "either")),(c3 (.str "take"))]))) (ag (bo (jk (aS (ah (bc true) (ah ae (v3 0) (c3 (.int 0))) (c3 (.str "take")))) (aS (ah (iL false) (ah ae (v3 0) (c3 (.int 1))) (v3 1)))) (aG (ac s0 [(ah ae (v3 0) (dG bn (c3 (.int 2)))),(v3 1),(v3 2)])) aM)
  (aG (ac s0 [(ah ae (v3 0) (dG bn (c3 (.int 1)))),(v3 1),(v3 2)]))) aM)))
def cI(DC:aC):bN:=(ag (au 1 (bm []))
  (ag (bY (aD (ah ae (v3 0) (c3 (.int 0)))) (.n 2) (ag (au 3 (bm []))
  (ag (bY (aD (ah ae (v3 0) (c3 (.int 1)))) (.tp (.cons (.n 4) (.cons (.n 5) .nil))) (aG (ac DC [(v3 5),(v3 1),(v3 3)])))
  (au 1 (v3 3)))))
  (aw (v3 1))))
def dg(s0:aC):bN:=(ag (bo (aS (ah (bc false) (ah ae (v3 0) (c3 (.int 0))) (c3 (.str "put")))) (aw (av [(c3 (.str "put")),(lY (v3 1) (ah ae (v3 0) (c3 (.int 1))) (ah ae (v3 0) (c3 (.int 1)))),(ah ae (v3 0) (c3 (.int 2)))])) aM)
  (ag (bo (aS (ah (bc false) (ah ae (v3 0) (c3 (.int 0))) (c3 (.str "often")))) (aw (av [(c3 (.str "often")),(ac s0 [(ah ae (v3 0) (c3 (.int 1))),(v3 1)])])) aM)
  (ag (bo (aS (ah (iL false) (ah ae (v3 0) (c3 (.int 0))) (av [(c3 (.str "then")),(c3 (.str "either")),(c3 (.str "take"))]))) (ag (au 2 (av [(ac s0 [(ah ae (v3 0) (dG bn (c3 (.int 2)))),(v3 1)]),(ac s0 [(ah ae (v3 0) (dG bn (c3 (.int 1)))),(v3 1)])]))
  (ag (bo (aS (ah (bc false) (ah ae (v3 0) (c3 (.int 0))) (c3 (.str "take")))) (aw (ah aW (av [(c3 (.str "take")),(lY (v3 1) (ah ae (v3 0) (c3 (.int 1))) (ah ae (v3 0) (c3 (.int 1)))),(ah ae (v3 0) (c3 (.int 2)))]) (v3 2))) aM)
  (aw (ah aW (bt (v3 0) lD (kz (c3 (.int 1)))) (v3 2))))) aM)
  (aw (v3 0)))))
end C
namespace Zu
open PySem Zt
open Sem (wp)
def nn{a b:Nat}(h:a≠b):@Ne Addr a b:=h
end Zu
namespace L2
open PySem PySem.Spec PyProof.Rows
end L2
namespace L3
open PySem L2
end L3
namespace L2
open PySem PySem.Spec PyProof.Rows
end L2
namespace L3
open PySem L2
end L3
namespace C
open PySem L2 L3
end C
namespace Zv
open PySem
open Sem (wp)
abbrev sr(h:Heap)(n:Nat)(f0 f1:Value):Prop:=h.get? (n+4:Nat)=some { cls:=.type "zip",dict:=none,data:=.fields #[f0,f1,.bool false,.ref (n+2:Nat),.ref (n+3:Nat)],slots:=#[] }
section
variable {prog:Program} {w:World} {A:Around} {E:Vq} {s:Shared} {n l1 l2:Nat} {i:Nat} {xs ys:Vw} {x y:Value} {T:Nat} {oT:Obj} {f1:Value}
def Au{M:Model}{a:Nat}{Q:Option Obj->Shared->Prop}(h:Q (s.heap.get? a) s):wpAny M A (loadIfAlive a) Q E s:=fun Γ p _=>h
def nY{Q:Bool->Shared->Prop}(gz:sr s.heap n (rawInt T) f1)(aT:s.heap.get? T=some oT)(hf:f1 = .bool false\/f1 = .bool true)
  (k:∀g,sr g n (rawInt T) (.bool true)->(∀c o,c≠n+4->s.heap.get? c=some o->g.get? c=some o)->g.objs.size=s.heap.objs.size->Q false { s with heap:=g }) :
  wpAny (model prog w) A (Builtin.SmallTypes.ownedTupleIsFree (.ref (n+4:Nat))) Q E s:=by
 unfold Builtin.SmallTypes.ownedTupleIsFree
 refine Ji (JX gz rfl (x:=rawInt T) rfl ?_)
 show wpAny _ _ (loadIfAlive ((T:Int).toNat) >>= _) _ _ _
 refine Ji (Au ?_)
 rw[Lz,aT]
 show wpAny _ _ (field (.ref (n+4:Nat)) 1 >>= _) _ _ _
 refine Ji (JX gz rfl (x:=f1) rfl ?_)
 rcases hf with rfl|rfl
 ·show wpAny _ _ (setField (.ref (n+4:Nat)) 1 (.bool true) >>= _) _ _ _
  exact Ji (KN gz (by simp) fun g z1 q1=>Jp (k g z1 (fun c o c1 e=>q1.extBut _ _ c1 e) q1.1))
 ·show wpAny _ _ (pure false) _ _ _
  exact Jp (k s.heap gz (fun _ _ _ e=>e) rfl)
def Av{Q:Vq}(d1:l1 < n)(d2:l2 < n)(gz:sr s.heap n (rawInt T) f1)(gI:IsPair s.heap (n+2:Nat) (.ref n) (.ref (n+1:Nat)))(aT:s.heap.get? T=some oT)(hf:f1 = .bool false\/f1 = .bool true)
  (g1:s.heap.IsListIter n l1 i) (g2:s.heap.IsListIter (n+1:Nat) l2 i) (t1:s.heap.IsList l1 xs) (t2:s.heap.IsList l2 ys) (hx:xs[i]?=some x) (hy:ys[i]?=some y)
  (k:∀g,sr g n (rawInt T) (.bool true)->g.IsListIter n l1 (i+1)->g.IsListIter (n+1:Nat) l2 (i+1)->IsPair g s.heap.objs.size x y->g.objs.size=s.heap.objs.size+1->
   (∀c o,c≠n+4->c≠n->c≠n+1->s.heap.get? c=some o->g.get? c=some o)->Q (.ref s.heap.objs.size) { s with heap:=g }) :
  wpAny (model prog w) A (Builtin.«zip.__next__» ⟨[.ref (n+4:Nat)],[]⟩) (fun fin s'=>∃v,fin = .done (.ret v)/\Q v s') E s:=by
 show wpAny _ _ (field (.ref (n+4:Nat)) 2 >>= _) _ _ _;refine Ji (JX gz rfl (x:=.bool false) rfl ?_)
 show wpAny _ _ (field (.ref (n+4:Nat)) 3 >>= _) _ _ _;refine Ji (JX gz rfl (x:=.ref (n+2:Nat)) rfl (Ji (Ks gI rfl ?_)))
 show wpAny _ _ (Builtin.SmallTypes.ownedTupleIsFree (.ref (n+4:Nat)) >>= _) _ _ _
 refine Ji (nY gz aT hf fun h₁ z1 q1 EY=>?_)
 simp only[Jv,JR]
 simp only[<-Array.forIn_toList,LY,List.forIn_nil]
 have GQ:h₁.IsListIter n l1 i:=g1.at fun o e=>q1 _ o (by omega) e
 have IC:h₁.IsListIter (n+1:Nat) l2 i:=g2.at fun o e=>q1 _ o (by omega) e
 have t1':h₁.IsList l1 xs:=t1.at fun o e=>q1 _ o (by omega) e
 have ID:h₁.IsList l2 ys:=t2.at fun o e=>q1 _ o (by omega) e
 refine Ji (Ji (Ji (KQ ?_)))
 show wpAny _ _ (Builtin.SmallTypes.nextOf (.ref n) >>= _) _ _ _
 refine Ji (Mg GQ t1' hx fun h₂ n1 q2=>Jp ?_)
 have GR:h₂.IsListIter (n+1:Nat) l2 i:=IC.extBut q2.extBut (Zu.nn (by omega))
 have GS:h₂.IsList l2 ys:=ID.extBut q2.extBut (Zu.nn (by omega))
 refine Jp ?_
 refine Ji (Ji (KQ ?_))
 show wpAny _ _ (Builtin.SmallTypes.nextOf (.ref (n+1:Nat)) >>= _) _ _ _
 refine Ji (Mg GR GS hy fun h₃ n2 q3=>Jp ?_)
 refine Jp (Jp ?_)
 show wpAny _ _ (newTuple [x,y] >>= _) _ _ _
 refine Ji (wpAny_newTuple (Jp ⟨_,rfl,?_⟩))
 have sz:h₃.objs.size=s.heap.objs.size:=by rw[q3.1,q2.1,EY]
 have kk:∀c o,c≠n+4->c≠n->c≠n+1->s.heap.get? c=some o->h₃.get? c=some o:=fun c o c1 c2 c3 e=>q3.extBut _ _ c3 (q2.extBut _ _ c2 (q1 c o c1 e))
 have z3:sr h₃ n (rawInt T) (.bool true):=q3.extBut _ _ (Zu.nn (by omega)) (q2.extBut _ _ (Zu.nn (by omega)) z1)
 have m1:h₃.IsListIter n l1 (i+1):=n1.extBut q3.extBut (Zu.nn (by omega))
 have T8:IsPair (h₃.push { cls:=.type "tuple",data:=.seq #[x,y] }) h₃.objs.size x y:=JA _ rfl
 rw[sz]at T8
 show Q (.ref h₃.objs.size) _
 rw[sz]
 exact k _ (Jl _ z3) (m1.at fun o e=>Jl _ e) (n2.at fun o e=>Jl _ e) T8 (by rw[KR,sz]) fun c o c1 c2 c3 e=>Jl _ (kk c o c1 c2 c3 e)
def zM{Q:Fin->Shared->Prop}(hh:A.handled=none)(d1:l1 < n)(gz:sr s.heap n (rawInt T) f1)(gI:IsPair s.heap (n+2:Nat) (.ref n) (.ref (n+1:Nat)))(aT:s.heap.get? T=some oT)(hf:f1 = .bool false\/f1 = .bool true)
  (g1:s.heap.IsListIter n l1 i) (t1:s.heap.IsList l1 xs) (hx:xs[i]?=none)
  (k:∀(g:Heap) (e:Addr),(∀c o,c≠n+4->c≠n->s.heap.get? c=some o->g.get? c=some o)->(∃o,g.get? e=some o/\o.cls = .type "StopIteration")->E (.ref e) { s with heap:=g }) :
  wpAny (model prog w) A (Builtin.«zip.__next__» ⟨[.ref (n+4:Nat)],[]⟩) Q E s:=by
 show wpAny _ _ (field (.ref (n+4:Nat)) 2 >>= _) _ _ _;refine Ji (JX gz rfl (x:=.bool false) rfl ?_)
 show wpAny _ _ (field (.ref (n+4:Nat)) 3 >>= _) _ _ _;refine Ji (JX gz rfl (x:=.ref (n+2:Nat)) rfl (Ji (Ks gI rfl ?_)))
 show wpAny _ _ (Builtin.SmallTypes.ownedTupleIsFree (.ref (n+4:Nat)) >>= _) _ _ _
 refine Ji (nY gz aT hf fun h₁ z1 q1 EY=>?_)
 simp only[Jv,JR]
 simp only[<-Array.forIn_toList,LY,List.forIn_nil]
 have GQ:h₁.IsListIter n l1 i:=g1.at fun o e=>q1 _ o (by omega) e
 have t1':h₁.IsList l1 xs:=t1.at fun o e=>q1 _ o (by omega) e
 refine Ji (Ji (Ji (KQ ?_)))
 show wpAny _ _ (Builtin.SmallTypes.nextOf (.ref n) >>= _) _ _ _
 exact Ji (wpAny_nextOf_list_end hh GQ t1' hx fun h₂ e q2 he=>k h₂ e (fun c o c1 c2 u=>q2 _ _ c2 (q1 c o c1 u)) he)
def yk{Q:Option Value->Shared->Prop}(d1:l1 < n)(d2:l2 < n)(gz:sr s.heap n (rawInt T) f1)(gI:IsPair s.heap (n+2:Nat) (.ref n) (.ref (n+1:Nat)))(aT:s.heap.get? T=some oT)(hf:f1 = .bool false\/f1 = .bool true)
  (g1:s.heap.IsListIter n l1 i) (g2:s.heap.IsListIter (n+1:Nat) l2 i) (t1:s.heap.IsList l1 xs) (t2:s.heap.IsList l2 ys) (hx:xs[i]?=some x) (hy:ys[i]?=some y)
  (k:∀g,sr g n (rawInt T) (.bool true)->g.IsListIter n l1 (i+1)->g.IsListIter (n+1:Nat) l2 (i+1)->IsPair g s.heap.objs.size x y->g.objs.size=s.heap.objs.size+1->
   (∀c o,c≠n+4->c≠n->c≠n+1->s.heap.get? c=some o->g.get? c=some o)->Q (some (.ref s.heap.objs.size)) { s with heap:=g }) :
  wpAny (model prog w) A (pyNext (.ref (n+4:Nat))) Q E s:=by
 have ty:s.TypeIs (.ref (n+4:Nat)) "zip":=⟨_,gz,rfl⟩
 unfold pyNext
 exact Ji (wpAny_attempt (Ka (name:=Str.ofString "__next__") ty K1 (KL K1 ty Mq
  (Av d1 d2 gz gI aT hf g1 g2 t1 t2 hx hy fun g a1 a2 a3 a4 a5 a6=>Jp (k g a1 a2 a3 a4 a5 a6)) (Mh _))))
def pe{Q:Option Value->Shared->Prop}(hh:A.handled=none)(d1:l1 < n)(gz:sr s.heap n (rawInt T) f1)(gI:IsPair s.heap (n+2:Nat) (.ref n) (.ref (n+1:Nat)))(aT:s.heap.get? T=some oT)(hf:f1 = .bool false\/f1 = .bool true)
  (g1:s.heap.IsListIter n l1 i) (t1:s.heap.IsList l1 xs) (hx:xs[i]?=none)
  (k:∀g:Heap,(∀c o,c≠n+4->c≠n->s.heap.get? c=some o->g.get? c=some o)->Q none { s with heap:=g }):wpAny (model prog w) A (pyNext (.ref (n+4:Nat))) Q E s:=by
 have ty:s.TypeIs (.ref (n+4:Nat)) "zip":=⟨_,gz,rfl⟩
 unfold pyNext
 refine Ji (wpAny_attempt (Ka (name:=Str.ofString "__next__") ty K1 (KL K1 ty Mq (zM hh d1 gz gI aT hf g1 t1 hx fun g e kk ⟨o,ho,hc⟩=>?_) (Mh _))))
 exact Ji (wpAny_isInstance (T:="StopIteration") (b:=true) ⟨o,ho,hc⟩ isSubtype_stop (Jp (k _ kk)))
end
noncomputable def ed(n i:Nat):List Value:=(List.range i).map fun j=>Value.ref (n+6+j:Nat)
structure St (h:Heap) (n l1 l2:Nat) (xs ys:Vw) (i:Nat):Prop where
 sz:h.objs.size=n+6+i
 I:IsPair h (n+2:Nat) (.ref n) (.ref (n+1:Nat))
 z:∃f1,(f1 = .bool false\/f1 = .bool true)/\sr h n (rawInt (n+6:Nat)) f1
 g1:h.IsListIter n l1 i
 g2:h.IsListIter (n+1:Nat) l2 i
 t1:h.IsList l1 xs
 t2:h.IsList l2 ys
 S:∃c,h.get? (n+5:Nat)=some { cls:=.type "list",dict:=none,data:=.seq (ed n i).toArray c,slots:=#[] }
 its:∀j x y,j < i->xs[j]?=some x->ys[j]?=some y->IsPair h (n+6+j:Nat) x y
def pg(n i:Nat):(ed n i).toArray.push (.ref (n+6+i:Nat))=(ed n (i+1)).toArray:=by
 unfold ed
 rw[List.range_succ,JP]
 simp
structure yU (h:Heap) (n:Nat) (xs ys:Vw):Prop where
 sz:n+6+xs.size<=h.objs.size
 S:∃c,h.get? (n+5:Nat)=some { cls:=.type "list",dict:=none,data:=.seq (ed n xs.size).toArray c,slots:=#[] }
 its:∀j x y,xs[j]?=some x->ys[j]?=some y->IsPair h (n+6+j:Nat) x y
section
variable {prog:Program} {w:World} {A:Around} {R:Result->Shared->Prop} {n l1 l2:Nat} {xs ys:Vw}
def loop(hh:A.in1.handled=none)(d1:l1 < n)(d2:l2 < n)(hxy:xs.size=ys.size)(hz:xs.size<=sizeLine)(res:Value) :
  ∀(k i:Nat) (s:Shared),xs.size - i=k->1<=i->i<=xs.size->St s.heap n l1 l2 xs ys i->
  (∀g,yU g n xs ys->(∀b o,b < n->s.heap.get? b=some o->g.get? b=some o)->R (.ok (.ret res)) { s with heap:=g })->
  codeAny (model prog w) A (.builtin "list.extend.loop" ⟨[.ref (n+5:Nat),.ref (n+4:Nat),res],[]⟩) R s:=by
 intro k
 induction k with
 |zero=>
  intro i s hk hi hle st hR
  have hin:i=xs.size:=by omega
  subst hin
  refine Lv MD ?_
  rw[KS KG _]
  show wpAny _ A.in1 (pyNext (.ref (n+4:Nat)) >>= _) _ _ s
  obtain⟨f1,hf,gz⟩:=st.z
  obtain⟨c,hS⟩:=st.S
  have h0:0 < xs.size:=by omega
  have aT:=st.its 0 (xs[0]'h0) (ys[0]'(by omega)) h0 (JD h0) (JD (by omega))
  have h1:xs.size - 1 < xs.size:=by omega
  have aL:=st.its (xs.size - 1) (xs[xs.size - 1]'h1) (ys[xs.size - 1]'(by omega)) h1 (JD h1) (JD (by omega))
  refine Ji (pe hh d1 gz st.I aT hf st.g1 st.t1 (Lq (Jm _)) fun g kk=>?_)
  refine Jp (hR g ⟨?_,⟨c,kk _ _ (by omega) (by omega) hS⟩,fun j x y hx hy=>kk _ _ (by omega) (by omega) (st.its j x y (LJ.mp hx).1 hx hy)⟩ fun b o hb e=>kk _ _ (by omega) (by omega) e)
  have h2:n+6+(xs.size - 1) < g.objs.size:=Jr (kk _ _ (by omega) (by omega) aL)
  omega
 |succ k ih=>
  intro i s hk hi hle st hR
  have hlt:i < xs.size:=by omega
  refine Lv MD ?_
  rw[KS KG _]
  show wpAny _ A.in1 (pyNext (.ref (n+4:Nat)) >>= _) _ _ s
  obtain⟨f1,hf,gz⟩:=st.z
  obtain⟨c,hS⟩:=st.S
  have h0:0 < xs.size:=by omega
  have aT:=st.its 0 (xs[0]'h0) (ys[0]'(by omega)) (by omega) (JD h0) (JD (by omega))
  refine Ji (yk d1 d2 gz st.I aT hf st.g1 st.g2 st.t1 st.t2 (x:=xs[i]) (y:=ys[i]'(by omega)) (JD hlt) (JD (by omega)) fun g z1 m1 m2 p1 EY kk=>?_)
  have S1:=kk _ _ (by omega) (by omega) (by omega) hS
  have FP:s.heap.objs.size=n+6+i:=st.sz
  rw[FP]at p1 EY
  show wpAny _ A.in1 (updateSeq (n+5:Nat) (·.push (.ref s.heap.objs.size)) >>= _) _ _ _
  refine Ji ?_
  rw[FP]
  have len:(ed n i).toArray.size=i:=by unfold ed;simp
  have Cn:∀b o,b≠n+5->g.get? b=some o->(g.update (n+5:Nat) (Obj.mapSeq (·.push (.ref (n+6+i:Nat))))).get? b=some o:=fun b o hb e=>(Kp _ _ (Lc hb)).trans e
  have S2:=Kr (Obj.mapSeq (·.push (Value.ref (n+6+i:Nat)))) S1 rfl
  refine LX S1 rfl (Jp ⟨LV KG _,ih (i+1) _ (by omega) (by omega) (by omega) ⟨?_,Cn _ _ (by omega) (kk _ _ (by omega) (by omega) (by omega) st.I),⟨.bool true,.inr rfl,Cn _ _ (by omega) z1⟩,m1.at fun o e=>Cn _ _ (by omega) e,m2.at fun o e=>Cn _ _ (by omega) e,(st.t1.at fun o e=>kk _ _ (by omega) (by omega) (by omega) e).at fun o e=>Cn _ _ (by omega) e,(st.t2.at fun o e=>kk _ _ (by omega) (by omega) (by omega) e).at fun o e=>Cn _ _ (by omega) e,?_,?_⟩ fun g' st' FQ=>?_⟩) (by rw[len];omega) (by show((ed n i).toArray.push _).size<=sizeLine+1;rw[Array.size_push,len];omega)
  ·show(g.update _ _).objs.size=_
   rw[Mr,EY]
   omega
  ·rw[<-pg]
   exact⟨_,S2⟩
  ·intro j x y hj hx hy
   by_cases e:j=i
   ·subst e
    rw[JD hlt]at hx
    rw[JD (by omega)]at hy
    cases hx;cases hy
    exact Cn _ _ (by omega) p1
   ·exact Cn _ _ (by omega) (kk _ _ (by omega) (by omega) (by omega) (st.its j x y (by omega) hx hy))
  ·exact hR g' st' fun b o hb e=>FQ b o hb (Cn _ _ (by omega) (kk _ _ (by omega) (by omega) (by omega) e))
def first(hh:A.in1.handled=none)(d1:l1 < n)(d2:l2 < n)(hxy:xs.size=ys.size)(h1:1<=xs.size)(hz:xs.size<=sizeLine)(res:Value)(s:Shared)(c:Nat)(sz:s.heap.objs.size=n+6)
  (gz:IsZip s.heap (n+4:Nat) (n+2:Nat) (n+3:Nat) .none) (gI:IsPair s.heap (n+2:Nat) (.ref n) (.ref (n+1:Nat))) (gO:IsPair s.heap (n+3:Nat) .none .none) (g1:s.heap.IsListIter n l1 0) (g2:s.heap.IsListIter (n+1:Nat) l2 0) (t1:s.heap.IsList l1 xs) (t2:s.heap.IsList l2 ys)
  (hS:s.heap.get? (n+5:Nat)=some { cls:=.type "list",dict:=none,data:=.seq #[] c,slots:=#[] })
  (hR:∀g,yU g n xs ys->(∀b o,b < n->s.heap.get? b=some o->g.get? b=some o)->R (.ok (.ret res)) { s with heap:=g }) :
  codeAny (model prog w) A (.builtin "list.extend.loop" ⟨[.ref (n+5:Nat),.ref (n+4:Nat),res],[]⟩) R s:=by
 refine Lv MD ?_
 rw[KS KG _]
 show wpAny _ A.in1 (pyNext (.ref (n+4:Nat)) >>= _) _ _ s
 have h0:0 < xs.size:=by omega
 refine Ji (wpAny_pyNext_zip_item (PyProof.Rows.zipApart_new d1 d2) gz gI gO g1 g2 t1 t2 (x:=xs[0]'h0) (y:=ys[0]'(by omega)) (JD h0) (JD (by omega)) fun g z1 o1 m1 m2 p1 EY kk=>?_)
 have S1:=kk _ _ (Zu.nn (by omega)) (Zu.nn (by omega)) (Zu.nn (by omega)) (Zu.nn (by omega)) hS
 rw[sz]at p1 EY z1
 show wpAny _ A.in1 (updateSeq (n+5:Nat) (·.push (.ref s.heap.objs.size)) >>= _) _ _ _
 refine Ji ?_
 rw[sz]
 have Cn:∀b o,b≠n+5->g.get? b=some o->(g.update (n+5:Nat) (Obj.mapSeq (·.push (.ref (n+6:Nat))))).get? b=some o:=fun b o hb e=>(Kp _ _ (Lc hb)).trans e
 have S2:=Kr (Obj.mapSeq (·.push (Value.ref (n+6:Nat)))) S1 rfl
 have kb:∀b o,b < n->s.heap.get? b=some o->(g.update (n+5:Nat) (Obj.mapSeq (·.push (.ref (n+6:Nat))))).get? b=some o:=fun b o hb e=>Cn _ _ (by omega) (kk b o (Zu.nn (by omega)) (Zu.nn (by omega)) (Zu.nn (by omega)) (Zu.nn (by omega)) e)
 refine LX S1 rfl (Jp ⟨LV KG _,loop hh d1 d2 hxy hz res (xs.size - 1) 1 _ rfl (Jm _) h1 ⟨?_,Cn _ _ (by omega) (kk _ _ (Zu.nn (by omega)) (Zu.nn (by omega)) (Zu.nn (by omega)) (Zu.nn (by omega)) gI),⟨.bool false,.inl rfl,Cn _ _ (by omega) z1⟩,m1.at fun o e=>Cn _ _ (by omega) e,m2.at fun o e=>Cn _ _ (by omega) e,t1.at fun o e=>kb _ _ d1 e,t2.at fun o e=>kb _ _ d2 e,⟨_,S2⟩,?_⟩ fun g' st' FQ=>?_⟩) (by show 0<=sizeLine;omega) (by show 1<=sizeLine+1;omega)
 ·show(g.update _ _).objs.size=_
  rw[Mr,EY]
 ·intro j x y hj hx hy
  have e:j=0:=by omega
  subst e
  rw[JD h0]at hx
  rw[JD (by omega)]at hy
  cases hx;cases hy
  exact Cn _ _ (by omega) p1
 ·exact hR g' st' fun b o hb e=>FQ b o hb (kb b o hb e)
end
def m_:typeLookup (.type "zip") "__len__" = pure none:=by rw[My,Ly];kernel_rfl
def l0:typeLookup (.type "zip") "__length_hint__" = pure none:=by rw[My,Ly];kernel_rfl
section
variable {prog:Program} {w:World} {A:Around} {E:Vq} {s:Shared} {n l1 l2:Nat} {xs ys:Vw}
def l4{Q:List Value->Shared->Prop}(hh:A.handled=none)(d1:l1 < n)(d2:l2 < n)(hxy:xs.size=ys.size)(h1:1<=xs.size)(hz:xs.size<=sizeLine)(sz:s.heap.objs.size=n+5)
  (gz:IsZip s.heap (n+4:Nat) (n+2:Nat) (n+3:Nat) .none) (gI:IsPair s.heap (n+2:Nat) (.ref n) (.ref (n+1:Nat))) (gO:IsPair s.heap (n+3:Nat) .none .none) (g1:s.heap.IsListIter n l1 0) (g2:s.heap.IsListIter (n+1:Nat) l2 0) (t1:s.heap.IsList l1 xs) (t2:s.heap.IsList l2 ys)
  (hQ:∀g,yU g n xs ys->(∀b o,b < n->s.heap.get? b=some o->g.get? b=some o)->Q (ed n xs.size) { s with heap:=g }):wpAny (model prog w) A (collect (.ref (n+4:Nat))) Q E s:=by
 unfold collect
 refine Ji (wpAny_runValue (Lv F.entry_proto_collect ?_))
 rw[KS F.plain_proto_collect _]
 show wpAny _ A.in1 (newList [] >>= fun l=>again (.builtin "list.__iadd__" ⟨[l,.ref (n+4:Nat)],[]⟩)) _ _ s
 refine Ji (Kf ?_)
 refine Jp ⟨LV F.plain_list_iadd _,Lv F.entry_list_iadd ?_⟩
 rw[KS F.plain_list_iadd _]
 show wpAny _ A.in1 (Builtin.List.listExtendWith (.ref s.heap.objs.size) (.ref (n+4:Nat)) (.ref s.heap.objs.size)) _ _ _
 unfold Builtin.List.listExtendWith
 have p:∀{b:Nat} {o:Obj},s.heap.get? b=some o->(s.heap.push { cls:=.type "list",data:=.seq ([]:Vv).toArray }).get? b=some o:=fun e=>Jl _ e
 have hT:Shared.TypeIs { s with heap:=s.heap.push { cls:=.type "list",data:=.seq ([]:Vv).toArray } } (.ref (n+4:Nat)) "zip":=⟨_,p gz,rfl⟩
 refine Ji (Mb hT ?_)
 have e1:Builtin.List.listSameRef (.ref s.heap.objs.size) (.ref (n+4:Nat))=false:=by rw[sz];simp[Builtin.List.listSameRef]
 have e2:(Value.type "zip" == Value.type "list")=false:=by decide
 have e3:(Value.type "zip" == Value.type "tuple")=false:=by decide
 simp only[e1,e2,e3,Bool.or_false,Jv,JR]
 refine Ji (wpAny_pyIter_zip (s:={ s with heap:=s.heap.push { cls:=.type "list",data:=.seq ([]:Vv).toArray } }) (p gz) ?_)
 refine Ji (KQ ?_)
 unfold Builtin.List.listLengthHint
 refine Ji (Mz hT m_ ?_)
 show wpAny _ A.in1 (specialOf (Value.ref (n+4:Nat)) (Str.ofString "__length_hint__") >>= _) _ _ _
 refine Ji (Mz hT l0 ?_)
 refine Jp ?_
 show wpAny _ A.in1 (rule "list.extend.makes-room" >>= fun _=>Builtin.List.listTouch (.ref s.heap.objs.size) >>= fun _=>
  again (.builtin "list.extend.loop" ⟨[.ref s.heap.objs.size,.ref (n+4:Nat),.ref s.heap.objs.size],[]⟩)) _ _ _
 refine Ji (L0 ?_)
 have Hx:(s.heap.push { cls:=.type "list",data:=.seq ([]:Vv).toArray }).get? s.heap.objs.size=some { cls:=.type "list",data:=.seq ([]:Vv).toArray }:=JA _ rfl
 refine Ji ?_
 show wpAny _ A.in1 (updateSeq s.heap.objs.size (·.push .none) >>= fun _=>updateSeq s.heap.objs.size (·.pop)) _ _ _
 refine Ji (LX Hx rfl ?_)
 have F8:=Kr (Obj.mapSeq (·.push Value.none)) Hx rfl
 refine LX F8 rfl ?_
 have GT:=Kr (Obj.mapSeq (·.pop)) F8 rfl
 have Cn:∀b o,b≠s.heap.objs.size->(s.heap.push { cls:=.type "list",data:=.seq ([]:Vv).toArray }).get? b=some o->
   (((s.heap.push { cls:=.type "list",data:=.seq ([]:Vv).toArray }).update s.heap.objs.size (Obj.mapSeq (·.push Value.none))).update s.heap.objs.size (Obj.mapSeq (·.pop))).get? b=some o:=
  fun b o hb e=>(Kp _ _ (Lc hb)).trans ((Kp _ _ (Lc hb)).trans e)
 have q:∀{b:Nat} {o:Obj},s.heap.get? b=some o->(((s.heap.push { cls:=.type "list",data:=.seq ([]:Vv).toArray }).update s.heap.objs.size (Obj.mapSeq (·.push Value.none))).update s.heap.objs.size (Obj.mapSeq (·.pop))).get? b=some o:=
  fun{b o} e=>Cn b o (JL (Jr e)) (p e)
 have Hy:(((s.heap.push { cls:=.type "list",data:=.seq ([]:Vv).toArray }).update s.heap.objs.size (Obj.mapSeq (·.push Value.none))).update s.heap.objs.size (Obj.mapSeq (·.pop))).objs.size=n+6:=by
  rw[Mr,Mr,KR,sz]
 show wpAny _ A.in1 (again (.builtin "list.extend.loop" ⟨[.ref s.heap.objs.size,.ref (n+4:Nat),.ref s.heap.objs.size],[]⟩)) _ _ { s with heap:=(((s.heap.push { cls:=.type "list",data:=.seq ([]:Vv).toArray }).update s.heap.objs.size (Obj.mapSeq (·.push Value.none))).update s.heap.objs.size (Obj.mapSeq (·.pop))) }
 generalize (((s.heap.push { cls:=.type "list",data:=.seq ([]:Vv).toArray }).update s.heap.objs.size (Obj.mapSeq (·.push Value.none))).update s.heap.objs.size (Obj.mapSeq (·.pop)))=h2 at GT q Hy
 rw[sz]at GT ⊢
 refine Jp ⟨LV KG _,first (A:=A) hh d1 d2 hxy h1 hz _ _ _ Hy (q gz) (q gI) (q gO) (g1.at fun o e=>q e) (g2.at fun o e=>q e) (t1.at fun o e=>q e) (t2.at fun o e=>q e) GT fun g st kk=>?_⟩
 obtain⟨c,hS⟩:=st.S
 show wpAny _ A (load (n+5:Nat) >>= _) _ _ _
 refine Ji (wpAny_load hS ?_)
 exact Jp (by simpa using hQ g st fun b o hb e=>kk b o hb (q e))
def ng{Q:Vq}(hh:A.handled=none)(d1:l1 < n)(d2:l2 < n)(hxy:xs.size=ys.size)(h1:1<=xs.size)(hz:xs.size<=sizeLine)(sz:s.heap.objs.size=n+5)
  (gz:IsZip s.heap (n+4:Nat) (n+2:Nat) (n+3:Nat) .none) (gI:IsPair s.heap (n+2:Nat) (.ref n) (.ref (n+1:Nat))) (gO:IsPair s.heap (n+3:Nat) .none .none) (g1:s.heap.IsListIter n l1 0) (g2:s.heap.IsListIter (n+1:Nat) l2 0) (t1:s.heap.IsList l1 xs) (t2:s.heap.IsList l2 ys)
  (hQ:∀g,yU g n xs ys->(∀b o,b < n->s.heap.get? b=some o->g.get? b=some o)->Q (.ref g.objs.size) { s with heap:=g.push { cls:=.type "tuple",data:=.seq (ed n xs.size).toArray } }):wpAny (model prog w) A (call (.type "tuple") [.ref (n+4:Nat)]) Q E s:=by
 have hT:s.TypeIs (.ref (n+4:Nat)) "zip":=⟨_,gz,rfl⟩
 refine callType_codes (Q₁:=fun obj s₁=>s₁.TypeIs obj "tuple"/\Q obj s₁) F.called_tuple (F.typeCall_tuple_1 _) F.entry_object_init ?_ fun obj s₁ h₁=>
  ⟨h₁.1,F.args_object_init_2 obj _,object_init_meets F.called_tuple.init.lookup F.called_tuple.made (by decide) prog w A.in1 _ s₁ ⟨h₁.1,rfl,h₁.2⟩⟩
 refine codeAny_of_tree ?_
 show wpAny _ A.in1.in1 (do checkBuiltinCall "tuple.__new__" ⟨[.type "tuple",.ref (n+4:Nat)],[]⟩;again (.builtin "tuple.__new__" ⟨[.type "tuple",.ref (n+4:Nat)],[]⟩)) _ _ s
 refine Ji (wpAny_of_eq (F.newCall_tuple_1 _) (Jp ⟨LV F.plain_tuple_new _,Lv F.entry_tuple_new ?_⟩))
 rw[KS F.plain_tuple_new _]
 have hsub:=sub_tuple_self
 have Hz:=init_tuple_lookup
 have hmh:=madeHere_tuple
 wp_walk using Mb hT,l4 (A:=A.in1.in1) hh d1 d2 hxy h1 hz sz gz gI gO g1 g2 t1 t2
 intro g st kk
 show wpAny _ _ (Builtin.Tuple.tupleExact (ed n xs.size).toArray >>= fun v=>ret v) _ _ _
 unfold Builtin.Tuple.tupleExact
 refine Ji (Kf ?_ (by show(ed n xs.size).toArray.size<=sizeLine;unfold ed;simpa using hz))
 exact Jp ⟨⟨_,JA _ rfl,rfl⟩,hQ g st kk⟩
end
end Zv
namespace L2
open PySem PySem.Spec PyProof.Rows
structure EO (K:Vo) (x:Str) (st:Stmt) (T:Addr) (f:Addr) (fd:FuncData):Prop where
 ex:∃(oc:Value) (od:Option Addr) (kV doc pm:Value) (an:Option Addr) (cdv ct:Value) (osl:Array (Option Value)),
  fd=PySem.W.fnOf x x (bH st) (aY st) (az st) (.ref T) kV doc pm an cdv ct/\K.lookup f=some ⟨oc,od,.func fd,osl⟩/\PySem.W.codeIn K cdv x=true
 kp:PySem.W.keepIn K (.ref f)=true
section
variable {P:Program} {w:World} {K:Vo} {mg:Vr} {base:Heap}
def EO.ok{x:Str}{st:Stmt}{T f:Addr}{fd:FuncData}{N ps:Vs}{k:Nat}{sp:Sp}(F:EO K x st T f fd)(S:cO N ps (az st))(len:∀vs H Q E,sp vs H Q E->vs.length=ps.length)
  (hbody:∀(cdv:Value) (A:Around) (outer:List Env) (s:Shared) (H:Hp) (vs:List V) (Q:VK) (E:XK),Room k (A.deeper (envOfC x (az st) s.heap.objs.size f cdv))->sp vs H Q E->
   ∃t,Dx (lJ sj P w K mg base N x (az st) f cdv A outer s H E).Fe (aY st) t/\t { nx:=fun _ H'=>Q .non H',rt:=Q } (eN N vs) H):jX P w K mg base sj (k+1) f fd ps sp:=by
 obtain⟨oc,od,kV,doc,pm,an,cdv,ct,osl,rfl,lk,hcd⟩:=F.ex
 refine uB lk hcd S len fun A outer s H vs Q E hr EB=>?_
 obtain⟨t,h,q⟩:=hbody cdv A outer s H vs Q E hr EB
 exact⟨t,h.Fe,q⟩
end
section
variable {X:Cx}
def tY(K:Vo)(H:Hp)(r:Addr)(xs ys:List V):Prop:=∃ps:List Addr,SqT K H r (ps.map V.ref)/\ps.length=xs.length/\∀(j:Nat) p x y,ps[j]?=some p->xs[j]?=some x->ys[j]?=some y->H p=some (.tup [x,y])
def ym(K:Vo)(ta:TA):TE:=fun σ H Q=>ta σ H fun vs H1=>∃a b xs ys,vs=[.ref a,.ref b]/\H1 a=some (.lst xs)/\H1 b=some (.lst ys)/\xs.length=ys.length/\1<=xs.length/\∀r H',(∀c o,H1 c=some o->H' c=some o)->tY K H' r xs ys->Q (.ref r) H'
theorem iN{pins:Va}{σ:St}{H:Hp}{s0 s:Shared}{n:Nat}{xs ys:List V}{ix iy:Vv}(I0:Inv X pins σ H s0)(hn:s0.heap.objs.size=n)(I:Inv X pins σ H s)(rx:Vals xs ix)(ry:Vals ys iy)(hl:xs.length=ys.length)
  (hp:∀(j:Nat) u v,ix[j]?=some u->iy[j]?=some v->IsPair s.heap (n+6+j:Nat) u v):∀k,k<=xs.length->∃H',Inv X pins σ H' s/\(∀c o,H c=some o->H' c=some o)/\(∀(j:Nat) x y,j < k->xs[j]?=some x->ys[j]?=some y->H' (n+6+j:Nat)=some (.tup [x,y]))/\∀c:Nat,n+6+k<=c->H' c=none
 |0,_=>⟨H,I,fun _ _ h=>h,fun j x y h=>absurd h (Nat.not_lt_zero _),fun c hc=>I0.hok.fresh (show s0.heap.objs.size<=c by omega)⟩
 |k+1,hk=>by
  obtain⟨H',I',e',p',f'⟩:=iN I0 hn I rx ry hl hp k (by omega)
  have hkx:k < xs.length:=by omega
  have HA:k < ys.length:=by omega
  obtain⟨u,hu,ru⟩:=rx.get (JE hkx)
  obtain⟨v,hv,rv⟩:=ry.get (JE HA)
  have hD:H' (n+6+k:Nat)=none:=f' _ (Jm _)
  have fp:dR X pins H' (n+6+k:Nat):=I0.Cw (show s0.heap.objs.size<=(n+6+k:Nat) by omega) hD
  have eT:Bc s.heap (n+6+k:Nat) [u,v].toArray:=⟨_,hp k u v hu hv,rfl,rfl,_,rfl⟩
  refine⟨_,I'.CZ fp eT (.cons ru (.cons rv .nil)) (by show 2<=sizeLine;decide),fun c o h=>?_,fun j x y hj hx hy=>?_,fun c hc=>?_⟩
  ·rw[ax (aU (e' c o h) hD)];exact e' c o h
  ·by_cases e:j=k
   ·subst e
    rw[JE hkx]at hx
    rw[JE HA]at hy
    cases hx;cases hy
    exact ay
   ·rw[ax (Zu.nn (by omega))];exact p' j x y (by omega) hx hy
  ·rw[ax (Zu.nn (by omega))];exact f' c (by omega)
def tZ{a b:Expr}{ta:TA}{p1 p2 q1 q2:Pos}(hc:X.calm=true)(ha:PA X [a,b] ta)(Fm:Gl X "tuple")(hm1:X.mg "tuple" = none)(EM:Gl X "zip")(hm2:X.mg "zip" = none)
  (hs:starEach [a,b] X.env=[(false,eval a X.env),(false,eval b X.env)]) (Gb:starEach [b] X.env=[(false,eval b X.env)]) (hs2:starEach [.Call (.Name "zip" p2) [a,b] [] q2] X.env=[(false,eval (.Call (.Name "zip" p2) [a,b] [] q2) X.env)]:=by rfl) :
  PE X (.Call (.Name "tuple" p1) [.Call (.Name "zip" p2) [a,b] [] q2] [] q1) (ym X.K ta):=by
 intro pins s σ H Q I h
 refine KJ (dF I Fm hm1 (u:=.type "tuple") (by decide +kernel) ?_)
 refine JU ?_ hs2 rfl
 rw[hs2]
 show wpAny _ _ (spliced ((false,eval (.Call (.Name "zip" p2) [a,b] [] q2) X.env)::backTo q1 [])) _ _ s
 refine Kw ?_
 refine KJ (dF I EM hm2 (u:=.type "zip") (by decide +kernel) ?_)
 refine JU (AL (ha q2 pins s σ H _ I h) fun us s1 ⟨vs,H1,I1,r1,q1⟩=>?_) (by rw[hs,Gb]) (by rw[Gb];rfl)
 obtain⟨a,b,xs,ys,e,qa,qb,hl,h1,q⟩:=q1
 subst e
 obtain⟨u,v,rfl,ru,rv⟩:=p_ r1
 cases ru
 cases rv
 obtain⟨ia,ra,pa,za⟩:=I1.list (SqL.of qa)
 obtain⟨ib,rb,pb,zb⟩:=I1.list (SqL.of qb)
 have IE:=ra.length
 have lrb:=rb.length
 have la:a < s1.heap.objs.size:=by obtain⟨o,e,_⟩:=pa.isList;exact Jr e
 have lb:b < s1.heap.objs.size:=by obtain⟨o,e,_⟩:=pb.isList;exact Jr e
 refine call_zip_2 pa.isList pb.isList fun g gz gI gO g1 g2 IF kk=>?_
 refine Lh ?_
 refine Zv.ng (s:={ s1 with heap:=g }) (n:=s1.heap.objs.size) (I.ok.hd hc) la lb (by rw[Jo,Jo];omega) (by rw[Jo];omega) (by rw[Jo,<-IE];exact za) IF gz gI gO g1 g2 (pa.isList.at fun o e=>kk _ _ e) (pb.isList.at fun o e=>kk _ _ e) fun g' st FQ=>?_
 have key:∀c o,s1.heap.get? c=some o->(g'.push { cls:=.type "tuple",data:=.seq (Zv.ed s1.heap.objs.size ia.toArray.size).toArray }).get? c=some o:=fun c o e=>Jl _ (FQ c o (Jr e) (kk c o e))
 have I2:Inv X pins σ H1 { s1 with heap:=g'.push { cls:=.type "tuple",data:=.seq (Zv.ed s1.heap.objs.size ia.toArray.size).toArray } }:=I1.kept (t':=s1.toks) key
 obtain⟨H',I3,e3,p3,f3⟩:=iN I1 rfl I2 ra rb hl (fun j u v hu hv=>Jl _ (st.its j u v (by simpa using hu) (by simpa using hv))) xs.length (Jm _)
 have sz:=st.sz
 have FP:ia.toArray.size=xs.length:=by rw[Jo];omega
 rw[FP]at sz
 have hD:H' g'.objs.size=none:=f3 _ sz
 have fp:dR X pins H' g'.objs.size:=I1.Cw (Jw (by omega) sz) hD
 have ps:∀m:Nat,Vals (((List.range m).map fun j=>(s1.heap.objs.size+6+j:Nat)).map V.ref) (Zv.ed s1.heap.objs.size m):=fun m=>by
  unfold Zv.ed
  rw[K5]
  induction (List.range m)with
  |nil=>exact .nil
  |cons x r ih=>exact .cons rfl ih
 have eT:Bc (g'.push { cls:=.type "tuple",data:=.seq (Zv.ed s1.heap.objs.size ia.toArray.size).toArray }) g'.objs.size (Zv.ed s1.heap.objs.size xs.length).toArray:=⟨_,JA _ rfl,rfl,rfl,_,by rw[FP]⟩
 have I4:=I3.CZ fp eT (ps xs.length) (by rw[Jk,Jk,MN];exact za)
 refine⟨.ref g'.objs.size,_,I4,rfl,q _ _ (fun c o z=>by rw[ax (aU (e3 c o z) hD)];exact e3 c o z) ⟨_,SqT.of ay,by rw[Jk,MN],fun j p x y hp hx hy=>?_⟩⟩
 have hj:j < xs.length:=(JJ.mp hx).1
 rw[Jx,LQ hj]at hp
 cases hp
 have z:=p3 j x y hj hx hy
 show upd H' g'.objs.size _ (s1.heap.objs.size+6+j:Nat)=_
 rw[ax (aU z hD)]
 exact z
end
end L2
namespace L3
open PySem L2
section
variable {P:Program} {w:World} {K:Vo} {mg:Vr} {base:Heap}
def zN{x:Str}{st:Stmt}{T f:Addr}{fd:FuncData}{N ps:Vs}{k:Nat}{t:bN}(F:EO K x st T f fd)(S:cO N ps (az st))
  (hbody:∀(cdv:Value) (A:Around) (outer:List Env) (s:Shared) (H:Hp) (E:XK),Room k (A.deeper (PyProof.Rows.envOfC x (az st) s.heap.objs.size f cdv))->ie (yh P w K mg base N x st f cdv A outer s H E) (aY st) t) :
  EF P w K mg base (k+1) f fd ps (AN N.length t):=
 ⟨F.ok S (fun vs H Q E h=>h.1) fun cdv A outer s H vs Q E hr ⟨hl,ps',S',Q3,E3,rv,rS,q,kk⟩=>⟨_,(hbody cdv A outer s H E hr).ok,aB N.length ps',S',_,kC rv,rS,q,.no,fun σ3 S2 σ2 H2 h2 _ B_ g2=>kk _ S2 _ H2 h2 .non B_ g2,kk,fun _ _ _ _ h2=>h2.elim,fun _ _ _ _ h2=>h2.elim⟩⟩
structure zO (K:Vo) (mg:Vr) (x:Str) (st:Stmt) (ps:Vs) (T:Addr) (f:Addr) (fd:FuncData):Prop where
 F:EO K x st T f fd
 b:Binds K fd ps []
 d:Binds K fd ps [.bool true]
 k:PySem.W.keepIn K (.ref f)=true
 m:mg x=some (.ref f)
end
section
variable {X:Cx} {e o:Expr} {es:List Expr} {te to:aV} {ts:List aV} {x:Str} {p pos apos cpos:Pos} {k:Nat} {f:Addr} {fd:FuncData} {ps:Vs} {sp:aC}
def ip(sp:aC)(ts:List aV):aV:=fun σ S Q E=>am ts σ S (fun ps S1=>sp (ps++[.bl true]) S1 Q E) E
def t4(F:EF X.prog X.w X.K X.mg X.base k f fd ps sp)(hr:Room k X.A)(hg:Gl X x)(hm:X.mg x=some (.ref f))(hk:PySem.W.keepIn X.K (.ref f)=true)(hb:Binds X.K fd ps [.bool true])(he:starEach (e::es) X.env=(false,eval e X.env)::starEach es X.env)(ha:iV X (e::es) ts)
  (hl:ts.length+1=ps.length:=by rfl) (hdb:(x == ("__debug__":Str))=false:=by decide) (hpl:(backTo pos (starEach es X.env)).any (·.1)=false:=by rfl):a_ X (.Call (.Name x p) (e::es) [] pos) (ip sp ts):=
 ⟨aO (nI (dvs:=[.bl true]) F.ok hr hg hm hk hb (.cons rfl .nil) uE ha.ok hdb he hpl) fun σ H Q ⟨σ3,S,Q3,E3,rσ,rS,h,xo,k⟩=>bV rσ rS h xo fun ps' S' vs H' hl' q rv Cl g=>by
  refine⟨by rw[Jj,rv.length,hl'];exact hl,ps'++[.bl true],S',Q3,E3,rv.append (.cons (.bl true) .nil),Cl,q,k.mono g⟩⟩
end
section
variable {X:Cx} {a b:Expr} {ta tb:aV}
def rj(ta tb:aV):aV:=fun σ S Q E=>ta σ S (fun v S1=>tb σ S1 (fun w S2=>match v,w with
 | .ref a,.ref b=>(match S2 a,S2 b with|some (.lst xs),some (.lst ys)=>xs.length=ys.length/\1<=xs.length/\Q (.tup (bp xs ys)) S2|_,_=>False)
 |_,_=>False) E) E
theorem nZ{K:Vo}{H:Hp}:∀{vs:List V} {ps:List PV},vs.length=ps.length->(∀(j:Nat) v p,vs[j]?=some v->ps[j]?=some p->Rep K H v p)->Reps K H vs ps
 |[],[],_,_=>.nil
 |[],_::_,h,_=>by cases h
 |_::_,[],h,_=>by cases h
 |v::vs,p::ps,h,f=>.cons (f 0 v p rfl rfl) (nZ (by simpa using h) fun j v' p' h1 h2=>f (j+1) v' p' (by simpa using h1) (by simpa using h2))
def wn{p1 p2 q1 q2:Pos}(hs:starEach [a,b] X.env=[(false,eval a X.env),(false,eval b X.env)])(Gb:starEach [b] X.env=[(false,eval b X.env)])(hc:X.calm=true)(Fm:Gl X "tuple")(hm1:X.mg "tuple" = none)(EM:Gl X "zip")(hm2:X.mg "zip" = none)(ha:iV X [a,b] [ta,tb]) :
  a_ X (.Call (.Name "tuple" p1) [.Call (.Name "zip" p2) [a,b] [] q2] [] q1) (rj ta tb):=
 ⟨aO (tZ hc ha.ok Fm hm1 EM hm2 hs Gb) fun σ H Q ⟨σ3,S,Q3,E3,rσ,rS,h,xo,k⟩=>⟨σ3,S,_,E3,rσ,rS,h,xo,fun v S1 v' H1 h1 rv AQ g1=>⟨σ3,S1,_,E3,rσ.mono g1,AQ,h1,xo.mono g1,fun w S2 w' H2 h2 rw' B_ g2=>by
  split at h2
  ·cases rv
   cases rw'
   split at h2
   ·rename_i ea eb
    obtain⟨vs,hv,rs⟩:=B_ _ _ ea
    obtain⟨us,hu,rt⟩:=B_ _ _ eb
    have l1:=rs.length
    have l2:=rt.length
    refine⟨_,_,vs,us,rfl,hv,hu,by omega,by omega,fun r H' hh ⟨ps,hr,hpl,hp⟩=>k _ S2 _ H' h2.2.2 (.tup hr (nZ ?_ fun j v p hv' hp'=>?_)) (B_.grow hh) ((g1.trans g2).trans (.same hh))⟩
    ·rw[Jk];unfold bp;rw[Jk,List.length_zip];omega
    ·unfold bp at hp'
     rw[Jx]at hp' hv'
     cases hz:(_:List (PV×PV))[j]? with
     |none=>rw[hz]at hp';cases hp'
     |some z=>
      rw[hz]at hp'
      cases hp'
      obtain⟨e1,e2⟩:=LN.mp hz
      obtain⟨x,hx,rx⟩:=rs.get e1
      obtain⟨y,hy,ry⟩:=rt.get e2
      cases hq:ps[j]? with
      |none=>rw[hq]at hv';cases hv'
      |some q=>
       rw[hq]at hv'
       cases hv'
       exact .tup (SqT.of (hp j q x y hq hx hy)) (.cons (rx.mono (.same hh)) (.cons (ry.mono (.same hh)) .nil))
   ·exact h2.elim
  ·exact h2.elim⟩⟩⟩
end
end L3
namespace L2
open PySem PySem.Spec PyProof.Rows
noncomputable def gJ(its:Vw)(z:Str)(u:Tok)(i:Nat)(_:Option Fin×Unit):Sem (ForInStep (Option Fin×Unit)):=
 match its[i]? with
 |some y=>do
  let __do_lift <-eqBool y (Value.str z u)
  if __do_lift=true then do
   let __do_lift <-retInt (i:Int)
   pure (ForInStep.done (some __do_lift,()))
  else pure (ForInStep.yield (none,()))
 |_=>pure (ForInStep.yield (none,()))
theorem l5{prog:Program}{w:World}{A:Around}{E:Vq}{z:Str}{u:Tok}{its:Vw}{k:Nat}{Q:Option Fin×Unit->Shared->Prop}(hk:∃t,its[k]?=some (.str z t)) :
  ∀(m i:Nat) (s:Shared),i+m=its.size->i<=k->(∀j v,i<=j->j < k->its[j]?=some v->∃a t,v = .str a t/\a≠z)->(∀tk,Q (some (.done (.ret (.int k tk))),()) { s with toks:=s.toks+1 })->
  wpAny (model prog w) A (forIn (List.range' i m 1) ((none,()):Option Fin×Unit) (gJ its z u)) Q E s
 |0,i,s,hm,hi,h,q=>by
  obtain⟨t,hk⟩:=hk
  have:=(LJ.mp hk).1
  omega
 |m+1,i,s,hm,hi,h,q=>by
  rw[List.range'_succ,LY]
  have hlt:i < its.size:=by omega
  by_cases e:i=k
  ·subst e
   obtain⟨t,hk⟩:=hk
   refine Ji ?_
   unfold gJ
   rw[hk]
   refine Ji (wpAny_eqBool_str ?_)
   rw[JV rfl,if_pos rfl]
   exact Ji (Ji (wpAny_mkInt (Jp (Jp (Jp (q _))))))
  ·have hv:=JD hlt
   obtain⟨a,t,ea,ne⟩:=h i _ (Jm _) (by omega) hv
   refine Ji ?_
   have eb:gJ its z u i (none,())=(do let __do_lift <-eqBool (Value.str a t) (Value.str z u);if __do_lift=true then do { let __do_lift <-retInt (i:Int);pure (ForInStep.done (some __do_lift,())) } else pure (ForInStep.yield (none,()))):=by
    unfold gJ
    rw[hv,ea]
   rw[eb]
   refine Ji (wpAny_eqBool_str ?_)
   rw[JK ne,if_neg (by decide)]
   exact Jp (l5 hk m (i+1) s (by omega) (by omega) (fun j v h1 h2=>h j v (by omega) h2) q)
def wo(l:Addr)(its:Vw)(n:Nat)(dd:Option Addr)(sl:Array (Option Value))(z:Str)(u:Tok)(k:Nat)(hk:∃t,its[k]?=some (.str z t))(h:∀j v,j < k->its[j]?=some v->∃a t,v = .str a t/\a≠z) :
  Meets (Builtin.«tuple.index» ⟨[.ref l,.str z u],[]⟩) (fun _ R s=>s.heap.get? l=some { cls:=.type "tuple",dict:=dd,data:=.seq its n,slots:=sl }/\∀tk,R (.ok (.ret (.int k tk))) { s with toks:=s.toks+1 }):=
 .of_wp fun prog w A R s hh=>by
  obtain⟨hp,g,d,tk,os⟩:=s;obtain⟨hl,q⟩:=hh
  wp_walk using LZ hl
  show wpAny _ _ (forIn (⟨0,min its.size its.size,1,Nat.one_pos⟩:Std.Legacy.Range) ((none,()):Option Fin×Unit) (gJ its z u)) _ _ _
  rw[Std.Legacy.Range.forIn_eq_forIn_range']
  have e:Std.Legacy.Range.size ⟨0,min its.size its.size,1,Nat.one_pos⟩=its.size:=by unfold Std.Legacy.Range.size;simp
  rw[e]
  exact l5 hk its.size 0 _ (by omega) (JM _) (fun j v _ hj hv=>h j v hj hv) fun tk'=>Jp ⟨_,rfl,q tk'⟩
section
variable {X:Cx}
noncomputable def t5(K:Vo):V->List V->Hp->VK->Prop:=fun x vs H Q=>∃(l:Addr) (zs:Vs) (z:Str) (k:Nat),x = .ref l/\vs=[.str z]/\SqT K H l (zs.map V.str)/\zs[k]?=some z/\(∀j:Nat,j < k->zs[j]?≠some z)/\Q (.int k) H
def pA:vC X "tuple.index" (t5 X.K):=by
 intro pins s σ H x vs v us Q I rx rv h
 obtain⟨l,zs,z,k,rfl,rfl,hT,hk,hf,q⟩:=h
 cases rx
 obtain⟨w,rfl,u,rfl⟩:=eP rv
 obtain⟨its,r1,p1,_⟩:=I.tuple hT
 obtain⟨⟨cls,dd,data,sl⟩,ho,hc,n,hd⟩:=id p1
 simp only at hc hd
 subst hc hd
 refine LF PySem.F.slot_tuple_index ⟨_,ho,rfl⟩ PySem.F.entry_tuple_index (PySem.F.args_tuple_index_2 _ _) (wo l its.toArray n dd sl z u k ?_ ?_) ⟨ho,fun tk=>⟨.int k,H,I.tok _,⟨_,rfl⟩,q⟩⟩
 ·obtain⟨v,hv,t,rfl⟩:=r1.get (i:=k) (x:=.str z) (by rw[Jx,hk];rfl)
  exact⟨t,by simpa using hv⟩
 ·intro j v hj hv
  have hjl:j < its.length:=by simpa using(LJ.mp hv).1
  have hl:=r1.length
  rw[Jk]at hl
  obtain⟨v',hv',t,rfl⟩:=r1.get (i:=j) (x:=.str (zs[j]'(by omega))) (by rw[Jx,JE (by omega)];rfl)
  have e:v = .str (zs[j]'(by omega)) t:=by
   have h1:its[j]?=some v:=by simpa using hv
   rw[hv']at h1;cases h1;rfl
  exact⟨_,t,e,fun h=>hf j hj (by rw[JE (by omega),h])⟩
def t6{pins:Va}{σ:St}{H:Hp}{s:Shared}{a:Addr}{xs:List V}(I:Inv X pins σ H s)(h:SqT X.K H a xs):s.TypeIs (.ref a) "tuple"/\∀b,Value.ref a = .ref b->∃ob,s.heap.get? b=some ob/\ob.dict=none:=by
 rcases h with h|⟨o,its,n,hk,hc,hd,_⟩
 ·obtain⟨z,its,r,o,e,hd,hc,_⟩:=h.ok I.hok
  exact⟨⟨o,e,hc⟩,fun b q=>by cases q;exact⟨o,e,hd⟩⟩
 ·exact⟨⟨o,I.Ej a o hk,hc⟩,fun b q=>by cases q;exact⟨o,I.Ej _ o hk,hd⟩⟩
variable {o e:Expr} {es:List Expr} {to:TE} {t:TA} {name:Str} {apos cpos:Pos} {id:String} {r:V->List V->Hp->VK->Prop}
def zP(K:Vo)(r:V->List V->Hp->VK->Prop)(to:TE)(t:TA):TE:=fun σ H Q=>to σ H fun x H1=>(∃a xs,x = .ref a/\SqT K H1 a xs)/\t σ H1 fun xs H2=>r x xs H2 Q
def wq(pa:PlainAttrs "tuple")(slot:Slot "tuple" name id)(hty:typeOf (.builtin id)=pure (.type "method_descriptor"))(hm:vC X id r)(ho:PE X o to)(ha:PA X (e::es) t)
  (hbase:attributeBase o name X.env (eval o X.env)=eval o X.env:=by rfl)
  (hfew:((backTo cpos (starEach (e::es) X.env)).all (fun x=>!x.1)&&(backToKw cpos (keywordEach [] X.env)).all (fun x=>x.1.isSome)
   && decide ((e::es).length+([]:List Keyword).length+(if ([]:List Keyword).isEmpty then 0 else 1) < 30))=true:=by rfl)
  (hline:(apos.endLine == cpos.line)=true:=by rfl) (hs:starEach (e::es) X.env=(false,eval e X.env)::starEach es X.env:=by rfl) (hplain:(backTo cpos (starEach es X.env)).any (·.1)=false:=by rfl) :
  PE X (.Call (.Attribute o name apos) (e::es) [] cpos) (zP X.K r to t):=by
 intro pins s σ H Q I h
 refine wpAny_Call_method_late hbase hfew hline rfl (AL (ho pins s σ H _ I h) fun v s1 ⟨x,H1,I1,r1,⟨a,xs,ex,hT⟩,q1⟩=>?_)
 subst ex
 have r1':=r1
 cases r1
 obtain⟨h1,h2⟩:=t6 I1 hT
 refine⟨"tuple",id,pa,slot,hty,h1,h2,?_⟩
 have hA:=ha cpos pins s1 σ H1 _ I1 q1
 rw[hs]at hA ⊢
 refine K4 (by show(false || (backTo cpos (starEach es X.env)).any (·.1))=false;rw[hplain]<;>rfl) (LD ?_)
 exact AL hA fun us s2 ⟨vs,H2,I2,r2,q2⟩=>hm pins s2 σ H2 _ vs _ us Q I2 r1' r2 q2
end
end L2
namespace L3
open PySem L2
section
variable {X:Cx}
noncomputable def fZ:List PV->Option (List Str)
 |[]=>some []
 | .str z::r=>(fZ r).map (z::·)
 |_::_=>none
theorem jC:∀zs:List Str,fZ (zs.map PV.str)=some zs
 |[]=>rfl
 |z::r=>by show(fZ (r.map PV.str)).map (z::·)=_;rw[jC r];rfl
theorem kG:∀{ps:List PV} {zs:Vs},fZ ps=some zs->ps=zs.map PV.str
 |[],zs,h=>by cases h;rfl
 | .str z::r,zs,h=>by
  unfold fZ at h
  cases e:fZ r with
  |none=>rw[e]at h;cases h
  |some ws=>rw[e]at h;cases h;rw[kG e];rfl
def i8:my:=fun x ps S Q=>match x,ps with
 | .tup xs,[.str z]=>(match fZ xs with|some zs=>∃k:Nat,zs[k]?=some z/\(∀j:Nat,j < k->zs[j]?≠some z)/\Q (.int k) S|none=>False)
 |_,_=>False
theorem kH{K:Vo}{H:Hp}:∀{vs:List V} {zs:Vs},Reps K H vs (zs.map PV.str)->vs=zs.map V.str
 |[],[],_=>rfl
 |v::vs,z::zs,.cons a r=>by cases a;rw[kH r];rfl
def rm:oZ X "tuple.index" i8:=⟨fun pins s σ H x xs v us Q I rx rs ⟨px,ps,S,Q3,r1,rp,rS,q,k⟩=>by
 unfold i8 at q
 split at q
 ·split at q
  ·rename_i e
   obtain⟨j,hk,hf,q⟩:=q
   cases r1 with
   |tup hq rs'=>
    rw[kG e]at rs'
    have ev:=kH rs'
    subst ev
    cases rp with
    |cons b rr=>
     cases rr;cases b
     exact pA pins s σ H _ _ v us Q I rx rs ⟨_,_,_,j,rfl,rfl,hq,hk,hf,k _ S _ H q (.int _) rS .refl⟩
  ·exact q.elim
 ·exact q.elim⟩
variable {o e:Expr} {es:List Expr} {to:aV} {ts:List aV} {name:Str} {apos cpos:Pos} {id:String}
def wt(r:my)(to:aV)(ts:List aV):aV:=fun σ S Q E=>to σ S (fun x S1=>match x with | .tup _=>am ts σ S1 (fun ps S2=>r x ps S2 Q) E|_=>False) E
def yn{r:my}(pa:PlainAttrs "tuple")(slot:Slot "tuple" name id)(hty:typeOf (.builtin id)=pure (.type "method_descriptor"))(hm:oZ X id r)(hs:starEach (e::es) X.env=(false,eval e X.env)::starEach es X.env)(ho:a_ X o to)(ha:iV X (e::es) ts)
  (hbase:attributeBase o name X.env (eval o X.env)=eval o X.env:=by rfl)
  (hfew:((backTo cpos (starEach (e::es) X.env)).all (fun x=>!x.1)&&(backToKw cpos (keywordEach [] X.env)).all (fun x=>x.1.isSome)
   && decide ((e::es).length+([]:List Keyword).length+(if ([]:List Keyword).isEmpty then 0 else 1) < 30))=true:=by rfl)
  (hline:(apos.endLine == cpos.line)=true:=by rfl) (hplain:(backTo cpos (starEach es X.env)).any (·.1)=false:=by rfl):a_ X (.Call (.Attribute o name apos) (e::es) [] cpos) (wt r to ts):=
 ⟨aO (wq pa slot hty hm.ok ho.ok ha.ok hbase hfew hline hs hplain) fun σ H Q ⟨σ3,S,Q3,E3,rσ,rS,h,xo,k⟩=>⟨σ3,S,_,E3,rσ,rS,h,xo,fun x S1 v H1 h1 rx AQ g1=>by
  split at h1
  ·have IG:=rx
   cases rx with
   |tup hq rs=>exact⟨⟨_,_,rfl,hq⟩,bV (rσ.mono g1) AQ h1 (xo.mono g1) fun ps S2 vs H2 hl q rv B_ g2=>⟨_,ps,S2,Q3,IG.mono g2,rv,B_,q,k.mono (g1.trans g2)⟩⟩
  ·exact h1.elim⟩⟩
end
section
variable {X:Cx} {a b:Expr} {ta tb:aV} {p pos:Pos}
def n5(ta tb:aV):qX:=fun σ S R E=>ta σ S (fun v S1=>tb σ S1 (fun w S2=>match v,w with
 | .tup xs,.tup ys=>R ⟨bp xs ys,fun _=>True⟩ S2
 | .ref a,.ref b=>(match S2 a,S2 b with|some (.lst xs),some (.lst ys)=>R ⟨bp xs ys,fun S'=>S' a=some (.lst xs)/\S' b=some (.lst ys)⟩ S2|_,_=>False)
 | .ref a,.tup ys=>(match S2 a with|some (.lst xs)=>R ⟨bp xs ys,fun S'=>S' a=some (.lst xs)⟩ S2|_=>False)
 | .tup xs,.ref b=>(match S2 b with|some (.lst ys)=>R ⟨bp xs ys,fun S'=>S' b=some (.lst ys)⟩ S2|_=>False)
 |_,_=>False) E) E
def wu{elts:List Expr}{k0:Nat}{CD:Pos}(hs:starEach [a,b] X.env=[(false,eval a X.env),(false,eval b X.env)])(hs2:starEach [b] X.env=[(false,eval b X.env)])(hg:Gl X "zip")(hm:X.mg "zip" = none)(hv:bootBuiltins "zip" = some (.type "zip"))(ha:iV X [a,b] [ta,tb]) :
  tT X (.Tuple elts k0 CD) (.Call (.Name "zip" p) [a,b] [] pos) (n5 ta tb):=
 ⟨lh (vU hg hm hv ha.ok hs hs2) fun σ H R ⟨σ3,S,R3,E3,rσ,rS,h,xo,k⟩=>⟨σ3,S,_,E3,rσ,rS,h,xo,fun v S1 v' H1 h1 rv AQ g1=>⟨σ3,S1,_,E3,rσ.mono g1,AQ,h1,xo.mono g1,fun w S2 w' H2 h2 rw' B_ g2=>by
  have L:∀{a:Addr} {xs:List PV},S2 a=some (.lst xs)->∃vs,oR true X.K H2 a vs:=fun e=>let ⟨_,h,_⟩:=B_ _ _ e;⟨_,SqL.of h⟩
  split at h2
  ·cases rv with
   |tup hq rs=>
    cases rw' with
    |tup hq2 GU=>exact⟨false,false,_,_,rfl,⟨_,g2.t _ _ hq⟩,⟨_,hq2⟩,k _ S2 _ H2 h2 (i5 (.tup (g2.t _ _ hq) (rs.mono g2)) (.tup hq2 GU)) B_ (g1.trans g2)⟩
  ·cases rv
   cases rw'
   split at h2
   ·rename_i ea eb
    exact⟨true,true,_,_,rfl,L ea,L eb,k _ S2 _ H2 h2 (i5 (.lst fun _ q=>q.1) (.lst fun _ q=>q.2)) B_ (g1.trans g2)⟩
   ·exact h2.elim
  ·cases rv
   cases rw' with
   |tup hq2 GU=>
    split at h2
    ·rename_i ea
     exact⟨true,false,_,_,rfl,L ea,⟨_,hq2⟩,k _ S2 _ H2 h2 (i5 (.lst fun _ q=>q) (.tup hq2 GU)) B_ (g1.trans g2)⟩
    ·exact h2.elim
  ·cases rv with
   |tup hq rs=>
    cases rw'
    split at h2
    ·rename_i eb
     exact⟨false,true,_,_,rfl,⟨_,g2.t _ _ hq⟩,L eb,k _ S2 _ H2 h2 (i5 (.tup (g2.t _ _ hq) (rs.mono g2)) (.lst fun _ q=>q)) B_ (g1.trans g2)⟩
    ·exact h2.elim
  ·exact h2.elim⟩⟩⟩
end
end L3
namespace C
open PySem L2 L3
def cJ(Cq s0:aC):bN:=(ag (au 3 (bm [(av [(v3 0),(v3 2)])]))
  (ag (bY (b6 (ac Cq [(v3 0)])) (.tp (.cons (.n 4) (.cons (.n 5) .nil))) (ag (au 6 (bP (ah (bc false) (ah ae (v3 0) (c3 (.int 0))) (c3 (.str "take"))) (bP (ah (bc false) (v3 4) (c3 (.int 0))) (ah (iL true) (ah ae (v3 0) (c3 (.int 1))) (v3 1)))))
  (aG (cH "list" aH (v3 3) [(ac s0 [(v3 5),(v3 1),(bP (v3 2) (kr (v3 6)))])]))))
  (aw (v3 3))))
def e8(Br Dc:aC):bN:=(ag (bY (b6 (ah ae (v3 0) (c3 (.int 1)))) (.tp (.cons (.n 2) (.cons (.n 3) .nil))) (bY (b6 (ip Br [(ah ae (v3 3) (c3 (.int 1))),(v3 1)])) (.tp (.cons (.n 4) (.cons (.n 5) .nil))) (ag (au 6 (ah ae (v3 5) (c3 (.int 0))))
  (bo (j1 (aS (ah ae (v3 5) (c3 (.int 1)))) (j1 (aS (ah (bc false) (ah ae (v3 6) (c3 (.int 0))) (c3 (.str "put")))) (aS (ah (iL true) (ah ae (v3 6) (c3 (.int 1))) (v3 1))))) (aw (av [(wt i8 (ah ae (v3 0) (c3 (.int 0))) [(ah ae (v3 6) (c3 (.int 1)))]),(v3 2),(ac Dc [(ah ae (v3 3) (c3 (.int 1))),(v3 4),(av [])])])) aM))))
  (aw (c3 .non)))
def iq(CM:aC):bN:=(ag (au 1 (bm []))
  (ag (au 2 (bm []))
  (ag (au 3 (ac CM [(v3 0),(v3 2)]))
  (ag (io (aS (ah (qM true) (v3 3) (c3 .non))) (ag (aG (cH "list" bj (v3 1) [(v3 3)]))
  (ag (aG (cH "list" bj (v3 2) [(ah ae (ah ae (v3 0) (c3 (.int 0))) (ah ae (v3 3) (c3 (.int 0))))]))
  (au 3 (ac CM [(v3 0),(v3 2)])))))
  (aw (v3 1))))))
def f8(Ea:aC):bN:=(aw (aE (aD (ac Ea [(v3 0)])) (.n 0) bq (ah ae (ah ae (v3 1) (c3 (.int 0))) (ah ae (v3 0) (c3 (.int 0)))) 1 [0]))
def bI(s0 s1:aC):bN:=(ag (au 2 (bm []))
  (ag (au 3 (ac s1 [(ah ae (v3 0) (c3 (.int 2))),(v3 1)]))
  (ag (bY (aD (ac s1 [(ah ae (v3 0) (c3 (.int 1))),(v3 1)])) (.n 4) (aG (cH "list" aH (v3 2) [(aE (aD (v3 3)) (.n 0) bq (av [(v3 1),(v3 0)]) 1 [4])])))
  (aw (v3 2)))))
def dz(s0 s1:aC):bN:=(ag (bo (aS (ah (bc false) (ah ae (v3 0) (c3 (.int 0))) (c3 (.str "then")))) (aw (ac s0 [(v3 0),(v3 1)])) aM)
  (ag (bo (aS (ah (iL true) (ah ae (v3 0) (c3 (.int 0))) (av [(c3 (.str "either")),(c3 (.str "take"))]))) (aw (bm [(av [])])) aM)
  (ag (au 2 (aE (aD (ac s1 [(ah ae (v3 0) (dG bn (c3 (.int 1)))),(v3 1)])) (.n 0) bq (av [(c3 (.int 1)),(v3 0)]) 1 []))
  (ag (bo (j1 (aS (ah (bc false) (ah ae (v3 0) (c3 (.int 0))) (c3 (.str "take")))) (aS (ah (iL true) (ah ae (v3 0) (c3 (.int 1))) (v3 1)))) (aw (v3 2)) aM)
  (aw (ah aW (aE (aD (ac s1 [(ah ae (v3 0) (dG bn (c3 (.int 2)))),(v3 1)])) (.n 0) bq (av [(c3 (.int 0)),(v3 0)]) 1 []) (v3 2)))))))
def bJ(s0:aC):bN:=(ag (bo (aS (ap jv [(v3 1),(av [(c3 (.ty "list")),(c3 (.ty "tuple"))])])) (ag (bo (jk (aS (ah (bc true) (ap jv [(v3 0),(c3 (.ty "list"))]) (ap jv [(v3 1),(c3 (.ty "list"))]))) (aS (ah (bc true) (ap jv [(v3 0),(c3 (.ty "tuple"))]) (ap jv [(v3 1),(c3 (.ty "tuple"))])))) (aw (c3 (.bl false))) aM)
  (aw (bP (ah (bc false) (ap b9 [(v3 0)]) (ap b9 [(v3 1)])) (ap m4 [(aE (n5 (v3 0) (v3 1)) (.tp (.cons (.n 0) (.cons (.n 1) .nil))) bq (ac s0 [(v3 0),(v3 1)]) 2 [])])))) aM)
  (aw (bP (ah (bc false) (ap jv [(v3 0),(c3 (.ty "bool"))]) (ap jv [(v3 1),(c3 (.ty "bool"))])) (ah (bc false) (v3 0) (v3 1)))))
def dM(s0:aC):bN:=(ag (au 2 (bm []))
  (ag (bo (aS (ah (bc false) (ah ae (v3 0) (c3 (.int 0))) (c3 (.str "then")))) (ag (au 3 (ac s0 [(ah ae (v3 0) (c3 (.int 2))),(v3 1)]))
  (ag (bY (aD (ac s0 [(ah ae (v3 0) (c3 (.int 1))),(v3 1)])) (.n 4) (aG (cH "list" aH (v3 2) [(aE (aD (v3 3)) (.n 0) bq (av [(v3 1),(v3 0)]) 1 [4])])))
  (aw (v3 2)))) aM)
  (ag (bo (jk (aS (ah (bc false) (ah ae (v3 0) (c3 (.int 0))) (c3 (.str "either")))) (aS (ah (bc false) (ah ae (v3 0) (c3 (.int 0))) (c3 (.str "take"))))) (ag (bo (jk (aS (ah (bc false) (ah ae (v3 0) (c3 (.int 0))) (c3 (.str "either")))) (aS (ah (iL false) (ah ae (v3 0) (c3 (.int 1))) (v3 1)))) (au 2 (aE (aD (ac s0 [(ah ae (v3 0) (dG bn (c3 (.int 2)))),(v3 1)])) (.n 0) bq (av [(c3 (.int 0)),(v3 0)]) 1 [])) aM)
  (aw (ah aW (v3 2) (aE (aD (ac s0 [(ah ae (v3 0) (dG bn (c3 (.int 1)))),(v3 1)])) (.n 0) bq (av [(c3 (.int 1)),(v3 0)]) 1 [])))) aM)
  (aw (bm [(av [])])))))
def eg(B3 AF AR:aC):bN:=(ag (au 1 (ac B3 [(v3 0),(c3 (.int 8))]))
  (ag (au 2 (bt (v3 1) lD (kz (ah aW (c3 (.int 1)) (ac AF [(v3 0),(c3 (.int 4))])))))
  (ag (au 3 (ap bS [(v3 2)]))
  (ag (au 5 (aE (aD (v3 3)) (.n 0) bq (cH "list" lW (v3 2) [(ac AF [(v3 1),(ap b9 [(v3 2)])])]) 1 [0,2]))
  (ag (au 6 (bm []))
  (ag (bY (b6 (v3 5)) (.tp (.cons (.n 7) (.cons (.n 4) .nil))) (ag (au 8 (av [(c3 (.str "put")),(v3 4),(ah aW (c3 (.int 1)) (ac AF [(v3 0),(c3 (.int 9))]))]))
  (ag (bo (jk (aS (ah m7 (v3 7) (c3 (.int 0)))) (aS (ah (bc false) (ac AF [(v3 0),(c3 (.int 4))]) (c3 (.int 0))))) (au 8 (av [(c3 (.str "take")),(ah ae (v3 5) (ah cf (v3 7) (c3 (.int 1)))),(ah aW (c3 (.int 1)) (ac AF [(v3 0),(c3 (.int 9))])),(v3 8),(ac AR [(v3 0),(bm [])])])) aM)
  (ag (au 9 (bm [(av [(c3 (.str "then")),(ac AR [(v3 0),(bm [])]),(v3 8)]),(av [(c3 (.str "often")),(v3 8)]),(av [(c3 (.str "either")),(ac AR [(v3 0),(bm [])]),(v3 8)])]))
  (aG (cH "list" i7 (v3 6) [(ac AF [(v3 0),(ah aW (ap b9 [(v3 6)]) (c3 (.int 1)))]),(ah ae (bm [(v3 8),(ah ae (v3 9) (c3 (.int 0))),(ah ae (v3 9) (c3 (.int 1))),(ah ae (v3 9) (c3 (.int 2)))]) (ac AF [(v3 0),(c3 (.int 4))]))]))))))
  (aw (av [(v3 3),(ap bS [(aE (b6 (v3 6)) (.tp (.cons (.n 0) (.cons (.n 1) .nil))) bq (av [(ah ae (v3 2) (ah aW (c3 (.int 4)) (v3 0))),(v3 1)]) 2 [1])])]))))))))
def f9(C0:aC):bN:=(ag (qV (v3 0) (.tp (.cons (.n 1) (.cons (.n 2) .nil))))
  (ag (au 3 (bm [(v3 0)]))
  (ag (bo (aS (ah m7 (ap b9 [(v3 2)]) (c3 (.int 1)))) (ag (au 4 (aE (aD (v3 2)) (.tp (.cons (.n 0) (.cons (.n 1) .nil))) bq (v3 0) 2 []))
  (ag (au 5 (aE (aD (v3 2)) (.tp (.cons (.n 0) (.cons (.n 1) .nil))) bq (v3 1) 2 []))
  (aG (cH "list" aH (v3 3) [(bm [(av [(v3 1),(bt (v3 2) lD (kz (dG bn (c3 (.int 1)))))]),(av [(v3 1),(rj (v3 4) (ah aW (bt (v3 5) (kz (c3 (.int 1))) lD) (bt (v3 5) lD (kz (c3 (.int 1))))))])])])))) aM)
  (ag (bo (aS (ah m7 (ap b9 [(v3 1)]) (c3 (.int 1)))) (ag (au 4 (jB [((ah ae (v3 1) (c3 (.int 0))),(ah ae (v3 1) (dG bn (c3 (.int 1))))),((ah ae (v3 1) (dG bn (c3 (.int 1)))),(ah ae (v3 1) (c3 (.int 0))))]))
  (aG (cH "list" bj (v3 3) [(av [(v3 1),(ap bS [(aE (aD (v3 2)) (.tp (.cons (.n 0) (.cons (.n 1) .nil))) bq (av [(v3 0),(ac C0 [(v3 1),(v3 2)])]) 2 [4])])])]))) aM)
  (aw (v3 3))))))
def cj(Br:aC):bN:=(ag (au 2 (aE (aD (ip Br [(v3 0),(v3 1)])) (.n 0) (aS (ah (bc false) (ah ae (ah ae (v3 0) (c3 (.int 0))) (c3 (.int 0))) (c3 (.str "often")))) (v3 0) 1 []))
  (aw (aE (b6 (v3 2)) (.tp (.cons (.n 0) (.cons (.n 1) .nil))) (aS (ah ae (v3 1) (c3 (.int 1)))) (av [(v3 0),(ah ae (ah ae (v3 1) (c3 (.int 0))) (c3 (.int 1)))]) 2 [])))
def jD(DK CG DD:aC):bN:=(ag (au 2 (ac DK [(v3 0)]))
  (ag (au 3 (bm []))
  (ag (bY (aD (ac CG [(ah ae (ah ae (ah ae (v3 0) (c3 (.int 1))) (v3 1)) (c3 (.int 1))),(v3 2)])) (.tp (.cons (.n 4) (.cons (.n 5) .nil))) (aG (cH "list" aH (v3 3) [(aE (aD (ac DD [(v3 5),(v3 2)])) (.n 0) bq (av [(v3 1),(v3 0)]) 1 [4])])))
  (aw (v3 3)))))
def dN(s0:aC):bN:=(ag (au 3 (bm []))
  (ag (bo (aS (ah (bc false) (ah ae (v3 0) (c3 (.int 0))) (c3 (.str "often")))) (ag (aG (cH "list" bj (v3 3) [(ah ae (bm [(c3 .non),(ah ae (v3 0) (c3 (.int 1)))]) (ap jq [(v3 2)]))]))
  (aG (cH "list" aH (v3 3) [(ac s0 [(ah ae (v3 0) (c3 (.int 1))),(v3 1),(v3 2)])]))) aM)
  (ag (bo (aS (ah (iL false) (ah ae (v3 0) (c3 (.int 0))) (av [(c3 (.str "then")),(c3 (.str "either")),(c3 (.str "take"))]))) (ag (aG (cH "list" aH (v3 3) [(ac s0 [(ah ae (v3 0) (dG bn (c3 (.int 2)))),(v3 1),(bP (v3 2) (j2 (ah (bc true) (ah ae (v3 0) (c3 (.int 0))) (c3 (.str "take"))) (ah (iL false) (ah ae (v3 0) (c3 (.int 1))) (v3 1))))])]))
  (aG (cH "list" aH (v3 3) [(ac s0 [(ah ae (v3 0) (dG bn (c3 (.int 1)))),(v3 1),(v3 2)])]))) aM)
  (aw (v3 3)))))
def dO(Dd De:aC):bN:=(ag (au 2 (bm []))
  (ag (bY (b6 (ac Dd [(v3 0),(v3 1),(c3 (.bl true))])) (.tp (.cons (.n 3) (.cons (.n 4) .nil))) (bo (aS (ah (qM true) (v3 4) (c3 .non))) (aG (cH "list" aH (v3 2) [(aE (aD (ac De [(v3 4),(v3 1)])) (.n 0) bq (av [(v3 1),(v3 0)]) 1 [3])])) aM))
  (aw (v3 2))))
end C
namespace L3
open PySem L2 Xc
end L3
namespace L3
open PySem L2
end L3
namespace L2
open PySem PySem.Spec PyProof.Rows Xc
end L2
namespace L3
open PySem L2 Xc
section
variable {P:Program} {w:World} {K:Vo} {mg:Vr} {base:Heap}
structure bw (K:Vo) (mg:Vr) (x:Str) (st:Stmt) (ps:Vs):Prop where
 ex:∃f fd,yT K mg x st ps f fd
structure BA (P:Program) (w:World) (K:Vo) (mg:Vr) (base:Heap) (k:Nat) (x:Str) (n:Nat) (sp:aC):Prop where
 ex:∃f fd ps,ps.length=n/\EF P w K mg base k f fd ps sp/\mg x=some (.ref f)/\PySem.W.keepIn K (.ref f)=true/\Binds K fd ps []
def ft{x:Str}{st:Stmt}{ps:Vs}{k n:Nat}{t:bN}{sp:aC}(N:Vs)(O:bw K mg x st ps)
  (hbody:∀(f:Addr) (cdv:Value) (A:Around) (outer:List Env) (s:Shared) (H:Hp) (E:XK),Room k (A.deeper (PyProof.Rows.envOfC x (az st) s.heap.objs.size f cdv))->N.Nodup->ie (yh P w K mg base N x st f cdv A outer s H E) (aY st) t) (e:sp=AN N.length t)
  (hn:ps.length=n:=by rfl) (S:cO N ps (az st):=by exact⟨rfl,rfl,rfl,by decide +kernel,rfl,by decide +kernel,by decide +kernel⟩):BA P w K mg base (k+1) x n sp:=by
 subst e
 obtain⟨f,fd,o⟩:=O.ex
 exact⟨f,fd,ps,hn,Af o.F S fun cdv A outer s H E hr=>hbody f cdv A outer s H E hr S.nd,o.m,o.k,o.b⟩
def Aw{x:Str}{st:Stmt}{ps:Vs}{k:Nat}{t:bN}{sp:aC}{f:Addr}{fd:FuncData}(N:Vs)(o:yT K mg x st ps f fd)
  (hbody:∀(f:Addr) (cdv:Value) (A:Around) (outer:List Env) (s:Shared) (H:Hp) (E:XK),Room k (A.deeper (PyProof.Rows.envOfC x (az st) s.heap.objs.size f cdv))->N.Nodup->ie (yh P w K mg base N x st f cdv A outer s H E) (aY st) t) (e:sp=AN N.length t)
  (S:cO N ps (az st):=by exact⟨rfl,rfl,rfl,by decide +kernel,rfl,by decide +kernel,by decide +kernel⟩):EF P w K mg base (k+1) f fd ps sp:=by
 subst e
 exact Af o.F S fun cdv A outer s H E hr=>hbody f cdv A outer s H E hr S.nd
def lE:aC:=fun _ _ _ _=>False
theorem BA.zero{x:Str}{st:Stmt}{ps:Vs}{k n:Nat}(O:bw K mg x st ps)(hn:ps.length=n:=by rfl):BA P w K mg base k x n lE:=by
 obtain⟨f,fd,o⟩:=O.ex
 exact⟨f,fd,ps,hn,.zero rfl,o.m,o.k,o.b⟩
theorem iX{b n:Nat}{x:Str}{st:Stmt}{ps:Vs}{r:Nat->aC}(O:bw K mg x st ps)(h:∀j,BA P w K mg base (b+j) x n (r j)->BA P w K mg base (b+j+1) x n (r (j+1)))(h0:r 0=lE)(hn:ps.length=n:=by rfl):∀j,BA P w K mg base (b+j) x n (r j)
 |0=>by rw[h0];exact .zero O hn
 |j+1=>h j (iX O h h0 hn j)
end
section
variable {X:Cx} {a b e o:Expr} {es:List Expr} {ta tb te to:aV} {ts:List aV} {x c m f:Str} {p pos apos cpos:Pos} {j k n:Nat} {sp:aC}
def c4(O:BA X.prog X.w X.K X.mg X.base k x n sp)(hr:Room j X.A)(ha:iV X (e::es) ts)(hj:k<=j:=by omega)(hl:ts.length=n:=by rfl)(hg:Gl X x:=by rfl)(he:starEach (e::es) X.env=(false,eval e X.env)::starEach es X.env:=by rfl)(hdb:(x == ("__debug__":Str))=false:=by decide)(hpl:(backTo pos (starEach es X.env)).any (·.1)=false:=by rfl) :
  a_ X (.Call (.Name x p) (e::es) [] pos) (ac sp ts):=by
 obtain⟨f,fd,ps,hn,F,h1,h2,h3⟩:=O.ex
 exact q9 F (hr.mono hj) hg h1 h2 h3 he ha (hl.trans hn.symm) hdb hpl
def cB{id:String}{r:nU}(hc:fN X (.builtin id) r)(hm:X.mg x=none)(ha:iV X (e::es) ts)(hg:Gl X x:=by rfl)(hv:bootBuiltins x=some (.builtin id):=by decide +kernel)(he:starEach (e::es) X.env=(false,eval e X.env)::starEach es X.env:=by rfl)
  (hnn:x ≠ "__name__":=by decide) (hdb:(x == ("__debug__":Str))=false:=by decide) (hpl:(backTo pos (starEach es X.env)).any (·.1)=false:=by rfl):a_ X (.Call (.Name x p) (e::es) [] pos) (ap r ts):=tN hc hg hm hv he ha hnn hdb hpl
def cT{id:String}{r:nU}(hc:fN X (.type id) r)(hm:X.mg x=none)(ha:iV X (e::es) ts)(hg:Gl X x:=by rfl)(hv:bootBuiltins x=some (.type id):=by decide +kernel)(he:starEach (e::es) X.env=(false,eval e X.env)::starEach es X.env:=by rfl)
  (hnn:x ≠ "__name__":=by decide) (hdb:(x == ("__debug__":Str))=false:=by decide) (hpl:(backTo pos (starEach es X.env)).any (·.1)=false:=by rfl):a_ X (.Call (.Name x p) (e::es) [] pos) (ap r ts):=tO hc hg hm hv he ha hnn hdb hpl
def lc{r:List Expr}(ha:a_ X a ta)(hr:iV X r ts)(hs:starEach (a::r) X.env=(false,eval a X.env)::starEach r X.env:=by rfl):iV X (a::r) (ta::ts):=qK hs ha hr
def l1(ha:a_ X a ta)(hs:starEach [a] X.env=(false,eval a X.env)::starEach [] X.env:=by rfl):iV X [a] [ta]:=qK hs ha b4
def bg{i:Int}{q:Nat}{p2:Pos}(hr:Room j X.A)(ha:a_ X a ta)(hs:i0 (.Constant (.int i) q p2):=by exact fun _ _=>rfl):a_ X (.Subscript a (.Constant (.int i) q p2) pos) (ah ae ta (c3 (.int i))):=yb (Ae (sn hr)) ha af hs
def dQ(hr:Room j X.A)(ha:a_ X a ta)(hb:a_ X b tb)(hs:i0 b:=by exact fun _ _=>rfl):a_ X (.Subscript a b pos) (ah ae ta tb):=yb (Ae (sn hr)) ha hb hs
def fu(hr:Room j X.A)(ha:a_ X a ta)(hb:a_ X b tb):mS X (.Compare a [.Eq] [b] pos) (aS (ah (bc false) ta tb)):=bd (jo (gH hr)) ha hb (aX _)
def yV(hr:Room j X.A)(ha:a_ X a ta)(hb:a_ X b tb):mS X (.Compare a [.NotEq] [b] pos) (aS (ah (bc true) ta tb)):=bd (uJ (gH hr)) ha hb (aX _)
def s4(i:Nat){pos':Pos}(nd:X.N.Nodup)(he:a_ X e te)(hi:X.N[i]?=some x:=by rfl)(hx:ux X.env.scope x:=by first|exact Or.inl rfl|exact Or.inr rfl)(hs:swapsWith e (some (.Name x pos')) pos.line X.env=pure false:=by rfl)
  (hf:X.fn x=true\/X.env.scope.names.lookup x=some .local:=by first|exact .inl rfl|exact .inr rfl|assumption):mT X (.Assign [.Name x pos'] e pos) (au i te):=ye nd hi hx he hs hf
def gn(i:Nat)(nd:X.N.Nodup)(hi:X.N[i]?=some x:=by rfl)(hx:ux X.env.scope x:=by first|exact Or.inl rfl|exact Or.inr rfl)(hf:X.fn x=true\/X.env.scope.names.lookup x=some .local:=by first|exact .inl rfl|exact .inr rfl|assumption):sk X (.Name x pos) (.n i):=At i nd hi hx hf
def Ax{px:Pos}{kvs:List (bf×Int)}{g:Expr}{tg:aV}(hr:Room j X.A)(hD:∃a,X.mg x=some (.ref a)/\KD X.prog X.w X.K a (kvs.map fun kv=>(kv.1,V.int kv.2)))(he:a_ X e te)(hf:a_ X g tg)(hg:Gl X x:=by rfl)(m:M2 X (.Name x px) "get" apos e g cpos:=by exact⟨rfl,rfl,rfl,rfl⟩)
  (hd:(x == ("__debug__":Str))=false:=by decide):a_ X (.Call (.Attribute (.Name x px) "get" apos) [e,g] [] cpos) (nX kvs te tg):=let ⟨_,h1,h2⟩:=hD;wk (sn hr) hg h1 h2 he hf m hd
end
structure t7 (T:String) (name:Str) (id:String):Prop where
 pa:PlainAttrs T
 slot:Slot T name id
 ty:typeOf (.builtin id)=pure (.type "method_descriptor")
section
variable {X:Cx} {e o:Expr} {es:List Expr} {to:aV} {ts:List aV} {name:Str} {T id:String} {p pos apos cpos:Pos} {r:my}
def ck:t7 "list" "append" "list.append":=⟨K0,PySem.F.slot_list_append,PySem.F.type_list_append⟩
def bz:t7 "list" "extend" "list.extend":=⟨K0,PySem.F.slot_list_extend,PySem.F.type_list_extend⟩
def pB:t7 "list" "insert" "list.insert":=⟨K0,PySem.F.slot_list_insert,PySem.F.type_list_insert⟩
def rn:t7 "list" "pop" "list.pop":=⟨K0,PySem.F.slot_list_pop,PySem.F.type_list_pop⟩
def nh:t7 "list" "reverse" "list.reverse":=⟨K0,PySem.F.slot_list_reverse,PySem.F.type_list_reverse⟩
def n6:t7 "str" "join" "str.join":=⟨PySem.F.plainAttrs_str,PySem.F.slot_str_join,PySem.F.type_str_join⟩
def rq:t7 "str" "index" "str.index":=⟨PySem.F.plainAttrs_str,PySem.F.slot_str_index,PySem.F.type_str_index⟩
def jW(k:t7 T name id)(hm:oZ X id r)(ho:a_ X o to)(ha:iV X (e::es) ts)(hs:starEach (e::es) X.env=(false,eval e X.env)::starEach es X.env:=by rfl)
  (hbase:attributeBase o name X.env (eval o X.env)=eval o X.env:=by rfl)
  (hfew:((backTo cpos (starEach (e::es) X.env)).all (fun x=>!x.1)&&(backToKw cpos (keywordEach [] X.env)).all (fun x=>x.1.isSome)
   && decide ((e::es).length+([]:List Keyword).length+(if ([]:List Keyword).isEmpty then 0 else 1) < 30))=true:=by rfl)
  (hline:(apos.endLine == cpos.line)=true:=by rfl) (hplain:(backTo cpos (starEach es X.env)).any (·.1)=false:=by rfl):a_ X (.Call (.Attribute o name apos) (e::es) [] cpos) (cH T r to ts):=zH k.pa k.slot k.ty hm hs ho ha hbase hfew hline hplain
def yo(k:t7 T name id)(hm:oZ X id r)(ho:a_ X o to)
  (hbase:attributeBase o name X.env (eval o X.env)=eval o X.env:=by rfl) (hline:(apos.endLine == cpos.line)=true:=by rfl):a_ X (.Call (.Attribute o name apos) [] [] cpos) (cH T r to []):=yd k.pa k.slot k.ty hm ho hbase hline
end
section
variable {X:Cx} {tg iter elt:Expr} {ifs:List Expr} {scope:Scope} {pos:Pos} {ti:qX} {g:Tg} {tc:iJ} {te:aV}
def mB(fs:Vs)(own:Nat)(fr:List Nat)(N:Vs)(hi:tT X tg iter ti)(hg:∀B,sk (X.Ch N scope fs B) tg g)(hf:∀B,wV (X.Ch N scope fs B) ifs tc)(he:∀B,a_ (X.Ch N scope fs B) elt te)
  (EE:g.under own=true:=by rfl) (hc:X.calm=true:=by rfl) (hclos:closureFor scope X.env=pure (cg X.env fs):=by rfl) (hcell:∀y∈scope.names,y.2 ≠ .cell:=by decide +kernel) (hkind:scope.kind = .function:=by rfl)
  (hnames:∀x∈scope.names,x.2 = .local->scope.names.lookup x.1=some .local:=by decide +kernel) (hcl:bZ X.env fs:=by repeat' first|exact trivial|exact⟨_,rfl⟩|constructor) (hhas:k5 (relabel scope X.env).names (cg X.env fs)=true:=by rfl)
  (hlen:N.length=own+fr.length:=by rfl) (hN:(N.drop own).map some=fr.map (fun j=>X.N[j]?):=by rfl) (hF:Bq X.env scope (cg X.env fs) (N.drop own):=by repeat' first|exact trivial|exact .inl rfl|exact .inr rfl|exact rfl|apply And.intro)
  (hs:∀x,foldedSetIterable iter X.env x=pure x:=by intro _;rfl):a_ X (.ListComp elt [⟨tg,iter,ifs,0⟩] scope pos) (aE ti g tc te own fr):=wg fs own fr N EE hc hclos hcell hkind hnames hcl hhas hlen hN hF hi hg hf he hs
def wv(fs:Vs)(own:Nat)(fr:List Nat)(N:Vs)(i:Nat){y:Str}{py spos:Pos}(hX:X.N.Nodup)(hi:tT X tg iter ti)(hg:∀B,sk (X.Ch N scope fs B) tg g)(hf:∀B,wV (X.Ch N scope fs B) ifs tc)(he:∀B,a_ (X.Ch N scope fs B) elt te)
  (hix:X.N[i]?=some y:=by rfl) (hy:X.env.scope.names.lookup y=some .local:=by rfl) (hsw:swapsWith (.ListComp elt [⟨tg,iter,ifs,0⟩] scope pos) (some (.Name y py)) spos.line X.env=pure true:=by rfl)
  (EE:g.under own=true:=by rfl) (hc:X.calm=true:=by rfl) (hclos:closureFor scope X.env=pure (cg X.env fs):=by rfl) (hcell:∀y∈scope.names,y.2 ≠ .cell:=by decide +kernel) (hkind:scope.kind = .function:=by rfl)
  (hnames:∀x∈scope.names,x.2 = .local->scope.names.lookup x.1=some .local:=by decide +kernel) (hcl:bZ X.env fs:=by repeat' first|exact trivial|exact⟨_,rfl⟩|constructor) (hhas:k5 (relabel scope X.env).names (cg X.env fs)=true:=by rfl)
  (hlen:N.length=own+fr.length:=by rfl) (hN:(N.drop own).map some=fr.map (fun j=>X.N[j]?):=by rfl) (hF:Bq X.env scope (cg X.env fs) (N.drop own):=by repeat' first|exact trivial|exact .inl rfl|exact .inr rfl|exact rfl|apply And.intro)
  (hs:∀x,foldedSetIterable iter X.env x=pure x:=by intro _;rfl):mT X (.Assign [.Name y py] (.ListComp elt [⟨tg,iter,ifs,0⟩] scope pos) spos) (au i (aE ti g tc te own fr)):=wj fs own fr N hX hix hy hsw EE hc hclos hcell hkind hnames hcl hhas hlen hN hF hi hg hf he hs
end
section
variable {X:Cx} {e:Expr} {es:List Expr} {ts:List aV} {x:Str} {p pos cpos:Pos} {ks:Vs} {j:Nat}
def uN{n:String}(hm:X.mg x=none)(hg:Gl X x:=by rfl)(hv:bootBuiltins x=some (.type n):=by decide +kernel)(hn:x ≠ "__name__":=by decide)(hd:(x == ("__debug__":Str))=false:=by decide):a_ X (.Name x pos) (c3 (.ty n)):=zF hg hm hv hn hd
end
section
variable {P:Program} {w:World} {K:Vo} {mg:Vr} {base:Heap}
structure l6 (K:Vo) (mg:Vr) (x:Str) (st:Stmt) (ps:Vs):Prop where
 ex:∃T f fd,zO K mg x st ps T f fd
structure EQ (P:Program) (w:World) (K:Vo) (mg:Vr) (base:Heap) (k:Nat) (x:Str) (n:Nat) (sp:aC):Prop where
 ex:∃f fd ps,ps.length=n/\EF P w K mg base k f fd ps sp/\mg x=some (.ref f)/\PySem.W.keepIn K (.ref f)=true/\Binds K fd ps []/\Binds K fd ps [.bool true]
def Ay{x:Str}{st:Stmt}{ps:Vs}{k n:Nat}{t:bN}{sp:aC}(N:Vs)(O:l6 K mg x st ps)
  (hbody:∀(f:Addr) (cdv:Value) (A:Around) (outer:List Env) (s:Shared) (H:Hp) (E:XK),Room k (A.deeper (PyProof.Rows.envOfC x (az st) s.heap.objs.size f cdv))->N.Nodup->ie (yh P w K mg base N x st f cdv A outer s H E) (aY st) t) (e:sp=AN N.length t)
  (hn:ps.length=n:=by rfl) (S:cO N ps (az st):=by exact⟨rfl,rfl,rfl,by decide +kernel,rfl,by decide +kernel,by decide +kernel⟩):EQ P w K mg base (k+1) x n sp:=by
 subst e
 obtain⟨T,f,fd,o⟩:=O.ex
 exact⟨f,fd,ps,hn,zN o.F S fun cdv A outer s H E hr=>hbody f cdv A outer s H E hr S.nd,o.m,o.k,o.b,o.d⟩
theorem EQ.zero{x:Str}{st:Stmt}{ps:Vs}{k n:Nat}(O:l6 K mg x st ps)(hn:ps.length=n:=by rfl):EQ P w K mg base k x n lE:=by
 obtain⟨T,f,fd,o⟩:=O.ex
 exact⟨f,fd,ps,hn,.zero rfl,o.m,o.k,o.b,o.d⟩
theorem yp{b n:Nat}{x:Str}{st:Stmt}{ps:Vs}{r:Nat->aC}(O:l6 K mg x st ps)(h:∀j,EQ P w K mg base (b+j) x n (r j)->EQ P w K mg base (b+j+1) x n (r (j+1)))(h0:r 0=lE)(hn:ps.length=n:=by rfl):∀j,EQ P w K mg base (b+j) x n (r j)
 |0=>by rw[h0];exact .zero O hn
 |j+1=>h j (yp O h h0 hn j)
end
section
variable {X:Cx} {e:Expr} {es:List Expr} {ts:List aV} {x:Str} {p pos:Pos} {j k n:Nat} {sp:aC}
def cD(O:EQ X.prog X.w X.K X.mg X.base k x n sp)(hr:Room j X.A)(ha:iV X (e::es) ts)(hj:k<=j:=by omega)(hl:ts.length+1=n:=by rfl)(hg:Gl X x:=by rfl)(he:starEach (e::es) X.env=(false,eval e X.env)::starEach es X.env:=by rfl)(hdb:(x == ("__debug__":Str))=false:=by decide)(hpl:(backTo pos (starEach es X.env)).any (·.1)=false:=by rfl) :
  a_ X (.Call (.Name x p) (e::es) [] pos) (ip sp ts):=by
 obtain⟨f,fd,ps,hn,F,h1,h2,h3,h4⟩:=O.ex
 exact t4 F (hr.mono hj) hg h1 h2 h4 he ha (hl.trans hn.symm) hdb hpl
def Az(O:EQ X.prog X.w X.K X.mg X.base k x n sp)(hr:Room j X.A)(ha:iV X (e::es) ts)(hj:k<=j:=by omega)(hl:ts.length=n:=by rfl)(hg:Gl X x:=by rfl)(he:starEach (e::es) X.env=(false,eval e X.env)::starEach es X.env:=by rfl)(hdb:(x == ("__debug__":Str))=false:=by decide)(hpl:(backTo pos (starEach es X.env)).any (·.1)=false:=by rfl) :
  a_ X (.Call (.Name x p) (e::es) [] pos) (ac sp ts):=by
 obtain⟨f,fd,ps,hn,F,h1,h2,h3,h4⟩:=O.ex
 exact q9 F (hr.mono hj) hg h1 h2 h3 he ha (hl.trans hn.symm) hdb hpl
end
end L3
namespace L2
open PySem PySem.Spec PyProof.Rows
end L2
namespace L3
open PySem L2
end L3
namespace CY
open PySem L2 L3
end CY
namespace L3
open PySem L2
theorem l7:∀{a b:List Char},a.map Char.toNat=b.map Char.toNat->a=b
 |[],[],_=>rfl
 |[],_::_,h=>by simp at h
 |_::_,[],h=>by simp at h
 |x::a,y::b,h=>by
  simp only[JG,List.cons.injEq]at h
  rw[l7 h.2,Char.toNat_inj.mp h.1]
def aF{a b:String}:(Str.ofString a=Str.ofString b)↔a=b:=by
 refine⟨fun h=>?_,fun h=>by rw[h]⟩
 rw[Str.ofString_eq_toList,Str.ofString_eq_toList]at h
 have h':a.toList.map Char.toNat=b.toList.map Char.toNat:=by
  have:=Ke (fun s:Str=>s.cps.toList) h
  simpa using this
 exact String.toList_inj.mp (l7 h')
def sS{a b:String}:((Sum.inr (Str.ofString a):bf)=Sum.inr (Str.ofString b))↔a=b:=by
 rw[Sum.inr.injEq,aF]
def ww{i j:Int}(h1:-(2 ^ 64) < i)(h2:i < 2 ^ 64):IntMulOk i j:=(show EK i j from .inl ⟨h1,h2⟩).ok
def t8{i j:Int}(h1:-(2 ^ 64) < j)(h2:j < 2 ^ 64):IntMulOk i j:=(show EK i j from .inr ⟨h1,h2⟩).ok
def gK{i j:Int}(h:0<=j):i.fmod j=i % j:=Int.fmod_eq_emod_of_nonneg i h
def yq{i j:Int}(h:0<=j):i.fdiv j=i / j:=Int.fdiv_eq_ediv_of_nonneg i h
def yr{i j:Int}(h:0 < j)(h2:j < 2 ^ 64):lS i j:=⟨by omega,MS (show j.natAbs < 2 ^ 64 by omega) (Nat.pow_lt_pow_right (by decide) (by decide))⟩
def BN(d l:Addr)(S S':aq):Prop:=∀a o,S a=some o->a≠d->a≠l->S' a=some o
def BN.refl{d l:Addr}{S:aq}:BN d l S S:=fun _ _ h _ _=>h
def BN.trans{d l:Addr}{S S1 S2:aq}(a:BN d l S S1)(b:BN d l S1 S2):BN d l S S2:=fun x o h h1 h2=>b x o (a x o h h1 h2) h1 h2
def BN.upd{d l:Addr}{S:aq}{o:SO}:BN d l S (AH S d o):=fun x u h h1 h2=>by rw[ai h1];exact h
def BN.IH{d l:Addr}{S:aq}{o:SO}:BN d l S (AH S l o):=fun x u h h1 h2=>by rw[ai h2];exact h
def BN.new{d l p:Addr}{S:aq}{o:SO}(h:S p=none):BN d l S (AH S p o):=fun x u hx h1 h2=>by rw[ai (fun e=>by rw[e,h]at hx;cases hx)];exact hx
end L3
local macro_rules | `(tactic| walk_at "x")=>`(tactic| ((try dsimp only [L3.ag,L3.au,L3.aw,L3.aG,L3.bo,L3.aM,L3.ah,L3.v3,L3.c3,L3.lk,L3.am,L3.ap,L3.ac,L3.cH,L3.aS,L3.j1,L3.jk,L3.mV,L3.bP,L3.j2,L3.kr,L3.oY,L3.lg,L3.o6,L3.jz,L3.av,L3.bm,L3.dG,L3.bn,L3.ae,L3.ij,L3.bt,L3.lD,L3.kz,L3.ld,L3.d8,L3.fM,L3.cf,L3.fF,L3.iM,L3.rg,L3.pQ,L3.m7,L3.yi,L3.bc,L3.qM,L3.aW,L3.iW,L3.b9,L3.jp,L3.jq,L3.bS,L3.lV,List.set_cons_zero,List.set_cons_succ,List.set_nil,L3.j3,L3.im,L3.lW,L3.aE,L3.aD,L3.bv,L3.bY,L3.cR,L3.Tg.put,L3.Tg.AK,L3.qV,L3.jB,L3.fV,L3.lZ,L3.li,L3.b6,L3.bj,L3.aH,List.reduceReplicate,List.map_cons,List.map_nil,List.cons_append,List.nil_append]); (try simp only [L3.ag,L3.au,L3.aw,L3.aG,L3.bo,L3.aM,L3.ah,L3.v3,L3.c3,L3.lk,L3.am,L3.ap,L3.ac,L3.cH,L3.aS,L3.j1,L3.jk,L3.mV,L3.bP,L3.j2,L3.kr,L3.oY,L3.lg,L3.o6,L3.jz,L3.av,L3.bm,L3.dG,L3.bn,L3.ae,L3.ij,L3.bt,L3.lD,L3.kz,L3.ld,L3.d8,L3.fM,L3.cf,L3.fF,L3.iM,L3.rg,L3.pQ,L3.m7,L3.yi,L3.bc,L3.qM,L3.aW,L3.iW,L3.b9,L3.jp,L3.jq,L3.bS,L3.lV,List.set_cons_zero,List.set_cons_succ,List.set_nil,L3.j3,L3.im,L3.lW,L3.aE,L3.aD,L3.bv,L3.bY,L3.cR,L3.Tg.put,L3.Tg.AK,L3.qV,L3.jB,L3.fV,L3.lZ,L3.li,L3.b6,L3.bj,L3.aH,List.reduceReplicate,JG,Kg,List.cons_append,List.nil_append])))
namespace C
open PySem L2 L3
noncomputable def bO(seed number:Int)(l:Addr):List (bf×PV):=[(Sum.inr "seed",.int seed),(Sum.inr "number",.int number),(Sum.inr "left",.ref l)]
structure CH (S:aq) (d l:Addr) (seed number:Int) (left:Vu):Prop where
 d:S d=some (.dct (bO seed number l))
 l:S l=some (.lst (left.map PV.int))
 s0:0<=seed
 s1:seed < 2147483647
 nm:0<=number
 lf:∀x∈left,0<=x
 ln:left.length<=100
def AW(S:aq)(d l:Addr):Prop:=∃seed number left,CH S d l seed number left
def CH.ne{S:aq}{d l:Addr}{seed number:Int}{left:Vu}(D:CH S d l seed number left):d≠l:=fun e=>by
 have h:=D.d
 rw[e,D.l]at h
 cases h
def AW.new{S:aq}{d l p:Addr}{o:SO}(D:AW S d l)(h:S p=none):AW (AH S p o) d l:=by
 obtain⟨s,n,f,D⟩:=D
 refine⟨s,n,f,?_,?_,D.s0,D.s1,D.nm,D.lf,D.ln⟩
 ·rw[ai (fun e=>by have:=D.d;rw[e,h]at this;cases this)];exact D.d
 ·rw[ai (fun e=>by have:=D.l;rw[e,h]at this;cases this)];exact D.l
def AW.upd{S:aq}{d l p:Addr}{o:SO}(D:AW S d l)(h1:p≠d)(h2:p≠l):AW (AH S p o) d l:=by
 obtain⟨s,n,f,D⟩:=D
 exact⟨s,n,f,by rw[ai h1.symm];exact D.d,by rw[ai h2.symm];exact D.l,D.s0,D.s1,D.nm,D.lf,D.ln⟩
def AW.free{S:aq}{d l p:Addr}(D:AW S d l)(h:S p=none):p≠d/\p≠l:=by
 obtain⟨s,n,f,D⟩:=D
 exact⟨(fun e=>by have:=D.d;rw[<-e,h]at this;cases this),(fun e=>by have:=D.l;rw[<-e,h]at this;cases this)⟩
def jE(s n m:Int)(l:Addr):il (bO s n l) (Sum.inr "number") (.int m)=bO s m l:=by
 simp[il,bO,sS,aF]
def rA(s n m:Int)(l:Addr):il (bO s n l) (Sum.inr "seed") (.int m)=bO m n l:=by
 simp[il,bO,sS,aF]
def wx(s n:Int)(l:Addr):dX (bO s n l) (Sum.inr "seed")=some (.int s):=by simp[dX,bO,sS,aF]
def rB(s n:Int)(l:Addr):dX (bO s n l) (Sum.inr "number")=some (.int n):=by simp[dX,bO,sS,aF]
def wy(s n:Int)(l:Addr):dX (bO s n l) (Sum.inr "left")=some (.ref l):=by simp[dX,bO,sS,aF]
abbrev bF(w:aC):Prop:=∀{S:aq} {d l:Addr} {m:Int} {Q:bM} {E:cQ},AW S d l->0 < m->m < 2 ^ 62->(∀r S',0<=r->r < m->AW S' d l->BN d l S S'->Q (.int r) S')->w [.ref d,.int m] S Q E
def AI:bF (AN 5 eX):=by
  intro S d l m Q E D h0 h1 k
  obtain⟨seed,number,left,D⟩:=D
  have hne:=D.ne
  have hsz:∀a b,(bO a b l).length < sizeLine:=fun _ _=>dU (by show 3<=1000;decide)
  have fin:∀num DV S1,CH S1 d l seed num DV->BN d l S S1->¬(num=0/\0 < DV.length)->
      (if 0 < num then lS num m/\(bO seed num l).length < sizeLine/\m≠0/\Q (PV.int (num.fmod m)) (AH S1 d (SO.dct (bO seed (num.fdiv m) l)))
       else IntMulOk seed 48271/\(2147483647:Int)≠0/\IntMulOk ((seed * 48271+7919).fmod 2147483647) 40692/\(2147483399:Int)≠0/\(bO seed num l).length < sizeLine/\
        IntMulOk (((seed * 48271+7919).fmod 2147483647 * 40692+104729).fmod 2147483399) (((seed * 48271+7919).fmod 2147483647 * 40692+104729).fmod 2147483399)/\(2147483563:Int)≠0/\
        IntMulOk ((seed * 48271+7919).fmod 2147483647) ((seed * 48271+7919).fmod 2147483647)/\(2147483629:Int)≠0/\
        IntMulOk (((seed * 48271+7919).fmod 2147483647 * (seed * 48271+7919).fmod 2147483647).fmod 2147483629) 2147483563/\m≠0/\
        Q (PV.int ((((seed * 48271+7919).fmod 2147483647 * (seed * 48271+7919).fmod 2147483647).fmod 2147483629 * 2147483563+((((seed * 48271+7919).fmod 2147483647 * 40692+104729).fmod 2147483399) * (((seed * 48271+7919).fmod 2147483647 * 40692+104729).fmod 2147483399)).fmod 2147483563).fmod m))
          (AH S1 d (SO.dct (bO (((seed * 48271+7919).fmod 2147483647 * 40692+104729).fmod 2147483399) num l)))):=by
    intro num DV S1 D1 O1 hz
    split
    . rename_i hp
      rw[gK (MF h0),yq (MF h0)]
      refine⟨yr h0 (by omega),hsz _ _,by omega,k _ _ (Int.emod_nonneg _ (by omega)) (MI _ h0) ⟨seed,num / m,DV,aa,by rw[ai hne.symm];exact D1.l,D1.s0,D1.s1,Int.ediv_nonneg D1.nm (MF h0),D1.lf,D1.ln⟩ (O1.trans .upd)⟩
    . have e1:∀x:Int,x.fmod 2147483647=x % 2147483647:=fun x=>gK (by decide)
      have e2:∀x:Int,x.fmod 2147483399=x % 2147483399:=fun x=>gK (by decide)
      simp only[e1,e2,gK (MF h0)]
      have p1:=D1.s0
      have p2:=D1.s1
      refine⟨t8 (by decide) (by decide),by decide,t8 (by decide) (by decide),by decide,hsz _ _,ww (by omega) (by omega),by decide,ww (by omega) (by omega),by decide,t8 (by decide) (by decide),by omega,
        k _ _ (Int.emod_nonneg _ (by omega)) (MI _ h0) ⟨_,num,DV,aa,by rw[ai hne.symm];exact D1.l,by omega,by omega,D1.nm,D1.lf,D1.ln⟩ (O1.trans .upd)⟩
  unfold AN eX
  rw[show aB 5 [PV.ref d,PV.int m]=[some (.ref d),some (.int m),none,none,none] from rfl]
  simp only[ag]
  refine⟨fun n σ S'=>σ=[some (.ref d),some (.int m),none,none,none]/\∃number left,CH S' d l seed number left/\left.length=n/\BN d l S S',⟨_,rfl,number,left,D,rfl,.refl⟩,?_⟩
  rintro n σ S1 ⟨rfl,num,DV,D1,hn,O1⟩
  walk_at "x"
  simp only[D1.d,D1.l,rB,wy,wx,rA,jE,aa,Jt,Jz]
  have hlen:(List.map PV.int DV).length=DV.length:=Jk ..
  rw[hlen]
  split
  . rename_i hz
    subst hz
    split
    . rename_i hl
      refine⟨fun σ S'=>σ=[some (.ref d),some (.int m),none,none,none]/\∃number left,CH S' d l seed number left/\left.length < n/\BN d l S S',?_,?_⟩
      . rintro σ' S' ⟨rfl,a,b,h2,h3,h4⟩
        exact⟨_,h3,rfl,a,b,h2,rfl,h4⟩
      . have hl':0 < DV.length:=by omega
        obtain⟨pre,x,rfl⟩:∃pre x,DV=pre++[x]:=by
          refine⟨DV.dropLast,DV.getLast (by intro e;rw[e]at hl';simp at hl'),(Lw _).symm⟩
        refine⟨trivial,?_⟩
        rw[show(List.map PV.int (pre++[x]))[(pre++[x]).length - 1]?=some (.int x) by simp,show(List.map PV.int (pre++[x])).dropLast=pre.map PV.int by simp]
        simp only[ai hne,D1.d,jE]
        refine⟨hsz _ _,trivial,x,pre,⟨aa,by rw[ai hne.symm,aa],D1.s0,D1.s1,D1.lf x (by simp),fun y hy=>D1.lf y (by simp[hy]),by have:=D1.ln;simp at this;omega⟩,?_,O1.trans (BN.IH.trans .upd)⟩
        rw[<-hn];simp
    . rename_i hl
      exact fin 0 DV S1 D1 O1 (fun z=>hl (by omega))
  . rename_i hz
    rw[if_neg (by decide)]
    exact fin num DV S1 D1 O1 (fun z=>hz z.1)
end C
namespace L3
open PySem L2
def Ext(S S':aq):Prop:=∀a o,S a=some o->S' a=some o
def Ext.refl{S:aq}:Ext S S:=fun _ _ h=>h
def Ext.trans{S S1 S2:aq}(a:Ext S S1)(b:Ext S1 S2):Ext S S2:=fun x o h=>b x o (a x o h)
def Ext.new{S:aq}{p:Addr}{o:SO}(h:S p=none):Ext S (AH S p o):=fun x u hx=>by rw[ai (fun e=>by rw[e,h]at hx;cases hx)];exact hx
def Ext.free{S S':aq}(e:Ext S S'){p:Addr}(h:S' p=none):S p=none:=by
 cases q:S p with
 |none=>rfl
 |some o=>rw[e p o q]at h;cases h
theorem er{g:Tg}{tc:iJ}{te:aV}{σ':b3}{keep:aq->Prop}{fin:List PV->aq->Prop}{S:aq}(f:PV->PV)(c:PV->Bool)(hk:keep S):∀(items ys:List PV),
  (∀x∈items,∃σ2,g.put x σ'=some σ2/\(∀Q:Bool->aq->Prop,Q (c x) S->tc σ2 S Q cX)/\(c x=true->∀Q:bM,Q (f x) S->te σ2 S Q cX))->ys.length+items.length<=sizeLine->fin (ys++(items.filter c).map f) S->b_ g tc te σ' keep fin items ys S
 |[],ys,_,hl,hf=>⟨hk,by simpa using hl,by simpa using hf⟩
 |x::r,ys,h,hl,hf=>by
  obtain⟨σ2,e,h1,h2⟩:=h x (by simp)
  refine⟨hk,by simp at hl;omega,?_⟩
  rw[e]
  refine h1 _ ?_
  cases hc:c x with
  |true=>
   rw[if_pos rfl]
   refine h2 hc _ (er f c hk r (ys++[f x]) (fun y hy=>h y (by simp[hy])) (by simp at hl ⊢;omega) ?_)
   rw[Ms,hc,if_pos rfl]at hf
   simpa using hf
  |false=>
   rw[if_neg (by decide)]
   refine er f c hk r ys (fun y hy=>h y (by simp[hy])) (by simp at hl ⊢;omega) ?_
   rw[Ms,hc,if_neg (by decide)]at hf
   exact hf
def pC{g:Tg}{te:aV}{σ':b3}{keep:aq->Prop}{fin:List PV->aq->Prop}{S:aq}(f:PV->PV){items:List PV}(hk:keep S)
  (h:∀x∈items,∃σ2,g.put x σ'=some σ2/\∀Q:bM,Q (f x) S->te σ2 S Q cX) (hl:items.length<=sizeLine) (hf:fin (items.map f) S):b_ g bq te σ' keep fin items [] S:=by
 refine er f (fun _=>true) hk items [] (fun x hx=>?_) (by simpa using hl) (by rw[List.filter_eq_self.mpr (fun _ _=>rfl)];exact hf)
 obtain⟨σ2,e,k⟩:=h x hx
 exact⟨σ2,e,fun Q q=>q,fun _=>k⟩
theorem kI{g:Tg}{tc:iJ}{te:aV}{σ':b3}{keep:aq->Prop}{fin:List PV->aq->Prop}{items:List PV}(Iv:List PV->List PV->aq->Prop)(hk:∀done ys S,Iv done ys S->keep S/\ys.length<=sizeLine)
  (step:∀done x rest ys S (K:List PV->aq->Prop),items=done++x::rest->Iv done ys S->(∀ys' S',Iv (done++[x]) ys' S'->K ys' S')->match g.put x σ' with
   |some σ2=>tc σ2 S (fun b S3=>if b=true then te σ2 S3 (fun y S4=>K (ys++[y]) S4) cX else K ys S3) cX
   |none=>False)
  (hf:∀ys S,Iv items ys S->fin ys S):∀(rest done ys:List PV) (S:aq),items=done++rest->Iv done ys S->b_ g tc te σ' keep fin rest ys S
 |[],done,ys,S,e,h=>by
  rw[JN]at e
  exact⟨(hk _ _ _ h).1,(hk _ _ _ h).2,hf ys S (e▸h)⟩
 |x::rest,done,ys,S,e,h=>by
  refine⟨(hk _ _ _ h).1,(hk _ _ _ h).2,?_⟩
  exact step done x rest ys S (fun ys' S'=>b_ g tc te σ' keep fin rest ys' S') e h fun ys' S' h'=>kI Iv hk step hf rest (done++[x]) ys' S' (by rw[e];simp) h'
theorem l8{g:Tg}{tb:bN}{D:lP}{keep:aq->Prop}{items:List PV}(Iv:List PV->b3->aq->Prop)(hk:∀done σ S,Iv done σ S->keep S)
  (step:∀done x rest σ S (K:b3->aq->Prop),items=done++x::rest->Iv done σ S->(∀σ' S',Iv (done++[x]) σ' S'->K σ' S')->match g.put x σ with
   |some σ'=>tb { D with nx:=K,ct:=K,bk:=D.nx } σ' S
   |none=>False)
  (hd:∀σ S,Iv items σ S->D.nx σ S):∀(rest done:List PV) (σ:b3) (S:aq),items=done++rest->Iv done σ S->ll g tb D keep rest σ S
 |[],done,σ,S,e,h=>by
  rw[JN]at e
  exact⟨hk _ _ _ h,hd σ S (e▸h)⟩
 |x::rest,done,σ,S,e,h=>
  ⟨hk _ _ _ h,step done x rest σ S (ll g tb D keep rest) e h fun σ' S' h'=>l8 Iv hk step hd rest (done++[x]) σ' S' (by rw[e];simp) h'⟩
def bK{g:Tg}{tb:bN}{D:lP}{keep:aq->Prop}{items:List PV}{σ:b3}{S:aq}(Iv:List PV->b3->aq->Prop)(h0:Iv [] σ S)(hk:∀done σ S,Iv done σ S->keep S)
  (step:∀done x rest σ S (K:b3->aq->Prop),items=done++x::rest->Iv done σ S->(∀σ' S',Iv (done++[x]) σ' S'->K σ' S')->match g.put x σ with
   |some σ'=>tb { D with nx:=K,ct:=K,bk:=D.nx } σ' S
   |none=>False)
  (hd:∀σ S,Iv items σ S->D.nx σ S):ll g tb D keep items σ S:=l8 Iv hk step hd items [] σ S rfl h0
def dh{g:Tg}{tc:iJ}{te:aV}{σ':b3}{keep:aq->Prop}{fin:List PV->aq->Prop}{items:List PV}{S:aq}(Iv:List PV->List PV->aq->Prop)(h0:Iv [] [] S)(hk:∀done ys S,Iv done ys S->keep S/\ys.length<=sizeLine)
  (step:∀done x rest ys S (K:List PV->aq->Prop),items=done++x::rest->Iv done ys S->(∀ys' S',Iv (done++[x]) ys' S'->K ys' S')->match g.put x σ' with
   |some σ2=>tc σ2 S (fun b S3=>if b=true then te σ2 S3 (fun y S4=>K (ys++[y]) S4) cX else K ys S3) cX
   |none=>False)
  (hf:∀ys S,Iv items ys S->fin ys S):b_ g tc te σ' keep fin items [] S:=kI Iv hk step hf items [] [] S rfl h0
def al{t u:bN}{D:lP}{σ:b3}{S:aq}(h:∀N:b3->aq->Prop,(∀σ S,u D σ S->N σ S)->t { D with nx:=N } σ S):ag t u D σ S:=h (u D) fun _ _ q=>q
def fG{n:Nat}{b:bN}{args:List PV}{S:aq}{Q:bM}{E:cQ}(h:b { nx:=fun _ S'=>Q .non S',rt:=Q,ex:=cX } (aB n args) S):AN n b args S Q E:=h
def rC{α β:Type}(f:α->β)(xs:List α)(lo hi:Option Int):dI (xs.map f) lo hi=(dI xs lo hi).map f:=by
 unfold dI
 rw[Jk,LW,List.map_drop]
def rD{α:Type}(xs:List α)(lo hi:Option Int):(dI xs lo hi).length<=xs.length:=by
 unfold dI
 rw[Ko,J9]
 omega
def cS{n:Nat}(h:n<=1000):n<=sizeLine:=L7 (dU h)
section
variable {α:Type} {a b c d e:α} {l:List α}
def d4:Be (a::l) 0=some a:=by simp[Be,oE]
def hU:Be (a::b::l) 1=some b:=cP (j:=1) rfl
def wW:Be (a::b::c::l) 2=some c:=cP (j:=2) rfl
def AA:Be (a::b::c::d::e::l) 4=some e:=cP (j:=4) rfl
def wA:Be [a] (-1)=some a:=rfl
def wB:Be [a,b] (-1)=some b:=rfl
def wC:Be [a,b,c] (-1)=some c:=rfl
def wD:Be [a,b,c,d] (-1)=some d:=rfl
def wE:Be [a,b,c,d,e] (-1)=some e:=rfl
def wF:Be [a,b] (-2)=some a:=rfl
def wG:Be [a,b,c] (-2)=some b:=rfl
def wH:Be [a,b,c,d] (-2)=some c:=rfl
def wI:Be [a,b,c,d,e] (-2)=some d:=rfl
end
def dZ(lo:Int)(n:Nat):(bE lo n).length=n:=by simp[bE]
end L3
namespace C
open PySem L2 L3
abbrev l9(w:aC):Prop:=∀{S:aq} {ns:Vu} {b:Int} {Q:bM} {E:cQ},ns.length<=63->0<=b->b < 1000->(∀d l S',S d=none->S l=none->AW S' d l->Ext S S'->Q (.ref d) S')->w [.cl (ns.map PV.int),.int b] S Q E
def CT:l9 (AN 5 eW):=by
 intro S ns b Q E hn h0 h1 k
 unfold AN eW
 rw[show aB 5 [PV.cl (ns.map PV.int),PV.int b]=[some (.cl (ns.map PV.int)),some (.int b),none,none,none] from rfl]
 walk_at "x"
 intro p hp
 rw[aa]
 dsimp only
 rw[rC]
 have hx:(dI ns (some b) (some 63)).length<=63:=Jw (rD _ _ _) hn
 generalize dI ns (some b) (some 63)=xs at hx
 refine pC (fun v=>match v with | .int i=>.int (if 0 - i > i then 0 - i else i)|v=>v) aa (fun x hx=>?_) (cS (by rw[Jk];omega)) ?_
 ·obtain⟨i,hi,rfl⟩:=JO.mp hx
  refine⟨[some (.int i)],rfl,fun Q q=>?_⟩
  walk_at "x"
  exact q
 intro p2 hp2
 rw[aa]
 dsimp only
 rw[K5]
 have e0:(xs.map ((fun v=>match v with | .int i=>.int (if 0 - i > i then 0 - i else i)|v=>v) ∘ PV.int))=(xs.map fun i=>if 0 - i > i then 0 - i else i).map PV.int:=by
  rw[K5];rfl
 rw[e0]
 have hy:((xs.map fun i=>if 0 - i > i then 0 - i else i)).length<=63:=by rw[Jk];exact hx
 have Gc:∀y∈xs.map (fun i:Int=>if 0 - i > i then 0 - i else i),0<=y:=by
  intro y hy
  obtain⟨i,_,rfl⟩:=JO.mp hy
  split<;>omega
 generalize (xs.map fun i=>if 0 - i > i then 0 - i else i)=ys at hy Gc
 have h2:p2≠p:=fun e=>by rw[e,aa]at hp2;cases hp2
 have hp2':S p2=none:=by rw[<-hp2,ai h2]
 refine bK (fun done σ S'=>S'=AH (AH S p (.lst (xs.map PV.int))) p2 (.lst (ys.map PV.int))/\∃v2 n,0<=n/\n < 2147483647/\σ=[some (.cl (ns.map PV.int)),some (.int b),v2,some (.ref p2),some (.int n)]) ⟨rfl,none,7919+b,by omega,by omega,rfl⟩ (fun done σ S' h=>by rw[h.1];exact aa) ?_ ?_
 ·rintro done x rest σ S' K e ⟨rfl,v2,n,n0,n1,rfl⟩ hK
  obtain⟨i,hi,rfl⟩:∃i,i∈ys/\x = .int i:=by
   have:x∈ys.map PV.int:=by rw[e];simp
   obtain⟨i,hi,rfl⟩:=JO.mp this
   exact⟨i,hi,rfl⟩
  walk_at "x"
  refine⟨t8 (by decide) (by decide),by decide,by decide,hK _ _ ⟨rfl,_,_,?_,?_,rfl⟩⟩
  ·rw[gK (by decide)];omega
  ·rw[gK (i:=(n * 48271+_)) (by decide)];omega
 ·rintro σ S' ⟨rfl,v2,n,n0,n1,rfl⟩
  walk_at "x"
  intro d hd
  have hd2:d≠p2:=fun e=>by rw[e,aa]at hd;cases hd
  rw[ai hd2]at hd
  have hd1:d≠p:=fun e=>by rw[e,aa]at hd;cases hd
  rw[ai hd1]at hd
  rw[ai hd2.symm,aa]
  dsimp only
  refine er (fun v=>v) (fun v=>match v with | .int i=>decide (10 ^ 18<=i)|_=>false) (by rw[ai hd2.symm,aa]) _ [] (fun x hx=>?_) (by rw[Jk];exact cS (by simp;omega)) ?_
  ·obtain⟨i,hi,rfl⟩:=JO.mp hx
   refine⟨[some (.int i)],rfl,fun Q q=>?_,fun _ Q q=>?_⟩
   ·walk_at "x"
    exact⟨⟨by decide,by decide,by decide⟩,q⟩
   ·walk_at "x"
    exact q
  intro p3 hp3
  rw[aa]
  intro l hl
  have e3:([]++List.map (fun v:PV=>v) (List.filter (fun v=>match v with | .int i=>decide (10 ^ 18<=i)|_=>false) (List.map PV.int ys)))=(ys.filter fun i=>decide (10 ^ 18<=i)).map PV.int:=by
   rw[J6,MT,List.filter_map]
   rfl
  rw[e3]at hl ⊢
  rw[<-List.map_reverse]
  generalize HB:AH (AH (AH (AH S p (SO.lst (List.map PV.int xs))) p2 (SO.lst (List.map PV.int ys))) d (SO.dct [])) p3 (SO.lst (List.map PV.int (List.filter (fun i=>decide (10 ^ 18<=i)) ys)))=S3 at hl ⊢
  have HC:S3 d=some (.dct []):=by rw[<-HB,ai (fun e=>by rw[<-e,aa]at hp3;cases hp3),aa]
  have HD:l≠d:=fun e=>by rw[e,HC]at hl;cases hl
  have GV:Ext S S3:=by
   rw[<-HB]
   refine(Ext.new hp).trans ((Ext.new hp2).trans ((Ext.new ?_).trans (.new hp3)))
   rw[ai hd2,ai hd1];exact hd
  refine⟨by rw[ai HD.symm];exact HC,?_⟩
  have e4:kD [(PV.str "seed",PV.int n),(PV.str "number",PV.int 0),(PV.str "left",PV.ref l)]=some (bO n 0 l):=rfl
  rw[e4]
  have e5:df [] (bO n 0 l)=bO n 0 l:=by simp[df,bO,il,sS,aF]
  dsimp only
  rw[e5]
  refine k d l _ hd (GV.free hl) ⟨n,0,_,aa,by rw[ai HD,aa],n0,n1,Int.le_refl _,fun y hy=>?_,?_⟩ ?_
  ·exact Gc y (Ku.mp (List.mem_reverse.mp hy)).1
  ·rw[LP]
   exact Jw (Mm _ _) (by omega)
  ·intro a o ha
   have had:a≠d:=fun e=>by rw[e,hd]at ha;cases ha
   rw[ai had,ai (fun e=>by rw[e,GV.free hl]at ha;cases ha)]
   exact GV a o ha
end C
namespace L3
open PySem L2
theorem jF(S:aq):∀zs:List Str,Co S (zs.map PV.str) (zs.map PyData.str)
 |[]=>.nil
 |z::r=>.cons (.str z) (jF S r)
theorem e9:∀{zs:Vs},(∀z∈zs,PyData.strOk z=true)->PyData.canLayAll0 (zs.map PyData.str)=true
 |[],_=>rfl
 |z::r,h=>by
  show(PyData.canLay0 (.str z)&&PyData.canLayAll0 (r.map PyData.str))=true
  rw[e9 fun y hy=>h y (by simp[hy])]
  have:PyData.canLay0 (.str z)=true:=h z (by simp)
  rw[this];rfl
def jG(z:Str)(zs:Vs):iK (.str z) (zs.map PyData.str)=decide (z∈zs):=by
 unfold iK
 rw[List.any_map,Lu,List.any_eq_true,decide_eq_true_iff]
 constructor
 ·rintro⟨y,hy,e⟩
  have e':(y == z)=true:=e
  exact(eq_of_beq e')▸hy
 ·intro h
  exact⟨z,h,beq_self_eq_true z⟩
def dA{neg:Bool}{z:Str}{zs:Vs}{a:Addr}{S:aq}{Q:bM}(hS:S a=some (.lst (zs.map PV.str)))(hz:PyData.strOk z=true)(hzs:∀y∈zs,PyData.strOk y=true)(q:Q (.bl (neg != decide (z∈zs))) S):iL neg (.str z) (.ref a) S Q:=by
 unfold iL
 simp only[hS]
 exact⟨_,_,.str z,jF S zs,hz,e9 hzs,by show 0<=150;decide,by rw[jG];exact q⟩
def bG{neg:Bool}{z:Str}{zs:Vs}{S:aq}{Q:bM}(hz:PyData.strOk z=true)(hzs:∀y∈zs,PyData.strOk y=true)(q:Q (.bl (neg != decide (z∈zs))) S):iL neg (.str z) (.tup (zs.map PV.str)) S Q:=by
 unfold iL
 exact⟨_,_,.str z,jF S zs,hz,e9 hzs,by show 0<=150;decide,by rw[jG];exact q⟩
end L3
namespace C
open PySem L2 L3 Wd
abbrev lq(w:aC):Prop:=∀{S:aq} {t b:Int} {Q:bM} {E:cQ},0 < b->b.natAbs < 2 ^ 8000->Q (.tup [.int (M3.k8 t b),.int (M3.lO t b)]) S->w [.int t,.int b] S Q E
def DL:lq (AN 4 fW):=by
 intro S t b Q E hb hs k
 unfold AN fW
 rw[show aB 4 [PV.int t,PV.int b]=[some (.int t),some (.int b),none,none] from rfl]
 simp only[ag]
 walk_at "x"
 refine⟨fun n σ S'=>S'=S/\∃x y:Int,σ=[some (.int t),some (.int b),some (.int x),some (.int y)]/\0<=x/\0<=y/\Int.gcd x y=Int.gcd t b/\y.toNat=n,⟨_,rfl,_,b,rfl,by split<;>omega,by omega,?_,rfl⟩,?_⟩
 ·split
  ·rw[show(0 - t) = -t by omega,Int.neg_gcd]
  ·rfl
 rintro n σ S' ⟨rfl,x,y,rfl,hx,hy,hg,rfl⟩
 walk_at "x"
 simp only[Jz]
 split
 ·rename_i hp
  refine⟨fun σ' Eb=>Eb=S'/\∃x' y':Int,σ'=[some (.int t),some (.int b),some (.int x'),some (.int y')]/\0<=x'/\0<=y'/\Int.gcd x' y'=Int.gcd t b/\y'.toNat < y.toNat,?_,?_⟩
  ·rintro σ' Eb ⟨rfl,x',y',rfl,h1,h2,h3,h4⟩
   exact⟨_,h4,rfl,x',y',rfl,h1,h2,h3,rfl⟩
  ·walk_at "x"
   have e:x.fmod y=x % y:=gK hy
   have l1:=Int.emod_nonneg x (b:=y) (by omega)
   have l2:=MI x hp
   refine⟨by omega,trivial,y,x.fmod y,rfl,hy,by omega,?_,by omega⟩
   rw[M3.qG];exact hg
 ·rename_i hp
  have Gc:y=0:=by omega
  subst Gc
  have II:x=(Int.gcd t b:Int):=by
   rw[<-hg]
   rw[Int.gcd_zero_right]
   omega
  subst II
  have gp:(0:Int) < (Int.gcd t b:Int):=MA.mpr (M3.gw (by omega))
  have gl:=M3.vX (t:=t) (b:=b) (by omega)
  have cd:∀z,lS z (Int.gcd t b:Int):=fun z=>⟨by omega,L4 (by omega) hs⟩
  refine⟨cd _,cd _,?_⟩
  have d1:=(M3.qF (t:=t) (b:=b) (by omega))
  rw[if_neg (by omega)]at d1
  rw[d1.1,d1.2]
  exact k
structure yt (x y:Int):Prop where
 low:M3.Ab x y
 x0:0<=x
 x1:x<=999
 y1:y<=9
def pD{n:Nat}(h:n < 2 ^ 64):n < 2 ^ 8000:=MS h (Nat.pow_lt_pow_right (by decide) (by decide))
abbrev gL(w:aC):Prop:=∀{S:aq} {d l:Addr} {Q:bM} {E:cQ},AW S d l->(∀x y S',yt x y->AW S' d l->BN d l S S'->Q (.tup [.int x,.int y]) S')->w [.ref d] S Q E
def Cz{wd wl:aC}(AI:bF wd)(DL:lq wl):gL (AN 2 (eY wd wl)):=by
 intro S d l Q E D k
 unfold AN eY
 rw[show aB 2 [PV.ref d]=[some (.ref d),none] from rfl]
 walk_at "x"
 refine AI D (by decide) (by decide) fun r S1 r0 r1 D1 O1=>?_
 simp only[Jt,Jz]
 split
 ·exact k 0 1 S1 ⟨⟨by decide,by decide⟩,by decide,by decide,by decide⟩ D1 O1
 ·split
  ·refine AI D1 (by decide) (by decide) fun r2 S2 a0 a1 D2 O2=>?_
   exact k _ 1 S2 ⟨⟨by decide,Int.gcd_one_right _⟩,by omega,by omega,by decide⟩ D2 (O1.trans O2)
  ·refine AI D1 (by decide) (by decide) fun r2 S2 a0 a1 D2 O2=>AI D2 (by decide) (by decide) fun r3 S3 b0 b1 D3 O3=>?_
   refine DL (by omega) (pD (by omega)) ?_
   have z:=M3.qH (t:=r2) (b:=1+r3) (T:=999) (B:=9) (by omega) (by omega) (by omega) (by omega) (by omega) (by decide) (by decide)
   refine k _ _ S3 ⟨M3.nQ (by omega),?_,z.2.1,z.2.2.2⟩ D3 (O1.trans (O2.trans O3))
   unfold M3.k8
   rw[if_neg (by omega)]
   exact Int.ediv_nonneg a0 (by omega)
def pE{r:Int}(h0:0<=r)(h1:r < 26):∃c,Be abc.cps.toList r=some c/\97<=c/\c<=122:=by
 obtain⟨n,rfl⟩:=KZ h0
 have q:=k7 n
 rw[Nat.mod_eq_of_lt (by omega)]at q
 exact⟨_,q,by omega,by omega⟩
def jH{z:Str}(h:Du z):PyData.strOk z=true:=by
 unfold PyData.strOk
 rw[Array.all_eq_true']
 intro c hc
 have:=h.sm c (by simpa using hc)
 simp;omega
def t9:∀z∈BC,PyData.strOk z=true:=by decide +kernel
theorem ir:∀zs:List Str,texts (zs.map PV.str)=some zs
 |[]=>rfl
 |z::r=>by show(texts (r.map PV.str)).map (z::·)=_;rw[ir r];rfl
def pF:("":Str).length=0:=by decide +kernel
def kJ{cs:List Nat}(h:cs.length<=1000):((cs.map k6).map (·.length)).sum+(cs.map k6).length * ("":Str).length<=1000000:=by
 rw[tD,pF]
 omega
def jI{w__law_draw:aC}(AI:bF w__law_draw){S:aq}{d l:Addr}{σ:b3}{n:Int}{fin:List PV->aq->Prop}(D:AW S d l)(hn:n.toNat<=100)(h1:lk σ 1=some (.ref d))(h2:lk σ 2=some (.str abc))(hσ:∃x,σ=[x,some (.ref d),some (.str abc)])
  (k:∀(cs:List Nat) S',cs.length=n.toNat->(∀c∈cs,97<=c/\c<=122)->AW S' d l->BN d l S S'->fin ((cs.map k6).map PV.str) S') :
  b_ (Tg.n 0) bq (ah ae (v3 2) (ac w__law_draw [v3 1,c3 (.int 26)])) σ (fun _=>True) fin (bE 0 n.toNat) [] S:=by
 obtain⟨x0,rfl⟩:=hσ
 refine dh (fun done ys S'=>∃cs:List Nat,ys=(cs.map k6).map PV.str/\cs.length=done.length/\done.length<=n.toNat/\(∀c∈cs,97<=c/\c<=122)/\AW S' d l/\BN d l S S') ⟨[],rfl,rfl,JM _,by simp,D,.refl⟩ ?_ ?_ ?_
 ·rintro done ys S' ⟨cs,rfl,e,hd,_⟩
  exact⟨trivial,cS (by rw[Jk,Jk,e];omega)⟩
 ·rintro done x rest ys S' K e ⟨cs,rfl,e2,hd,hc,D',O'⟩ hK
  have hlen:done.length+1<=n.toNat:=by
   have:=Ke List.length e
   rw[dZ,Jj,JB]at this
   omega
  walk_at "x"
  simp only[bq,JW]
  refine AI D' (by decide) (by decide) fun r S2 r0 r1 D2 O2=>⟨i3.1,?_⟩
  obtain⟨c,ec,c0,c1⟩:=pE r0 r1
  rw[ec]
  refine hK _ _ ⟨cs++[c],by simp,by simp[e2],by simpa using hlen,fun y hy=>?_,D2,O'.trans O2⟩
  rcases Ju.mp hy with hy|hy
  ·exact hc y hy
  ·rw[Js.mp hy];exact⟨c0,c1⟩
 ·rintro ys S' ⟨cs,rfl,e,hd,hc,D',O'⟩
  exact k cs S' (by rw[e,dZ]) hc D' O'
theorem l_{f:Str->List Nat}(r:List Nat):∀xs:List Str,(xs.map f).Nodup->(xs.filter fun z=>f z == r).length<=1
 |[],_=>JM _
 |x::xs,h=>by
  rw[JG,Km]at h
  rw[Ms]
  by_cases e:(f x == r)=true
  ·rw[if_pos e]
   have no:(xs.filter fun z=>f z == r)=[]:=by
    refine List.filter_eq_nil_iff.mpr fun z hz q=>h.1 ?_
    rw[eq_of_beq e,<-eq_of_beq q]
    exact JO.mpr ⟨z,hz,rfl⟩
   rw[no]
   exact Jm _
  ·rw[if_neg e]
   exact l_ r xs h.2
def rE(r:List Nat):(BC.filter fun z=>z.cps.toList.tail == r).length<=1:=l_ (f:=fun z=>z.cps.toList.tail) r BC (by decide +kernel)
def ni(r:List Nat)(c:Nat)(ns:Vs)(h:ns.length < 17):∃j,j < 26/\cand r (c+j) ∉ BC++ns:=by
 obtain⟨j,hj,free⟩:=oW r c ((BC.filter fun z=>z.cps.toList.tail == r)++ns) (by rw[Jj];have:=rE r;omega)
 refine⟨j,hj,fun hm=>free ?_⟩
 rcases Ju.mp hm with q|q
 ·exact Lf _ (Ku.mpr ⟨q,by simp[cand]⟩)
 ·exact JS _ q
abbrev fw(w:aC):Prop:=∀{S:aq} {d l:Addr} {m:Int} {Q:bM} {E:cQ},AW S d l->0<=m->m<=17->(∀p (ns:Vs) S',ns.length=m.toNat->ns.Nodup->(∀z∈ns,Du z/\z ∉ BC)->S p=none->p≠d->p≠l->S' p=some (.lst (ns.map PV.str))->AW S' d l->BN d l S S'->Q (.ref p) S')->w [.ref d,.int m] S Q E
def Cc{wd:aC}(AI:bF wd):fw (AN 11 (d9 wd)):=by
 intro S d l m Q E D h0 h1 k
 unfold d9
 refine fG ?_
 rw[show aB 11 [PV.ref d,PV.int m]=[some (.ref d),some (.int m),none,none,none,none,none,none,none,none,none] from rfl]
 refine al fun N hN=>?_
 walk_at "x"
 refine hN _ _ (al fun N hN=>?_)
 walk_at "x"
 intro pT hT
 have dT:=D.free hT
 have D0:AW (AH S pT (.lst (BC.map PV.str))) d l:=D.new hT
 have HE:(AH S pT (.lst (BC.map PV.str))) pT=some (.lst (BC.map PV.str)):=aa
 have O0:BN d l S (AH S pT (.lst (BC.map PV.str))):=.new hT
 have eK:[PV.str "jars",PV.str "deed",PV.str "rest",PV.str "pay",PV.str "put",PV.str "then",PV.str "either",PV.str "take",PV.str "often",PV.str "use"]=BC.map PV.str:=rfl
 rw[eK]
 generalize AH S pT (.lst (BC.map PV.str))=S0 at D0 HE O0 ⊢
 refine hN _ _ (al fun N hN=>?_)
 walk_at "x"
 refine⟨trivial,AI D0 (by decide) (by decide) fun n S1 n0 n1 D1 O1=>⟨by omega,by omega,?_⟩⟩
 refine jI AI D1 (by omega) rfl rfl ⟨_,rfl⟩ fun cs S2 hl hc D2 O2 pj hj=>?_
 simp only[kA,aa,ir]
 refine⟨kJ (by omega),?_⟩
 rw[show Txt.join (Str.ofString "") (cs.map k6)=⟨cs.toArray⟩from jj cs]
 refine hN _ _ (al fun N hN=>?_)
 walk_at "x"
 have hcl:cs.length<=5:=by omega
 have lc:(⟨cs.toArray⟩:Str).length=cs.length:=Jo
 refine⟨by rw[lc];exact cS (by omega),AI (D2.new hj) (by rw[lc];omega) (by rw[lc];omega) fun at' S3 a0 a1 D3 O3=>AI D3 (by decide) (by decide) fun tu S4 t0 t1 D4 O4=>AI D4 (by decide) (by decide) fun nr S5 r0 r1 D5 O5=>?_⟩
 rw[lc]at a1
 obtain⟨an,rfl⟩:=KZ a0
 obtain⟨tn,rfl⟩:=KZ t0
 refine hN _ _ (al fun N hN=>?_)
 walk_at "x"
 intro q hq
 have dq:=D5.free hq
 have OA:BN d l S0 S5:=O1.trans (O2.trans ((BN.new hj).trans (O3.trans (O4.trans O5))))
 have GW:=OA _ _ HE dT.1 dT.2
 have HF:pT≠q:=fun e=>by rw[e,hq]at GW;cases GW
 have HH:S q=none:=by
  cases e:S q with
  |none=>rfl
  |some o=>rw[OA _ _ (O0 _ _ e dq.1 dq.2) dq.1 dq.2]at hq;cases hq
 refine hN _ _ (al fun N hN=>?_)
 simp only[bY,li,v3,lk]
 refine⟨by omega,by omega,?_⟩
 refine bK (fun done σ S'=>∃(ns:Vs) (v4 v10:Option PV) (near:Bool),σ=[some (.ref d),some (.int m),some (.str abc),some (.ref pT),v4,some (.str ⟨cs.toArray⟩),some (.int an),some (.int tn),some (.bl near),some (.ref q),v10]/\ns.length=done.length/\ns.Nodup/\(∀z∈ns,Du z/\z ∉ BC)/\S' q=some (.lst (ns.map PV.str))/\S' pT=some (.lst (BC.map PV.str))/\AW S' d l/\BN d l S S')
  ⟨[],_,_,_,rfl,rfl,MH,(fun z hz=>nomatch hz),aa,by rw[ai HF];exact GW,D5.new hq,O0.trans (OA.trans (.new hq))⟩ (fun _ _ _ _=>trivial) ?_ ?_
 ·rintro done x rest σ S6 K e ⟨ns,v4,v10,near,rfl,GX,GY,w6,Gd,GZ,D6,O6⟩ hK
  have hlen:done.length < m.toNat:=by
   have:=Ke List.length e
   rw[dZ,Jj,JB]at this
   omega
  have hx:x = .int (0+(done.length:Nat)):=by
   have h2:=Ke (fun l=>l[done.length]?) e
   simp only[J8 (Jm _),Nat.sub_self,List.getElem?_cons_zero]at h2
   unfold bE at h2
   rw[Jx,LQ hlen]at h2
   simpa using h2.symm
  subst hx
  -- the tail: a word is changed IJ it is new,then laid down
  have ql:∀(z:Str) (v4:Option PV) (S7:aq),Du z->S7 q=some (.lst (ns.map PV.str))->S7 pT=some (.lst (BC.map PV.str))->AW S7 d l->BN d l S S7->
    ag (io (jk (aS (ah (iL false) (v3 10) (v3 3))) (aS (ah (iL false) (v3 10) (v3 9)))) (au 10 (ah aW (ah ae (v3 2) (ah fF (ah aW (cH "str" ik (v3 2) [(ah ae (v3 10) (c3 (.int 0)))]) (c3 (.int 1))) (c3 (.int 26)))) (bt (v3 10) (kz (c3 (.int 1))) lD))))
     (aG (cH "list" bj (v3 9) [(v3 10)])) { nx:=K,rt:=Q,ex:=cX,bk:=N,ct:=K } [some (.ref d),some (.int m),some (.str abc),some (.ref pT),v4,some (.str ⟨cs.toArray⟩),some (.int an),some (.int tn),some (.bl near),some (.ref q),some (.str z)] S7:=by
   intro z v4 S7 hz HI HJ D7 O7
   obtain⟨i,r,rfl,hi,IK,hrs⟩:=hz.cand
   obtain⟨j,hj,free⟩:=ni r i ns (by omega)
   refine⟨fun mm σ S'=>∃t,σ=[some (.ref d),some (.int m),some (.str abc),some (.ref pT),v4,some (.str ⟨cs.toArray⟩),some (.int an),some (.int tn),some (.bl near),some (.ref q),some (.str (cand r (i+t)))]/\S'=S7/\t<=j/\mm=j - t,⟨j,0,rfl,rfl,JM _,rfl⟩,?_⟩
   rintro mm σ S' ⟨t,rfl,rfl,ht,rfl⟩
   have hw:=qD IK hrs (i+t)
   have G0:∀y∈ns,PyData.strOk y=true:=fun y hy=>jH (w6 y hy).1
   have go:t < j->∃N:b3->aq->Prop,(∀σ' Eb,N σ' Eb->∃m',m' < j - t/\∃t',σ'=[some (.ref d),some (.int m),some (.str abc),some (.ref pT),v4,some (.str ⟨cs.toArray⟩),some (.int an),some (.int tn),some (.bl near),some (.ref q),some (.str (cand r (i+t')))]/\Eb=S'/\t'<=j/\m'=j - t')/\
     N ([some (.ref d),some (.int m),some (.str abc),some (.ref pT),v4,some (.str ⟨cs.toArray⟩),some (.int an),some (.int tn),some (.bl near),some (.ref q),some (.str (cand r (i+(t+1))))]) S':=fun lt=>
    ⟨fun σ' Eb=>σ'=[some (.ref d),some (.int m),some (.str abc),some (.ref pT),v4,some (.str ⟨cs.toArray⟩),some (.int an),some (.int tn),some (.bl near),some (.ref q),some (.str (cand r (i+(t+1))))]/\Eb=S',fun σ' Eb ⟨e1,e2⟩=>⟨j - (t+1),by omega,t+1,e1,e2,by omega,rfl⟩,rfl,rfl⟩
   have Ge:((((i+t) % 26:Nat):Int)+1).fmod 26=(((i+t+1) % 26:Nat):Int):=by rw[gK (by decide)];omega
   walk_at "x"
   refine dA HJ (jH hw) t9 ?_
   simp only[Jt,Jz]
   split
   ·rename_i g
    have lt:t < j:=Nat.lt_of_le_of_ne ht fun e=>by subst e;exact free (Lf _ g)
    obtain⟨N,hN,hn⟩:=go lt
    rw[if_pos trivial]
    refine⟨N,hN,trivial,hw.line,?_⟩
    rw[ko]
    simp only[ik,qB _ (Nat.mod_lt _ (by decide))]
    refine⟨by decide,i3.1,?_⟩
    rw[Ge,k7 (i+t+1)]
    refine⟨hw.line,?_,?_⟩
    ·rw[fq]
     exact cS (show 1+r.toArray.size<=1000 by rw[Jo];omega)
    ·rw[fq,kq]
     exact hn
   ·rename_i g
    refine dA HI (jH hw) G0 ?_
    simp only[Jt,Jz]
    split
    ·rename_i g2
     have lt:t < j:=Nat.lt_of_le_of_ne ht fun e=>by subst e;exact free (JS _ g2)
     obtain⟨N,hN,hn⟩:=go lt
     refine⟨N,hN,trivial,hw.line,?_⟩
     rw[ko]
     simp only[ik,qB _ (Nat.mod_lt _ (by decide))]
     refine⟨by decide,i3.1,?_⟩
     rw[Ge,k7 (i+t+1)]
     refine⟨hw.line,?_,?_⟩
     ·rw[fq]
      exact cS (show 1+r.toArray.size<=1000 by rw[Jo];omega)
     ·rw[fq,kq]
      exact hn
    ·rename_i g2
     simp only[HI]
     refine⟨trivial,by rw[Jk];exact dU (by omega),hK _ _ ⟨ns++[cand r (i+t)],_,_,_,rfl,by simp[GX],List.nodup_append.mpr ⟨GY,by simp,fun a ha b hb e=>?_⟩,fun z hz=>?_,by rw[JP];exact aa,by rw[ai HF];exact HJ,D7.upd dq.1 dq.2,fun a o ha h1 h2=>?_⟩⟩
     ·rw[Js.mp hb]at e
      exact g2 (e▸ha)
     ·rcases Ju.mp hz with hz|hz
      ·exact w6 z hz
      ·rw[Js.mp hz]
       exact⟨hw,g⟩
     ·rw[ai (fun e=>by rw[e,HH]at ha;cases ha)]
      exact O7 a o ha h1 h2
  obtain⟨pw,IL,pl2⟩:=tE hcl hc (a:=an) (i:=(tn+done.length) % 26) (by omega) (Nat.mod_lt _ (by decide))
  have Ge:((tn:Int)+(0+(done.length:Int))).fmod 26=(((tn+done.length) % 26:Nat):Int):=by rw[gK (by decide)];omega
  have HK:(⟨cs.toArray⟩:Str).length<=sizeLine:=by rw[lc];exact cS (by omega)
  simp only[Tg.put]
  refine al fun N2 BK=>?_
  walk_at "x"
  refine⟨HK,by decide,i3.1,?_⟩
  rw[Ge,k7 (tn+done.length)]
  refine⟨Jw (Nat.add_le_add IL (Jm 1)) (by decide),HK,Jw (Nat.le_of_eq (Array.size_append).symm) (Jw pw.len (by decide)),?_⟩
  refine BK _ _ (al fun N3 Em=>?_)
  walk_at "x"
  split
  ·refine⟨trivial,AI D6 (by decide) (by decide) fun n2 Sa m0 m1 Da Oa=>⟨by omega,by omega,?_⟩⟩
   refine jI AI Da (by omega) rfl rfl ⟨_,rfl⟩ fun Fn Sb hl2 hc2 Db Ob IM hj2=>?_
   simp only[kA,aa,ir]
   refine⟨kJ (by omega),?_⟩
   rw[show Txt.join (Str.ofString "") (Fn.map k6)=⟨Fn.toArray⟩from jj Fn]
   refine Em _ _ ?_
   have wz:Du (⟨Fn.toArray⟩:Str):=⟨fun e=>by have e':Fn=[]:=e;rw[e']at hl2;simp at hl2;omega,by show Fn.length<=6;omega,hc2⟩
   have OB:BN d l S6 (AH Sb IM (.lst ((Fn.map k6).map PV.str))):=Oa.trans (Ob.trans (.new hj2))
   exact ql _ _ _ wz (OB _ _ Gd dq.1 dq.2) (OB _ _ GZ dT.1 dT.2) (Db.new hj2) (O6.trans OB)
  ·exact Em _ _ (ql _ _ S6 pw Gd GZ D6 O6)
 ·rintro σ S6 ⟨ns,v4,v10,near,rfl,GX,GY,w6,Gd,GZ,D6,O6⟩
  refine hN _ _ ?_
  walk_at "x"
  exact k q ns S6 (by rw[GX,dZ]) GY w6 HH dq.1 dq.2 Gd D6 O6
inductive Bd where
 |rest|pay (x y:Int)|put (z:Str) (m:Int)|use (z:Str)|Bb (a:Bd)|AL (a b:Bd)|Bs (a b:Bd)|Bl (z:Str) (m:Int) (a b:Bd)
noncomputable def Bd.pv:Bd->PV
 | .rest=>.tup [.str "rest"]
 | .pay x y=>.tup [.str "pay",.tup [.int x,.int y]]
 | .put z m=>.tup [.str "put",.str z,.int m]
 | .use z=>.tup [.str "use",.str z]
 | .Bb a=>.tup [.str "often",a.pv]
 | .AL a b=>.tup [.str "then",a.pv,b.pv]
 | .Bs a b=>.tup [.str "either",a.pv,b.pv]
 | .Bl z m a b=>.tup [.str "take",.str z,.int m,a.pv,b.pv]
noncomputable def Bd.dep:Bd->Nat
 | .Bb a=>a.dep+1
 | .AL a b=>max a.dep b.dep+1
 | .Bs a b=>max a.dep b.dep+1
 | .Bl _ _ a b=>max a.dep b.dep+1
 |_=>1
noncomputable def Bd.size:Bd->Nat
 | .Bb a=>a.size+1
 | .AL a b=>a.size+b.size+1
 | .Bs a b=>a.size+b.size+1
 | .Bl _ _ a b=>a.size+b.size+1
 |_=>1
noncomputable def Bd.good(js us:Vs):Bd->Prop
 | .rest=>True
 | .pay x y=>yt x y
 | .put z m=>z∈js/\1<=m/\m<=9
 | .use z=>z∈us
 | .Bb a=>a.good js us
 | .AL a b=>a.good js us/\b.good js us
 | .Bs a b=>a.good js us/\b.good js us
 | .Bl z m a b=>z∈js/\1<=m/\m<=9/\a.good js us/\b.good js us
def Bd.A6(t:Bd):1<=t.dep:=by cases t<;>simp[Bd.dep]
def fx{α:Type}{xs:List α}{r:Int}(h0:0<=r)(h1:r < xs.length):∃v,Be xs r=some v/\v∈xs:=by
 obtain⟨n,rfl⟩:=KZ h0
 have hn:n < xs.length:=by omega
 exact⟨xs[n],cP (by simp[hn]),LL hn⟩
noncomputable def Bd.leaf:Bd->Prop
 | .rest=>True
 | .pay _ _=>True
 | .put _ _=>True
 |_=>False
def Bd.A4{t:Bd}(h:t.leaf):t.dep=1/\t.size=1:=by cases t<;>first|exact⟨rfl,rfl⟩|exact h.elim
abbrev gM(w:aC):Prop:=∀{S:aq} {d l:Addr} {js:Vs} {Q:bM} {E:cQ},AW S d l->js.length < 2 ^ 61->(∀(t:Bd) S',t.leaf->t.good js []->AW S' d l->BN d l S S'->Q t.pv S')->w [.ref d,.tup (js.map PV.str)] S Q E
def Bo{wd wc:aC}(AI:bF wd)(Cz:gL wc):gM (AN 4 (cE wd wc)):=by
 intro S d l js Q E D hj k
 unfold cE
 refine fG ?_
 rw[show aB 4 [PV.ref d,PV.tup (js.map PV.str)]=[some (.ref d),some (.tup (js.map PV.str)),none,none] from rfl]
 refine al fun N hN=>?_
 walk_at "x"
 refine AI D (by decide) (by decide) fun r S1 r0 r1 D1 O1=>?_
 refine hN _ _ (al fun N hN=>?_)
 walk_at "x"
 simp only[Jt,Jz]
 split
 ·exact k .rest S1 trivial trivial D1 O1
 refine hN _ _ (al fun N hN=>?_)
 walk_at "x"
 simp only[Jt,Jz,Jk]
 have pay:wc [.ref d] S1 (fun x S=>Q (.tup [.str "pay",x]) S) cX:=Cz D1 fun x y S2 c D2 O2=>k (.pay x y) S2 trivial c D2 (O1.trans O2)
 split
 ·rw[if_pos trivial];exact pay
 split
 ·exact pay
 rename_i hr hz
 refine hN _ _ (al fun N hN=>?_)
 walk_at "x"
 refine AI D1 (by decide) (by decide) fun r2 S2 a0 a1 D2 O2 p hp=>AI (D2.new hp) (by decide) (by decide) fun r3 S3 b0 b1 D3 O3=>?_
 have dp:=D2.free hp
 have hp3:=O3 _ _ (aa (S:=S2) (o:=.lst [.int 1,.int 2,.int (1+r2)])) dp.1 dp.2
 simp only[hp3]
 obtain⟨v,hv,hm⟩:=fx (xs:=[PV.int 1,.int 2,.int (1+r2)]) b0 (by simpa using b1)
 rw[hv]
 obtain⟨m,rfl,m0,m1⟩:∃m,v = .int m/\1<=m/\m<=9:=by
  simp only[Jq,JF,Kq]at hm
  rcases hm with rfl|rfl|rfl
  ·exact⟨1,rfl,by omega,by omega⟩
  ·exact⟨2,rfl,by omega,by omega⟩
  ·exact⟨1+r2,rfl,by omega,by omega⟩
 refine hN _ _ ?_
 walk_at "x"
 simp only[Jk]
 refine AI D3 (by omega) (by omega) fun r4 S4 c0 c1 D4 O4=>?_
 obtain⟨w,hw,G1⟩:=fx (xs:=js.map PV.str) c0 (by rw[Jk];exact c1)
 dsimp only
 rw[hw]
 obtain⟨z,hz,rfl⟩:=JO.mp G1
 exact k (.put z m) S4 trivial ⟨hz,m0,m1⟩ D4 (O1.trans (O2.trans ((BN.new hp).trans (O3.trans O4))))
def C1(d l x:Addr)(S S':aq):Prop:=∀a o,S a=some o->a≠d->a≠l->a≠x->S' a=some o
theorem _root_.L3.BN.x{d l x:Addr}{S S':aq}(h:BN d l S S'):C1 d l x S S':=fun a o e h1 h2 _=>h a o e h1 h2
def C1.trans{d l x:Addr}{S S1 S2:aq}(a:C1 d l x S S1)(b:C1 d l x S1 S2):C1 d l x S S2:=fun y o h h1 h2 h3=>b y o (a y o h h1 h2 h3) h1 h2 h3
def C1.upd{d l x:Addr}{S:aq}{o:SO}:C1 d l x S (AH S x o):=fun y u h h1 h2 h3=>by rw[ai h3];exact h
abbrev gN(n:Nat)(w:aC):Prop:=∀{S:aq} {d l x:Addr} {js:Vs} {left down:Int} {Q:bM} {E:cQ},AW S d l->S x=some (.lst [.int left])->x≠d->x≠l->js.length < 2 ^ 61->0<=left->left < 2 ^ 61->0<=down->down < n->
  (∀(t:Bd) S' left',t.good js []->(t.dep:Int)<=down+1->0<=left'->(t.size:Int)+left'<=left+1->AW S' d l->S' x=some (.lst [.int left'])->C1 d l x S S'->Q t.pv S')->w [.ref d,.tup (js.map PV.str),.ref x,.int down] S Q E
def Dj{wd wl rb:aC}(AI:bF wd)(Bo:gM wl)(n:Nat)(ih:gN n rb):gN (n+1) (AN 8 (eZ wd wl rb)):=by
 intro S d l x js left down Q E D hx hxd EG hj h0 h1 h2 h3 k
 unfold eZ
 refine fG ?_
 rw[show aB 8 [PV.ref d,PV.tup (js.map PV.str),PV.ref x,PV.int down]=[some (.ref d),some (.tup (js.map PV.str)),some (.ref x),some (.int down),none,none,none,none] from rfl]
 refine al fun N hN=>?_
 walk_at "x"
 refine AI D (by decide) (by decide) fun r S1 r0 r1 D1 O1=>?_
 have FR:=O1 _ _ hx hxd EG
 refine hN _ _ (al fun N hN=>?_)
 walk_at "x"
 have a0:Be [PV.int left] 0=some (.int left):=rfl
 simp only[Jt,Jz,FR,a0]
 have lf:wl [.ref d,.tup (js.map PV.str)] S1 Q cX:=Bo D1 hj fun t S2 hl hg D2 O2=>k t S2 left hg (by rw[(Bd.A4 hl).1];omega) h0 (by rw[(Bd.A4 hl).2];omega) D2 (O2 _ _ FR hxd EG) (O1.x.trans O2.x)
 split
 ·rw[if_pos trivial];exact lf
 split
 ·rw[if_pos trivial];exact lf
 split
 ·exact lf
 rename_i hd hl hf
 refine hN _ _ (al fun N hN=>?_)
 simp only[bo,aS,ah,v3,c3,lk,pQ,d8,Jz]
 have HL:oE [PV.int left].length 0=some 0:=rfl
 split
 ·refine al fun N2 BK=>?_
  walk_at "x"
  simp only[FR,a0,HL]
  refine BK _ _ ?_
  walk_at "x"
  refine ih (left:=left - 1) (D1.upd hxd EG) aa hxd EG hj (by omega) (by omega) (by omega) (by omega) fun t S2 l2 hg Fo q0 q1 D2 G2 O2=>?_
  exact k (.Bb t) S2 l2 hg (by simp only[Bd.dep];omega) q0 (by simp only[Bd.size];omega) D2 G2 (O1.x.trans (C1.upd.trans O2))
 ·refine hN _ _ (al fun N hN=>?_)
  walk_at "x"
  simp only[FR,a0,HL]
  refine hN _ _ (al fun N hN=>?_)
  walk_at "x"
  refine ih (left:=left - 2) (D1.upd hxd EG) aa hxd EG hj (by omega) (by omega) (by omega) (by omega) fun ta S2 l2 ga da q0 q1 D2 G2 O2=>?_
  refine hN _ _ (al fun N hN=>?_)
  walk_at "x"
  refine ih (left:=l2) D2 G2 hxd EG hj q0 (by omega) (by omega) (by omega) fun tb S3 l3 gb db p0 p1 D3 G3 O3=>?_
  have OA:C1 d l x S S3:=O1.x.trans (C1.upd.trans (O2.trans O3))
  refine hN _ _ (al fun N hN=>?_)
  walk_at "x"
  simp only[Jz]
  split
  ·exact k (.AL ta tb) S3 l3 ⟨ga,gb⟩ (by simp only[Bd.dep];omega) p0 (by simp only[Bd.size];omega) D3 G3 OA
  refine hN _ _ (al fun N hN=>?_)
  walk_at "x"
  simp only[Jt,Jz,Jk]
  have ei:Q (Bd.Bs ta tb).pv S3:=k (.Bs ta tb) S3 l3 ⟨ga,gb⟩ (by simp only[Bd.dep];omega) p0 (by simp only[Bd.size];omega) D3 G3 OA
  split
  ·rw[if_pos trivial];exact ei
  split
  ·exact ei
  rename_i hz8 hz
  refine hN _ _ (al fun N hN=>?_)
  walk_at "x"
  refine AI D3 (by decide) (by decide) fun r2 S4 e0 e1 D4 O4 p hp=>AI (D4.new hp) (by decide) (by decide) fun r3 S5 b0 b1 D5 O5=>?_
  have dp:=D4.free hp
  have hp3:=O5 _ _ (aa (S:=S4) (o:=.lst [.int 1,.int 1,.int 2,.int (1+r2)])) dp.1 dp.2
  simp only[hp3]
  obtain⟨v,hv,hm⟩:=fx (xs:=[PV.int 1,.int 1,.int 2,.int (1+r2)]) b0 (by simpa using b1)
  rw[hv]
  obtain⟨m,rfl,m0,m1⟩:∃m,v = .int m/\1<=m/\m<=9:=by
   simp only[Jq,JF,Kq]at hm
   rcases hm with rfl|rfl|rfl|rfl
   ·exact⟨1,rfl,by omega,by omega⟩
   ·exact⟨1,rfl,by omega,by omega⟩
   ·exact⟨2,rfl,by omega,by omega⟩
   ·exact⟨1+r2,rfl,by omega,by omega⟩
  refine hN _ _ ?_
  walk_at "x"
  simp only[Jk]
  refine AI D5 (by omega) (by omega) fun r4 S6 c0 c1 D6 O6=>?_
  obtain⟨w,hw,G1⟩:=fx (xs:=js.map PV.str) c0 (by rw[Jk];exact c1)
  dsimp only
  rw[hw]
  obtain⟨z,hz,rfl⟩:=JO.mp G1
  have G4:=O4 _ _ G3 hxd EG
  have IN:x≠p:=fun e=>by rw[e,hp]at G4;cases G4
  have IP:=O6 _ _ (O5 _ _ (show AH S4 p _ x=some (.lst [.int l3]) by rw[ai IN];exact G4) hxd EG) hxd EG
  exact k (.Bl z m ta tb) S6 l3 ⟨hz,m0,m1,ga,gb⟩ (by simp only[Bd.dep];omega) p0 (by simp only[Bd.size];omega) D6 IP (OA.trans (O4.x.trans ((BN.new hp).x.trans (O5.x.trans O6.x))))
end C
local macro_rules | `(tactic| walk_at "w")=>`(tactic| simp only [L3.ag,L3.au,L3.aw,L3.aG,L3.bo,L3.aM,L3.ah,L3.v3,L3.c3,L3.lk,L3.am,L3.ap,L3.ac,L3.cH,L3.aS,L3.j1,L3.jk,L3.mV,L3.bP,L3.j2,L3.kr,L3.oY,L3.lg,L3.o6,L3.jz,L3.av,L3.bm,L3.dG,L3.bn,L3.ae,L3.ij,L3.bt,L3.lD,L3.kz,L3.ld,L3.d8,L3.fM,L3.cf,L3.fF,L3.iM,L3.rg,L3.pQ,L3.m7,L3.yi,L3.bc,L3.qM,L3.aW,L3.iW,L3.b9,L3.jp,L3.jq,L3.bS,L3.lV,List.set_cons_zero,List.set_cons_succ,List.set_nil,L3.j3,L3.im,L3.lW,L3.aE,L3.aD,L3.bv,L3.bY,L3.cR,L3.Tg.put,L3.Tg.AK,L3.qV,L3.jB,L3.fV,L3.lZ,L3.li,L3.b6,L3.bj,L3.aH,List.reduceReplicate,JG,Kg,List.cons_append,List.nil_append,L3.d4,L3.hU,L3.wW,L3.AA,L3.wA,L3.wB,L3.wC,L3.wD,L3.wE,L3.wF,L3.wG,L3.wH,L3.wI,L3.aF,String.reduceEq,J5,Lk,Jt,Kn,Lx,KA,JW,JR,Jv,reduceIte,ite_true,ite_false])
local macro_rules | `(tactic| walk_at "y")=>`(tactic| ((try walk_at "x"); (try walk_at "w")))
namespace C
open PySem L2 L3 Wd
noncomputable def Bd.AG:Bd->Nat
 | .AL a b=>a.AG * b.AG
 | .Bs a b=>a.AG+b.AG
 | .Bl _ _ a b=>a.AG+b.AG
 |_=>1
noncomputable def Bd.AJ:Bd->Nat
 | .Bb a=>a.AG+a.AJ
 | .AL a b=>a.AJ+b.AJ
 | .Bs a b=>a.AJ+b.AJ
 | .Bl _ _ a b=>a.AJ+b.AJ
 |_=>0
theorem Bd.Bm:∀t:Bd,t.AG<=2 ^ t.size
 | .rest=>by simp[Bd.AG,Bd.size]
 | .pay _ _=>by simp[Bd.AG,Bd.size]
 | .put _ _=>by simp[Bd.AG,Bd.size]
 | .use _=>by simp[Bd.AG,Bd.size]
 | .Bb a=>by simp only[Bd.AG,Bd.size];exact Nat.one_le_two_pow
 | .AL a b=>by
  simp only[Bd.AG,Bd.size]
  refine Jw (MJ a.Bm b.Bm) ?_
  rw[<-Nat.pow_add]
  exact KU (by decide) (by omega)
 | .Bs a b=>by
  simp only[Bd.AG,Bd.size]
  have h1:2 ^ a.size<=2 ^ (a.size+b.size):=KU (by decide) (by omega)
  have h2:2 ^ b.size<=2 ^ (a.size+b.size):=KU (by decide) (by omega)
  have:=a.Bm
  have:=b.Bm
  rw[Nat.pow_succ]
  omega
 | .Bl _ _ a b=>by
  simp only[Bd.AG,Bd.size]
  have h1:2 ^ a.size<=2 ^ (a.size+b.size):=KU (by decide) (by omega)
  have h2:2 ^ b.size<=2 ^ (a.size+b.size):=KU (by decide) (by omega)
  have:=a.Bm
  have:=b.Bm
  rw[Nat.pow_succ]
  omega
def Bd.Ec{t:Bd}(h:t.size<=60):(t.AG:Int) < 2 ^ 64:=by
 have h1:=t.Bm
 have h2:2 ^ t.size<=2 ^ 60:=KU (by decide) h
 omega
abbrev cm(n:Nat)(w:aC):Prop:=∀{S:aq} {t:Bd} {Q:bM} {E:cQ},t.dep<=n->t.size<=60->Q (.int t.AG) S->w [t.pv] S Q E
def pG{s0:aC}(n:Nat)(ih:cm n s0):cm (n+1) (AN 1 (b7 s0)):=by
 intro S t Q E hd hs k
 unfold b7
 refine fG ?_
 rw[show aB 1 [t.pv]=[some t.pv] from rfl]
 cases t with
 |AL a b=>
  simp only[Bd.dep,Bd.size]at hd hs
  simp only[Bd.pv]
  walk_at "w"
  refine ih (by omega) (by omega) (ih (by omega) (by omega) ⟨ww (by omega) (Bd.Ec (by omega)),?_⟩)
  simpa [Bd.AG]using k
 |Bs a b=>
  simp only[Bd.dep,Bd.size]at hd hs
  simp only[Bd.pv]
  walk_at "w"
  refine ih (by omega) (by omega) (ih (by omega) (by omega) ?_)
  simpa [Bd.AG]using k
 |Bl z m a b=>
  simp only[Bd.dep,Bd.size]at hd hs
  simp only[Bd.pv]
  walk_at "w"
  refine ih (by omega) (by omega) (ih (by omega) (by omega) ?_)
  simpa [Bd.AG]using k
 |_=>
  simp only[Bd.pv]
  walk_at "w"
  exact k
abbrev eu(n:Nat)(w:aC):Prop:=∀{S:aq} {t:Bd} {Q:bM} {E:cQ},t.dep<=n->t.size<=60->Q (.int t.AJ) S->w [t.pv] S Q E
def dj:∀y∈(["then","either","take"]:Vs),PyData.strOk y=true:=by decide +kernel
def gP:∀y∈(["rest","pay","put","use","often","then","either","take"]:Vs),PyData.strOk y=true:=by decide +kernel
def pH{x0 s0:aC}(n m:Nat)(hp:cm m x0)(ih:eu n s0)(hnm:n<=m):eu (n+1) (AN 1 (bU x0 s0)):=by
 intro S t Q E hd hs k
 unfold bU
 refine fG ?_
 rw[show aB 1 [t.pv]=[some t.pv] from rfl]
 have e3:[PV.str "then",PV.str "either",PV.str "take"]=(["then","either","take"]:Vs).map PV.str:=rfl
 cases t with
 |Bb a=>
  simp only[Bd.dep,Bd.size]at hd hs
  simp only[Bd.pv]
  walk_at "y"
  refine hp (by omega) (by omega) (ih (by omega) (by omega) ?_)
  simpa [Bd.AJ]using k
 |AL a b=>
  simp only[Bd.dep,Bd.size]at hd hs
  simp only[Bd.pv]
  walk_at "y"
  rw[e3]
  refine bG (gP _ (by simp)) dj ?_
  simp[aF]
  refine ih (by omega) (by omega) (ih (by omega) (by omega) ?_)
  simpa [Bd.AJ]using k
 |Bs a b=>
  simp only[Bd.dep,Bd.size]at hd hs
  simp only[Bd.pv]
  walk_at "y"
  rw[e3]
  refine bG (gP _ (by simp)) dj ?_
  simp[aF]
  refine ih (by omega) (by omega) (ih (by omega) (by omega) ?_)
  simpa [Bd.AJ]using k
 |Bl z m a b=>
  simp only[Bd.dep,Bd.size]at hd hs
  simp only[Bd.pv]
  walk_at "y"
  rw[e3]
  refine bG (gP _ (by simp)) dj ?_
  simp[aF]
  refine ih (by omega) (by omega) (ih (by omega) (by omega) ?_)
  simpa [Bd.AJ]using k
 |_=>
  simp only[Bd.pv]
  walk_at "y"
  rw[e3]
  refine bG (gP _ (by simp)) dj ?_
  simp[aF]
  simpa [Bd.AJ]using k
abbrev eA(w:aC):Prop:=∀{S:aq} {d l:Addr} {js:Vs} {size bound:Int} {Q:bM} {E:cQ},AW S d l->js.length < 2 ^ 61->1<=size->size<=60->
  (∀(t:Bd) S',t.good js []->t.dep<=6->t.size<=60->(t.size:Int)<=max size 4->((t.AG:Int)+t.AJ<=bound\/(t.AG:Int)+t.AJ<=2)->AW S' d l->BN d l S S'->Q t.pv S')->w [.ref d,.tup (js.map PV.str),.int size,.int bound] S Q E
def lr{x0 x1 x2 x3:aC}(n:Nat)(hn:6<=n)(Dj:gN n x0)(FS:cm n x1)(FT:eu n x2)(Bo:gM x3):eA (AN 5 (ci x0 x1 x2 x3)):=by
 intro S d l js size bound Q E D hj h1 h2 k
 unfold ci
 refine fG ?_
 rw[show aB 5 [PV.ref d,PV.tup (js.map PV.str),PV.int size,PV.int bound]=[some (.ref d),some (.tup (js.map PV.str)),some (.int size),some (.int bound),none] from rfl]
 refine al fun N hN=>?_
 walk_at "x"
 intro p hp
 have dp:=D.free hp
 refine Dj (D.new hp) aa dp.1 dp.2 hj (by omega) (by omega) (by decide) (by omega) fun t S1 l1 hg hd q0 q1 D1 FR O1=>?_
 have HM:BN d l S S1:=fun a o ha h1 h2=>O1 a o (by rw[ai (fun e=>by rw[e,hp]at ha;cases ha)];exact ha) h1 h2 (fun e=>by rw[e,hp]at ha;cases ha)
 refine hN _ _ (al fun N hN=>?_)
 simp only[bo,aS,ah,ac,am,v3,lk,List.set_cons_zero,List.set_cons_succ,m7,aW,d8]
 refine FS (by omega) (by omega) (FT (by omega) (by omega) ?_)
 simp only[Jz]
 split
 ·walk_at "x"
  refine Bo D1 hj fun t2 S2 hl2 EM D2 O2=>Bo D2 hj fun t3 S3 hl3 IQ D3 O3=>?_
  refine hN _ _ ?_
  walk_at "x"
  have e2:=Bd.A4 hl2
  have e3:=Bd.A4 hl3
  refine k (.AL (.Bb t2) t3) S3 ⟨EM,IQ⟩ (by simp only[Bd.dep];omega) (by simp only[Bd.size];omega) (by simp only[Bd.size];omega) (.inr ?_) D3 (HM.trans (O2.trans O3))
  have c2:t2.AG=1/\t2.AJ=0:=by cases t2<;>first|exact⟨rfl,rfl⟩|exact hl2.elim
  have c3:t3.AG=1/\t3.AJ=0:=by cases t3<;>first|exact⟨rfl,rfl⟩|exact hl3.elim
  simp only[Bd.AG,Bd.AJ,c2,c3]
  decide
 ·rename_i hb
  walk_at "x"
  refine hN _ _ ?_
  walk_at "x"
  exact k t S1 hg (by omega) (by omega) (by omega) (.inl (by omega)) D1 HM
noncomputable def e_(p:Str×Bd):PV:=.tup [.str p.1,p.2.pv]
noncomputable def Bj(js:Vs)(ds:List (Str×Bd)):PV:=.tup [.tup (js.map PV.str),.tup (ds.map e_)]
structure yu (js:Vs) (us:Vs) (ds:List (Str×Bd)):Prop where
 jl:js.length<=16
 dl:ds.length<=16
 jw:∀z∈js,Du z
 uw:∀z∈us,Du z
 dw:∀p∈ds,Du p.1
 gd:∀p∈ds,p.2.good js us
 dp:∀p∈ds,p.2.dep<=60
 sz:∀p∈ds,p.2.size<=60
def _root_.L3.Ext.put{p:Addr}{S S':aq}{o:SO}(O:Ext S S')(h:S p=none):Ext S (AH S' p o):=fun x u hx=>by rw[ai (fun e=>by rw[e,h]at hx;cases hx)];exact O x u hx
def ls{α:Type}{xs:List α}{n:Nat}(h:n<=xs.length):dI xs none (some (n:Int))=xs.take n:=by
 unfold dI
 rw[HT.i_,HT.nJ,List.drop_zero,Nat.min_eq_left h]
 rfl
def wJ{α:Type}{xs:List α}{n:Nat}(h:n<=xs.length):dI xs (some (n:Int)) none=xs.drop n:=by
 unfold dI
 rw[HT.i_,HT.nJ,Nat.min_eq_left h,Lr]
 rw[J9]
 exact Jm _
def t_{x:PV}{n:Nat}{a b:List PV}(e:bE 0 n=a++x::b):x = .int a.length/\a.length < n:=by
 have h1:(bE 0 n)[a.length]?=some x:=by rw[e];simp
 unfold bE at h1
 rw[Jx]at h1
 have hl:a.length < n:=by
  have:=Ke List.length e
  rw[dZ,Jj,JB]at this
  omega
 rw[LQ hl]at h1
 simp at h1
 exact⟨h1.symm,hl⟩
def jJ{α:Type}{xs:List α}{n:Nat}{v:α}(h:xs[n]?=some v):Be xs (n:Int)=some v:=cP h
noncomputable def Bd.sides:Bd->List Bd
 | .Bb a=>[a]
 | .AL a b=>[a,b]
 | .Bs a b=>[a,b]
 | .Bl _ _ a b=>[a,b]
 |_=>[]
noncomputable def Bd.parts:Bd->List Bd
 | .Bb a=>.Bb a::a.parts
 | .AL a b=>.AL a b::(a.parts++b.parts)
 | .Bs a b=>.Bs a b::(a.parts++b.parts)
 | .Bl z m a b=>.Bl z m a b::(a.parts++b.parts)
 |t=>[t]
def Bd.DE(t:Bd):t.parts=t::t.sides.flatMap Bd.parts:=by cases t<;>simp[Bd.parts,Bd.sides]
theorem Bd.AZ:∀t:Bd,t.parts.length=t.size
 | .rest=>rfl
 | .pay _ _=>rfl
 | .put _ _=>rfl
 | .use _=>rfl
 | .Bb a=>by simp only[Bd.parts,Bd.size,List.length_cons,a.AZ]
 | .AL a b=>by simp only[Bd.parts,Bd.size,List.length_cons,Jj,a.AZ,b.AZ]
 | .Bs a b=>by simp only[Bd.parts,Bd.size,List.length_cons,Jj,a.AZ,b.AZ]
 | .Bl _ _ a b=>by simp only[Bd.parts,Bd.size,List.length_cons,Jj,a.AZ,b.AZ]
def Bd.DF{t u:Bd}(h:u∈t.sides):u.dep < t.dep/\u.size < t.size:=by
 cases t<;>simp[Bd.sides]at h
 ·subst h;simp[Bd.dep,Bd.size]
 all_goals (rcases h with rfl|rfl<;>simp only[Bd.dep,Bd.size]<;>omega)
abbrev fy(w:aC):Prop:=∀{S:aq} {t:Bd} {Q:bM} {E:cQ},Q (.tup (t.sides.map Bd.pv)) S->w [t.pv] S Q E
def Cd:fy (AN 1 fX):=by
 intro S t Q E k
 unfold fX
 refine fG ?_
 rw[show aB 1 [t.pv]=[some t.pv] from rfl]
 cases t<;>(unfold Bd.pv;walk_at "y"; simp only[nX,ah,v3,lk,c3,ae,d4,ij,ap,am,b9,k_SIDES_FROM,List.find?,sS,String.reduceEq,J5,Lk,Option.map,Option.getD];exact k)
abbrev dB(n:Nat)(w:aC):Prop:=∀{S:aq} {t:Bd} {Q:bM} {E:cQ},t.dep<=n->t.size<=900->(∀p S',S p=none->Ext S S'->S' p=some (.lst (t.parts.map Bd.pv))->Q (.ref p) S')->w [t.pv] S Q E
def C2{xs s0:aC}(Cd:fy xs)(n:Nat)(ih:dB n s0):dB (n+1) (AN 3 (fY xs s0)):=by
 intro S t Q E hd hs k
 unfold fY
 refine fG ?_
 rw[show aB 3 [t.pv]=[some t.pv,none,none] from rfl]
 refine al fun N hN=>?_
 walk_at "x"
 intro p hp
 have X0:Ext S (AH S p (.lst [t.pv])):=.new hp
 have hp0:(AH S p (.lst [t.pv])) p=some (.lst [t.pv]):=aa
 generalize AH S p (.lst [t.pv])=S0 at X0 hp0
 refine hN _ _ (al fun N hN=>?_)
 simp only[bY,aD,ac,am,v3,lk]
 refine Cd ?_
 simp only[bv]
 refine bK (fun done σ S'=>∃(ts:List Bd) (x:Option PV) (rs:List Bd),done=ts.map Bd.pv/\t.sides=ts++rs/\σ=[some t.pv,some (.ref p),x]/\Ext S S'/\S' p=some (.lst ((t::ts.flatMap Bd.parts).map Bd.pv))) ⟨[],_,t.sides,rfl,rfl,rfl,X0,hp0⟩ (fun _ _ _ _=>trivial) ?_ ?_
 ·rintro done x rest σ S1 K e ⟨ts,y,rs,rfl,es,rfl,X1,h1⟩ hK
  rw[es,JP]at e
  have e2:=List.append_cancel_left e
  rcases rs with _|⟨r,rs⟩
  ·cases e2
  rw[JG,List.cons.injEq]at e2
  obtain⟨rfl,e3⟩:=e2
  have hr:r∈t.sides:=by rw[es];simp
  have hrd:=Bd.DF hr
  walk_at "x"
  refine⟨by rw[h1];trivial,ih (t:=r) (by omega) (by omega) fun q S2 hq X2 h2=>?_⟩
  simp only[X2 _ _ h1,h2]
  have hlen:(t::ts.flatMap Bd.parts).length+r.parts.length<=t.size:=by
   rw[<-Bd.AZ t,Bd.DE t,es,JY,Mj]
   simp only[List.length_cons,Jj]
   omega
  refine⟨cS (by simp only[Jk]at *;omega),?_⟩
  refine hK _ _ ⟨ts++[r],_,rs,by simp,by rw[es];simp,rfl,(X1.trans X2).put hp,?_⟩
  rw[aa,JY]
  simp
 ·rintro σ S1 ⟨ts,y,rs,e,es,rfl,X1,h1⟩
  refine hN _ _ ?_
  walk_at "x"
  have ez:rs=[]:=by
   have:=Ke List.length e
   rw[es]at this
   simp at this
   exact this
  subst ez
  rw[JN]at es
  rw[<-es,<-Bd.DE]at h1
  exact k p S1 hp X1 h1
noncomputable def heads:List Str:=["rest","pay","put","use","often","then","either","take"]
def pI:∀z∈heads,PyData.strOk z=true:=by decide +kernel
structure Ck (n:Nat) (js us:Vs) (ds:List (Str×Bd)):Prop extends yu js us ds where
 jn:js.Nodup
 dn:(ds.map Prod.fst).Nodup
 dq:∀p∈ds,p.2.dep<=n
def d0{xs:List PV}{x:PV}{a b:List PV}(e:L3.aQ xs=a++x::b):∃y,x = .tup [.int a.length,y]/\xs[a.length]?=some y:=by
 have h1:(L3.aQ xs)[a.length]?=some x:=by rw[e];simp
 unfold L3.aQ at h1
 rw[LH]at h1
 cases h:xs[a.length]? with
 |none=>rw[h]at h1;cases h1
 |some y=>
  rw[h]at h1
  simp only[Option.map_some,MM]at h1
  exact⟨y,h1.symm,rfl⟩
inductive EH (L:Nat):Nat->PV->Prop
 |int {n:Nat} (i:Int):EH L n (.int i)
 |tup {n:Nat} {xs:List PV}:xs.length<=L->(∀x∈xs,EH L n x)->EH L (n+1) (.tup xs)
def EH.mono{L M n m:Nat}{v:PV}(h:EH L n v)(hL:L<=M):n<=m->EH M m v:=by
 induction h generalizing m with
 |int i=>exact fun _=>.int i
 |@tup n xs hl _ ih=>
  intro hm
  cases m with
  |zero=>omega
  |succ m=>exact .tup (Jw hl hL) fun x hx=>ih x hx (by omega)
noncomputable def Bd.hd:Bd->Str
 | .rest=>"rest" | .pay _ _=>"pay" | .put _ _=>"put" | .use _=>"use" | .Bb _=>"often" | .AL _ _=>"then" | .Bs _ _=>"either" | .Bl _ _ _ _=>"take"
noncomputable def Bd.tl:Bd->List PV
 | .rest=>[] | .pay x y=>[.tup [.int x,.int y]] | .put z m=>[.str z,.int m] | .use z=>[.str z] | .Bb a=>[a.pv] | .AL a b=>[a.pv,b.pv] | .Bs a b=>[a.pv,b.pv] | .Bl z m a b=>[.str z,.int m,a.pv,b.pv]
def Bd.Ce(t:Bd):t.pv = .tup (.str t.hd::t.tl):=by cases t<;>rfl
def Bd.C3(t:Bd):PyData.strOk t.hd=true:=by cases t<;>exact pI _ (by simp[heads,Bd.hd])
def Bd.En(t:Bd):t.hd=("then":Str)↔∃a b,t = .AL a b:=by cases t<;>simp[Bd.hd,aF]
def Bd.Fp(t:Bd):t.hd=("often":Str)↔∃a,t = .Bb a:=by cases t<;>simp[Bd.hd,aF]
def lu:([PV.str "then",PV.str "either",PV.str "take"]:List PV)=(["then","either","take"]:Vs).map PV.str:=rfl
def cx{a b:PV}{hd:List PV}{i:Int}(hi:i=0\/i=1):Be (hd++[a,b]) (i - 2)=some (if i=0 then a else b):=by
 unfold Be oE
 rcases hi with rfl|rfl
 ·rw[if_neg (by omega),if_pos (by simp;omega)]
  have:(0 - 2+((hd++[a,b]).length:Int)).toNat=hd.length:=by simp;omega
  rw[this,if_pos rfl]
  show(hd++[a,b])[hd.length]?=some a
  simp
 ·rw[if_neg (by omega),if_pos (by simp;omega)]
  have:(1 - 2+((hd++[a,b]).length:Int)).toNat=hd.length+1:=by simp;omega
  rw[this,if_neg (by decide)]
  show(hd++[a,b])[hd.length+1]?=some b
  simp
def yv:∀z∈(["either","take"]:Vs),PyData.strOk z=true:=by decide +kernel
noncomputable def Bd.Cr:Bd->PV
 | .AL a b=>.tup [a.Cr,b.Cr]
 | .Bs a _=>.tup [.int 0,a.Cr]
 | .Bl _ _ _ b=>.tup [.int 1,b.Cr]
 |_=>.tup []
abbrev fz(n:Nat)(w:aC):Prop:=∀{S:aq} {t:Bd} {Q:bM} {E:cQ},t.dep<=n->Q t.Cr S->w [t.pv] S Q E
def rF{s0:aC}(n:Nat)(ih:fz n s0):fz (n+1) (AN 1 (dJ s0)):=by
 intro S t Q E hd k
 unfold dJ
 refine fG ?_
 rw[show aB 1 [t.pv]=[some t.pv] from rfl]
 cases t with
 |AL a b=>
  simp only[Bd.dep]at hd
  rw[show(Bd.AL a b).pv = .tup [.str "then",a.pv,b.pv] from rfl]
  walk_at "y"
  refine ih (by omega) ?_
  exact ih (by omega) k
 |Bs a b=>
  simp only[Bd.dep]at hd
  rw[show(Bd.Bs a b).pv = .tup [.str "either",a.pv,b.pv] from rfl]
  walk_at "y"
  exact ih (by omega) k
 |Bl z m a b=>
  simp only[Bd.dep]at hd
  rw[show(Bd.Bl z m a b).pv = .tup [.str "take",.str z,.int m,a.pv,b.pv] from rfl]
  walk_at "y"
  exact ih (by omega) k
 |Bb a=>
  rw[show(Bd.Bb a).pv = .tup [.str "often",a.pv] from rfl]
  walk_at "y"
  exact k
 |rest=>
  rw[show(Bd.rest).pv = .tup [.str "rest"] from rfl]
  walk_at "y"
  exact k
 |pay x y=>
  rw[show(Bd.pay x y).pv = .tup [.str "pay",.tup [.int x,.int y]] from rfl]
  walk_at "y"
  exact k
 |put z m=>
  rw[show(Bd.put z m).pv = .tup [.str "put",.str z,.int m] from rfl]
  walk_at "y"
  exact k
 |use z=>
  rw[show(Bd.use z).pv = .tup [.str "use",.str z] from rfl]
  walk_at "y"
  exact k
noncomputable def Bd.C4:Bd->Bool | .Bb _=>true|_=>false
abbrev iu(n:Nat)(w:aC):Prop:=∀{S:aq} {t:Bd} {Q:bM} {E:cQ},t.dep<=n->t.size<=900->(∀S',Ext S S'->Q (.int t.size) S')->w [t.pv] S Q E
def pJ{xp:aC}(n:Nat)(C2:dB n xp):iu n (AN 1 (lp xp)):=by
 intro S t Q E hd hs k
 unfold lp
 refine fG ?_
 rw[show aB 1 [t.pv]=[some t.pv] from rfl]
 walk_at "x"
 refine C2 hd hs fun p S1 hp X1 h1=>?_
 simp only[h1,Jk,t.AZ]
 exact k S1 X1
noncomputable def Bd.led:Bd->Nat->PV->PV
 |_,0,v=>v
 | .Bb a,p+1,v=>.tup [.tup [.int 1,a.led p v]]
 | .AL a b,p+1,v=>if p < a.size then .tup [a.led p v,b.Cr] else .tup [a.Cr,b.led (p - a.size) v]
 | .Bs a b,p+1,v=>if p < a.size then .tup [.int 0,a.led p v] else .tup [.int 1,b.led (p - a.size) v]
 | .Bl _ _ a b,p+1,v=>if p < a.size then .tup [.int 0,a.led p v] else .tup [.int 1,b.led (p - a.size) v]
 |_,_+1,v=>v
abbrev gQ(n:Nat)(w:aC):Prop:=∀{S:aq} {t:Bd} {p:Nat} {v:PV} {Q:bM} {E:cQ},t.dep<=n->t.size<=900->p < t.size->(∀S',Ext S S'->Q (t.led p v) S')->w [t.pv,.int p,v] S Q E
def ua{xp xt s0:aC}(n m:Nat)(hm:n<=m)(Fq:iu m xp)(EZ:fz m xt)(ih:gQ n s0):gQ (n+1) (AN 8 (dL xp xt s0)):=by
 intro S t p v Q E hd hs hp k
 unfold dL
 refine fG ?_
 rw[show aB 8 [t.pv,PV.int p,v]=[some t.pv,some (.int p),some v,none,none,none,none,none] from rfl]
 refine al fun N hN=>?_
 walk_at "x"
 simp only[Jt,Jz]
 cases p with
 |zero=>
  rw[if_pos (show((0:Nat):Int)=0 from rfl)]
  have:=k S .refl
  cases t<;>exact this
 |succ p=>
  rw[if_neg (by omega)]
  refine hN _ _ (al fun N hN=>?_)
  have ep:(((p+1:Nat):Int) - 1)=(p:Int):=by omega
  cases t with
  |Bb a=>
   simp only[Bd.size]at hs hp
   simp only[Bd.dep]at hd
   rw[show(Bd.Bb a).pv = .tup [.str "often",a.pv] from rfl]
   walk_at "y"
   rw[ep]
   exact ih (by omega) (by omega) (by omega) k
  |rest=>simp only[Bd.size]at hp;omega
  |pay=>simp only[Bd.size]at hp;omega
  |put=>simp only[Bd.size]at hp;omega
  |use=>simp only[Bd.size]at hp;omega
  |AL a b=>
   simp only[Bd.size]at hs hp
   simp only[Bd.dep]at hd
   rw[show(Bd.AL a b).pv = .tup [.str "then",a.pv,b.pv] from rfl]
   walk_at "y"
   refine hN _ _ (al fun N hN=>?_)
   walk_at "y"
   refine hN _ _ (al fun N hN=>?_)
   walk_at "y"
   refine hN _ _ (al fun N hN=>?_)
   walk_at "y"
   refine Fq (by omega) (by omega) fun S1 X1=>?_
   refine hN _ _ (al fun N hN=>?_)
   walk_at "x"
   by_cases hl:p < a.size
   ·have e1:decide (((p+1:Nat):Int) < 1+(a.size:Int))=true:=JV (by omega)
    rw[e1]
    simp only[JW]
    refine hN _ _ (al fun N hN=>?_)
    walk_at "y"
    rw[ep]
    refine ih (by omega) (by omega) hl fun S2 X2=>?_
    refine hN _ _ (al fun N hN=>?_)
    walk_at "y"
    refine hN _ _ (al fun N hN=>?_)
    walk_at "y"
    refine EZ (by omega) ?_
    have:=k S2 (X1.trans X2)
    simp only[Bd.led,if_pos hl]at this
    exact this
   ·have e1:decide (((p+1:Nat):Int) < 1+(a.size:Int))=false:=JK (by omega)
    rw[e1]
    simp only[Jv,JR]
    refine hN _ _ (al fun N hN=>?_)
    have e2:(((p+1:Nat):Int) - (1+(a.size:Int)))=((p - a.size:Nat):Int):=by omega
    have e4:decide ((1:Int)=0)=false:=by decide
    walk_at "y"
    simp only[e4,Jv,JR]
    rw[e2]
    refine ih (by omega) (by omega) (by omega) fun S2 X2=>?_
    refine hN _ _ (al fun N hN=>?_)
    walk_at "y"
    refine hN _ _ (al fun N hN=>?_)
    walk_at "y"
    simp only[e4,Jv,JR]
    refine hN _ _ ?_
    walk_at "y"
    refine EZ (by omega) ?_
    have:=k S2 (X1.trans X2)
    simp only[Bd.led,if_neg hl]at this
    exact this
  |Bs a b=>
   simp only[Bd.size]at hs hp
   simp only[Bd.dep]at hd
   rw[show(Bd.Bs a b).pv = .tup [.str "either",a.pv,b.pv] from rfl]
   walk_at "y"
   refine hN _ _ (al fun N hN=>?_)
   walk_at "y"
   refine hN _ _ (al fun N hN=>?_)
   walk_at "y"
   refine hN _ _ (al fun N hN=>?_)
   walk_at "y"
   refine Fq (by omega) (by omega) fun S1 X1=>?_
   refine hN _ _ (al fun N hN=>?_)
   walk_at "x"
   by_cases hl:p < a.size
   ·have e1:decide (((p+1:Nat):Int) < 1+(a.size:Int))=true:=JV (by omega)
    rw[e1]
    simp only[JW]
    refine hN _ _ (al fun N hN=>?_)
    walk_at "y"
    rw[ep]
    refine ih (by omega) (by omega) hl fun S2 X2=>?_
    refine hN _ _ (al fun N hN=>?_)
    walk_at "y"
    have:=k S2 (X1.trans X2)
    simp only[Bd.led,if_pos hl]at this
    exact this
   ·have e1:decide (((p+1:Nat):Int) < 1+(a.size:Int))=false:=JK (by omega)
    rw[e1]
    simp only[Jv,JR]
    refine hN _ _ (al fun N hN=>?_)
    have e2:(((p+1:Nat):Int) - (1+(a.size:Int)))=((p - a.size:Nat):Int):=by omega
    have e4:decide ((1:Int)=0)=false:=by decide
    walk_at "y"
    simp only[e4,Jv,JR]
    rw[e2]
    refine ih (by omega) (by omega) (by omega) fun S2 X2=>?_
    refine hN _ _ (al fun N hN=>?_)
    walk_at "y"
    have:=k S2 (X1.trans X2)
    simp only[Bd.led,if_neg hl]at this
    exact this
  |Bl z q a b=>
   simp only[Bd.size]at hs hp
   simp only[Bd.dep]at hd
   rw[show(Bd.Bl z q a b).pv = .tup [.str "take",.str z,.int q,a.pv,b.pv] from rfl]
   walk_at "y"
   refine hN _ _ (al fun N hN=>?_)
   walk_at "y"
   refine hN _ _ (al fun N hN=>?_)
   walk_at "y"
   refine hN _ _ (al fun N hN=>?_)
   walk_at "y"
   refine Fq (by omega) (by omega) fun S1 X1=>?_
   refine hN _ _ (al fun N hN=>?_)
   walk_at "x"
   by_cases hl:p < a.size
   ·have e1:decide (((p+1:Nat):Int) < 1+(a.size:Int))=true:=JV (by omega)
    rw[e1]
    simp only[JW]
    refine hN _ _ (al fun N hN=>?_)
    walk_at "y"
    rw[ep]
    refine ih (by omega) (by omega) hl fun S2 X2=>?_
    refine hN _ _ (al fun N hN=>?_)
    walk_at "y"
    have:=k S2 (X1.trans X2)
    simp only[Bd.led,if_pos hl]at this
    exact this
   ·have e1:decide (((p+1:Nat):Int) < 1+(a.size:Int))=false:=JK (by omega)
    rw[e1]
    simp only[Jv,JR]
    refine hN _ _ (al fun N hN=>?_)
    have e2:(((p+1:Nat):Int) - (1+(a.size:Int)))=((p - a.size:Nat):Int):=by omega
    have e4:decide ((1:Int)=0)=false:=by decide
    walk_at "y"
    simp only[e4,Jv,JR]
    rw[e2]
    refine ih (by omega) (by omega) (by omega) fun S2 X2=>?_
    refine hN _ _ (al fun N hN=>?_)
    walk_at "y"
    have:=k S2 (X1.trans X2)
    simp only[Bd.led,if_neg hl]at this
    exact this
theorem cn{α:Type}{g:Tg}{te:aV}{σ':b3}{keep:aq->Prop}{fin:List PV->aq->Prop}{S:aq}(enc f:α->PV)(hk:keep S):∀(xs:List α) (ys:List PV),
  (∀x∈xs,∃σ2,g.put (enc x) σ'=some σ2/\∀Q:bM,Q (f x) S->te σ2 S Q cX)->ys.length+xs.length<=sizeLine->fin (ys++xs.map f) S->b_ g bq te σ' keep fin (xs.map enc) ys S
 |[],ys,_,hl,hf=>⟨hk,by simpa using hl,by simpa using hf⟩
 |x::r,ys,h,hl,hf=>by
  obtain⟨σ2,e,h1⟩:=h x (by simp)
  refine⟨hk,by simp at hl;omega,?_⟩
  rw[e]
  show te σ2 S (fun y S4=>b_ g bq te σ' keep fin (r.map enc) (ys++[y]) S4) cX
  exact h1 _ (cn enc f hk r (ys++[f x]) (fun y hy=>h y (by simp[hy])) (by simp at hl ⊢;omega) (by simpa using hf))
def bx{n:Nat}(h:n<=1000):n<=sizeLine:=Jw h (by decide)
noncomputable def rG(js:Vs):PV:=.tup (js.map PV.str)
def Bd.Eo(t:Bd):t.hd=("put":Str)↔∃z m,t = .put z m:=by cases t<;>simp[Bd.hd,aF]
abbrev Qs:=Str->Bool
noncomputable def mq(hs:Vs):Qs:=fun z=>decide (z∈hs)
noncomputable def Bd.shut(q:Qs):Bd->Nat->Bool
 | .Bl z _ _ _,0=>!q z
 |_,_=>false
noncomputable def Bd.Bt(q:Qs)(t:Bd)(r:Bool):List (Bd×Bool):=t.sides.mapIdx fun i s=>(s,r&&!t.shut q i)
noncomputable def Bd.pr(q:Qs):Bd->Bool->List (Bd×Bool)
 | .rest,r=>[(.rest,r)]
 | .pay x y,r=>[(.pay x y,r)]
 | .put z m,r=>[(.put z m,r)]
 | .use z,r=>[(.use z,r)]
 | .Bb a,r=>(.Bb a,r)::a.pr q r
 | .AL a b,r=>(.AL a b,r)::(a.pr q r++b.pr q r)
 | .Bs a b,r=>(.Bs a b,r)::(a.pr q r++b.pr q r)
 | .Bl z m a b,r=>(.Bl z m a b,r)::(a.pr q (r&&q z)++b.pr q r)
def Bd.E4(q:Qs)(t:Bd)(r:Bool):t.pr q r=(t,r)::(t.Bt q r).flatMap fun p=>p.1.pr q p.2:=by
 cases t with
 |rest=>rfl
 |pay x y=>rfl
 |put z m=>rfl
 |use z=>rfl
 |Bb a=>show _=_::(a.pr q (r&&!false)++[]);rw[KA,MP,JN];rfl
 |AL a b=>show _=_::(a.pr q (r&&!false)++(b.pr q (r&&!false)++[]));rw[KA,MP,JN];rfl
 |Bs a b=>show _=_::(a.pr q (r&&!false)++(b.pr q (r&&!false)++[]));rw[KA,MP,JN];rfl
 |Bl z m a b=>show _=_::(a.pr q (r&&!(!q z))++(b.pr q (r&&!false)++[]));rw[Bool.not_not,KA,MP,JN];rfl
theorem Bd.BD(q:Qs):∀(t:Bd) (r:Bool),(t.pr q r).length=t.size
 | .rest,_=>rfl
 | .pay _ _,_=>rfl
 | .put _ _,_=>rfl
 | .use _,_=>rfl
 | .Bb a,r=>by show(a.pr q r).length+1=a.size+1;rw[a.BD q r]
 | .AL a b,r=>by show(a.pr q r++b.pr q r).length+1=a.size+b.size+1;rw[Jj,a.BD q r,b.BD q r]
 | .Bs a b,r=>by show(a.pr q r++b.pr q r).length+1=a.size+b.size+1;rw[Jj,a.BD q r,b.BD q r]
 | .Bl z m a b,r=>by show(a.pr q (r&&q z)++b.pr q r).length+1=a.size+b.size+1;rw[Jj,a.BD q _,b.BD q r]
noncomputable def Bd.AK(q:Qs):Bd->List Str
 | .rest=>[]
 | .pay _ _=>[]
 | .put z _=>[z]
 | .use _=>[]
 | .Bb a=>a.AK q
 | .AL a b=>a.AK q++b.AK q
 | .Bs a b=>a.AK q++b.AK q
 | .Bl z _ a b=>(if q z then a.AK q else [])++b.AK q
theorem Bd.Bp(q:Qs):∀(t:Bd) (u:Bd),(u,true) ∉ t.pr q false
 | .rest,u=>by simp[Bd.pr]
 | .pay _ _,u=>by simp[Bd.pr]
 | .put _ _,u=>by simp[Bd.pr]
 | .use _,u=>by simp[Bd.pr]
 | .Bb a,u=>by
  show _ ∉ _::a.pr q false
  rw[Jq,not_or];exact⟨by simp,a.Bp q u⟩
 | .AL a b,u=>by
  show _ ∉ _::(a.pr q false++b.pr q false)
  rw[Jq,not_or,Ju,not_or];exact⟨by simp,a.Bp q u,b.Bp q u⟩
 | .Bs a b,u=>by
  show _ ∉ _::(a.pr q false++b.pr q false)
  rw[Jq,not_or,Ju,not_or];exact⟨by simp,a.Bp q u,b.Bp q u⟩
 | .Bl z m a b,u=>by
  show _ ∉ _::(a.pr q (false&&q z)++b.pr q false)
  rw[Bool.false_and,Jq,not_or,Ju,not_or];exact⟨by simp,a.Bp q u,b.Bp q u⟩
theorem Bd.A5(q:Qs){z:Str}:∀(t:Bd),z∈t.AK q↔∃m,(Bd.put z m,true)∈t.pr q true
 | .rest=>by simp[Bd.AK,Bd.pr]
 | .pay _ _=>by simp[Bd.AK,Bd.pr]
 | .put y m=>by
  show z∈[y]↔∃n,(Bd.put z n,true)∈[(Bd.put y m,true)]
  simp only[Js,Prod.mk.injEq,Bd.put.injEq,and_true]
  exact⟨fun h=>⟨m,h,rfl⟩,fun⟨_,h,_⟩=>h⟩
 | .use _=>by simp[Bd.AK,Bd.pr]
 | .Bb a=>by
  show z∈a.AK q↔∃m,(Bd.put z m,true)∈(Bd.Bb a,true)::a.pr q true
  rw[a.A5 q];simp
 | .AL a b=>by
  show z∈a.AK q++b.AK q↔∃m,(Bd.put z m,true)∈(Bd.AL a b,true)::(a.pr q true++b.pr q true)
  rw[Ju,a.A5 q,b.A5 q];simp[exists_or]
 | .Bs a b=>by
  show z∈a.AK q++b.AK q↔∃m,(Bd.put z m,true)∈(Bd.Bs a b,true)::(a.pr q true++b.pr q true)
  rw[Ju,a.A5 q,b.A5 q];simp[exists_or]
 | .Bl y m a b=>by
  show z∈(if q y=true then a.AK q else [])++b.AK q↔∃n,(Bd.put z n,true)∈(Bd.Bl y m a b,true)::(a.pr q (true&&q y)++b.pr q true)
  rw[Ju,b.A5 q]
  cases h:q y with
  |true=>rw[if_pos rfl,a.A5 q];simp[exists_or]
  |false=>
   rw[if_neg (by decide)]
   have f:=a.Bp q
   simp[f]
theorem Bd.Ba{q p:Qs}(h:∀z,q z=true->p z=true){z:Str}:∀t:Bd,z∈t.AK q->z∈t.AK p
 | .rest,e=>e
 | .pay _ _,e=>e
 | .put _ _,e=>e
 | .use _,e=>e
 | .Bb a,e=>a.Ba h e
 | .AL a b,e=>Ju.mpr ((Ju.mp e).imp (a.Ba h) (b.Ba h))
 | .Bs a b,e=>Ju.mpr ((Ju.mp e).imp (a.Ba h) (b.Ba h))
 | .Bl y m a b,e=>by
  rcases Ju.mp (show z∈(if q y=true then a.AK q else [])++b.AK q from e)with e|e
  ·by_cases hq:q y=true
   ·rw[if_pos hq]at e
    exact Ju.mpr (.inl (by show z∈(if p y=true then a.AK p else []);rw[if_pos (h y hq)];exact a.Ba h e))
   ·rw[if_neg hq]at e;cases e
  ·exact Ju.mpr (.inr (b.Ba h e))
theorem Bd.A0{q:Qs}{js us:Vs}{z:Str}:∀t:Bd,t.good js us->z∈t.AK q->z∈js
 | .rest,_,e=>by cases e
 | .pay _ _,_,e=>by cases e
 | .put _ _,g,e=>by rw[Js.mp e];exact g.1
 | .use _,_,e=>by cases e
 | .Bb a,g,e=>a.A0 g e
 | .AL a b,g,e=>(Ju.mp e).elim (a.A0 g.1) (b.A0 g.2)
 | .Bs a b,g,e=>(Ju.mp e).elim (a.A0 g.1) (b.A0 g.2)
 | .Bl y m a b,g,e=>by
  rcases Ju.mp (show z∈(if q y=true then a.AK q else [])++b.AK q from e)with e|e
  ·by_cases hq:q y=true
   ·rw[if_pos hq]at e;exact a.A0 g.2.2.2.1 e
   ·rw[if_neg hq]at e;cases e
  ·exact b.A0 g.2.2.2.2 e
noncomputable def Bg(q:Qs)(ds:List (Str×Bd)):List Str:=ds.flatMap fun p=>p.2.AK q
def jK{q p:Qs}(h:∀z,q z=true->p z=true){ds:List (Str×Bd)}{z:Str}(e:z∈Bg q ds):z∈Bg p ds:=by
 obtain⟨d,hd,e⟩:=K7.mp e
 exact K7.mpr ⟨d,hd,d.2.Ba h e⟩
inductive Fs (ds:List (Str×Bd)):List Str->Prop
 |nil:Fs ds []
 |snoc {hs:Vs} {z:Str}:Fs ds hs->z∈Bg (mq hs) ds->Fs ds (hs++[z])
noncomputable def held(ds:List (Str×Bd)):Nat->List Str
 |0=>[]
 |n+1=>Bg (mq (held ds n)) ds
theorem gR:∀(hs js:Vs),hs.Nodup->(∀z∈hs,z∈js)->hs.length<=js.length
 |[],_,_,_=>JM _
 |z::r,js,hn,hj=>by
  have hz:=hj z (by simp)
  have h1:=gR r (js.erase z) (Km.mp hn).2 fun y hy=>(List.mem_erase_of_ne (fun e=>(Km.mp hn).1 (by rw[<-e];exact hy))).mpr (hj y (by simp[hy]))
  rw[List.length_erase_of_mem hz]at h1
  have:=List.length_pos_of_mem hz
  rw[JB]
  omega
def n_{a b:Vs}(h:∀z∈a,z∈b)(z:Str)(e:mq a z=true):mq b z=true:=JV (h z (of_decide_eq_true e))
def ub{ds:List (Str×Bd)}{hs:Vs}(h:Fs ds hs):∀k,hs.length<=k->∀z∈hs,z∈held ds k:=by
 induction h with
 |nil=>intro k _ z hz;cases hz
 |@snoc hs y hf hy ih=>
  intro k hk z hz
  rw[Jj,Jy]at hk
  rcases Ju.mp hz with hz|hz
  ·exact ih k (by omega) z hz
  ·rw[Js.mp hz]
   obtain⟨k,rfl⟩:∃m,k=m+1:=⟨k - 1,by omega⟩
   exact jK (n_ (ih k (by omega))) hy
theorem oa{ds:List (Str×Bd)}{hs:Vs}(cl:∀z∈Bg (mq hs) ds,z∈hs):∀k,∀z∈held ds k,z∈hs
 |0,z,hz=>by cases hz
 |k+1,z,hz=>cl z (jK (n_ (oa cl k)) hz)
def uc{ds:List (Str×Bd)}{js hs:Vs}(h:Fs ds hs)(hn:hs.Nodup)(hj:∀z∈hs,z∈js)(cl:∀z∈Bg (mq hs) ds,z∈hs):mq (held ds js.length)=mq hs:=by
 funext z
 exact decide_eq_decide.mpr ⟨oa cl _ z,ub h _ (gR hs js hn hj) z⟩
noncomputable def eB(p:Bd×Bool):PV:=.tup [p.1.pv,.bl p.2]
def jL(js:Vs):Prop:=∀z∈js,PyData.strOk z=true
abbrev jM(n:Nat)(w:aC):Prop:=∀{S:aq} {t:Bd} {js us hs:Vs} {nm:Addr} {r:Bool} {Q:bM} {E:cQ},t.dep<=n->t.size<=900->t.good js us->jL js->jL hs->S nm=some (.lst (hs.map PV.str))->
  (∀p S',S p=none->Ext S S'->S' p=some (.lst ((t.pr (mq hs) r).map eB))->Q (.ref p) S')->w [t.pv,.ref nm,.bl r] S Q E
def Bd.DM{js us:Vs}{t s:Bd}(g:t.good js us)(h:s∈t.sides):s.good js us:=by
 cases t with
 |rest=>cases h
 |pay x y=>cases h
 |put z m=>cases h
 |use z=>cases h
 |Bb a=>rw[Js.mp h];exact g
 |AL a b=>
  rcases Jq.mp h with rfl|h
  ·exact g.1
  ·rw[Js.mp h];exact g.2
 |Bs a b=>
  rcases Jq.mp h with rfl|h
  ·exact g.1
  ·rw[Js.mp h];exact g.2
 |Bl z m a b=>
  rcases Jq.mp h with rfl|h
  ·exact g.2.2.2.1
  ·rw[Js.mp h];exact g.2.2.2.2
def Bd.Fr(t:Bd):t.hd=("take":Str)↔∃z m a b,t = .Bl z m a b:=by cases t<;>simp[Bd.hd,aF]
def ud{t:Bd}{js us hs:Vs}{nm:Addr}{S:aq}{i:Nat}{x2 x3 x5 x6:Option PV}{Q:bM}(g:t.good js us)(hj:jL js)(hh:jL hs)(hn:S nm=some (.lst (hs.map PV.str)))(q:Q (.bl (t.shut (mq hs) i)) S) :
  bP (ah (bc false) (ah ae (v3 0) (c3 (.int 0))) (c3 (.str "take"))) (bP (ah (bc false) (v3 4) (c3 (.int 0))) (ah (iL true) (ah ae (v3 0) (c3 (.int 1))) (v3 1))) [some t.pv,some (.ref nm),x2,x3,some (.int (i:Int)),x5,x6] S Q cX:=by
 rw[Bd.Ce]
 simp only[bP,ah,v3,lk,c3,ae,d4,bc,Jt]
 by_cases h:t.hd=("take":Str)
 ·obtain⟨z,m,a,b,rfl⟩:=(Bd.Fr t).mp h
  rw[JV h,if_pos rfl]
  cases i with
  |zero=>
   rw[JV (show((0:Nat):Int)=0 from rfl),if_pos rfl]
   simp only[Bd.tl,hU]
   refine dA hn (hj z g.1) hh ?_
   rw[show(true != decide (z∈hs))=Bd.shut (mq hs) (Bd.Bl z m a b) 0 by show _=!decide (z∈hs);cases decide (z∈hs)<;>rfl]
   exact q
  |succ i=>
   rw[JK (show ¬(((i+1:Nat):Int)=0) by omega),if_neg (by decide)]
   exact q
 ·rw[JK h,if_neg (by decide)]
  have e:t.shut (mq hs) i=false:=by cases t<;>first|rfl|exact absurd rfl h
  rw[e]at q
  exact q
def DG{xs s0:aC}(Cd:fy xs)(n:Nat)(ih:jM n s0):jM (n+1) (AN 7 (cJ xs s0)):=by
 intro S t js us hs nm r Q E hd F7 hg hj hh hn k
 unfold cJ
 refine fG ?_
 rw[show aB 7 [t.pv,.ref nm,.bl r]=[some t.pv,some (.ref nm),some (.bl r),none,none,none,none] from rfl]
 refine al fun N hN=>?_
 walk_at "x"
 intro p hp
 have X0:Ext S (AH S p (.lst [.tup [t.pv,.bl r]])):=.new hp
 have hp0:(AH S p (.lst [.tup [t.pv,.bl r]])) p=some (.lst [.tup [t.pv,.bl r]]):=aa
 generalize AH S p (.lst [.tup [t.pv,.bl r]])=S0 at X0 hp0
 refine hN _ _ (al fun N hN=>?_)
 simp only[bY,b6,ac,am,v3,lk]
 refine Cd ?_
 dsimp only
 have hps:(t.Bt (mq hs) r).length=t.sides.length:=Ls
 refine bK (fun done σ S'=>∃(x4 x5 x6:Option PV),σ=[some t.pv,some (.ref nm),some (.bl r),some (.ref p),x4,x5,x6]/\Ext S S'/\done.length<=t.sides.length/\S' p=some (.lst (((t,r)::((t.Bt (mq hs) r).take done.length).flatMap fun p=>p.1.pr (mq hs) p.2).map eB))) ⟨_,_,_,rfl,X0,JM _,hp0⟩ (fun _ _ _ _=>trivial) ?_ ?_
 ·rintro done x rest σ S1 K e ⟨x4,x5,x6,rfl,X1,hl,h1⟩ hK
  obtain⟨y,rfl,hy⟩:=d0 e
  rw[Jx]at hy
  cases hs':t.sides[done.length]? with
  |none=>rw[hs']at hy;cases hy
  |some s=>
  rw[hs']at hy
  cases hy
  have hlt:done.length < t.sides.length:=(JJ.mp hs').1
  have hr:s∈t.sides:=JI hs'
  have hrd:=Bd.DF hr
  have hn1:=X1 _ _ hn
  have hq:(t.Bt (mq hs) r)[done.length]?=some (s,r&&!t.shut (mq hs) done.length):=by unfold Bd.Bt;rw[LH,hs'];rfl
  simp only[Tg.put,Tg.AK,List.set_cons_succ,List.set_cons_zero]
  refine al fun N2 BK=>?_
  simp only[au]
  refine ud hg hj hh hn1 ?_
  simp only[List.set_cons_succ,List.set_cons_zero]
  refine BK _ _ ?_
  simp only[aG,cH,j3,am,ac,v3,lk,h1,KW,bP,kr]
  have go:∀Q':bM,(∀q S2,S1 q=none->Ext S1 S2->S2 q=some (.lst ((s.pr (mq hs) (r&&!t.shut (mq hs) done.length)).map eB))->Q' (.ref q) S2)->s0 [s.pv,.ref nm,.bl (r&&!t.shut (mq hs) done.length)] S1 Q' cX:=fun Q' k'=>ih (by omega) (by omega) (Bd.DM hg hr) hj hh hn1 k'
  have tail:∀q S2,S1 q=none->Ext S1 S2->S2 q=some (.lst ((s.pr (mq hs) (r&&!t.shut (mq hs) done.length)).map eB))->aH (.ref p) [.ref q] S2 (fun _ S3=>K [some t.pv,some (.ref nm),some (.bl r),some (.ref p),some (.int (done.length:Int)),some s.pv,some (.bl (t.shut (mq hs) done.length))] S3):=fun q S2 hq2 X2 h2=>by
   simp only[aH,X2 _ _ h1,h2]
   have et:((t.Bt (mq hs) r).take (done.length+1)).flatMap (fun p=>p.1.pr (mq hs) p.2)=((t.Bt (mq hs) r).take done.length).flatMap (fun p=>p.1.pr (mq hs) p.2)++s.pr (mq hs) (r&&!t.shut (mq hs) done.length):=by
    rw[La,hq,JY];simp
   have ln:((t,r)::((t.Bt (mq hs) r).take (done.length+1)).flatMap fun p=>p.1.pr (mq hs) p.2).length<=t.size:=by
    rw[<-Bd.BD (mq hs) t r,Bd.E4]
    rw[JB,JB]
    have:(t.Bt (mq hs) r).flatMap (fun p=>p.1.pr (mq hs) p.2)=((t.Bt (mq hs) r).take (done.length+1)).flatMap (fun p=>p.1.pr (mq hs) p.2)++((t.Bt (mq hs) r).drop (done.length+1)).flatMap (fun p=>p.1.pr (mq hs) p.2):=by rw[<-JY,Mn]
    rw[this,Jj]
    omega
   rw[JB,et,Jj]at ln
   refine⟨bx (by simp only[Jk,List.length_cons];omega),?_⟩
   refine hK _ _ ⟨_,_,_,rfl,(X1.trans X2).put hp,by rw[Jj];exact hlt,?_⟩
   rw[aa,Jj,Jy,et,<-JP]
   rfl
  cases r with
  |true=>rw[if_pos rfl];exact go _ tail
  |false=>rw[if_neg (by decide)];exact go _ tail
 ·rintro σ S1 ⟨x4,x5,x6,rfl,X1,hl,h1⟩
  refine hN _ _ ?_
  walk_at "x"
  refine k p S1 hp X1 ?_
  rw[h1,Bd.E4]
  have:(L3.aQ (t.sides.map Bd.pv)).length=(t.Bt (mq hs) r).length:=by unfold L3.aQ;rw[Ls,Jk,hps]
  rw[this,Ln]
structure HG (js:Vs) (ds:List (Str×Bd)):Prop where
 jw:jL js
 jl:js.length<=50
 dl:ds.length<=1000
 gd:∀p∈ds,p.2.good js []
 dp:∀p∈ds,p.2.dep<=6
 sz:∀p∈ds,p.2.size<=60
def DW(ds:List (Str×Bd))(hs:Vs)(d tr:PV)(z:Str):Prop:=∃(dk pl:Nat) (dn:Str) (t:Bd) (m:Int),d = .int (dk:Int)/\tr=t.led pl (.tup [])/\ds[dk]?=some (dn,t)/\(t.pr (mq hs) true)[pl]?=some (.put z m,true)
def DW.AK{ds:List (Str×Bd)}{hs:Vs}{d tr:PV}{z:Str}:DW ds hs d tr z->z∈Bg (mq hs) ds:=fun⟨_,_,_,t,m,_,_,h1,h2⟩=>K7.mpr ⟨_,JI h1,(Bd.A5 (mq hs) t).mpr ⟨m,JI h2⟩⟩
abbrev jN(w:aC):Prop:=∀{S:aq} {js hs:Vs} {ds:List (Str×Bd)} {nm:Addr} {Q:bM} {E:cQ},HG js ds->jL hs->S nm=some (.lst (hs.map PV.str))->
  (∀S',Ext S S'->(∀z∈Bg (mq hs) ds,z∈hs)->Q .non S')->
  (∀(k:Nat) z d tr S',Ext S S'->js[k]?=some z->DW ds hs d tr z->z ∉ hs->Q (.tup [.int (k:Int),d,tr]) S')->w [Bj js ds,.ref nm] S Q E
def rH{js:Vs}{z:Str}(h:z∈js):∃k:Nat,js[k]?=some z/\∀j:Nat,j < k->js[j]?≠some z:=by
 induction js with
 |nil=>cases h
 |cons x r ih=>
  by_cases e:x=z
  ·subst e;exact⟨0,rfl,fun j hj=>absurd hj (Nat.not_lt_zero _)⟩
  ·obtain⟨k,h1,h2⟩:=ih ((Jq.mp h).resolve_left (Lc e))
   refine⟨k+1,by simpa using h1,fun j hj=>?_⟩
   cases j with
   |zero=>simpa using e
   |succ j=>simpa using h2 j (by omega)
def Dk{xp xl:aC}(DG:jM 6 xp)(Ft:gQ 6 xl):jN (AN 7 (e8 xp xl)):=by
 intro S js hs ds nm Q E hg hh hn k0 k1
 unfold e8
 refine fG ?_
 rw[show aB 7 [Bj js ds,.ref nm]=[some (.tup [rG js,.tup (ds.map e_)]),some (.ref nm),none,none,none,none,none] from rfl]
 refine al fun N hN=>?_
 simp only[bY,b6,ah,v3,lk,c3,ae,hU]
 refine bK (fun done σ S'=>∃(x2 x3 x4 x5 x6:Option PV),σ=[some (.tup [rG js,.tup (ds.map e_)]),some (.ref nm),x2,x3,x4,x5,x6]/\Ext S S'/\done.length<=ds.length/\∀p∈ds.take done.length,∀z∈p.2.AK (mq hs),z∈hs) ⟨_,_,_,_,_,rfl,.refl,JM _,by simp⟩ (fun _ _ _ _=>trivial) ?_ ?_
 ·rintro done x rest σ S1 K e ⟨x2,x3,x4,x5,x6,rfl,X1,hl,hd⟩ hK
  obtain⟨y,rfl,hy⟩:=d0 e
  rw[Jx]at hy
  cases hs':ds[done.length]? with
  |none=>rw[hs']at hy;cases hy
  |some p=>
  rw[hs']at hy
  cases hy
  obtain⟨dn,t⟩:=p
  have hlt:done.length < ds.length:=(JJ.mp hs').1
  have hm:(dn,t)∈ds:=JI hs'
  have hn1:=X1 _ _ hn
  simp only[Tg.put,Tg.AK,List.set_cons_succ,List.set_cons_zero]
  simp only[ip,am,ah,v3,lk,c3,ae,e_,hU,List.cons_append,List.nil_append]
  refine DG (hg.dp _ hm) (by have:t.size<=60:=hg.sz _ hm;omega) (hg.gd _ hm) hg.jw hh hn1 fun pl S2 hpl X2 h2=>?_
  simp only[h2]
  have hn2:=X2 _ _ hn1
  refine bK (fun BL σ S'=>∃(x4 x5 x6:Option PV),σ=[some (.tup [rG js,.tup (ds.map e_)]),some (.ref nm),some (.int (done.length:Int)),some (.tup [.str dn,t.pv]),x4,x5,x6]/\S'=S2/\∀z m,(Bd.put z m,true)∈(t.pr (mq hs) true).take BL.length->z∈hs) ⟨_,_,_,rfl,rfl,by simp⟩ (fun _ _ _ ⟨_,_,_,_,h,_⟩=>by rw[h];exact h2) ?_ ?_
  ·rintro BL x FU σ S3 K2 e2 ⟨y4,y5,y6,rfl,rfl,hd2⟩ G5
   obtain⟨y,rfl,hy⟩:=d0 e2
   rw[Jx]at hy
   cases hu:(t.pr (mq hs) true)[BL.length]? with
   |none=>rw[hu]at hy;cases hy
   |some u=>
   rw[hu]at hy
   cases hy
   obtain⟨u,f⟩:=u
   have hup:BL.length < t.size:=by rw[<-Bd.BD (mq hs) t true];exact(JJ.mp hu).1
   have FV:(u,f)∈t.pr (mq hs) true:=JI hu
   have cont:(f=true->∀z m,u=Bd.put z m->z∈hs)->∀(S':aq) (x6:Option PV),S'=S3->K2 [some (.tup [rG js,.tup (ds.map e_)]),some (.ref nm),some (.int (done.length:Int)),some (.tup [.str dn,t.pv]),some (.int (BL.length:Int)),some (eB (u,f)),x6] S':=fun hc S' x6 eS=>G5 _ _ ⟨_,_,_,rfl,eS,fun z m hz=>by
    rw[Jj,Jy,La,hu,Ju]at hz
    rcases hz with hz|hz
    ·exact hd2 z m hz
    ·have:(Bd.put z m,true)=(u,f):=by simpa using hz
     cases this
     exact hc rfl z m rfl⟩
   simp only[Tg.put,Tg.AK,List.set_cons_succ,List.set_cons_zero]
   refine al fun N3 Em=>?_
   simp only[au,ah,v3,lk,c3,ae,eB,d4,List.set_cons_succ,List.set_cons_zero]
   refine Em _ _ ?_
   simp only[bo,j1,aS,ah,v3,lk,c3,ae,hU]
   cases f with
   |false=>
    rw[if_neg (by decide),if_neg (by decide)]
    exact cont (fun h=>by cases h) _ _ rfl
   |true=>
   rw[if_pos rfl,Bd.Ce]
   simp only[d4,hU,bc,Jt,Jz]
   by_cases Dl:u.hd=("put":Str)
   ·obtain⟨z,m,rfl⟩:=(Bd.Eo u).mp Dl
    rw[if_pos Dl]
    have hz:z∈t.AK (mq hs):=(Bd.A5 (mq hs) t).mpr ⟨m,FV⟩
    have Fu:z∈js:=t.A0 (hg.gd _ hm) hz
    simp only[Bd.tl,hU]
    refine dA hn2 (hg.jw z Fu) hh ?_
    by_cases hin:z∈hs
    ·simp only[hin,J5,Kn,Lx,Jv,JR]
     exact cont (fun _ z' m' e=>by cases e;exact hin) _ _ rfl
    ·simp only[hin,Lk,Kn,KA,JW]
     obtain⟨kk,hk1,hk2⟩:=rH Fu
     simp only[aw,av,am,wt,ah,v3,lk,c3,ae,d4,hU,rG,i8,jC]
     refine⟨kk,hk1,hk2,?_⟩
     simp only[ac,am,ah,v3,lk,c3,ae,hU,av]
     refine Ft (hg.dp _ hm) (by have:t.size<=60:=hg.sz _ hm;omega) hup fun S4 X4=>?_
     exact k1 kk z _ _ S4 (X1.trans (X2.trans X4)) hk1 ⟨done.length,BL.length,dn,t,m,rfl,rfl,hs',hu⟩ hin
   ·rw[if_neg Dl,if_neg (by decide),<-Bd.Ce]
    exact cont (fun _ z m e=>absurd (by rw[e];rfl) Dl) _ _ rfl
  ·rintro σ S3 ⟨y4,y5,y6,rfl,rfl,hd2⟩
   have ln:(L3.aQ ((t.pr (mq hs) true).map eB)).length=(t.pr (mq hs) true).length:=by unfold L3.aQ;rw[Ls,Jk]
   rw[ln,Ln]at hd2
   refine hK _ _ ⟨_,_,_,_,_,rfl,X1.trans X2,by rw[Jj];exact hlt,fun p hp z hz=>?_⟩
   rw[Jj,Jy,La,hs',Ju]at hp
   rcases hp with hp|hp
   ·exact hd p hp z hz
   ·have:p=(dn,t):=by simpa using hp
    subst this
    obtain⟨m,hm'⟩:=(Bd.A5 (mq hs) t).mp hz
    exact hd2 z m hm'
 ·rintro σ S1 ⟨x2,x3,x4,x5,x6,rfl,X1,hl,hd⟩
  refine hN _ _ ?_
  have ln:(L3.aQ (ds.map e_)).length=ds.length:=by unfold L3.aQ;rw[Ls,Jk]
  rw[ln,Ln]at hd
  walk_at "x"
  refine k0 S1 X1 fun z hz=>?_
  obtain⟨p,hp,hz⟩:=K7.mp hz
  exact hd p hp z hz
def ma(js:Vs)(ds:List (Str×Bd))(hs:Vs)(v:PV)(z:Str):Prop:=∃(k:Nat) (d tr:PV),v = .tup [.int (k:Int),d,tr]/\js[k]?=some z/\DW ds hs d tr z
abbrev iO(w:aC):Prop:=∀{S:aq} {js:Vs} {ds:List (Str×Bd)} {Q:bM} {E:cQ},HG js ds->
  (∀p (vs:List PV) (hs:Vs) S',S p=none->Ext S S'->S' p=some (.lst vs)->vs.length=hs.length->(∀(j:Nat) v z,vs[j]?=some v->hs[j]?=some z->ma js ds (hs.take j) v z)->Fs ds hs->hs.Nodup->(∀z∈hs,z∈js)->(∀z∈Bg (mq hs) ds,z∈hs)->Q (.ref p) S')->w [Bj js ds] S Q E
def Cs{xn:aC}(Dk:jN xn):iO (AN 4 (iq xn)):=by
 intro S js ds Q E hg k
 unfold iq
 refine fG ?_
 rw[show aB 4 [Bj js ds]=[some (Bj js ds),none,none,none] from rfl]
 refine al fun N hN=>?_
 walk_at "x"
 intro pf hpf
 refine hN _ _ (al fun N hN=>?_)
 walk_at "x"
 intro pn FF
 have G6:pf≠pn:=fun e=>by rw[<-e,aa]at FF;cases FF
 have X0:Ext S (AH (AH S pf (.lst [])) pn (.lst [])):=(Ext.new hpf).trans (.new FF)
 have f0:(AH (AH S pf (.lst [])) pn (.lst [])) pf=some (.lst []):=by rw[ai G6,aa]
 have n0:(AH (AH S pf (.lst [])) pn (.lst [])) pn=some (.lst ([].map PV.str)):=aa
 have G7:S pn=none:=(Ext.new hpf).free FF
 generalize AH (AH S pf (.lst [])) pn (.lst [])=S0 at X0 f0 n0
 refine hN _ _ (al fun N hN=>?_)
 -- what holds FW the next step is known
 have I0:∀(v:PV) (S1:aq) (vs:List PV) (hs:Vs) (N':b3->aq->Prop),True:=fun _ _ _ _ _=>trivial
 have HN:∀(S1:aq) (vs:List PV) (hs:Vs) (R:PV->aq->Prop),Ext S S1->S1 pf=some (.lst vs)->S1 pn=some (.lst (hs.map PV.str))->vs.length=hs.length->(∀(j:Nat) v z,vs[j]?=some v->hs[j]?=some z->ma js ds (hs.take j) v z)->Fs ds hs->hs.Nodup->(∀z∈hs,z∈js)->
   (∀v S2,Ext S S2->S2 pf=some (.lst vs)->S2 pn=some (.lst (hs.map PV.str))->((v = .non/\∀z∈Bg (mq hs) ds,z∈hs)\/(∃z,ma js ds hs v z/\z ∉ hs/\z∈js))->R v S2)->xn [Bj js ds,.ref pn] S1 R cX:=by
  intro S1 vs hs R X1 f1 n1 h1 h2 h3 h4 h5 kk
  refine Dk hg (fun z hz=>hg.jw z (h5 z hz)) n1 (fun S2 X2 cl=>kk _ S2 (X1.trans X2) (X2 _ _ f1) (X2 _ _ n1) (.inl ⟨rfl,cl⟩)) fun kx z d tr S2 X2 a1 a2 a3=>?_
  exact kk _ S2 (X1.trans X2) (X2 _ _ f1) (X2 _ _ n1) (.inr ⟨z,⟨kx,d,tr,rfl,a1,a2⟩,a3,JI a1⟩)
 simp only[au,ac,am,v3,lk]
 refine HN S0 [] [] _ X0 f0 n0 rfl (fun j v z h=>by cases h) .nil MH (fun z h=>by cases h) fun v0 S1 X1 f1 n1 c1=>?_
 simp only[List.set_cons_succ,List.set_cons_zero]
 refine hN _ _ (al fun N hN=>?_)
 refine⟨fun m σ S'=>∃(v:PV) (vs:List PV) (hs:Vs),σ=[some (Bj js ds),some (.ref pf),some (.ref pn),some v]/\Ext S S'/\S' pf=some (.lst vs)/\S' pn=some (.lst (hs.map PV.str))/\vs.length=hs.length/\(∀(j:Nat) v z,vs[j]?=some v->hs[j]?=some z->ma js ds (hs.take j) v z)/\Fs ds hs/\hs.Nodup/\(∀z∈hs,z∈js)/\
   ((v = .non/\∀z∈Bg (mq hs) ds,z∈hs)\/(∃z,ma js ds hs v z/\z ∉ hs/\z∈js))/\js.length - hs.length=m,⟨_,v0,[],[],rfl,X1,f1,n1,rfl,(fun j v z h=>by cases h),.nil,MH,(fun z h=>by cases h),c1,rfl⟩,?_⟩
 rintro m σ S' ⟨v,vs,hs,rfl,X,f,nn,h1,h2,h3,h4,h5,c,rfl⟩
 rcases c with⟨rfl,cl⟩|⟨z,⟨kx,d,tr,rfl,hk,hx⟩,hnz,Fu⟩
 ·simp only[aS,ah,v3,lk,c3,qM,bne_self_eq_false,Jv,JR]
  refine hN _ _ ?_
  walk_at "x"
  exact k pf vs hs S' hpf X f h1 h2 h3 h4 h5 cl
 ·simp only[aS,ah,v3,lk,c3,qM,Bool.bne_false,JW]
  refine⟨fun σ' Eb=>∃(v:PV) (vs:List PV) (hs':Vs),σ'=[some (Bj js ds),some (.ref pf),some (.ref pn),some v]/\Ext S Eb/\Eb pf=some (.lst vs)/\Eb pn=some (.lst (hs'.map PV.str))/\vs.length=hs'.length/\(∀(j:Nat) v z,vs[j]?=some v->hs'[j]?=some z->ma js ds (hs'.take j) v z)/\Fs ds hs'/\hs'.Nodup/\(∀z∈hs',z∈js)/\
   ((v = .non/\∀z∈Bg (mq hs') ds,z∈hs')\/(∃z,ma js ds hs' v z/\z ∉ hs'/\z∈js))/\js.length - hs'.length < js.length - hs.length,?_,?_⟩
  ·rintro σ' Eb ⟨v,vs,hs',rfl,a1,a2,a3,a4,a5,a6,a7,a8,a9,IR⟩
   exact⟨_,IR,v,vs,hs',rfl,a1,a2,a3,a4,a5,a6,a7,a8,a9,rfl⟩
  ·have hn1:(hs++[z]).Nodup:=List.nodup_append.mpr ⟨h4,by simp,fun a ha b hb e=>hnz (by rw[<-Js.mp hb,<-e];exact ha)⟩
   have hj1:∀y∈hs++[z],y∈js:=fun y hy=>(Ju.mp hy).elim (h5 y) fun h=>by rw[Js.mp h];exact Fu
   have len:=gR (hs++[z]) js hn1 hj1
   have hz:=hx.AK
   have hjl:=hg.jl
   rw[Jj,Jy]at len
   refine al fun N2 BK=>?_
   walk_at "x"
   simp only[f,KW]
   refine⟨JC (show _ < 1001 by omega) (by decide),BK _ _ (al fun N2 BK=>?_)⟩
   have IS:pn≠pf:=Lc G6
   have Xa:Ext S (AH S' pf (.lst (vs++[.tup [.int (kx:Int),d,tr]]))):=X.put hpf
   have fa:(AH S' pf (.lst (vs++[.tup [.int (kx:Int),d,tr]]))) pf=some (.lst (vs++[.tup [.int (kx:Int),d,tr]])):=aa
   have na:(AH S' pf (.lst (vs++[.tup [.int (kx:Int),d,tr]]))) pn=some (.lst (hs.map PV.str)):=by rw[ai IS];exact nn
   generalize AH S' pf (.lst (vs++[.tup [.int (kx:Int),d,tr]]))=Sa at Xa fa na
   rw[show Bj js ds = .tup [rG js,.tup (ds.map e_)] from rfl]
   walk_at "x"
   simp only[na,KW,d4,rG]
   rw[cP (v:=PV.str z) (by rw[Jx,hk];rfl)]
   simp only[na]
   refine⟨JC (show _ < 1001 by rw[Jk];omega) (by decide),BK _ _ ?_⟩
   have Xb:Ext S (AH Sa pn (.lst (hs.map PV.str++[.str z]))):=Xa.put G7
   have fb:(AH Sa pn (.lst (hs.map PV.str++[.str z]))) pf=some (.lst (vs++[.tup [.int (kx:Int),d,tr]])):=by rw[ai G6];exact fa
   have nb:(AH Sa pn (.lst (hs.map PV.str++[.str z]))) pn=some (.lst ((hs++[z]).map PV.str)):=by rw[aa,JP];rfl
   generalize AH Sa pn (.lst (hs.map PV.str++[.str z]))=Sb at Xb fb nb
   have st1:∀(j:Nat) v y,(vs++[.tup [.int (kx:Int),d,tr]])[j]?=some v->(hs++[z])[j]?=some y->ma js ds ((hs++[z]).take j) v y:=fun j v y hv hy=>by
    by_cases hj:j < vs.length
    ·rw[JZ hj]at hv
     rw[JZ (by omega)]at hy
     rw[List.take_append_of_le_length (by omega)]
     exact h2 j v y hv hy
    ·rw[J8 (by omega)]at hv
     rw[J8 (by omega)]at hy
     have e1:j - vs.length=0:=by
      have:=(JJ.mp hv).1
      rw[Jy]at this
      omega
     have e2:j - hs.length=0:=by omega
     rw[e1]at hv
     rw[e2]at hy
     cases hv;cases hy
     refine⟨kx,d,tr,rfl,hk,?_⟩
     rw[List.take_append_of_le_length (by omega),Lr (by omega)]
     exact hx
   simp only[au,ac,am,v3,lk]
   refine HN Sb _ (hs++[z]) _ Xb fb nb (by simp[h1]) st1 (.snoc h3 hz) hn1 hj1 fun v2 S2 X2 f2 n2 c2=>?_
   simp only[List.set_cons_succ,List.set_cons_zero]
   exact⟨v2,_,hs++[z],rfl,X2,f2,n2,by simp[h1],st1,.snoc h3 hz,hn1,hj1,c2,by rw[Jj,Jy];omega⟩
def Ep(js:Vs)(ds:List (Str×Bd))(hs:Vs):Prop:=Fs ds hs/\hs.Nodup/\(∀z∈hs,z∈js)/\∀z∈Bg (mq hs) ds,z∈hs
abbrev eC(w:aC):Prop:=∀{S:aq} {js:Vs} {ds:List (Str×Bd)} {Q:bM} {E:cQ},HG js ds->
  (∀p (hs:Vs) S',S p=none->Ext S S'->S' p=some (.lst (hs.map PV.str))->Ep js ds hs->Q (.ref p) S')->w [Bj js ds] S Q E
def md{xf:aC}(Cs:iO xf):eC (AN 1 (f8 xf)):=by
 intro S js ds Q E hg k
 unfold f8
 refine fG ?_
 rw[show aB 1 [Bj js ds]=[some (Bj js ds)] from rfl]
 simp only[aw,aE,aD,ac,am,v3,lk]
 refine Cs hg fun p vs hs S1 hp X1 h1 hl hst f1 f2 f3 f4=>?_
 have hjl:=hg.jl
 have hle:=gR hs js f2 f3
 simp only[bv,h1]
 have ev:vs=(vs.zip hs).map Prod.fst:=by rw[List.map_fst_zip];omega
 have eh:(vs.zip hs).map (fun z=>PV.str z.2)=hs.map PV.str:=by
  have:(vs.zip hs).map Prod.snd=hs:=by rw[List.map_snd_zip];omega
  calc _=((vs.zip hs).map Prod.snd).map PV.str:=by rw[K5];rfl
   _=_:=by rw[this]
 have key:b_ (.n 0) bq (ah ae (ah ae (v3 1) (c3 (.int 0))) (ah ae (v3 0) (c3 (.int 0)))) (cR 1 [0] [some (Bj js ds)]) (fun S'=>S' p=some (.lst vs)) (fun ys S2=>∀p,S2 p=none->Q (.ref p) (AH S2 p (.lst ys))) ((vs.zip hs).map Prod.fst) [] S1:=by
  refine cn Prod.fst (fun z=>PV.str z.2) h1 (vs.zip hs) [] (fun z hz=>?_) (by rw[J7,K6,List.length_zip];exact bx (by omega)) fun q hq=>?_
  ·obtain⟨j,hj⟩:=List.getElem?_of_mem hz
   obtain⟨e1,e2⟩:=LN.mp hj
   obtain⟨kx,d,tr,ez,hk,_⟩:=hst j _ _ e1 e2
   refine⟨_,rfl,fun Q' q'=>?_⟩
   rw[ez,show Bj js ds = .tup [rG js,.tup (ds.map e_)] from rfl]
   walk_at "x"
   simp only[d4,rG]
   rw[cP (v:=PV.str z.2) (by rw[Jx,hk];rfl)]
   exact q'
  ·rw[J6,eh]
   exact k q hs _ (X1.free hq) (X1.trans (.new hq)) aa ⟨f1,f2,f3,f4⟩
 rw[<-ev]at key
 exact key
def Cf(p:Addr)(S S':aq):Prop:=∀a o,S a=some o->a≠p->S' a=some o
def Cf.refl{p:Addr}{S:aq}:Cf p S S:=fun _ _ h _=>h
def Cf.trans{p:Addr}{S S1 S2:aq}(a:Cf p S S1)(b:Cf p S1 S2):Cf p S S2:=fun x o h n=>b x o (a x o h n) n
def Cf.upd{p:Addr}{S:aq}{o:SO}:Cf p S (AH S p o):=fun x u h n=>by rw[ai n];exact h
theorem Bd.AV(q:Qs):∀t:Bd,(t.AK q).length<=t.size
 | .rest=>JM _
 | .pay _ _=>JM _
 | .put _ _=>Jm _
 | .use _=>JM _
 | .Bb a=>Jw (a.AV q) (Nat.le_succ _)
 | .AL a b=>by show(a.AK q++b.AK q).length<=a.size+b.size+1;rw[Jj];have:=a.AV q;have:=b.AV q;omega
 | .Bs a b=>by show(a.AK q++b.AK q).length<=a.size+b.size+1;rw[Jj];have:=a.AV q;have:=b.AV q;omega
 | .Bl z m a b=>by
  show((if q z=true then a.AK q else [])++b.AK q).length<=a.size+b.size+1
  rw[Jj]
  have:=a.AV q;have:=b.AV q
  split
  ·omega
  ·simp;omega
abbrev fA(n:Nat)(w:aC):Prop:=∀{S:aq} {t:Bd} {js us hs fs:Vs} {hl fd:Addr} {Q:bM} {E:cQ},t.dep<=n->t.good js us->jL js->jL hs->S hl=some (.lst (hs.map PV.str))->S fd=some (.lst (fs.map PV.str))->hl≠fd->fs.length+t.size<=1000000->
  (∀S',Cf fd S S'->S' fd=some (.lst ((fs++t.AK (mq hs)).map PV.str))->Q .non S')->w [t.pv,.ref hl,.ref fd] S Q E
def nj:∀z∈(["then","either","take"]:Vs),PyData.strOk z=true:=by decide +kernel
def rJ{s0:aC}(n:Nat)(ih:fA n s0):fA (n+1) (AN 3 (e7 s0)):=by
 intro S t js us hs fs hl fd Q E hd hg hj hh h1 h2 hne hsz k
 unfold e7
 refine fG ?_
 rw[Bd.Ce,show aB 3 [.tup (.str t.hd::t.tl),.ref hl,.ref fd]=[some (.tup (.str t.hd::t.tl)),some (.ref hl),some (.ref fd)] from rfl]
 refine al fun N hN=>?_
 have leaf:∀S1:aq,t.hd≠("often":Str)->t.hd ∉ (["then","either","take"]:Vs)->Q .non S1->N [some (.tup (.str t.hd::t.tl)),some (.ref hl),some (.ref fd)] S1:=fun S1 ho h3 q=>by
  refine hN _ _ (al fun N hN=>?_)
  simp only[bo,aS,ah,v3,lk,c3,ae,d4,bc,Jt,Jz]
  rw[if_neg ho]
  refine hN _ _ ?_
  simp only[bo,aS,ah,v3,lk,c3,ae,d4,av,am]
  rw[lu]
  refine bG t.C3 nj ?_
  simp only[h3,Lk,Jt,Jv,JR]
  exact q
 simp only[bo,aS,ah,v3,lk,c3,ae,d4,bc,Jt,Jz]
 by_cases Dl:t.hd=("put":Str)
 ·rw[if_pos Dl]
  obtain⟨z,m,rfl⟩:=(Bd.Eo t).mp Dl
  simp only[aG,cH,j3,am,ah,v3,lk,c3,ae,hU,Bd.tl,bj,h2,KW]
  have hs1:(Bd.put z m).size=1:=rfl
  refine⟨JC (show _ < 1000001 by rw[Jk];omega) (by decide),leaf _ (by simp[Bd.hd,aF]) (by simp[Bd.hd,aF]) (k _ .upd ?_)⟩
  rw[aa,JP]
  rfl
 rw[if_neg Dl]
 by_cases Er:t.hd=("often":Str)
 ·obtain⟨a,rfl⟩:=(Bd.Fp t).mp Er
  refine hN _ _ (al fun N hN=>?_)
  simp only[bo,aS,ah,v3,lk,c3,ae,d4,bc,Jt,Jz]
  rw[if_pos Er]
  simp only[aG,ac,am,ah,v3,lk,c3,ae,hU,Bd.tl]
  simp only[Bd.dep]at hd
  have hs1:(Bd.Bb a).size=a.size+1:=rfl
  refine ih (by omega) hg hj hh h1 h2 hne (by omega) fun S1 X1 f1=>?_
  refine hN _ _ ?_
  simp only[bo,aS,ah,v3,lk,c3,ae,d4,av,am]
  rw[lu]
  refine bG (Bd.Bb a).C3 nj ?_
  simp only[Bd.hd,aF,String.reduceEq,Jq,JF,Kq,or_self,Lk,Jt,Jv,JR]
  exact k S1 X1 f1
 by_cases h3:t.hd∈(["then","either","take"]:Vs)
 ·refine hN _ _ (al fun N hN=>?_)
  simp only[bo,aS,ah,v3,lk,c3,ae,d4,bc,Jt,Jz]
  rw[if_neg Er]
  refine hN _ _ ?_
  simp only[bo,aS,ah,v3,lk,c3,ae,d4,av,am]
  rw[lu]
  refine bG t.C3 nj ?_
  simp only[h3,J5,Jt,JW]
  refine al fun N2 BK=>?_
  -- the second side
  have snd:∀(hd2:List PV) (a b:Bd) (S1:aq) (Gf:Vs),(.str t.hd::t.tl)=hd2++[a.pv,b.pv]->b.dep<=n->b.good js us->Cf fd S S1->S1 fd=some (.lst (Gf.map PV.str))->Gf.length+b.size<=1000000->Gf++b.AK (mq hs)=fs++t.AK (mq hs)->N2 [some (.tup (.str t.hd::t.tl)),some (.ref hl),some (.ref fd)] S1:=fun hd2 a b S1 Gf e1 g1 g2 X1 f1 l1 e2=>by
   refine BK _ _ ?_
   simp only[aG,ac,am,ah,v3,lk,c3,ae,dG,bn]
   have e3:Be (.str t.hd::t.tl) (-1)=some b.pv:=by rw[e1];have:=cx (a:=a.pv) (b:=b.pv) (hd:=hd2) (i:=1) (.inr rfl);simpa using this
   rw[e3]
   refine ih g1 g2 hj hh (X1 _ _ h1 hne) f1 hne l1 fun S2 X2 f2=>?_
   rw[e2]at f2
   exact k S2 (X1.trans X2) f2
  have fst:∀(hd2:List PV) (a b:Bd) (Q':bM),(.str t.hd::t.tl)=hd2++[a.pv,b.pv]->a.dep<=n->a.good js us->fs.length+a.size<=1000000->(∀S1,Cf fd S S1->S1 fd=some (.lst ((fs++a.AK (mq hs)).map PV.str))->Q' .non S1)->ac s0 [ah ae (v3 0) (dG bn (c3 (.int 2))),v3 1,v3 2] [some (.tup (.str t.hd::t.tl)),some (.ref hl),some (.ref fd)] S Q' cX:=fun hd2 a b Q' e1 g1 g2 l1 kk=>by
   simp only[ac,am,ah,v3,lk,c3,ae,dG,bn]
   have e3:Be (.str t.hd::t.tl) (-2)=some a.pv:=by rw[e1];have:=cx (a:=a.pv) (b:=b.pv) (hd:=hd2) (i:=0) (.inl rfl);simpa using this
   rw[e3]
   exact ih g1 g2 hj hh h1 h2 hne l1 kk
  simp only[bo,jk,aS,ah,v3,lk,c3,ae,d4,bc,Kn,Bool.not_eq_true',decide_eq_false_iff_not,aG]
  have la:∀c:Bd,(c.AK (mq hs)).length<=c.size:=Bd.AV (mq hs)
  cases t with
  |AL a b=>
   have hs1:(Bd.AL a b).size=a.size+b.size+1:=rfl
   simp only[Bd.dep]at hd
   rw[if_pos (by simp[Bd.hd,aF]),if_pos trivial]
   refine fst [.str "then"] a b _ rfl (by omega) hg.1 (by omega) fun S1 X1 f1=>?_
   exact snd [.str "then"] a b S1 _ rfl (by omega) hg.2 X1 f1 (by rw[Jj];have:=la a;omega) (by rw[Me];rfl)
  |Bs a b=>
   have hs1:(Bd.Bs a b).size=a.size+b.size+1:=rfl
   simp only[Bd.dep]at hd
   rw[if_pos (by simp[Bd.hd,aF]),if_pos trivial]
   refine fst [.str "either"] a b _ rfl (by omega) hg.1 (by omega) fun S1 X1 f1=>?_
   exact snd [.str "either"] a b S1 _ rfl (by omega) hg.2 X1 f1 (by rw[Jj];have:=la a;omega) (by rw[Me];rfl)
  |Bl z m a b=>
   have hs1:(Bd.Bl z m a b).size=a.size+b.size+1:=rfl
   have ep:(Bd.Bl z m a b).AK (mq hs)=(if mq hs z=true then a.AK (mq hs) else [])++b.AK (mq hs):=rfl
   simp only[Bd.dep]at hd
   rw[if_neg (by simp[Bd.hd])]
   simp only[Bd.tl,hU]
   refine dA h1 (hj z hg.1) hh ?_
   by_cases hin:z∈hs
   ·simp only[hin,J5,Jt,JW]
    rw[show mq hs z=true from JV hin,if_pos rfl]at ep
    refine fst [.str "take",.str z,.int m] a b _ rfl (by omega) hg.2.2.2.1 (by omega) fun S1 X1 f1=>?_
    exact snd [.str "take",.str z,.int m] a b S1 _ rfl (by omega) hg.2.2.2.2 X1 f1 (by rw[Jj];have:=la a;omega) (by rw[ep,Me])
   ·simp only[hin,Lk,Jt,Jv,JR]
    rw[show mq hs z=false from JK hin,if_neg (by decide),J6]at ep
    exact snd [.str "take",.str z,.int m] a b S fs rfl (by omega) hg.2.2.2.2 .refl h2 (by omega) (by rw[ep])
  |_=>simp[Bd.hd,aF]at h3
 ·refine leaf S Er h3 (k S .refl ?_)
  have e:t.AK (mq hs)=[]:=by cases t<;>first|rfl|exact absurd rfl Dl|exact absurd rfl Er|simp[Bd.hd]at h3
  rw[e,JN]
  exact h2
theorem kK{js:Vs}{ds:List (Str×Bd)}(hg:HG js ds)(q:Qs):∀n,n<=ds.length->(Bg q (ds.take n)).length<=60 * n
 |0,_=>by simp[Bg]
 |n+1,h=>by
  have ih:=kK hg q n (by omega)
  have hlt:n < ds.length:=by omega
  unfold Bg at *
  rw[La,JE hlt,JY,Jj]
  have h1:=Bd.AV q ds[n].2
  have h2:ds[n].2.size<=60:=hg.sz _ (LL hlt)
  simp only[Option.toList_some,Mj,List.flatMap_nil,JN]
  omega
theorem og{js:Vs}{ds:List (Str×Bd)}(hg:HG js ds):∀k,∀z∈held ds k,z∈js
 |0,z,h=>by cases h
 |k+1,z,h=>by
  obtain⟨p,hp,hz⟩:=K7.mp h
  exact p.2.A0 (hg.gd p hp) hz
abbrev iw(w:aC):Prop:=∀{S:aq} {js:Vs} {ds:List (Str×Bd)} {Q:bM} {E:cQ},HG js ds->(∀p S',S p=none->Ext S S'->S' p=some (.lst ((held ds js.length).map PV.str))->Q (.ref p) S')->w [Bj js ds] S Q E
def C5{xp:aC}(ER:fA 6 xp):iw (AN 6 (cI xp)):=by
 intro S js ds Q E hg k
 unfold cI
 refine fG ?_
 rw[show aB 6 [Bj js ds]=[some (.tup [rG js,.tup (ds.map e_)]),none,none,none,none,none] from rfl]
 have hdl:=hg.dl
 refine al fun N hN=>?_
 walk_at "x"
 intro p0 hp0
 have X0:Ext S (AH S p0 (.lst [])):=.new hp0
 have f0:(AH S p0 (.lst [])) p0=some (.lst ((held ds 0).map PV.str)):=aa
 generalize AH S p0 (.lst [])=S0 at X0 f0
 refine hN _ _ (al fun N hN=>?_)
 simp only[bY,aD,ah,v3,lk,c3,ae,d4,rG,bv]
 refine bK (fun done σ S'=>∃(p:Addr) (x2 x3 x4 x5:Option PV),σ=[some (.tup [.tup (js.map PV.str),.tup (ds.map e_)]),some (.ref p),x2,x3,x4,x5]/\S p=none/\Ext S S'/\S' p=some (.lst ((held ds done.length).map PV.str))) ⟨p0,_,_,_,_,rfl,hp0,X0,f0⟩ (fun _ _ _ _=>trivial) ?_ ?_
 ·rintro done x rest σ S1 K e ⟨p,x2,x3,x4,x5,rfl,hp,X1,f1⟩ hK
  simp only[Tg.put,List.set_cons_succ,List.set_cons_zero]
  refine al fun N2 BK=>?_
  walk_at "x"
  intro pf hpf
  have G8:p≠pf:=fun h=>by rw[h,hpf]at f1;cases f1
  have Es:S pf=none:=X1.free hpf
  have X2:Ext S (AH S1 pf (.lst [])):=X1.trans (.new hpf)
  have f2:(AH S1 pf (.lst [])) p=some (.lst ((held ds done.length).map PV.str)):=by rw[ai G8];exact f1
  have g2:(AH S1 pf (.lst [])) pf=some (.lst (([]:Vs).map PV.str)):=aa
  generalize AH S1 pf (.lst [])=S2 at X2 f2 g2
  refine BK _ _ (al fun N2 BK=>?_)
  simp only[bY,aD,ah,v3,lk,c3,ae,hU,bv]
  have hJ:jL (held ds done.length):=fun z hz=>hg.jw z (og hg _ z hz)
  refine bK (fun BL σ S'=>∃(x4 x5:Option PV),σ=[some (.tup [.tup (js.map PV.str),.tup (ds.map e_)]),some (.ref p),some x,some (.ref pf),x4,x5]/\BL.length<=ds.length/\Cf pf S2 S'/\S' pf=some (.lst ((Bg (mq (held ds done.length)) (ds.take BL.length)).map PV.str))) ⟨_,_,rfl,JM _,.refl,by simpa [Bg]using g2⟩ (fun _ _ _ _=>trivial) ?_ ?_
  ·rintro BL y FU σ S3 K2 e2 ⟨x4,x5,rfl,hl2,X3,f3⟩ G5
   have hy:(ds.map e_)[BL.length]?=some y:=by rw[e2];simp
   rw[Jx]at hy
   cases hd:ds[BL.length]? with
   |none=>rw[hd]at hy;cases hy
   |some q=>
   rw[hd]at hy
   cases hy
   obtain⟨dn,t⟩:=q
   have hlt:BL.length < ds.length:=(JJ.mp hd).1
   have hm:(dn,t)∈ds:=JI hd
   simp only[e_,Tg.put,Tg.AK,List.set_cons_succ,List.set_cons_zero]
   simp only[aG,ac,am,v3,lk]
   have lb:=kK hg (mq (held ds done.length)) BL.length hl2
   refine ER (hg.dp _ hm) (hg.gd _ hm) hg.jw hJ (X3 _ _ f2 G8) f3 G8 (by have:t.size<=60:=hg.sz _ hm;omega) fun S4 X4 f4=>?_
   refine G5 _ _ ⟨_,_,rfl,by rw[Jj];exact hlt,X3.trans X4,?_⟩
   rw[f4,Jj,Jy]
   congr 3
   unfold Bg
   rw[La,hd,JY]
   simp
  ·rintro σ S3 ⟨x4,x5,rfl,hl2,X3,f3⟩
   rw[Jk,Ln]at f3
   refine BK _ _ ?_
   walk_at "x"
   refine hK _ _ ⟨pf,_,_,_,_,rfl,Es,fun a o h=>X3 a o (X2 a o h) (fun e=>by rw[e,Es]at h;cases h),?_⟩
   rw[f3,Jj,Jy]
   rfl
 ·rintro σ S1 ⟨p,x2,x3,x4,x5,rfl,hp,X1,f1⟩
  refine hN _ _ ?_
  walk_at "x"
  rw[Jk]at f1
  exact k p S1 hp X1 f1
noncomputable def Bd.ps(q:Qs):Bd->List PV
 | .rest=>[.tup []]
 | .pay _ _=>[.tup []]
 | .put _ _=>[.tup []]
 | .use _=>[.tup []]
 | .Bb _=>[.tup []]
 | .AL a b=>(a.ps q).flatMap fun x=>(b.ps q).map fun y=>.tup [x,y]
 | .Bs a b=>(a.ps q).map (fun x=>.tup [.int 0,x])++(b.ps q).map fun x=>.tup [.int 1,x]
 | .Bl z _ a b=>(if q z then (a.ps q).map (fun x=>.tup [.int 0,x]) else [])++(b.ps q).map fun x=>.tup [.int 1,x]
def me{α β:Type}(xs:List α)(ys:List β)(f:α->β->PV):(xs.flatMap fun x=>ys.map (f x)).length=xs.length * ys.length:=by
 induction xs with
 |nil=>simp
 |cons x r ih=>rw[Mj,Jj,ih,Jk,JB,Nat.succ_mul];omega
theorem Bd.AT(q:Qs):∀t:Bd,(t.ps q).length<=t.AG
 | .rest=>Jm _
 | .pay _ _=>Jm _
 | .put _ _=>Jm _
 | .use _=>Jm _
 | .Bb _=>Jm _
 | .AL a b=>by show((a.ps q).flatMap fun x=>(b.ps q).map fun y=>_).length<=a.AG * b.AG;rw[me];exact MJ (a.AT q) (b.AT q)
 | .Bs a b=>by
  show((a.ps q).map _++(b.ps q).map _).length<=a.AG+b.AG
  rw[Jj,Jk,Jk];exact Nat.add_le_add (a.AT q) (b.AT q)
 | .Bl z _ a b=>by
  show((if q z=true then (a.ps q).map _ else [])++(b.ps q).map _).length<=a.AG+b.AG
  rw[Jj,Jk]
  have:=a.AT q;have:=b.AT q
  split
  ·rw[Jk];omega
  ·simp;omega
theorem Bd.CJ:∀t:Bd,1<=t.AG
 | .rest=>Jm _
 | .pay _ _=>Jm _
 | .put _ _=>Jm _
 | .use _=>Jm _
 | .Bb _=>Jm _
 | .AL a b=>Nat.mul_pos a.CJ b.CJ
 | .Bs a b=>Jw a.CJ (KO _ _)
 | .Bl _ _ a b=>Jw a.CJ (KO _ _)
abbrev bR(n:Nat)(w:aC):Prop:=∀{S:aq} {t:Bd} {js us hs:Vs} {nm:Addr} {Q:bM} {E:cQ},t.dep<=n->t.AG<=1000->t.good js us->jL js->jL hs->S nm=some (.lst (hs.map PV.str))->
  (∀p S',S p=none->Ext S S'->S' p=some (.lst (t.ps (mq hs)))->Q (.ref p) S')->w [t.pv,.ref nm] S Q E
abbrev iz(n:Nat)(w:aC):Prop:=∀{S:aq} {a b:Bd} {js us hs:Vs} {nm:Addr} {Q:bM} {E:cQ},a.dep<=n->b.dep<=n->a.AG * b.AG<=1000->(Bd.AL a b).good js us->jL js->jL hs->S nm=some (.lst (hs.map PV.str))->
  (∀p S',S p=none->Ext S S'->S' p=some (.lst ((Bd.AL a b).ps (mq hs)))->Q (.ref p) S')->w [(Bd.AL a b).pv,.ref nm] S Q E
def rK{a b:Bd}(h:a.AG * b.AG<=1000):a.AG<=1000/\b.AG<=1000:=
 ⟨Jw (Nat.le_mul_of_pos_right _ b.CJ) h,Jw (Nat.le_mul_of_pos_left _ a.CJ) h⟩
def gS{S:aq}{p:Addr}{xs:List PV}{σ:b3}{i:Int}{fin:List PV->aq->Prop}(h:S p=some (.lst xs))(hl:xs.length<=1000)(f:fin (xs.map fun x=>.tup [.int i,x]) S) :
  b_ (.n 0) bq (av [c3 (.int i),v3 0]) (cR 1 [] σ) (fun S'=>S' p=some (.lst xs)) fin xs [] S:=by
 have:=cn (g:=.n 0) (te:=av [c3 (.int i),v3 0]) (σ':=cR 1 [] σ) (keep:=fun S'=>S' p=some (.lst xs)) (fin:=fin) (fun x:PV=>x) (fun x=>.tup [.int i,x]) h xs [] (fun x hx=>⟨_,rfl,fun Q q=>q⟩) (by rw[J7,K6];exact bx hl) f
 rw[MT]at this
 exact this
def kL{S S1:aq}{xs ys:List PV}{pa pb pf:Addr}{v0 v1 x4:Option PV}{N:b3->aq->Prop}{Q:bM}(hpf:S pf=none)(X1:Ext S S1)(fa:S1 pa=some (.lst xs))(fb:S1 pb=some (.lst ys))(ff:S1 pf=some (.lst []))(na:pa≠pf)(nb:pb≠pf)(hl:xs.length * ys.length<=1000)
  (k:∀(S2:aq) (x:Option PV),Ext S S2->S2 pf=some (.lst (xs.flatMap fun x=>ys.map fun y=>.tup [x,y]))->N [v0,v1,some (.ref pf),some (.ref pb),x] S2) :
  ll (.n 4) (aG (cH "list" aH (v3 2) [aE (aD (v3 3)) (.n 0) bq (av [v3 1,v3 0]) 1 [4]])) { nx:=N,rt:=Q,ex:=cX } (fun S'=>S' pa=some (.lst xs)) xs [v0,v1,some (.ref pf),some (.ref pb),x4] S1:=by
 refine bK (fun done σ S'=>∃(x:Option PV),σ=[v0,v1,some (.ref pf),some (.ref pb),x]/\Ext S S'/\Cf pf S1 S'/\S' pf=some (.lst (done.flatMap fun x=>ys.map fun y=>.tup [x,y]))) ⟨_,rfl,X1,.refl,ff⟩ (fun _ _ _ ⟨_,_,_,XB,_⟩=>XB _ _ fa na) ?_ ?_
 ·rintro done x rest σ S2 K e ⟨y4,rfl,X2,XB,f2⟩ hK
  have hb2:=XB _ _ fb nb
  simp only[Tg.put,List.set_cons_succ,List.set_cons_zero]
  simp only[aG,cH,j3,am,v3,lk,f2,KW,aE,aD,bv,hb2]
  have IU:ys.length<=1000:=by
   have h1:1<=xs.length:=by rw[e,Jj,JB];omega
   exact Jw (Nat.le_mul_of_pos_left _ h1) hl
  have key:=cn (g:=.n 0) (te:=av [v3 1,v3 0]) (σ':=cR 1 [4] [v0,v1,some (.ref pf),some (.ref pb),some x]) (keep:=fun S'=>S' pb=some (.lst ys)) (fin:=fun zs S3=>∀q,S3 q=none->aH (.ref pf) [.ref q] (AH S3 q (.lst zs)) fun _ S4=>K [v0,v1,some (.ref pf),some (.ref pb),some x] S4) (fun y:PV=>y) (fun y=>.tup [x,y]) hb2 ys [] (fun y hy=>⟨_,rfl,fun Q q=>q⟩) (by rw[J7,K6];exact bx IU) (by
   intro q hq
   rw[J6]
   have nq:pf≠q:=fun h=>by rw[h,hq]at f2;cases f2
   simp only[aH,ai nq,f2,aa]
   have hlen:(done.flatMap fun x=>ys.map fun y=>PV.tup [x,y]).length=done.length * ys.length:=me done ys fun x y=>.tup [x,y]
   have hle:done.length * ys.length+ys.length<=1000:=by
    have:(done.length+1) * ys.length<=xs.length * ys.length:=Nat.mul_le_mul_right _ (by rw[e,Jj,JB];omega)
    rw[Nat.succ_mul]at this
    omega
   refine⟨bx (by rw[hlen,Jk];exact hle),hK _ _ ⟨_,rfl,(X2.trans (.new hq)).put hpf,fun a o h n=>?_,?_⟩⟩
   ·have h2:=XB a o h n
    rw[ai n,ai (fun h'=>by rw[h',hq]at h2;cases h2)]
    exact h2
   ·rw[aa,JY];simp)
  rw[MT]at key
  exact key
 ·rintro σ S2 ⟨x,rfl,X2,XB,f2⟩
  exact k S2 x X2 f2
def rL{s0 s1:aC}(n:Nat)(ih:bR n s1):iz n (AN 5 (bI s0 s1)):=by
 intro S a b js us hs nm Q E ha hb hp hg hj hh hn k
 obtain⟨G9,G_⟩:=rK hp
 unfold bI
 refine fG ?_
 rw[show aB 5 [(Bd.AL a b).pv,.ref nm]=[some (.tup [.str "then",a.pv,b.pv]),some (.ref nm),none,none,none] from rfl]
 refine al fun N hN=>?_
 walk_at "x"
 intro pf hpf
 have X0:Ext S (AH S pf (.lst [])):=.new hpf
 have f0:(AH S pf (.lst [])) pf=some (.lst []):=aa
 generalize AH S pf (.lst [])=S0 at X0 f0
 refine hN _ _ (al fun N hN=>?_)
 walk_at "x"
 simp only[wW]
 refine ih hb G_ hg.2 hj hh (X0 _ _ hn) fun pb S1 DN X1 h1=>?_
 refine hN _ _ (al fun N hN=>?_)
 simp only[bY,aD,ac,am,ah,v3,lk,c3,ae,hU]
 refine ih ha G9 hg.1 hj hh (X1 _ _ (X0 _ _ hn)) fun pa S2 hpa X2 h2=>?_
 simp only[bv,h2]
 have nb:pb≠pf:=fun h=>by rw[h,f0]at DN;cases DN
 have na:pa≠pf:=fun h=>by rw[h,X1 _ _ f0]at hpa;cases hpa
 have Gg:(a.ps (mq hs)).length * (b.ps (mq hs)).length<=1000:=Jw (MJ (a.AT _) (b.AT _)) hp
 refine kL hpf (X0.trans (X1.trans X2)) h2 (X2 _ _ h1) (X2 _ _ (X1 _ _ f0)) na nb Gg fun S3 x X3 f3=>?_
 refine hN _ _ ?_
 walk_at "x"
 exact k pf S3 hpf X3 f3
def B4{s0 s1:aC}(n:Nat)(IV:iz n s0)(ih:bR n s1):bR (n+1) (AN 3 (dz s0 s1)):=by
 intro S t js us hs nm Q E hd hp hg hj hh hn k
 unfold dz
 refine fG ?_
 rw[Bd.Ce,show aB 3 [.tup (.str t.hd::t.tl),.ref nm]=[some (.tup (.str t.hd::t.tl)),some (.ref nm),none] from rfl]
 refine al fun N hN=>?_
 simp only[bo,aS,ah,v3,lk,c3,ae,d4,bc,Jt,Jz]
 by_cases h1:t.hd=("then":Str)
 ·rw[if_pos h1]
  obtain⟨a,b,rfl⟩:=(Bd.En t).mp h1
  simp only[Bd.dep]at hd
  simp only[aw,ac,am,v3,lk]
  rw[<-Bd.Ce]
  exact IV (by omega) (by omega) hp hg hj hh hn k
 rw[if_neg h1]
 refine hN _ _ (al fun N hN=>?_)
 walk_at "x"
 simp only[d4]
 rw[show([PV.str "either",PV.str "take"]:List PV)=(["either","take"]:Vs).map PV.str from rfl]
 refine bG t.C3 yv ?_
 by_cases h2:t.hd∈(["either","take"]:Vs)
 ·simp only[h2,J5,Kn,Lx,Jv,JR]
  refine hN _ _ (al fun N hN=>?_)
  have sides:∀(hd2:List PV) (a b:Bd),(.str t.hd::t.tl)=hd2++[a.pv,b.pv]->Be (.str t.hd::t.tl) (-1)=some b.pv/\Be (.str t.hd::t.tl) (-2)=some a.pv:=fun hd2 a b e1=>⟨by rw[e1];have:=cx (a:=a.pv) (b:=b.pv) (hd:=hd2) (i:=1) (.inr rfl);simpa using this,by rw[e1];have:=cx (a:=a.pv) (b:=b.pv) (hd:=hd2) (i:=0) (.inl rfl);simpa using this⟩
  have fin:∀(a b:Bd) (hd2:List PV),(.str t.hd::t.tl)=hd2++[a.pv,b.pv]->a.dep<=n->b.dep<=n->a.AG+b.AG<=1000->a.good js us->b.good js us->
    (∀(po:Addr) (S2:aq),S po=none->Ext S S2->S2 po=some (.lst ((b.ps (mq hs)).map fun x=>.tup [.int 1,x]))->N [some (.tup (.str t.hd::t.tl)),some (.ref nm),some (.ref po)] S2)->au 2 (aE (aD (ac s1 [ah ae (v3 0) (dG bn (c3 (.int 1))),v3 1])) (.n 0) bq (av [c3 (.int 1),v3 0]) 1 []) { nx:=N,rt:=Q,ex:=cX } [some (.tup (.str t.hd::t.tl)),some (.ref nm),none] S:=by
   intro a b hd2 e1 da db Fv ga gb kk
   simp only[au,aE,aD,ac,am,ah,v3,lk,c3,ae,dG,bn,(sides hd2 a b e1).1]
   refine ih db (by omega) gb hj hh hn fun pb S1 DN X1 f1=>?_
   simp only[bv,f1]
   refine gS f1 (Jw (b.AT _) (by omega)) fun po DX=>?_
   exact kk po _ (X1.free DX) (X1.trans (.new DX)) aa
  have both:∀(a b:Bd) (hd2:List PV) (po:Addr) (S2:aq),(.str t.hd::t.tl)=hd2++[a.pv,b.pv]->a.dep<=n->a.AG+b.AG<=1000->a.good js us->S po=none->Ext S S2->S2 po=some (.lst ((b.ps (mq hs)).map fun x=>.tup [.int 1,x]))->t.ps (mq hs)=(a.ps (mq hs)).map (fun x=>.tup [.int 0,x])++(b.ps (mq hs)).map (fun x=>.tup [.int 1,x])->
    aw (ah aW (aE (aD (ac s1 [ah ae (v3 0) (dG bn (c3 (.int 2))),v3 1])) (.n 0) bq (av [c3 (.int 0),v3 0]) 1 []) (v3 2)) { nx:=fun _ S'=>Q .non S',rt:=Q,ex:=cX } [some (.tup (.str t.hd::t.tl)),some (.ref nm),some (.ref po)] S2:=by
   intro a b hd2 po S2 e1 da Fv ga DX X2 f2 et
   simp only[aw,aE,aD,ac,am,ah,v3,lk,c3,ae,dG,bn,(sides hd2 a b e1).2]
   refine ih da (by omega) ga hj hh (X2 _ _ hn) fun pa S3 hpa X3 f3=>?_
   simp only[bv,f3]
   have la:=a.AT (mq hs)
   have lb:=b.AT (mq hs)
   refine gS f3 (by omega) fun pq hpq=>?_
   have f4:=X3 _ _ f2
   have nq:po≠pq:=fun h=>by rw[h,hpq]at f4;cases f4
   simp only[aW,aa,ai nq,f4]
   refine⟨bx (by rw[Jk,Jk];omega),fun pr FX=>?_⟩
   have Xq:Ext S (AH S3 pq (.lst ((a.ps (mq hs)).map fun x=>.tup [.int 0,x]))):=X2.trans (X3.trans (.new hpq))
   exact k pr _ (Xq.free FX) (Xq.trans (.new FX)) (by rw[aa,et])
  cases t with
  |Bs a b=>
   simp only[Bd.dep]at hd
   refine fin a b [.str "either"] rfl (by omega) (by omega) hp hg.1 hg.2 fun po S2 DX X2 f2=>hN _ _ (al fun N hN=>?_)
   simp only[Bd.hd]
   walk_at "y"
   refine hN _ _ ?_
   exact both a b [.str "either"] po S2 rfl (by omega) hp hg.1 DX X2 f2 rfl
  |Bl z m a b=>
   simp only[Bd.dep]at hd
   refine fin a b [.str "take",.str z,.int m] rfl (by omega) (by omega) hp hg.2.2.2.1 hg.2.2.2.2 fun po S2 DX X2 f2=>hN _ _ (al fun N hN=>?_)
   have ep:(Bd.Bl z m a b).ps (mq hs)=(if mq hs z=true then (a.ps (mq hs)).map (fun x=>.tup [.int 0,x]) else [])++(b.ps (mq hs)).map fun x=>.tup [.int 1,x]:=rfl
   simp only[bo,j1,aS,ah,v3,lk,c3,ae,d4,hU,Bd.hd,Bd.tl,bc,Jt,J5,JW]
   refine dA (X2 _ _ hn) (hj z hg.1) hh ?_
   by_cases hin:z∈hs
   ·simp only[hin,J5,Kn,Lx,Jv,JR]
    rw[show mq hs z=true from JV hin,if_pos rfl]at ep
    refine hN _ _ ?_
    exact both a b [.str "take",.str z,.int m] po S2 rfl (by omega) hp hg.2.2.2.1 DX X2 f2 ep
   ·simp only[hin,Lk,Kn,KA,JW]
    rw[show mq hs z=false from JK hin,if_neg (by decide),J6]at ep
    walk_at "x"
    exact k po S2 DX X2 (by rw[ep];exact f2)
  |_=>simp[Bd.hd,aF]at h2
 ·simp only[h2,Lk,Kn,KA,JW]
  walk_at "x"
  intro p hp'
  have e:t.ps (mq hs)=[.tup []]:=by cases t<;>first|rfl|exact absurd rfl h1|simp[Bd.hd]at h2
  exact k p _ hp' (.new hp') (by rw[aa,e])
def rM{s0:aC}(n:Nat)(ih:bR n s0):bR (n+1) (AN 5 (dM s0)):=by
 intro S t js us hs nm Q E hd hp hg hj hh hn k
 unfold dM
 refine fG ?_
 rw[Bd.Ce,show aB 5 [.tup (.str t.hd::t.tl),.ref nm]=[some (.tup (.str t.hd::t.tl)),some (.ref nm),none,none,none] from rfl]
 refine al fun N hN=>?_
 walk_at "x"
 intro pf hpf
 have X0:Ext S (AH S pf (.lst [])):=.new hpf
 have f0:(AH S pf (.lst [])) pf=some (.lst []):=aa
 generalize AH S pf (.lst [])=S0 at X0 f0
 have hn0:=X0 _ _ hn
 refine hN _ _ (al fun N hN=>?_)
 simp only[bo,aS,ah,v3,lk,c3,ae,d4,bc,Jt,Jz]
 by_cases h1:t.hd=("then":Str)
 ·rw[if_pos h1]
  obtain⟨a,b,rfl⟩:=(Bd.En t).mp h1
  simp only[Bd.dep]at hd
  obtain⟨G9,G_⟩:=rK hp
  refine al fun N hN=>?_
  simp only[Bd.hd,Bd.tl]
  walk_at "x"
  simp only[wW]
  refine ih (by omega) G_ hg.2 hj hh hn0 fun pb S1 DN X1 h1=>?_
  refine hN _ _ (al fun N hN=>?_)
  simp only[bY,aD,ac,am,ah,v3,lk,c3,ae,hU]
  refine ih (by omega) G9 hg.1 hj hh (X1 _ _ hn0) fun pa S2 hpa X2 h2=>?_
  simp only[bv,h2]
  have nb:pb≠pf:=fun h=>by rw[h,f0]at DN;cases DN
  have na:pa≠pf:=fun h=>by rw[h,X1 _ _ f0]at hpa;cases hpa
  have Gg:(a.ps (mq hs)).length * (b.ps (mq hs)).length<=1000:=Jw (MJ (a.AT _) (b.AT _)) hp
  refine kL hpf (X0.trans (X1.trans X2)) h2 (X2 _ _ h1) (X2 _ _ (X1 _ _ f0)) na nb Gg fun S3 x X3 f3=>?_
  refine hN _ _ ?_
  walk_at "x"
  exact k pf S3 hpf X3 f3
 rw[if_neg h1]
 simp only[aM]
 refine hN _ _ (al fun N hN=>?_)
 have sides:∀(hd2:List PV) (a b:Bd),(.str t.hd::t.tl)=hd2++[a.pv,b.pv]->Be (.str t.hd::t.tl) (-1)=some b.pv/\Be (.str t.hd::t.tl) (-2)=some a.pv:=fun hd2 a b e1=>⟨by rw[e1];have:=cx (a:=a.pv) (b:=b.pv) (hd:=hd2) (i:=1) (.inr rfl);simpa using this,by rw[e1];have:=cx (a:=a.pv) (b:=b.pv) (hd:=hd2) (i:=0) (.inl rfl);simpa using this⟩
 have last:∀(a b:Bd) (hd2 xs:List PV) (po:Addr) (S2:aq),(.str t.hd::t.tl)=hd2++[a.pv,b.pv]->b.dep<=n->a.AG+b.AG<=1000->b.good js us->Ext S S2->S2 po=some (.lst xs)->xs.length<=a.AG->t.ps (mq hs)=xs++(b.ps (mq hs)).map (fun x=>.tup [.int 1,x])->
   aw (ah aW (v3 2) (aE (aD (ac s0 [ah ae (v3 0) (dG bn (c3 (.int 1))),v3 1])) (.n 0) bq (av [c3 (.int 1),v3 0]) 1 [])) { nx:=N,rt:=Q,ex:=cX } [some (.tup (.str t.hd::t.tl)),some (.ref nm),some (.ref po),none,none] S2:=by
  intro a b hd2 xs po S2 e1 db Fv gb X2 f2 hx et
  simp only[aw,aE,aD,ac,am,ah,v3,lk,c3,ae,dG,bn,(sides hd2 a b e1).1]
  refine ih db (by omega) gb hj hh (X2 _ _ hn) fun pa S3 hpa X3 f3=>?_
  simp only[bv,f3]
  have lb:=b.AT (mq hs)
  refine gS f3 (by omega) fun pq hpq=>?_
  have f4:=X3 _ _ f2
  have nq:po≠pq:=fun h=>by rw[h,hpq]at f4;cases f4
  simp only[aW,aa,ai nq,f4]
  refine⟨bx (by rw[Jk];omega),fun pr FX=>?_⟩
  have Xq:Ext S (AH S3 pq (.lst ((b.ps (mq hs)).map fun x=>.tup [.int 1,x]))):=X2.trans (X3.trans (.new hpq))
  exact k pr _ (Xq.free FX) (Xq.trans (.new FX)) (by rw[aa,et])
 have mid:∀(a b:Bd) (hd2:List PV) (N':b3->aq->Prop),(.str t.hd::t.tl)=hd2++[a.pv,b.pv]->a.dep<=n->a.AG+b.AG<=1000->a.good js us->
   (∀(po:Addr) (S2:aq),Ext S S2->S2 po=some (.lst ((a.ps (mq hs)).map fun x=>.tup [.int 0,x]))->N' [some (.tup (.str t.hd::t.tl)),some (.ref nm),some (.ref po),none,none] S2)->
   au 2 (aE (aD (ac s0 [ah ae (v3 0) (dG bn (c3 (.int 2))),v3 1])) (.n 0) bq (av [c3 (.int 0),v3 0]) 1 []) { nx:=N',rt:=Q,ex:=cX } [some (.tup (.str t.hd::t.tl)),some (.ref nm),some (.ref pf),none,none] S0:=by
  intro a b hd2 N' e1 da Fv ga kk
  simp only[au,aE,aD,ac,am,ah,v3,lk,c3,ae,dG,bn,(sides hd2 a b e1).2]
  refine ih da (by omega) ga hj hh hn0 fun pb S1 DN X1 f1=>?_
  simp only[bv,f1]
  refine gS f1 (Jw (a.AT _) (by omega)) fun po DX=>?_
  exact kk po _ (X0.trans (X1.trans (.new DX))) aa
 by_cases h2:t.hd∈(["either","take"]:Vs)
 ·cases t with
  |Bs a b=>
   simp only[Bd.dep]at hd
   simp only[bo,jk,aS,ah,v3,lk,c3,ae,d4,bc,Jt,Bd.hd,J5,JW]
   refine al fun N2 BK=>?_
   refine mid a b [.str "either"] _ rfl (by omega) hp hg.1 fun po S2 X2 f2=>BK _ _ ?_
   exact last a b [.str "either"] _ po S2 rfl (by omega) hp hg.2 X2 f2 (by rw[Jk];exact a.AT _) rfl
  |Bl z m a b=>
   simp only[Bd.dep]at hd
   have ep:(Bd.Bl z m a b).ps (mq hs)=(if mq hs z=true then (a.ps (mq hs)).map (fun x=>.tup [.int 0,x]) else [])++(b.ps (mq hs)).map fun x=>.tup [.int 1,x]:=rfl
   have en:decide (("take":Str) = "either")=false:=by decide
   simp only[bo,jk,aS,ah,v3,lk,c3,ae,d4,bc,Jt,Bd.hd,Bd.tl,en,J5,JW,Jv,JR]
   refine al fun N2 BK=>?_
   simp only[bo,jk,aS,ah,v3,lk,c3,ae,d4,hU,bc,Jt,en,Jv,JR]
   refine dA hn0 (hj z hg.1) hh ?_
   by_cases hin:z∈hs
   ·simp only[hin,J5,Jt,JW]
    rw[show mq hs z=true from JV hin,if_pos rfl]at ep
    refine mid a b [.str "take",.str z,.int m] _ rfl (by omega) hp hg.2.2.2.1 fun po S2 X2 f2=>BK _ _ ?_
    exact last a b [.str "take",.str z,.int m] _ po S2 rfl (by omega) hp hg.2.2.2.2 X2 f2 (by rw[Jk];exact a.AT _) ep
   ·simp only[hin,Lk,Jt,Jv,JR]
    rw[show mq hs z=false from JK hin,if_neg (by decide)]at ep
    simp only[aM]
    refine BK _ _ ?_
    exact last a b [.str "take",.str z,.int m] [] pf S0 rfl (by omega) hp hg.2.2.2.2 X0 f0 (JM _) ep
  |_=>simp[Bd.hd,aF]at h2
 ·rw[Jq,not_or,Js]at h2
  simp only[bo,jk,aS,ah,v3,lk,c3,ae,d4,bc,Jt,Jz,h2.1,h2.2,JR,aM]
  refine hN _ _ ?_
  walk_at "x"
  intro p hp'
  have e:t.ps (mq hs)=[.tup []]:=by cases t<;>first|rfl|exact absurd rfl h1|exact absurd rfl h2.1|exact absurd rfl h2.2
  exact k p _ (X0.free hp') (X0.trans (.new hp')) (by rw[aa,e])
inductive Dv (S:aq):Nat->PV->PV->Prop
 |int {n:Nat} (i:Int):Dv S (n+1) (.int i) (.int i)
 |bl {n:Nat} (b:Bool):Dv S (n+1) (.bl b) (.bl b)
 |str {n:Nat} (z:Str):Dv S (n+1) (.str z) (.str z)
 |tup {n:Nat} {xs ys:List PV}:xs.length=ys.length->xs.length<=1000->(∀p∈xs.zip ys,Dv S n p.1 p.2)->Dv S (n+1) (.tup xs) (.tup ys)
 |lst {n:Nat} {a b:Addr} {xs ys:List PV}:S a=some (.lst xs)->S b=some (.lst ys)->xs.length=ys.length->xs.length<=1000->(∀p∈xs.zip ys,Dv S n p.1 p.2)->Dv S (n+1) (.ref a) (.ref b)
def Dv.mono{S S':aq}{n:Nat}{v w:PV}(h:Dv S n v w)(X:Ext S S'):Dv S' n v w:=by
 induction h with
 |int i=>exact .int i
 |bl b=>exact .bl b
 |str z=>exact .str z
 |tup e l _ ih=>exact .tup e l fun p hp=>ih p hp
 |lst h1 h2 e l _ ih=>exact .lst (X _ _ h1) (X _ _ h2) e l fun p hp=>ih p hp
abbrev cY(n:Nat)(f:aC):Prop:=∀{S:aq} {v w:PV} {Q:bM} {E:cQ},Dv S n v w->(∀S',Ext S S'->Q (.bl true) S')->f [v,w] S Q E
def kM(n:Nat):jt (List.replicate n (.bl true))=some (List.replicate n true):=by
 induction n with
 |zero=>rfl
 |succ n ih=>rw[Kd,Kd];show(jt (List.replicate n (.bl true))).map _=_;rw[ih];rfl
def pK{s0:aC}{n:Nat}(ih:cY n s0){S:aq}{xs ys:List PV}{σ:b3}{keep:aq->Prop}{Q:bM}(hk:∀S',Ext S S'->keep S')(hl:xs.length<=1000)(hx:∀p∈xs.zip ys,Dv S n p.1 p.2)(k:∀S',Ext S S'->Q (.bl true) S') :
  b_ (.tp (.cons (.n 0) (.cons (.n 1) .nil))) bq (ac s0 [v3 0,v3 1]) (cR 2 [] σ) keep (fun zs S2=>∀p,S2 p=none->m4 [.ref p] (AH S2 p (.lst zs)) Q) (bp xs ys) [] S:=by
 have hlz:(bp xs ys).length<=xs.length:=by simp[bp];omega
 refine dh (fun done zs S'=>Ext S S'/\done.length<=(bp xs ys).length/\zs=List.replicate done.length (.bl true)) ⟨.refl,JM _,rfl⟩ (fun done zs S' ⟨X,l,e⟩=>⟨hk S' X,bx (by rw[e,J4];omega)⟩) ?_ ?_
 ·rintro done x rest zs S' K e ⟨X,l,rfl⟩ hK
  have hm:x∈bp xs ys:=by rw[e];simp
  obtain⟨p,hp,rfl⟩:=JO.mp hm
  simp only[Tg.put,Tg.AK,cR,List.reduceReplicate,Kg,JN,List.set_cons_zero,List.set_cons_succ,bq,JW,ac,am,v3,lk]
  refine ih ((hx p hp).mono X) fun S2 X2=>hK _ _ ⟨X.trans X2,?_,?_⟩
  ·have:(bp xs ys).length=done.length+(rest.length+1):=by rw[e,Jj,JB]
   rw[Jj,Jy];omega
  ·rw[Jj,Jy,List.replicate_succ']
 ·rintro zs S' ⟨X,_,rfl⟩ p hp
  simp only[m4,aa,kM]
  rw[show(List.replicate (bp xs ys).length true).all id=true by simp]
  exact k _ (X.trans (.new hp))
def fB{x:PV}{S:aq}{Q:bM}{t c:String}(h:m5 S x=some t)(hc:cN c=true)(q:Q (.bl (fE t c)) S):jv [x,.ty c] S Q:=by
 show(match m5 S x with|some t=>cN c=true/\Q (.bl (fE t c)) S|none=>False)
 rw[h];exact⟨hc,q⟩
def rN{x:PV}{S:aq}{Q:bM}{t:String}(h:m5 S x=some t)(q:Q (.bl (fE t "list" || (fE t "tuple" || false))) S):jv [x,.tup [.ty "list",.ty "tuple"]] S Q:=by
 show(match m5 S x,v_ [.ty "list",.ty "tuple"]with|some t,some l=>Q (.bl (l.any (fE t))) S|_,_=>False)
 rw[h,show v_ [.ty "list",.ty "tuple"]=some ["list","tuple"] by decide +kernel];exact q
def f_{s0:aC}{S:aq}{v:PV}{t:String}{Q:bM}(h:m5 S v=some t)(hn:(fE t "list" || (fE t "tuple" || false))=false)(q:∀Q2:bM,Q2 (.bl true) S->bc false v v S Q2)(k:Q (.bl true) S) :
  bJ s0 { nx:=fun _ S'=>Q .non S',rt:=Q,ex:=cX } [some v,some v] S:=by
 unfold bJ
 refine al fun N hN=>?_
 simp only[bo,aS,ap,am,v3,lk,c3,av]
 refine rN h ?_
 rw[hn]
 simp only[Jv,JR,aM]
 refine hN _ _ ?_
 simp only[aw,bP,ah,ap,am,v3,lk,c3]
 refine fB h (by decide +kernel) (fB h (by decide +kernel) ?_)
 refine(show bc false (.bl (fE t "bool")) (.bl (fE t "bool")) S _ from ?_)
 rw[show ∀(b:Bool) (Q3:bM),bc false (.bl b) (.bl b) S Q3=Q3 (.bl (false != decide (b=b))) S from fun b Q3=>rfl]
 rw[Jt,JV rfl]
 dsimp only
 rw[if_pos rfl]
 exact q _ k
def kN{s0:aC}{n:Nat}(ih:cY n s0){S:aq}{v w:PV}{xs ys:List PV}{t:String}{Q:bM}(h1:m5 S v=some t)(h2:m5 S w=some t)(ht:t = "list" \/ t = "tuple")(l1:∀Q2:bM,Q2 (.int xs.length) S->b9 [v] S Q2)(l2:∀Q2:bM,Q2 (.int ys.length) S->b9 [w] S Q2)
  {keep:aq->Prop} (hz:∀R:yR->aq->Prop,R ⟨bp xs ys,keep⟩ S->n5 (v3 0) (v3 1) [some v,some w] S R cX) (hk:∀S',Ext S S'->keep S') (e:xs.length=ys.length) (l:xs.length<=1000) (hx:∀p∈xs.zip ys,Dv S n p.1 p.2) (k:∀S',Ext S S'->Q (.bl true) S') :
  bJ s0 { nx:=fun _ S'=>Q .non S',rt:=Q,ex:=cX } [some v,some w] S:=by
 unfold bJ
 refine al fun N hN=>?_
 simp only[bo,aS,ap,am,v3,lk,c3,av]
 refine rN h2 ?_
 rw[show(fE t "list" || (fE t "tuple" || false))=true by rcases ht with rfl|rfl<;>decide +kernel]
 simp only[JW]
 refine al fun N2 BK=>?_
 simp only[bo,jk,aS,ah,ap,am,v3,lk,c3]
 refine fB h1 (by decide +kernel) (fB h2 (by decide +kernel) ?_)
 simp only[bc,J5,Kn,Lx,Jv,JR]
 refine fB h1 (by decide +kernel) (fB h2 (by decide +kernel) ?_)
 simp only[bc,J5,Kn,Lx,Jv,JR,aM]
 refine BK _ _ ?_
 simp only[aw,bP,ah,ap,am,v3,lk]
 refine l1 _ (l2 _ ?_)
 simp only[e,bc,Jt,J5,JW,aE]
 refine hz _ ?_
 exact pK ih hk l hx k
def C6{s0:aC}(n:Nat)(ih:cY n s0):cY (n+1) (AN 2 (bJ s0)):=by
 intro S v w Q E h k
 refine fG ?_
 rw[show aB 2 [v,w]=[some v,some w] from rfl]
 cases h with
 |int i=>exact f_ (t:="int") rfl (by decide +kernel) (fun Q2 q=>by simp only[bc,J5];exact q) (k _ .refl)
 |bl b=>exact f_ (t:="bool") rfl (by decide +kernel) (fun Q2 q=>by simp only[bc,J5];exact q) (k _ .refl)
 |str z=>exact f_ (t:="str") rfl (by decide +kernel) (fun Q2 q=>by simp only[bc,J5];exact q) (k _ .refl)
 |@tup _ xs ys e l hx=>exact kN ih (t:="tuple") rfl rfl (.inr rfl) (fun Q2 q=>q) (fun Q2 q=>q) (fun R r=>r) (fun _ _=>trivial) e l hx k
 |@lst _ a b xs ys h1 h2 e l hx=>
  refine kN ih (t:="list") (keep:=fun S'=>S' a=some (.lst xs)/\S' b=some (.lst ys)) (by simp only[m5,h1]) (by simp only[m5,h2]) (.inl rfl) (fun Q2 q=>by simp only[b9,h1];exact q) (fun Q2 q=>by simp only[b9,h2];exact q) (fun R r=>?_) (fun S' X=>⟨X _ _ h1,X _ _ h2⟩) e l hx k
  simp only[n5,v3,lk,h1,h2]
  exact r
def mf{α:Type}{xs:List α}{p:α×α}(hp:p∈xs.zip xs):p.1∈xs/\p.2=p.1:=by
 induction xs with
 |nil=>cases hp
 |cons y r ih2=>
  rcases Jq.mp hp with rfl|h
  ·exact⟨Kv,rfl⟩
  ·exact⟨Kz _ (ih2 h).1,(ih2 h).2⟩
def Dv.same{S:aq}{L n:Nat}{v:PV}(h:EH L n v)(hL:L<=1000):Dv S (n+1) v v:=by
 induction h with
 |int i=>exact .int i
 |@tup n xs l _ ih=>
  refine .tup rfl (Jw l hL) fun p hp=>?_
  obtain⟨hm,e⟩:=mf hp
  rw[e]
  exact ih _ hm
def Dv.lists{S:aq}{L n:Nat}{a b:Addr}{xs:List PV}(h1:S a=some (.lst xs))(h2:S b=some (.lst xs))(hl:xs.length<=1000)(hL:L<=1000)(h:∀x∈xs,EH L n x):Dv S (n+2) (.ref a) (.ref b):=
 .lst h1 h2 rfl hl fun p hp=>by obtain⟨hm,e⟩:=mf hp;rw[e];exact .same (h _ hm) hL
theorem Bd.Ct(q:Qs):∀t:Bd,∀x∈t.ps q,EH 2 t.dep x
 | .rest,x,h=>by cases Js.mp h;exact .tup (JM _) (fun _ h=>by cases h)
 | .pay _ _,x,h=>by cases Js.mp h;exact .tup (JM _) (fun _ h=>by cases h)
 | .put _ _,x,h=>by cases Js.mp h;exact .tup (JM _) (fun _ h=>by cases h)
 | .use _,x,h=>by cases Js.mp h;exact .tup (JM _) (fun _ h=>by cases h)
 | .Bb a,x,h=>by cases Js.mp h;exact .tup (JM _) (fun _ h=>by cases h)
 | .AL a b,x,h=>by
  obtain⟨y,hy,h⟩:=K7.mp h
  obtain⟨z,hz,rfl⟩:=JO.mp h
  refine .tup (Jm _) fun w hw=>?_
  rcases Jq.mp hw with rfl|hw
  ·exact(a.Ct q _ hy).mono (Jm _) (Nat.le_max_left _ _)
  ·cases Js.mp hw;exact(b.Ct q _ hz).mono (Jm _) (MR _ _)
 | .Bs a b,x,h=>by
  rcases Ju.mp h with h|h
  ·obtain⟨y,hy,rfl⟩:=JO.mp h
   refine .tup (Jm _) fun w hw=>?_
   rcases Jq.mp hw with rfl|hw
   ·exact .int _
   ·cases Js.mp hw;exact(a.Ct q _ hy).mono (Jm _) (Nat.le_max_left _ _)
  ·obtain⟨y,hy,rfl⟩:=JO.mp h
   refine .tup (Jm _) fun w hw=>?_
   rcases Jq.mp hw with rfl|hw
   ·exact .int _
   ·cases Js.mp hw;exact(b.Ct q _ hy).mono (Jm _) (MR _ _)
 | .Bl z m a b,x,h=>by
  rcases Ju.mp h with h|h
  ·split at h
   ·obtain⟨y,hy,rfl⟩:=JO.mp h
    refine .tup (Jm _) fun w hw=>?_
    rcases Jq.mp hw with rfl|hw
    ·exact .int _
    ·cases Js.mp hw;exact(a.Ct q _ hy).mono (Jm _) (Nat.le_max_left _ _)
   ·cases h
  ·obtain⟨y,hy,rfl⟩:=JO.mp h
   refine .tup (Jm _) fun w hw=>?_
   rcases Jq.mp hw with rfl|hw
   ·exact .int _
   ·cases Js.mp hw;exact(b.Ct q _ hy).mono (Jm _) (MR _ _)
abbrev fc(w:aC):Prop:=∀{S:aq} {d l:Addr} {most many size:Nat} {Q:bM} {E:cQ},AW S d l->most<=8->1<=many->many<=4->1<=size->size<=60->
  (∀js ds S',Ck 6 js [] ds->1<=ds.length->ds.length<=many->js.length<=8->(∀p∈ds,p.2.AG+p.2.AJ<=1000)->AW S' d l->BN d l S S'->Q (Bj js ds) S')->w [.ref d,.int most,.int many,.int size] S Q E
def nl{xw xd xb:aC}(Cc:fw xw)(AI:bF xd)(FY:eA xb):fc (AN 9 (d_ xw xd xb)):=by
 intro S0 d l most many size Q E D0 hmo hm1 hm4 hs1 hs2 k
 unfold d_
 refine fG ?_
 rw[show aB 9 [PV.ref d,PV.int most,PV.int many,PV.int size]=[some (.ref d),some (.int most),some (.int many),some (.int size),none,none,none,none,none] from rfl]
 refine al fun N hN=>?_
 walk_at "x"
 refine Cc D0 (by decide) (by decide) fun p ns S hl hnd hw0 _ Eg hpl hp D O0=>?_
 have hl8':ns.length=8:=hl
 have IW:8<=ns.length:=by omega
 have HQ:ns.length<=100:=by omega
 have hw:∀z∈ns,Du z:=fun z hz=>(hw0 z hz).1
 refine hN _ _ ?_
 refine al fun N hN=>?_
 walk_at "x"
 refine AI (m:=most+1) D (by omega) (by omega) fun r S1 r0 r1 D1 O1=>?_
 obtain⟨j,rfl⟩:∃j:Nat,r=(j:Int):=⟨r.toNat,by omega⟩
 have hp1:=O1 _ _ hp Eg hpl
 rw[hp1]
 dsimp only
 rw[ls (by rw[Jk];omega),<-LW]
 intro p2 hp2
 rw[aa]
 dsimp only
 have D2:AW (AH S1 p2 (.lst ((ns.take j).map PV.str))) d l:=D1.new hp2
 have O2:BN d l S (AH S1 p2 (.lst ((ns.take j).map PV.str))):=O1.trans (.new hp2)
 have hp2':=BN.new (o:=.lst ((ns.take j).map PV.str)) hp2 _ _ hp1 Eg hpl
 generalize AH S1 p2 (.lst ((ns.take j).map PV.str))=S2 at D2 O2 hp2'
 refine hN _ _ (al fun N hN=>?_)
 walk_at "x"
 intro p3 hp3
 have HR:=D2.free hp3
 refine AI (D2.new hp3) (by decide) (by decide) fun f S3 f0 f1 D3 O3=>?_
 have e3:=O3 _ _ (aa (S:=S2) (o:=.lst [.int 0,.int 4])) HR.1 HR.2
 have Ha:=O3 _ _ (BN.new hp3 _ _ hp2' Eg hpl) Eg hpl
 have IY:BN d l S S3:=O2.trans ((BN.new hp3).trans O3)
 simp only[e3]
 obtain⟨v,hv,HS⟩:=fx (xs:=[PV.int 0,.int 4]) f0 (by simpa using f1)
 rw[hv]
 obtain⟨g,rfl,hg⟩:∃g:Nat,v = .int g/\g<=4:=by
  simp only[Jq,JF,Kq]at HS
  rcases HS with rfl|rfl
  ·exact⟨0,rfl,by omega⟩
  ·exact⟨4,rfl,by omega⟩
 refine hN _ _ (al fun N hN=>?_)
 walk_at "x"
 refine AI (m:=many) D3 (by omega) (by omega) fun r4 S4 a0 a1 D4 O4=>?_
 obtain⟨mm,em⟩:∃mm:Nat,1+r4=(mm:Int):=⟨(1+r4).toNat,by omega⟩
 dsimp only
 rw[em]
 have Gh:=O4 _ _ Ha Eg hpl
 refine hN _ _ (al fun N hN=>?_)
 walk_at "x"
 refine⟨by omega,by omega,?_⟩
 rw[Lz]
 have hjl:(ns.take j).length<=8:=by rw[Ko];omega
 refine dh (fun done ys S'=>∃ds:List (Str×Bd),ys=ds.map e_/\ds.length=done.length/\ds.map Prod.fst=(ns.drop g).take done.length/\done.length<=mm/\(∀q∈ds,q.2.good (ns.take j) []/\q.2.dep<=6/\q.2.size<=60/\q.2.AG+q.2.AJ<=1000)/\AW S' d l/\BN d l S4 S') ⟨[],rfl,rfl,rfl,JM _,by simp,D4,.refl⟩ ?_ ?_ ?_
 ·rintro done ys S' ⟨ds,rfl,e,_,hd,_⟩
  exact⟨trivial,cS (by rw[Jk,e];omega)⟩
 ·rintro done x rest ys S' K e ⟨ds,rfl,e2,e3,hd,hc,D',O'⟩ hK
  obtain⟨rfl,hi⟩:=t_ e
  walk_at "x"
  try simp only[bq,JW]
  have hp':=O' _ _ Gh Eg hpl
  simp only[hp']
  have hlt:g+done.length < ns.length:=by omega
  have hat:Be (ns.map PV.str) ((g:Int)+(done.length:Int))=some (.str ns[g+done.length]):=by
   have:((g:Int)+(done.length:Int))=((g+done.length:Nat):Int):=by omega
   rw[this]
   exact jJ (by rw[Jx,JE hlt];rfl)
  rw[hat]
  dsimp only
  refine⟨yr (by omega) (by omega),FY D' (by omega) (by omega) (by omega) fun t S5 tg td tz tz2 tp D5 IZ=>?_⟩
  have tp':t.AG+t.AJ<=1000:=by
   have hb:Int.fdiv 24 (mm:Int)<=24:=by
    rw[Int.fdiv_eq_ediv_of_nonneg _ (by omega)]
    exact Int.ediv_le_self _ (by decide)
   rcases tp with h|h<;>omega
  refine hK _ _ ⟨ds++[(ns[g+done.length],t)],by simp[e_],by simp[e2],?_,by rw[Jj];exact hi,fun y hy=>?_,D5,O'.trans IZ⟩
  ·rw[JP,e3,Jj,Jy,La,MG,JE hlt]
   rfl
  ·rcases Ju.mp hy with hy|hy
   ·exact hc y hy
   ·rw[Js.mp hy];exact⟨tg,td,tz,tp'⟩
 rintro ys S5 ⟨ds,rfl,e,ef,_,hds,D5,O5⟩
 rw[dZ]at e ef
 intro p6 HU
 refine hN _ _ ?_
 walk_at "x"
 rw[aa]
 dsimp only
 have sub:∀q∈ds,q.1∈ns:=fun q hq=>by
  have:q.1∈ds.map Prod.fst:=JO.mpr ⟨q,hq,rfl⟩
  rw[ef]at this
  exact LG (Kh this)
 refine k (ns.take j) ds _ ⟨⟨by omega,by omega,fun z hz=>hw z (Kh hz),by simp,fun q hq=>hw _ (sub q hq),fun q hq=>(hds q hq).1,fun q hq=>by have:=(hds q hq).2.1;omega,fun q hq=>(hds q hq).2.2.1⟩,hnd.sublist (MK _ _),by rw[ef];exact hnd.sublist ((MK _ _).trans (List.drop_sublist _ _)),fun q hq=>(hds q hq).2.1⟩ (by omega) (by omega) hjl (fun q hq=>(hds q hq).2.2.2) (D5.new HU) (O0.trans (IY.trans (O4.trans (O5.trans (.new HU)))))
abbrev iA(w:aC):Prop:=∀{S:aq} {d l e:Addr} {js:Vs} {Q:bM} {E:cQ},AW S d l->S e=some (.lst [])->e≠d->e≠l->(∀(t:Bd) S',t.leaf->t.good js []->AW S' d l->BN d l S S'->Q t.pv S')->w [.ref d,.ref e] S Q E
def rO{wd wc:aC}(AI:bF wd)(Cz:gL wc):iA (AN 4 (cE wd wc)):=by
 intro S d l e js Q E D he hed hel k
 unfold cE
 refine fG ?_
 rw[show aB 4 [PV.ref d,PV.ref e]=[some (.ref d),some (.ref e),none,none] from rfl]
 refine al fun N hN=>?_
 walk_at "x"
 refine AI D (by decide) (by decide) fun r S1 r0 r1 D1 O1=>?_
 have ES:=O1 _ _ he hed hel
 refine hN _ _ (al fun N hN=>?_)
 walk_at "x"
 simp only[Jt,Jz]
 split
 ·exact k .rest S1 trivial trivial D1 O1
 refine hN _ _ (al fun N hN=>?_)
 walk_at "x"
 simp only[Jt,Jz,ES]
 have pay:wc [.ref d] S1 (fun x S=>Q (.tup [.str "pay",x]) S) cX:=Cz D1 fun x y S2 c D2 O2=>k (.pay x y) S2 trivial c D2 (O1.trans O2)
 split
 ·rw[if_pos trivial];exact pay
 ·rw[if_pos (show((([]:List PV).length:Nat):Int)=0 from rfl)];exact pay
def Gi(js:Vs)(kvs:List (bf×PV)):Prop:=∀z v,dX kvs (.inr z)=some v->∃y∈js,v = .str y
def Gi.get{js:Vs}{kvs:List (bf×PV)}{z:Str}(h:Gi js kvs)(hz:z∈js):∃y∈js,(dX kvs (.inr z)).getD (.str z) = .str y:=by
 cases e:dX kvs (.inr z)with
 |none=>exact⟨z,hz,rfl⟩
 |some v=>obtain⟨y,hy,rfl⟩:=h z v e;exact⟨y,hy,rfl⟩
structure Fw (t u:Bd):Prop where
 dp:u.dep=t.dep
 sz:u.size=t.size
 pc:u.AG=t.AG
 rc:u.AJ=t.AJ
abbrev lv(n:Nat)(w:aC):Prop:=∀{S:aq} {t:Bd} {js us:Vs} {a:Addr} {kvs:List (bf×PV)} {Q:bM} {E:cQ},t.dep<=n->t.good js us->S a=some (.dct kvs)->Gi js kvs->(∀u:Bd,u.good js us->Fw t u->Q u.pv S)->w [t.pv,.ref a] S Q E
def oh{x:PV}{xs:List PV}:dI (x::xs) none (some 1)=[x]:=ls (n:=1) (by simp)
def pL:∀y∈(["then","either","take"]:Vs),PyData.strOk y=true:=dj
def Eu{s0:aC}(n:Nat)(ih:lv n s0):lv (n+1) (AN 3 (dg s0)):=by
 intro S t js us a kvs Q E hd hg ha hk k
 unfold dg
 refine fG ?_
 rw[Bd.Ce,show aB 3 [.tup (.str t.hd::t.tl),.ref a]=[some (.tup (.str t.hd::t.tl)),some (.ref a),none] from rfl]
 refine al fun N hN=>?_
 simp only[bo,aS,ah,v3,lk,c3,ae,d4,bc,Jt,Jz]
 by_cases h1:t.hd=("put":Str)
 ·rw[if_pos h1]
  cases t with
  |put z m=>
   obtain⟨y,hy,ey⟩:=hk.get hg.1
   simp only[Bd.hd,Bd.tl,aw,av,am,lY,ah,v3,lk,c3,ae,hU,wW,ha,ij,ey]
   exact k (.put y m) ⟨hy,hg.2⟩ ⟨rfl,rfl,rfl,rfl⟩
  |_=>simp[Bd.hd,aF]at h1
 rw[if_neg h1]
 simp only[aM]
 refine hN _ _ (al fun N hN=>?_)
 simp only[bo,aS,ah,v3,lk,c3,ae,d4,bc,Jt,Jz]
 by_cases h2:t.hd=("often":Str)
 ·rw[if_pos h2]
  cases t with
  |Bb b=>
   simp only[Bd.dep]at hd
   simp only[Bd.hd,Bd.tl,aw,av,am,ac,ah,v3,lk,c3,ae,hU]
   refine ih (by omega) hg ha hk fun u gu ku=>?_
   exact k (.Bb u) gu ⟨by simp only[Bd.dep,ku.dp],by simp only[Bd.size,ku.sz],rfl,by simp only[Bd.AJ,ku.pc,ku.rc]⟩
  |_=>simp[Bd.hd,aF]at h2
 rw[if_neg h2]
 simp only[aM]
 refine hN _ _ (al fun N hN=>?_)
 simp only[bo,aS,ah,v3,lk,c3,ae,d4,av,am]
 rw[show([PV.str "then",PV.str "either",PV.str "take"]:List PV)=(["then","either","take"]:Vs).map PV.str from rfl]
 refine bG t.C3 pL ?_
 rw[Jt]
 by_cases h3:t.hd∈(["then","either","take"]:Vs)
 ·rw[JV h3]
  simp only[JW]
  have sides:∀(hd2:List PV) (a b:Bd),(.str t.hd::t.tl)=hd2++[a.pv,b.pv]->Be (.str t.hd::t.tl) (-1)=some b.pv/\Be (.str t.hd::t.tl) (-2)=some a.pv:=fun hd2 a b e1=>⟨by rw[e1];have:=cx (a:=a.pv) (b:=b.pv) (hd:=hd2) (i:=1) (.inr rfl);simpa using this,by rw[e1];have:=cx (a:=a.pv) (b:=b.pv) (hd:=hd2) (i:=0) (.inl rfl);simpa using this⟩
  have two:∀(a' b':Bd) (hd2:List PV) (N':b3->aq->Prop),(.str t.hd::t.tl)=hd2++[a'.pv,b'.pv]->a'.dep<=n->b'.dep<=n->a'.good js us->b'.good js us->(∀u v:Bd,u.good js us->v.good js us->Fw a' u->Fw b' v->N' [some (.tup (.str t.hd::t.tl)),some (.ref a),some (.tup [u.pv,v.pv])] S)->
    au 2 (av [ac s0 [ah ae (v3 0) (dG bn (c3 (.int 2))),v3 1],ac s0 [ah ae (v3 0) (dG bn (c3 (.int 1))),v3 1]]) { nx:=N',rt:=Q,ex:=cX } [some (.tup (.str t.hd::t.tl)),some (.ref a),none] S:=by
   intro a' b' hd2 N' e1 da db ga gb kk
   simp only[au,av,am,ac,ah,v3,lk,c3,ae,dG,bn,(sides hd2 a' b' e1).2]
   refine ih da ga ha hk fun u gu ku=>?_
   simp only[(sides hd2 a' b' e1).1]
   exact ih db gb ha hk fun v gv kv=>kk u v gu gv ku kv
  refine al fun N2 BK=>?_
  cases t with
  |AL x y=>
   simp only[Bd.dep]at hd
   refine two x y [.str "then"] _ rfl (by omega) (by omega) hg.1 hg.2 fun u v gu gv ku kv=>BK _ _ (al fun N3 Em=>?_)
   have en:decide (("then":Str) = "take")=false:=by decide
   simp only[bo,aS,ah,v3,lk,c3,ae,d4,bc,Jt,Bd.hd,en,Jv,JR,aM]
   refine Em _ _ ?_
   simp only[Bd.hd,Bd.tl,aw,ah,bt,lD,kz,ld,v3,lk,c3,oh,aW]
   refine⟨bx (by simp),?_⟩
   exact k (.AL u v) ⟨gu,gv⟩ ⟨by simp only[Bd.dep,ku.dp,kv.dp],by simp only[Bd.size,ku.sz,kv.sz],by simp only[Bd.AG,ku.pc,kv.pc],by simp only[Bd.AJ,ku.rc,kv.rc]⟩
  |Bs x y=>
   simp only[Bd.dep]at hd
   refine two x y [.str "either"] _ rfl (by omega) (by omega) hg.1 hg.2 fun u v gu gv ku kv=>BK _ _ (al fun N3 Em=>?_)
   have en:decide (("either":Str) = "take")=false:=by decide
   simp only[bo,aS,ah,v3,lk,c3,ae,d4,bc,Jt,Bd.hd,en,Jv,JR,aM]
   refine Em _ _ ?_
   simp only[Bd.hd,Bd.tl,aw,ah,bt,lD,kz,ld,v3,lk,c3,oh,aW]
   refine⟨bx (by simp),?_⟩
   exact k (.Bs u v) ⟨gu,gv⟩ ⟨by simp only[Bd.dep,ku.dp,kv.dp],by simp only[Bd.size,ku.sz,kv.sz],by simp only[Bd.AG,ku.pc,kv.pc],by simp only[Bd.AJ,ku.rc,kv.rc]⟩
  |Bl z m x y=>
   simp only[Bd.dep]at hd
   refine two x y [.str "take",.str z,.int m] _ rfl (by omega) (by omega) hg.2.2.2.1 hg.2.2.2.2 fun u v gu gv ku kv=>BK _ _ (al fun N3 Em=>?_)
   obtain⟨y',hy,ey⟩:=hk.get hg.1
   simp only[bo,aS,ah,v3,lk,c3,ae,d4,bc,Jt,Bd.hd,J5,JW]
   simp only[Bd.hd,Bd.tl,aw,av,am,lY,ah,v3,lk,c3,ae,hU,wW,ha,ij,ey,aW]
   refine⟨bx (by simp),?_⟩
   exact k (.Bl y' m u v) ⟨hy,hg.2.1,hg.2.2.1,gu,gv⟩ ⟨by simp only[Bd.dep,ku.dp,kv.dp],by simp only[Bd.size,ku.sz,kv.sz],by simp only[Bd.AG,ku.pc,kv.pc],by simp only[Bd.AJ,ku.rc,kv.rc]⟩
  |_=>simp[Bd.hd,aF]at h3
 ·rw[JK h3]
  simp only[Jv,JR,aM]
  refine hN _ _ ?_
  simp only[aw,v3,lk]
  rw[<-Bd.Ce]
  exact k t hg ⟨rfl,rfl,rfl,rfl⟩
structure HP (js:Vs) (ds:List (Str×Bd)):Prop extends HG js ds where
 pc:∀p∈ds,p.2.AG+p.2.AJ<=1000
def HP.of{js:Vs}{ds es:List (Str×Bd)}(h:HP js ds)(l:es.length<=1000)(hs:∀p∈es,∃q∈ds,p.2.good js []/\Fw q.2 p.2):HP js es where
 jw:=h.jw
 jl:=h.jl
 dl:=l
 gd:=fun p hp=>by obtain⟨q,hq,g,k⟩:=hs p hp;exact g
 dp:=fun p hp=>by obtain⟨q,hq,g,k⟩:=hs p hp;rw[k.dp];exact h.dp q hq
 sz:=fun p hp=>by obtain⟨q,hq,g,k⟩:=hs p hp;rw[k.sz];exact h.sz q hq
 pc:=fun p hp=>by obtain⟨q,hq,g,k⟩:=hs p hp;rw[k.pc,k.rc];exact h.pc q hq
def Fw.refl(t:Bd):Fw t t:=⟨rfl,rfl,rfl,rfl⟩
def mh{α:Type}{xs:List α}{y:α}:Be (xs++[y]) (-1)=some y:=by
 unfold Be oE
 rw[if_neg (by omega),if_pos (by simp;omega)]
 have:(-1+((xs++[y]).length:Int)).toNat=xs.length:=by simp;omega
 rw[this]
 show(xs++[y])[xs.length]?=some y
 simp
def wK{α:Type}{xs:List α}:dI xs none (some (-1))=xs.take (xs.length - 1):=by
 unfold dI
 rw[HT.i_,List.drop_zero,Nat.sub_zero]
 congr 1
 have:HT.A1 xs.length xs.length (some (-1))=if (-1:Int) < 0 then (-1+((xs.length:Nat):Int)).toNat else min (-1:Int).toNat xs.length:=rfl
 rw[this,if_pos (by decide)]
 omega
def pM{js:Vs}{a b:Str}(ha:a∈js)(hb:b∈js):Gi js (df [] [(.inr a,.str b),(.inr b,.str a)]):=by
 intro z v h
 have e1:il [] (Sum.inr a:bf) (.str b)=[(.inr a,.str b)]:=rfl
 have:df [] [(.inr a,.str b),(.inr b,.str a)]=il (il [] (Sum.inr a:bf) (.str b)) (.inr b) (.str a):=rfl
 rw[this,e1]at h
 unfold il at h
 split at h
 ·simp only[JG,Kg]at h
  split at h
  ·simp only[dX]at h
   split at h
   ·cases h;exact⟨a,ha,rfl⟩
   ·cases h
  ·simp only[dX]at h
   split at h
   ·cases h;exact⟨b,hb,rfl⟩
   ·cases h
 ·simp only[List.cons_append,List.nil_append,dX]at h
  split at h
  ·cases h;exact⟨b,hb,rfl⟩
  ·split at h
   ·cases h;exact⟨a,ha,rfl⟩
   ·cases h
abbrev jO(w:aC):Prop:=∀{S:aq} {js:Vs} {ds:List (Str×Bd)} {Q:bM} {E:cQ},HP js ds->
  (∀p (hs:List (List (Str×Bd))) S',S p=none->Ext S S'->S' p=some (.lst (hs.map (Bj js)))->hs.length<=4->(∀h∈hs,HP js h)->Q (.ref p) S')->w [Bj js ds] S Q E
def ue{xs:aC}(Eu:lv 6 xs):jO (AN 6 (f9 xs)):=by
 intro S js ds Q E hP k
 unfold f9
 refine fG ?_
 rw[show aB 6 [Bj js ds]=[some (.tup [.tup (js.map PV.str),.tup (ds.map e_)]),none,none,none,none,none] from rfl]
 refine al fun N hN=>?_
 walk_at "x"
 refine hN _ _ (al fun N hN=>?_)
 walk_at "x"
 intro pk hpk
 have X0:Ext S (AH S pk (.lst [Bj js ds])):=.new hpk
 have f0:(AH S pk (.lst [Bj js ds])) pk=some (.lst ([ds].map (Bj js))):=aa
 rw[show PV.tup [.tup (js.map PV.str),.tup (ds.map e_)]=Bj js ds from rfl]
 generalize AH S pk (.lst [Bj js ds])=S0 at X0 f0
 refine hN _ _ (al fun N hN=>?_)
 -- what comes behind the first if
 have E5:∀(x4 x5:Option PV) (hs:List (List (Str×Bd))) (S1:aq),Ext S S1->S1 pk=some (.lst (hs.map (Bj js)))->hs.length<=3->(∀h∈hs,HP js h)->N [some (Bj js ds),some (.tup (js.map PV.str)),some (.tup (ds.map e_)),some (.ref pk),x4,x5] S1:=by
  intro x4 x5 hs S1 X1 f1 l1 g1
  refine hN _ _ (al fun N hN=>?_)
  have last:∀(x4 x5:Option PV) (hs:List (List (Str×Bd))) (S1:aq),Ext S S1->S1 pk=some (.lst (hs.map (Bj js)))->hs.length<=4->(∀h∈hs,HP js h)->N [some (Bj js ds),some (.tup (js.map PV.str)),some (.tup (ds.map e_)),some (.ref pk),x4,x5] S1:=by
   intro x4 x5 hs S1 X1 f1 l1 g1
   refine hN _ _ ?_
   walk_at "x"
   exact k pk hs S1 hpk X1 f1 l1 g1
  simp only[bo,aS,ah,ap,am,v3,lk,c3,b9,m7,d8,Jz,Jk]
  split
  ·rename_i hj
   refine al fun N2 BK=>?_
   obtain⟨ja,HV⟩:∃a,js[0]?=some a:=⟨js[0]'(by omega),JE (by omega)⟩
   have Hb:Be (js.map PV.str) 0=some (.str ja):=jJ (n:=0) (by rw[Jx,HV];rfl)
   have hne:js≠[]:=fun h=>by rw[h]at hj;simp at hj
   obtain⟨jr,jb,HW⟩:∃r b,js=r++[b]:=⟨js.dropLast,js.getLast hne,(Lw hne).symm⟩
   have Hc:Be (js.map PV.str) (-1)=some (.str jb):=by rw[HW,JP];exact mh
   simp only[au,jB,fV,ah,v3,lk,c3,ae,dG,bn,Hb,Hc]
   intro pd Eg
   simp only[aa,KW,kD,ij]
   have X2:Ext S1 (AH (AH S1 pd (.dct [])) pd (.dct (df [] [(.inr ja,.str jb),(.inr jb,.str ja)]))):=fun a o h=>by
    have n:a≠pd:=fun e=>by rw[e,Eg]at h;cases h
    rw[ai n,ai n];exact h
   have f2:(AH (AH S1 pd (.dct [])) pd (.dct (df [] [(.inr ja,.str jb),(.inr jb,.str ja)]))) pd=some (.dct (df [] [(.inr ja,.str jb),(.inr jb,.str ja)])):=aa
   generalize (AH (AH S1 pd (.dct [])) pd (.dct (df [] [(.inr ja,.str jb),(.inr jb,.str ja)])))=S2 at X2 f2
   have sw:=pM (js:=js) (a:=ja) (b:=jb) (JI HV) (by rw[HW];simp)
   generalize df [] [(.inr ja,.str jb),(.inr jb,.str ja)]=kvs at f2 sw
   have Fx:=X2 _ _ f1
   have I9:=X1.trans X2
   refine BK _ _ ?_
   simp only[List.set_cons_zero,List.set_cons_succ,aG,cH,j3,am,av,ap,v3,lk,Fx,KW,aE,aD,bv]
   refine dh (fun done ys S'=>S'=S2/\∃es:List (Str×Bd),ys=es.map e_/\es.length=done.length/\done.length<=ds.length/\∀p∈es,∃q∈ds,p.2.good js []/\Fw q.2 p.2) ⟨rfl,[],rfl,rfl,JM _,by simp⟩ ?_ ?_ ?_
   ·rintro done ys S' ⟨_,es,rfl,e,l,_⟩
    exact⟨trivial,bx (by rw[Jk,e];have:=hP.dl;omega)⟩
   ·rintro done x rest ys S' K e ⟨rfl,es,rfl,e2,l,he⟩ hK
    obtain⟨q,hq,rfl⟩:∃q∈ds,e_ q=x:=JO.mp (by rw[e];simp)
    simp only[e_,Tg.put,Tg.AK,cR,List.reduceReplicate,JG,Kg,List.cons_append,List.nil_append,List.set_cons_zero,List.set_cons_succ,lk,bq,JW,av,am,ac,v3,List.getElem?_cons_zero,List.getElem?_cons_succ,Option.join]
    refine Eu (hP.dp q hq) (hP.gd q hq) f2 sw fun u gu ku=>hK _ _ ⟨rfl,es++[(q.1,u)],by rw[JP];rfl,by rw[Jj,Jj,e2];rfl,?_,?_⟩
    ·have:(ds.map e_).length=done.length+(rest.length+1):=by rw[e,Jj,JB]
     rw[Jk]at this
     rw[Jj,Jy];omega
    ·intro p hp
     rcases Ju.mp hp with h|h
     ·exact he p h
     ·rw[Js.mp h];exact⟨q,hq,gu,ku⟩
   ·rintro ys S' ⟨rfl,es,rfl,e,_,he⟩ pl hpl
    rw[Jk]at e
    simp only[bS,lV,aa]
    have nk:pk≠pl:=fun h=>by rw[h,hpl]at Fx;cases Fx
    have hle:hs.length+1<=4:=by omega
    simp only[bj,ai nk,Fx]
    refine⟨JC (show(hs.map (Bj js)).length < 5 by rw[Jk];omega) (by decide),?_⟩
    refine last _ _ (hs++[es]) _ ((I9.trans (.new hpl)).put hpk) (by rw[aa,JP];rfl) (by rw[Jj];exact hle) fun h hh=>?_
    rcases Ju.mp hh with hh|hh
    ·exact g1 h hh
    ·rw[Js.mp hh];exact hP.of (by rw[e];exact hP.dl) he
  ·simp only[aM]
   exact last _ _ hs S1 X1 f1 (by omega) g1
 simp only[bo,aS,ah,ap,am,v3,lk,c3,b9,m7,d8,Jz,Jk]
 split
 ·rename_i hd
  have hd':1 < ds.length:=by omega
  refine al fun N2 BK=>?_
  simp only[au,aE,aD,v3,lk,bv]
  have dl:=hP.dl
  refine cn (fun p:Str×Bd=>e_ p) (fun p=>.str p.1) trivial ds [] (fun x hx=>⟨_,rfl,fun Q q=>q⟩) (by rw[J7,K6];exact bx dl) ?_
  intro pn FF
  rw[J6]
  have X1:Ext S0 (AH S0 pn (.lst (ds.map fun p=>.str p.1))):=.new FF
  have FG:(AH S0 pn (.lst (ds.map fun p=>.str p.1))) pn=some (.lst (ds.map fun p=>.str p.1)):=aa
  generalize (AH S0 pn (.lst (ds.map fun p=>.str p.1)))=S1 at X1 FG
  refine BK _ _ (al fun N2 BK=>?_)
  simp only[au,aE,aD,v3,lk,bv,List.set_cons_zero,List.set_cons_succ]
  refine cn (fun p:Str×Bd=>e_ p) (fun p=>p.2.pv) trivial ds [] (fun x hx=>⟨_,rfl,fun Q q=>q⟩) (by rw[J7,K6];exact bx dl) ?_
  intro pb DN
  rw[J6]
  have X2:Ext S1 (AH S1 pb (.lst (ds.map fun p=>p.2.pv))):=.new DN
  have FZ:(AH S1 pb (.lst (ds.map fun p=>p.2.pv))) pb=some (.lst (ds.map fun p=>p.2.pv)):=aa
  have Ev:=X2 _ _ FG
  generalize (AH S1 pb (.lst (ds.map fun p=>p.2.pv)))=S2 at X2 FZ Ev
  refine BK _ _ ?_
  have Fx:=X2 _ _ (X1 _ _ f0)
  have I_:=X0.trans (X1.trans X2)
  simp only[List.set_cons_zero,List.set_cons_succ,aG,cH,j3,am,av,bm,rj,ah,bt,lD,kz,ld,c3,dG,bn,v3,lk,Fx,Ev,FZ,KW]
  intro p1 hp1
  have n1:pb≠p1:=fun h=>by rw[h,hp1]at FZ;cases FZ
  simp only[ai n1,FZ]
  intro p2 hp2
  have hp2':S2 p2=none:=by
   by_cases e:p2=p1
   ·rw[e,aa]at hp2;cases hp2
   ·rw[ai e]at hp2;exact hp2
  have Ja:p1≠p2:=fun h=>by rw[<-h,aa]at hp2;cases hp2
  simp only[aW,aa,ai Ja]
  have hlb:1<=(ds.map fun p=>p.2.pv).length:=by rw[Jk];omega
  have HX:dI (ds.map fun p=>p.2.pv) (some 1) none=((ds.map Prod.snd).drop 1).map Bd.pv:=by rw[show(1:Int)=((1:Nat):Int)from rfl,wJ hlb,List.map_drop,K5];rfl
  have Jb:dI (ds.map fun p=>p.2.pv) none (some 1)=((ds.map Prod.snd).take 1).map Bd.pv:=by rw[show(1:Int)=((1:Nat):Int)from rfl,ls hlb,LW,K5];rfl
  simp only[HX,Jb]
  have HY:((ds.map Prod.snd).drop 1).length+((ds.map Prod.snd).take 1).length=ds.length:=by simp only[J9,Ko,Jk];omega
  refine⟨bx (by rw[Jk,Jk,HY];exact dl),?_⟩
  intro p3 hp3
  rw[<-JP] 
  have X3:Ext S2 (AH (AH (AH S2 p1 (.lst (((ds.map Prod.snd).drop 1).map Bd.pv))) p2 (.lst (((ds.map Prod.snd).take 1).map Bd.pv))) p3 (.lst (((ds.map Prod.snd).drop 1++(ds.map Prod.snd).take 1).map Bd.pv))):=(Ext.new hp1).trans ((Ext.new (by rw[HX]at hp2;exact hp2)).trans (.new hp3))
  have f3:(AH (AH (AH S2 p1 (.lst (((ds.map Prod.snd).drop 1).map Bd.pv))) p2 (.lst (((ds.map Prod.snd).take 1).map Bd.pv))) p3 (.lst (((ds.map Prod.snd).drop 1++(ds.map Prod.snd).take 1).map Bd.pv))) p3=some (.lst (((ds.map Prod.snd).drop 1++(ds.map Prod.snd).take 1).map Bd.pv)):=aa
  generalize AH (AH (AH S2 p1 (.lst (((ds.map Prod.snd).drop 1).map Bd.pv))) p2 (.lst (((ds.map Prod.snd).take 1).map Bd.pv))) p3 (.lst (((ds.map Prod.snd).drop 1++(ds.map Prod.snd).take 1).map Bd.pv))=S3 at X3 f3
  have AN:=X3 _ _ Ev
  have Hd:=X3 _ _ Fx
  simp only[AN,f3]
  refine⟨by rw[Jk,Jk,Jj,HY],by rw[Jk];omega,?_⟩
  have ez:bp (ds.map fun p=>PV.str p.1) (((ds.map Prod.snd).drop 1++(ds.map Prod.snd).take 1).map Bd.pv)=((ds.map Prod.fst).zip ((ds.map Prod.snd).drop 1++(ds.map Prod.snd).take 1)).map e_:=by
   unfold bp
   rw[show(ds.map fun p=>PV.str p.1)=(ds.map Prod.fst).map PV.str by rw[K5];rfl,List.zip_map,K5]
   rfl
  rw[ez,wK,<-LW]
  intro p4 Gh
  have n4:pk≠p4:=fun h=>by rw[h,Gh]at Hd;cases Hd
  simp only[aH,aa,ai n4,Hd]
  refine⟨bx (by simp),?_⟩
  refine E5 _ _ [ds,ds.take (ds.length - 1),(ds.map Prod.fst).zip ((ds.map Prod.snd).drop 1++(ds.map Prod.snd).take 1)] _ ((I_.trans (X3.trans (.new Gh))).put hpk) (by rw[aa,Jk];rfl) (by simp) fun h hh=>?_
  simp only[Jq,JF,Kq]at hh
  rcases hh with rfl|rfl|rfl
  ·exact hP
  ·exact hP.of (Jw (List.length_take_le _ _) (by omega)) fun p hp=>⟨p,Kh hp,hP.gd p (Kh hp),.refl _⟩
  ·refine hP.of (by rw[List.length_zip,Jk];omega) fun p hp=>?_
   have h2:=(Mx hp).2
   have h3:p.2∈ds.map Prod.snd:=by
    rcases Ju.mp h2 with h|h
    ·exact LG h
    ·exact Kh h
   obtain⟨q,hq,e⟩:=JO.mp h3
   exact⟨q,hq,by rw[<-e];exact hP.gd q hq,by rw[<-e];exact .refl _⟩
 ·simp only[aM]
  exact E5 _ _ [ds] S0 X0 f0 (by simp) fun h hh=>by rw[Js.mp hh];exact hP
def AB{r n:Nat}(h:r < n):seqIndex? (r:Int) n=some r:=by
 unfold seqIndex?
 simp
 omega
theorem kO{α β:Type}(f:α->β):∀(xs:List α) (i:Nat),(xs.map f).eraseIdx i=(xs.eraseIdx i).map f
 |[],_=>rfl
 |_::_,0=>rfl
 |x::r,i+1=>by simp only[JG,List.eraseIdx_cons_succ,kO f r i]
def pN{xs:List PV}{i:Nat}(h:i < xs.length):∃y∈xs,Be xs ((i:Int) - 1)=some y:=by
 cases i with
 |zero=>
  have hne:xs≠[]:=fun e=>by rw[e]at h;cases h
  refine⟨xs.getLast hne,List.getLast_mem hne,?_⟩
  have:=mh (xs:=xs.dropLast) (y:=xs.getLast hne)
  rw[Lw hne]at this
  exact this
 |succ i=>
  have e:(((i+1:Nat):Int) - 1)=(i:Int):=by omega
  exact⟨xs[i],LL _,by rw[e];exact jJ (JE (by omega))⟩
structure Ed (S:aq) (d l p po pb:Addr) (W O B:List PV):Prop where
 D:AW S d l
 w:S p=some (.lst W)
 o:S po=some (.lst O)
 b:S pb=some (.lst B)
 n:p≠d/\p≠l/\po≠d/\po≠l/\pb≠d/\pb≠l/\p≠pb/\po≠pb
def Ed.Cn{S S':aq}{d l p po pb:Addr}{W O B:List PV}(h:Ed S d l p po pb W O B)(D':AW S' d l)(X:BN d l S S'):Ed S' d l p po pb W O B:=
 ⟨D',X _ _ h.w h.n.1 h.n.2.1,X _ _ h.o h.n.2.2.1 h.n.2.2.2.1,X _ _ h.b h.n.2.2.2.2.1 h.n.2.2.2.2.2.1,h.n⟩
theorem Ed.new{S:aq}{d l p po pb q:Addr}{W O B:List PV}{o:SO}(h:Ed S d l p po pb W O B)(hq:S q=none):Ed (AH S q o) d l p po pb W O B:=
 h.Cn (h.D.new hq) (.new hq)
def Ed.put{S:aq}{d l p po pb:Addr}{W O B B':List PV}(h:Ed S d l p po pb W O B):Ed (AH S pb (.lst B')) d l p po pb W O B':=
 ⟨h.D.upd h.n.2.2.2.2.1 h.n.2.2.2.2.2.1,by rw[ai h.n.2.2.2.2.2.2.1];exact h.w,by rw[ai h.n.2.2.2.2.2.2.2];exact h.o,aa,h.n⟩
structure CB (js:Vs) (t:Bd):Prop where
 g:t.good js []
 d:t.dep<=3
 s:t.size<=5
 p:t.AG+t.AJ<=9
structure CI (js:Vs) (t:Bd):Prop where
 g:t.good js []
 d:t.dep<=2
 s:t.size<=3
 p:t.AG<=2
 r:t.AJ=0
def Bd.BZ{t:Bd}(h:t.leaf):t.AG=1/\t.AJ=0:=by cases t<;>first|exact⟨rfl,rfl⟩|exact h.elim
theorem CI.put{js:Vs}{z:Str}{m:Int}(hz:z∈js)(h0:1<=m)(h1:m<=9):CI js (.put z m):=⟨⟨hz,h0,h1⟩,by simp[Bd.dep],by simp[Bd.size],by simp[Bd.AG],rfl⟩
theorem CI.Bl{js:Vs}{z y:Str}{m m':Int}{f:Bd}(hz:z∈js)(h0:1<=m)(h1:m<=9)(hy:y∈js)(h2:1<=m')(h3:m'<=9)(hl:f.leaf)(hg:f.good js []):CI js (.Bl y m' (.put z m) f):=
 ⟨⟨hy,h2,h3,⟨hz,h0,h1⟩,hg⟩,by simp only[Bd.dep,(Bd.A4 hl).1];decide,by simp only[Bd.size,(Bd.A4 hl).2];decide,by simp only[Bd.AG,(Bd.BZ hl).1];decide,by simp only[Bd.AJ,(Bd.BZ hl).2]⟩
def CI.cb{js:Vs}{t:Bd}(h:CI js t):CB js t:=⟨h.g,by have:=h.d;omega,by have:=h.s;omega,by have:=h.p;have:=h.r;omega⟩
theorem CI.AL{js:Vs}{t f:Bd}(h:CI js t)(hl:f.leaf)(hg:f.good js []):CB js (.AL f t):=
 ⟨⟨hg,h.g⟩,by have:=h.d;have:=(Bd.A4 hl).1;simp only[Bd.dep];omega,by have:=h.s;have:=(Bd.A4 hl).2;simp only[Bd.size];omega,by have:=h.p;simp only[Bd.AG,Bd.AJ,(Bd.BZ hl).1,(Bd.BZ hl).2,h.r];omega⟩
theorem CI.Bs{js:Vs}{t f:Bd}(h:CI js t)(hl:f.leaf)(hg:f.good js []):CB js (.Bs f t):=
 ⟨⟨hg,h.g⟩,by have:=h.d;have:=(Bd.A4 hl).1;simp only[Bd.dep];omega,by have:=h.s;have:=(Bd.A4 hl).2;simp only[Bd.size];omega,by have:=h.p;simp only[Bd.AG,Bd.AJ,(Bd.BZ hl).1,(Bd.BZ hl).2,h.r];omega⟩
theorem CI.Bb{js:Vs}{t:Bd}(h:CI js t):CB js (.Bb t):=
 ⟨h.g,by have:=h.d;simp only[Bd.dep];omega,by have:=h.s;simp only[Bd.size];omega,by have:=h.p;have:=h.r;simp only[Bd.AG,Bd.AJ];omega⟩
abbrev cp(w:aC):Prop:=∀{S:aq} {d l:Addr} {Q:bM} {E:cQ},AW S d l->(∀js ds S',HP js ds->Q (Bj js ds) S')->w [.ref d] S Q E
def C7{xw xd xl:aC}(Cc:fw xw)(AI:bF xd)(Bo:iA xl):cp (AN 10 (eg xw xd xl)):=by
 intro S0 d l Q E D0 k
 unfold eg
 refine fG ?_
 rw[show aB 10 [PV.ref d]=[some (.ref d),none,none,none,none,none,none,none,none,none] from rfl]
 refine al fun N hN=>?_
 walk_at "x"
 refine Cc D0 (by decide) (by decide) fun p ns S hl hnd hw0 _ Eg hpl hp D O0=>?_
 have IW:ns.length=8:=hl
 refine hN _ _ (al fun N hN=>?_)
 walk_at "x"
 refine AI D (by decide) (by decide) fun r S1 r0 r1 D1 O1=>?_
 obtain⟨j,ej⟩:∃j:Nat,1+r=(j:Int):=⟨(1+r).toNat,by omega⟩
 have hp1:=O1 _ _ hp Eg hpl
 dsimp only
 rw[ej,hp1]
 dsimp only
 rw[ls (by rw[Jk];omega),<-LW]
 have hj4:j<=4:=by omega
 have hj1:1<=j:=by omega
 intro p2 hp2
 have n2:=D1.free hp2
 have D2:AW (AH S1 p2 (.lst ((ns.take j).map PV.str))) d l:=D1.new hp2
 have f2:(AH S1 p2 (.lst ((ns.take j).map PV.str))) p2=some (.lst ((ns.take j).map PV.str)):=aa
 have HZ:p≠p2:=fun h=>by rw[h,hp2]at hp1;cases hp1
 have hp2':(AH S1 p2 (.lst ((ns.take j).map PV.str))) p=some (.lst (ns.map PV.str)):=by rw[ai HZ];exact hp1
 generalize AH S1 p2 (.lst ((ns.take j).map PV.str))=S2 at D2 f2 hp2'
 have He:(ns.take j).length=j:=by rw[Ko];omega
 have H_:∀z∈ns.take j,Du z:=fun z hz=>(hw0 z (Kh hz)).1
 generalize ns.take j=js at f2 He H_
 refine hN _ _ (al fun N hN=>?_)
 walk_at "x"
 simp only[f2]
 refine hN _ _ (al fun N hN=>?_)
 simp only[List.set_cons_zero,List.set_cons_succ,au,aE,aD,v3,lk,bv]
 refine dh (fun done ys S'=>∃os rs:List Str,ys=os.map PV.str/\os.length=done.length/\rs.length+done.length=j/\(∀z∈os,z∈js)/\(∀z∈rs,z∈js)/\AW S' d l/\S' p2=some (.lst (rs.map PV.str))/\S' p=some (.lst (ns.map PV.str))) ⟨[],js,rfl,rfl,He,by simp,fun z h=>h,D2,f2,hp2'⟩ ?_ ?_ ?_
 ·rintro done ys S' ⟨os,rs,rfl,e,l1,_⟩
  exact⟨trivial,bx (by rw[Jk,e];omega)⟩
 ·rintro done x rest ys S' K e ⟨os,rs,rfl,e1,e2,ho,hr,D',f',w'⟩ hK
  have hlen:done.length < j:=by
   have:(js.map PV.str).length=done.length+(rest.length+1):=by rw[e,Jj,JB]
   rw[Jk]at this
   omega
  simp only[Tg.put,cR,List.reduceReplicate,JG,Kg,List.cons_append,List.nil_append,List.set_cons_zero,List.set_cons_succ,lk,bq,JW,cH,j3,am,ac,ap,v3,b9,f',KW,Jk,List.getElem?_cons_zero,List.getElem?_cons_succ,Option.join]
  refine AI D' (by omega) (by omega) fun r S3 r0 r1 D3 O3=>?_
  obtain⟨i,rfl⟩:∃i:Nat,r=(i:Int):=⟨r.toNat,by omega⟩
  have hi:i < rs.length:=by omega
  have f3:=O3 _ _ f' n2.1 n2.2
  simp only[lW,f3,Jk,AB hi,Jx,JE hi,Option.map_some]
  refine⟨by omega,by omega,hK _ _ ⟨os++[rs[i]],rs.eraseIdx i,by rw[JP];rfl,by rw[Jj,Jj,e1];rfl,?_,?_,?_,D3.upd n2.1 n2.2,?_,?_⟩⟩
  ·rw[List.length_eraseIdx_of_lt hi,Jj,Jy];omega
  ·intro z hz
   rcases Ju.mp hz with h|h
   ·exact ho z h
   ·rw[Js.mp h];exact hr _ (LL hi)
  ·exact fun z hz=>hr z (List.mem_of_mem_eraseIdx hz)
  ·rw[aa,kO]
  ·rw[ai HZ];exact O3 _ _ w' Eg hpl
 rintro ys S3 ⟨os,rs,rfl,eo,_,ho,_,D3,_,w3⟩ po DX
 rw[Jk,He]at eo
 have Ia:=D3.free DX
 have Jc:p≠po:=fun h=>by rw[h,DX]at w3;cases w3
 refine hN _ _ (al fun N hN=>?_)
 walk_at "x"
 intro pb DN
 have D4:=(D3.new (o:=.lst (os.map PV.str)) DX)
 have Ib:=D4.free DN
 have H0:Ed (AH (AH S3 po (.lst (os.map PV.str))) pb (.lst [])) d l p po pb (ns.map PV.str) (os.map PV.str) (([]:List Bd).map Bd.pv):=by
  have a:(AH S3 po (.lst (os.map PV.str))) p=some (.lst (ns.map PV.str)):=by rw[ai Jc];exact w3
  have b:(AH S3 po (.lst (os.map PV.str))) po=some (.lst (os.map PV.str)):=aa
  have n1:p≠pb:=fun h=>by rw[h,DN]at a;cases a
  have n2:po≠pb:=fun h=>by rw[<-h,b]at DN;cases DN
  exact⟨D4.new DN,by rw[ai n1];exact a,by rw[ai n2];exact b,aa,Eg,hpl,Ia.1,Ia.2,Ib.1,Ib.2,n1,n2⟩
 generalize AH (AH S3 po (.lst (os.map PV.str))) pb (.lst [])=S4 at H0
 refine hN _ _ (al fun N hN=>?_)
 simp only[bY,b6,v3,lk,List.set_cons_zero,List.set_cons_succ,H0.o]
 refine bK (fun done σ S'=>∃(bs:List Bd) (x4 x7 x8 x9:Option PV),σ=[some (.ref d),some (.ref p),some (.ref p2),some (.tup (js.map PV.str)),x4,some (.ref po),some (.ref pb),x7,x8,x9]/\Ed S' d l p po pb (ns.map PV.str) (os.map PV.str) (bs.map Bd.pv)/\bs.length=done.length/\done.length<=j/\∀t∈bs,CB js t) ⟨[],_,_,_,_,rfl,H0,rfl,JM _,by simp⟩ (fun _ _ _ ⟨_,_,_,_,_,_,H,_⟩=>H.o) ?_ ?_
 ·rintro done x rest σ S' K e ⟨bs,x4,x7,x8,x9,rfl,H,lb,lj,hb⟩ hK
  obtain⟨y,rfl,hy⟩:=d0 e
  obtain⟨z,hz,rfl⟩:∃z,os[done.length]?=some z/\.str z=y:=by rw[Jx]at hy;exact JT.mp hy
  have hlt:done.length < os.length:=(JJ.mp hz).1
  have Fu:z∈js:=ho z (JI hz)
  simp only[Tg.put,Tg.AK,List.set_cons_zero,List.set_cons_succ]
  refine al fun N2 BK=>?_
  simp only[au,av,am,ah,ac,v3,lk,c3]
  refine AI H.D (by decide) (by decide) fun r1 S1 a0 a1 D1 O1=>?_
  have H1:=H.Cn D1 O1
  simp only[aW,List.set_cons_zero,List.set_cons_succ]
  refine BK _ _ (al fun N2 BK=>?_)
  have next:∀(t:Bd) (S2:aq),CI js t->Ed S2 d l p po pb (ns.map PV.str) (os.map PV.str) (bs.map Bd.pv)->N2 [some (.ref d),some (.ref p),some (.ref p2),some (.tup (js.map PV.str)),some (.str z),some (.ref po),some (.ref pb),some (.int done.length),some t.pv,x9] S2:=by
   intro t S2 ht H2
   refine BK _ _ (al fun N3 Em=>?_)
   simp only[au,bm,av,am,ac,v3,lk,c3]
   intro e1 ES
   have n1:=H2.D.free ES
   refine Bo (js:=js) (H2.new ES).D aa n1.1 n1.2 fun f1 S3 l1 g1 D3 O3=>?_
   have H3:=(H2.new ES).Cn D3 O3
   intro e2 Hf
   have n2:=H3.D.free Hf
   refine Bo (js:=js) (H3.new Hf).D aa n2.1 n2.2 fun f2 S4 l2 g2 D4 O4=>?_
   have H4:=(H3.new Hf).Cn D4 O4
   intro p9 hp9
   have n9:=H4.D.free hp9
   have H5:=H4.new (o:=.lst [.tup [.str "then",f1.pv,t.pv],.tup [.str "often",t.pv],.tup [.str "either",f2.pv,t.pv]]) hp9
   have f5:(AH S4 p9 (.lst [.tup [.str "then",f1.pv,t.pv],.tup [.str "often",t.pv],.tup [.str "either",f2.pv,t.pv]])) p9=some (.lst [.tup [.str "then",f1.pv,t.pv],.tup [.str "often",t.pv],.tup [.str "either",f2.pv,t.pv]]):=aa
   refine Em _ _ ?_
   generalize AH S4 p9 (.lst [.tup [.str "then",f1.pv,t.pv],.tup [.str "often",t.pv],.tup [.str "either",f2.pv,t.pv]])=S5 at H5 f5
   simp only[List.set_cons_zero,List.set_cons_succ,aG,cH,j3,am,ah,ac,ap,bm,v3,lk,c3,b9,aW,H5.b,KW,Jk]
   refine AI (m:=(bs.length:Int)+1) H5.D (by omega) (by omega) fun r6 S6 b0 b1 D6 O6=>?_
   have H6:=H5.Cn D6 O6
   have f6:=O6 _ _ f5 n9.1 n9.2
   simp only[ae,f6,d4,hU,wW]
   intro p10 Fy
   have Ic:=H6.D.free Fy
   refine AI (H6.new Fy).D (by decide) (by decide) fun r7 S7 c0 c1 D7 O7=>?_
   have H7:=(H6.new Fy).Cn D7 O7
   have f7:=O7 _ _ (aa (S:=S6)) Ic.1 Ic.2
   simp only[f7]
   obtain⟨v,hv,hm⟩:=fx (xs:=[t.pv,.tup [.str "then",f1.pv,t.pv],.tup [.str "often",t.pv],.tup [.str "either",f2.pv,t.pv]]) c0 (by simpa using c1)
   rw[hv]
   obtain⟨u,hu,rfl⟩:∃u,CB js u/\u.pv=v:=by
    simp only[Jq,JF,Kq]at hm
    rcases hm with rfl|rfl|rfl|rfl
    ·exact⟨t,ht.cb,rfl⟩
    ·exact⟨_,ht.AL l1 g1,rfl⟩
    ·exact⟨_,ht.Bb,rfl⟩
    ·exact⟨_,ht.Bs l2 g2,rfl⟩
   simp only[i7,H7.b]
   refine⟨b0,by rw[Jk];omega,JC (show(bs.map Bd.pv).length < 5 by rw[Jk];omega) (by decide),?_⟩
   refine hK _ _ ⟨bs.take r6.toNat++u::bs.drop r6.toNat,_,_,_,_,rfl,?_,?_,?_,?_⟩
   ·rw[JP,JG,LW,List.map_drop]
    exact H7.put
   ·rw[Jj,JB,Ko,J9,Jj,Jy];omega
   ·rw[Jj,Jy];omega
   ·intro w hw
    rcases Ju.mp hw with h|h
    ·exact hb w (Kh h)
    ·rcases Jq.mp h with rfl|h
     ·exact hu
     ·exact hb w (LG h)
  have take:∀(S2:aq),Ed S2 d l p po pb (ns.map PV.str) (os.map PV.str) (bs.map Bd.pv)->au 8 (av [c3 (.str "take"),ah ae (v3 5) (ah cf (v3 7) (c3 (.int 1))),ah aW (c3 (.int 1)) (ac xd [v3 0,c3 (.int 9)]),v3 8,ac xl [v3 0,bm []]]) { nx:=N2,rt:=Q,ex:=cX,ct:=K,bk:=N } [some (.ref d),some (.ref p),some (.ref p2),some (.tup (js.map PV.str)),some (.str z),some (.ref po),some (.ref pb),some (.int done.length),some (.tup [.str "put",.str z,.int (1+r1)]),x9] S2:=by
   intro S2 H2
   obtain⟨y,hy,ey⟩:=pN (xs:=os.map PV.str) (i:=done.length) (by rw[Jk];exact hlt)
   obtain⟨y,Jd,rfl⟩:=JO.mp hy
   simp only[au,av,am,ah,ac,bm,v3,lk,c3,cf,ae,d8,H2.o,ey]
   refine AI H2.D (by decide) (by decide) fun r2 S3 b0 b1 D3 O3=>?_
   have H3:=H2.Cn D3 O3
   simp only[aW]
   intro e1 ES
   have n1:=H3.D.free ES
   refine Bo (js:=js) (H3.new ES).D aa n1.1 n1.2 fun f S4 Je hgf D4 O4=>?_
   have H4:=(H3.new ES).Cn D4 O4
   exact next (.Bl y (1+r2) (.put z (1+r1)) f) S4 (.Bl Fu (by omega) (by omega) (ho y Jd) (by omega) (by omega) Je hgf) H4
  simp only[bo,jk,aS,ah,ap,am,ac,v3,lk,c3,m7,d8,Jz]
  split
  ·rw[if_pos trivial];exact take S1 H1
  ·refine AI H1.D (by decide) (by decide) fun r2 S2 b0 b1 D2 O2=>?_
   have H2:=H1.Cn D2 O2
   simp only[bc,Jt,Jz]
   split
   ·exact take S2 H2
   ·simp only[aM]
    exact next (.put z (1+r1)) S2 (.put Fu (by omega) (by omega)) H2
 ·rintro σ S5 ⟨bs,x4,x7,x8,x9,rfl,H,lb,lj,hb⟩
  refine hN _ _ ?_
  have EE:bs.length<=4:=by omega
  simp only[aw,av,am,ap,aE,b6,v3,lk,H.b]
  refine dh (fun done ys S'=>S'=S5/\∃es:List (Str×Bd),ys=es.map e_/\es.length=done.length/\done.length<=bs.length/\∀q∈es,q.2∈bs) ⟨rfl,[],rfl,rfl,JM _,by simp⟩ ?_ ?_ ?_
  ·rintro done ys S' ⟨rfl,es,rfl,e,l1,_⟩
   exact⟨H.b,bx (by rw[Jk,e];omega)⟩
  ·rintro done x rest ys S' K e ⟨rfl,es,rfl,e2,l1,he⟩ hK
   obtain⟨y,rfl,hy⟩:=d0 e
   obtain⟨t,ht,rfl⟩:∃t,bs[done.length]?=some t/\t.pv=y:=by rw[Jx]at hy;exact JT.mp hy
   have hlt:done.length < bs.length:=(JJ.mp ht).1
   have h8:4+done.length < ns.length:=by omega
   have hat:Be (ns.map PV.str) (4+(done.length:Int))=some (.str ns[4+done.length]):=by
    rw[show(4+(done.length:Int))=((4+done.length:Nat):Int) by omega]
    exact jJ (by rw[Jx,JE h8];rfl)
   simp only[Tg.put,Tg.AK,cR,List.reduceReplicate,JG,Kg,List.cons_append,List.nil_append,List.set_cons_zero,List.set_cons_succ,lk,bq,JW,av,am,ah,c3,v3,aW,ae,List.getElem?_cons_zero,List.getElem?_cons_succ,Option.join,H.w,hat]
   refine hK _ _ ⟨rfl,es++[(ns[4+done.length],t)],by rw[JP];rfl,by rw[Jj,Jj,e2];rfl,by rw[Jj,Jy];omega,fun q hq=>?_⟩
   rcases Ju.mp hq with h|h
   ·exact he q h
   ·rw[Js.mp h];exact JI ht
  ·rintro ys S' ⟨rfl,es,rfl,e,_,he⟩ pl hpl
   simp only[bS,lV,aa]
   have hel:es.length<=1000:=by
    rw[e];unfold L3.aQ;rw[Ls,Jk];omega
   refine k js es _ ⟨⟨fun z hz=>jH (H_ z hz),by omega,hel,fun q hq=>(hb _ (he q hq)).g,fun q hq=>by have:=(hb _ (he q hq)).d;omega,fun q hq=>by have:=(hb _ (he q hq)).s;omega⟩,fun q hq=>by have:=(hb _ (he q hq)).p;omega⟩
def Ep.ok{js:Vs}{ds:List (Str×Bd)}{hs:Vs}(h:Ep js ds hs)(hj:jL js):jL hs:=fun z hz=>hj z (h.2.2.1 z hz)
def uf{js:Vs}{ds:List (Str×Bd)}{hs:Vs}(h:Ep js ds hs):mq (held ds js.length)=mq hs:=uc h.1 h.2.1 h.2.2.1 h.2.2.2
noncomputable def Bd.CU:Bd->Bd | .Bb a=>a|t=>t
noncomputable def Bd.Cj(q:Qs)(t:Bd)(r:Bool):List (Bd×Bool):=(t.pr q r).filter fun p=>p.1.C4
abbrev Nb:=(Bd×Bool)×Nat
noncomputable def come(q:Qs)(t:Bd):List Nb:=(t.Cj q true).zipIdx.filter fun c=>c.1.2
noncomputable def j4(q:Qs)(c:Nb):List PV:=(c.1.1.CU.ps q).map fun x=>.tup [.int (c.2:Int),x]
noncomputable def Bd.DH(q:Qs)(t:Bd):List PV:=(come q t).flatMap (j4 q)
theorem cU(q:Qs):∀(t:Bd) (r:Bool),((t.Cj q r).map fun p=>p.1.CU.AG).sum=t.AJ
 | .rest,_=>rfl
 | .pay _ _,_=>rfl
 | .put _ _,_=>rfl
 | .use _,_=>rfl
 | .Bb a,r=>by
  show(((Bd.Bb a,r)::a.Cj q r).map fun p=>p.1.CU.AG).sum=a.AG+a.AJ
  rw[JG,MO,cU q a r];rfl
 | .AL a b,r=>by
  show((((a.pr q r++b.pr q r).filter fun p=>p.1.C4)).map fun p=>p.1.CU.AG).sum=a.AJ+b.AJ
  rw[Kl,JP,ME]
  have h1:=cU q a r;have h2:=cU q b r;unfold Bd.Cj at h1 h2;rw[h1,h2]
 | .Bs a b,r=>by
  show((((a.pr q r++b.pr q r).filter fun p=>p.1.C4)).map fun p=>p.1.CU.AG).sum=a.AJ+b.AJ
  rw[Kl,JP,ME]
  have h1:=cU q a r;have h2:=cU q b r;unfold Bd.Cj at h1 h2;rw[h1,h2]
 | .Bl z m a b,r=>by
  show((((a.pr q (r&&q z)++b.pr q r).filter fun p=>p.1.C4)).map fun p=>p.1.CU.AG).sum=a.AJ+b.AJ
  rw[Kl,JP,ME]
  have h1:=cU q a (r&&q z);have h2:=cU q b r;unfold Bd.Cj at h1 h2;rw[h1,h2]
theorem mi(q:Qs):∀(l:List (Bd×Bool)) (n:Nat),(((l.zipIdx n).filter fun c=>c.1.2).flatMap (j4 q)).length<=(l.map fun p=>p.1.CU.AG).sum
 |[],_=>JM _
 |p::l,n=>by
  rw[List.zipIdx_cons,JG,MO]
  have h1:=mi q l (n+1)
  have h2:(j4 q (p,n)).length<=p.1.CU.AG:=by unfold j4;rw[Jk];exact Bd.AT q _
  rw[Ms]
  split
  ·rw[Mj,Jj];omega
  ·omega
def rP{α:Type}(f:α->List PV)(xs:List α)(k:Nat):((xs.take k).flatMap f).length<=(xs.flatMap f).length:=by
 have e:xs.flatMap f=(xs.take k).flatMap f++(xs.drop k).flatMap f:=by rw[<-JY,Mn]
 rw[e,Jj];omega
def Bd.C8(q:Qs)(t:Bd):(t.DH q).length<=t.AJ:=by
 have:=mi q (t.Cj q true) 0
 rw[cU]at this
 exact this
def lw{q:Qs}{t:Bd}{r:Bool}{p:Bd×Bool}(h:p∈t.Cj q r):∃a,p.1 = .Bb a:=by
 have:=(Ku.mp h).2
 cases e:p.1<;>rw[e]at this<;>first|exact⟨_,rfl⟩|cases this
theorem gT(q:Qs)(js us:Vs):∀(t:Bd) (r:Bool) (p:Bd×Bool),p∈t.pr q r->(t.good js us->p.1.good js us)/\p.1.dep<=t.dep/\p.1.size<=t.size
 | .rest,r,p,h=>by rw[Js.mp h];exact⟨id,Jm _,Jm _⟩
 | .pay _ _,r,p,h=>by rw[Js.mp h];exact⟨id,Jm _,Jm _⟩
 | .put _ _,r,p,h=>by rw[Js.mp h];exact⟨id,Jm _,Jm _⟩
 | .use _,r,p,h=>by rw[Js.mp h];exact⟨id,Jm _,Jm _⟩
 | .Bb a,r,p,h=>by
  rcases Jq.mp h with rfl|h
  ·exact⟨id,Jm _,Jm _⟩
  ·obtain⟨h1,h2,h3⟩:=gT q js us a r p h
   exact⟨fun g=>h1 g,by simp only[Bd.dep];omega,by simp only[Bd.size];omega⟩
 | .AL a b,r,p,h=>by
  rcases Jq.mp h with rfl|h
  ·exact⟨id,Jm _,Jm _⟩
  rcases Ju.mp h with h|h
  ·obtain⟨h1,h2,h3⟩:=gT q js us a r p h
   exact⟨fun g=>h1 g.1,by simp only[Bd.dep];omega,by simp only[Bd.size];omega⟩
  ·obtain⟨h1,h2,h3⟩:=gT q js us b r p h
   exact⟨fun g=>h1 g.2,by simp only[Bd.dep];omega,by simp only[Bd.size];omega⟩
 | .Bs a b,r,p,h=>by
  rcases Jq.mp h with rfl|h
  ·exact⟨id,Jm _,Jm _⟩
  rcases Ju.mp h with h|h
  ·obtain⟨h1,h2,h3⟩:=gT q js us a r p h
   exact⟨fun g=>h1 g.1,by simp only[Bd.dep];omega,by simp only[Bd.size];omega⟩
  ·obtain⟨h1,h2,h3⟩:=gT q js us b r p h
   exact⟨fun g=>h1 g.2,by simp only[Bd.dep];omega,by simp only[Bd.size];omega⟩
 | .Bl z m a b,r,p,h=>by
  rcases Jq.mp h with rfl|h
  ·exact⟨id,Jm _,Jm _⟩
  rcases Ju.mp h with h|h
  ·obtain⟨h1,h2,h3⟩:=gT q js us a _ p h
   exact⟨fun g=>h1 g.2.2.2.1,by simp only[Bd.dep];omega,by simp only[Bd.size];omega⟩
  ·obtain⟨h1,h2,h3⟩:=gT q js us b r p h
   exact⟨fun g=>h1 g.2.2.2.2,by simp only[Bd.dep];omega,by simp only[Bd.size];omega⟩
theorem rQ:∀{xs:List Nat} {x:Nat},x∈xs->x<=xs.sum
 |y::r,x,h=>by
  rw[MO]
  rcases Jq.mp h with rfl|h
  ·omega
  ·have:=rQ h;omega
def rR{q:Qs}{js us:Vs}{t:Bd}{r:Bool}{p:Bd×Bool}(h:p∈t.Cj q r)(g:t.good js us):p.1.CU.good js us/\p.1.CU.dep<=t.dep/\p.1.CU.AG<=t.AJ:=by
 obtain⟨a,ea⟩:=lw h
 obtain⟨h1,h2,_⟩:=gT q js us t r p (Ku.mp h).1
 refine⟨by have:=h1 g;rw[ea]at this ⊢;exact this,by rw[ea]at h2 ⊢;simp only[Bd.dep]at h2;simp only[Bd.CU];omega,?_⟩
 rw[<-cU q t r]
 exact rQ (JO.mpr ⟨p,h,rfl⟩)
theorem eE{α:Type}{g:Tg}{tc:iJ}{te:aV}{σ':b3}{keep:aq->Prop}{fin:List PV->aq->Prop}{S:aq}(enc f:α->PV)(c:α->Bool)(hk:keep S):∀(xs:List α) (ys:List PV),
  (∀x∈xs,∃σ2,g.put (enc x) σ'=some σ2/\(∀K:Bool->aq->Prop,K (c x) S->tc σ2 S K cX)/\(c x=true->∀Q:bM,Q (f x) S->te σ2 S Q cX))->ys.length+xs.length<=sizeLine->fin (ys++(xs.filter c).map f) S->b_ g tc te σ' keep fin (xs.map enc) ys S
 |[],ys,_,hl,hf=>⟨hk,by simpa using hl,by simpa using hf⟩
 |x::r,ys,h,hl,hf=>by
  obtain⟨σ2,e,h1,h2⟩:=h x (by simp)
  refine⟨hk,by simp at hl;omega,?_⟩
  rw[e]
  refine h1 _ ?_
  by_cases hc:c x=true
  ·rw[if_pos hc]
   refine h2 hc _ (eE enc f c hk r (ys++[f x]) (fun y hy=>h y (by simp[hy])) (by simp at hl ⊢;omega) ?_)
   rw[List.filter_cons_of_pos hc]at hf
   simpa using hf
  ·rw[if_neg hc]
   refine eE enc f c hk r ys (fun y hy=>h y (by simp[hy])) (by simp at hl;omega) ?_
   rw[List.filter_cons_of_neg hc]at hf
   exact hf
def gU{α:Type}(enc:α->PV)(xs:List α):L3.aQ (xs.map enc)=xs.zipIdx.map fun c=>.tup [.int (c.2:Int),enc c.1]:=by
 unfold L3.aQ
 rw[List.mapIdx_eq_zipIdx_map,List.zipIdx_map,K5]
 rfl
noncomputable def np(c:Nb):PV:=.tup [.int (c.2:Int),c.1.1.CU.pv]
abbrev jP(w:aC):Prop:=∀{S:aq} {t:Bd} {js us hs:Vs} {nm:Addr} {Q:bM} {E:cQ},t.dep<=6->t.size<=900->t.good js us->jL js->jL hs->S nm=some (.lst (hs.map PV.str))->
  (∀p S',S p=none->Ext S S'->S' p=some (.lst ((come (mq hs) t).map np))->Q (.ref p) S')->w [t.pv,.ref nm] S Q E
def Dm{xp:aC}(DG:jM 6 xp):jP (AN 3 (cj xp)):=by
 intro S t js us hs nm Q E hd hz hg hj hh hn k
 unfold cj
 refine fG ?_
 rw[show aB 3 [t.pv,.ref nm]=[some t.pv,some (.ref nm),none] from rfl]
 refine al fun N hN=>?_
 simp only[au,aE,aD,ip,am,v3,lk,List.cons_append,List.nil_append]
 refine DG hd hz hg hj hh hn fun p S1 hp X1 f1=>?_
 simp only[bv,f1]
 have hpl:=t.BD (mq hs) true
 refine eE eB eB (fun p=>p.1.C4) f1 (t.pr (mq hs) true) [] (fun x hx=>⟨_,rfl,?_,fun _ Q q=>q⟩) (bx (by rw[J7,K6,hpl];omega)) ?_
 ·intro K hK
  have e:eB x = .tup [.tup (.str x.1.hd::x.1.tl),.bl x.2]:=by unfold eB;rw[Bd.Ce]
  simp only[aS,ah,v3,lk,c3,ae,e,cR,List.reduceReplicate,Kg,JN,List.set_cons_zero,d4,bc,Jt]
  have e2:decide (x.1.hd=("often":Str))=x.1.C4:=by cases x.1<;>simp[Bd.hd,aF,Bd.C4]
  rw[e2]
  exact hK
 intro p2 hp2
 rw[J6]
 have X2:Ext S1 (AH S1 p2 (.lst ((t.Cj (mq hs) true).map eB))):=.new hp2
 have f2:(AH S1 p2 (.lst ((t.Cj (mq hs) true).map eB))) p2=some (.lst ((t.Cj (mq hs) true).map eB)):=aa
 show N _ (AH S1 p2 (.lst ((t.Cj (mq hs) true).map eB)))
 generalize AH S1 p2 (.lst ((t.Cj (mq hs) true).map eB))=S2 at X2 f2
 refine hN _ _ ?_
 simp only[aw,aE,b6,v3,lk,List.set_cons_zero,List.set_cons_succ,f2]
 rw[gU]
 have hol:(t.Cj (mq hs) true).length<=900:=Jw (Mm _ _) (by rw[hpl];exact hz)
 refine eE (fun c:Nb=>.tup [.int (c.2:Int),eB c.1]) np (fun c=>c.1.2) f2 (t.Cj (mq hs) true).zipIdx [] (fun c hc=>⟨_,rfl,?_,?_⟩) (bx (by rw[J7,K6,List.length_zipIdx];omega)) ?_
 ·intro K hK
  simp only[aS,ah,v3,lk,c3,ae,eB,cR,List.reduceReplicate,Kg,JN,List.set_cons_zero,List.set_cons_succ,hU]
  exact hK
 ·intro hc2 Q q
  obtain⟨a,ea⟩:=lw (p:=c.1) (KC hc)
  simp only[av,am,ah,v3,lk,c3,ae,eB,cR,List.reduceReplicate,Kg,JN,List.set_cons_zero,List.set_cons_succ,d4,hU,ea,Bd.pv]
  have:np c = .tup [.int (c.2:Int),a.pv]:=by unfold np;rw[ea];rfl
  rw[this]at q
  exact q
 intro p3 hp3
 rw[J6]
 exact k p3 _ ((X1.trans X2).free hp3) ((X1.trans X2).trans (.new hp3)) aa
def mj{S S1 S2:aq}{q:Qs}{c:Nb}{σ:b3}{j:Nat}{nm pf:Addr}{os:List PV}{xp:aC}{js us hs:Vs}{K:aq->Prop}(B4:bR 6 xp)(hq:q=mq hs)(ga:c.1.1.CU.good js us)(da:c.1.1.CU.dep<=6)(pa:c.1.1.CU.AG<=1000)(hj:jL js)(hh:jL hs)(hn:S2 nm=some (.lst (hs.map PV.str)))
  (hpf:S pf=none) (X2:Ext S S2) (XB:Cf pf S1 S2) (f2:S2 pf=some (.lst os)) (hl:os.length+(j4 q c).length<=1000) (eb:cR 1 [j] σ=[none,some (.int (c.2:Int))])
  (k:∀S3,Ext S S3->Cf pf S1 S3->S3 pf=some (.lst (os++j4 q c))->K S3) :
  xp [c.1.1.CU.pv,.ref nm] S2 (fun v S4=>match bv S4 v with
   |some src=>b_ (.n 0) bq (av [v3 1,v3 0]) (cR 1 [j] σ) src.keep (fun zs S5=>∀q,S5 q=none->aH (.ref pf) [.ref q] (AH S5 q (.lst zs)) fun _ S6=>K S6) src.items [] S4
   |none=>False) cX:=by
 subst hq
 refine B4 da pa ga hj hh hn fun pp S4 hpp X4 f4=>?_
 simp only[bv,f4,eb]
 have Hg:=X4 _ _ f2
 have Gg:=Bd.AT (mq hs) c.1.1.CU
 have key:=cn (g:=.n 0) (te:=av [v3 1,v3 0]) (σ':=[none,some (.int (c.2:Int))]) (keep:=fun S'=>S' pp=some (.lst (c.1.1.CU.ps (mq hs)))) (fin:=fun zs S5=>∀q,S5 q=none->aH (.ref pf) [.ref q] (AH S5 q (.lst zs)) fun _ S6=>K S6) (fun y:PV=>y) (fun y=>.tup [.int (c.2:Int),y]) f4 (c.1.1.CU.ps (mq hs)) [] (fun y hy=>⟨_,rfl,fun Q q=>q⟩) (by rw[J7,K6];exact bx (by omega)) (by
  intro pq hpq
  rw[J6]
  have nq:pf≠pq:=fun h=>by rw[h,hpq]at Hg;cases Hg
  simp only[aH,ai nq,Hg,aa]
  refine⟨bx hl,k _ ((X2.trans (X4.trans (.new hpq))).put hpf) (fun a o h n=>?_) aa⟩
  have h2:=X4 _ _ (XB a o h n)
  rw[ai n,ai (fun h'=>by rw[h',hpq]at h2;cases h2)]
  exact h2)
 rw[MT]at key
 exact key
abbrev gc(w:aC):Prop:=∀{S:aq} {js:Vs} {ds:List (Str×Bd)} {i:Nat} {z:Str} {t:Bd} {Q:bM} {E:cQ},HP js ds->ds[i]?=some (z,t)->
  (∀hs p S',Ep js ds hs->S p=none->Ext S S'->S' p=some (.lst (t.DH (mq hs)))->Q (.ref p) S')->w [Bj js ds,.int (i:Int)] S Q E
def CK{xf xc xp:aC}(EU:eC xf)(Dm:jP xc)(B4:bR 6 xp):gc (AN 6 (jD xf xc xp)):=by
 intro S js ds i z t Q E hP hi k
 unfold jD
 refine fG ?_
 rw[show aB 6 [Bj js ds,.int (i:Int)]=[some (.tup [.tup (js.map PV.str),.tup (ds.map e_)]),some (.int (i:Int)),none,none,none,none] from rfl]
 have hm:(z,t)∈ds:=JI hi
 have hat:Be (ds.map e_) (i:Int)=some (.tup [.str z,t.pv]):=jJ (by rw[Jx,hi];rfl)
 have Fo:t.dep<=6:=hP.dp _ hm
 have hsz:t.size<=60:=hP.sz _ hm
 have Fv:t.AG+t.AJ<=1000:=hP.pc _ hm
 have hgd:t.good js []:=hP.gd _ hm
 refine al fun N hN=>?_
 simp only[au,ac,am,v3,lk]
 refine EU hP.toHG fun nm hs S1 hnm X1 FG hf=>?_
 have hh:=hf.ok hP.jw
 refine hN _ _ (al fun N hN=>?_)
 simp only[au,bm,am,List.set_cons_zero,List.set_cons_succ]
 intro pf hpf
 have X2:Ext S1 (AH S1 pf (.lst [])):=.new hpf
 have f2:(AH S1 pf (.lst [])) pf=some (.lst []):=aa
 have Ev:=X2 _ _ FG
 generalize AH S1 pf (.lst [])=S2 at X2 f2 Ev
 refine hN _ _ (al fun N hN=>?_)
 simp only[bY,aD,ac,am,ah,v3,lk,c3,ae,hU,hat]
 refine Dm Fo (by omega) hgd hP.jw hh Ev fun pc S3 Ew X3 f3=>?_
 simp only[bv,f3]
 have Es:=X1.free hpf
 have Hh:Ext S S3:=X1.trans (X2.trans X3)
 have Hi:pc≠pf:=fun h=>by rw[h,f2]at Ew;cases Ew
 have Hj:nm≠pf:=fun h=>by rw[h,hpf]at FG;cases FG
 have hcl:((come (mq hs) t).flatMap (j4 (mq hs))).length<=1000:=Jw (t.C8 (mq hs)) (by omega)
 have Ie:∀c∈come (mq hs) t,c.1∈t.Cj (mq hs) true:=fun c hc=>KC (Ku.mp hc).1
 generalize Jf:come (mq hs) t=cs at hcl Ie f3
 refine bK (fun done σ S'=>∃(x4 x5:Option PV),σ=[some (.tup [.tup (js.map PV.str),.tup (ds.map e_)]),some (.int (i:Int)),some (.ref nm),some (.ref pf),x4,x5]/\Ext S S'/\Cf pf S3 S'/\S' pf=some (.lst ((cs.take done.length).flatMap (j4 (mq hs))))) ⟨_,_,rfl,Hh,.refl,X3 _ _ f2⟩ (fun _ _ _ ⟨_,_,_,_,XB,_⟩=>XB _ _ f3 Hi) ?_ ?_
 ·rintro done x rest σ S4 K e ⟨x4,x5,rfl,X4,XB,f4⟩ hK
  have hget:(cs.map np)[done.length]?=some x:=by rw[e];simp
  obtain⟨c,hc,rfl⟩:∃c,cs[done.length]?=some c/\np c=x:=by rw[Jx]at hget;exact JT.mp hget
  have hcc:c∈cs:=JI hc
  obtain⟨gi,di,pi⟩:=rR (Ie c hcc) hgd
  have Gj:cs.take (done.length+1)=cs.take done.length++[c]:=by rw[La,hc];rfl
  have F0:(cs.take (done.length+1)).flatMap (j4 (mq hs))=(cs.take done.length).flatMap (j4 (mq hs))++j4 (mq hs) c:=by rw[Gj,JY];simp
  have hl:((cs.take done.length).flatMap (j4 (mq hs))).length+(j4 (mq hs) c).length<=1000:=by
   rw[<-Jj,<-F0];exact Jw (rP _ _ _) hcl
  simp only[np,Tg.put,Tg.AK,List.set_cons_zero,List.set_cons_succ]
  simp only[aG,cH,j3,am,v3,lk,f4,KW,aE,aD,ac]
  refine mj (K:=fun S6=>K _ S6) B4 rfl gi (by omega) (by omega) hP.jw hh (XB _ _ (X3 _ _ Ev) Hj) Es X4 XB f4 hl rfl fun S5 X5 Hk f5=>?_
  exact hK _ _ ⟨_,_,rfl,X5,Hk,by rw[f5,Jj,Jy,F0]⟩
 ·rintro σ S4 ⟨x4,x5,rfl,X4,XB,f4⟩
  refine hN _ _ ?_
  simp only[aw,v3,lk]
  rw[Jk,Ln]at f4
  exact k hs pf S4 hf Es X4 (by rw[f4,<-Jf];rfl)
noncomputable def gf(p:Bd×Bool):PV:=if p.2 then p.1.CU.pv else .non
def nu{t:Bd}{S:aq}{Q:bM}:qM true t.pv .non S Q=Q (.bl true) S:=by cases t<;>rfl
def ug{S:aq}{Q:bM}:qM true .non .non S Q=Q (.bl false) S:=rfl
abbrev gV(n:Nat)(w:aC):Prop:=∀{S:aq} {t:Bd} {js us hs:Vs} {nm:Addr} {r:Bool} {Q:bM} {E:cQ},t.dep<=n->t.size<=900->t.good js us->jL js->jL hs->S nm=some (.lst (hs.map PV.str))->
  (∀p S',S p=none->Ext S S'->S' p=some (.lst ((t.Cj (mq hs) r).map gf))->Q (.ref p) S')->w [t.pv,.ref nm,.bl r] S Q E
def oi(q:Qs)(t:Bd)(r:Bool):(t.Cj q r).length<=t.size:=Jw (Mm _ _) (Nat.le_of_eq (t.BD q r))
def uh{s0:aC}(n:Nat)(ih:gV n s0):gV (n+1) (AN 4 (dN s0)):=by
 intro S t js us hs nm r Q E hd hz hg hj hh hn k
 unfold dN
 refine fG ?_
 rw[Bd.Ce,show aB 4 [.tup (.str t.hd::t.tl),.ref nm,.bl r]=[some (.tup (.str t.hd::t.tl)),some (.ref nm),some (.bl r),none] from rfl]
 refine al fun N hN=>?_
 simp only[au,bm,am,List.set_cons_zero,List.set_cons_succ]
 intro pf hpf
 have X0:Ext S (AH S pf (.lst [])):=.new hpf
 have f0:(AH S pf (.lst [])) pf=some (.lst []):=aa
 generalize AH S pf (.lst [])=S0 at X0 f0
 have hn0:=X0 _ _ hn
 refine hN _ _ (al fun N hN=>?_)
 -- one more call behind what is found
 have call:∀(a:Bd) (r':Bool) (os:List (Bd×Bool)) (S1:aq) (N':aq->Prop),a.dep<=n->a.size<=900->os.length+a.size<=900->a.good js us->Ext S S1->S1 pf=some (.lst (os.map gf))->(∀S2,Ext S S2->S2 pf=some (.lst ((os++a.Cj (mq hs) r').map gf))->N' S2)->
   s0 [a.pv,.ref nm,.bl r'] S1 (fun v S2=>aH (.ref pf) [v] S2 fun _ S3=>N' S3) cX:=by
  intro a r' os S1 N' da za ho ga X1 f1 kk
  refine ih da za ga hj hh (X1 _ _ hn) fun p2 S2 hp2 X2 f2=>?_
  have Jg:=X2 _ _ f1
  simp only[aH,Jg,f2]
  refine⟨bx (by rw[Jk,Jk];have:=oi (mq hs) a r';omega),kk _ ((X1.trans X2).put hpf) (by rw[aa,JP])⟩
 have last:∀(os:List (Bd×Bool)) (S1:aq),Ext S S1->S1 pf=some (.lst (os.map gf))->t.Cj (mq hs) r=os->aw (v3 3) { nx:=fun _ S'=>Q .non S',rt:=Q,ex:=cX } [some (.tup (.str t.hd::t.tl)),some (.ref nm),some (.bl r),some (.ref pf)] S1:=by
  intro os S1 X1 f1 e
  simp only[aw,v3,lk]
  exact k pf S1 hpf X1 (by rw[f1,e])
 simp only[bo,aS,ah,v3,lk,c3,ae,d4,bc,Jt,Jz]
 by_cases h1:t.hd=("often":Str)
 ·rw[if_pos h1]
  cases t with
  |Bb a=>
   simp only[Bd.dep]at hd
   simp only[Bd.size]at hz
   refine al fun N2 BK=>?_
   simp only[Bd.hd,Bd.tl,aG,cH,j3,am,ah,bm,ap,v3,lk,c3,ae,hU,f0,KW]
   intro p1 hp1
   have n1:pf≠p1:=fun h=>by rw[h,hp1]at f0;cases f0
   simp only[jq,aa]
   have hat:Be [PV.non,a.pv] (if r=true then 1 else 0)=some (gf (.Bb a,r)):=by cases r<;>rfl
   rw[hat]
   simp only[bj,ai n1,f0]
   refine⟨by decide,?_⟩
   have X1:Ext S (AH (AH S0 p1 (.lst [.non,a.pv])) pf (.lst ([]++[gf (.Bb a,r)]))):=(X0.trans (.new hp1)).put hpf
   have f1:(AH (AH S0 p1 (.lst [.non,a.pv])) pf (.lst ([]++[gf (.Bb a,r)]))) pf=some (.lst ([(Bd.Bb a,r)].map gf)):=aa
   generalize AH (AH S0 p1 (.lst [.non,a.pv])) pf (.lst ([]++[gf (.Bb a,r)]))=S1 at X1 f1
   refine BK _ _ ?_
   simp only[aG,cH,j3,am,ah,ac,v3,lk,c3,ae,hU,f1,KW]
   refine call a r [(.Bb a,r)] S1 (fun S'=>N [some (.tup (.str (Bd.Bb a).hd::(Bd.Bb a).tl)),some (.ref nm),some (.bl r),some (.ref pf)] S') (by omega) (by omega) (by rw[Jy];omega) hg X1 f1 fun S2 X2 f2=>?_
   refine hN _ _ (al fun N hN=>?_)
   simp only[bo,aS,ah,v3,lk,c3,ae,d4,av,am]
   rw[show([PV.str "then",PV.str "either",PV.str "take"]:List PV)=(["then","either","take"]:Vs).map PV.str from rfl]
   refine bG (Bd.Bb a).C3 dj ?_
   rw[show decide ((Bd.Bb a).hd∈(["then","either","take"]:Vs))=false by simp[Bd.hd,aF]]
   simp only[Jt,Jv,JR,aM]
   refine hN _ _ ?_
   exact last _ S2 X2 f2 rfl
  |_=>simp[Bd.hd,aF]at h1
 rw[if_neg h1]
 simp only[aM]
 refine hN _ _ (al fun N hN=>?_)
 simp only[bo,aS,ah,v3,lk,c3,ae,d4,av,am]
 rw[show([PV.str "then",PV.str "either",PV.str "take"]:List PV)=(["then","either","take"]:Vs).map PV.str from rfl]
 refine bG t.C3 dj ?_
 rw[Jt]
 by_cases h3:t.hd∈(["then","either","take"]:Vs)
 ·rw[JV h3]
  simp only[JW]
  have sides:∀(hd2:List PV) (a b:Bd),(.str t.hd::t.tl)=hd2++[a.pv,b.pv]->Be (.str t.hd::t.tl) (-1)=some b.pv/\Be (.str t.hd::t.tl) (-2)=some a.pv:=fun hd2 a b e1=>⟨by rw[e1];have:=cx (a:=a.pv) (b:=b.pv) (hd:=hd2) (i:=1) (.inr rfl);simpa using this,by rw[e1];have:=cx (a:=a.pv) (b:=b.pv) (hd:=hd2) (i:=0) (.inl rfl);simpa using this⟩
  have both:∀(a b:Bd) (hd2:List PV) (r':Bool),(.str t.hd::t.tl)=hd2++[a.pv,b.pv]->a.dep<=n->b.dep<=n->a.size+b.size<=900->a.good js us->b.good js us->t.Cj (mq hs) r=a.Cj (mq hs) r'++b.Cj (mq hs) r->
    (∀(S1:aq) (Q1:bM),S1 nm=some (.lst (hs.map PV.str))->Q1 (.bl r') S1->bP (v3 2) (j2 (ah (bc true) (ah ae (v3 0) (c3 (.int 0))) (c3 (.str "take"))) (ah (iL false) (ah ae (v3 0) (c3 (.int 1))) (v3 1))) [some (.tup (.str t.hd::t.tl)),some (.ref nm),some (.bl r),some (.ref pf)] S1 Q1 cX)->
    ag (aG (cH "list" aH (v3 3) [ac s0 [ah ae (v3 0) (dG bn (c3 (.int 2))),v3 1,bP (v3 2) (j2 (ah (bc true) (ah ae (v3 0) (c3 (.int 0))) (c3 (.str "take"))) (ah (iL false) (ah ae (v3 0) (c3 (.int 1))) (v3 1)))]]))
     (aG (cH "list" aH (v3 3) [ac s0 [ah ae (v3 0) (dG bn (c3 (.int 1))),v3 1,v3 2]])) { nx:=N,rt:=Q,ex:=cX } [some (.tup (.str t.hd::t.tl)),some (.ref nm),some (.bl r),some (.ref pf)] S0:=by
   intro a b hd2 r' e1 da db F7 ga gb et hr
   obtain⟨sb,sa⟩:=sides hd2 a b e1
   refine al fun N2 BK=>?_
   simp only[aG,cH,j3,am,ac,ah,dG,bn,v3,lk,c3,ae,f0,KW,sa]
   refine hr S0 _ hn0 ?_
   refine call a r' [] S0 (fun S'=>N2 [some (.tup (.str t.hd::t.tl)),some (.ref nm),some (.bl r),some (.ref pf)] S') da (by omega) (by rw[J7];omega) ga X0 f0 fun S1 X1 f1=>?_
   refine BK _ _ ?_
   simp only[aG,cH,j3,am,ac,ah,dG,bn,v3,lk,c3,ae,f1,KW,sb]
   refine call b r _ S1 (fun S'=>N [some (.tup (.str t.hd::t.tl)),some (.ref nm),some (.bl r),some (.ref pf)] S') db (by omega) (by rw[J6];have:=oi (mq hs) a r';omega) gb X1 f1 fun S2 X2 f2=>?_
   refine hN _ _ ?_
   exact last _ S2 X2 f2 (by rw[et,J6])
  cases t with
  |AL a b=>
   simp only[Bd.dep]at hd
   simp only[Bd.size]at hz
   refine both a b [.str "then"] r rfl (by omega) (by omega) (by omega) hg.1 hg.2 (by show((a.pr (mq hs) r++b.pr (mq hs) r).filter _)=_;rw[Kl];rfl) fun S1 Q1 h1 q1=>?_
   have en:decide (("then":Str) = "take")=false:=by decide
   simp only[bP,j2,ah,v3,lk,c3,ae,d4,bc,Bd.hd,en,Kn,KA,JW]
   cases r
   ·exact q1
   ·exact q1
  |Bs a b=>
   simp only[Bd.dep]at hd
   simp only[Bd.size]at hz
   refine both a b [.str "either"] r rfl (by omega) (by omega) (by omega) hg.1 hg.2 (by show((a.pr (mq hs) r++b.pr (mq hs) r).filter _)=_;rw[Kl];rfl) fun S1 Q1 h1 q1=>?_
   have en:decide (("either":Str) = "take")=false:=by decide
   simp only[bP,j2,ah,v3,lk,c3,ae,d4,bc,Bd.hd,en,Kn,KA,JW]
   cases r
   ·exact q1
   ·exact q1
  |Bl z m a b=>
   simp only[Bd.dep]at hd
   simp only[Bd.size]at hz
   refine both a b [.str "take",.str z,.int m] (r&&mq hs z) rfl (by omega) (by omega) (by omega) hg.2.2.2.1 hg.2.2.2.2 (by show((a.pr (mq hs) (r&&mq hs z)++b.pr (mq hs) r).filter _)=_;rw[Kl];rfl) fun S1 Q1 h1 q1=>?_
   simp only[bP,j2,ah,v3,lk,c3,ae,d4,hU,bc,Bd.hd,Bd.tl,J5,Kn,Lx,Jv,JR]
   cases r
   ·exact q1
   ·simp only[JW]
    refine dA h1 (hj z hg.1) hh ?_
    rw[Jt]
    exact q1
  |_=>simp[Bd.hd,aF]at h3
 ·rw[JK h3]
  simp only[Jv,JR,aM]
  refine hN _ _ ?_
  refine last [] S0 X0 f0 ?_
  cases t<;>first|rfl|exact absurd rfl h1|simp[Bd.hd]at h3
abbrev fe(w:aC):Prop:=∀{S:aq} {t:Bd} {js us hs:Vs} {nm:Addr} {Q:bM} {E:cQ},t.dep<=6->t.size<=60->t.AG+t.AJ<=1000->t.good js us->jL js->jL hs->S nm=some (.lst (hs.map PV.str))->
  (∀p S',S p=none->Ext S S'->S' p=some (.lst (t.DH (mq hs)))->Q (.ref p) S')->w [t.pv,.ref nm] S Q E
def Cu{xo xp:aC}(Fz:gV 6 xo)(B4:bR 6 xp):fe (AN 5 (dO xo xp)):=by
 intro S t js us hs nm Q E Fo hsz Fv hgd hj hh hn k
 unfold dO
 refine fG ?_
 rw[show aB 5 [t.pv,.ref nm]=[some t.pv,some (.ref nm),none,none,none] from rfl]
 refine al fun N hN=>?_
 simp only[au,bm,am,List.set_cons_zero,List.set_cons_succ]
 intro pf hpf
 have X2:Ext S (AH S pf (.lst [])):=.new hpf
 have f2:(AH S pf (.lst [])) pf=some (.lst []):=aa
 have Ev:=X2 _ _ hn
 generalize AH S pf (.lst [])=S2 at X2 f2 Ev
 refine hN _ _ (al fun N hN=>?_)
 simp only[bY,b6,ac,am,v3,lk,c3]
 refine Fz Fo (by omega) hgd hj hh Ev fun pc S3 Ew X3 f3=>?_
 simp only[f3]
 rw[gU]
 have Hh:Ext S S3:=X2.trans X3
 have Hi:pc≠pf:=fun h=>by rw[h,f2]at Ew;cases Ew
 have Hj:nm≠pf:=fun h=>by rw[h,hpf]at hn;cases hn
 have hcl:(t.DH (mq hs)).length<=1000:=Jw (t.C8 (mq hs)) (by omega)
 refine bK (fun done σ S'=>∃(x3 x4:Option PV),σ=[some t.pv,some (.ref nm),some (.ref pf),x3,x4]/\Ext S S'/\Cf pf S3 S'/\S' pf=some (.lst ((((t.Cj (mq hs) true).zipIdx.take done.length).filter fun c=>c.1.2).flatMap (j4 (mq hs))))) ⟨_,_,rfl,Hh,.refl,X3 _ _ f2⟩ (fun _ _ _ ⟨_,_,_,_,XB,_⟩=>XB _ _ f3 Hi) ?_ ?_
 ·rintro done x rest σ S4 K e ⟨x3,x4,rfl,X4,XB,f4⟩ hK
  have hget:((t.Cj (mq hs) true).zipIdx.map fun c=>PV.tup [.int (c.2:Int),gf c.1])[done.length]?=some x:=by rw[e];simp
  obtain⟨c,hc,rfl⟩:∃c,(t.Cj (mq hs) true).zipIdx[done.length]?=some c/\PV.tup [.int (c.2:Int),gf c.1]=x:=by rw[Jx]at hget;exact JT.mp hget
  obtain⟨gi,di,pi⟩:=rR (KC (JI hc)) hgd
  have Gj:(t.Cj (mq hs) true).zipIdx.take (done.length+1)=(t.Cj (mq hs) true).zipIdx.take done.length++[c]:=by rw[La,hc];rfl
  simp only[Tg.put,Tg.AK,List.set_cons_zero,List.set_cons_succ]
  simp only[bo,aS,ah,v3,lk,c3]
  by_cases hc2:c.1.2=true
  ·have el:gf c.1=c.1.1.CU.pv:=by unfold gf;rw[if_pos hc2]
   rw[el,nu]
   simp only[JW]
   have F0:(((t.Cj (mq hs) true).zipIdx.take (done.length+1)).filter fun c=>c.1.2).flatMap (j4 (mq hs))=(((t.Cj (mq hs) true).zipIdx.take done.length).filter fun c=>c.1.2).flatMap (j4 (mq hs))++j4 (mq hs) c:=by
    rw[Gj,Kl,JY,List.filter_cons_of_pos (p:=fun c:Nb=>c.1.2) hc2];simp
   have hl:((((t.Cj (mq hs) true).zipIdx.take done.length).filter fun c=>c.1.2).flatMap (j4 (mq hs))).length+(j4 (mq hs) c).length<=1000:=by
    rw[<-Jj,<-F0]
    refine Jw ?_ hcl
    have e0:t.DH (mq hs)=(((t.Cj (mq hs) true).zipIdx.take (done.length+1)).filter fun c=>c.1.2).flatMap (j4 (mq hs))++(((t.Cj (mq hs) true).zipIdx.drop (done.length+1)).filter fun c=>c.1.2).flatMap (j4 (mq hs)):=by
     rw[<-JY,<-Kl,Mn];rfl
    rw[e0,Jj];omega
   simp only[aG,cH,j3,am,v3,lk,f4,KW,aE,aD,ac]
   refine mj (K:=fun S6=>K _ S6) B4 rfl gi (by omega) (by omega) hj hh (XB _ _ (X3 _ _ Ev) Hj) hpf X4 XB f4 hl rfl fun S5 X5 Hk f5=>?_
   exact hK _ _ ⟨_,_,rfl,X5,Hk,by rw[f5,Jj,Jy,F0]⟩
  ·have el:gf c.1 = .non:=by unfold gf;rw[if_neg hc2]
   rw[el,ug]
   simp only[Jv,JR,aM]
   refine hK _ _ ⟨_,_,rfl,X4,XB,?_⟩
   rw[f4,Jj,Jy,Gj,Kl,List.filter_cons_of_neg (p:=fun c:Nb=>c.1.2) hc2,List.filter_nil,JN]
 ·rintro σ S4 ⟨x3,x4,rfl,X4,XB,f4⟩
  refine hN _ _ ?_
  simp only[aw,v3,lk]
  rw[Jk,Ln]at f4
  exact k pf S4 hpf X4 f4
def rT(q:Qs)(t:Bd)(h:t.dep<=6):∀x∈t.DH q,EH 2 7 x:=by
 intro x hx
 obtain⟨c,hc,hx⟩:=K7.mp hx
 obtain⟨y,hy,rfl⟩:=JO.mp hx
 obtain⟨_,d,_⟩:=gT q [] [] t true c.1 (Ku.mp (KC (Ku.mp hc).1)).1
 obtain⟨a,ea⟩:=lw (KC (Ku.mp hc).1)
 have di:c.1.1.CU.dep<=6:=by rw[ea]at d ⊢;simp only[Bd.dep]at d;simp only[Bd.CU];omega
 refine .tup (Jm _) fun w hw=>?_
 rcases Jq.mp hw with rfl|hw
 ·exact .int _
 ·cases Js.mp hw;exact(Bd.Ct q _ _ hy).mono (Jm _) di
end C
namespace G31
open PySem L2 L3
noncomputable def bB(i:Nat):Stmt:=PySem.Challenge.pw_dueworth_k31_rounds.main.body.getD i (.Pass ⟨0,0,0,0⟩)
structure Txt (P:Program) (w:World) (K:Vo) (mg:Vr):Prop where
 o_sides_of:bw K mg "sides_of" (bB 2) ["body"]
 o_parts_in:bw K mg "parts_in" (bB 3) ["body"]
 o_parts:bw K mg "parts" (bB 4) ["body"]
 o_plain_trace:bw K mg "plain_trace" (bB 6) ["body"]
 o_led_to_part:bw K mg "led_to_part" (bB 7) ["body","place","trace"]
 o_parts_reached:l6 K mg "parts_reached" (bB 9) ["body","names","reached"]
 o_next_step:bw K mg "next_step" (bB 10) ["house","names"]
 o_filling:bw K mg "filling" (bB 11) ["house"]
 o_fillable:bw K mg "fillable" (bB 12) ["house"]
 o_passes_of_then:bw K mg "passes_of_then" (bB 14) ["body","names"]
 o_passes_of:bw K mg "passes_of" (bB 15) ["body","names"]
 o_oftens_come_to:bw K mg "oftens_come_to" (bB 16) ["body","names"]
 o_rounds:bw K mg "rounds" (bB 17) ["house","d"]
 o__law_deal:bw K mg "_law_deal" (bB 19) ["_law_script","_law_base"]
 o__law_draw:bw K mg "_law_draw" (bB 20) ["_law_deal_here","_law_many"]
 o__law_words:bw K mg "_law_words" (bB 21) ["_law_deal_here","_law_many"]
 o__law_low:bw K mg "_law_low" (bB 22) ["_law_top","_law_bottom"]
 o__law_cost:bw K mg "_law_cost" (bB 23) ["_law_deal_here"]
 o__law_leaf:bw K mg "_law_leaf" (bB 24) ["_law_deal_here","_law_jars"]
 o__law_body:bw K mg "_law_body" (bB 25) ["_law_deal_here","_law_jars","_law_left","_law_down"]
 o__law_pass_count:bw K mg "_law_pass_count" (bB 26) ["_law_body_here"]
 o__law_round_count:bw K mg "_law_round_count" (bB 27) ["_law_body_here"]
 o__law_deed_body:bw K mg "_law_deed_body" (bB 28) ["_law_deal_here","_law_jars","_law_most_parts","_law_most_lines"]
 o__law_house:bw K mg "_law_house" (bB 29) ["_law_deal_here","_law_most_jars","_law_most_deeds","_law_most_parts"]
 o__law_puts:bw K mg "_law_puts" (bB 30) ["_law_body_here","_law_held","_law_found"]
 o__law_fillable:bw K mg "_law_fillable" (bB 31) ["_law_house_here"]
 o__law_alike:bw K mg "_law_alike" (bB 32) ["_law_found","_law_due"]
 o__law_passes:bw K mg "_law_passes" (bB 33) ["_law_body_here","_law_held"]
 o__law_oftens:bw K mg "_law_oftens" (bB 34) ["_law_body_here","_law_held","_law_there"]
 o__law_rounds:bw K mg "_law_rounds" (bB 35) ["_law_body_here","_law_held"]
 o__law_chain:bw K mg "_law_chain" (bB 36) ["_law_deal_here"]
 o__law_any_house:bw K mg "_law_any_house" (bB 37) ["_law_deal_here"]
 o__law_swapped:bw K mg "_law_swapped" (bB 38) ["_law_body_here","_law_names"]
 o__law_kin:bw K mg "_law_kin" (bB 39) ["_law_house_here"]
 o__law_right:bw K mg "_law_right" (bB 40) ["_law_house_here"]
 E6:mg "all" = none
 Ex:mg "bool" = none
 AS:mg "enumerate" = none
 F1:mg "int" = none
 AU:mg "isinstance" = none
 BM:mg "len" = none
 Dn:mg "list" = none
 E7:mg "max" = none
 CV:mg "range" = none
 DO:mg "reversed" = none
 Bz:mg "tuple" = none
 E8:mg "zip" = none
 Do:∃a,mg "SIDES_FROM" = some (.ref a)/\KD P w K a (C.k_SIDES_FROM.map fun kv=>(kv.1,V.int kv.2))
section
variable {P:Program} {w:World} {K:Vo} {mg:Vr} {base:Heap}
def zQ:(["step","house"]:Vs).Nodup:=by decide +kernel
def zR:(["other","one"]:Vs).Nodup:=by decide +kernel
def yw:(["trace"]:Vs).Nodup:=by decide +kernel
def zS:(["found"]:Vs).Nodup:=by decide +kernel
def yx:(["number","found"]:Vs).Nodup:=by decide +kernel
def zT:(["trace","number"]:Vs).Nodup:=by decide +kernel
def uk:(["_law_one"]:Vs).Nodup:=by decide +kernel
def zU:(["_law_k","_law_deal_here","_law_letters"]:Vs).Nodup:=by decide +kernel
def zV:(["_law_j","_law_deal_here","_law_letters"]:Vs).Nodup:=by decide +kernel
def zW:(["_law_k","_law_deal_here","_law_first","_law_jars","_law_many","_law_most_parts","_law_words_here"]:Vs).Nodup:=by decide +kernel
def uO:(["_law_one","_law_other"]:Vs).Nodup:=by decide +kernel
def yy:(["_law_other","_law_one"]:Vs).Nodup:=by decide +kernel
def yz:(["_law_one","_law_number"]:Vs).Nodup:=by decide +kernel
def yA:(["_law_jar","_law_deal_here","_law_left"]:Vs).Nodup:=by decide +kernel
def uP:(["_law_k","_law_body_here","_law_words_here"]:Vs).Nodup:=by decide +kernel
def oj:(["_law_name","_law_body_here"]:Vs).Nodup:=by decide +kernel
def uQ:(["_law_name","_law_body_here","_law_names"]:Vs).Nodup:=by decide +kernel
def yB:(["_law_house_here"]:Vs).Nodup:=by decide +kernel
def eF:aC:=AN 1 C.fX
def iP(T:Txt P w K mg):BA P w K mg base 1 "sides_of" 1 eF:=ft ["body"] T.o_sides_of (fun _ _ _ _ _ _ _ hr nd=>(ak (ar (b5 (ad 0) (cG (Ax hr T.Do (bg hr (ad 0)) (cB dv T.BM (l1 (ad 0))))) dH)))) rfl
noncomputable def eG:Nat->aC
 |0=>lE
 |n+1=>AN 3 (C.fY eF (eG n))
def jQ:aC:=eG 12
def ml(T:Txt P w K mg):BA P w K mg base 13 "parts_in" 1 jQ:=iX (b:=1) (r:=eG) T.o_parts_in (fun n R0=>ft ["body","found","side"] T.o_parts_in (fun _ _ _ _ _ _ _ hr nd=>(ab (s4 1 nd (bi (l1 (ad 0))))
  (ab (dy JQ rfl (bA (c4 (iP T) hr (l1 (ad 0)))) (gn 2 nd) (ak (ba (jW bz bQ (ad 1) (l1 (c4 R0 hr (l1 (ad 2))))))))
  (ak (ar (ad 1)))))) rfl) rfl rfl 12
def lx:aC:=AN 1 (C.lp jQ)
def rV(T:Txt P w K mg):BA P w K mg base 14 "parts" 1 lx:=ft ["body"] T.o_parts (fun _ _ _ _ _ _ _ hr nd=>(ak (ar (cB dv T.BM (l1 (c4 (ml T) hr (l1 (ad 0)))))))) rfl
noncomputable def cy:Nat->aC
 |0=>lE
 |n+1=>AN 1 (C.dJ (cy n))
def fO:aC:=cy 12
def fg(T:Txt P w K mg):BA P w K mg base 12 "plain_trace" 1 fO:=iX (b:=0) (r:=cy) T.o_plain_trace (fun n R0=>ft ["body"] T.o_plain_trace (fun _ _ _ _ _ _ _ hr nd=>(ab (bb (fu hr (bg hr (ad 0)) ao) (ak (ar (aA (lc (c4 R0 hr (l1 (bg hr (ad 0)))) (l1 (c4 R0 hr (l1 (bg hr (ad 0))))))))) aJ)
  (ab (bb (fu hr (bg hr (ad 0)) ao) (ak (ar (aA (lc af (l1 (c4 R0 hr (l1 (bg hr (ad 0))))))))) aJ)
  (ab (bb (fu hr (bg hr (ad 0)) ao) (ak (ar (aA (lc af (l1 (c4 R0 hr (l1 (bg hr (ad 0))))))))) aJ)
  (ak (ar (aA b4))))))) rfl) rfl rfl 12
noncomputable def cz:Nat->aC
 |0=>lE
 |n+1=>AN 8 (C.dL lx fO (cz n))
def fP:aC:=cz 12
def jR(T:Txt P w K mg):BA P w K mg base 26 "led_to_part" 3 fP:=iX (b:=14) (r:=cz) T.o_led_to_part (fun n R0=>ft ["body","place","trace","one","other","second","side","inner"] T.o_led_to_part (fun _ _ _ _ _ _ _ hr nd=>(ab (bb (fu hr (ad 1) af) (ak (ar (ad 2))) aJ)
  (ab (bb (fu hr (bg hr (ad 0)) ao) (ak (ar (aA (l1 (aA (lc af (l1 (c4 R0 hr (lc (bg hr (ad 0)) (lc (aK eO (ad 1) af) (l1 (ad 2)))))))))))) aJ)
  (ab (s4 3 nd (dQ hr (ad 0) (d6 br af)))
  (ab (s4 4 nd (dQ hr (ad 0) (d6 br af)))
  (ab (s4 5 nd (aK aI af (c4 (rV T) hr (l1 (ad 3)))))
  (ab (s4 6 nd (uI (bd m8 (ad 1) (ad 5) (aX _)) af af))
  (ab (s4 7 nd (uI (fu hr (ad 6) af) (c4 R0 hr (lc (ad 3) (lc (aK eO (ad 1) af) (l1 (ad 2))))) (c4 R0 hr (lc (ad 4) (lc (aK eO (ad 1) (ad 5)) (l1 (ad 2)))))))
  (ab (bb (yV hr (bg hr (ad 0)) ao) (ak (ar (aA (lc (ad 6) (l1 (ad 7)))))) aJ)
  (ab (bb (fu hr (ad 6) af) (ak (ar (aA (lc (ad 7) (l1 (c4 (fg T) hr (l1 (ad 4)))))))) aJ)
  (ak (ar (aA (lc (c4 (fg T) hr (l1 (ad 3))) (l1 (ad 7)))))))))))))))) rfl) rfl rfl 12
noncomputable def bT:Nat->aC
 |0=>lE
 |n+1=>AN 7 (C.cJ eF (bT n))
def cK:aC:=bT 12
def d3(T:Txt P w K mg):EQ P w K mg base 13 "parts_reached" 3 cK:=yp (b:=1) (r:=bT) T.o_parts_reached (fun n R0=>Ay ["body","names","reached","found","number","side","shut"] T.o_parts_reached (fun _ _ _ _ _ _ _ hr nd=>(ab (s4 3 nd (bi (l1 (aA (lc (ad 0) (l1 (ad 2)))))))
  (ab (dy JQ rfl (eU rfl rfl T.AS (by decide +kernel) (l1 (c4 (iP T) hr (l1 (ad 0))))) (mz rfl (aP (gn 4 nd) (aP (gn 5 nd) cM))) (ab (s4 6 nd (ky (gx (jo (gH hr)) (bg hr (ad 0)) ao (aX _)) (ky (gx (jo (gH hr)) (ad 4) af (aX _)) (kw (gx (gA (dY hr)) (bg hr (ad 0)) (ad 1) rfl)))))
  (ak (ba (jW bz bQ (ad 3) (l1 (Az R0 hr (lc (ad 5) (lc (ad 1) (l1 (ky (ad 2) (kw (xV (ad 6))))))))))))))
  (ak (ar (ad 3)))))) rfl) rfl rfl 12
def fi:aC:=AN 7 (C.e8 cK fP)
def gW(T:Txt P w K mg):BA P w K mg base 27 "next_step" 2 fi:=ft ["house","names","d","deed","place","found","part"] T.o_next_step (fun _ _ _ _ _ _ _ hr nd=>(ab (dy JQ rfl (eU rfl rfl T.AS (by decide +kernel) (l1 (bg hr (ad 0)))) (mz rfl (aP (gn 2 nd) (aP (gn 3 nd) cM))) (ak (dy JQ rfl (eU rfl rfl T.AS (by decide +kernel) (l1 (cD (d3 T) hr (lc (bg hr (ad 3)) (l1 (ad 1)))))) (mz rfl (aP (gn 4 nd) (aP (gn 5 nd) cM))) (ab (s4 6 nd (bg hr (ad 5)))
  (ak (bb (oX (nS (lR (bg hr (ad 5))) (nS (fu hr (bg hr (ad 6)) ao) (mW (bd (gA (dY hr)) (bg hr (ad 6)) (ad 1) rfl))))) (ak (ar (aA (lc (yn PySem.F.plainAttrs_tuple PySem.F.slot_tuple_index PySem.F.type_tuple_index rm rfl (bg hr (ad 0)) (l1 (bg hr (ad 6)))) (lc (ad 2) (l1 (c4 (jR T) hr (lc (bg hr (ad 3)) (lc (ad 4) (l1 (aA b4))))))))))) aJ))))))
  (ak (ar lQ)))) rfl
def kP:aC:=AN 4 (C.iq fi)
def nv(T:Txt P w K mg):BA P w K mg base 28 "filling" 1 kP:=ft ["house","found","names","step"] T.o_filling (fun _ _ _ _ _ _ _ hr nd=>(ab (s4 1 nd (bi b4))
  (ab (s4 2 nd (bi b4))
  (ab (s4 3 nd (c4 (gW T) hr (lc (ad 0) (l1 (ad 2)))))
  (ab (i6 JQ (bd lU (ad 3) lQ (aX _)) (ab (ba (jW ck de (ad 1) (l1 (ad 3))))
  (ab (ba (jW ck de (ad 2) (l1 (dQ hr (bg hr (ad 0)) (bg hr (ad 3))))))
  (ak (s4 3 nd (c4 (gW T) hr (lc (ad 0) (l1 (ad 2)))))))))
  (ak (ar (ad 1)))))))) rfl
def gg:aC:=AN 1 (C.f8 kP)
def mn(T:Txt P w K mg):BA P w K mg base 29 "fillable" 1 gg:=ft ["house"] T.o_fillable (fun _ _ _ _ _ _ _ hr nd=>(ak (ar (mB ["house"] 1 [0] ["step","house"] (bA (c4 (nv T) hr (l1 (ad 0)))) (fun _=>(gn 0 zQ)) (fun _=>bW) (fun _=>(dQ hr (bg hr (ad 1)) (bg hr (ad 0)))))))) rfl
noncomputable def aZ:Nat->aC×aC
 |0=>(lE,lE)
 |n+1=>(AN 5 (C.bI (aZ n).1 (aZ n).2),AN 3 (C.dz (aZ n).1 (aZ n).2))
def cq(n:Nat):aC:=(aZ n).1
def fj(n:Nat):aC:=(aZ n).2
def gX(T:Txt P w K mg)(n:Nat){s0 s1:aC}(R0:BA P w K mg base (0+n) "passes_of_then" 2 s0)(R1:BA P w K mg base (0+n) "passes_of" 2 s1):BA P w K mg base (0+n+1) "passes_of_then" 2 (AN 5 (C.bI s0 s1)):=ft ["body","names","found","seconds","one"] T.o_passes_of_then (fun _ _ _ _ _ _ _ hr nd=>(ab (s4 2 nd (bi b4))
  (ab (s4 3 nd (c4 R1 hr (lc (bg hr (ad 0)) (l1 (ad 1)))))
  (ab (dy JQ rfl (bA (c4 R1 hr (lc (bg hr (ad 0)) (l1 (ad 1))))) (gn 4 nd) (ak (ba (jW bz bQ (ad 2) (l1 (mB ["one"] 1 [4] ["other","one"] (bA (ad 3)) (fun _=>(gn 0 zR)) (fun _=>bW) (fun _=>(aA (lc (ad 1) (l1 (ad 0)))))))))))
  (ak (ar (ad 2))))))) rfl
def ly(T:Txt P w K mg)(n:Nat){s0 s1:aC}(R0:BA P w K mg base (0+n) "passes_of_then" 2 s0)(R1:BA P w K mg base (0+n) "passes_of" 2 s1):BA P w K mg base (0+n+1) "passes_of" 2 (AN 3 (C.dz s0 s1)):=ft ["body","names","others"] T.o_passes_of (fun _ _ _ _ _ _ _ hr nd=>(ab (bb (fu hr (bg hr (ad 0)) ao) (ak (ar (c4 R0 hr (lc (ad 0) (l1 (ad 1)))))) aJ)
  (ab (bb (bd (gA (dY hr)) (bg hr (ad 0)) (aA (lc ao (l1 ao))) rfl) (ak (ar (bi (l1 (aA b4))))) aJ)
  (ab (wv [] 1 [] ["trace"] 2 nd (bA (c4 R1 hr (lc (dQ hr (ad 0) (d6 br af)) (l1 (ad 1))))) (fun _=>(gn 0 yw)) (fun _=>bW) (fun _=>(aA (lc af (l1 (ad 0))))))
  (ab (bb (oX (nS (fu hr (bg hr (ad 0)) ao) (mW (bd (gA (dY hr)) (bg hr (ad 0)) (ad 1) rfl)))) (ak (ar (ad 2))) aJ)
  (ak (ar (aK aI (mB [] 1 [] ["trace"] (bA (c4 R1 hr (lc (dQ hr (ad 0) (d6 br af)) (l1 (ad 1))))) (fun _=>(gn 0 yw)) (fun _=>bW) (fun _=>(aA (lc af (l1 (ad 0)))))) (ad 2))))))))) rfl
theorem dm(T:Txt P w K mg):∀n:Nat,BA P w K mg base (0+n) "passes_of_then" 2 (cq n)/\BA P w K mg base (0+n) "passes_of" 2 (fj n)
 |0=>⟨.zero T.o_passes_of_then,.zero T.o_passes_of⟩
 |n+1=>let ⟨h0,h1⟩:=dm T n;⟨gX T n h0 h1,ly T n h0 h1⟩
def iQ:aC:=fj 12
def lz(T:Txt P w K mg):BA P w K mg base 12 "passes_of" 2 iQ:=(dm T 12).2
def cr:aC:=AN 3 (C.cj cK)
def gY(T:Txt P w K mg):BA P w K mg base 14 "oftens_come_to" 2 cr:=ft ["body","names","oftens"] T.o_oftens_come_to (fun _ _ _ _ _ _ _ hr nd=>(ab (wv [] 1 [] ["found"] 2 nd (bA (cD (d3 T) hr (lc (ad 0) (l1 (ad 1))))) (fun _=>(gn 0 zS)) (fun _=>(qZ (fu hr (bg hr (bg hr (ad 0))) ao))) (fun _=>(ad 0)))
  (ak (ar (mB [] 2 [] ["number","found"] (eU rfl rfl T.AS (by decide +kernel) (l1 (ad 2))) (fun _=>(mz rfl (aP (gn 0 yx) (aP (gn 1 yx) cM)))) (fun _=>(qZ (lR (bg hr (ad 1))))) (fun _=>(aA (lc (ad 0) (l1 (bg hr (bg hr (ad 1)))))))))))) rfl
def jS:aC:=AN 6 (C.jD gg cr iQ)
def pO(T:Txt P w K mg):BA P w K mg base 30 "rounds" 2 jS:=ft ["house","d","names","told","number","inner"] T.o_rounds (fun _ _ _ _ _ _ _ hr nd=>(ab (s4 2 nd (c4 (mn T) hr (l1 (ad 0))))
  (ab (s4 3 nd (bi b4))
  (ab (dy JQ rfl (bA (c4 (gY T) hr (lc (bg hr (dQ hr (bg hr (ad 0)) (ad 1))) (l1 (ad 2))))) (mz rfl (aP (gn 4 nd) (aP (gn 5 nd) cM))) (ak (ba (jW bz bQ (ad 3) (l1 (mB ["number"] 1 [4] ["trace","number"] (bA (c4 (lz T) hr (lc (ad 5) (l1 (ad 2))))) (fun _=>(gn 0 zT)) (fun _=>bW) (fun _=>(aA (lc (ad 1) (l1 (ad 0)))))))))))
  (ak (ar (ad 3))))))) rfl
def iR:aC:=AN 5 C.eW
def gZ(T:Txt P w K mg):BA P w K mg base 1 "_law_deal" 2 iR:=ft ["_law_script","_law_base","_law_one","_law_some","_law_number"] T.o__law_deal (fun _ _ _ _ _ _ _ hr nd=>(ab (wv [] 1 [] ["_law_one"] 3 nd (bA (b5 (ad 0) (cG (ad 1)) (cG af))) (fun _=>(gn 0 uk)) (fun _=>bW) (fun _=>(cB (qP rfl) T.E7 (lc (ad 0) (l1 (aK eO af (ad 0)))))))
  (ab (s4 4 nd (aK aI af (ad 1)))
  (ab (dy JQ rfl (bA (ad 3)) (gn 2 nd) (ak (s4 4 nd (aK eV (aK aI (aK fU (ad 4) af) (aK eV (ad 2) af)) af))))
  (ak (ar (re (gG ao (ad 4) (gG ao af (gG ao (wm oS rfl (mB [] 1 [] ["_law_one"] (bA (ad 3)) (fun _=>(gn 0 uk)) (fun _=>(qZ (bd zK (ad 0) (aK yj af af) (aX _)))) (fun _=>(ad 0))) rfl T.Dn rfl T.DO) q_)))))))))) rfl
def w__law_draw:aC:=AN 5 C.eX
def aj(T:Txt P w K mg):BA P w K mg base 1 "_law_draw" 2 w__law_draw:=ft ["_law_deal_here","_law_many","_law_number","_law_one","_law_other"] T.o__law_draw (fun _ _ _ _ _ _ _ hr nd=>(ab (i6 JQ (oX (nS (fu hr (dQ hr (ad 0) ao) af) (mW (bd m9 (cB dv T.BM (l1 (dQ hr (ad 0) ao))) af (aX _))))) (ak (lX (sn hr) (yo rn uL (dQ hr (ad 0) ao)) (ad 0) ao)))
  (ab (s4 2 nd (dQ hr (ad 0) ao))
  (ab (bb (bd m9 (ad 2) af (aX _)) (ab (lX (sn hr) (aK lm (ad 2) (ad 1)) (ad 0) ao)
  (ak (ar (aK eV (ad 2) (ad 1))))) aJ)
  (ab (s4 3 nd (aK eV (aK aI (aK fU (dQ hr (ad 0) ao) af) af) af))
  (ab (lX (sn hr) (aK eV (aK aI (aK fU (ad 3) af) af) af) (ad 0) ao)
  (ab (s4 4 nd (aK eV (aK fU (dQ hr (ad 0) ao) (dQ hr (ad 0) ao)) af))
  (ak (ar (aK eV (aK aI (aK fU (aK eV (aK fU (ad 3) (ad 3)) af) af) (ad 4)) (ad 1))))))))))) rfl
def cV:aC:=AN 11 (C.d9 w__law_draw)
def fQ(T:Txt P w K mg):BA P w K mg base 2 "_law_words" 2 cV:=ft ["_law_deal_here","_law_many","_law_letters","_law_taken","_law_k","_law_core","_law_at","_law_turn","_law_near","_law_found","_law_name"] T.o__law_words (fun _ _ _ _ _ _ _ hr nd=>(ab (s4 2 nd ao)
  (ab (s4 3 nd (bi (lc ao (lc ao (lc ao (lc ao (lc ao (lc ao (lc ao (lc ao (lc ao (l1 ao))))))))))))
  (ab (s4 5 nd (jW n6 qT ao (l1 (mB ["_law_letters","_law_deal_here"] 1 [0,2] ["_law_k","_law_deal_here","_law_letters"] (gF rfl rfl T.CV (l1 (c4 (aj T) hr (lc (ad 0) (l1 af))))) (fun _=>(gn 0 zU)) (fun _=>bW) (fun _=>(dQ hr (ad 2) (c4 (aj T) hr (lc (ad 1) (l1 af)))))))))
  (ab (tR (i:=6) (j:=7) (k:=8) rfl nd rfl rfl rfl rfl rfl rfl (aA (lc (c4 (aj T) hr (lc (ad 0) (l1 (aK aI (cB dv T.BM (l1 (ad 5))) af)))) (lc (c4 (aj T) hr (lc (ad 0) (l1 af))) (l1 (gx (jo (gH hr)) (c4 (aj T) hr (lc (ad 0) (l1 af))) af (aX _)))))))
  (ab (s4 9 nd (bi b4))
  (ab (dy JQ rfl (gF rfl rfl T.CV (l1 (ad 1))) (gn 4 nd) (ab (s4 10 nd (aK aI (aK aI (b5 (ad 5) dH (cG (ad 6))) (dQ hr (ad 2) (aK eV (aK aI (ad 7) (ad 4)) af))) (b5 (ad 5) (cG (ad 6)) dH)))
  (ab (bb (uH (lR (ad 8))) (ak (s4 10 nd (jW n6 qT ao (l1 (mB ["_law_letters","_law_deal_here"] 1 [0,2] ["_law_j","_law_deal_here","_law_letters"] (gF rfl rfl T.CV (l1 (aK aI af (c4 (aj T) hr (lc (ad 0) (l1 af)))))) (fun _=>(gn 0 zV)) (fun _=>bW) (fun _=>(dQ hr (ad 2) (c4 (aj T) hr (lc (ad 1) (l1 af)))))))))) aJ)
  (ab (i6 JQ (oX (jm (bd (gy (dY hr)) (ad 10) (ad 3) rfl) (fL (bd (gy (dY hr)) (ad 10) (ad 9) rfl)))) (ak (s4 10 nd (aK aI (dQ hr (ad 2) (aK eV (aK aI (jW rq tQ (ad 2) (l1 (bg hr (ad 10)))) af) af)) (b5 (ad 10) (cG af) dH)))))
  (ak (ba (jW ck de (ad 9) (l1 (ad 10)))))))))
  (ak (ar (ad 9)))))))))) rfl
def gh:aC:=AN 4 C.fW
def mo(T:Txt P w K mg):BA P w K mg base 1 "_law_low" 2 gh:=ft ["_law_top","_law_bottom","_law_one","_law_other"] T.o__law_low (fun _ _ _ _ _ _ _ hr nd=>(ab (uM (i:=2) (j:=3) rfl nd rfl rfl (by decide) rfl rfl (lc (cB (qP rfl) T.E7 (lc (ad 0) (l1 (aK eO af (ad 0))))) (l1 (ad 1))))
  (ab (i6 JQ (bd m9 (ad 3) af (aX _)) (ak (uM (i:=2) (j:=3) rfl nd rfl rfl (by decide) rfl rfl (lc (ad 3) (l1 (aK eV (ad 2) (ad 3)))))))
  (ak (ar (aA (lc (aK lm (ad 0) (ad 2)) (l1 (aK lm (ad 1) (ad 2)))))))))) rfl
def fk:aC:=AN 2 (C.eY w__law_draw gh)
def lA(T:Txt P w K mg):BA P w K mg base 2 "_law_cost" 1 fk:=ft ["_law_deal_here","_law_form"] T.o__law_cost (fun _ _ _ _ _ _ _ hr nd=>(ab (s4 1 nd (c4 (aj T) hr (lc (ad 0) (l1 af))))
  (ab (bb (fu hr (ad 1) af) (ak (ar (aA (lc af (l1 af))))) aJ)
  (ab (bb (bd m8 (ad 1) af (aX _)) (ak (ar (aA (lc (aK aI af (c4 (aj T) hr (lc (ad 0) (l1 af)))) (l1 af))))) aJ)
  (ak (ar (c4 (mo T) hr (lc (c4 (aj T) hr (lc (ad 0) (l1 af))) (l1 (aK aI af (c4 (aj T) hr (lc (ad 0) (l1 af))))))))))))) rfl
def bX:aC:=AN 4 (C.cE w__law_draw fk)
def bL(T:Txt P w K mg):BA P w K mg base 3 "_law_leaf" 2 bX:=ft ["_law_deal_here","_law_jars","_law_form","_law_many"] T.o__law_leaf (fun _ _ _ _ _ _ _ hr nd=>(ab (s4 2 nd (c4 (aj T) hr (lc (ad 0) (l1 af))))
  (ab (bb (fu hr (ad 2) af) (ak (ar (aA (l1 ao)))) aJ)
  (ab (bb (oX (jm (bd m8 (ad 2) af (aX _)) (fL (fu hr (cB dv T.BM (l1 (ad 1))) af)))) (ak (ar (aA (lc ao (l1 (c4 (lA T) hr (l1 (ad 0)))))))) aJ)
  (ab (s4 3 nd (dQ hr (bi (lc af (lc af (l1 (aK aI af (c4 (aj T) hr (lc (ad 0) (l1 af)))))))) (c4 (aj T) hr (lc (ad 0) (l1 af)))))
  (ak (ar (aA (lc ao (lc (dQ hr (ad 1) (c4 (aj T) hr (lc (ad 0) (l1 (cB dv T.BM (l1 (ad 1))))))) (l1 (ad 3)))))))))))) rfl
noncomputable def dC:Nat->aC
 |0=>lE
 |n+1=>AN 8 (C.eZ w__law_draw bX (dC n))
def iS:aC:=dC 12
def lB(T:Txt P w K mg):BA P w K mg base 15 "_law_body" 4 iS:=iX (b:=3) (r:=dC) T.o__law_body (fun n R0=>ft ["_law_deal_here","_law_jars","_law_left","_law_down","_law_form","_law_one","_law_other","_law_many"] T.o__law_body (fun _ _ _ _ _ _ _ hr nd=>(ab (s4 4 nd (c4 (aj T) hr (lc (ad 0) (l1 af))))
  (ab (bb (oX (jm (fu hr (ad 3) af) (jm (bd m8 (bg hr (ad 2)) af (aX _)) (fL (bd m8 (ad 4) af (aX _)))))) (ak (ar (c4 (bL T) hr (lc (ad 0) (l1 (ad 1)))))) aJ)
  (ab (bb (bd m8 (ad 4) af (aX _)) (ab (lX (sn hr) (aK eO (bg hr (ad 2)) af) (ad 2) af)
  (ak (ar (aA (lc ao (l1 (c4 R0 hr (lc (ad 0) (lc (ad 1) (lc (ad 2) (l1 (aK eO (ad 3) af)))))))))))) aJ)
  (ab (lX (sn hr) (aK eO (bg hr (ad 2)) af) (ad 2) af)
  (ab (s4 5 nd (c4 R0 hr (lc (ad 0) (lc (ad 1) (lc (ad 2) (l1 (aK eO (ad 3) af)))))))
  (ab (s4 6 nd (c4 R0 hr (lc (ad 0) (lc (ad 1) (lc (ad 2) (l1 (aK eO (ad 3) af)))))))
  (ab (bb (bd m8 (ad 4) af (aX _)) (ak (ar (aA (lc ao (lc (ad 5) (l1 (ad 6))))))) aJ)
  (ab (bb (oX (jm (fu hr (ad 4) af) (fL (fu hr (cB dv T.BM (l1 (ad 1))) af)))) (ak (ar (aA (lc ao (lc (ad 5) (l1 (ad 6))))))) aJ)
  (ab (s4 7 nd (dQ hr (bi (lc af (lc af (lc af (l1 (aK aI af (c4 (aj T) hr (lc (ad 0) (l1 af))))))))) (c4 (aj T) hr (lc (ad 0) (l1 af)))))
  (ak (ar (aA (lc ao (lc (dQ hr (ad 1) (c4 (aj T) hr (lc (ad 0) (l1 (cB dv T.BM (l1 (ad 1))))))) (lc (ad 7) (lc (ad 5) (l1 (ad 6))))))))))))))))))) rfl) rfl rfl 12
noncomputable def bC:Nat->aC
 |0=>lE
 |n+1=>AN 1 (C.b7 (bC n))
def bD:aC:=bC 12
def dr(T:Txt P w K mg):BA P w K mg base 12 "_law_pass_count" 1 bD:=iX (b:=0) (r:=bC) T.o__law_pass_count (fun n R0=>ft ["_law_body_here"] T.o__law_pass_count (fun _ _ _ _ _ _ _ hr nd=>(ab (bb (fu hr (bg hr (ad 0)) ao) (ak (ar (aK fU (c4 R0 hr (l1 (bg hr (ad 0)))) (c4 R0 hr (l1 (bg hr (ad 0))))))) aJ)
  (ab (bb (oX (jm (fu hr (bg hr (ad 0)) ao) (fL (fu hr (bg hr (ad 0)) ao)))) (ak (ar (aK aI (c4 R0 hr (l1 (dQ hr (ad 0) (d6 br af)))) (c4 R0 hr (l1 (dQ hr (ad 0) (d6 br af))))))) aJ)
  (ak (ar af))))) rfl) rfl rfl 12
noncomputable def bu:Nat->aC
 |0=>lE
 |n+1=>AN 1 (C.bU bD (bu n))
def du:aC:=bu 12
def fH(T:Txt P w K mg):BA P w K mg base 24 "_law_round_count" 1 du:=iX (b:=12) (r:=bu) T.o__law_round_count (fun n R0=>ft ["_law_body_here"] T.o__law_round_count (fun _ _ _ _ _ _ _ hr nd=>(ab (bb (fu hr (bg hr (ad 0)) ao) (ak (ar (aK aI (c4 (dr T) hr (l1 (bg hr (ad 0)))) (c4 R0 hr (l1 (bg hr (ad 0))))))) aJ)
  (ab (bb (bd (gy (dY hr)) (bg hr (ad 0)) (aA (lc ao (lc ao (l1 ao)))) rfl) (ak (ar (aK aI (c4 R0 hr (l1 (dQ hr (ad 0) (d6 br af)))) (c4 R0 hr (l1 (dQ hr (ad 0) (d6 br af))))))) aJ)
  (ak (ar af))))) rfl) rfl rfl 12
def cu:aC:=AN 5 (C.ci iS bD du bX)
def g_(T:Txt P w K mg):BA P w K mg base 25 "_law_deed_body" 4 cu:=ft ["_law_deal_here","_law_jars","_law_most_parts","_law_most_lines","_law_body_here"] T.o__law_deed_body (fun _ _ _ _ _ _ _ hr nd=>(ab (s4 4 nd (c4 (lB T) hr (lc (ad 0) (lc (ad 1) (lc (bi (l1 (aK eO (ad 2) af))) (l1 af))))))
  (ab (bb (bd m9 (aK aI (c4 (dr T) hr (l1 (ad 4))) (c4 (fH T) hr (l1 (ad 4)))) (ad 3) (aX _)) (ak (s4 4 nd (aA (lc ao (lc (aA (lc ao (l1 (c4 (bL T) hr (lc (ad 0) (l1 (ad 1))))))) (l1 (c4 (bL T) hr (lc (ad 0) (l1 (ad 1)))))))))) aJ)
  (ak (ar (ad 4)))))) rfl
def eI:aC:=AN 9 (C.d_ cV w__law_draw cu)
def j5(T:Txt P w K mg):BA P w K mg base 26 "_law_house" 4 eI:=ft ["_law_deal_here","_law_most_jars","_law_most_deeds","_law_most_parts","_law_words_here","_law_jars","_law_first","_law_many","_law_deeds"] T.o__law_house (fun _ _ _ _ _ _ _ hr nd=>(ab (s4 4 nd (c4 (fQ T) hr (lc (ad 0) (l1 af))))
  (ab (s4 5 nd (cT gC T.Bz (l1 (b5 (ad 4) dH (cG (c4 (aj T) hr (lc (ad 0) (l1 (aK aI (ad 1) af)))))))))
  (ab (s4 6 nd (dQ hr (bi (lc af (l1 af))) (c4 (aj T) hr (lc (ad 0) (l1 af)))))
  (ab (s4 7 nd (aK aI af (c4 (aj T) hr (lc (ad 0) (l1 (ad 2))))))
  (ab (wv ["_law_words_here","_law_most_parts","_law_many","_law_jars","_law_first","_law_deal_here"] 1 [0,6,5,7,3,4] ["_law_k","_law_deal_here","_law_first","_law_jars","_law_many","_law_most_parts","_law_words_here"] 8 nd (gF rfl rfl T.CV (l1 (ad 7))) (fun _=>(gn 0 zW)) (fun _=>bW) (fun _=>(aA (lc (dQ hr (ad 6) (aK aI (ad 2) (ad 0))) (l1 (c4 (g_ T) hr (lc (ad 1) (lc (ad 3) (lc (ad 5) (l1 (aK lm af (ad 4))))))))))))
  (ak (ar (aA (lc (ad 5) (l1 (cT gC T.Bz (l1 (ad 8)))))))))))))) rfl
noncomputable def dD:Nat->aC
 |0=>lE
 |n+1=>AN 3 (C.e7 (dD n))
def iT:aC:=dD 12
def lC(T:Txt P w K mg):BA P w K mg base 12 "_law_puts" 3 iT:=iX (b:=0) (r:=dD) T.o__law_puts (fun n R0=>ft ["_law_body_here","_law_held","_law_found"] T.o__law_puts (fun _ _ _ _ _ _ _ hr nd=>(ab (bb (fu hr (bg hr (ad 0)) ao) (ak (ba (jW ck de (ad 2) (l1 (bg hr (ad 0)))))) aJ)
  (ab (bb (fu hr (bg hr (ad 0)) ao) (ak (ba (c4 R0 hr (lc (bg hr (ad 0)) (lc (ad 1) (l1 (ad 2))))))) aJ)
  (ak (bb (bd (gy (dY hr)) (bg hr (ad 0)) (aA (lc ao (lc ao (l1 ao)))) rfl) (ab (bb (oX (jm (yV hr (bg hr (ad 0)) ao) (fL (bd (gy (dY hr)) (bg hr (ad 0)) (ad 1) rfl)))) (ak (ba (c4 R0 hr (lc (dQ hr (ad 0) (d6 br af)) (lc (ad 1) (l1 (ad 2))))))) aJ)
  (ak (ba (c4 R0 hr (lc (dQ hr (ad 0) (d6 br af)) (lc (ad 1) (l1 (ad 2)))))))) aJ))))) rfl) rfl rfl 12
def cL:aC:=AN 6 (C.cI iT)
def iB(T:Txt P w K mg):BA P w K mg base 13 "_law_fillable" 1 cL:=ft ["_law_house_here","_law_held","_law_turn","_law_found","_law_name","_law_body_here"] T.o__law_fillable (fun _ _ _ _ _ _ _ hr nd=>(ab (s4 1 nd (bi b4))
  (ab (dy JQ rfl (bA (bg hr (ad 0))) (gn 2 nd) (ab (s4 3 nd (bi b4))
  (ab (dy JQ rfl (bA (bg hr (ad 0))) (mz rfl (aP (gn 4 nd) (aP (gn 5 nd) cM))) (ak (ba (c4 (lC T) hr (lc (ad 5) (lc (ad 1) (l1 (ad 3))))))))
  (ak (s4 1 nd (ad 3))))))
  (ak (ar (ad 1)))))) rfl
noncomputable def cW:Nat->aC
 |0=>lE
 |n+1=>AN 2 (C.bJ (cW n))
def hG:aC:=cW 12
def j6(T:Txt P w K mg):BA P w K mg base 12 "_law_alike" 2 hG:=iX (b:=0) (r:=cW) T.o__law_alike (fun n R0=>ft ["_law_found","_law_due"] T.o__law_alike (fun _ _ _ _ _ _ _ hr nd=>(ab (bb (lR (cB jx T.AU (lc (ad 1) (l1 (aA (lc (uN T.Dn) (l1 (uN T.Bz)))))))) (ab (bb (oX (jm (yV hr (cB jx T.AU (lc (ad 0) (l1 (uN T.Dn)))) (cB jx T.AU (lc (ad 1) (l1 (uN T.Dn))))) (fL (yV hr (cB jx T.AU (lc (ad 0) (l1 (uN T.Bz)))) (cB jx T.AU (lc (ad 1) (l1 (uN T.Bz)))))))) (ak (ar tH)) aJ)
  (ak (ar (ky (gx (jo (gH hr)) (cB dv T.BM (l1 (ad 0))) (cB dv T.BM (l1 (ad 1))) (aX _)) (kw (cB (uK rfl) T.E6 (l1 (mB [] 2 [] ["_law_one","_law_other"] (wu rfl rfl rfl T.E8 (by decide +kernel) (lc (ad 0) (l1 (ad 1)))) (fun _=>(mz rfl (aP (gn 0 uO) (aP (gn 1 uO) cM)))) (fun _=>bW) (fun _=>(c4 R0 hr (lc (ad 0) (l1 (ad 1))))))))))))) aJ)
  (ak (ar (ky (gx (jo (gH hr)) (cB jx T.AU (lc (ad 0) (l1 (uN T.Ex)))) (cB jx T.AU (lc (ad 1) (l1 (uN T.Ex)))) (aX _)) (kw (gx (jo (gH hr)) (ad 0) (ad 1) (aX _)))))))) rfl) rfl rfl 12
noncomputable def cA:Nat->aC
 |0=>lE
 |n+1=>AN 5 (C.dM (cA n))
def fR:aC:=cA 12
def jT(T:Txt P w K mg):BA P w K mg base 12 "_law_passes" 2 fR:=iX (b:=0) (r:=cA) T.o__law_passes (fun n R0=>ft ["_law_body_here","_law_held","_law_found","_law_others","_law_one"] T.o__law_passes (fun _ _ _ _ _ _ _ hr nd=>(ab (s4 2 nd (bi b4))
  (ab (bb (fu hr (bg hr (ad 0)) ao) (ab (s4 3 nd (c4 R0 hr (lc (bg hr (ad 0)) (l1 (ad 1)))))
  (ab (dy JQ rfl (bA (c4 R0 hr (lc (bg hr (ad 0)) (l1 (ad 1))))) (gn 4 nd) (ak (ba (jW bz bQ (ad 2) (l1 (mB ["_law_one"] 1 [4] ["_law_other","_law_one"] (bA (ad 3)) (fun _=>(gn 0 yy)) (fun _=>bW) (fun _=>(aA (lc (ad 1) (l1 (ad 0)))))))))))
  (ak (ar (ad 2))))) aJ)
  (ab (bb (oX (jm (fu hr (bg hr (ad 0)) ao) (fL (fu hr (bg hr (ad 0)) ao)))) (ab (bb (oX (jm (fu hr (bg hr (ad 0)) ao) (fL (bd (gy (dY hr)) (bg hr (ad 0)) (ad 1) rfl)))) (ak (wv [] 1 [] ["_law_one"] 2 nd (bA (c4 R0 hr (lc (dQ hr (ad 0) (d6 br af)) (l1 (ad 1))))) (fun _=>(gn 0 uk)) (fun _=>bW) (fun _=>(aA (lc af (l1 (ad 0))))))) aJ)
  (ak (ar (aK aI (ad 2) (mB [] 1 [] ["_law_one"] (bA (c4 R0 hr (lc (dQ hr (ad 0) (d6 br af)) (l1 (ad 1))))) (fun _=>(gn 0 uk)) (fun _=>bW) (fun _=>(aA (lc af (l1 (ad 0)))))))))) aJ)
  (ak (ar (bi (l1 (aA b4))))))))) rfl) rfl rfl 12
noncomputable def cC:Nat->aC
 |0=>lE
 |n+1=>AN 4 (C.dN (cC n))
def fS:aC:=cC 12
def jU(T:Txt P w K mg):BA P w K mg base 12 "_law_oftens" 3 fS:=iX (b:=0) (r:=cC) T.o__law_oftens (fun n R0=>ft ["_law_body_here","_law_held","_law_there","_law_found"] T.o__law_oftens (fun _ _ _ _ _ _ _ hr nd=>(ab (s4 3 nd (bi b4))
  (ab (bb (fu hr (bg hr (ad 0)) ao) (ab (ba (jW ck de (ad 3) (l1 (dQ hr (bi (lc lQ (l1 (bg hr (ad 0))))) (cT yc T.F1 (l1 (ad 2)))))))
  (ak (ba (jW bz bQ (ad 3) (l1 (c4 R0 hr (lc (bg hr (ad 0)) (lc (ad 1) (l1 (ad 2)))))))))) aJ)
  (ab (bb (bd (gy (dY hr)) (bg hr (ad 0)) (aA (lc ao (lc ao (l1 ao)))) rfl) (ab (ba (jW bz bQ (ad 3) (l1 (c4 R0 hr (lc (dQ hr (ad 0) (d6 br af)) (lc (ad 1) (l1 (ky (ad 2) (kw (zG (gx (uJ (gH hr)) (bg hr (ad 0)) ao (aX _)) (kw (gx (gy (dY hr)) (bg hr (ad 0)) (ad 1) rfl))))))))))))
  (ak (ba (jW bz bQ (ad 3) (l1 (c4 R0 hr (lc (dQ hr (ad 0) (d6 br af)) (lc (ad 1) (l1 (ad 2)))))))))) aJ)
  (ak (ar (ad 3))))))) rfl) rfl rfl 12
def dP:aC:=AN 5 (C.dO fS fR)
def jV(T:Txt P w K mg):BA P w K mg base 13 "_law_rounds" 2 dP:=ft ["_law_body_here","_law_held","_law_found","_law_number","_law_inside"] T.o__law_rounds (fun _ _ _ _ _ _ _ hr nd=>(ab (s4 2 nd (bi b4))
  (ab (dy JQ rfl (eU rfl rfl T.AS (by decide +kernel) (l1 (c4 (jU T) hr (lc (ad 0) (lc (ad 1) (l1 tH)))))) (mz rfl (aP (gn 3 nd) (aP (gn 4 nd) cM))) (ak (bb (bd lU (ad 4) lQ (aX _)) (ak (ba (jW bz bQ (ad 2) (l1 (mB ["_law_number"] 1 [3] ["_law_one","_law_number"] (bA (c4 (jT T) hr (lc (ad 4) (l1 (ad 1))))) (fun _=>(gn 0 yz)) (fun _=>bW) (fun _=>(aA (lc (ad 1) (l1 (ad 0)))))))))) aJ)))
  (ak (ar (ad 2)))))) rfl
def eJ:aC:=AN 10 (C.eg cV w__law_draw bX)
def j7(T:Txt P w K mg):BA P w K mg base 4 "_law_chain" 1 eJ:=ft ["_law_deal_here","_law_words_here","_law_left","_law_jars","_law_jar","_law_order","_law_bodies","_law_k","_law_body_here","_law_more"] T.o__law_chain (fun _ _ _ _ _ _ _ hr nd=>(ab (s4 1 nd (c4 (fQ T) hr (lc (ad 0) (l1 af))))
  (ab (s4 2 nd (b5 (ad 1) dH (cG (aK aI af (c4 (aj T) hr (lc (ad 0) (l1 af)))))))
  (ab (s4 3 nd (cT gC T.Bz (l1 (ad 2))))
  (ab (wv ["_law_left","_law_deal_here"] 1 [0,2] ["_law_jar","_law_deal_here","_law_left"] 5 nd (bA (ad 3)) (fun _=>(gn 0 yA)) (fun _=>bW) (fun _=>(jW rn uL (ad 2) (l1 (c4 (aj T) hr (lc (ad 1) (l1 (cB dv T.BM (l1 (ad 2))))))))))
  (ab (s4 6 nd (bi b4))
  (ab (dy JQ rfl (eU rfl rfl T.AS (by decide +kernel) (l1 (ad 5))) (mz rfl (aP (gn 7 nd) (aP (gn 4 nd) cM))) (ab (s4 8 nd (aA (lc ao (lc (ad 4) (l1 (aK aI af (c4 (aj T) hr (lc (ad 0) (l1 af)))))))))
  (ab (bb (oX (jm (bd m9 (ad 7) af (aX _)) (fL (fu hr (c4 (aj T) hr (lc (ad 0) (l1 af))) af)))) (ak (s4 8 nd (aA (lc ao (lc (dQ hr (ad 5) (aK eO (ad 7) af)) (lc (aK aI af (c4 (aj T) hr (lc (ad 0) (l1 af)))) (lc (ad 8) (l1 (c4 (bL T) hr (lc (ad 0) (l1 (bi b4)))))))))))) aJ)
  (ab (s4 9 nd (bi (lc (aA (lc ao (lc (c4 (bL T) hr (lc (ad 0) (l1 (bi b4)))) (l1 (ad 8))))) (lc (aA (lc ao (l1 (ad 8)))) (l1 (aA (lc ao (lc (c4 (bL T) hr (lc (ad 0) (l1 (bi b4)))) (l1 (ad 8))))))))))
  (ak (ba (jW pB rh (ad 6) (lc (c4 (aj T) hr (lc (ad 0) (l1 (aK aI (cB dv T.BM (l1 (ad 6))) af)))) (l1 (dQ hr (bi (lc (ad 8) (lc (bg hr (ad 9)) (lc (bg hr (ad 9)) (l1 (bg hr (ad 9))))))) (c4 (aj T) hr (lc (ad 0) (l1 af)))))))))))))
  (ak (ar (aA (lc (ad 3) (l1 (cT gC T.Bz (l1 (mB ["_law_words_here"] 2 [1] ["_law_k","_law_body_here","_law_words_here"] (eU rfl rfl T.AS (by decide +kernel) (l1 (ad 6))) (fun _=>(mz rfl (aP (gn 0 uP) (aP (gn 1 uP) cM)))) (fun _=>bW) (fun _=>(aA (lc (dQ hr (ad 2) (aK aI af (ad 0))) (l1 (ad 1)))))))))))))))))))) rfl
def cv(AF Dp Dq:aC):bN:=(ag (bo (aS (ah (bc false) (ac AF [(v3 0),(c3 (.int 3))]) (c3 (.int 0)))) (aw (ac Dp [(v3 0)])) aM)
  (aw (ac Dq [(v3 0),(c3 (.int 4)),(c3 (.int 4)),(c3 (.int 20))])))
def cw:aC:=AN 1 (cv w__law_draw eJ eI)
def dE(T:Txt P w K mg):BA P w K mg base 27 "_law_any_house" 1 cw:=ft ["_law_deal_here"] T.o__law_any_house (fun _ _ _ _ _ _ _ hr nd=>(ab (bb (fu hr (c4 (aj T) hr (lc (ad 0) (l1 af))) af) (ak (ar (c4 (j7 T) hr (l1 (ad 0))))) aJ)
  (ak (ar (c4 (j5 T) hr (lc (ad 0) (lc af (lc af (l1 af))))))))) rfl
noncomputable def b8:Nat->aC
 |0=>lE
 |n+1=>AN 3 (C.dg (b8 n))
def fm:aC:=b8 12
def iY(T:Txt P w K mg):BA P w K mg base 12 "_law_swapped" 2 fm:=iX (b:=0) (r:=b8) T.o__law_swapped (fun n R0=>ft ["_law_body_here","_law_names","_law_sides"] T.o__law_swapped (fun _ _ _ _ _ _ _ hr nd=>(ab (bb (fu hr (bg hr (ad 0)) ao) (ak (ar (aA (lc ao (lc (rf (sn hr) (ad 1) (bg hr (ad 0)) (bg hr (ad 0)) ⟨rfl,rfl,rfl,rfl⟩) (l1 (bg hr (ad 0)))))))) aJ)
  (ab (bb (fu hr (bg hr (ad 0)) ao) (ak (ar (aA (lc ao (l1 (c4 R0 hr (lc (bg hr (ad 0)) (l1 (ad 1))))))))) aJ)
  (ab (bb (bd (gy (dY hr)) (bg hr (ad 0)) (aA (lc ao (lc ao (l1 ao)))) rfl) (ab (s4 2 nd (aA (lc (c4 R0 hr (lc (dQ hr (ad 0) (d6 br af)) (l1 (ad 1)))) (l1 (c4 R0 hr (lc (dQ hr (ad 0) (d6 br af)) (l1 (ad 1))))))))
  (ab (bb (fu hr (bg hr (ad 0)) ao) (ak (ar (aK aI (aA (lc ao (lc (rf (sn hr) (ad 1) (bg hr (ad 0)) (bg hr (ad 0)) ⟨rfl,rfl,rfl,rfl⟩) (l1 (bg hr (ad 0)))))) (ad 2)))) aJ)
  (ak (ar (aK aI (b5 (ad 0) dH (cG af)) (ad 2)))))) aJ)
  (ak (ar (ad 0))))))) rfl) rfl rfl 12
def gj:aC:=AN 6 (C.f9 fm)
def mr(T:Txt P w K mg):BA P w K mg base 13 "_law_kin" 1 gj:=ft ["_law_house_here","_law_jars","_law_deeds","_law_found","_law_names","_law_bodies"] T.o__law_kin (fun _ _ _ _ _ _ _ hr nd=>(ab (yf (ad 0) (mz rfl (aP (gn 1 nd) (aP (gn 2 nd) cM))))
  (ab (s4 3 nd (bi (l1 (ad 0))))
  (ab (bb (bd m9 (cB dv T.BM (l1 (ad 2))) af (aX _)) (ab (s4 4 nd (mB [] 2 [] ["_law_name","_law_body_here"] (bA (ad 2)) (fun _=>(mz rfl (aP (gn 0 oj) (aP (gn 1 oj) cM)))) (fun _=>bW) (fun _=>(ad 0))))
  (ab (wv [] 2 [] ["_law_name","_law_body_here"] 5 nd (bA (ad 2)) (fun _=>(mz rfl (aP (gn 0 oj) (aP (gn 1 oj) cM)))) (fun _=>bW) (fun _=>(ad 1)))
  (ak (ba (jW bz bQ (ad 3) (l1 (bi (lc (aA (lc (ad 1) (l1 (b5 (ad 2) dH (cG (d6 br af)))))) (l1 (aA (lc (ad 1) (l1 (wn rfl rfl rfl rfl T.Bz rfl T.E8 (lc (ad 4) (l1 (aK aI (b5 (ad 5) (cG af) dH) (b5 (ad 5) dH (cG af)))))))))))))))))) aJ)
  (ab (bb (bd m9 (cB dv T.BM (l1 (ad 1))) af (aX _)) (ab (s4 4 nd (re (gG (bg hr (ad 1)) (dQ hr (ad 1) (d6 br af)) (gG (dQ hr (ad 1) (d6 br af)) (bg hr (ad 1)) q_))))
  (ak (ba (jW ck de (ad 3) (l1 (aA (lc (ad 1) (l1 (cT gC T.Bz (l1 (mB ["_law_names"] 2 [4] ["_law_name","_law_body_here","_law_names"] (bA (ad 2)) (fun _=>(mz rfl (aP (gn 0 uQ) (aP (gn 1 uQ) cM)))) (fun _=>bW) (fun _=>(aA (lc (ad 0) (l1 (c4 (iY T) hr (lc (ad 1) (l1 (ad 2))))))))))))))))))) aJ)
  (ak (ar (ad 3)))))))) rfl
def eL(CP Ey Dr Df:aC):bN:=(ag (au 1 (ac CP [(v3 0)]))
  (ag (bY (b6 (ah ae (v3 0) (c3 (.int 1)))) (.tp (.cons (.n 2) (.cons (.tp (.cons (.n 3) (.cons (.n 4) .nil))) .nil))) (ag (au 5 (ac Ey [(v3 0),(v3 2)]))
  (ag (bo (mV (aS (ac Dr [(v3 5),(ac Df [(v3 4),(v3 1)])]))) (aw (c3 (.bl false))) aM)
  (ag (aG (cH "list" gD (v3 5) []))
  (aG (cH "list" bj (v3 5) [(c3 .non)]))))))
  (aw (c3 (.bl true)))))
def eM:aC:=AN 6 (eL cL jS hG dP)
def j8(T:Txt P w K mg):BA P w K mg base 31 "_law_right" 1 eM:=ft ["_law_house_here","_law_held","_law_d","_law_name","_law_body_here","_law_found"] T.o__law_right (fun _ _ _ _ _ _ _ hr nd=>(ab (s4 1 nd (c4 (iB T) hr (l1 (ad 0))))
  (ab (dy JQ rfl (eU rfl rfl T.AS (by decide +kernel) (l1 (bg hr (ad 0)))) (mz rfl (aP (gn 2 nd) (aP (mz rfl (aP (gn 3 nd) (aP (gn 4 nd) cM))) cM))) (ab (s4 5 nd (c4 (pO T) hr (lc (ad 0) (l1 (ad 2)))))
  (ab (bb (uH (lR (c4 (j6 T) hr (lc (ad 5) (l1 (c4 (jV T) hr (lc (ad 4) (l1 (ad 1))))))))) (ak (ar tH)) aJ)
  (ab (ba (yo nh o0 (ad 5)))
  (ak (ba (jW ck de (ad 5) (l1 lQ))))))))
  (ak (ar tH))))) rfl
def rW(B1 CN DP Ds:aC):bN:=(ag (au 1 (ac B1 [(ac CN [(v3 0),(c3 (.int 0))])]))
  (ag (au 2 (ac B1 [(ac CN [(v3 0),(c3 (.int 1))])]))
  (aw (ap m4 [(aE (aD (ah aW (ac DP [(v3 1)]) (bm [(v3 2),(v3 1)]))) (.n 0) bq (ac Ds [(v3 0)]) 1 [])]))))
def ms:aC:=AN 3 (rW cw iR gj eM)
def wL(T:Txt P w K mg){f:Addr}{fd:FuncData}(O:yT K mg "law" (bB 41) ["_law_script"] f fd):EF P w K mg base 32 f fd ["_law_script"] ms:=Aw ["_law_script","_law_one","_law_other"] O (fun _ _ _ _ _ _ _ hr nd=>(ab (s4 1 nd (c4 (dE T) hr (l1 (c4 (gZ T) hr (lc (ad 0) (l1 af))))))
  (ab (s4 2 nd (c4 (dE T) hr (l1 (c4 (gZ T) hr (lc (ad 0) (l1 af))))))
  (ak (ar (cB (uK rfl) T.E6 (l1 (mB [] 1 [] ["_law_house_here"] (bA (aK aI (c4 (mr T) hr (l1 (ad 1))) (bi (lc (ad 2) (l1 (ad 1)))))) (fun _=>(gn 0 yB)) (fun _=>bW) (fun _=>(c4 (j8 T) hr (l1 (ad 0)))))))))))) rfl
end
end G31
namespace G31
open PySem L2 L3 Wd
open C
def Dt{x0 x1 x2:aC}(AI:bF x0)(C7:cp x1)(Ez:fc x2):cp (AN 1 (cv x0 x1 x2)):=by
 intro S d l Q E D k
 unfold cv
 refine fG ?_
 rw[show aB 1 [PV.ref d]=[some (.ref d)] from rfl]
 refine al fun N hN=>?_
 simp only[bo,aS,ah,ac,am,v3,lk,c3]
 refine AI D (by decide) (by decide) fun r S1 r0 r1 D1 O1=>?_
 simp only[bc,Jt,Jz]
 split
 ·walk_at "x"
  exact C7 D1 k
 ·simp only[aM]
  refine hN _ _ ?_
  walk_at "x"
  exact Ez (most:=4) (many:=4) (size:=20) D1 (by decide) (by decide) (by decide) (by decide) (by decide) fun js ds S2 h h1 h4 hj hp D2 O2=>k js ds S2 ⟨⟨fun z hz=>jH (h.jw z hz),by omega,by omega,h.gd,h.dq,h.sz⟩,hp⟩
abbrev iC(w:aC):Prop:=∀{S:aq} {js:Vs} {ds:List (Str×Bd)} {Q:bM} {E:cQ},HP js ds->(∀S',Ext S S'->Q (.bl true) S')->w [Bj js ds] S Q E
def C9{x0 x1 x2 x3:aC}(C5:iw x0)(CK:gc x1)(C6:cY 12 x2)(Cu:fe x3):iC (AN 6 (eL x0 x1 x2 x3)):=by
 intro S js ds Q E hP k
 unfold eL
 refine fG ?_
 rw[show aB 6 [Bj js ds]=[some (.tup [.tup (js.map PV.str),.tup (ds.map e_)]),none,none,none,none,none] from rfl]
 refine al fun N hN=>?_
 walk_at "x"
 refine C5 hP.toHG fun ph S1 hph X1 f1=>?_
 refine hN _ _ (al fun N hN=>?_)
 simp only[bY,b6,ah,v3,lk,c3,ae,hU]
 refine bK (fun done σ S'=>∃(x2 x3 x4 x5:Option PV),σ=[some (.tup [.tup (js.map PV.str),.tup (ds.map e_)]),some (.ref ph),x2,x3,x4,x5]/\Ext S1 S') ⟨_,_,_,_,rfl,.refl⟩ (fun _ _ _ _=>trivial) ?_ ?_
 ·rintro done x rest σ S2 K e ⟨x2,x3,x4,x5,rfl,X2⟩ hK
  obtain⟨y,rfl,hy⟩:=d0 e
  obtain⟨⟨z,t⟩,ht,rfl⟩:∃q,ds[done.length]?=some q/\e_ q=y:=by rw[Jx]at hy;exact JT.mp hy
  have hm:(z,t)∈ds:=JI ht
  have Fv:t.AG+t.AJ<=1000:=hP.pc _ hm
  have Fo:t.dep<=6:=hP.dp _ hm
  simp only[e_,Tg.put,Tg.AK,List.set_cons_zero,List.set_cons_succ]
  refine al fun N2 BK=>?_
  simp only[au,ac,am,v3,lk]
  refine CK hP ht fun hs p S3 hf hp X3 f3=>?_
  refine BK _ _ (al fun N2 BK=>?_)
  simp only[bo,mV,aS,ac,am,v3,lk,List.set_cons_zero,List.set_cons_succ]
  have fh:=X3 _ _ (X2 _ _ f1)
  refine Cu Fo (hP.sz _ hm) Fv (hP.gd _ hm) hP.jw (fun w hw=>hP.jw w (og hP.toHG _ w hw)) fh fun q S4 hq X4 f4=>?_
  rw[uf hf]at f4
  have Ig:=X4 _ _ f3
  have hrl:(t.DH (mq hs)).length<=1000:=Jw (t.C8 _) (by omega)
  refine C6 (Dv.lists (L:=2) (n:=10) Ig f4 hrl (by decide) fun x hx=>(rT _ t Fo x hx).mono (Jm _) (by decide)) fun S5 X5=>?_
  have f5:=X5 _ _ Ig
  simp only[JW,aM,Jv,JR]
  refine BK _ _ (al fun N2 BK=>?_)
  simp only[aG,cH,j3,am,v3,lk,f5,KW,gD]
  refine BK _ _ ?_
  simp only[aG,cH,j3,am,v3,lk,c3,aa,KW,bj]
  refine⟨L4 (show(t.DH (mq hs)).reverse.length<=1000 by rw[LP];exact hrl) (by decide),hK _ _ ⟨_,_,_,_,rfl,?_⟩⟩
  have hp1:S2 p=none:=hp
  exact((X2.trans (X3.trans (X4.trans X5))).put (X2.free hp)).put (X2.free hp)
 ·rintro σ S2 ⟨x2,x3,x4,x5,rfl,X2⟩
  refine hN _ _ ?_
  walk_at "x"
  exact k S2 (X1.trans X2)
abbrev ul(w:aC):Prop:=∀{ns:Vu} {S:aq} {Q:bM} {E:cQ},ns.length<=63->(∀S',Q (.bl true) S')->w [.cl (ns.map PV.int)] S Q E
def wM{x0 x1 x2 x3:aC}(Dt:cp x0)(CT:l9 x1)(FA:jO x2)(C9:iC x3):ul (AN 3 (rW x0 x1 x2 x3)):=by
 intro ns S Q E hl k
 unfold rW
 refine fG ?_
 rw[show aB 3 [PV.cl (ns.map PV.int)]=[some (.cl (ns.map PV.int)),none,none] from rfl]
 refine al fun N hN=>?_
 walk_at "x"
 refine CT hl (by decide) (by decide) fun d l S1 _ _ D1 _=>?_
 refine Dt D1 fun js ds S2 hP=>?_
 refine hN _ _ (al fun N hN=>?_)
 walk_at "x"
 refine CT hl (by decide) (by decide) fun d l S3 _ _ D3 _=>?_
 refine Dt D3 fun E9 ds' S4 hP'=>?_
 refine hN _ _ ?_
 simp only[aw,ap,am,aE,aD,ah,ac,bm,v3,lk,List.set_cons_zero,List.set_cons_succ]
 refine FA hP fun p hs S5 hp X5 f5 hl4 Jh=>?_
 intro p2 hp2
 have n2:p≠p2:=fun h=>by rw[h,hp2]at f5;cases f5
 simp only[aW,ai n2,f5,aa]
 refine⟨bx (by rw[Jk];simp;omega),fun p3 hp3=>?_⟩
 have f6:(AH (AH S5 p2 (.lst [Bj E9 ds',Bj js ds])) p3 (.lst (hs.map (Bj js)++[Bj E9 ds',Bj js ds]))) p3=some (.lst (hs.map (Bj js)++[Bj E9 ds',Bj js ds])):=aa
 generalize AH (AH S5 p2 (.lst [Bj E9 ds',Bj js ds])) p3 (.lst (hs.map (Bj js)++[Bj E9 ds',Bj js ds]))=S6 at f6
 simp only[bv,f6]
 have good:∀v∈hs.map (Bj js)++[Bj E9 ds',Bj js ds],∃j e,v=Bj j e/\HP j e:=by
  intro v hv
  rcases Ju.mp hv with h|h
  ·obtain⟨e,he,rfl⟩:=JO.mp h;exact⟨js,e,rfl,Jh e he⟩
  ·simp only[Jq,JF,Kq]at h
   rcases h with rfl|rfl
   ·exact⟨_,_,rfl,hP'⟩
   ·exact⟨_,_,rfl,hP⟩
 have hlen:(hs.map (Bj js)++[Bj E9 ds',Bj js ds]).length<=6:=by rw[Jj,Jk];simp;omega
 generalize hs.map (Bj js)++[Bj E9 ds',Bj js ds]=vs at f6 good hlen
 refine dh (fun done ys S'=>Ext S6 S'/\done.length<=vs.length/\ys=List.replicate done.length (.bl true)) ⟨.refl,JM _,rfl⟩ (fun done ys S' ⟨X,l,e⟩=>⟨X _ _ f6,bx (by rw[e,J4];omega)⟩) ?_ ?_
 ·rintro done x rest ys S' K e ⟨X,l,rfl⟩ hK
  obtain⟨j,ee,rfl,hg⟩:=good x (by rw[e];simp)
  simp only[Tg.put,cR,List.reduceReplicate,Kg,JN,List.set_cons_zero,bq,JW,ac,am,v3,lk]
  refine C9 hg fun S7 X7=>hK _ _ ⟨X.trans X7,?_,?_⟩
  ·have:vs.length=done.length+(rest.length+1):=by rw[e,Jj,JB]
   rw[Jj,Jy];omega
  ·rw[Jj,Jy,List.replicate_succ']
 ·rintro ys S' ⟨X,_,rfl⟩ q hq
  simp only[m4,aa,kM]
  rw[show(List.replicate vs.length true).all id=true by simp]
  exact k _
def fo:bF w__law_draw:=AI
def yC:lq gh:=DL
def ol:fw cV:=Cc fo
def rX:gL fk:=Cz fo yC
def rY:gM bX:=Bo fo rX
def um:iA bX:=rO fo rX
theorem rZ:∀n,gN n (dC n)
 |0=>fun _ _ _ _ _ _ _ h0 h1 _=>by omega
 |n+1=>Dj fo rY n (rZ n)
theorem mv:∀n,cm n (bC n)
 |0=>fun h _ _=>absurd h (by have:=Bd.A6;exact Lb.mpr (this _))
 |n+1=>pG n (mv n)
def mw:cm 12 bD:=mv 12
theorem mx:∀n,n<=12->eu n (bu n)
 |0,_=>fun h _ _=>absurd h (by have:=Bd.A6;exact Lb.mpr (this _))
 |n+1,hn=>pH n 12 mw (mx n (by omega)) (by omega)
def zX:eA cu:=lr 12 (by decide) (rZ 12) mw (mx 12 (by decide)) rY
def uo:fc eI:=nl ol fo zX
def uq:cp eJ:=C7 ol fo um
def yD:cp cw:=Dt fo uq uo
theorem yE:∀n,lv n (b8 n)
 |0=>fun h _ _ _ _=>absurd h (by have:=Bd.A6;exact Lb.mpr (this _))
 |n+1=>Eu n (yE n)
def yF:jO gj:=ue fun h g a b c=>yE 12 (Jw h (by decide)) g a b c
theorem om:∀n,cY n (cW n)
 |0=>fun h _=>by cases h
 |n+1=>C6 n (om n)
theorem on:∀n,bR n (cA n)
 |0=>fun h _ _ _ _ _ _=>absurd h (by have:=Bd.A6;exact Lb.mpr (this _))
 |n+1=>rM n (on n)
theorem r9:∀n,fA n (dD n)
 |0=>fun h _ _ _ _ _ _ _ _=>absurd h (by have:=Bd.A6;exact Lb.mpr (this _))
 |n+1=>rJ n (r9 n)
def ur:iw cL:=C5 fun h a b c e f g i j=>r9 12 (Jw h (by decide)) a b c e f g i j
def oo:fy eF:=Cd
theorem oq:∀n,dB n (eG n)
 |0=>fun h _ _=>absurd h (by have:=Bd.A6;exact Lb.mpr (this _))
 |n+1=>C2 oo n (oq n)
def r_:iu 12 lx:=pJ 12 (oq 12)
theorem ot:∀n,fz n (cy n)
 |0=>fun h _=>absurd h (by have:=Bd.A6;exact Lb.mpr (this _))
 |n+1=>rF n (ot n)
theorem uR:∀n,n<=12->gQ n (cz n)
 |0,_=>fun h _ _ _=>absurd h (by have:=Bd.A6;exact Lb.mpr (this _))
 |n+1,hn=>ua n 12 (by omega) r_ (ot 12) (uR n (by omega))
theorem wN:∀n,jM n (bT n)
 |0=>fun h _ _ _ _ _ _=>absurd h (by have:=Bd.A6;exact Lb.mpr (this _))
 |n+1=>DG oo n (wN n)
def wO:jN fi:=Dk (fun h a b c d e f=>wN 12 (Jw h (by decide)) a b c d e f) (fun h a b c=>uR 12 (by decide) (Jw h (by decide)) a b c)
def nw:eC gg:=md (Cs wO)
theorem sd:∀n,bR ((n+1) / 2) (fj n)/\iz (n / 2) (cq n)
 |0=>⟨fun h _ _ _ _ _ _=>absurd h (by have:=Bd.A6;exact Lb.mpr (this _)),fun h _ _ _ _ _ _ _=>absurd h (by have:=Bd.A6;exact Lb.mpr (this _))⟩
 |n+1=>by
  obtain⟨a,b⟩:=sd n
  refine⟨?_,?_⟩
  ·rw[show(n+1+1) / 2=n / 2+1 by omega]
   exact fun{S t js us hs nm Q E} h1 h2 h3 h4 h5 h6 h7=>B4 (n / 2) b (fun g1 g2 g3 g4 g5 g6 g7=>a (Jw g1 (by omega)) g2 g3 g4 g5 g6 g7) (S:=S) (t:=t) (js:=js) (us:=us) (hs:=hs) (nm:=nm) (Q:=Q) (E:=E) h1 h2 h3 h4 h5 h6 h7
  ·exact fun{S x y js us hs nm Q E} h1 h2 h3 h4 h5 h6 h7 h8=>rL (s0:=cq n) ((n+1) / 2) a (S:=S) (a:=x) (b:=y) (js:=js) (us:=us) (hs:=hs) (nm:=nm) (Q:=Q) (E:=E) h1 h2 h3 h4 h5 h6 h7 h8
def wP:jP cr:=Dm fun h a b c d e f=>wN 12 (Jw h (by decide)) a b c d e f
def se:gc jS:=CK nw wP (sd 12).1
theorem sf:∀n,gV n (cC n)
 |0=>fun h _ _ _ _ _ _=>absurd h (by have:=Bd.A6;exact Lb.mpr (this _))
 |n+1=>uh n (sf n)
def pP:fe dP:=Cu (fun h a b c d e f=>sf 12 (Jw h (by decide)) a b c d e f) (fun h a b c d e f=>on 12 (Jw h (by decide)) a b c d e f)
def ut:iC eM:=C9 ur se (om 12) pP
def sg:∀ns:List Int,ns.length<=63->ms [.cl (ns.map PV.int)] (fun _=>none) (fun v _=>v = .bl true) cX:=fun ns h=>wM yD CT yF ut h fun _=>rfl
end G31
namespace L3
open PySem L2 Xc
def ny{P:List Value->Prop}(h:∀a,P [a])(us:Vv)(hl:us.length=1):P us:=match us,hl with|[_],_=>h _
def nz{P:List Value->Prop}(h:∀a b,P [a,b])(us:Vv)(hl:us.length=2):P us:=match us,hl with|[_,_],_=>h _ _
def yW{P:List Value->Prop}(h:∀a b c,P [a,b,c])(us:Vv)(hl:us.length=3):P us:=match us,hl with|[_,_,_],_=>h _ _ _
def zY{P:List Value->Prop}(h:∀a b c d,P [a,b,c,d])(us:Vv)(hl:us.length=4):P us:=match us,hl with|[_,_,_,_],_=>h _ _ _ _
section
variable {K:Vo} {h:Heap} {mg:Vr} {x c m q:Str} {st:Stmt} {ps fl:Vs}
noncomputable def uu:Option (Option Value)->Bool
 |some none=>true
 |_=>false
def uv{o:Option (Option Value)}(h:uu o=true):o=some none:=by
 unfold uu at h;split at h
 ·rfl
 ·cases h
def FnAt(K:Vo)(f:Addr)(m q:Str)(st:Stmt):Prop:=∃(oc kV doc pm cdv ct:Value) (od an:Option Addr) (osl:Array (Option Value)),
 K.lookup f=some ⟨oc,od,.func (PySem.W.fnOf m q (bH st) (aY st) (az st) .none kV doc pm an cdv ct),osl⟩/\PySem.W.codeIn K cdv q=true/\PySem.W.keepIn K (.ref f)=true
abbrev sh(m q:Str)(st:Stmt)(ps:Vs):Prop:=∀(kV doc pm:Value) (an:Option Addr) (cdv ct:Value) (us:Vv),us.length=ps.length->bindArgs (PySem.W.fnOf m q (bH st) (aY st) (az st) .none kV doc pm an cdv ct) ⟨us,[]⟩=pure (ps.zip us)
def FnAt.mk{f:Addr}(a:FnAt K f m q st)(hb:sh m q st ps):∃fd,EW K m q st f fd/\Binds K fd ps []/\PySem.W.keepIn K (.ref f)=true:=by
 obtain⟨oc,kV,doc,pm,cdv,ct,od,an,osl,l,cc,k⟩:=a
 exact⟨_,kZ l cc k,(kZ l cc k).binds hb,k⟩
def B2(K:Vo)(x:Str)(st:Stmt):Prop:=∃f,PySem.W.nsIn K mainGlobals x=some (some (.ref f))/\FnAt K f x x st
def B2.own(X:K.In h)(G:h.Ns mainGlobals mg)(a:B2 K x st)(hb:sh x x st ps):bw K mg x st ps:=by
 obtain⟨f,n,a⟩:=a
 obtain⟨fd,F,b,k⟩:=a.mk hb
 exact⟨f,fd,F,b,k,MQ X G n⟩
def B2.law{fa:Addr}(X:K.In h)(G:h.Ns mainGlobals mg)(a:B2 K x st)(hfa:mg x=some (.ref fa))(hb:sh x x st ps):∃kV doc pm an cdv ct,yT K mg x st ps fa (PySem.W.fnOf x x (bH st) (aY st) (az st) .none kV doc pm an cdv ct):=by
 obtain⟨f,n,oc,kV,doc,pm,cdv,ct,od,an,osl,l,cc,k⟩:=a
 cases hfa.symm.trans (MQ X G n)
 exact⟨kV,doc,pm,an,cdv,ct,kZ l cc k,(kZ l cc k).binds hb,k,hfa⟩
def Gk(P:Program)(w:World)(K:Vo)(x:Str)(kvs:List (bf×V)):Prop:=∃a o,PySem.W.nsIn K mainGlobals x=some (some (.ref a))/\K.lookup a=some o/\(a == sysModules)=false/\∃vs,KV kvs vs/\Obj.IsDictOf (aR P w) o vs
def Gk.kd{P:Program}{w:World}{kvs:List (bf×V)}(X:K.In h)(G:h.Ns mainGlobals mg)(a:Gk P w K x kvs):∃a,mg x=some (.ref a)/\KD P w K a kvs:=by
 obtain⟨a,o,n,l,s,vs,h1,h2⟩:=a
 exact⟨a,MQ X G n,s,o,vs,l,h1,h2⟩
def iZ(X:K.In h)(G:h.Ns mainGlobals mg){l:Vs}(a:(l.all fun x=>uu (PySem.W.nsIn K mainGlobals x))=true)(hx:x∈l:=by decide):mg x=none:=PySem.W.mg_none_of X G (uv (Mp.mp a x hx))
section
variable {f C:Addr} {oc kV doc pm cdv ct:Value} {od an:Option Addr} {osl:Array (Option Value)}
def AC(n:PySem.W.nsIn K mainGlobals x=some (some (.ref f)))(l:K.lookup f=some ⟨oc,od,.func (PySem.W.fnOf x x (bH st) (aY st) (az st) .none kV doc pm an cdv ct),osl⟩)(cc:PySem.W.codeIn K cdv x=true)(k:PySem.W.keepIn K (.ref f)=true):B2 K x st:=⟨f,n,oc,kV,doc,pm,cdv,ct,od,an,osl,l,cc,k⟩
def AD{P:Program}{w:World}{kvs:List (bf×V)}{o:Obj}(n:PySem.W.nsIn K mainGlobals x=some (some (.ref f)))(l:K.lookup f=some o)(s:(f == sysModules)=false)(v:∃vs,KV kvs vs/\Obj.IsDictOf (aR P w) o vs):Gk P w K x kvs:=⟨f,o,n,l,s,v⟩
end
end
section
variable {K:Vo} {h:Heap} {mg:Vr} {x:Str} {st:Stmt} {ps:Vs}
def Gm(K:Vo)(x:Str)(st:Stmt):Prop:=∃(f T:Addr) (oc kV doc pm cdv ct:Value) (od an:Option Addr) (osl:Array (Option Value)) (oT:Obj) (nT:Nat),PySem.W.nsIn K mainGlobals x=some (some (.ref f))/\
 K.lookup f=some ⟨oc,od,.func (PySem.W.fnOf x x (bH st) (aY st) (az st) (.ref T) kV doc pm an cdv ct),osl⟩/\PySem.W.codeIn K cdv x=true/\PySem.W.keepIn K (.ref f)=true/\K.lookup T=some oT/\oT.data = .seq #[.bool true] nT
abbrev uS(x:Str)(st:Stmt)(ps:Vs):Prop:=∀(s:Shared) (T:Addr) (oT:Obj) (nT:Nat) (kV doc pm cdv ct:Value) (an:Option Addr) (us:Vv),oT.data = .seq #[.bool true] nT->us.length=ps.length->s.heap.get? T=some oT->BindsTo s (PySem.W.fnOf x x (bH st) (aY st) (az st) (.ref T) kV doc pm an cdv ct) ⟨us,[]⟩ (ps.zip us)
abbrev uT(x:Str)(st:Stmt)(ps:Vs):Prop:=∀(s:Shared) (T:Addr) (oT:Obj) (nT:Nat) (kV doc pm cdv ct:Value) (an:Option Addr) (us:Vv),oT.data = .seq #[.bool true] nT->us.length+1=ps.length->s.heap.get? T=some oT->BindsTo s (PySem.W.fnOf x x (bH st) (aY st) (az st) (.ref T) kV doc pm an cdv ct) ⟨us,[]⟩ (ps.zip (us++[.bool true]))
def Gm.own(X:K.In h)(G:h.Ns mainGlobals mg)(a:Gm K x st)(hb:uS x st ps)(hd:uT x st ps):l6 K mg x st ps:=by
 obtain⟨f,T,oc,kV,doc,pm,cdv,ct,od,an,osl,oT,nT,n,l,c,k,lT,sT⟩:=a
 exact⟨T,f,_,⟨⟨oc,od,kV,doc,pm,an,cdv,ct,osl,rfl,l,c⟩,k⟩,fun s us KI hl=>by rw[JN]at hl ⊢;exact hb _ _ _ _ _ _ _ _ _ _ us sT hl (KI T oT lT),fun s us KI hl=>hd _ _ _ _ _ _ _ _ _ _ us sT (by rw[Jj]at hl;exact hl) (KI T oT lT),k,MQ X G n⟩
def AE{f T:Addr}{oc kV doc pm cdv ct:Value}{od an:Option Addr}{osl:Array (Option Value)}{oT:Obj}{nT:Nat}(n:PySem.W.nsIn K mainGlobals x=some (some (.ref f)))(l:K.lookup f=some ⟨oc,od,.func (PySem.W.fnOf x x (bH st) (aY st) (az st) (.ref T) kV doc pm an cdv ct),osl⟩)(c:PySem.W.codeIn K cdv x=true)(k:PySem.W.keepIn K (.ref f)=true)
  (lT:K.lookup T=some oT) (sT:oT.data = .seq #[.bool true] nT):Gm K x st:=⟨f,T,oc,kV,doc,pm,cdv,ct,od,an,osl,oT,nT,n,l,c,k,lT,sT⟩
end
end L3
namespace G31
open PySem L2 L3
def iD:uS "parts_reached" (bB 9) ["body","names","reached"]:=fun _ _ _ _ _ _ _ _ _ _ us sT hl hT=>yW (P:=fun us=>BindsTo _ _ ⟨us,[]⟩ ((["body","names","reached"]:Vs).zip us)) (fun _ _ _=>by refine BindsTo.of_defaults rfl hT sT rfl ?_;rfl) us hl
def iE:uT "parts_reached" (bB 9) ["body","names","reached"]:=fun _ _ _ _ _ _ _ _ _ _ us sT hl hT=>nz (P:=fun us=>BindsTo _ _ ⟨us,[]⟩ ((["body","names","reached"]:Vs).zip (us++[.bool true]))) (fun _ _=>by refine BindsTo.of_defaults rfl hT sT rfl ?_;rfl) us (Nat.succ.inj hl)
def wQ{l:PySem.W.OpenLaw}{w:World}{K:Vo}{h:Heap}{mg:Vr}{fa:Addr}(X:K.In h)(G:h.Ns mainGlobals mg)(hfa:mg "law" = some (.ref fa))
  (B5:B2 K "sides_of" (bB 2))
  (B6:B2 K "parts_in" (bB 3))
  (CL:B2 K "parts" (bB 4))
  (Bu:B2 K "plain_trace" (bB 6))
  (Bv:B2 K "led_to_part" (bB 7))
  (Bh:Gm K "parts_reached" (bB 9))
  (BO:B2 K "next_step" (bB 10))
  (Cg:B2 K "filling" (bB 11))
  (B7:B2 K "fillable" (bB 12))
  (A7:B2 K "passes_of_then" (bB 14))
  (BP:B2 K "passes_of" (bB 15))
  (A8:B2 K "oftens_come_to" (bB 16))
  (Cv:B2 K "rounds" (bB 17))
  (BQ:B2 K "_law_deal" (bB 19))
  (BR:B2 K "_law_draw" (bB 20))
  (BE:B2 K "_law_words" (bB 21))
  (B8:B2 K "_law_low" (bB 22))
  (BS:B2 K "_law_cost" (bB 23))
  (BU:B2 K "_law_leaf" (bB 24))
  (BV:B2 K "_law_body" (bB 25))
  (A2:B2 K "_law_pass_count" (bB 26))
  (AY:B2 K "_law_round_count" (bB 27))
  (A9:B2 K "_law_deed_body" (bB 28))
  (BF:B2 K "_law_house" (bB 29))
  (BW:B2 K "_law_puts" (bB 30))
  (Bi:B2 K "_law_fillable" (bB 31))
  (BG:B2 K "_law_alike" (bB 32))
  (Bw:B2 K "_law_passes" (bB 33))
  (Bx:B2 K "_law_oftens" (bB 34))
  (By:B2 K "_law_rounds" (bB 35))
  (BH:B2 K "_law_chain" (bB 36))
  (A_:B2 K "_law_any_house" (bB 37))
  (Bn:B2 K "_law_swapped" (bB 38))
  (B9:B2 K "_law_kin" (bB 39))
  (BI:B2 K "_law_right" (bB 40))
  (BJ:Gk l.prog w K "SIDES_FROM" (C.k_SIDES_FROM.map fun kv=>(kv.1,V.int kv.2)))
  (DY:((["all","bool","enumerate","int","isinstance","len","list","max","range","reversed","tuple","zip"]:Vs).all fun x=>uu (PySem.W.nsIn K mainGlobals x))=true)
  (EA:B2 K "law" (bB 41))
  : ∃fd:FuncData,(∀(s:Shared) (v:Value),BindsTo s fd ⟨[v],[]⟩ [("_law_script",v)])/\∀base:Heap,K.In base->base.Ns mainGlobals mg->jX l.prog w K mg base sj 32 fa fd ["_law_script"] (yg K 1 ms):=by
 obtain⟨kV,doc,pm,an,cdv,ct,O⟩:=EA.law X G hfa (ps:=["_law_script"]) (fun _ _ _ _ _ _=>ny fun _=>rfl)
 exact⟨_,fun s v=>.of_eq rfl,fun base _ _=>(wL (P:=l.prog) (w:=w) (base:=base) ⟨B5.own X G (fun _ _ _ _ _ _=>ny fun _=>rfl),
  B6.own X G (fun _ _ _ _ _ _=>ny fun _=>rfl),
  CL.own X G (fun _ _ _ _ _ _=>ny fun _=>rfl),
  Bu.own X G (fun _ _ _ _ _ _=>ny fun _=>rfl),
  Bv.own X G (fun _ _ _ _ _ _=>yW fun _ _ _=>rfl),
  Bh.own X G iD iE,
  BO.own X G (fun _ _ _ _ _ _=>nz fun _ _=>rfl),
  Cg.own X G (fun _ _ _ _ _ _=>ny fun _=>rfl),
  B7.own X G (fun _ _ _ _ _ _=>ny fun _=>rfl),
  A7.own X G (fun _ _ _ _ _ _=>nz fun _ _=>rfl),
  BP.own X G (fun _ _ _ _ _ _=>nz fun _ _=>rfl),
  A8.own X G (fun _ _ _ _ _ _=>nz fun _ _=>rfl),
  Cv.own X G (fun _ _ _ _ _ _=>nz fun _ _=>rfl),
  BQ.own X G (fun _ _ _ _ _ _=>nz fun _ _=>rfl),
  BR.own X G (fun _ _ _ _ _ _=>nz fun _ _=>rfl),
  BE.own X G (fun _ _ _ _ _ _=>nz fun _ _=>rfl),
  B8.own X G (fun _ _ _ _ _ _=>nz fun _ _=>rfl),
  BS.own X G (fun _ _ _ _ _ _=>ny fun _=>rfl),
  BU.own X G (fun _ _ _ _ _ _=>nz fun _ _=>rfl),
  BV.own X G (fun _ _ _ _ _ _=>zY fun _ _ _ _=>rfl),
  A2.own X G (fun _ _ _ _ _ _=>ny fun _=>rfl),
  AY.own X G (fun _ _ _ _ _ _=>ny fun _=>rfl),
  A9.own X G (fun _ _ _ _ _ _=>zY fun _ _ _ _=>rfl),
  BF.own X G (fun _ _ _ _ _ _=>zY fun _ _ _ _=>rfl),
  BW.own X G (fun _ _ _ _ _ _=>yW fun _ _ _=>rfl),
  Bi.own X G (fun _ _ _ _ _ _=>ny fun _=>rfl),
  BG.own X G (fun _ _ _ _ _ _=>nz fun _ _=>rfl),
  Bw.own X G (fun _ _ _ _ _ _=>nz fun _ _=>rfl),
  Bx.own X G (fun _ _ _ _ _ _=>yW fun _ _ _=>rfl),
  By.own X G (fun _ _ _ _ _ _=>nz fun _ _=>rfl),
  BH.own X G (fun _ _ _ _ _ _=>ny fun _=>rfl),
  A_.own X G (fun _ _ _ _ _ _=>ny fun _=>rfl),
  Bn.own X G (fun _ _ _ _ _ _=>nz fun _ _=>rfl),
  B9.own X G (fun _ _ _ _ _ _=>ny fun _=>rfl),
  BI.own X G (fun _ _ _ _ _ _=>ny fun _=>rfl),
  iZ (x:="all") X G DY,
  iZ (x:="bool") X G DY,
  iZ (x:="enumerate") X G DY,
  iZ (x:="int") X G DY,
  iZ (x:="isinstance") X G DY,
  iZ (x:="len") X G DY,
  iZ (x:="list") X G DY,
  iZ (x:="max") X G DY,
  iZ (x:="range") X G DY,
  iZ (x:="reversed") X G DY,
  iZ (x:="tuple") X G DY,
  iZ (x:="zip") X G DY,
  BJ.kd X G⟩ O).ok⟩
def zZ{l:PySem.W.OpenLaw}{q:Program}{loose:Vs}{XP:(Vr)->Heap->Prop}{YP:World->Heap->Prop}{d:DefRec}{K:Params->PySem.W.Frag}(hn:l.most=some 63)(hdf:d.params.defaults=[])
  (hY:∀(w:World) (h:Heap),YP w h->(K w.params).In h)
  (F:∀(w:World) (mg:Vr) (fa:Addr) (h:Heap),(K w.params).In h->h.Ns mainGlobals mg->mg d.name=some (.ref fa)->
   ∃fd:FuncData,(∀(s:Shared) (u:Value),BindsTo s fd ⟨[u],[]⟩ [("_law_script",u)])/\∀base:Heap,(K w.params).In base->base.Ns mainGlobals mg->jX l.prog w (K w.params) mg base sj 32 fa fd ["_law_script"] (yg (K w.params) 1 ms)) :
  PySem.W.WalkO q loose XP YP l.row.toRowW d [] (fun f vs=>PySem.call f vs):=
 L2.sZ (n:=63) (k:=32) (x:="_law_script") (CX:=fun _=>sj) (sp:=fun w=>yg (K w.params) 1 ms) hn (by decide) hdf ⟨rfl,by decide,by decide,rfl⟩ hY F (fun _ _ a ns hl hO hS=>zL hO hS (sg ns hl)) fun _ _ _ _ _ z=>z
end G31
local macro_rules | `(tactic| walk_at "k")=>`(tactic| (apply L3.AC; k_is; k_is; k_is; k_is))
local macro_rules | `(tactic| walk_at "d")=>`(tactic| (apply L3.AE; k_is; k_is; k_is; k_is; k_is; rfl))
open PySem PySem.W PyProof.Rows
set_option maxRecDepth 100000 in
set_option maxHeartbeats 0 in
theorem PySem.Challenge.cw_dueworth_k31_rounds_holds : PySem.Challenge.rw_dueworth_k31_rounds.Holds := by
 w_on; refine holds_law E31.said fun said => ?_
 refine holds_open (q := E31.vw) (loose := ["SIDES_FROM", "parts_reached"]) (Xt := fun s => (xlAt E31.vw [] s && recOk (RowW.records E31.rr) s)) (XP := XL E31.vw []) (N := 2488)
  (Yf := Hook.obs E31.hk) (Ya := Hook.val E31.hk) (YP := Hook.says (kHook E31.early.heap_1 E31.as E31.z0)) E31.left (Hook.of E31.hk) (Hook.keeps E31.hk) (fun s e => xl_of s (LA.mp e).1)
  XL.keeps rfl rfl rfl (fun s e => recFacts_of (LA.mp e).2) rfl (by assumption)
  (by decide +kernel) ⟨rfl, rfl, rfl, rfl, rfl, by decide +kernel⟩ ?hw ?hc
 (case hw => w_witness2)
 k_fill
 refine G31.zZ (l := PySem.Challenge.rw_dueworth_k31_rounds) rfl rfl (fun w h Y => PySem.W.kIn_of Y) ?F
 case F =>
  intro w mg fa h KX G hmg
  refine' G31.wQ KX G hmg ?B5 ?B6 ?CL ?Bu ?Bv ?Bh ?BO ?Cg ?B7 ?A7 ?BP ?A8 ?Cv ?BQ ?BR ?BE ?B8 ?BS ?BU ?BV ?A2 ?AY ?A9 ?BF ?BW ?Bi ?BG ?Bw ?Bx ?By ?BH ?A_ ?Bn ?B9 ?BI ?BJ ?DY ?EA
  (case B5 => walk_at "k")
  (case B6 => walk_at "k")
  (case CL => walk_at "k")
  (case Bu => walk_at "k")
  (case Bv => walk_at "k")
  (case Bh => walk_at "d")
  (case BO => walk_at "k")
  (case Cg => walk_at "k")
  (case B7 => walk_at "k")
  (case A7 => walk_at "k")
  (case BP => walk_at "k")
  (case A8 => walk_at "k")
  (case Cv => walk_at "k")
  (case BQ => walk_at "k")
  (case BR => walk_at "k")
  (case BE => walk_at "k")
  (case B8 => walk_at "k")
  (case BS => walk_at "k")
  (case BU => walk_at "k")
  (case BV => walk_at "k")
  (case A2 => walk_at "k")
  (case AY => walk_at "k")
  (case A9 => walk_at "k")
  (case BF => walk_at "k")
  (case BW => walk_at "k")
  (case Bi => walk_at "k")
  (case BG => walk_at "k")
  (case Bw => walk_at "k")
  (case Bx => walk_at "k")
  (case By => walk_at "k")
  (case BH => walk_at "k")
  (case A_ => walk_at "k")
  (case Bn => walk_at "k")
  (case B9 => walk_at "k")
  (case BI => walk_at "k")
  (case BJ => apply L3.AD; k_is; k_is; rfl; exact L2.vV _ w [("then", 1, _, _), ("either", 1, _, _), ("take", 3, _, _), ("often", 1, _, _)] _ (by decide +kernel))
  (case DY => kernel_rfl)
  (case EA => walk_at "k")
#print axioms PySem.Challenge.cw_dueworth_k31_rounds_holds
