import PyProof.Rows.All
import Wide.All
import OpenK.AllK
import Wide.FinOn
import Lean
import PyProof.EqAt
import PyProof.EqKinds
import PyProof.TupleCall
import PySem.Challenge.RW_dueworth_k09_texts_of_no_body
import Open.Tree
import Open.Head
section
set_option Elab.async false
set_option linter.all false
set_option maxRecDepth 100000
set_option maxHeartbeats 0
abbrev PJ:=@PySem.wpAny_bind
abbrev PK:=@PySem.Heap.get?_push_of_some
abbrev PL:=@List.map_cons
abbrev PM:=@List.mem_cons
abbrev PN:=@Nat.le_refl
abbrev PU:=@PySem.wpAny_pure
abbrev PX:=@List.length_append
abbrev PY:=@List.length_map
abbrev PZ:=@Nat.le_trans
abbrev P0:=@decide_eq_false
abbrev P1:=@List.mem_singleton
abbrev P4:=@List.mem_cons_of_mem
abbrev P5:=@PySem.Heap.lt_size
abbrev P6:=@Nat.lt_of_lt_of_le
abbrev P7:=@List.not_mem_nil
abbrev P8:=@List.size_toArray
abbrev P9:=@PySem.Heap.get?_push_size
abbrev Qa:=@List.length_cons
abbrev Qc:=@Nat.zero_le
abbrev Qd:=@Bool.false_eq_true
abbrev Qe:=@List.mem_append
abbrev Qf:=@decide_eq_true_eq
abbrev Qg:=@List.getElem?_eq_some_iff
abbrev Qh:=@decide_eq_true
abbrev Qi:=@PySem.wpAny_with_toks
abbrev Qj:=@List.mem_cons_self
abbrev Qk:=@Bool.false_ne_true
abbrev Ql:=@List.getElem?_map
abbrev Qm:=@List.map_nil
abbrev Qn:=@Bool.false_bne
abbrev Qo:=@Nat.ne_of_lt
abbrev Qp:=@List.append_assoc
abbrev Qq:=@List.count_append
abbrev Qs:=@Bool.and_eq_true
abbrev Qt:=@List.mem_map
abbrev Qu:=@congrArg
abbrev Qv:=@List.append_nil
abbrev Qw:=@List.nodup_cons
abbrev Qx:=@or_false
abbrev Qy:=@PySem.mem_of_lookup
abbrev Qz:=@Option.map_eq_some_iff
abbrev QA:=@PySem.Heap.get?_update_other
abbrev QB:=@List.getElem?_eq_getElem
abbrev QC:=@List.map_append
abbrev QD:=@List.mem_append_right
abbrev QE:=@PySem.wpAny_field
abbrev QF:=@List.length_eq_zero_iff
abbrev QG:=@List.all_eq_true
abbrev QH:=@List.map_map
abbrev QI:=@PyProof.Rows.slot_tuple_getitem
abbrev QJ:=@Int.eq_ofNat_of_zero_le
abbrev QK:=@Ne.symm
abbrev QL:=@List.getElem?_append_left
abbrev QM:=@Option.some.inj
abbrev QN:=@if_false
abbrev QO:=@Nat.succ_le_succ
abbrev QS:=@List.length_replicate
abbrev QT:=@List.getElem?_eq_none
abbrev QU:=@List.singleton_append
abbrev QV:=@PyProof.Rows.callWith_type1
abbrev QW:=@List.mem_append_left
abbrev QX:=@PySem.wpAny_Call_Name_kw
abbrev QY:=@List.mem_of_getElem?
abbrev QZ:=@List.count_cons_self
abbrev Q0:=@List.nil_append
abbrev Q2:=@List.replicate_succ
abbrev Q4:=@PySem.wpAny_newObj_type
abbrev Q5:=@PySem.PassesOwn.never
abbrev Q6:=@List.getElem?_replicate
abbrev Q7:=@PySem.wpAny_callSpecial?_slot
abbrev Q8:=@List.getElem?_append_right
abbrev Q9:=@PySem.Heap.size_push
abbrev Ra:=@List.take_of_length_le
abbrev Rb:=@PySem.Heap.get?_update_self
abbrev Rc:=@List.length_singleton
abbrev Rf:=@List.take_append_drop
abbrev Rg:=@PySem.wpAny_mono
abbrev Rh:=@List.cons_append
abbrev Ri:=@Nat.lt_irrefl
abbrev Rj:=@if_true
abbrev Rk:=@PySem.wpAny_seqItems
abbrev Rl:=@List.reverse_cons
abbrev Rm:=@Int.toNat_of_nonneg
abbrev Ro:=@true_and
abbrev Rp:=@Nat.ne_of_gt
abbrev Rq:=@PySem.wpAny_holding
abbrev Rr:=@PySem.F.slot_tuple_iterator_next
abbrev Rt:=@PySem.wpAny_setField_rec
abbrev Ru:=@Array.getElem?_eq_some_iff
abbrev Rv:=@List.tail_drop
abbrev Rw:=@Nat.le_of_ble_eq_true
abbrev Rx:=@List.drop_eq_getElem_cons
abbrev Ry:=@PySem.wpAny_passesOwn
abbrev Rz:=@Bool.eq_iff_iff
abbrev RA:=@List.length_nil
abbrev RB:=@Nat.le_of_lt
abbrev RC:=@PySem.wpAny_truthy_bool
abbrev RD:=@List.flatten_cons
abbrev RE:=@PySem.wpAny_pyIter_list
abbrev RG:=@Int.mul_ediv_cancel_left
abbrev RH:=@Bool.not_true
abbrev RI:=@PySem.W.mg_of
abbrev RJ:=@List.filterMap_cons
abbrev RK:=@List.length_take
abbrev RL:=@PySem.wpAny_call_entry
abbrev RM:=@Int.fdiv_eq_ediv_of_dvd
abbrev RN:=@PySem.StrLaws.found_one
abbrev RO:=@PySem.Calls.spliced_cons
abbrev RP:=@PySem.codeAny_mono
abbrev RQ:=@PySem.Obj.data_mapFields
abbrev RS:=@PySem.wpAny_pyIter_tuple
abbrev RU:=@PySem.F.plainAttrs_str
abbrev RV:=@List.length_set
abbrev RW:=@List.dropLast_concat_getLast
abbrev RX:=@List.any_cons
abbrev RY:=@List.sum_cons
abbrev RZ:=@List.cons.inj
abbrev R4:=@List.flatMap_cons
abbrev R5:=@List.mem_range'_1
abbrev R6:=@Bool.and_eq_true_iff
abbrev R7:=@PySem.call_meets
abbrev R8:=@List.drop_zero
abbrev R9:=@List.mem_of_mem_drop
abbrev Se:=@List.length_drop
abbrev Sf:=@Nat.lt_trans
abbrev Sg:=@List.lookup_cons
abbrev Sj:=@beq_self_eq_true
abbrev Sk:=@ne_true_of_eq_false
abbrev Sl:=@PySem.wpAny_standAt
abbrev Sm:=@PySem.F.args_tuple_add_2
abbrev Sn:=@PySem.StrLaws.split_free
abbrev So:=@PySem.wpAny_execs_nil
abbrev Ss:=@List.forIn_cons
abbrev Su:=@Nat.min_eq_left
abbrev Sv:=@List.sum_append
abbrev Sw:=@PySem.W.callWith_K
abbrev Sx:=@PySem.typeIs_str
abbrev Sy:=@PySem.tupleKind_room_in1
abbrev Sz:=@Nat.lt_of_le_of_lt
abbrev SA:=@beq_iff_eq
abbrev SD:=@List.contains_cons
abbrev SE:=@Int.emod_lt_of_pos
abbrev SG:=@PySem.F.entry_tuple_add
abbrev SH:=@Option.bind_eq_some_iff
abbrev SI:=@PySem.Calls.spliced_nil
abbrev SJ:=@PySem.W.cellsFrom_some
abbrev SK:=@PySem.F.slot_tuple_add
abbrev SM:=@Int.toNat_natCast
abbrev SN:=@PySem.Calls.callWith_builtin
abbrev SQ:=@PySem.wpAny_setField
abbrev SR:=@PySem.wpAny_loadPart_at
abbrev SS:=@List.length_eq_one_iff
abbrev SV:=@List.getElem?_set
abbrev SW:=@Nat.zero_add
abbrev SX:=@PySem.F.entry_str_split
abbrev SY:=@List.drop_of_length_le
abbrev Tc:=@List.drop_eq_nil_of_le
abbrev Te:=@List.eraseIdxIfInBounds_toArray
abbrev Tf:=@Array.getElem?_toList
abbrev Th:=@PySem.Obj.isFreed_of_fields
abbrev Ti:=@List.count_cons_of_ne
abbrev Tj:=@PySem.wpAny_rule
abbrev Tn:=@PySem.wpAny_call
abbrev To:=@Nat.le_add_right
abbrev Tp:=@PySem.F.slot_str_split
abbrev Tq:=@List.take_length
abbrev Tt:=@Nat.le_max_right
abbrev Tu:=@Bool.true_bne
abbrev Tv:=@List.getElem?_set_ne
abbrev Tw:=@PySem.wpAny_updateSeq_pair
abbrev Tz:=@Nat.pow_lt_pow_right
abbrev TH:=@List.mem_of_mem_take
abbrev TJ:=@List.mem_filter
abbrev TN:=@PySem.codeAny_toks_of
abbrev TQ:=@List.of_mem_zip
abbrev TR:=@PySem.F.slot_zip_next
abbrev TU:=@Int.natCast_pos
abbrev TV:=@Int.emod_nonneg
abbrev TX:=@Nat.le_max_left
abbrev TY:=@beq_eq_false_iff_ne
abbrev TZ:=@Array.length_toList
abbrev T3:=@List.length_reverse
abbrev T4:=@List.getElem?_range
abbrev T6:=@Int.le_of_lt
abbrev Ua:=@List.mem_range
abbrev Ub:=@Bool.not_false
abbrev Uc:=@Nat.le_succ
abbrev Ud:=@Option.isSome_map
abbrev Ue:=@Bool.not_eq_true'
abbrev Ug:=@Nat.gcd_one_right
abbrev Uh:=@Prod.mk.injEq
abbrev Ui:=@Nat.min_le_right
abbrev Uj:=@List.getElem_mem
namespace ET
open PySem PySem.W PyProof.Rows
def fO(tb:String→Option Builtin)(p:Program)(w:World)(n₀:Nat)(ann:Option Value):Nat→SharedT→Thread→Option SharedT
 |0,_,_=>none
 |n+1,s,t=>match through t with
  |true=>some s
  |false=>match stepOk n₀ ann t with
   |false=>none
   |true=>match stepT (denote tb) p w s t with
    |some x=>fO tb p w n₀ ann n x.1 x.2
    |none=>none
theorem kr{tb:String→Option Builtin}{p:Program}{w:World}{n₀:Nat}{ann:Option Value}:∀{n:Nat} {s s':SharedT} {t:Thread},fO tb p w n₀ ann n s t=some s'→topRun tb p w n₀ ann n s.abs t=some s'.abs
 |0,_,_,_,h=>by cases h
 |n+1,s,s',t,h=>by
  unfold fO at h
  unfold topRun
  cases he:through t with
  |true=>rw[he]at h;cases h;rfl
  |false=>
   rw[he]at h
   cases hk:stepOk n₀ ann t with
   |false=>rw[hk]at h;cases h
   |true=>
    rw[hk]at h
    cases hs:stepT (denote tb) p w s t with
    |none=>rw[hs]at h;cases h
    |some r=>rw[hs]at h;rw[stepT_spec hs];exact kr h
def Cv:List Obj→BT→Nat→Option (BT×Nat)
 |[],t,n=>some (t,n)
 |o::os,t,n=>match ((t.ins n o).get n).isSome with
  |true=>Cv os (t.ins n o) (n+1)
  |false=>none
theorem ph{life:Life}:∀{os:List Obj} {t t':BT} {n n':Nat},Cv os t n=some (t',n')→absHeap t' n' life=⟨(absHeap t n life).objs++os.toArray,life⟩
 |[],t,t',n,n',h=>by cases h;simp[absHeap]
 |o::os,t,t',n,n',h=>by
  unfold Cv at h
  cases g:((t.ins n o).get n).isSome with
  |false=>rw[g]at h;cases h
  |true=>
   rw[g]at h
   rw[ph h,absHeap_ins g]
   simp[Heap.push]
def fP(tb:String→Option Builtin)(p:Program)(w:World)(N:Nat)(s₀:Shared):Option Shared:=
 match s₀.heap.isNs mainGlobals&&s₀.gens.size == 0 with
 |true=>match Cv s₀.heap.objs.toList .nil 0 with
  |some x=>match fO tb p w x.2 (s₀.heap.nsMap mainGlobals "__annotations__") N ⟨x.1,x.2,s₀.heap.life,s₀.gens,s₀.drawn,s₀.toks,s₀.os⟩ (topStub p)with
   |some s=>match staticsOk (importedModules p.main.body) s₀.heap s.abs.heap&&namesBound p s.abs.heap&&gensDone s.abs&&laidKept s₀.heap s.abs.heap with
    |true=>some s.abs
    |false=>none
   |none=>none
  |none=>none
 |false=>none
theorem nR{tb:String→Option Builtin}{p:Program}{w:World}{N:Nat}{s₀ s:Shared}(h:fP tb p w N s₀=some s):topFrom tb p w N s₀=some s:=by
 unfold fP at h
 unfold topFrom
 cases h1:s₀.heap.isNs mainGlobals&&s₀.gens.size == 0 with
 |false=>rw[h1]at h;cases h
 |true=>
  rw[h1]at h
  dsimp only at h ⊢
  cases h2:Cv s₀.heap.objs.toList .nil 0 with
  |none=>rw[h2]at h;cases h
  |some x=>
   rw[h2]at h
   dsimp only at h
   have e:=ph (life:=s₀.heap.life) h2
   have e':absHeap x.1 x.2 s₀.heap.life=s₀.heap:=by
    rw[e]
    simp[absHeap,BT.list]
   have n':x.2=s₀.heap.objs.size:=by rw[←e',absHeap_size]
   cases h3:fO tb p w x.2 (s₀.heap.nsMap mainGlobals "__annotations__") N ⟨x.1,x.2,s₀.heap.life,s₀.gens,s₀.drawn,s₀.toks,s₀.os⟩ (topStub p)with
   |none=>rw[h3]at h;cases h
   |some r=>
    rw[h3]at h
    dsimp only at h
    have ea:SharedT.abs ⟨x.1,x.2,s₀.heap.life,s₀.gens,s₀.drawn,s₀.toks,s₀.os⟩=s₀:=by
     unfold SharedT.abs
     rw[e']
    have:=kr h3
    rw[ea,n']at this
    rw[this]
    exact h
theorem nT{tb:String→Option Builtin}{p:Program}{w:World}{N:Nat}{s₀:Shared}{α:Type}{f:Shared→α}{a:α}(h:Option.map f (fP tb p w N s₀)=some a):Option.map f (topFrom tb p w N s₀)=some a:=by
 obtain⟨s,h1,h2⟩:=Qz.mp h
 rw[nR h1]
 exact Qu some h2
def seenT(p q:Program)(loose:List Str)(Xt:Shared→Bool){α:Type}(Yf:Shared→α)(N:Nat)(u u':World):=
 Option.map (fun c=>Option.map (fun s=>(openSeen q loose (importedModules p.main.body) Xt true s,Yf s)) (fP treeTable p u' N c)) (fencedOpening treeTable p u N)
lay_quick seenT
theorem pk{p q:Program}{loose:List Str}{Xt:Shared→Bool}{α:Type}{Yf:Shared→α}{N:Nat}{u u':World}{r}(h:PySem.W.Fast.tw2787559817927863336 p q loose Xt Yf N u u'=r):seenT p q loose Xt Yf N u u'=r:=by
 rw[PySem.W.Fast.te2787559817927863336]
 exact h
theorem En{p q:Program}{loose:List Str}{Xt:Shared→Bool}{α:Type}{Yf:Shared→α}{Ya:World→α}{N:Nat}
  (h:∀u:World,seenT p q loose Xt Yf N u u=some (some (openGood q loose,Ya u))):LeftO p q loose Xt Yf Ya N:=fun u=>by
 obtain⟨c,a,b⟩:=Qz.mp (h u)
 unfold openEnds
 rw[a]
 exact nT b
theorem sL{p q:Program}{loose:List Str}{Xt:Shared→Bool}{α:Type}{Yf:Shared→α}{Ya:World→α}{N:Nat}(row:String)
  (h0:∀u:World,seenT p q loose Xt Yf N u (u.withFollow row false)=some (some (openGood q loose,Ya (u.withFollow row false))))
  (h1:∀u:World,seenT p q loose Xt Yf N u (u.withFollow row true)=some (some (openGood q loose,Ya (u.withFollow row true)))):LeftO p q loose Xt Yf Ya N:=fun u=>by
 obtain⟨c,a,b⟩:=Qz.mp (h0 u)
 obtain⟨c',a',b'⟩:=Qz.mp (h1 u)
 have hc:c'=c:=by rw[a]at a';cases a';rfl
 subst hc
 have b:=nT b
 have b':=nT b'
 have hu:=World.withFollow_self u row
 unfold openEnds
 rw[a]
 cases hb:u.params.followText row<;>rw[hb]at hu
 ·rw[hu]at b
  exact b
 ·rw[hu]at b'
  exact b'
end ET
namespace E09
open PySem PySem.W PyProof.Rows
abbrev tp(i:Nat):Stmt:=PySem.Challenge.pw_dueworth_k09_texts_of_no_body.main.body.getD i (.Pass ⟨0,0,0,0⟩)
/-- the text without what says nothing -/
def vw:Program:={ PySem.Challenge.pw_dueworth_k09_texts_of_no_body with main:={ PySem.Challenge.pw_dueworth_k09_texts_of_no_body.main with body:=[tp 1,tp 2,tp 3,tp 4,tp 5,tp 6,tp 7,tp 8,tp 10,tp 11,tp 12,tp 13,tp 15,tp 16,tp 17,tp 19,tp 20,tp 21,tp 22,tp 23,tp 24,tp 25,tp 26,tp 28,tp 29,tp 30,tp 31,tp 32,tp 33,tp 34,tp 35,tp 36,tp 37,tp 38,tp 39,tp 40,tp 41,tp 42,tp 43,tp 44,tp 45,tp 46,tp 47,tp 48] } }
abbrev rr:RowW:=OpenRow.toRowW (OpenLaw.row PySem.Challenge.rw_dueworth_k09_texts_of_no_body)
local macro_rules | `(tactic| o_head $H)=>`(tactic|
 refine holds_open (q:=vw) (loose:=["FORMS"]) (Xt:=fun s=>(xlAt vw [] s&&recOk (RowW.records rr) s)) (XP:=XL vw []) (N:=6084)
  (Yf:=Hook.obs $H) (Ya:=Hook.val $H) (YP:=Hook.says $H) ?hl (Hook.of $H) (Hook.keeps $H) (fun s e=>xl_of s (R6.mp e).1)
  XL.keeps rfl rfl rfl (fun s e=>recFacts_of (R6.mp e).2) rfl (by assumption)
  (by decide +kernel) ⟨rfl,rfl,rfl,rfl,rfl,by decide +kernel⟩ ?hw ?hc)
/-- the law is well said: by the quick twin of the look,with no twin of the program -/
theorem said:OpenLaw.wellSaid PySem.Challenge.rw_dueworth_k09_texts_of_no_body=true:=(congrFun PySem.W.Fast.te9446332074065402090 _).trans (by kernel_rfl)
/-- says nothing; what lies in the heap is written down by the way -/
theorem early(h:∀P:Prop,P):PySem.Challenge.rw_dueworth_k09_texts_of_no_body.Holds:=by
 w_on;refine holds_law said fun said=>?_;k_head
 all_goals exact h _
abbrev as:List Addr:=[2,3,15,22,23,24,25,28,35,37,38,40,41,42,43,44,47,54,56,57,59,60,61,62,63,66,73,75,76,78,79,80,81,82,85,92,94,95,97,98,99,100,101,104,111,112,113,116,123,124,125,128,135,136,137,140,142,143,145,146,147,150,151,152,154,155,157,158,159,160,163,164,165,166,167,168,169,170,171,172,173,175,176,178,179,180,182,183,185,186,187,189,190,192,193,194,196,197,199,200,201,203,204,206,207,208,210,211,213,214,215,217,218,220,221,222,225,226,227,229,230,232,233,234,236,237,239,240,241,243,244,246,247,248,250,251,253,254,255,258,259,260,262,263,265,266,267,269,270,272,273,274,276,277,279,280,281,283,284,286,287,288,291,292,293,295,296,298,299,300,303,304,305,307,308,310,311,312,315,316,317,319,320,322,323,324,326,327,329,330,331,333,334,336,337,338,340,341,343,344,345,347,348,350,351,352,355,356]
theorem FV(P:Params):as=(early.heap_1 P).map (·.1):=by kernel_rfl
noncomputable abbrev hk:Hook:=kHook early.heap_1 as FV
theorem Cw(u:World):ET.seenT (OpenLaw.row PySem.Challenge.rw_dueworth_k09_texts_of_no_body).prog vw ["FORMS"] (fun s=>(xlAt vw [] s&&recOk (RowW.records rr) s)) (Hook.obs hk) 6084 u (u.withFollow "special-get-raises" false)=some (some (openGood vw ["FORMS"],Hook.val hk (u.withFollow "special-get-raises" false))):=ET.pk (by kernel_rfl)
theorem Cy(u:World):ET.seenT (OpenLaw.row PySem.Challenge.rw_dueworth_k09_texts_of_no_body).prog vw ["FORMS"] (fun s=>(xlAt vw [] s&&recOk (RowW.records rr) s)) (Hook.obs hk) 6084 u (u.withFollow "special-get-raises" true)=some (some (openGood vw ["FORMS"],Hook.val hk (u.withFollow "special-get-raises" true))):=ET.pk (by kernel_rfl)
theorem left:LeftO (OpenLaw.row PySem.Challenge.rw_dueworth_k09_texts_of_no_body).prog vw ["FORMS"] (fun s=>(xlAt vw [] s&&recOk (RowW.records rr) s)) (Hook.obs hk) (Hook.val hk) 6084:=ET.sL "special-get-raises" Cw Cy
end E09
end
open PySem in
abbrev Vq:=Value->Shared->Prop
open PySem in
abbrev Va:=List (Addr×Obj)
open PySem in
abbrev Vo:=PySem.W.Frag
open PySem in
abbrev Vr:=Str->Option Value
open PySem in
abbrev Vs:=List Str
open PySem in
abbrev Vu:=List Int
open PySem in
abbrev Vv:=List Value
open PySem in
abbrev Vw:=Array Value
set_option Elab.async false
set_option linter.all false
set_option maxRecDepth 100000
namespace L2
open PySem PySem.Spec PyProof.Rows
abbrev aZ:=Sum Int Str
noncomputable def ku:aZ->Value->Bool
 | .inl k,v=>Value.isInt k v
 | .inr x,v=>Value.isStrOf x v
noncomputable def EJ(w:World):aZ->Int
 | .inl k=>hashInt k
 | .inr x=>hashStr w x
theorem a_:∀{k:aZ} {v:Value},ku k v=true->(∃i t,k=Sum.inl i/\v=Value.int i t)\/(∃x t,k=Sum.inr x/\v=Value.str x t)
 | .inl i,v,h=>by
  obtain⟨t,e⟩:=Value.isInt_shape (k:=i) (v:=v) h
  exact .inl ⟨i,t,rfl,e⟩
 | .inr x,v,h=>by
  obtain⟨t,e⟩:=Value.isStrOf_shape (x:=x) (v:=v) h
  exact .inr ⟨x,t,rfl,e⟩
def qN(i:Int)(t:Tok):ku (.inl i) (.int i t)=true:=by simp[ku,Value.isInt]
def gN(x:Str)(t:Tok):ku (.inr x) (.str x t)=true:=by simp[ku,Value.isStrOf]
def zO(a b:Int):decide ((Sum.inl a:aZ)=Sum.inl b)=(a == b):=by
 by_cases e:a=b
 ·subst e;simp
 ·have h:¬(Sum.inl a:aZ)=Sum.inl b:=fun q=>e (Sum.inl.inj q)
  rw[P0 h]
  exact(TY.mpr e).symm
def zP(a b:Str):decide ((Sum.inr a:aZ)=Sum.inr b)=decide (a=b):=by
 by_cases e:a=b
 ·subst e;simp
 ·have h:¬(Sum.inr a:aZ)=Sum.inr b:=fun q=>e (Sum.inr.inj q)
  rw[P0 h,P0 e]
def zQ(a:Int)(b:Str):decide ((Sum.inl a:aZ)=Sum.inr b)=false:=P0 (fun q=>nomatch q)
def zR(a:Str)(b:Int):decide ((Sum.inr a:aZ)=Sum.inl b)=false:=P0 (fun q=>nomatch q)
noncomputable def aP(prog:Program)(w:World):PySem.KeyKind prog w aZ where
 is:=ku
 hash:=EJ w
 inj:=fun v a b ha hb=>by
  rcases a_ ha with⟨i,t,rfl,rfl⟩|⟨x,t,rfl,rfl⟩
  ·rcases a_ hb with⟨j,u,rfl,e⟩|⟨y,u,rfl,e⟩
   ·injection e with e1 _;rw[e1]
   ·exact nomatch e
  ·rcases a_ hb with⟨j,u,rfl,e⟩|⟨y,u,rfl,e⟩
   ·exact nomatch e
   ·injection e with e1 _;rw[e1]
 byValue:=fun k v h=>by
  rcases a_ h with⟨i,t,rfl,rfl⟩|⟨x,t,rfl,rfl⟩<;>rfl
 pyHash:=fun hv h=>by
  rcases a_ hv with⟨i,t,rfl,rfl⟩|⟨x,t,rfl,rfl⟩
  ·exact wpAny_pyHash_int h
  ·exact wpAny_pyHash_str h
 eqBool:=fun hu hv h=>by
  rcases a_ hu with⟨i,t,rfl,rfl⟩|⟨x,t,rfl,rfl⟩
  ·rcases a_ hv with⟨j,u,rfl,rfl⟩|⟨y,u,rfl,rfl⟩
   ·rw[zO]at h;exact wpAny_eqBool_int h
   ·rw[zQ]at h;exact SeqAt.EqAt.int_str i t y u _ _ _ _ h
  ·rcases a_ hv with⟨j,u,rfl,rfl⟩|⟨y,u,rfl,rfl⟩
   ·rw[zR]at h;exact SeqAt.EqAt.str_int x t j u _ _ _ _ h
   ·rw[zP]at h;exact wpAny_eqBool_str h
 «strs»:=fun k x t v h=>by
  rcases a_ h with⟨i,u,rfl,e⟩|⟨y,u,rfl,e⟩
  ·exact nomatch e
  ·injection e with e1 _
   subst e1
   cases v<;>rfl
def mI(prog:Program)(w:World)(i:Int)(t:Tok):(aP prog w).is (.inl i) (.int i t)=true:=qN i t
def mJ(prog:Program)(w:World)(x:Str)(t:Tok):(aP prog w).is (.inr x) (.str x t)=true:=gN x t
inductive V where
 |non|bl (b:Bool)|int (i:Int)|str (x:Str)|Ko (b:Array UInt8)|MJ (b:UInt64)|ref (a:Addr)|ty (n:String)
 deriving DecidableEq
noncomputable def RelV:V->Value->Prop
 | .non,u=>u=Value.none
 | .bl b,u=>u=Value.bool b
 | .int i,u=>∃t,u=Value.int i t
 | .str x,u=>∃t,u=Value.str x t
 | .Ko b,u=>∃t,u=Value.bytes b t
 | .MJ b,u=>∃t,u=Value.float b t
 | .ref a,u=>u=Value.ref a
 | .ty n,u=>u=Value.type n
noncomputable abbrev Vals:List V->List Value->Prop:=Paired RelV
theorem Vals.length{xs:List V}{us:Vv}(r:Vals xs us):xs.length=us.length:=Paired.length r
theorem Vals.get:∀{xs:List V} {us:Vv} {i:Nat} {x:V},Vals xs us->xs[i]?=some x->∃u,us[i]?=some u/\RelV x u
 |_,_,_,_,.nil,e=>by simp at e
 |_,_,0,_,.cons r _,e=>by simp at e;subst e;exact⟨_,rfl,r⟩
 |_,_,i+1,x,.cons _ t,e=>by
  obtain⟨u,h1,h2⟩:=Vals.get (i:=i) (x:=x) t (by simpa using e)
  exact⟨u,by simpa using h1,h2⟩
theorem Vals.set{x:V}{u:Value}(r:RelV x u):∀{xs:List V} {us:Vv} (i:Nat),Vals xs us->Vals (xs.set i x) (us.set i u)
 |_,_,_,.nil=>.nil
 |_,_,0,.cons _ t=>.cons r t
 |_,_,i+1,.cons q t=>.cons q (Vals.set r i t)
theorem Vals.append:∀{xs ys:List V} {us ws:Vv},Vals xs us->Vals ys ws->Vals (xs++ys) (us++ws)
 |_,_,_,_,.nil,s=>s
 |_,_,_,_,.cons r t,s=>.cons r (Vals.append t s)
theorem Vals.take:∀{xs:List V} {us:Vv} (n:Nat),Vals xs us->Vals (xs.take n) (us.take n)
 |_,_,0,_=>.nil
 |_,_,_+1,.nil=>.nil
 |_,_,n+1,.cons r t=>.cons r (Vals.take n t)
theorem Vals.drop:∀{xs:List V} {us:Vv} (n:Nat),Vals xs us->Vals (xs.drop n) (us.drop n)
 |_,_,0,r=>r
 |_,_,_+1,.nil=>.nil
 |_,_,n+1,.cons _ t=>Vals.drop n t
noncomputable def Ij:Option V->Option Value->Prop
 |some v,some u=>RelV v u
 |none,none=>True
 |_,_=>False
noncomputable def KV{κ:Type}:List (κ×V)->List (κ×Value)->Prop:=Paired fun(p:κ×V) (q:κ×Value)=>p.1=q.1/\RelV p.2 q.2
noncomputable def kV:aZ->V
 | .inl i=>.int i
 | .inr x=>.str x
inductive HO where
 /-- a list -/
 |lst (xs:List V)
 /-- a tuple (never changes) -/
 |tup (xs:List V)
 /-- a dict whose keys are ints and texts; one whose keys are tuples of ints and texts (the empty one is both) -/
 |dK (kvs:List (aZ×V))|dT (kvs:List (List aZ×V))
 /-- a set of ints: its members,its size -/
 |set (S:Int->Bool) (n:Nat)
 /-- an instance of the class at C,its dict at dx,its attributes -/
 |ins (C dx:Addr) (fs:List (Str×V))
 /-- the dict of the instance at x -/
 |own (x:Addr)
 /-- the dict of an exception -/
 |xd (fs:List (Str×V))
 /-- a bound method,f of x -/
 |met (f x:Addr)
 /-- a range object lo,lo + 1,.. below hi -/
 |M5 (lo hi:Int)
 /-- a thing that is known to the object (the script; a dict while a loop walks it): read,never written while it is so -/
 |frz (o:Obj) (u:HO)
 /-- a code object's table -/
 |Lo (ps:Vw)
 /-- any other thing,by what is true of its one object (a def of NW own: Ox a S n:=HO.ext fun h=>..) -/
 |ext (φ:Heap->Prop)
abbrev Hp:=Addr->Option HO
noncomputable def upd(H:Hp)(a:Addr)(o:HO):Hp:=fun b=>if b=a then some o else H b
def ar{H:Hp}{a:Addr}{o:HO}:upd H a o a=some o:=by unfold upd;rw[if_pos rfl]
def aq{H:Hp}{a b:Addr}{o:HO}(h:b≠a):upd H a o b=H b:=by unfold upd;rw[if_neg h]
def wD{H:Hp}{a:Addr}{o u:HO}:upd (upd H a o) a u=upd H a u:=by
 funext b;unfold upd;split<;>rfl
def Cz{H:Hp}{a b:Addr}{o u:HO}(h:H a=some o)(h':H b=some u)(d:o≠u):a≠b:=by
 intro e;subst e;rw[h]at h';exact d (QM h')
def aM{H:Hp}{a b:Addr}{o:HO}(h:H a=some o)(h':H b=none):a≠b:=by
 intro e;subst e;rw[h]at h';cases h'
def Hj(h:Heap)(a:Addr)(its:Vw):Prop:=∃o,h.get? a=some o/\o.dict=none/\o.cls = .type "tuple"/\∃n,o.data = .seq its n
def Hj.tup{h:Heap}{a:Addr}{its:Vw}(x:Hj h a its):IsTup h a its:=let ⟨o,e,_,c,d⟩:=x;⟨o,e,c,d⟩
def Hj.new(h:Heap)(its:Vw):Hj (h.push { cls:=.type "tuple",data:=.seq its }) h.objs.size its:=⟨_,P9 _ rfl,rfl,rfl,_,rfl⟩
section
variable (P:Program) (w:World)
noncomputable def GM(H:Hp)(h:Heap)(a:Addr):HO->Prop
 | .lst xs=>xs.length<=sizeLine/\∃(its:Vv) (n:Nat),Vals xs its/\h.get? a=some { cls:=.type "list",data:=.seq its.toArray n }
 | .tup xs=>xs.length<=sizeLine/\∃its:List Value,Vals xs its/\Hj h a its.toArray
 | .dK kvs=>kvs.length<=sizeLine/\(a == sysModules)=false/\∃vs,KV kvs vs/\h.DictOf (aP P w) a vs
 | .dT kvs=>kvs.length<=sizeLine/\(a == sysModules)=false/\∃xs:List (List aZ×Addr×Value),
   Paired (fun(p:List aZ×V) (q:List aZ×Addr×Value)=>p.1=q.1/\H q.2.1=some (.tup (p.1.map kV))/\RelV p.2 q.2.2) kvs xs/\
   ∃o es ep,h.get? a=some o/\o.ExactDict/\o.data = .dict es ep/\es.toList=xs.map (entryOfKey (tupleKind (aP P w)))/\(xs.map (·.1)).Nodup
 | .set S n=>h.SetOf (intKind P w) a S n
 | .ins C dx fs=>H dx=some (.own a)/\fs.length<=1000/\dx≠a/\h.get? a=some (PySem.W.instObj C dx)/\
   ∃mA,h.Ns1 dx mA/\(∀f,Ij (fs.lookup f) (mA f))/\PySem.Within mA (fs.map (·.1))
 | .own _=>∃o,h.get? a=some o
 | .xd fs=>∃mA,h.Ns1 a mA/\∀f,Ij (fs.lookup f) (mA f)
 | .M5 lo hi=>∃t u v,h.get? a=some { cls:=.type "range",data:=.fields #[.int lo t,.int hi u,.int 1 v] }
 | .frz o u=>h.get? a=some o/\GM H h a u
 | .Lo ps=>h.get? a=some { cls:=.none,data:=.fields ps }
 | .met f x=>h.get? a=some (PySem.W.methodObj (.ref f) (.ref x))
 | .ext φ=>φ h/\(∃o,h.get? a=some o)/\∀h1 h2:Heap,φ h1->(∀o,h1.get? a=some o->h2.get? a=some o)->φ h2
def HM(H:Hp)(h:Heap):Prop:=∀a o,H a=some o->GM P w H h a o
end
section
variable {P:Program} {w:World} {H H':Hp} {h h':Heap} {a:Addr} {o:HO}
theorem GM.lt(x:GM P w H h a o):a < h.objs.size:=by
 cases o with
 |lst xs=>obtain⟨_,_,_,_,e⟩:=x;exact P5 e
 |tup xs=>obtain⟨_,_,_,p⟩:=x;exact p.tup.lt
 |dK kvs=>obtain⟨_,_,_,_,o,_,_,e,_⟩:=x;exact P5 e
 |dT kvs=>obtain⟨_,_,_,_,o,_,_,e,_⟩:=x;exact P5 e
 |set S n=>obtain⟨o,_,_,_,e,_⟩:=x;exact P5 e
 |ins C dx fs=>obtain⟨_,_,_,e,_⟩:=x;exact P5 e
 |own y=>obtain⟨_,e⟩:=x;exact P5 e
 |xd fs=>obtain⟨_,⟨_,_,_,e,_⟩,_⟩:=x;exact P5 e
 |M5 lo hi=>obtain⟨_,_,_,e⟩:=x;exact P5 e
 |frz ob u=>obtain⟨e,_⟩:=x;exact P5 e
 |Lo ps=>exact P5 (show h.get? a=some _ from x)
 |met f y=>exact P5 (show h.get? a=some _ from x)
 |ext φ=>obtain⟨_,⟨_,e⟩,_⟩:=x;exact P5 e
theorem Paired.Lp{α β:Type}{F G:α->β->Prop}:∀{l₁:List α} {l₂:List β},Paired F l₁ l₂->(∀a b,F a b->G a b)->Paired G l₁ l₂
 |_,_,.nil,_=>.nil
 |_,_,.cons r t,f=>.cons (f _ _ r) (Paired.Lp t f)
def GM.stay(x:GM P w H h a o)(k:∀b u,(b=a\/H b=some (.own a))->h.get? b=some u->h'.get? b=some u)
  (ho:∀b,H b=some (.own a)->H' b=some (.own a)) (ht:∀b xs,H b=some (.tup xs)->H' b=some (.tup xs)):GM P w H' h' a o:=by
 induction o with
 |lst xs=>obtain⟨z,its,n,r,e⟩:=x;exact⟨z,its,n,r,k _ _ (.inl rfl) e⟩
 |tup xs=>obtain⟨z,its,r,ob,e,c⟩:=x;exact⟨z,its,r,ob,k _ _ (.inl rfl) e,c⟩
 |dK kvs=>obtain⟨z,y,vs,r,ob,es,ep,e,c⟩:=x;exact⟨z,y,vs,r,ob,es,ep,k _ _ (.inl rfl) e,c⟩
 |dT kvs=>
  obtain⟨z,y,xs,r,ob,es,ep,e,c⟩:=x
  exact⟨z,y,xs,Paired.Lp r fun p q z=>⟨z.1,ht _ _ z.2.1,z.2.2⟩,ob,es,ep,k _ _ (.inl rfl) e,c⟩
 |set S n=>obtain⟨ob,es,ep,t,e,c⟩:=x;exact⟨ob,es,ep,t,k _ _ (.inl rfl) e,c⟩
 |ins C dx fs=>
  obtain⟨d,z,ne,e,mA,⟨od,es,ep,e2,c⟩,r⟩:=x
  exact⟨ho _ d,z,ne,k _ _ (.inl rfl) e,mA,⟨od,es,ep,k _ _ (.inr d) e2,c⟩,r⟩
 |own y=>obtain⟨ob,e⟩:=x;exact⟨ob,k _ _ (.inl rfl) e⟩
 |xd fs=>obtain⟨mA,⟨od,es,ep,e,c⟩,r⟩:=x;exact⟨mA,⟨od,es,ep,k _ _ (.inl rfl) e,c⟩,r⟩
 |M5 lo hi=>obtain⟨t,u,v,e⟩:=x;exact⟨t,u,v,k _ _ (.inl rfl) e⟩
 |frz ob u ih=>obtain⟨e,q⟩:=x;exact⟨k _ _ (.inl rfl) e,ih q⟩
 |Lo ps=>
  have e:h.get? a=some { cls:=.none,data:=.fields ps }:=x
  show h'.get? a=some { cls:=.none,data:=.fields ps }
  exact k a _ (.inl rfl) e
 |met f y=>
  have e:h.get? a=some (PySem.W.methodObj (.ref f) (.ref y)):=x
  show h'.get? a=some (PySem.W.methodObj (.ref f) (.ref y))
  exact k a _ (.inl rfl) e
 |ext φ=>obtain⟨p,⟨o,e⟩,st⟩:=x;exact⟨st _ _ p fun o q=>k _ _ (.inl rfl) q,⟨o,k _ _ (.inl rfl) e⟩,st⟩
theorem HM.lt(x:HM P w H h)(e:H a=some o):a < h.objs.size:=(x a o e).lt
def HM.fresh(x:HM P w H h)(e:h.objs.size<=a):H a=none:=by
 cases q:H a with
 |none=>rfl
 |some u=>exact absurd (P6 (x.lt q) e) (Ri _)
def HM.kept(x:HM P w H h)(k:∀b u,h.get? b=some u->h'.get? b=some u):HM P w H h':=fun a o e=>
 (x a o e).stay (fun b u _ q=>k b u q) (fun _ q=>q) fun _ _ q=>q
def HM.laid(x:HM P w H h)(k:∀b u,h.get? b=some u->h'.get? b=some u)(hp:h.objs.size<=a)(new:GM P w (upd H a o) h' a o):HM P w (upd H a o) h':=fun b u e=>by
 have hn:=x.fresh hp
 by_cases hb:b=a
 ·subst hb;rw[ar]at e;cases e;exact new
 ·rw[aq hb]at e
  exact(x b u e).stay (fun c v _ q=>k c v q) (fun c q=>by rw[aq (aM q hn)];exact q) fun c xs q=>by rw[aq (aM q hn)];exact q
end
def Rd(H:Hp)(a:Addr)(u:HO):Prop:=H a=some u\/∃o,H a=some (.frz o u)
def Rd.ok{P:Program}{w:World}{H:Hp}{h:Heap}{a:Addr}{u:HO}(r:Rd H a u)(x:HM P w H h):GM P w H h a u:=by
 rcases r with r|⟨o,r⟩
 ·exact x a u r
 ·obtain⟨_,q⟩:=x a _ r
  exact q
noncomputable def CA:Option HO->Prop
 |some (.lst _)=>True
 |some (.dK _)=>True
 |some (.dT _)=>True
 |some (.set _ _)=>True
 |some (.ins _ _ _)=>True
 |some (.ext _)=>True
 |_=>False
section
variable {P:Program} {w:World} {H:Hp} {h h':Heap} {x e:Addr} {o':HO}
def HM.write(ok:HM P w H h)(mu:CA (H x))(he:e=x\/H e=some (.own x))(k:∀b u,b≠e->h.get? b=some u->h'.get? b=some u)(LX:∃u,h'.get? e=some u)
  (new:GM P w (upd H x o') h' x o'):HM P w (upd H x o') h':=fun b u q=>by
 have L7:∀c y,H c=some (.own y)->c≠x:=fun c y r z=>by subst z;rw[r]at mu;exact mu
 have M6:∀c xs,H c=some (.tup xs)->c≠x:=fun c xs r z=>by subst z;rw[r]at mu;exact mu
 by_cases hb:b=x
 ·subst hb;rw[ar]at q;cases q;exact new
 ·rw[aq hb]at q
  by_cases J4:b=e
  ·have q':H b=some (.own x):=by
    rcases he with z|z
    ·exact absurd (J4.trans z) hb
    ·rw[J4];exact z
   rw[q]at q';cases q'
   obtain⟨v,hv⟩:=LX
   exact⟨v,by rw[J4];exact hv⟩
  ·refine(ok b u q).stay (fun c v hc r=>k c v ?_ r) (fun c r=>by rw[aq (L7 c b r)];exact r) fun c xs r=>by rw[aq (M6 c xs r)];exact r
   rcases hc with rfl|hc
   ·exact J4
   ·rintro rfl
    rcases he with z|z
    ·exact L7 c b hc z
    ·rw[hc]at z;cases z;exact hb rfl
end
structure Un (fs ex:List Addr) (H H':Hp) (h h':Heap):Prop where
 keep:∀b o,h.get? b=some o->H b=none->b ∉ fs->b ∉ ex->h'.get? b=some o
 slot:∀b o,h.get? b=some o->H b=none->b∈fs->b ∉ ex->∃sl,h'.get? b=some { o with slots:=sl }
 free:∀b o,h.get? b=some o->H b=none->b ∉ ex->H' b=none
 there:∀b o,h.get? b=some o->b ∉ ex->∃o',h'.get? b=some o'
 tups:∀b xs,H b=some (.tup xs)->H' b=some (.tup xs)
 IW:∀b o u,H b=some (.frz o u)->H' b=some (.frz o u)
 Jd:∀b ps,H b=some (.Lo ps)->∃more,H' b=some (.Lo (ps++more))
section
variable {fs fs' ex ex':List Addr} {H H1 H2:Hp} {h h1 h2 h':Heap} {a x e:Addr} {o:HO}
def Un.any(u:Un fs ex H H1 h h1){b:Addr}{ob:Obj}(q:h.get? b=some ob)(n:H b=none)(hx:b ∉ ex):∃sl,h1.get? b=some { ob with slots:=sl }:=by
 by_cases hb:b∈fs
 ·exact u.slot b ob q n hb hx
 ·exact⟨ob.slots,u.keep b ob q n hb hx⟩
def Un.kept(k:∀b u,h.get? b=some u->h'.get? b=some u):Un fs ex H H h h':=
 ⟨fun b ob q _ _ _=>k b ob q,fun b ob q _ _ _=>⟨ob.slots,k b ob q⟩,fun _ _ _ n _=>n,fun b ob q _=>⟨ob,k b ob q⟩,fun _ _ q=>q,fun _ _ _ q=>q,fun _ ps q=>⟨#[],by rw[q];simp⟩⟩
def Un.refl:Un fs ex H H h h:=Un.kept fun _ _ q=>q
def Un.laid(k:∀b u,h.get? b=some u->h'.get? b=some u)(hp:h.objs.size<=a)(hn:H a=none):Un fs ex H (upd H a o) h h' where
 keep:=fun b u q _ _ _=>k b u q
 slot:=fun b u q _ _ _=>⟨u.slots,k b u q⟩
 free:=fun b u q n _=>by rw[aq (Qo (P6 (P5 q) hp))];exact n
 there:=fun b u q _=>⟨u,k b u q⟩
 tups:=fun b xs q=>by rw[aq (aM q hn)];exact q
 IW:=fun b u xs q=>by rw[aq (aM q hn)];exact q
 Jd:=fun b ps q=>⟨#[],by rw[aq (aM q hn),q];simp⟩
def Un.write(mu:CA (H x))(he:e=x\/H e=some (.own x))(k:∀b u,b≠e->h.get? b=some u->h'.get? b=some u)(LX:∃u,h'.get? e=some u):Un fs ex H (upd H x o) h h':=by
 have hx:∀b,H b=none->b≠x:=fun b n z=>by subst z;rw[n]at mu;exact mu
 have hb:∀b,H b=none->b≠e:=fun b n z=>by
  subst z
  rcases he with r|r
  ·exact hx b n r
  ·rw[n]at r;cases r
 have hm:∀b u,H b=some u->¬CA (some u)->b≠x:=fun b u q nm z=>by subst z;rw[q]at mu;exact nm mu
 refine⟨fun b u q n _ _=>k b u (hb b n) q,fun b u q n _ _=>⟨u.slots,k b u (hb b n) q⟩,fun b u q n _=>by rw[aq (hx b n)];exact n,fun b u q _=>?_,
  fun b xs q=>by rw[aq (hm b _ q fun z=>z)];exact q,fun b u xs q=>by rw[aq (hm b _ q fun z=>z)];exact q,fun b ps q=>⟨#[],by rw[aq (hm b _ q fun z=>z),q];simp⟩⟩
 by_cases J4:b=e
 ·subst J4;exact LX
 ·exact⟨u,k b u J4 q⟩
end
noncomputable def Eo(h:Heap)(H:Hp):List Addr:=(List.range h.objs.size).filter fun a=>(H a).isSome
noncomputable def k9(h:Heap)(H:Hp):Heap:=PySem.W.hideAll h (Eo h H)
def qO(h:Heap)(H:Hp):(k9 h H).objs.size=h.objs.size:=PySem.W.hideAll_size _ _
def sM{h:Heap}{H:Hp}{b:Addr}{o:Obj}(e:h.get? b=some o)(n:H b=none):(k9 h H).get? b=some o:=
 PySem.W.hideAll_get _ e fun hm=>by
  have q:(H b).isSome=true:=(TJ.mp hm).2
  rw[n]at q;simp at q
def wE{h:Heap}{H:Hp}{b:Addr}{o:Obj}(e:(k9 h H).get? b=some o):h.get? b=some o/\H b=none:=by
 have e':h.get? b=some o:=PySem.W.of_hideAll (Eo h H) e
 refine⟨e',?_⟩
 cases q:H b with
 |none=>rfl
 |some x=>
  have hm:b∈Eo h H:=TJ.mpr ⟨Ua.mpr (P5 e'),by simp[q]⟩
  have z:(k9 h H).get? b=none:=PySem.W.hideAll_none (Eo h H) hm
  rw[z]at e;cases e
structure Mod (K:Vo) (mg:Vr) (base:Heap):Prop where
 Lq:K.In base
 glob:base.Ns mainGlobals mg
 blt:∃mb,base.Ns builtinsNs mb/\∀x:Str,x ≠ "__name__"->mb x=bootBuiltins x
 nolimit:base.NoLimit
structure Cx where
 prog:Program
 w:World
 K:Vo
 mg:Vr
 base:Heap
 A:Around
 N:List Str
 s₀:Shared
 H₀:Hp
 env:Env
 outer:List Env
 stack:List Env
 ex:List Addr
 fn:Str->Bool
 calm:Bool
 pn:Va
 xe:Value->Shared->Prop
noncomputable def frs(l:List Env):List Addr:=l.filterMap (·.frame)
noncomputable abbrev Cx.fs(X:Cx):List Addr:=frs X.outer
def CC(sc:Scope)(x:Str):Prop:=sc.names.lookup x=some .local\/sc.names.lookup x=some .cell\/sc.names.lookup x=some .free
def yV(sc:Scope)(x:Str):Prop:=sc.names.lookup x=some .local\/sc.names.lookup x=some .cell
def EK(env:Env)(h:Heap)(m:Vr)(x:Str)(u:Value):Prop:=
 (env.kindOf x=some .local/\m x=some u)\/((env.kindOf x=some .cell\/env.kindOf x=some .free)/\∃c,env.cells.lookup x=some c/\h.IsCell c (some u))
structure Cx.Ok (X:Cx):Prop where
 mod:Mod X.K X.mg X.base
 kind:X.env.scope.kind = .function
 glob:X.env.globals=mainGlobals
 blt:X.env.builtins=builtinsNs
 above:X.s₀.heap.objs.size<=X.env.locals
 inj:∀x y c,X.env.cells.lookup x=some c->X.env.cells.lookup y=some c->x=y
 has:∀x,(X.env.kindOf x=some .cell\/X.env.kindOf x=some .free)->∃c,X.env.cells.lookup x=some c
 KP:∀x c,X.fn x=true->X.env.cells.lookup x=some c->X.s₀.heap.objs.size<=c
 hd:X.calm=true->X.A.handled=none
 frames:X.A.frames=some X.stack
 stk:X.stack=X.outer\/(X.stack=X.env::X.outer/\X.env.frame=some X.env.locals)
 Lr:∀b∈X.ex,b≠X.env.locals/\∀x c,X.env.cells.lookup x=some c->c≠b
 bs:∀b o,X.base.get? b=some o->X.s₀.heap.get? b=some o/\X.H₀ b=none
 JI:X.base.objs.size<=X.s₀.heap.objs.size
 IY:∀b o,X.base.get? b=some o->b ∉ X.ex
 Je:∀b∈X.ex,b ∉ X.fs
 HH:X.s₀.heap.FunFrames X.base X.outer
 J5:∀b∈X.fs,X.H₀ b=none
structure Inv (X:Cx) (pins:Va) (σ:List (Option V)) (H:Hp) (s:Shared):Prop where
 ok:X.Ok
 os:s.os=X.s₀.os
 bare:AllBare s.gens
 base:Un X.fs X.ex X.H₀ H X.s₀.heap s.heap
 loc:∃m,s.heap.Ns X.env.locals m/\∀(i:Nat) (x:Str) (v:V),X.N[i]?=some x->σ[i]?=some (some v)->CC X.env.scope x->∃u,RelV v u/\EK X.env s.heap m x u
 cell:∀x c,X.env.cells.lookup x=some c->∃v,s.heap.IsCell c v
 free:H X.env.locals=none
 Hc:∀x c,X.env.cells.lookup x=some c->H c=none
 pin:∀p∈X.pn++pins,s.heap.get? p.1=some p.2/\H p.1=none/\p.1≠X.env.locals/\p.1 ∉ X.fs/\∀v,p.2.data ≠ .cell v
 hok:HM X.prog X.w H s.heap
 len:σ.length=X.N.length
 tk:1<=s.toks
end L2
local macro_rules | `(tactic| walk_at "t")=>`(tactic| first | omega | assumption | exact L2.Inv.tk ‹L2.Inv _ _ _ _ _› | (have:=L2.Inv.tk ‹L2.Inv _ _ _ _ _›; omega))
namespace L2
open PySem PySem.Spec PyProof.Rows
section
variable {X:Cx} {pins:Va} {σ:List (Option V)} {H H':Hp} {s:Shared} {h':Heap}
def Cx.Ok.M7(ok:X.Ok){b:Addr}{o:Obj}(e:X.base.get? b=some o):b ∉ X.fs:=fun hb=>by
 have:=(ok.HH.mem hb).1
 rw[e]at this;cases this
theorem Inv.bs(I:Inv X pins σ H s):∀b o,X.base.get? b=some o->s.heap.get? b=some o/\H b=none:=fun b o e=>
 ⟨I.base.keep b o (I.ok.bs b o e).1 (I.ok.bs b o e).2 (I.ok.M7 e) (I.ok.IY b o e),I.base.free b o (I.ok.bs b o e).1 (I.ok.bs b o e).2 (I.ok.IY b o e)⟩
def Inv.bk(I:Inv X pins σ H s):∀b o,X.base.get? b=some o->s.heap.get? b=some o:=fun b o e=>(I.bs b o e).1
theorem Inv.mod(I:Inv X pins σ H s):Mod X.K X.mg X.base:=I.ok.mod
def Inv.IK(I:Inv X pins σ H s):X.K.In s.heap:=I.ok.mod.Lq.keeps I.bk
theorem Inv.lt(I:Inv X pins σ H s):X.env.locals < s.heap.objs.size:=let ⟨_,hn,_⟩:=I.loc;hn.lt
def Inv.sz(I:Inv X pins σ H s):X.s₀.heap.objs.size<=s.heap.objs.size:=PZ I.ok.above (RB I.lt)
def Inv.L8(I:Inv X pins σ H s){a:Addr}(h:s.heap.objs.size<=a):a ∉ X.fs:=fun hb=>by
 obtain⟨_,o,ho,_⟩:=I.ok.HH.mem hb
 exact absurd (P6 (P5 ho) (PZ I.sz h)) (Ri _)
def Inv.Ks(I:Inv X pins σ H s):∀x c,X.env.cells.lookup x=some c->c≠X.env.locals:=fun x c e z=>by
 obtain⟨v,o,ho,hd⟩:=I.cell x c e
 obtain⟨m,⟨o',es,ep,ho',hd',_⟩,_⟩:=I.loc
 rw[z,ho']at ho;cases ho;rw[hd']at hd;cases hd
theorem Inv.HH(I:Inv X pins σ H s):s.heap.FunFrames X.base X.outer:=by
 have all:∀(l:List Env),(∀b∈frs l,b∈X.fs)->X.s₀.heap.FunFrames X.base l->s.heap.FunFrames X.base l:=by
  intro l
  induction l with
  |nil=>intro _ _;trivial
  |cons env r ih=>
   intro hs hl
   obtain⟨hk,⟨L,o,hf,hn,ho,hd⟩,hr⟩:=hl
   have hL:L∈X.fs:=hs L (by unfold frs;rw[RJ,hf];exact Qj)
   obtain⟨sl,e⟩:=I.base.slot L o ho (I.ok.J5 L hL) hL fun z=>I.ok.Je L z hL
   exact⟨hk,⟨L,_,hf,hn,e,hd⟩,ih (fun b hb=>hs b (by unfold frs;rw[RJ,hf];exact P4 _ hb)) hr⟩
 exact all X.outer (fun _ hb=>hb) I.ok.HH
theorem Inv.stack(I:Inv X pins σ H s):s.heap.FunFrames X.base X.stack:=by
 rcases I.ok.stk with e|⟨e,hf⟩
 ·rw[e];exact I.HH
 ·rw[e]
  obtain⟨m,hn,_⟩:=I.loc
  refine .cons (by rw[I.ok.kind];decide) hf hn ?_ I.HH
  exact Heap.get?_none_of_le (PZ I.ok.JI I.ok.above)
def Inv.Iu(I:Inv X pins σ H s):∀b∈frs X.stack,b∈X.env.locals::X.fs:=fun b hb=>by
 rcases I.ok.stk with e|⟨e,hf⟩
 ·rw[e]at hb;exact P4 _ hb
 ·rw[e]at hb
  unfold frs at hb
  rw[RJ,hf]at hb
  exact hb
def Inv.Jf(I:Inv X pins σ H s):∀b∈frs X.stack,H b=none:=fun b hb=>by
 rcases PM.mp (I.Iu b hb)with e|hb
 ·rw[e];exact I.free
 ·obtain⟨_,o,ho,_⟩:=I.ok.HH.mem hb
  exact I.base.free b o ho (I.ok.J5 b hb) fun z=>I.ok.Je b z hb
def Inv.step{g':Array GenState}{t':Nat}{d':Drawn}{ch:List Addr}(I:Inv X pins σ H s)
  (hch:∀b∈ch,(b∈X.ex\/X.s₀.heap.objs.size<=b)/\b≠X.env.locals/\(∀x c,X.env.cells.lookup x=some c->c≠b)/\∀p∈X.pn++pins,p.1≠b)
  (keep:∀b o,b≠X.env.locals->b ∉ X.fs->b ∉ ch->s.heap.get? b=some o->H b=none->h'.get? b=some o)
  (slot:∀b o,b≠X.env.locals->b∈X.fs->b ∉ ch->s.heap.get? b=some o->H b=none->∃sl,h'.get? b=some { o with slots:=sl }) (free:∀b o,b ∉ ch->s.heap.get? b=some o->H b=none->H' b=none)
  (there:∀b o,b ∉ ch->s.heap.get? b=some o->∃o',h'.get? b=some o')
  (tups:∀b xs,H b=some (.tup xs)->H' b=some (.tup xs)) (IW:∀b o u,H b=some (.frz o u)->H' b=some (.frz o u)) (Jd:∀b ps,H b=some (.Lo ps)->∃more,H' b=some (.Lo (ps++more)))
  (ns:∀m,s.heap.Ns X.env.locals m->h'.Ns X.env.locals m) (hok:HM X.prog X.w H' h') (hg:AllBare g') (ht:1<=t':=by walk_at "t") :
  Inv X pins σ H' { s with heap:=h',gens:=g',drawn:=d',toks:=t' }:=by
 have NX:∀b o,X.s₀.heap.get? b=some o->b≠X.env.locals:=fun b o e=>Qo (P6 (P5 e) I.ok.above)
 have MK:∀b o,X.s₀.heap.get? b=some o->b ∉ X.ex->b ∉ ch:=fun b o e hx hb=>by
  rcases(hch b hb).1 with z|z
  ·exact hx z
  ·exact absurd (P6 (P5 e) z) (Ri _)
 have cellK:∀x c,X.env.cells.lookup x=some c->∀v,s.heap.IsCell c v->h'.IsCell c v:=fun x c e v ⟨o,ho,hd⟩=>by
  have L9:c ∉ ch:=fun z=>(hch c z).2.2.1 x c e rfl
  by_cases hc:c∈X.fs
  ·obtain⟨sl,q⟩:=slot c o (I.Ks x c e) hc L9 ho (I.Hc x c e)
   exact⟨_,q,hd⟩
  ·exact⟨o,keep c o (I.Ks x c e) hc L9 ho (I.Hc x c e),hd⟩
 refine⟨I.ok,I.os,hg,⟨fun b o e n hb hx=>?_,fun b o e n hb hx=>?_,fun b o e n hx=>?_,fun b o e hx=>?_,fun b xs e=>tups b xs (I.base.tups b xs e),fun b o xs e=>IW b o xs (I.base.IW b o xs e),fun b ps e=>?_⟩,?_,fun x c e=>?_,?_,fun x c e=>?_,fun p hp=>?_,hok,I.len,ht⟩
 ·exact keep b o (NX b o e) hb (MK b o e hx) (I.base.keep b o e n hb hx) (I.base.free b o e n hx)
 ·obtain⟨sl,e1⟩:=I.base.slot b o e n hb hx
  obtain⟨sl',e2⟩:=slot b _ (NX b o e) hb (MK b o e hx) e1 (I.base.free b o e n hx)
  exact⟨sl',e2⟩
 ·obtain⟨o',e1⟩:=I.base.there b o e hx
  exact free b o' (MK b o e hx) e1 (I.base.free b o e n hx)
 ·obtain⟨o',e1⟩:=I.base.there b o e hx
  exact there b o' (MK b o e hx) e1
 ·obtain⟨m1,e1⟩:=I.base.Jd b ps e
  obtain⟨m2,e2⟩:=Jd b _ e1
  exact⟨m1++m2,by rw[e2,Array.append_assoc]⟩
 ·obtain⟨m,hn,hl⟩:=I.loc
  refine⟨m,ns m hn,fun i x v e1 e2 e3=>?_⟩
  obtain⟨u,r,l⟩:=hl i x v e1 e2 e3
  refine⟨u,r,?_⟩
  rcases l with l|⟨k,c,e,z⟩
  ·exact .inl l
  ·exact .inr ⟨k,c,e,cellK x c e _ z⟩
 ·obtain⟨v,z⟩:=I.cell x c e
  exact⟨v,cellK x c e v z⟩
 ·obtain⟨m,⟨o,_,_,ho,_⟩,_⟩:=I.loc
  exact free _ o (fun z=>(hch _ z).2.1 rfl) ho I.free
 ·obtain⟨v,o,ho,hd⟩:=I.cell x c e
  exact free c o (fun z=>(hch c z).2.2.1 x c e rfl) ho (I.Hc x c e)
 ·obtain⟨e,n,ne,nf,d⟩:=I.pin p hp
  have L9:p.1 ∉ ch:=fun z=>(hch p.1 z).2.2.2 p hp rfl
  exact⟨keep p.1 p.2 ne nf L9 e n,free p.1 p.2 L9 e n,ne,nf,d⟩
def Inv.un{t':Nat}(I:Inv X pins σ H s)(u:Un X.fs [] H H' s.heap h')(hok:HM X.prog X.w H' h')(ht:1<=t':=by walk_at "t"):Inv X pins σ H' { s with heap:=h',toks:=t' }:=by
 obtain⟨m,⟨o,es,ep,ho,r⟩,_⟩:=id I.loc
 obtain⟨sl,hL⟩:=u.any ho I.free (by simp)
 exact I.step (g':=s.gens) (d':=s.drawn) (ch:=[]) (fun _ z=>nomatch z) (fun b o _ hb _ e n=>u.keep b o e n hb (by simp)) (fun b o _ hb _ e n=>u.slot b o e n hb (by simp)) (fun b o _ e n=>u.free b o e n (by simp)) (fun b o _ e=>u.there b o e (by simp)) u.tups u.IW u.Jd (fun m' hm=>by
  obtain⟨o',es',M8,ho',r'⟩:=hm
  rw[ho]at ho';cases ho'
  exact⟨_,es',M8,hL,r'⟩) hok I.bare
def Inv.call{g':Array GenState}{t':Nat}{d':Drawn}{ch:List Addr}(I:Inv X pins σ H s)(u:Un (frs X.stack) ch H H' s.heap h')(hok:HM X.prog X.w H' h')(hg:AllBare g')
  (hch:∀b∈ch,(b∈X.ex\/X.s₀.heap.objs.size<=b)/\b≠X.env.locals/\(∀x c,X.env.cells.lookup x=some c->c≠b)/\∀p∈X.pn++pins,p.1≠b) (ht:1<=t':=by walk_at "t") :
  Inv X pins σ H' { s with heap:=h',gens:=g',drawn:=d',toks:=t' }:=by
 obtain⟨m,⟨o,es,ep,ho,r⟩,_⟩:=id I.loc
 obtain⟨sl,hL⟩:=u.any ho I.free fun z=>(hch _ z).2.1 rfl
 exact I.step (ch:=ch) hch (fun b o hL hb hc e n=>u.keep b o e n (fun z=>(PM.mp (I.Iu b z)).elim hL hb) hc) (fun b o _ _ hc e n=>u.any e n hc) (fun b o hc e n=>u.free b o e n hc) (fun b o hc e=>u.there b o e hc) u.tups u.IW u.Jd (fun m' hm=>by
  obtain⟨o',es',M8,ho',r'⟩:=hm
  rw[ho]at ho';cases ho'
  exact⟨_,es',M8,hL,r'⟩) hok hg
def Inv.turned{t':Nat}{it:Addr}(I:Inv X pins σ H s)(k:∀b o,b≠it->s.heap.get? b=some o->h'.get? b=some o)(hn:H it=none)(hL:it≠X.env.locals)
  (h1:it∈X.ex\/X.s₀.heap.objs.size<=it) (h2:∀x c,X.env.cells.lookup x=some c->c≠it) (h3:∀p∈X.pn++pins,p.1≠it) (ht:1<=t':=by walk_at "t"):Inv X pins σ H { s with heap:=h',toks:=t' }:=by
 have L_:∀b u,H b=some u->b≠it:=fun b u e z=>by rw[z,hn]at e;cases e
 refine I.step (g':=s.gens) (d':=s.drawn) (ch:=[it]) (fun b hb=>?_) (fun b o _ _ hc e _=>k b o (fun z=>hc (by simp[z])) e) (fun b o _ _ hc e _=>⟨o.slots,k b o (fun z=>hc (by simp[z])) e⟩) (fun _ _ _ _ n=>n)
  (fun b o hc e=>⟨o,k b o (fun z=>hc (by simp[z])) e⟩) (fun _ _ e=>e) (fun _ _ _ e=>e) (fun b ps e=>⟨#[],by rw[e];simp⟩) (fun m hm=>?_) (fun b u e=>?_) I.bare
 ·have e:b=it:=by simpa using hb
  subst e
  exact⟨h1,hL,h2,h3⟩
 ·obtain⟨o,es,ep,ho,r⟩:=hm
  exact⟨o,es,ep,k _ o (QK hL) ho,r⟩
 ·refine(I.hok b u e).stay (fun c v hc q=>k c v ?_ q) (fun _ q=>q) fun _ _ q=>q
  rcases hc with z|z
  ·rw[z];exact L_ b u e
  ·exact L_ c _ z
def Inv.tok(I:Inv X pins σ H s)(t:Nat)(ht:1<=t:=by walk_at "t"):Inv X pins σ H { s with toks:=t }:=I.un (h':=s.heap) (t':=t) Un.refl I.hok
theorem Inv.kept{t':Nat}(I:Inv X pins σ H s)(k:∀b u,s.heap.get? b=some u->h'.get? b=some u)(ht:1<=t':=by walk_at "t"):Inv X pins σ H { s with heap:=h',toks:=t' }:=I.un (Un.kept k) (I.hok.kept k)
theorem Inv.laid{a:Addr}{o:HO}{t':Nat}(I:Inv X pins σ H s)(k:∀b u,s.heap.get? b=some u->h'.get? b=some u)(hp:s.heap.objs.size<=a)(new:GM X.prog X.w (upd H a o) h' a o)(ht:1<=t':=by walk_at "t") :
  Inv X pins σ (upd H a o) { s with heap:=h',toks:=t' }:=I.un (Un.laid k hp (I.hok.fresh hp)) (I.hok.laid k hp new)
theorem Inv.write{x e:Addr}{o:HO}{t':Nat}(I:Inv X pins σ H s)(mu:CA (H x))(he:e=x\/H e=some (.own x))(k:∀b u,b≠e->s.heap.get? b=some u->h'.get? b=some u)(LX:∃u,h'.get? e=some u)
  (new:GM X.prog X.w (upd H x o) h' x o) (ht:1<=t':=by walk_at "t"):Inv X pins σ (upd H x o) { s with heap:=h',toks:=t' }:=I.un (Un.write mu he k LX) (I.hok.write mu he k LX new)
def Inv.weak{σ':List (Option V)}(I:Inv X pins σ H s)(hl:σ'.length=σ.length)(w:∀(i:Nat) v,σ'[i]?=some (some v)->σ[i]?=some (some v)):Inv X pins σ' H s:=
 ⟨I.ok,I.os,I.bare,I.base,let ⟨m,hn,hl'⟩:=I.loc;⟨m,hn,fun i x v e1 e2 e3=>hl' i x v e1 (w i v e2) e3⟩,I.cell,I.free,I.Hc,I.pin,I.hok,hl.trans I.len,I.tk⟩
def Inv.IL{pins':Va}(I:Inv X pins σ H s)(h:∀p∈pins',s.heap.get? p.1=some p.2/\H p.1=none/\p.1≠X.env.locals/\p.1 ∉ X.fs/\∀v,p.2.data ≠ .cell v):Inv X pins' σ H s:=
 ⟨I.ok,I.os,I.bare,I.base,I.loc,I.cell,I.free,I.Hc,fun p hp=>(Qe.mp hp).elim (fun z=>I.pin p (QW _ z)) (h p),I.hok,I.len,I.tk⟩
def i_{N:Vs}(hN:N.Nodup){i j:Nat}{x:Str}(a:N[i]?=some x)(b:N[j]?=some x):i=j:=by
 obtain⟨h1,e1⟩:=Qg.mp a
 obtain⟨h2,e2⟩:=Qg.mp b
 exact(List.getElem_inj hN).mp (e1.trans e2.symm)
def gP {M : Model} {A : Around} {E : Value -> Shared -> Prop} {i : Nat} {x : Str} {v : V} {u : Value} {Q : Unit -> Shared -> Prop} (I : Inv X pins σ H s) (hN : X.N.Nodup) (hi : X.N[i]? = some x) (hx : yV X.env.scope x) (r : RelV v u)
  (h : ∀ s', Inv X pins (σ.set i (some v)) H s' -> (∃ a, Heap.SameBut a s.heap s'.heap /\ (a = X.env.locals \/ X.env.cells.lookup x = some a)) -> Q () s') (hf : X.fn x = true \/ X.env.scope.names.lookup x = some .local := by first | exact .inl rfl | exact .inr rfl | assumption) : wpAny M A (storeName X.env x u) Q E s := by
 obtain ⟨m, hn, hl⟩ := id I.loc
 have hcls : (X.env.scope.kind == .class || (X.env.scope.kind == .module && X.env.locals != X.env.globals)) = false := by rw [I.ok.kind]; rfl
 have NY : i < σ.length := by rw [I.len]; exact (Qg.mp hi).1
 have Ks := I.Ks
 have tracked : ∀ {a : Addr} {h' : Heap}, (∃ o, s.heap.get? a = some o /\ H a = none) -> Heap.SameBut a s.heap h' -> HM X.prog X.w H h' := fun {a h'} ha hs b ob e => by
  obtain ⟨_, _, hfree⟩ := ha
  refine (I.hok b ob e).stay (fun c w' hc q => (hs.2 c ?_).trans q) (fun _ q => q) fun _ _ q => q
  rintro rfl
  rcases hc with rfl | hc
  ·rw [hfree] at e; cases e
  ·rw [hfree] at hc; cases hc
 rcases hx with hk | hk
 ·refine wpAny_storeName_local hk hn (fun h' hn' hs => ?_) hcls
  obtain ⟨oL, _, _, Oy, _⟩ := id hn
  refine h _ ⟨I.ok, I.os, I.bare, ⟨fun b o e n hb hx => ?_, fun b o e n hb hx => ?_, I.base.free, fun b o e hx => ?_, I.base.tups, I.base.IW, I.base.Jd⟩, ⟨_, hn', fun j y v' e1 e2 e3 => ?_⟩, fun y c e => ?_, I.free, I.Hc, fun p hp => ?_, tracked ⟨oL, Oy, I.free⟩ hs, by simpa using I.len, QO (Qc _)⟩ ⟨_, hs, .inl rfl⟩
  ·exact (hs.2 b (Qo (P6 (P5 e) I.ok.above))).trans (I.base.keep b o e n hb hx)
  ·obtain ⟨sl, e1⟩ := I.base.slot b o e n hb hx
   exact ⟨sl, (hs.2 b (Qo (P6 (P5 e) I.ok.above))).trans e1⟩
  ·obtain ⟨o', e1⟩ := I.base.there b o e hx
   exact ⟨o', (hs.2 b (Qo (P6 (P5 e) I.ok.above))).trans e1⟩
  ·by_cases hj : j = i
   ·subst hj
    rw [hi] at e1; cases e1
    rw [List.getElem?_set_self NY] at e2
    cases e2
    exact ⟨u, r, .inl ⟨hk, by simp⟩⟩
   ·rw [Tv (QK hj)] at e2
    obtain ⟨u', r', q⟩ := hl j y v' e1 e2 e3
    refine ⟨u', r', ?_⟩
    rcases q with ⟨k, e⟩ | ⟨k, c, e, z⟩
    ·refine .inl ⟨k, ?_⟩
     have : y ≠ x := fun e => hj (i_ hN e1 (e ▸ hi))
     simp [this, e]
    ·exact .inr ⟨k, c, e, z.sameBut hs (Ks y c e)⟩
  ·obtain ⟨w', z⟩ := I.cell y c e
   exact ⟨w', z.sameBut hs (Ks y c e)⟩
  ·obtain ⟨e, n, ne, nf, d⟩ := I.pin p hp
   exact ⟨(hs.2 p.1 ne).trans e, n, ne, nf, d⟩
 ·have hfn : X.fn x = true := by
   rcases hf with z | z
   ·exact z
   ·rw [z] at hk; cases hk
  obtain ⟨c, hc⟩ := I.ok.has x (.inl hk)
  obtain ⟨w', z⟩ := I.cell x c hc
  refine wpAny_storeName_cell I.ok.kind hk hc z (fun h' hc' hs => ?_)
  obtain ⟨oc, hoc, M9⟩ := id z
  refine h { s with heap := h' } ⟨I.ok, I.os, I.bare, ⟨fun b o e n hb hx => ?_, fun b o e n hb hx => ?_, I.base.free, fun b o e hx => ?_, I.base.tups, I.base.IW, I.base.Jd⟩, ⟨m, hn.sameBut hs (QK (Ks x c hc)), fun j y v' e1 e2 e3 => ?_⟩, fun y c' e => ?_, I.free, I.Hc, fun p hp => ?_, tracked ⟨oc, hoc, I.Hc x c hc⟩ hs, by simpa using I.len, I.tk⟩ ⟨c, hs, .inr hc⟩
  ·exact (hs.2 b (Qo (P6 (P5 e) (I.ok.KP x c hfn hc)))).trans (I.base.keep b o e n hb hx)
  ·obtain ⟨sl, e1⟩ := I.base.slot b o e n hb hx
   exact ⟨sl, (hs.2 b (Qo (P6 (P5 e) (I.ok.KP x c hfn hc)))).trans e1⟩
  ·obtain ⟨o', e1⟩ := I.base.there b o e hx
   exact ⟨o', (hs.2 b (Qo (P6 (P5 e) (I.ok.KP x c hfn hc)))).trans e1⟩
  ·by_cases hj : j = i
   ·subst hj
    rw [hi] at e1; cases e1
    rw [List.getElem?_set_self NY] at e2
    cases e2
    exact ⟨u, r, .inr ⟨.inl hk, c, hc, hc'⟩⟩
   ·rw [Tv (QK hj)] at e2
    obtain ⟨u', r', q⟩ := hl j y v' e1 e2 e3
    refine ⟨u', r', ?_⟩
    rcases q with q | ⟨k, c', e, z'⟩
    ·exact .inl q
    ·refine .inr ⟨k, c', e, z'.sameBut hs ?_⟩
     rintro rfl
     exact hj (i_ hN e1 (I.ok.inj _ _ _ e hc ▸ hi))
  ·by_cases hcc : c' = c
   ·subst hcc; exact ⟨_, hc'⟩
   ·obtain ⟨w2, z2⟩ := I.cell y c' e
    exact ⟨w2, z2.sameBut hs hcc⟩
  ·obtain ⟨e, n, ne, nf, d⟩ := I.pin p hp
   refine ⟨(hs.2 p.1 ?_).trans e, n, ne, nf, d⟩
   intro q
   rw [q, hoc] at e
   have q' : oc = p.2 := QM e
   exact d w' (by rw [<- q']; exact M9)
def fQ{M:Model}{A:Around}{E:Vq}{i:Nat}{x:Str}{v:V}{u:Value}{Q:Unit->Shared->Prop}(I:Inv X pins σ H s)(hN:X.N.Nodup)(hi:X.N[i]?=some x)(hx:yV X.env.scope x)(r:RelV v u)
  (h:∀s',Inv X pins (σ.set i (some v)) H s'->Q () s') (hf:X.fn x=true\/X.env.scope.names.lookup x=some .local:=by first|exact .inl rfl|exact .inr rfl|assumption):wpAny M A (storeName X.env x u) Q E s:=
 gP I hN hi hx r (fun s' I' _=>h s' I') hf
def Inv.La{s':Shared}{ch:List Addr}(I:Inv X pins σ H s)(ho:s'.os=s.os)(u:Un (frs X.stack) ch H H' s.heap s'.heap)(hok:HM X.prog X.w H' s'.heap)(hg:AllBare s'.gens)(ht:1<=s'.toks)
  (hch:∀b∈ch,(b∈X.ex\/X.s₀.heap.objs.size<=b)/\b≠X.env.locals/\(∀x c,X.env.cells.lookup x=some c->c≠b)/\∀p∈X.pn++pins,p.1≠b):Inv X pins σ H' s':=by
 obtain⟨h',g',d',t',o'⟩:=s'
 have e:o'=s.os:=ho
 subst e
 exact I.call (g':=g') (t':=t') (d':=d') u hok hg hch
end
abbrev XK:=Value->Option Addr->Hp->Prop
abbrev St:=List (Option V)
abbrev VK:=V->Hp->Prop
abbrev TE:=St->Hp->VK->Prop
abbrev TT:=St->Hp->(Bool->Hp->Prop)->Prop
abbrev TA:=St->Hp->(List V->Hp->Prop)->Prop
structure gQ where
 nx:St->Hp->Prop
 rt:VK
 bk:St->Hp->Prop:=fun _ _=>False
 ct:St->Hp->Prop:=fun _ _=>False
abbrev TS:=gQ->St->Hp->Prop
def EP(X:Cx)(pins:Va)(σ:St)(Q:VK)(u:Value)(s':Shared):Prop:=∃v H',Inv X pins σ H' s'/\RelV v u/\Q v H'
def TP(X:Cx)(pins:Va)(σ:St)(Q:Bool->Hp->Prop)(b:Bool)(s':Shared):Prop:=∃H',Inv X pins σ H' s'/\Q b H'
def AP(X:Cx)(pins:Va)(σ:St)(Q:List V->Hp->Prop)(us:Vv)(s':Shared):Prop:=∃vs H',Inv X pins σ H' s'/\Vals vs us/\Q vs H'
def SP(X:Cx)(pins:Va)(D:gQ)(f:Flow)(s':Shared):Prop:=
 match f with
 | .next=>∃σ' H',Inv X pins σ' H' s'/\D.nx σ' H'
 | .brk=>∃σ' H',Inv X pins σ' H' s'/\D.bk σ' H'
 | .cont=>∃σ' H',Inv X pins σ' H' s'/\D.ct σ' H'
 | .ret u=>∃v σ' H',Inv X pins σ' H' s'/\RelV v u/\D.rt v H'
def PE(X:Cx)(e:Expr)(t:TE):Prop:=
 ∀(pins:Va) (s:Shared) (σ:St) (H:Hp) (Q:VK),Inv X pins σ H s->t σ H Q->wpAny (model X.prog X.w) X.A (eval e X.env) (EP X pins σ Q) X.xe s
def PT(X:Cx)(e:Expr)(t:TT):Prop:=
 ∀(pins:Va) (s:Shared) (σ:St) (H:Hp) (Q:Bool->Hp->Prop),Inv X pins σ H s->t σ H Q->wpAny (model X.prog X.w) X.A (isTrue e X.env (eval e X.env)) (TP X pins σ Q) X.xe s
def PW(X:Cx)(e:Expr)(t:TT):Prop:=
 ∀(whole:Sem Value) (pins:Va) (s:Shared) (σ:St) (H:Hp) (Q:Bool->Hp->Prop),Inv X pins σ H s->t σ H Q->wpAny (model X.prog X.w) X.A (isTrue e X.env whole) (TP X pins σ Q) X.xe s
def PW.pt{X:Cx}{e:Expr}{t:TT}(h:PW X e t):PT X e t:=h _
def PA(X:Cx)(es:List Expr)(t:TA):Prop:=
 ∀(pos:Pos) (pins:Va) (s:Shared) (σ:St) (H:Hp) (Q:List V->Hp->Prop),Inv X pins σ H s->t σ H Q->wpAny (model X.prog X.w) X.A (spliced (backTo pos (starEach es X.env))) (AP X pins σ Q) X.xe s
def PS(X:Cx)(st:Stmt)(t:TS):Prop:=
 ∀(pins:Va) (s:Shared) (σ:St) (H:Hp) (D:gQ),Inv X pins σ H s->t D σ H->wpAny (model X.prog X.w) X.A (exec st X.env) (SP X pins D) X.xe s
def IZ(X:Cx)(st:List Stmt)(t:TS):Prop:=
 ∀(pins:Va) (s:Shared) (σ:St) (H:Hp) (D:gQ),Inv X pins σ H s->t D σ H->wpAny (model X.prog X.w) X.A (execs st X.env) (SP X pins D) X.xe s
def GG{α:Type}{t:Sem α}{Q Q':α->Shared->Prop}{M:Model}{A:Around}{E:Vq}{s:Shared}(h:wpAny M A t Q E s)(hQ:∀a s,Q a s->Q' a s):wpAny M A t Q' E s:=Rg h hQ fun _ _ x=>x
section
variable {X:Cx}
def qP(i:Nat):TE:=fun σ H Q=>∃v,σ[i]?=some (some v)/\Q v H
def tC(v:V):TE:=fun _ H Q=>Q v H
def sN{i:Nat}{x:Str}{pos:Pos}(hN:X.N[i]?=some x)(hv:CC X.env.scope x)(hd:(x == ("__debug__":Str))=false:=by decide)(hcd:(x == ("__classdict__":Str))=false:=by decide):PE X (.Name x pos) (qP i):=by
 intro pins s σ H Q I h
 obtain⟨v,e,h⟩:=h
 obtain⟨m,hn,hl⟩:=I.loc
 obtain⟨u,r,l⟩:=hl i x v hN e hv
 have fin:EP X pins σ Q u s:=⟨v,H,I,r,h⟩
 rcases l with⟨hk,hm⟩|⟨hk,c,hc,hcell⟩
 ·exact wpAny_Name (wpAny_loadName_local I.ok.kind hk hn hm fin) hd
 ·rcases hk with hk|hk
  ·exact wpAny_Name (wpAny_loadName_cell I.ok.kind hk hc hcell fin) hd
  ·exact wpAny_Name (wpAny_loadName_free I.ok.kind hk hc hcell fin hcd) hd
def zS{i j pos}:PE X (.Constant (.int i) j pos) (tC (.int i)):=fun _ _ _ H _ I h=>wpAny_Constant_int ⟨.int i,H,I.tok _,⟨_,rfl⟩,h⟩
def CD{b j pos}:PE X (.Constant (.bool b) j pos) (tC (.bl b)):=fun _ _ _ H _ I h=>Constant_bool ⟨.bl b,H,I,rfl,h⟩
def zT{j pos}:PE X (.Constant .none j pos) (tC .non):=fun _ _ _ H _ I h=>Constant_none ⟨.non,H,I,rfl,h⟩
def zU{x j pos}:PE X (.Constant (.str x) j pos) (tC (.str x)):=fun _ _ _ H _ I h=>Calls.Constant_str ⟨.str x,H,I.tok _,⟨_,rfl⟩,h⟩
def Gl(X:Cx)(x:Str):Prop:=X.env.kindOf x=some .globalImplicit
def dB{E:Vq}{pins:Va}{s:Shared}{σ:St}{H:Hp}{x:Str}{u:Value}{pos:Pos}{Q:Vq}(I:Inv X pins σ H s)(hg:Gl X x)(hm:X.mg x=some u)(h:Q u s)
  (hd:(x == ("__debug__":Str))=false:=by decide):wpAny (model X.prog X.w) X.A (eval (.Name x pos) X.env) Q E s:=
 Calls.Name_function_global I.ok.kind hg (Calls.loadGlobal_global (by rw[I.ok.glob];exact I.mod.glob.keeps I.bk) hm h) hd
def dX{E:Vq}{pins:Va}{s:Shared}{σ:St}{H:Hp}{x:Str}{u:Value}{pos:Pos}{Q:Vq}(I:Inv X pins σ H s)(hg:Gl X x)(hm:X.mg x=none)(hv:bootBuiltins x=some u)(h:Q u s)
  (hn:x ≠ "__name__":=by decide) (hd:(x == ("__debug__":Str))=false:=by decide):wpAny (model X.prog X.w) X.A (eval (.Name x pos) X.env) Q E s:=by
 obtain⟨mb,h1,h2⟩:=I.mod.blt
 exact Calls.Name_function_global I.ok.kind hg (Calls.loadGlobal_builtin (by rw[I.ok.glob];exact I.mod.glob.keeps I.bk) hm (by rw[I.ok.blt];exact h1.keeps I.bk) ((h2 x hn).trans hv) h) hd
def fR{x:Str}{v:V}{u:Value}{pos:Pos}(hg:Gl X x)(hm:X.mg x=some u)(r:RelV v u)(hd:(x == ("__debug__":Str))=false:=by decide):PE X (.Name x pos) (tC v):=
 fun _ _ _ H _ I h=>dB I hg hm ⟨v,H,I,r,h⟩ hd
def wF{x:Str}{v:V}{u:Value}{pos:Pos}(hg:Gl X x)(hm:X.mg x=none)(hv:bootBuiltins x=some u)(r:RelV v u)(hn:x ≠ "__name__":=by decide)(hd:(x == ("__debug__":Str))=false:=by decide):PE X (.Name x pos) (tC v):=
 fun _ _ _ H _ I h=>dX I hg hm hv ⟨v,H,I,r,h⟩ hn hd
variable {a b:Expr} {ta tb:TE} {pos:Pos}
def tB(t:TE):TT:=fun σ H Q=>t σ H fun x H1=>∃c,x = .bl c/\Q c H1
def zV{e:Expr}{t:TE}(h:PE X e t)(he:∀whole,isTrue e X.env whole=(do let v <-whole;standAt e.pos;holding [v] (truthy v)):=by intro _;rfl):PT X e (tB t):=by
 intro pins s σ H Q I hw
 refine isTrue_plain (GG (h pins s σ H _ I hw) fun v s1 ⟨x,H1,I1,r1,q1⟩=>?_) (he _)
 obtain⟨d,rfl,q⟩:=q1
 cases r1
 exact RC ⟨H1,I1,q⟩
variable {tA ML:TT} {rest:List Expr}
def EL(t u:TT):TT:=fun σ H Q=>t σ H fun c H1=>if c=true then u σ H1 Q else Q false H1
def F8(t u:TT):TT:=fun σ H Q=>t σ H fun c H1=>if c=true then Q true H1 else u σ H1 Q
def EM(t:TT):TT:=fun σ H Q=>t σ H fun c H1=>Q (!c) H1
def wG(ha:PT X a tA):PW X (.BoolOp .And [a] pos) tA:=by
 intro wh pins s σ H Q I h
 refine isTrue_and (GG (ha pins s σ H Q I h) fun c s1 e=>?_)
 cases c with
 |true=>exact isTrue_and_nil e
 |false=>exact e
def zW(ha:PT X a tA):PW X (.BoolOp .Or [a] pos) tA:=by
 intro wh pins s σ H Q I h
 refine isTrue_or (GG (ha pins s σ H Q I h) fun c s1 e=>?_)
 cases c with
 |false=>exact isTrue_or_nil e
 |true=>exact e
def zX(ha:PT X a tA)(hb:PW X (.BoolOp .And (b::rest) pos) ML):PW X (.BoolOp .And (a::b::rest) pos) (EL tA ML):=by
 intro wh pins s σ H Q I h
 refine isTrue_and (GG (ha pins s σ H _ I h) fun c s1 ⟨H1,I1,q1⟩=>?_)
 cases c with
 |true=>exact hb wh pins s1 σ H1 Q I1 q1
 |false=>exact⟨H1,I1,q1⟩
def CF(ha:PT X a tA)(hb:PW X (.BoolOp .Or (b::rest) pos) ML):PW X (.BoolOp .Or (a::b::rest) pos) (F8 tA ML):=by
 intro wh pins s σ H Q I h
 refine isTrue_or (GG (ha pins s σ H _ I h) fun c s1 ⟨H1,I1,q1⟩=>?_)
 cases c with
 |true=>exact⟨H1,I1,q1⟩
 |false=>exact hb wh pins s1 σ H1 Q I1 q1
def zY(ha:PT X a tA):PT X (.UnaryOp .Not a pos) (EM tA):=by
 intro pins s σ H Q I h
 exact isTrue_not (ha pins s σ H (fun c H1=>Q (!c) H1) I h)
def CG(ta tb:TE):TE:=fun σ H Q=>ta σ H fun x H1=>∃c,x = .bl c/\if c=true then tb σ H1 Q else Q (.bl false) H1
def zZ{op}{t:TE}(h:PE X a t):PE X (.BoolOp op [a] pos) t:=fun pins s σ H Q I hw=>BoolOp_one (h pins s σ H Q I hw)
def z0(ha:PE X a ta)(hb:PE X (.BoolOp .And (b::rest) pos) tb):PE X (.BoolOp .And (a::b::rest) pos) (CG ta tb):=by
 intro pins s σ H Q I h
 refine BoolOp_and (GG (ha pins s σ H _ I h) fun v s1 ⟨x,H1,I1,r1,q1⟩=>?_)
 obtain⟨c,rfl,q1⟩:=q1
 cases r1
 refine RC ?_
 cases c with
 |true=>exact hb pins s1 σ H1 Q I1 q1
 |false=>exact⟨.bl false,H1,I1,rfl,q1⟩
def F9(t:TT)(ta tb:TE):TE:=fun σ H Q=>t σ H fun c H1=>if c=true then ta σ H1 Q else tb σ H1 Q
def sO{c:Expr}(hc:PT X c tA)(ha:PE X a ta)(hb:PE X b tb):PE X (.IfExp c a b pos) (F9 tA ta tb):=by
 intro pins s σ H Q I h
 refine wpAny_IfExp (GG (hc pins s σ H _ I h) fun d s1 ⟨H1,I1,q1⟩=>?_)
 cases d with
 |true=>exact ha pins s1 σ H1 Q I1 q1
 |false=>exact hb pins s1 σ H1 Q I1 q1
end
def SqL(K:Vo)(H:Hp)(a:Addr)(xs:List V):Prop:=
 Rd H a (.lst xs) \/
  ∃(o:Obj) (its:Vw) (n:Nat),K.lookup a=some o/\o.cls = .type "list"/\o.dict=none/\o.data = .seq its n/\its.size<=sizeLine/\Vals xs its.toList
def SqT(K:Vo)(H:Hp)(a:Addr)(xs:List V):Prop:=
 Rd H a (.tup xs) \/
  ∃(o:Obj) (its:Vw) (n:Nat),K.lookup a=some o/\o.cls = .type "tuple"/\o.dict=none/\o.data = .seq its n/\its.size<=sizeLine/\Vals xs its.toList
noncomputable def EN:Value->Option V
 | .none=>some .non
 | .bool b=>some (.bl b)
 | .int i _=>some (.int i)
 | .str x _=>some (.str x)
 | .bytes b _=>some (.Ko b)
 | .float b _=>some (.MJ b)
 | .ref a=>some (.ref a)
 | .type n=>some (.ty n)
 |_=>none
def RelV.abs{x:V}{u:Value}(r:RelV x u):EN u=some x:=by
 cases x with
 |non=>cases r;rfl
 |bl _=>cases r;rfl
 |int _=>obtain⟨t,rfl⟩:=r;rfl
 |str _=>obtain⟨t,rfl⟩:=r;rfl
 |Ko _=>obtain⟨t,rfl⟩:=r;rfl
 |MJ _=>obtain⟨t,rfl⟩:=r;rfl
 |ref _=>cases r;rfl
 |ty _=>cases r;rfl
theorem RelV.inj{x y:V}{u:Value}(r:RelV x u)(q:RelV y u):x=y:=QM (r.abs.symm.trans q.abs)
theorem Vals.inj:∀{xs ys:List V} {us:Vv},Vals xs us->Vals ys us->xs=ys
 |_,_,_,.nil,.nil=>rfl
 |_,_,_,.cons r t,.cons r' t'=>by rw[r.inj r',Vals.inj t t']
section
variable {X:Cx} {pins:Va} {σ:St} {H:Hp} {s:Shared} {a:Addr} {xs ys:List V}
def SqL.of{K:Vo}(h:H a=some (.lst xs)):SqL K H a xs:=.inl (.inl h)
def SqT.of{K:Vo}(h:H a=some (.tup xs)):SqT K H a xs:=.inl (.inl h)
def Inv.list(I:Inv X pins σ H s)(h:SqL X.K H a xs):∃its:List Value,Vals xs its/\PlainL s.heap a its.toArray/\xs.length<=sizeLine:=by
 rcases h with h|⟨o,its,n,hk,hc,hd,hs,hz,r⟩
 ·obtain⟨z,its,n,r,e⟩:=h.ok I.hok
  exact⟨its,r,⟨_,n,e,rfl,rfl,rfl⟩,z⟩
 ·refine⟨its.toList,r,⟨o,n,I.IK a o hk,hc,hd,by simpa using hs⟩,?_⟩
  have e:=r.length
  simp only[Array.length_toList]at e
  omega
def Inv.tuple(I:Inv X pins σ H s)(h:SqT X.K H a xs):∃its:List Value,Vals xs its/\IsTup s.heap a its.toArray/\xs.length<=sizeLine:=by
 rcases h with h|⟨o,its,n,hk,hc,_,hs,hz,r⟩
 ·obtain⟨z,its,r,p⟩:=h.ok I.hok
  exact⟨its,r,p.tup,z⟩
 ·refine⟨its.toList,r,⟨o,I.IK a o hk,hc,n,by simpa using hs⟩,?_⟩
  have e:=r.length
  simp only[Array.length_toList]at e
  omega
def Inv.Jq(I:Inv X pins σ H s)(h:SqL X.K H a xs)(h':SqL X.K H a ys):xs=ys:=by
 obtain⟨its,r,⟨o,n,e,_,_,d⟩,_⟩:=I.list h
 obtain⟨its',r',⟨o',n',e',_,_,d'⟩,_⟩:=I.list h'
 rw[e]at e';cases e'
 rw[d]at d'
 injection d' with d1 _
 have:its=its':=by simpa using Qu Array.toList d1
 subst this
 exact r.inj r'
def Inv.Jb(I:Inv X pins σ H s)(h:SqT X.K H a xs)(h':SqT X.K H a ys):xs=ys:=by
 obtain⟨its,r,⟨o,e,_,n,d⟩,_⟩:=I.tuple h
 obtain⟨its',r',⟨o',e',_,n',d'⟩,_⟩:=I.tuple h'
 rw[e]at e';cases e'
 rw[d]at d'
 injection d' with d1 _
 have:its=its':=by simpa using Qu Array.toList d1
 subst this
 exact r.inj r'
end
noncomputable abbrev Cx.wish(X:Cx)(E:Vq):Cx:={ X with xe:=E }
noncomputable abbrev Cx.Ls(X:Cx):Cx:=X.wish fun _ _=>False
theorem Cx.Ok.wish{X:Cx}(ok:X.Ok)(E:Vq):(X.wish E).Ok:=
 ⟨ok.mod,ok.kind,ok.glob,ok.blt,ok.above,ok.inj,ok.has,ok.KP,ok.hd,ok.frames,ok.stk,ok.Lr,ok.bs,ok.JI,ok.IY,ok.Je,ok.HH,ok.J5⟩
def Cx.Ok.HQ{X:Cx}{E:Vq}(ok:(X.wish E).Ok):X.Ok:=
 ⟨ok.mod,ok.kind,ok.glob,ok.blt,ok.above,ok.inj,ok.has,ok.KP,ok.hd,ok.frames,ok.stk,ok.Lr,ok.bs,ok.JI,ok.IY,ok.Je,ok.HH,ok.J5⟩
section
variable {X:Cx} {pins:Va} {σ:St} {H:Hp} {s:Shared} {E:Vq}
theorem Inv.wish(I:Inv X pins σ H s)(E:Vq):Inv (X.wish E) pins σ H s:=⟨I.ok.wish E,I.os,I.bare,I.base,I.loc,I.cell,I.free,I.Hc,I.pin,I.hok,I.len,I.tk⟩
theorem Inv.HQ(I:Inv (X.wish E) pins σ H s):Inv X pins σ H s:=⟨I.ok.HQ,I.os,I.bare,I.base,I.loc,I.cell,I.free,I.Hc,I.pin,I.hok,I.len,I.tk⟩
theorem SP.HQ{D:gQ}{f:Flow}{s':Shared}(h:SP (X.wish E) pins D f s'):SP X pins D f s':=by
 cases f with
 |next=>obtain⟨σ',H',I,q⟩:=h;exact⟨σ',H',I.HQ,q⟩
 |brk=>obtain⟨σ',H',I,q⟩:=h;exact⟨σ',H',I.HQ,q⟩
 |cont=>obtain⟨σ',H',I,q⟩:=h;exact⟨σ',H',I.HQ,q⟩
 |ret u=>obtain⟨v,σ',H',I,r,q⟩:=h;exact⟨v,σ',H',I.HQ,r,q⟩
theorem IZ.Ls{st:List Stmt}{t:TS}(h:IZ X.Ls st t):IZ X st t:=fun pins s σ H D I hw=>
 Rg (h pins s σ H D (I.wish _) hw) (fun _ _ q=>q.HQ) fun _ _ z=>False.elim z
end
section
variable {X:Cx} {st:Stmt} {rest:List Stmt} {t u:TS} {e:Expr} {te:TE} {pos:Pos}
def CH:TS:=fun D σ H=>D.nx σ H
def EO(t u:TS):TS:=fun D σ H=>t { D with nx:=u D } σ H
def wH:IZ X [] CH:=fun _ _ σ H _ I h=>So ⟨σ,H,I,h⟩
def sP(h1:PS X st t)(h2:IZ X rest u):IZ X (st::rest) (EO t u):=by
 intro pins s σ H D I h
 refine wpAny_execs_cons (GG (h1 pins s σ H { D with nx:=u D } I h) fun f s1 q=>?_)
 cases f with
 |next=>
  obtain⟨σ',H',I',q⟩:=q
  exact h2 pins s1 σ' H' D I' q
 |ret v=>exact q
 |brk=>exact q
 |cont=>exact q
def pp(h1:PS X st t):IZ X [st] t:=by
 intro pins s σ H D I h
 refine wpAny_execs_cons (GG (h1 pins s σ H D I h) fun f s1 q=>?_)
 cases f with
 |next=>exact So q
 |ret v=>exact q
 |brk=>exact q
 |cont=>exact q
def Inv.quiet{pins:Va}{σ:St}{H:Hp}{s:Shared}(I:Inv X pins σ H s):interactive X.env=false:=by simp[interactive,I.ok.kind]
def CI(te:TE):TS:=fun D σ H=>te σ H fun _ H1=>D.nx σ H1
def wI(he:PE X e te)(hs:swapsWith e none pos.line X.env=pure false:=by rfl):PS X (.Expr e pos) (CI te):=by
 intro pins s σ H D I h
 exact wpAny_Expr_any (GG (he pins s σ H _ I h) fun v s1 ⟨x,H1,I1,r1,q1⟩=>⟨σ,H1,I1,q1⟩) I.quiet hs
def EQ(te:TE):TS:=fun D σ H=>te σ H D.rt
def z9(he:PE X e te):PS X (.Return (some e) pos) (EQ te):=by
 intro pins s σ H D I h
 exact wpAny_Return_some (GG (he pins s σ H _ I h) fun v s1 ⟨x,H1,I1,r1,q1⟩=>⟨x,σ,H1,I1,r1,q1⟩)
def ER(c:TT)(t u:TS):TS:=fun D σ H=>c σ H fun b H1=>if b=true then t D σ H1 else u D σ H1
def CJ{c:Expr}{a b:List Stmt}{tc:TT}(hc:PT X c tc)(ha:IZ X a t)(hb:IZ X b u):PS X (.If c a b pos) (ER tc t u):=by
 intro pins s σ H D I h
 refine wpAny_If (GG (hc pins s σ H _ I h) fun d s1 ⟨H1,I1,q1⟩=>?_)
 cases d with
 |true=>exact ha pins s1 σ H1 D I1 q1
 |false=>exact hb pins s1 σ H1 D I1 q1
end
abbrev TG:=V->St->Hp->(St->Hp->Prop)->Prop
abbrev yW:=List V->St->Hp->(St->Hp->Prop)->Prop
def PG(X:Cx)(target:Expr)(t:TG):Prop:=
 ∀(pins:Va) (s:Shared) (σ:St) (H:Hp) (v:V) (u:Value) (Q:St->Hp->Prop),Inv X pins σ H s->RelV v u->t v σ H Q->
  wpAny (model X.prog X.w) X.A (assign target X.env u) (fun _ s'=>∃σ' H',Inv X pins σ' H' s'/\Q σ' H') X.xe s
def CK(X:Cx)(ts:List Expr)(t:yW):Prop:=
 ∀(pins:Va) (s:Shared) (σ:St) (H:Hp) (vs:List V) (us:Vv) (Q:St->Hp->Prop),Inv X pins σ H s->Vals vs us->t vs σ H Q->
  wpAny (model X.prog X.w) X.A (assignInOrder ((assignEach ts X.env).map (·.2)) us) (fun _ s'=>∃σ' H',Inv X pins σ' H' s'/\Q σ' H') X.xe s
abbrev z_:=V->V->V->Hp->(Hp->Prop)->Prop
def wJ(X:Cx)(t:z_):Prop:=
 ∀(pins:Va) (s:Shared) (σ:St) (H:Hp) (o i v:V) (ov iv u:Value) (Q:Hp->Prop),Inv X pins σ H s->RelV o ov->RelV i iv->RelV v u->t o i v H Q->
  wpAny (model X.prog X.w) X.A (setItem ov iv u) (fun _ s'=>∃H',Inv X pins σ H' s'/\Q H') X.xe s
section
variable {X:Cx} {pos:Pos}
def mK(i:Nat):TG:=fun v σ H Q=>Q (σ.set i (some v)) H
def wK{i:Nat}{x:Str}(hN:X.N.Nodup)(hi:X.N[i]?=some x)(hx:yV X.env.scope x)(hf:X.fn x=true\/X.env.scope.names.lookup x=some .local:=by first|exact .inl rfl|exact .inr rfl|assumption):PG X (.Name x pos) (mK i):=by
 intro pins s σ H v u Q I r h
 exact wpAny_assign_Name (fQ I hN hi hx r (fun s' I'=>⟨_,H,I',h⟩) hf)
noncomputable def CL:yW:=fun vs σ H Q=>vs=[]/\Q σ H
noncomputable def yX(t:TG)(u:yW):yW:=fun vs σ H Q=>∃v r,vs=v::r/\t v σ H fun σ' H'=>u r σ' H' Q
def pq:CK X [] CL:=by
 intro pins s σ H vs us Q I r h
 obtain⟨e,h⟩:=h
 subst e
 cases r
 exact assignInOrder_nil ⟨σ,H,I,h⟩
def ja{e:Expr}{es:List Expr}{t:TG}{u:yW}(h1:PG X e t)(h2:CK X es u)
  (hs:(assignEach (e::es) X.env).map (·.2)=assign e X.env::(assignEach es X.env).map (·.2):=by rfl):CK X (e::es) (yX t u):=by
 intro pins s σ H vs us Q I r h
 obtain⟨v,vr,e1,h⟩:=h
 subst e1
 cases r with
 |cons r rr=>
  rw[hs]
  refine assignInOrder_cons (GG (h1 pins s σ H _ _ _ I r h) fun _ s1 ⟨σ1,H1,I1,q1⟩=>?_)
  exact h2 pins s1 σ1 H1 _ _ Q I1 rr q1
def CM(K:Vo)(n:Nat)(t:yW):TG:=fun v σ H Q=>∃a xs,v = .ref a/\SqT K H a xs/\xs.length=n/\t xs σ H Q
def sQ{es:List Expr}{k:Nat}{t:yW}{n:Nat}(hc:X.calm=true)(h:CK X es t)
  (hn:(assignEach es X.env).length=n:=by rfl) (hst:(assignEach es X.env).findIdx? (·.1)=none:=by rfl):PG X (.Tuple es k pos) (CM X.K n t):=by
 intro pins s σ H v u Q I r hw
 obtain⟨a,xs,e1,hq,hl,hw⟩:=hw
 subst e1
 cases r
 obtain⟨its,rv,ht,hz⟩:=I.tuple hq
 refine assign_Tuple_tuple (I.ok.hd hc) ht (by simp[hn,<-hl,rv.length]) hst fun h' hx=>?_
 have I1:Inv X pins σ H { s with heap:=h' }:=I.kept (t':=s.toks) fun b o e=>hx b o (Qo (P5 e)) e
 exact h pins _ σ H xs _ Q I1 (by simpa using rv) hw
def ES(to ti:TE)(t:z_):TG:=fun v σ H Q=>to σ H fun o H1=>ti σ H1 fun i H2=>t o i v H2 fun H3=>Q σ H3
def nU{o i:Expr}{to ti:TE}{t:z_}(ho:PE X o to)(hi:PE X i ti)(hs:wJ X t)
  (ha:∀v,assign (.Subscript o i pos) X.env v=(do
   let ov <-holding [v] (eval o X.env)
   let iv <-holding [v,ov] (eval i X.env)
   standAt pos
   holding [v,ov,iv] (setItem ov iv v)
   release [v,ov,iv] []):=by intro _;rfl):PG X (.Subscript o i pos) (ES to ti t):=by
 intro pins s σ H v u Q I r h
 rw[ha]
 refine PJ (Rq (GG (ho pins s σ H _ I h) fun ov s1 ⟨x,H1,I1,r1,q1⟩=>?_))
 refine PJ (Rq (GG (hi pins s1 σ H1 _ I1 q1) fun iv s2 ⟨y,H2,I2,r2,q2⟩=>?_))
 refine PJ (Sl (PJ (Rq (GG (hs pins s2 σ H2 x y v ov iv u _ I2 r1 r2 r q2) fun _ s3 ⟨H3,I3,q3⟩=>?_))))
 exact wpAny_release ⟨σ,H3,I3,q3⟩
def wL(te:TE)(g:TG):TS:=fun D σ H=>te σ H fun x H1=>g x σ H1 D.nx
def sR{tg e:Expr}{te:TE}{g:TG}(he:PE X e te)(hg:PG X tg g)(hs:swapsWithSole [tg] e pos.line X.env=pure false:=by rfl)(hw:swappedStores [tg] e X.env=pure none:=by rfl)
  (h1:(assignEach [tg] X.env).map (·.2)=[assign tg X.env]:=by rfl):PS X (.Assign [tg] e pos) (wL te g):=by
 intro pins s σ H D I h
 refine wpAny_Assign_stores (GG (he pins s σ H _ I h) fun v s1 ⟨x,H1,I1,r1,q1⟩=>?_) hs hw
 rw[h1]
 exact GG (hg pins s1 σ H1 x v _ I1 r1 q1) fun _ s2 q=>q
def Aa{i:Nat}{x:Str}{e:Expr}{te:TE}{pos':Pos}(hN:X.N.Nodup)(hi:X.N[i]?=some x)(hx:yV X.env.scope x)(he:PE X e te)(hs:swapsWith e (some (.Name x pos')) pos.line X.env=pure false:=by rfl)(hf:X.fn x=true\/X.env.scope.names.lookup x=some .local:=by first|exact .inl rfl|exact .inr rfl|assumption) :
  PS X (.Assign [.Name x pos'] e pos) (wL te (mK i)):=by
 intro pins s σ H D I h
 refine wpAny_Assign_Name (GG (he pins s σ H _ I h) fun v s1 ⟨y,H1,I1,r1,q1⟩=>?_) hs
 exact fQ I1 hN hi hx r1 (fun s2 I2=>⟨_,H1,I2,q1⟩) hf
def EU(i j:Nat)(ta:TA):TS:=fun D σ H=>ta σ H fun vs H1=>∃v w,vs=[v,w]/\D.nx ((σ.set i (some v)).set j (some w)) H1
def Ab{i j:Nat}{x y:Str}{a b:Expr}{ta:TA}{px py pt:Pos}{kt k2 Lu}(hc:X.calm=true)(hN:X.N.Nodup)(hi:X.N[i]?=some x)(hj:X.N[j]?=some y)(hij:i≠j)
  (hx:X.env.scope.names.lookup x=some .local) (hy:X.env.scope.names.lookup y=some .local) (ha:PA X [a,b] ta)
  (hw:swappedStores [.Tuple [.Name x px,.Name y py] kt pt] (.Tuple [a,b] k2 Lu) X.env=pure (some [x,y]))
  (hs:swapsWithSole [.Tuple [.Name x px,.Name y py] kt pt] (.Tuple [a,b] k2 Lu) pos.line X.env=pure false:=by rfl) :
  PS X (.Assign [.Tuple [.Name x px,.Name y py] kt pt] (.Tuple [a,b] k2 Lu) pos) (EU i j ta):=by
 intro pins s σ H D I h
 rw[exec_Assign_arm]
 refine PJ (Sl ?_)
 rw[hs]
 refine PJ (PU ?_)
 rw[if_neg (by decide)]
 refine PJ (Tuple_ (GG (ha _ pins s σ H _ I h) fun us s1 ⟨vs,H1,I1,r1,q1⟩=>?_))
 obtain⟨v,w,e1,q1⟩:=q1
 subst e1
 obtain⟨u1,u2,rfl,rv,rw'⟩:∃u1 u2,us=[u1,u2]/\RelV v u1/\RelV w u2:=by
  cases r1 with
  |cons p q=>
   cases q with
   |cons p' q'=>
    cases q'
    exact⟨_,_,rfl,p,p'⟩
 refine Q4 ?_ (by show 2<=sizeLine;decide)
 have I2:Inv X pins σ H1 { s1 with heap:=s1.heap.push { cls:=.type "tuple",data:=.seq [u1,u2].toArray } }:=I1.kept (t':=s1.toks) fun b o e=>PK _ e
 rw[hw]
 refine PJ (PU ?_)
 show wpAny (model X.prog X.w) X.A (do rule "assign.swapped-stores"; let items <-unpackItems (.ref s1.heap.objs.size) 2 none;assignInOrder [fun v=>bindName X.env y v,fun v=>bindName X.env x v] items.reverse;pure Flow.next) _ _ _
 refine PJ (Tj (PJ (unpackItems_tuple (items:=#[u1,u2]) (I.ok.hd hc) (IsTup.new s1.heap _) fun h' hx'=>?_)))
 have I3:=I2.kept (h':=h') (t':=s1.toks) fun b o e=>hx' b o (Qo (P5 e)) e
 show wpAny _ _ (assignInOrder [fun v=>bindName X.env y v,fun v=>bindName X.env x v] [u2,u1] >>= fun _=>pure Flow.next) _ _ _
 refine PJ (assignInOrder_cons (wpAny_bindName (fQ I3 hN hj (.inl hy) rw' (fun s2 I4=>?_) (.inr hy))))
 refine assignInOrder_cons (wpAny_bindName (fQ I4 hN hi (.inl hx) rv (fun s3 I5=>assignInOrder_nil (PU ?_)) (.inr hx)))
 rw[List.set_comm _ _ (QK hij)]at I5
 exact⟨_,H1,I5,q1⟩
end
section
variable {X:Cx} {pos:Pos}
def Ac(c:TT)(tb:TS):TS:=fun D σ H=>∃W:Nat->St->Hp->Prop,(∃m,W m σ H)/\∀m σ H,W m σ H->
 c σ H fun b H1=>if b=true then ∃N:St->Hp->Prop,(∀σ' H',N σ' H'->∃m',m' < m/\W m' σ' H')/\tb { D with nx:=N,ct:=N,bk:=D.nx } σ H1 else D.nx σ H1
def sS{c:Expr}{body:List Stmt}{tc:TT}{tb:TS}(hp:PassesOwn (model X.prog X.w) X.A X.env X.xe)(hc:PT X c tc)(hb:IZ X body tb):PS X (.While c body [] pos) (Ac tc tb):=by
 intro pins s σ H D I h
 obtain⟨W,⟨m0,w0⟩,turn⟩:=h
 refine wpAny_While (codeAny_whileLoop (fun n s'=>∃σ' H',Inv X pins σ' H' s'/\W n σ' H') ?_ m0 ⟨σ,H,I,w0⟩)
 rintro n s1 ⟨σ1,H1,I1,w1⟩
 refine Ry hp (GG (hc pins s1 σ1 H1 _ I1 (turn n σ1 H1 w1)) fun b s2 ⟨H2,I2,q2⟩=>?_)
 cases b with
 |true=>
  obtain⟨N,hN,q2⟩:=q2
  rw[if_pos rfl]
  refine Ry hp (GG (hb pins s2 σ1 H2 _ I2 q2) fun f s3 q3=>?_)
  cases f with
  |next=>
   obtain⟨σ3,H3,I3,n3⟩:=q3
   obtain⟨m',hm,w3⟩:=hN σ3 H3 n3
   exact⟨m',hm,σ3,H3,I3,w3⟩
  |cont=>
   obtain⟨σ3,H3,I3,n3⟩:=q3
   obtain⟨m',hm,w3⟩:=hN σ3 H3 n3
   exact⟨m',hm,σ3,H3,I3,w3⟩
  |brk=>exact q3
  |ret v=>exact q3
 |false=>
  rw[if_neg Qk]
  exact So ⟨σ1,H2,I2,q2⟩
end
structure It where
 go:Nat->Hp->Prop
 MM:Nat->Hp->V->Hp->Prop
 stop:Nat->Hp->Prop
def G6(X:Cx)(pins:Va)(H:Hp)(b:Addr):Prop:=
 H b=none/\b≠X.env.locals/\b ∉ X.fs/\(b∈X.ex\/X.s₀.heap.objs.size<=b)/\(∀x c,X.env.cells.lookup x=some c->c≠b)/\∀p∈X.pn++pins,p.1≠b
def Inv.Im{X:Cx}{pins:Va}{σ:St}{H H':Hp}{s:Shared}{b:Addr}(I:Inv X pins σ H s)(hb:s.heap.objs.size<=b)(hn:H' b=none):G6 X pins H' b:=by
 refine⟨hn,Rp (P6 I.lt hb),I.L8 hb,.inr (PZ I.sz hb),fun x c e z=>?_,fun p hp z=>?_⟩
 ·obtain⟨v,q⟩:=I.cell x c e
  exact absurd (P6 q.lt (by rw[z];exact hb)) (Ri _)
 ·exact absurd (P6 (P5 (I.pin p hp).1) (by rw[z];exact hb)) (Ri _)
structure mL (P:Program) (w:World) (K:Vo) (tg:Expr) (J:It) (fp:List Addr) (it:Addr) (tn:Nat->Heap->Prop):Prop where
 mem:it∈fp
 obj:∀i h,tn i h->∀b∈fp,∃o,h.get? b=some o/\∀v,o.data ≠ .cell v
 keep:∀i h h',tn i h->(∀b∈fp,∀o,h.get? b=some o->h'.get? b=some o)->tn i h'
 item:∀(X:Cx),X.prog=P->X.w=w->X.K=K->X.calm=true->∀(i:Nat) (pins:Va) (s:Shared) (σ:St) (H:Hp) (E:Vq),Inv X pins σ H s->(∀b∈fp,G6 X pins H b)->tn i s.heap->J.go i H->
  wpAny (model P w) X.A (pyNext (.ref it)) (fun r s1=>∃u,r=some u/\
   wpAny (model P w) X.A (letOwnedTupleGo tg (.ref it) u) (fun _ s2=>∃x H',Inv X pins σ H' s2/\RelV x u/\J.MM i H x H'/\tn (i+1) s2.heap/\∀b∈fp,H' b=none) E s1) E s
 done:∀(X:Cx),X.prog=P->X.w=w->X.K=K->X.calm=true->∀(i:Nat) (pins:Va) (s:Shared) (σ:St) (H:Hp) (E:Vq),Inv X pins σ H s->(∀b∈fp,G6 X pins H b)->tn i s.heap->J.stop i H->
  wpAny (model P w) X.A (pyNext (.ref it)) (fun r s1=>r=none/\Inv X pins σ H s1) E s
 self:∀(A:Around) (i:Nat) (s:Shared) (Q:Vq) (E:Vq),tn i s.heap->Q (.ref it) s->wpAny (model P w) A (pyIter (.ref it)) Q E s
abbrev TI:=St->Hp->(It->Hp->Prop)->Prop
def Ep(X:Cx)(pins:Va)(σ:St)(tg:Expr)(R:It->Hp->Prop)(itv:Value)(s2:Shared):Prop:=
 ∃(it:Addr) (fp:List Addr) (tn:Nat->Heap->Prop) (J:It) (H':Hp),itv = .ref it/\Inv X pins σ H' s2/\mL X.prog X.w X.K tg J fp it tn/\tn 0 s2.heap/\(∀b∈fp,G6 X pins H' b)/\R J H'
def PI(X:Cx)(tg iter:Expr)(wi:TI):Prop:=
 ∀(pins:Va) (s:Shared) (σ:St) (H:Hp) (R:It->Hp->Prop),Inv X pins σ H s->wi σ H R->
  wpAny (model X.prog X.w) X.A (eval iter X.env) (fun v s1=>wpAny (model X.prog X.w) X.A (pyIter v) (Ep X pins σ tg R) X.xe s1) X.xe s
def mM {M : Model} {A : Around} {E : Value -> Shared -> Prop} {s : Shared} {tg : Expr} {it : Addr} {u : Value} {o : Obj} {n : String} {vs : Array Value} {Q : Unit -> Shared -> Prop} (ho : s.heap.get? it = some o) (hc : o.cls = .type n) (hd : o.data = .fields vs)
    (hn : ["enumerate", "zip", "dict_itemiterator", "dict_reverseitemiterator", "odict_iterator", "itertools.zip_longest", "itertools.pairwise"].contains n = false) (hQ : Q () s) : wpAny M A (letOwnedTupleGo tg (.ref it) u) Q E s := by
  unfold letOwnedTupleGo
  cases tg <;> first
    | exact PU hQ
    | (cases u <;> first
        | exact PU hQ
        | (refine PJ (wpAny_load ho ?_)
           rw [hc, hd]
           show wpAny M A (if (["enumerate", "zip", "dict_itemiterator", "dict_reverseitemiterator", "odict_iterator", "itertools.zip_longest", "itertools.pairwise"].contains n && vs[0]? == some (rawInt _)) = true then _ else _) Q E s
           rw [if_neg (by intro h; rw [hn, Bool.false_and] at h; cases h)]
           exact PU hQ))
noncomputable def Er(K:Vo)(a:Addr):It:=
 ⟨fun i H=>∃xs x,SqL K H a xs/\xs[i]?=some x,fun i H x H'=>H'=H/\∀xs,SqL K H a xs->xs[i]?=some x,fun i H=>∃xs,SqL K H a xs/\xs.length<=i⟩
noncomputable def EV(K:Vo)(a:Addr):It:=
 ⟨fun i H=>∃xs x,SqT K H a xs/\xs[i]?=some x,fun i H x H'=>H'=H/\∀xs,SqT K H a xs->xs[i]?=some x,fun i H=>∃xs,SqT K H a xs/\xs.length<=i⟩
noncomputable def Es(lo:Int)(n:Nat):It:=⟨fun i _=>i < n,fun i H x H'=>H'=H/\x = .int (lo+i),fun i _=>n<=i⟩
def qQ{P:Program}{w:World}{K:Vo}{tg:Expr}(a it:Addr):mL P w K tg (Er K a) [it] it (fun i h=>h.IsListIter it a i) where
 mem:=by simp
 obj:=fun i h st b hb=>by
  have e:b=it:=by simpa using hb
  subst e
  obtain⟨o,e,c,d⟩:=st
  exact⟨o,e,fun v z=>by rw[d]at z;cases z⟩
 keep:=fun i h h' st k=>st.at fun o e=>k it (by simp) o e
 item:=by
  intro X hP hw hK hc i pins s σ H E I hf st hg
  subst hP hw hK
  obtain⟨xs,x,hq,hx⟩:=hg
  obtain⟨its,rv,p,hz⟩:=I.list hq
  obtain⟨u,hu,ru⟩:=rv.get hx
  obtain⟨f0,f1,f2,f3,f4,f5⟩:=hf it (by simp)
  refine wpAny_pyNext_list_item st p.isList (x:=u) (by simpa using hu) fun h' st' sb=>?_
  have I1:Inv X pins σ H { s with heap:=h' }:=I.turned (t':=s.toks) (fun b o hb e=>(sb.2 b hb).trans e) f0 f1 f3 f4 f5
  obtain⟨o,e,c,d⟩:=id st'
  exact⟨u,rfl,mM (s:={ s with heap:=h' }) e c d (by decide) ⟨x,H,I1,ru,⟨rfl,fun ys hy=>by rw[I.Jq hy hq];exact hx⟩,st',fun b hb=>(hf b hb).1⟩⟩
 done:=by
  intro X hP hw hK hc i pins s σ H E I hf st hg
  subst hP hw hK
  obtain⟨xs,hq,hx⟩:=hg
  obtain⟨its,rv,p,hz⟩:=I.list hq
  obtain⟨f0,f1,f2,f3,f4,f5⟩:=hf it (by simp)
  have hl:=rv.length
  exact wpAny_pyNext_list_end (I.ok.hd hc) st p.isList (by simp;omega) fun h' eb=>⟨rfl,I.turned (t':=s.toks) (fun b o hb e=>eb b o hb e) f0 f1 f3 f4 f5⟩
 self:=fun _ _ _ _ _ st h=>wpAny_pyIter_listiter st h
def nV{P:Program}{w:World}{K:Vo}{tg:Expr}(a it:Addr):mL P w K tg (EV K a) [it] it (fun i h=>h.IsTupleIter it a i) where
 mem:=by simp
 obj:=fun i h st b hb=>by
  have e:b=it:=by simpa using hb
  subst e
  obtain⟨o,e,c,d⟩:=st
  exact⟨o,e,fun v z=>by rw[d]at z;cases z⟩
 keep:=fun i h h' st k=>st.at fun o e=>k it (by simp) o e
 item:=by
  intro X hP hw hK hc i pins s σ H E I hf st hg
  subst hP hw hK
  obtain⟨xs,x,hq,hx⟩:=hg
  obtain⟨its,rv,p,hz⟩:=I.tuple hq
  obtain⟨u,hu,ru⟩:=rv.get hx
  obtain⟨f0,f1,f2,f3,f4,f5⟩:=hf it (by simp)
  refine wpAny_pyNext_tuple_item st (show s.heap.IsTuple a its.toArray from p) (x:=u) (by simpa using hu) fun h' st' sb=>?_
  have I1:Inv X pins σ H { s with heap:=h' }:=I.turned (t':=s.toks) (fun b o hb e=>(sb.2 b hb).trans e) f0 f1 f3 f4 f5
  obtain⟨o,e,c,d⟩:=id st'
  exact⟨u,rfl,mM (s:={ s with heap:=h' }) e c d (by decide) ⟨x,H,I1,ru,⟨rfl,fun ys hy=>by rw[I.Jb hy hq];exact hx⟩,st',fun b hb=>(hf b hb).1⟩⟩
 done:=by
  intro X hP hw hK hc i pins s σ H E I hf st hg
  subst hP hw hK
  obtain⟨xs,hq,hx⟩:=hg
  obtain⟨its,rv,p,hz⟩:=I.tuple hq
  obtain⟨f0,f1,f2,f3,f4,f5⟩:=hf it (by simp)
  have hl:=rv.length
  exact wpAny_pyNext_tuple_end (I.ok.hd hc) st (show s.heap.IsTuple a its.toArray from p) (by simp;omega) fun h' eb=>⟨rfl,I.turned (t':=s.toks) (fun b o hb e=>eb b o hb e) f0 f1 f3 f4 f5⟩
 self:=fun _ _ _ _ _ st h=>wpAny_pyIter_tupleiter st h
def nW{P:Program}{w:World}{K:Vo}{tg:Expr}(it:Addr)(lo:Int)(n:Nat):mL P w K tg (Es lo n) [it] it (fun i h=>IsRangeIter h it (lo+(i:Nat) * 1) ((n:Int) - (i:Nat)) 1) where
 mem:=by simp
 obj:=fun i h st b hb=>by
  have e:b=it:=by simpa using hb
  subst e
  exact⟨_,st,fun v z=>by
   have z':Data.fields _=Data.cell v:=z
   cases z'⟩
 keep:=fun i h h' st k=>k it (by simp) _ st
 item:=by
  intro X hP hw hK hc i pins s σ H E I hf st hg
  subst hP hw hK
  obtain⟨f0,f1,f2,f3,f4,f5⟩:=hf it (by simp)
  have W:=Walks.range (prog:=X.prog) (w:=X.w) (I.ok.hd hc) it lo 1 n
  refine Qi I.tk (W.item i s _ _ hg st fun v h' tk hv st' kk ht=>?_)
  obtain⟨t,rfl⟩:=hv
  have I1:Inv X pins σ H { s with heap:=h',toks:=tk }:=I.turned (fun b o hb e=>kk b o (by simpa using hb) e) f0 f1 f3 f4 f5
  refine⟨_,rfl,mM (s:={ s with heap:=h',toks:=tk }) (n:="range_iterator") st' rfl rfl (by decide) ⟨.int (lo+i),H,I1,⟨t,?_⟩,⟨rfl,rfl⟩,st',fun b hb=>(hf b hb).1⟩⟩
  rw[Int.mul_one]
 done:=by
  intro X hP hw hK hc i pins s σ H E I hf st hg
  subst hP hw hK
  obtain⟨f0,f1,f2,f3,f4,f5⟩:=hf it (by simp)
  exact wpAny_pyNext_range_end (I.ok.hd hc) st (by have:n<=i:=hg;omega) fun h' eb=>⟨rfl,I.turned (t':=s.toks) (fun b o hb e=>eb b o hb e) f0 f1 f3 f4 f5⟩
 self:=fun _ _ _ _ _ st h=>wpAny_pyIter_rangeiter st h
section
variable {X:Cx} {tg:Expr}
def sT{pins:Va}{σ:St}{H:Hp}{s:Shared}{R:It->Hp->Prop}{E:Vq}{lo hi:Int}{t u v:Tok}{tk:Nat}(I:Inv X pins σ H s)(ht:1<=tk)(h1:-(2 ^ 62)<=lo)(h2:lo < 2 ^ 62)(h3:-(2 ^ 62)<=hi)(h4:hi < 2 ^ 62)
  (q:R (Es lo (hi - lo).toNat) H):wpAny (model X.prog X.w) X.A (pyIter (.ref s.heap.objs.size)) (Ep X pins σ tg R) E { s with heap:=s.heap.push { cls:=.type "range",data:=.fields #[.int lo t,.int hi u,.int 1 v] },toks:=tk }:=by
 refine wpAny_pyIter_range (IsRange.new ..) (small_one h1 h2 h3 h4) ?_
 have I1:Inv X pins σ H { s with heap:=s.heap.push { cls:=.type "range",data:=.fields #[.int lo t,.int hi u,.int 1 v] },toks:=tk }:=I.kept fun b o e=>PK _ e
 refine⟨(s.heap.push { cls:=.type "range",data:=.fields #[.int lo t,.int hi u,.int 1 v] }).objs.size,[(s.heap.push { cls:=.type "range",data:=.fields #[.int lo t,.int hi u,.int 1 v] }).objs.size],_,_,H,rfl,
  I1.kept (t':=tk) fun b o e=>PK _ e,nW _ lo (hi - lo).toNat,?_,fun b hb=>?_,q⟩
 ·have e1:lo+((0:Nat):Int) * 1=lo:=by simp
  have e2:(((hi - lo).toNat:Nat):Int) - ((0:Nat):Int)=Builtin.Range.rangeSize lo hi 1:=by rw[rangeSize_one];split<;>omega
  show IsRangeIter _ _ (lo+((0:Nat):Int) * 1) ((((hi - lo).toNat:Nat):Int) - ((0:Nat):Int)) 1
  rw[e1,e2]
  exact P9 _ rfl
 ·have e:b=(s.heap.push { cls:=.type "range",data:=.fields #[.int lo t,.int hi u,.int 1 v] }).objs.size:=by simpa using hb
  subst e
  exact I1.Im (PN _) (I1.hok.fresh (PN _))
def CN(ta:TA):TI:=fun σ H R=>ta σ H fun vs H1=>∃j:Int,vs=[.int j]/\-(2 ^ 62)<=j/\j < 2 ^ 62/\R (Es 0 j.toNat) H1
def qR{a:Expr}{ta:TA}{p pos:Pos}(hg:Gl X "range")(hm:X.mg "range" = none)(ha:PA X [a] ta)(hs:starEach [a] X.env=[(false,eval a X.env)]:=by rfl):PI X tg (.Call (.Name "range" p) [a] [] pos) (CN ta):=by
 intro pins s σ H R I h
 refine Call_ (dX I hg hm boot_range (QV (GG (ha pos pins s σ H _ I h) fun us s1 ⟨vs,H1,I1,r1,q1⟩=>?_) hs rfl))
 obtain⟨j,e,q1,q2,q⟩:=q1
 subst e
 cases r1 with
 |cons r rr=>
  cases rr
  obtain⟨t,rfl⟩:=r
  exact call_range_1 (sT I1 (by walk_at "t") (by omega) (by omega) q1 q2 (by simpa using q))
def EW(wi:TI)(g:TG)(tb:TS):TS:=fun D σ H=>wi σ H fun J H1=>∃W:Nat->Nat->St->Hp->Prop,(∃m,W 0 m σ H1)/\∀i m σ H,W i m σ H->
 (J.stop i H/\D.nx σ H)\/(J.go i H/\∃N:St->Hp->Prop,(∀σ' H',N σ' H'->∃m',m' < m/\W (i+1) m' σ' H')/\∀x H',J.MM i H x H'->g x σ H' fun σ2 H2=>tb { D with nx:=N,ct:=N,bk:=D.nx } σ2 H2)
noncomputable def jb(fp:List Addr)(h:Heap):List (Addr×Obj):=fp.filterMap fun b=>(h.get? b).map fun o=>(b,o)
def fD{fp:List Addr}{h:Heap}{b:Addr}{o:Obj}(hb:b∈fp)(e:h.get? b=some o):(b,o)∈jb fp h:=List.mem_filterMap.mpr ⟨b,hb,by rw[e];rfl⟩
def qS{fp:List Addr}{h:Heap}{p:Addr×Obj}(hp:p∈jb fp h):p.1∈fp/\h.get? p.1=some p.2:=by
 obtain⟨b,hb,e⟩:=List.mem_filterMap.mp hp
 cases q:h.get? b with
 |none=>rw[q]at e;cases e
 |some o=>
  rw[q]at e
  have e':(b,o)=p:=QM e
  subst e'
  exact⟨hb,q⟩
def Inv.pinned{pins:Va}{σ:St}{H:Hp}{s:Shared}{fp:List Addr}(I:Inv X pins σ H s)(hf:∀b∈fp,G6 X pins H b)(ho:∀b∈fp,∃o,s.heap.get? b=some o/\∀v,o.data ≠ .cell v):Inv X (pins++jb fp s.heap) σ H s:=
 I.IL fun p hp=>(Qe.mp hp).elim (fun z=>I.pin p (QD _ z)) fun z=>by
  obtain⟨hb,e⟩:=qS z
  obtain⟨f0,f1,f2,_⟩:=hf p.1 hb
  obtain⟨o,e',d⟩:=ho p.1 hb
  rw[e]at e';cases e'
  exact⟨e,f0,f1,f2,d⟩
def Inv.Io{pins pl:Va}{σ:St}{H:Hp}{s:Shared}(I:Inv X (pins++pl) σ H s):Inv X pins σ H s:=I.IL fun p hp=>I.pin p (QD _ (QW _ hp))
def Ad{iter:Expr}{body:List Stmt}{wi:TI}{g:TG}{tb:TS}{pos:Pos}(hp:PassesOwn (model X.prog X.w) X.A X.env X.xe)(hc:X.calm=true)(hi:PI X tg iter wi)(hg:PG X tg g)(hb:IZ X body tb)
  (hs:∀x,foldedSetIterable iter X.env x=pure x:=by intro _;rfl):PS X (.For tg iter body [] pos) (EW wi g tb):=by
 intro pins s σ H D I h
 refine wpAny_For (GG (hi pins s σ H _ I h) fun v s1 h1=>GG h1 fun itv s2 h2=>?_) hs
 obtain⟨it,fp,tn,J,H2,e,I2,T,st2,f2,W,⟨m0,w0⟩,turn⟩:=h2
 subst e
 -- what stays true of the iterator's objects through the loop
 have stat:∀{H':Hp},(∀b∈fp,H' b=none)->∀b∈fp,G6 X pins H' b:=fun hn b hb=>⟨hn b hb,(f2 b hb).2⟩
 refine codeAny_forLoop_any (fun n s'=>∃i σ' H',Inv X pins σ' H' s'/\tn i s'.heap/\(∀b∈fp,H' b=none)/\W i n σ' H') ?_ m0 ⟨0,σ,H2,I2,st2,fun b hb=>(f2 b hb).1,w0⟩
 rintro n s3 ⟨i,σ3,H3,I3,st3,NZ,w3⟩
 rcases turn i n σ3 H3 w3 with⟨stop,qn⟩|⟨go,N,hN,step⟩
 ·refine Ry hp (GG (T.done X rfl rfl rfl hc i pins s3 σ3 H3 X.xe I3 (stat NZ) st3 stop) fun r s4 ⟨hr,I4⟩=>?_)
  subst hr
  exact So ⟨σ3,H3,I4,qn⟩
 ·refine Ry hp (GG (T.item X rfl rfl rfl hc i pins s3 σ3 H3 X.xe I3 (stat NZ) st3 go) fun r s4 ⟨u,hr,h4⟩=>?_)
  subst hr
  refine Ry hp (GG h4 fun _ s5 ⟨x,H5,I5,r5,y5,KW,M_⟩=>?_)
  have Na:=I5.pinned (stat M_) (T.obj _ _ KW)
  refine Ry hp (GG (hg _ s5 σ3 H5 x u _ Na r5 (step x H5 y5)) fun _ s6 ⟨σ6,H6,I6,q6⟩=>?_)
  refine Ry hp (GG (hb _ s6 σ6 H6 _ I6 q6) fun f s7 q7=>?_)
  have again:∀{σ7:St} {H7:Hp},Inv X (pins++jb fp s5.heap) σ7 H7 s7->N σ7 H7->∃m,m < n/\∃i σ' H',Inv X pins σ' H' s7/\tn i s7.heap/\(∀b∈fp,H' b=none)/\W i m σ' H':=fun{σ7 H7} I7 n7=>by
   obtain⟨m',hm,w7⟩:=hN σ7 H7 n7
   refine⟨m',hm,i+1,σ7,H7,I7.Io,T.keep _ _ _ KW fun b hb o e=>(I7.pin (b,o) (QD _ (QD _ (fD hb e)))).1,fun b hb=>?_,w7⟩
   obtain⟨o,e,d⟩:=T.obj _ _ KW b hb
   exact(I7.pin (b,o) (QD _ (QD _ (fD hb e)))).2.1
  cases f with
  |next=>obtain⟨σ7,H7,I7,n7⟩:=q7;exact again I7 n7
  |cont=>obtain⟨σ7,H7,I7,n7⟩:=q7;exact again I7 n7
  |brk=>obtain⟨σ7,H7,I7,q7⟩:=q7;exact⟨σ7,H7,I7.Io,q7⟩
  |ret v=>obtain⟨x7,σ7,H7,I7,r7,q7⟩:=q7;exact⟨x7,σ7,H7,I7.Io,r7,q7⟩
end
abbrev R2:=V->V->Hp->VK->Prop
def eY(X:Cx)(f:Value->Value->Sem Value)(r:R2):Prop:=
 ∀(pins:Va) (s:Shared) (σ:St) (H:Hp) (x y:V) (v u:Value) (Q:VK),Inv X pins σ H s->RelV x v->RelV y u->r x y H Q->
  wpAny (model X.prog X.w) X.A (f v u) (EP X pins σ Q) X.xe s
def Eu(X:Cx)(f:Value->Sem Value)(r:V->Hp->VK->Prop):Prop:=
 ∀(pins:Va) (s:Shared) (σ:St) (H:Hp) (x:V) (v:Value) (Q:VK),Inv X pins σ H s->RelV x v->r x H Q->
  wpAny (model X.prog X.w) X.A (f v) (EP X pins σ Q) X.xe s
def dl(X:Cx)(f:Value)(r:List V->Hp->VK->Prop):Prop:=
 ∀(pins:Va) (s:Shared) (σ:St) (H:Hp) (xs:List V) (us:Vv) (Q:VK),Inv X pins σ H s->Vals xs us->r xs H Q->
  wpAny (model X.prog X.w) X.A (call f us) (EP X pins σ Q) X.xe s
def CO(r:R2)(ta tb:TE):TE:=fun σ H Q=>ta σ H fun x H1=>tb σ H1 fun y H2=>r x y H2 Q
def F_(r:V->Hp->VK->Prop)(ta:TE):TE:=fun σ H Q=>ta σ H fun x H1=>r x H1 Q
def rI(C:Int->Int->Prop)(g:Int->Int->V):R2:=fun x y H Q=>∃i j,x = .int i/\y = .int j/\C i j/\Q (g i j) H
def wM(g:Int->Int->V):R2:=fun x y H Q=>∃i j,x = .int i/\y = .int j/\Q (g i j) H
noncomputable def rU(g:Int->V):V->Hp->VK->Prop:=fun x H Q=>∃i,x = .int i/\Q (g i) H
section
variable {X:Cx} {a b c:Expr} {ta tb tc:TE} {pos:Pos}
def Ae(ha:PE X a ta)(hb:PE X b tb){pins:Va}{s:Shared}{σ:St}{H:Hp}{R:V->V->Hp->Prop}(I:Inv X pins σ H s)
  (h:ta σ H fun x H1=>tb σ H1 fun y H2=>R x y H2) {Q:Vq} {f:Value->Value->Sem Value}
  (hf:∀v u s2 x y H2,Inv X pins σ H2 s2->RelV x v->RelV y u->R x y H2->wpAny (model X.prog X.w) X.A (f v u) Q X.xe s2) :
  wpAny (model X.prog X.w) X.A (eval a X.env) (fun v s₁=>wpAny (model X.prog X.w) X.A (eval b X.env) (fun u s₂=>wpAny (model X.prog X.w) X.A (f v u) Q X.xe s₂) X.xe s₁) X.xe s:=by
 refine GG (ha pins s σ H _ I h) fun v s1 ⟨x,H1,I1,r1,q1⟩=>?_
 refine GG (hb pins s1 σ H1 _ I1 q1) fun u s2 ⟨y,H2,I2,r2,q2⟩=>?_
 exact hf v u s2 x y H2 I2 r1 r2 q2
def CP{op:Operator}{r:R2}(ho:eY X (binaryOp op) r)(ha:PE X a ta)(hb:PE X b tb):PE X (.BinOp a op b pos) (CO r ta tb):=by
 intro pins s σ H Q I h
 exact wpAny_BinOp (Ae ha hb I h fun v u s2 x y H2 I2 rx ry q=>ho pins s2 σ H2 x y v u Q I2 rx ry q)
def CQ{op:UnaryOp}{r:V->Hp->VK->Prop}(ho:Eu X (unaryOp op) r)(ha:PE X a ta):PE X (.UnaryOp op a pos) (F_ r ta):=by
 intro pins s σ H Q I h
 exact UnaryOp_ (GG (ha pins s σ H _ I h) fun v s1 ⟨x,H1,I1,r1,q1⟩=>ho pins s1 σ H1 x v Q I1 r1 q1)
def Ev{f:Value->Value->Sem Value}{C:Int->Int->Prop}{g:Int->Int->Int}
  (rule:∀(i j:Int) (t u:Tok) (s:Shared) (Q:Vq) (E:Vq),C i j->Q (.int (g i j) s.toks) { s with toks:=s.toks+1 }->wpAny (model X.prog X.w) X.A (f (.int i t) (.int j u)) Q E s) :
  eY X f (rI C fun i j=>.int (g i j)):=by
 intro pins s σ H x y v u Q I rx ry h
 obtain⟨i,j,rfl,rfl,hc,q⟩:=h
 obtain⟨t,rfl⟩:=rx
 obtain⟨t',rfl⟩:=ry
 exact rule i j t t' s _ _ hc ⟨.int (g i j),H,I.tok _,⟨_,rfl⟩,q⟩
def CS{f:Value->Value->Sem Value}{g:Int->Int->Int}
  (rule:∀(i j:Int) (t u:Tok) (s:Shared) (Q:Vq) (E:Vq),Q (.int (g i j) s.toks) { s with toks:=s.toks+1 }->wpAny (model X.prog X.w) X.A (f (.int i t) (.int j u)) Q E s) :
  eY X f (wM fun i j=>.int (g i j)):=by
 intro pins s σ H x y v u Q I rx ry h
 obtain⟨i,j,rfl,rfl,q⟩:=h
 obtain⟨t,rfl⟩:=rx
 obtain⟨t',rfl⟩:=ry
 exact rule i j t t' s _ _ ⟨.int (g i j),H,I.tok _,⟨_,rfl⟩,q⟩
def Af{f:Value->Value->Sem Value}{g:Int->Int->Bool}
  (rule:∀(i j:Int) (t u:Tok) (s:Shared) (Q:Vq) (E:Vq),Q (.bool (g i j)) s->wpAny (model X.prog X.w) X.A (f (.int i t) (.int j u)) Q E s) :
  eY X f (wM fun i j=>.bl (g i j)):=by
 intro pins s σ H x y v u Q I rx ry h
 obtain⟨i,j,rfl,rfl,q⟩:=h
 obtain⟨t,rfl⟩:=rx
 obtain⟨t',rfl⟩:=ry
 exact rule i j t t' s _ _ ⟨.bl (g i j),H,I,rfl,q⟩
def wN(i j:Int):Prop:=0<=j/\j<=1000000/\i.natAbs < 2 ^ 64
def KY(i j:Int):Prop:=(-(2 ^ 64) < i/\i < 2 ^ 64)\/(-(2 ^ 64) < j/\j < 2 ^ 64)
def KY.ok{i j:Int}(h:KY i j):IntMulOk i j:=by
 rcases h with⟨h1,h2⟩|⟨h1,h2⟩
 ·exact .of_left (intBits_le_64 h1 h2)
 ·exact .of_right (intBits_le_64 h1 h2)
def Ag:eY X (binaryOp .Add) (wM fun i j=>.int (i+j)):=CS fun _ _ _ _ _ _ _ q=>add_int q
def Ah:eY X (binaryOp .Sub) (wM fun i j=>.int (i - j)):=CS fun _ _ _ _ _ _ _ q=>sub_int q
def wO:eY X (binaryOp .Mod) (rI (fun _ j=>j≠0) fun i j=>.int (i.fmod j)):=Ev fun _ _ _ _ _ _ _ hc q=>mod_int' hc q
def Ai:eY X (binaryOp .Pow) (rI wN fun i j=>.int (i ^ j.toNat)):=Ev fun _ _ _ _ _ _ _ hc q=>pow_int_small hc.1 hc.2.1 hc.2.2 q
def Ga{f:Value->Sem Value}{g:Int->Int}
  (rule:∀(i:Int) (t:Tok) (s:Shared) (Q:Vq) (E:Vq),Q (.int (g i) s.toks) { s with toks:=s.toks+1 }->wpAny (model X.prog X.w) X.A (f (.int i t)) Q E s) :
  Eu X f (rU fun i=>.int (g i)):=by
 intro pins s σ H x v Q I rx h
 obtain⟨i,rfl,q⟩:=h
 obtain⟨t,rfl⟩:=rx
 exact rule i t s _ _ ⟨.int (g i),H,I.tok _,⟨_,rfl⟩,q⟩
def Aj:Eu X (unaryOp .USub) (rU fun i=>.int (-i)):=Ga fun _ _ _ _ _ q=>neg_int q
end
noncomputable def CT:V->V->Bool
 | .non,.non=>true | .non,.int _=>true | .int _,.non=>true | .non,.bl _=>true | .bl _,.non=>true | .non,.str _=>true | .str _,.non=>true
 | .int _,.int _=>true | .bl _,.bl _=>true | .str _,.str _=>true | .Ko _,.Ko _=>true
 | .int _,.str _=>true | .str _,.int _=>true | .bl _,.str _=>true | .str _,.bl _=>true
 |_,_=>false
def Gb:R2:=fun x y H Q=>CT x y=true/\Q (.bl (decide (x=y))) H
def Gc:R2:=fun x y H Q=>CT x y=true/\Q (.bl (!decide (x=y))) H
def pr{i j:Int}:decide (V.int i=V.int j)=(i == j):=by
 rw[Rz]
 simp
def sU{i j:Bool}:decide (V.bl i=V.bl j)=(i == j):=by
 rw[Rz]
 simp
def pz{i j:Str}:decide (V.str i=V.str j)=(i == j):=by
 rw[Rz]
 simp
def pA{i j:Array UInt8}:decide (V.Ko i=V.Ko j)=(i.toList == j.toList):=by
 rw[Rz]
 cases i
 cases j
 simp
section
variable {X:Cx} {a b c:Expr} {ta tb tc:TE} {pos:Pos}
def aF{pins:Va}{σ:St}{H:Hp}{s:Shared}{Q:VK}{k k':Bool}(I:Inv X pins σ H s)(q:Q (.bl k) H)(e:k=k'):EP X pins σ Q (.bool k') s:=by
 subst e
 exact⟨.bl k,H,I,rfl,q⟩
def sV:eY X (compareOp .Eq) Gb:=by
 intro pins s σ H x y v u Q I rx ry h
 obtain⟨hs,q⟩:=h
 cases x with
 |non=>
  cases rx
  cases y with
  |non=>cases ry;exact PySem.EqNone.eq_none_none (aF I q (by simp))
  |bl j=>cases ry;exact PySem.EqNone.eq_none_bool (aF I q (by simp))
  |int j=>obtain⟨t',rfl⟩:=ry;exact PySem.EqNone.eq_none_int (aF I q (by simp))
  |str j=>obtain⟨t',rfl⟩:=ry;exact PySem.EqNone.eq_none_str (aF I q (by simp))
  |_=>exact absurd (show false=true from hs) Qk
 |bl i=>
  cases rx
  cases y with
  |non=>cases ry;exact PySem.EqNone.eq_bool_none (aF I q (by simp))
  |bl j=>cases ry;exact eq_bool (aF I q sU)
  |str j=>obtain⟨t',rfl⟩:=ry;exact PySem.EqMixed.eq_bool_str (aF I q (by simp))
  |_=>exact absurd (show false=true from hs) Qk
 |int i=>
  obtain⟨t,rfl⟩:=rx
  cases y with
  |non=>cases ry;exact PySem.EqNone.eq_int_none (aF I q (by simp))
  |int j=>obtain⟨t',rfl⟩:=ry;exact eq_int (aF I q pr)
  |str j=>obtain⟨t',rfl⟩:=ry;exact PySem.EqMixed.eq_int_str (aF I q (by simp))
  |_=>exact absurd (show false=true from hs) Qk
 |str i=>
  obtain⟨t,rfl⟩:=rx
  cases y with
  |non=>cases ry;exact PySem.EqNone.eq_str_none (aF I q (by simp))
  |bl j=>cases ry;exact PySem.EqMixed.eq_str_bool (aF I q (by simp))
  |int j=>obtain⟨t',rfl⟩:=ry;exact PySem.EqMixed.eq_str_int (aF I q (by simp))
  |str j=>obtain⟨t',rfl⟩:=ry;exact eq_str (aF I q pz)
  |_=>exact absurd (show false=true from hs) Qk
 |Ko i=>
  obtain⟨t,rfl⟩:=rx
  cases y with
  |Ko j=>obtain⟨t',rfl⟩:=ry;exact PySem.W.eq_bytes (aF I q pA)
  |_=>exact absurd (show false=true from hs) Qk
 |_=>cases y<;>exact absurd (show false=true from hs) Qk
def sW:eY X (compareOp .NotEq) Gc:=by
 intro pins s σ H x y v u Q I rx ry h
 obtain⟨hs,q⟩:=h
 cases x with
 |non=>
  cases rx
  cases y with
  |non=>cases ry;exact PySem.EqNone.ne_none_none (aF I q (by simp))
  |bl j=>cases ry;exact PySem.EqNone.ne_none_bool (aF I q (by simp))
  |int j=>obtain⟨t',rfl⟩:=ry;exact PySem.EqNone.ne_none_int (aF I q (by simp))
  |str j=>obtain⟨t',rfl⟩:=ry;exact PySem.EqNone.ne_none_str (aF I q (by simp))
  |_=>exact absurd (show false=true from hs) Qk
 |bl i=>
  cases rx
  cases y with
  |non=>cases ry;exact PySem.EqNone.ne_bool_none (aF I q (by simp))
  |bl j=>cases ry;exact ne_bool (aF I q (Qu not sU))
  |str j=>obtain⟨t',rfl⟩:=ry;exact PySem.EqMixed.ne_bool_str (aF I q (by simp))
  |_=>exact absurd (show false=true from hs) Qk
 |int i=>
  obtain⟨t,rfl⟩:=rx
  cases y with
  |non=>cases ry;exact PySem.EqNone.ne_int_none (aF I q (by simp))
  |int j=>obtain⟨t',rfl⟩:=ry;exact ne_int (aF I q (Qu not pr))
  |str j=>obtain⟨t',rfl⟩:=ry;exact PySem.EqMixed.ne_int_str (aF I q (by simp))
  |_=>exact absurd (show false=true from hs) Qk
 |str i=>
  obtain⟨t,rfl⟩:=rx
  cases y with
  |non=>cases ry;exact PySem.EqNone.ne_str_none (aF I q (by simp))
  |bl j=>cases ry;exact PySem.EqMixed.ne_str_bool (aF I q (by simp))
  |int j=>obtain⟨t',rfl⟩:=ry;exact PySem.EqMixed.ne_str_int (aF I q (by simp))
  |str j=>obtain⟨t',rfl⟩:=ry;exact ne_str (aF I q (Qu not pz))
  |_=>exact absurd (show false=true from hs) Qk
 |Ko i=>
  obtain⟨t,rfl⟩:=rx
  cases y with
  |Ko j=>obtain⟨t',rfl⟩:=ry;exact PySem.W.ne_bytes (aF I q (Qu not pA))
  |_=>exact absurd (show false=true from hs) Qk
 |_=>cases y<;>exact absurd (show false=true from hs) Qk
def CU:eY X (compareOp .Lt) (wM fun i j=>.bl (decide (i < j))):=Af fun _ _ _ _ _ _ _ q=>lt_int q
def CV:eY X (compareOp .Gt) (wM fun i j=>.bl (decide (j < i))):=Af fun _ _ _ _ _ _ _ q=>gt_int q
def CW:eY X (compareOp .GtE) (wM fun i j=>.bl (decide (j<=i))):=Af fun _ _ _ _ _ _ _ q=>ge_int q
def qT:eY X (compareOp .In) (fun x y H Q=>∃i j,x = .str i/\y = .str j/\Q (.bl (!(Builtin.Str.occurrences j i 0 j.length 1).isEmpty)) H):=by
 intro pins s σ H x y v u Q I rx ry h
 obtain⟨i,j,rfl,rfl,q⟩:=h
 obtain⟨t,rfl⟩:=rx
 obtain⟨t',rfl⟩:=ry
 exact in_str (aF I q rfl)
def Ak:eY X (compareOp .Is) (fun x y H Q=>y = .non/\Q (.bl (decide (x = .non))) H):=by
 intro pins s σ H x y v u Q I rx ry h
 obtain⟨rfl,q⟩:=h
 cases ry
 refine is_none_gen (aF I q ?_)
 cases x<;>first
  |(cases rx;rfl)
  |(obtain⟨t,rfl⟩:=rx;rfl)
def wP:eY X (compareOp .IsNot) (fun x y H Q=>y = .non/\Q (.bl (!decide (x = .non))) H):=by
 intro pins s σ H x y v u Q I rx ry h
 obtain⟨rfl,q⟩:=h
 cases ry
 refine isnot_none_gen (aF I q ?_)
 cases x<;>first
  |(cases rx;rfl)
  |(obtain⟨t,rfl⟩:=rx;rfl)
def aN(b:Expr){op:CmpOp}(h:op ≠ .In:=by decide)(h2:op ≠ .NotIn:=by decide):behindInMarks op b=false:=by
 have e1:(op == CmpOp.In)=false:=by cases op<;>first|rfl|exact absurd rfl h
 have e2:(op == CmpOp.NotIn)=false:=by cases op<;>first|rfl|exact absurd rfl h2
 cases b<;>simp[behindInMarks,e1,e2]
def wQ{op:CmpOp}{r:R2}(ho:eY X (compareOp op) r)(ha:PE X a ta)(hb:PE X b tb)(hm:behindInMarks op b=false):PE X (.Compare a [op] [b] pos) (CO r ta tb):=by
 intro pins s σ H Q I h
 exact wpAny_Compare1 (Ae ha hb I h fun v u s2 x y H2 I2 rx ry q=>ho pins s2 σ H2 x y v u Q I2 rx ry q) hm
def yY(t:TE):TT:=fun σ H Q=>t σ H fun x H'=>∃k,x = .bl k/\Q k H'
def pB{op:CmpOp}{r:R2}(ho:eY X (compareOp op) r)(ha:PE X a ta)(hb:PE X b tb)(hm:behindInMarks op b=false):PT X (.Compare a [op] [b] pos) (yY (CO r ta tb)):=by
 intro pins s σ H Q I h
 refine wpAny_isTrue_Compare1 (GG (ha pins s σ H _ I h) fun v s1 ⟨x,H1,I1,r1,q1⟩=>GG (hb pins s1 σ H1 _ I1 q1) fun u s2 ⟨y,H2,I2,r2,q2⟩=>
  GG (ho pins s2 σ H2 x y v u _ I2 r1 r2 q2) fun c s3 ⟨z,H3,I3,r3,k,e,q3⟩=>?_) hm
 subst e
 cases r3
 exact RC ⟨H3,I3,q3⟩
def sX(r r':R2)(ta tb tc:TE):TE:=fun σ H Q=>ta σ H fun x H1=>tb σ H1 fun y H2=>r x y H2 fun z H3=>∃k,z = .bl k/\
 (if k=true then tc σ H3 fun w' H4=>r' y w' H4 Q else Q (.bl false) H3)
def sY{op op':CmpOp}{r r':R2}(ho:eY X (compareOp op) r)(ho':eY X (compareOp op') r')(ha:PE X a ta)(hb:PE X b tb)(hc:PE X c tc)
  (hm:lastMarks [op,op'] [b,c]=false:=by with_unfolding_all rfl):PT X (.Compare a [op,op'] [b,c] pos) (yY (sX r r' ta tb tc)):=by
 intro pins s σ H Q I h
 refine isTrue_chain (GG (ha pins s σ H _ I h) fun v s1 ⟨x,H1,I1,r1,q1⟩=>test_link (GG (hb pins s1 σ H1 _ I1 q1) fun u s2 ⟨y,H2,I2,r2,q2⟩=>
  GG (ho pins s2 σ H2 x y v u _ I2 r1 r2 q2) fun d s3 ⟨z,H3,I3,r3,k,e,q3⟩=>?_)) hm
 subst e
 cases r3
 refine RC ?_
 cases k with
 |false=>
  obtain⟨k',e',q'⟩:=q3
  cases e'
  exact ite_ff ⟨H3,I3,q'⟩
 |true=>
  refine ite_tt (test_last (GG (hc pins s3 σ H3 _ I3 q3) fun w' s4 ⟨z',H4,I4,r4,q4⟩=>GG (ho' pins s4 σ H4 y z' u w' _ I4 r2 r4 q4) fun d' s5 ⟨z2,H5,I5,r5,k2,e2,q5⟩=>?_))
  subst e2
  cases r5
  exact RC ⟨H5,I5,q5⟩
def gR:(sizeLine:Nat) < 2 ^ 63:=by rw[sizeLine_eq];decide
def nX:eY X (binaryOp .Add) (fun x y H Q=>∃i j,x = .str i/\y = .str j/\i.length+j.length<=sizeLine/\Q (.str (i++j)) H):=by
 intro pins s σ H x y v u Q I rx ry h
 obtain⟨i,j,rfl,rfl,hz,q⟩:=h
 obtain⟨t,rfl⟩:=rx
 obtain⟨t',rfl⟩:=ry
 exact Qi I.tk (add_str (fun t' tk ht=>⟨.str (i++j),H,I.tok _,⟨_,rfl⟩,q⟩) hz)
def dm{x:V}{us:Vv}(r:Vals [x] us):∃u,us=[u]/\RelV x u:=by
 cases r with
 |cons r1 r2=>cases r2;exact⟨_,rfl,r1⟩
def yZ{x y:V}{us:Vv}(r:Vals [x,y] us):∃u w',us=[u,w']/\RelV x u/\RelV y w':=by
 cases r with
 |cons r1 r2=>
  cases r2 with
  |cons r3 r4=>cases r4;exact⟨_,_,rfl,r1,r3⟩
def sZ:dl X (.builtin "abs") (fun xs H Q=>∃i,xs=[.int i]/\Q (.int (if i < 0 then -i else i)) H):=by
 intro pins s σ H xs us Q I r h
 obtain⟨i,rfl,q⟩:=h
 obtain⟨u,rfl,t,rfl⟩:=dm r
 exact Qi I.tk (call_abs_int fun u tk ht=>⟨.int (if i < 0 then -i else i),H,I.tok _,⟨_,rfl⟩,q⟩)
def qU(hc:X.calm=true):dl X (.builtin "max") (fun xs H Q=>∃i j,xs=[.int i,.int j]/\Q (.int (if j > i then j else i)) H):=by
 intro pins s σ H xs us Q I r h
 obtain⟨i,j,rfl,q⟩:=h
 obtain⟨u,w',rfl,⟨t,rfl⟩,⟨t',rfl⟩⟩:=yZ r
 refine Qi I.tk (max_two_ints (I.ok.hd hc) fun h' tk k ht=>⟨_,H,I.kept k,?_,q⟩)
 by_cases hj:j > i
 ·rw[if_pos hj,if_pos hj];exact⟨_,rfl⟩
 ·rw[if_neg hj,if_neg hj];exact⟨_,rfl⟩
def ky:dl X (.type "int") (fun xs H Q=>(∃i,xs=[.int i]/\Q (.int i) H)\/∃k,xs=[.bl k]/\Q (.int (if k then 1 else 0)) H):=by
 intro pins s σ H xs us Q I r h
 rcases h with⟨i,rfl,q⟩|⟨k,rfl,q⟩
 ·obtain⟨u,rfl,t,rfl⟩:=dm r
  exact call_int_int ⟨.int i,H,I,⟨_,rfl⟩,q⟩
 ·obtain⟨u,rfl,r1⟩:=dm r
  cases r1
  exact call_int_bool ⟨.int (if k then 1 else 0),H,I.tok _,⟨_,rfl⟩,q⟩
def k_:dl X (.type "str") (fun xs H Q=>∃i,xs=[.int i]/\i.natAbs.log2 < 1920/\Q (.str (toString i)) H):=by
 intro pins s σ H xs us Q I r h
 obtain⟨i,rfl,hz,q⟩:=h
 obtain⟨u,rfl,t,rfl⟩:=dm r
 exact PySem.P.str_of_int hz ⟨.str _,H,I.tok _,⟨_,rfl⟩,q⟩
end
def qV{h:Heap}{dx:Addr}{mA:Vr}(n:h.Ns1 dx mA):∃od,h.get? dx=some od/\∀name,PySem.W.lookIn name od=some (mA name):=by
 obtain⟨o,es,ep,ho,hd,hk,_,hm⟩:=n
 refine⟨o,ho,fun name=>?_⟩
 have e:=hm name
 unfold nsFind findBy at e
 rw[<-Array.find?_toList]at e
 unfold PySem.W.lookIn
 rw[hd]
 dsimp only
 split
 ·rename_i y q
  rw[q]at e
  exact Qu some e
 ·rename_i q
  rw[q]at e
  have a:es.toList.any (·.refKey)=false:=by
   rw[List.any_eq_false]
   intro y hy
   obtain⟨z,t,hkey⟩:=hk y (Array.mem_toList_iff.mp hy)
   simp[DictEntry.refKey,hkey]
  have a':¬es.toList.any (·.refKey)=true:=by rw[a];exact Qk
  rw[if_neg a']
  exact Qu some e
def Ij.some_of{v:V}{o:Option Value}(r:Ij (some v) o):∃u,o=some u/\RelV v u:=by
 cases o with
 |none=>exact(show False from r).elim
 |some u=>exact⟨u,rfl,r⟩
def qW{v:V}{u:Value}(r:RelV v u):PySem.W.handedIn u=true:=by
 cases v with
 |non=>cases (show u=Value.none from r);rfl
 |bl b=>cases (show u=Value.bool b from r);rfl
 |int i=>obtain⟨t,e⟩:=(show ∃t,u=Value.int i t from r);cases e;rfl
 |str x=>obtain⟨t,e⟩:=(show ∃t,u=Value.str x t from r);cases e;rfl
 |Ko b=>obtain⟨t,e⟩:=(show ∃t,u=Value.bytes b t from r);cases e;rfl
 |MJ b=>obtain⟨t,e⟩:=(show ∃t,u=Value.float b t from r);cases e;rfl
 |ref a=>cases (show u=Value.ref a from r);rfl
 |ty n=>cases (show u=Value.type n from r);rfl
def NoAttr(K:Vo)(C:Addr)(f:Str):Prop:=PySem.W.findIn K (.ref C) f=some none
def NoAttr.Ma{K:Vo}{C:Addr}{f:Str}(n:NoAttr K C f):PySem.W.takerIn K C f=some none:=by
 unfold PySem.W.takerIn
 rw[show PySem.W.findIn K (.ref C) f=some none from n]
 rfl
section
variable {X:Cx} {pins:Va} {σ:St} {H:Hp} {s:Shared} {a C dx:Addr} {fs:List (Str×V)} {f:Str} {v:V} {A:Around} {E:Vq}
def wR{prog:Program}{w:World}{env:Env}{e:Expr}{f:Str}{pos:Pos}{s:Shared}{Q:Vq}(hb:attributeBase e f env (eval e env)=eval e env)
  (h:wpAny (model prog w) A (eval e env) (fun o s₁=>wpAny (model prog w) A (getAttr o f true) Q E s₁) E s):wpAny (model prog w) A (eval (.Attribute e f pos) env) Q E s:=
 Attribute_any_ h (by rw[arm_eval_Attribute,hb])
end
structure Room (k:Nat) (A:Around):Prop where
 hd:A.handled=none
 dp:A.depth+3 * k+5 < recursionLimit
 un:A.units+16 * k+200 < cLine
 gd:A.guards=some []
def Room.mono{j k:Nat}{A:Around}(r:Room k A)(h:j<=k):Room j A:=⟨r.hd,by have:=r.dp;omega,by have:=r.un;omega,r.gd⟩
theorem Room.deeper{k:Nat}{A:Around}(r:Room (k+1) A)(env:Env):Room k (A.deeper env):=
 ⟨r.hd,by have:=r.dp;show A.depth+1+3 * k+5 < _;omega,by have:=r.un;show A.units+3+16 * k+200 < _;omega,r.gd⟩
def nY{A:Around}{C:Addr}{us:Vv}{kw:List (Str×Value)}:(A.under (.builtin "type.__call__" ⟨.ref C::us,kw⟩)).depth=A.depth+1:=by
 first|rfl|simp[Around.under,Code.weight,Code.isCreation,Code.isGuard,Code.isCaller,Code.frames,Code.isFrame,guardIds]
def nZ{A:Around}{C:Addr}{us:Vv}{kw:List (Str×Value)}:(A.under (.builtin "type.__call__" ⟨.ref C::us,kw⟩)).units=A.units+1:=by
 first|rfl|simp[Around.under,Code.cUnits,Code.frames,Code.isFrame]
def mN{A:Around}{C:Addr}{us:Vv}{kw:List (Str×Value)}:(A.under (.builtin "type.__call__" ⟨.ref C::us,kw⟩)).guards=A.guards:=by
 first|rfl|(cases h:A.guards<;>simp[Around.under,Code.guards,Code.isGuard,guardIds,pushGuards,h])
def Room.make{k:Nat}{A:Around}(r:Room (k+1) A)(C:Addr)(us:Vv)(kw:List (Str×Value)):Room k (A.under (.builtin "type.__call__" ⟨.ref C::us,kw⟩)):=
 ⟨r.hd,by have:=r.dp;rw[nY];omega,by have:=r.un;rw[nZ];omega,by rw[mN];exact r.gd⟩
theorem Room.depth{k:Nat}{A:Around}(r:Room k A):A.depth < recursionLimit:=by have:=r.dp;omega
def Al:TA:=fun _ H Q=>Q [] H
def y4(ta:TE)(tr:TA):TA:=fun σ H Q=>ta σ H fun x H1=>tr σ H1 fun xs H2=>Q (x::xs) H2
section
variable {X:Cx} {e:Expr} {es:List Expr} {te:TE} {t:TA} {pos:Pos}
def Am:PA X [] Al:=fun _ _ _ _ H Q I h=>SI ⟨[],H,I,.nil,h⟩
def wS(ha:PE X e te)(hr:PA X es t)(hs:starEach (e::es) X.env=(false,eval e X.env)::starEach es X.env:=by rfl):PA X (e::es) (y4 te t):=by
 intro pos pins s σ H Q I h
 rw[hs]
 show wpAny _ _ (spliced ((false,eval e X.env)::backTo pos (starEach es X.env))) _ _ s
 refine RO (GG (ha pins s σ H _ I h) fun u s1 ⟨x,H1,I1,r1,q1⟩=>?_)
 exact GG (hr pos pins s1 σ H1 _ I1 q1) fun us s2 ⟨xs,H2,I2,r2,q2⟩=>⟨x::xs,H2,I2,.cons r1 r2,q2⟩
def EY(t:TA):TE:=fun σ H Q=>t σ H fun xs H1=>xs.length<=sizeLine/\∀p,H1 p=none->Q (.ref p) (upd H1 p (.tup xs))
def EZ(t:TA):TE:=fun σ H Q=>t σ H fun xs H1=>xs.length<=sizeLine/\∀p,H1 p=none->Q (.ref p) (upd H1 p (.lst xs))
def An{x1}(h:PA X es t):PE X (.Tuple es x1 pos) (EY t):=by
 intro pins s σ H Q I hq
 refine wpAny_Tuple_spliced (GG (h pos pins s σ H _ I hq) fun us s1 ⟨xs,H1,I1,r,z,q⟩=>⟨by rw[<-r.length];exact z,?_⟩)
 have hf:H1 s1.heap.objs.size=none:=I1.hok.fresh (PN _)
 refine⟨.ref s1.heap.objs.size,upd H1 s1.heap.objs.size (.tup xs),I1.laid (t':=s1.toks) (fun b u e=>PK _ e) (PN _) ?_,rfl,q _ hf⟩
 exact⟨z,us,r,⟨_,P9 _ rfl,rfl,rfl,_,rfl⟩⟩
def Ao(h:PA X es t):PE X (.List es pos) (EZ t):=by
 intro pins s σ H Q I hq
 refine wpAny_List_spliced (GG (h pos pins s σ H _ I hq) fun us s1 ⟨xs,H1,I1,r,z,q⟩=>⟨by rw[<-r.length];exact z,?_⟩)
 have hf:H1 s1.heap.objs.size=none:=I1.hok.fresh (PN _)
 refine⟨.ref s1.heap.objs.size,upd H1 s1.heap.objs.size (.lst xs),I1.laid (t':=s1.toks) (fun b u e=>PK _ e) (PN _) ?_,rfl,q _ hf⟩
 exact⟨z,us,0,r,P9 _ rfl⟩
end
abbrev Sp:=List V->Hp->VK->XK->Prop
abbrev nN:=List Env->Hp->Shared->XK->Value->Shared->Prop
structure Jg (P:Program) (w:World) (K:Vo) (mg:Vr) (base:Heap) (A:Around) (outer:List Env) (s:Shared) (H:Hp):Prop where
 frames:A.frames=some outer
 mod:Mod K mg base
 bs:∀b o,base.get? b=some o->s.heap.get? b=some o/\H b=none
 JI:base.objs.size<=s.heap.objs.size
 HH:s.heap.FunFrames base outer
 J5:∀b∈frs outer,H b=none
 hok:HM P w H s.heap
 bare:AllBare s.gens
def CE(outer:List Env)(P:Program)(w:World)(H:Hp)(s:Shared)(Q:VK)(u:Value)(s':Shared):Prop:=
 ∃v H',s'.os=s.os/\AllBare s'.gens/\Un (frs outer) [] H H' s.heap s'.heap/\HM P w H' s'.heap/\RelV v u/\Q v H'
def CR(CX:nN)(outer:List Env)(P:Program)(w:World)(H:Hp)(s:Shared)(Q:VK)(E:XK)(r:Result)(s':Shared):Prop:=
 match r with
 | .ok (.ret u)=>CE outer P w H s Q u s'
 | .ok _=>False
 | .error e=>CX outer H s E e s'
noncomputable def FL(fd:FuncData):List Str->Prop
 |n::_=>fd.scope.names.lookup n=some .local
 |[]=>False
structure dY (P:Program) (w:World) (K:Vo) (mg:Vr) (base:Heap) (CX:nN) (k:Nat) (f:Addr) (fd:FuncData) (ps:Vs) (sp:Sp):Prop where
 len:∀vs H Q E,sp vs H Q E->vs.length=ps.length
 run:∀(A:Around) (outer:List Env) (s:Shared) (H:Hp) (args:Args) (us:Vv) (vs:List V) (Q:VK) (E:XK),Room k A->(1<=s.toks\/FL fd ps)->Jg P w K mg base A outer s H->BindsTo s fd args (ps.zip us)->Vals vs us->sp vs H Q E->
  codeAny (model P w) A (.call (.ref f) args) (CR CX outer P w H s Q E) s
def Jg.make{P:Program}{w:World}{K:Vo}{mg:Vr}{base:Heap}{A:Around}{outer:List Env}{s:Shared}{H:Hp}(e:Jg P w K mg base A outer s H)(C:Addr)(us:Vv)(kw:List (Str×Value)) :
  Jg P w K mg base (A.under (.builtin "type.__call__" ⟨.ref C::us,kw⟩)) outer s H:=⟨by first|exact e.frames|(simpa [Around.under,Code.envs,Code.isFrame,pushEnvs]using e.frames),e.mod,e.bs,e.JI,e.HH,e.J5,e.hok,e.bare⟩
section
variable {X:Cx} {pins:Va} {σ:St} {H:Hp} {s s':Shared}
def Inv.KZ(I:Inv X pins σ H s):Jg X.prog X.w X.K X.mg X.base X.A X.stack s H:=
 ⟨I.ok.frames,I.ok.mod,I.bs,PZ I.ok.JI I.sz,I.stack,I.Jf,I.hok,I.bare⟩
def Inv.after{Q:VK}{u:Value}(I:Inv X pins σ H s)(ht:1<=s'.toks)(h:CE X.stack X.prog X.w H s Q u s'):EP X pins σ Q u s':=by
 obtain⟨v,H',os,bare,un,hok,r,q⟩:=h
 obtain⟨hh,g,d,t,os'⟩:=s'
 obtain rfl:os'=s.os:=os
 exact⟨v,H',I.call (h':=hh) (g':=g) (d':=d) (t':=t) (ch:=[]) un hok bare (fun b z=>absurd z (by simp)),r,q⟩
end
def s9(sp:Sp)(dvs:List V)(E:XK)(t:TA):TE:=fun σ H Q=>t σ H fun vs H1=>sp (vs++dvs) H1 Q E
def Binds(K:Vo)(fd:FuncData)(ps:Vs)(ds:Vv):Prop:=
 ∀(s:Shared) (us:Vv),K.In s.heap->(us++ds).length=ps.length->BindsTo s fd ⟨us,[]⟩ (ps.zip (us++ds))
def Binds.all{K:Vo}{fd:FuncData}{ps:Vs}(h:∀us:List Value,us.length=ps.length->bindArgs fd ⟨us,[]⟩=pure (ps.zip us)):Binds K fd ps []:=fun s us _ hl=>by
 rw[Qv]at hl ⊢
 exact .of_eq (h us hl)
def gS(CX:nN)(X:Cx)(E:XK):Prop:=∀(pins:Va) (σ:St) (H:Hp) (s:Shared) (e:Value) (s':Shared),Inv X pins σ H s->1<=s'.toks->CX X.stack H s E e s'->X.xe e s'
section
variable {X:Cx} {CX:nN} {k:Nat} {f C:Addr} {fd:FuncData} {ps:Vs} {sp:Sp} {dvs:List V} {ds:Vv} {E:XK} {x m:Str} {p pos apos:Pos} {e o:Expr} {es:List Expr} {ta:TE} {t:TA}
def s_{pins:Va}{σ:St}{H:Hp}{s:Shared}{Q:VK}{us:Vv}{vs:List V}(F:dY X.prog X.w X.K X.mg X.base CX k f fd ps sp)(hr:Room k X.A)(hb:Binds X.K fd ps ds)(hd:Vals dvs ds)(hx:gS CX X E)
  (I:Inv X pins σ H s) (r:Vals vs us) (h:sp (vs++dvs) H Q E):wpAny (model X.prog X.w) X.A (call (.ref f) us) (EP X pins σ Q) X.xe s:=by
 have r2:Vals (vs++dvs) (us++ds):=r.append hd
 have hl:(us++ds).length=ps.length:=by rw[<-r2.length];exact F.len _ _ _ _ h
 refine Tn (RP (TN (Inv.tk ‹_›) (F.run X.A X.stack s H ⟨us,[]⟩ (us++ds) (vs++dvs) Q E hr (.inl I.tk) I.KZ (hb s us I.IK hl) r2 h)) fun r s' ⟨ht,hq⟩=>?_)
 cases r with
 |error e=>exact hx pins σ H s e s' I ht hq
 |ok fl=>
  cases fl with
  |ret u=>exact I.after ht hq
  |next=>exact False.elim hq
  |brk=>exact False.elim hq
  |cont=>exact False.elim hq
def wT(F:dY X.prog X.w X.K X.mg X.base CX k f fd ps sp)(hr:Room k X.A)(hg:Gl X x)(hm:X.mg x=some (.ref f))(hk:PySem.W.keepIn X.K (.ref f)=true)(hb:Binds X.K fd ps ds)(hd:Vals dvs ds)(hx:gS CX X E)
  (ha:PA X (e::es) t) (hdb:(x == ("__debug__":Str))=false:=by decide) (he:starEach (e::es) X.env=(false,eval e X.env)::starEach es X.env:=by rfl) (hpl:(backTo pos (starEach es X.env)).any (·.1)=false:=by rfl) :
  PE X (.Call (.Name x p) (e::es) [] pos) (s9 sp dvs E t):=by
 intro pins s σ H Q I h
 refine QX (dB I hg hm ?_ hdb)
 refine Sw (h₀:=X.base) I.ok.mod.Lq hk (GG (ha pos pins s σ H _ I h) fun us s1 ⟨vs,H1,I1,r,q⟩=>⟨I1.IK,?_⟩) he hpl
 exact s_ F hr hb hd hx I1 r q
def td(F:dY X.prog X.w X.K X.mg X.base CX k f fd ps sp)(hr:Room k X.A)(hg:Gl X x)(hm:X.mg x=some (.ref f))(hk:PySem.W.keepIn X.K (.ref f)=true)(hb:Binds X.K fd ps ds)(hd:Vals dvs ds)(hx:gS CX X E)
  (hdb:(x == ("__debug__":Str))=false:=by decide):PE X (.Call (.Name x p) [] [] pos) (s9 sp dvs E Al):=by
 intro pins s σ H Q I h
 refine QX (dB I hg hm ?_ hdb)
 exact PySem.W.callWith_K0 I.IK hk (s_ (us:=[]) F hr hb hd hx I .nil h)
end
structure bv (N P:Vs) (sc:Scope):Prop where
 kind:sc.kind = .function
 co:sc.isCoroutine=false
 gen:sc.isGenerator=false
 nd:N.Nodup
 pre:N.take P.length=P
 par:∀x∈P,sc.names.lookup x=some .local\/sc.names.lookup x=some .cell
 Kt:∀y∈sc.names,y.2 ≠ .free
theorem kz{kindOf:Str->Option NameKind}{x:Str}:∀{binds:List (Str×Value)} {m:Vr},(∀v,(x,v) ∉ binds)->bindL kindOf binds m x=m x
 |[],_,_=>rfl
 |(n,v)::r,m,h=>by
  unfold bindL
  rw[kz fun w hw=>h w (P4 _ hw)]
  split
  ·have:x≠n:=by rintro rfl;exact h v Qj
   simp[this]
  ·rfl
theorem kA{kindOf:Str->Option NameKind}{x:Str}:∀{binds:List (Str×Value)} {m:Vr},(∀v,(x,v) ∉ binds)->bindC kindOf binds m x=m x
 |[],_,_=>rfl
 |(n,v)::r,m,h=>by
  unfold bindC
  rw[kA fun w hw=>h w (P4 _ hw)]
  split
  ·rfl
  ·have:x≠n:=by rintro rfl;exact h v Qj
   simp[this]
theorem gT{kindOf:Str->Option NameKind}{x:Str}{v:Value}:∀{P:Vs} {vs:Vv} {i:Nat} {m:Vr},P.Nodup->P[i]?=some x->vs[i]?=some v->kindOf x=some .local->
  bindL kindOf (P.zip vs) m x=some v
 |[],_,_,_,_,h,_,_=>by simp at h
 |_::_,[],_,_,_,_,h,_=>by simp at h
 |p::P,w::vs,0,m,nd,h1,h2,hk=>by
  simp at h1 h2;subst h1;subst h2
  show bindL kindOf ((p,w)::P.zip vs) m p=_
  unfold bindL
  rw[kz fun v hv=>(Qw.mp nd).1 (TQ hv).1,if_pos hk]
  simp
 |p::P,w::vs,i+1,m,nd,h1,h2,hk=>by
  show bindL kindOf ((p,w)::P.zip vs) m x=_
  unfold bindL
  exact gT (i:=i) (Qw.mp nd).2 (by simpa using h1) (by simpa using h2) hk
theorem gU{kindOf:Str->Option NameKind}{x:Str}{v:Value}:∀{P:Vs} {vs:Vv} {i:Nat} {m:Vr},P.Nodup->P[i]?=some x->vs[i]?=some v->kindOf x≠some .local->
  bindC kindOf (P.zip vs) m x=some v
 |[],_,_,_,_,h,_,_=>by simp at h
 |_::_,[],_,_,_,_,h,_=>by simp at h
 |p::P,w::vs,0,m,nd,h1,h2,hk=>by
  simp at h1 h2;subst h1;subst h2
  show bindC kindOf ((p,w)::P.zip vs) m p=_
  unfold bindC
  rw[kA fun v hv=>(Qw.mp nd).1 (TQ hv).1,if_neg hk]
  simp
 |p::P,w::vs,i+1,m,nd,h1,h2,hk=>by
  show bindC kindOf ((p,w)::P.zip vs) m x=_
  unfold bindC
  exact gU (i:=i) (Qw.mp nd).2 (by simpa using h1) (by simpa using h2) hk
noncomputable def bW(N:Vs)(vs:List V):St:=vs.map some++List.replicate (N.length - vs.length) none
noncomputable def fj(CX:nN)(P:Program)(w:World)(K:Vo)(mg:Vr)(base:Heap)(N:Vs)(qual:Str)(scope:Scope)(f:Addr)(cd:Value)(A:Around)(outer:List Env)(s:Shared)(H:Hp)(E:XK):Cx where
 prog:=P
 w:=w
 K:=K
 mg:=mg
 base:=base
 A:=A.deeper (envOfC qual scope s.heap.objs.size f cd)
 N:=N
 s₀:=s
 H₀:=H
 env:=envOfC qual scope s.heap.objs.size f cd
 outer:=outer
 stack:=envOfC qual scope s.heap.objs.size f cd::outer
 ex:=[]
 calm:=true
 fn:=fun _=>true
 pn:=[]
 xe:=fun e s'=>wpAny (model P w) (A.deeper (envOfC qual scope s.heap.objs.size f cd)) (leaving (envOfC qual scope s.heap.objs.size f cd) e) (fun _ s''=>CX outer H s E e s'') (fun e' s''=>CX outer H s E e' s'') s'
def fS{sc:Scope}{n:Nat}{x:Str}(h:sc.names.lookup x=some .cell):∃c,(cellsFrom n sc.names []).lookup x=some c:=by
 have q:=SJ sc.names n [] (.inl h)
 exact Option.isSome_iff_exists.mp q
def qX{CX:nN}{P:Program}{w:World}{K:Vo}{mg:Vr}{base:Heap}{N ps:Vs}{qual:Str}{scope:Scope}{f:Addr}{cd:Value}{A:Around}{outer:List Env}{s s1:Shared}{H:Hp}{E:XK}{us:Vv}{vs:List V}(ht:1<=s1.toks)
  (S:bv N ps scope) (hd:A.handled=none) (e0:Jg P w K mg base A outer s H) (hl:vs.length=ps.length) (r:Vals vs us)
  (x:InCallC s s.heap.objs.size (bindL (envOfC qual scope s.heap.objs.size f cd).kindOf (ps.zip us) fun _=>none) (cellsFrom (s.heap.objs.size+1) scope.names []) (bindC (envOfC qual scope s.heap.objs.size f cd).kindOf (ps.zip us) fun _=>none) s1) :
  Inv (fj CX P w K mg base N qual scope f cd A outer s H E) [] (bW N vs) H s1:=by
 have hpl:ps.length<=N.length:=by have:=Qu List.length S.pre;rw[RK]at this;omega
 obtain⟨h1,tk,rfl,hk⟩:=x.done
 have K0:∀b:Addr,b ∉ (fj CX P w K mg base N qual scope f cd A outer s H E).ex:=fun b z=>absurd (show b∈([]:List Addr)from z) (by simp)
 refine⟨⟨e0.mod,S.kind,rfl,rfl,PN _,fun y z c h1 h2=>?_,fun y hy=>?_,fun y c _ h=>?_,fun _=>hd,Around.frames_deeper e0.frames,.inr ⟨rfl,rfl⟩,fun b z=>absurd z (K0 b),e0.bs,e0.JI,fun b _ _=>K0 b,fun b z=>absurd z (K0 b),e0.HH,e0.J5⟩,
  rfl,e0.bare,Un.kept hk,⟨_,x.toInCall.ns,fun i y v h1 h2 h3=>?_⟩,fun y c h=>⟨_,x.cell y c h⟩,e0.hok.fresh (PN _),fun y c h=>?_,fun p hp=>absurd (show p∈([]:Va)from hp) (by simp),e0.hok.kept hk,?_,ht⟩
 ·exact name_of_addr x.apart (Qy h1) (Qy h2)
 ·have hy:scope.names.lookup y=some .cell\/scope.names.lookup y=some .free:=hy
  rcases hy with hy|hy
  ·exact fS hy
  ·exact absurd rfl (S.Kt _ (Qy hy))
 ·exact RB (x.above y c (Qy h))
 ·have hi:i < vs.length:=by
   unfold bW at h2
   by_cases hi:i < vs.length
   ·exact hi
   ·rw[Q8 (by simpa using hi)]at h2
    rw[Q6]at h2
    split at h2<;>cases h2
  have ha:vs[i]?=some v:=by
   unfold bW at h2
   rw[QL (by simpa using hi),Ql]at h2
   cases e:vs[i]? with
   |none=>rw[e]at h2;cases h2
   |some a=>rw[e]at h2;cases h2;rfl
  obtain⟨u,hu,rv⟩:=r.get ha
  have hp:ps[i]?=some y:=by
   rw[<-S.pre,List.getElem?_take_of_lt (by omega)];exact h1
  have Mb:ps.Nodup:=by rw[<-S.pre];exact S.nd.sublist (List.take_sublist _ _)
  refine⟨u,rv,?_⟩
  rcases S.par y (QY hp)with k|k
  ·exact .inl ⟨k,gT Mb hp hu k⟩
  ·obtain⟨c,e⟩:=fS (n:=s.heap.objs.size+1) k
   refine .inr ⟨.inl k,c,e,?_⟩
   have q:=x.cell y c e
   rw[gU Mb hp hu (by show scope.names.lookup y≠_;rw[k];decide)]at q
   exact q
 ·exact e0.hok.fresh (RB (x.above y c (Qy h)))
 ·unfold bW
  show _=N.length
  rw[PX,PY,QS]
  omega
def mO{fd:FuncData}{ps:Vs}{us:Vv}(h:FL fd ps)(hl:us.length=ps.length):∃n v r,ps.zip us=(n,v)::r/\fd.scope.names.lookup n=some .local:=by
 cases ps with
 |nil=>exact h.elim
 |cons n r=>cases us with
  |nil=>cases hl
  |cons v us=>exact⟨n,v,_,rfl,h⟩
def E1{M:Model}{A:Around}{E:Vq}{s₀ s:Shared}{m cm:Vr}{env:Env}{n:Str}{v:Value}{Q:Unit->Shared->Prop}(x:InCallC s₀ env.locals m env.cells cm s)(hk:env.scope.kind = .function)(hl:env.kindOf n=some .local)
  (h:∀s',InCallC s₀ env.locals (fun y=>if y=n then some v else m y) env.cells cm s'->1<=s'.toks->Q () s'):wpAny M A (storeName env n v) Q E s:=by
 refine wpAny_storeName_local hl x.toInCall.ns (fun h' hn' hs'=>h _ ⟨⟨?_,hn',fun b o e=>?_,x.toInCall.fresh⟩,fun k c hc=>?_,x.apart,x.above⟩ (QO (Qc _))) (by rw[hk];rfl)
 ·obtain⟨h₁,tk,rfl⟩:=x.toInCall.same
  exact⟨h',_,rfl⟩
 ·exact hs'.extBut b o (Qo (P6 (P5 e) x.toInCall.fresh)) (x.toInCall.keep b o e)
 ·exact(x.cell k c hc).sameBut hs' (Rp (x.above k c (mem_of_lookup hc)))
def mP{M:Model}{A:Around}{E:Vq}{s:Shared}{scope:Scope}{globals:Addr}{binds:List (Str×Value)}{qual:Str}{func:Option Addr}{code:Value}{builtins:Addr}{Q:Env->Shared->Prop}
  (ht:1<=s.toks\/∃n v r,binds=(n,v)::r/\scope.names.lookup n=some .local) (hk:scope.kind = .function)
  (hkind:∀x∈binds,scope.names.lookup x.1=some .local\/(scope.names.lookup x.1=some .cell/\((cellsFrom (s.heap.objs.size+1) scope.names []).lookup x.1).isSome=true))
  (hQ:∀env,env=newEnv scope s.heap.objs.size globals (cellsFrom (s.heap.objs.size+1) scope.names []) qual func code none builtins->
   ∀s',InCallC s env.locals (bindL env.kindOf binds fun _=>none) env.cells (bindC env.kindOf binds fun _=>none) s'->1<=s'.toks->Q env s') :
  wpAny M A (newFunctionEnv scope globals [] binds qual func code none builtins) Q E s:=by
 rcases ht with ht|⟨n,v,r,rfl,hl⟩
 ·exact Qi ht (wpAny_newFunctionEnv_cells hk hkind fun env he s' x ht=>hQ env he s' x ht)
 ·simp only[newFunctionEnv,Option.isSome_none,Qd,QN]
  refine PJ (wpAny_alloc ?_)
  refine PJ (wpAny_layCells _ (fun name kind cells=>by cases hkc:kind == NameKind.cell<;>simp[hkc]) _ _ _ _ ?_)
  have ok:=cellsFrom_ok scope.names (s.heap.push { cls:=.type "frame",data:=.dict #[] }) (s.heap.objs.size+1) [] ⟨fun _ _ hm=>(nomatch hm),List.Pairwise.nil⟩ (by rw[Q9];exact PN _)
  rw[Q9]at ok
  rw[show({ s with heap:=s.heap.push { cls:=.type "frame",data:=.dict #[] } }:Shared).heap.objs.size=s.heap.objs.size+1 from Q9 ..]
  rw[Ss]
  refine PJ (PJ (PJ (E1 (s₀:=s) (env:=newEnv scope s.heap.objs.size globals (cellsFrom (s.heap.objs.size+1) scope.names []) qual func code none builtins)
   ⟨⟨⟨_,_,rfl⟩,(Heap.Ns.new s.heap (.type "frame")).keeps (pushCells_keeps _ _),fun b o e=>pushCells_keeps _ _ b o (PK _ e),PN _⟩,
   fun n c hc=>(ok.empty n c (mem_of_lookup hc)).1,ok.apart,fun n c hm=>(ok.empty n c hm).2⟩ hk hl fun s' x' ht=>PU ?_)))
  refine Qi ht (wpAny_bindParams (s₀:=s) (env:=newEnv scope s.heap.objs.size globals (cellsFrom (s.heap.objs.size+1) scope.names []) qual func code none builtins) _ (fun _ _ _=>rfl) hk r _ _ s' _ x' (fun y hy=>hkind y (P4 _ hy)) fun s'' x'' ht=>PU (hQ _ rfl s'' ?_ ht))
  have hl':(newEnv scope s.heap.objs.size globals (cellsFrom (s.heap.objs.size+1) scope.names []) qual func code none builtins).kindOf n=some .local:=hl
  unfold bindL bindC
  rw[if_pos hl',if_pos hl']
  exact x''
def y8{CX:nN}{P:Program}{w:World}{K:Vo}{mg:Vr}{base:Heap}{k:Nat}{f:Addr}{name qual:Str}{params:Arguments}{body:List Stmt}{scope:Scope}{dV kV doc pm cdv ct oc:Value}{an od:Option Addr}
  {osl:Array (Option Value)} {N ps:Vs} {sp:Sp} (lk:K.lookup f=some ⟨oc,od,.func (PySem.W.fnOf name qual params body scope dV kV doc pm an cdv ct),osl⟩) (hcd:PySem.W.codeIn K cdv qual=true) (S:bv N ps scope)
  (len:∀vs H Q E,sp vs H Q E->vs.length=ps.length)
  (hbody:∀(A:Around) (outer:List Env) (s:Shared) (H:Hp) (vs:List V) (Q:VK) (E:XK),Room k (A.deeper (envOfC qual scope s.heap.objs.size f cdv))->sp vs H Q E->
   ∃t,IZ (fj CX P w K mg base N qual scope f cdv A outer s H E) body t/\t { nx:=fun _ H'=>Q .non H',rt:=Q } (bW N vs) H) :
  dY P w K mg base CX (k+1) f (PySem.W.fnOf name qual params body scope dV kV doc pm an cdv ct) ps sp:=by
 refine⟨len,fun A outer s H args us vs Q E hr ht0 e0 hb r Ku=>?_⟩
 have hl:=len _ _ _ _ Ku
 have KX:K.In s.heap:=e0.mod.Lq.keeps fun b o e=>(e0.bs b o e).1
 have lim:s.heap.NoLimit:=e0.mod.nolimit.keeps fun b o e=>(e0.bs b o e).1
 have hkind:∀y∈ps.zip us,scope.names.lookup y.1=some .local\/(scope.names.lookup y.1=some .cell/\((cellsFrom (s.heap.objs.size+1) scope.names []).lookup y.1).isSome=true):=fun⟨n,v⟩ hy=>by
  rcases S.par n (TQ hy).1 with q|q
  ·exact .inl q
  ·exact .inr ⟨q,SJ _ _ _ (.inl q)⟩
 refine codeAny_call_function hr.depth (KX _ _ lk) rfl S.co S.gen rfl (PySem.W.codeRec_of KX hcd) (hb _ _ _ _ ?_)
 refine mP (ht0.imp id fun z=>mO z (by rw[<-r.length,hl])) S.kind hkind fun env he s1 x htk=>?_
 subst he
 refine⟨lim.keeps x.toInCall.keep,codeAny_func ?_⟩
 obtain⟨t,ht,hq⟩:=hbody A outer s H vs Q E (hr.deeper _) Ku
 have I:Inv (fj CX P w K mg base N qual scope f cdv A outer s H E) [] (bW N vs) H s1:=qX htk S hr.hd e0 hl r x
 refine Rg (ht [] s1 (bW N vs) H _ I hq) (fun fl s' hs=>?_) fun e s' hs=>hs
 have fin:∀{σ':St} {H':Hp} {v:V} {u:Value},Inv (fj CX P w K mg base N qual scope f cdv A outer s H E) [] σ' H' s'->RelV v u->Q v H'->CE outer P w H s Q u s':=
  fun{σ' H' v u} J rv q=>⟨v,H',J.os,J.bare,J.base,J.hok,rv,q⟩
 cases fl with
 |ret u=>
  obtain⟨v,σ',H',J,rv,q⟩:=hs
  exact fin J rv q
 |next=>
  obtain⟨σ',H',J,q⟩:=hs
  exact fin (v:=V.non) (u:=Value.none) J rfl q
 |brk=>
  obtain⟨_,_,_,q⟩:=hs
  exact False.elim q
 |cont=>
  obtain⟨_,_,_,q⟩:=hs
  exact False.elim q
section
variable {X:Cx} {x:Str} {p pos:Pos} {e:Expr} {es:List Expr} {t:TA} {id T:String} {r:List V->Hp->VK->Prop}
def FW(r:List V->Hp->VK->Prop)(t:TA):TE:=fun σ H Q=>t σ H fun vs H1=>r vs H1 Q
def tj(hc:dl X (.builtin id) r)(hg:Gl X x)(hm:X.mg x=none)(hv:bootBuiltins x=some (.builtin id))(ha:PA X (e::es) t)(hn:x ≠ "__name__":=by decide)(hdb:(x == ("__debug__":Str))=false:=by decide)
  (he:starEach (e::es) X.env=(false,eval e X.env)::starEach es X.env:=by rfl) (hpl:(backTo pos (starEach es X.env)).any (·.1)=false:=by rfl):PE X (.Call (.Name x p) (e::es) [] pos) (FW r t):=by
 intro pins s σ H Q I h
 refine QX (dX I hg hm hv ?_ hn hdb)
 exact PyProof.Rows.callWith_builtin1 (GG (ha pos pins s σ H _ I h) fun us s1 ⟨vs,H1,I1,r1,q1⟩=>hc pins s1 σ H1 vs us Q I1 r1 q1) he hpl
def qY(hc:dl X (.type T) r)(hg:Gl X x)(hm:X.mg x=none)(hv:bootBuiltins x=some (.type T))(ha:PA X (e::es) t)(hn:x ≠ "__name__":=by decide)(hdb:(x == ("__debug__":Str))=false:=by decide)
  (he:starEach (e::es) X.env=(false,eval e X.env)::starEach es X.env:=by rfl) (hpl:(backTo pos (starEach es X.env)).any (·.1)=false:=by rfl):PE X (.Call (.Name x p) (e::es) [] pos) (FW r t):=by
 intro pins s σ H Q I h
 refine QX (dX I hg hm hv ?_ hn hdb)
 exact QV (GG (ha pos pins s σ H _ I h) fun us s1 ⟨vs,H1,I1,r1,q1⟩=>hc pins s1 σ H1 vs us Q I1 r1 q1) he hpl
end
end L2
namespace HT
open PySem PyProof.Rows
section
open PySem.SeqAt
open PySem.AutoSeq1 (wpAny_loadPart')
open PySem.MeetsSeq PySem.MeetsSeq2 PySem.MeetsSeq3
end
section
variable {prog:Program} {w:World} {A:Around} {E:Vq} {s:Shared}
def wU{t b:Addr}{vs ws:Vv}{Q:Vq}(ht:IsTup s.heap t vs.toArray)(hb:IsTup s.heap b ws.toArray)(hv:vs≠[])
  (h1:ws=[]->Q (.ref t) s) (h2:ws≠[]->Q (.ref s.heap.objs.size) { s with heap:=s.heap.push { cls:=.type "tuple",data:=.seq (vs++ws).toArray } })
  (hsz:vs.length+ws.length<=sizeLine):wpAny (model prog w) A (binaryOp .Add (.ref t) (.ref b)) Q E s:=by
 obtain⟨⟨cls,dd,data,sl⟩,ho,hc,n,hd⟩:=id ht
 obtain⟨⟨Nc,dd2,data2,sl2⟩,ho2,hc2,n2,hd2⟩:=id hb
 simp only at hc hd hc2 hd2
 subst hc hd hc2 hd2
 have e:vs.toArray++ws.toArray=(vs++ws).toArray:=by simp
 by_cases hw:ws=[]
 ·exact concat_meets ⟨_,ho,rfl⟩ ⟨_,ho2,rfl⟩ noFill_tuple_add seq_tuple_add SK SG (Sm _ _)
   (tuple_addW1 t b vs.toArray ws.toArray n n2 dd dd2 sl sl2 (by simpa using hv) (by simp[hw])) ⟨ho,ho2,h1 hw⟩
 ·refine concat_meets ⟨_,ho,rfl⟩ ⟨_,ho2,rfl⟩ noFill_tuple_add seq_tuple_add SK SG (Sm _ _)
   (tuple_addW2 t b vs.toArray ws.toArray n n2 dd dd2 sl sl2 (by simpa using hv) (by simpa using hw) (by rw[P8,P8];exact hsz)) ⟨ho,ho2,?_⟩
  rw[e]
  exact h2 hw
noncomputable def GQ(n d:Nat):Option Int->Nat
 |none=>d
 |some v=>if v < 0 then (v+(n:Int)).toNat else min v.toNat n
def jc(n d:Nat):GQ n d none=d:=rfl
def fU(n d k:Nat):GQ n d (some (k:Int))=min k n:=by
 show(if (k:Int) < 0 then ((k:Int)+(n:Int)).toNat else min (k:Int).toNat n)=min k n
 rw[if_neg (by omega),SM]
def Ap(n d:Nat)(hd:d<=n)(o:Option Int):GQ n d o<=n:=by
 cases o with
 |none=>exact hd
 |some v=>
  show(if v < 0 then (v+(n:Int)).toNat else min v.toNat n)<=n
  by_cases hv:v < 0
  ·rw[if_pos hv];omega
  ·rw[if_neg hv];exact Ui _ _
def pC(v:Int)(n d:Nat):(if v < 0 then max (v+(n:Int)) 0 else min v (n:Int))=((GQ n d (some v):Nat):Int):=by
 show(if v < 0 then max (v+(n:Int)) 0 else min v (n:Int))=(((if v < 0 then (v+(n:Int)).toNat else min v.toNat n):Nat):Int)
 by_cases hv:v < 0
 ·simp only[if_pos hv];omega
 ·simp only[if_neg hv];omega
def n6(lo hi:Option Int)(n:Nat):Builtin.Slice.sliceAdjust lo hi 1 (n:Int)=(((GQ n 0 lo:Nat):Int),((GQ n n hi:Nat):Int)):=by
 have h1:¬((1:Int) < 0):=by omega
 unfold Builtin.Slice.sliceAdjust
 simp only[h1,QN]
 refine Prod.ext ?_ ?_
 ·cases lo with
  |none=>rfl
  |some v=>exact pC v n 0
 ·cases hi with
  |none=>rfl
  |some v=>exact pC v n n
def n9(i j:Nat):Builtin.Slice.slicePlaces (i:Int) (j:Int) 1=j - i:=by
 unfold Builtin.Slice.slicePlaces
 have h1:(1:Int) > 0:=by omega
 simp only[h1,Rj,Int.ediv_one]
 split<;>omega
def jd{v:Value}{o:Option Int}{Q:Option Int->Shared->Prop}(p:IsPart v o)(h:Q o s):wpAny (model prog w) A (Builtin.Slice.slicePartIndex v) Q E s:=by
 cases p with
 |none=>exact slicePart_none h
 |int i t=>exact slicePart_int h
def dq{sl:Addr}{vl vu:Value}{lo hi:Option Int}{n:Nat}{Q:Int×Int×Nat->Shared->Prop}(hs:s.heap.IsSliceOf sl vl vu .none)(pl:IsPart vl lo)(pu:IsPart vu hi)
  (h:Q (((GQ n 0 lo:Nat):Int),1,GQ n n hi - GQ n 0 lo) s):wpAny (model prog w) A (Builtin.Slice.sliceApplied (.ref sl) (pure (n:Int))) Q E s:=by
 obtain⟨os,hos,hcs,hds⟩:=id hs
 unfold Builtin.Slice.sliceApplied Builtin.Slice.sliceFields
 refine PJ (PJ (QE hos hds (x:=vl) rfl (PJ (QE hos hds (x:=vu) rfl (PJ (QE hos hds (x:=.none) rfl (PU ?_)))))))
 refine PJ (slicePart_none ?_)
 show wpAny _ _ (if ((1:Int) == 0)=true then _ else _) _ _ s
 rw[if_neg (by decide)]
 refine PJ (jd pl (PJ (jd pu (PJ (PU ?_)))))
 show wpAny _ _ (match Builtin.Slice.sliceAdjust lo hi 1 (n:Int)with|(lo,hi)=>pure (lo,(1:Int),Builtin.Slice.slicePlaces lo hi 1)) _ _ s
 rw[n6 lo hi n]
 show wpAny _ _ (pure (((GQ n 0 lo:Nat):Int),(1:Int),Builtin.Slice.slicePlaces ((GQ n 0 lo:Nat):Int) ((GQ n n hi:Nat):Int) 1)) _ _ s
 rw[n9]
 exact PU h
def tm(xs:Vw)(i k:Nat):((List.range k).filterMap fun(m:Nat)=>xs[((i:Int)+(m:Int) * 1).toNat]?).toArray=((xs.toList.drop i).take k).toArray:=by
 have e:(fun(m:Nat)=>xs[((i:Int)+(m:Int) * 1).toNat]?)=fun m=>xs[i+m]?:=by
  funext m
  have:((i:Int)+(m:Int) * 1).toNat=i+m:=by omega
  rw[this]
 rw[e]
 have:=pick_run xs i k
 rw[List.filterMap_map]at this
 have e2:((fun x=>xs[x]?) ∘ fun x=>i+x)=fun m=>xs[i+m]?:=rfl
 rw[e2]at this
 rw[this]
def fV{t sl:Addr}{items:Vw}{vl vu:Value}{lo hi:Option Int}{Q:Vq}(ht:IsTup s.heap t items)(hs:s.heap.IsSliceOf sl vl vu .none)(pl:IsPart vl lo)(pu:IsPart vu hi)
  (hw:¬(GQ items.size 0 lo=0/\GQ items.size items.size hi=items.size))
  (h:Q (.ref s.heap.objs.size) { s with heap:=s.heap.push { cls:=.type "tuple",data:=.seq ((items.toList.drop (GQ items.size 0 lo)).take (GQ items.size items.size hi - GQ items.size 0 lo)).toArray } })
  (hsz:items.size<=sizeLine):wpAny (model prog w) A (getItem (.ref t) (.ref sl)) Q E s:=by
 have JQ:sizeOk (.seq ((items.toList.drop (GQ items.size 0 lo)).take (GQ items.size items.size hi - GQ items.size 0 lo)).toArray):=by
  show((items.toList.drop (GQ items.size 0 lo)).take (GQ items.size items.size hi - GQ items.size 0 lo)).toArray.size<=sizeLine
  rw[P8,RK,Se,TZ]
  omega
 have hj:GQ items.size items.size hi<=items.size:=Ap _ _ (PN _) hi
 obtain⟨os,hos,hcs,hds⟩:=id hs
 have Nd:s.TypeIs (.ref sl) "slice":=⟨os,hos,hcs⟩
 unfold getItem
 try with_reducible refine Rq ?_
 first|refine PJ (PU ?_)|skip
 refine PJ (wpAny_sequenceKey ht.typeIs (by decide) ?_)
 refine PJ (Q7 (name:=Str.ofString "__getitem__") ht.typeIs QI
  (RL QI ht.typeIs entry_tuple_getitem ?_ (args_tuple_getitem _ _)))
 show wpAny _ _ (Builtin.Tuple.tupleItemsOf (.ref t) >>= _) _ _ s
 refine PJ (tupleItemsOf_ ht ?_)
 refine PJ (wpAny_typeOf Nd ?_)
 rw[if_pos (by decide)]
 refine PJ (dq hs pl pu ?_)
 have hno:¬((((GQ items.size 0 lo:Nat):Int) == 0&&(1:Int) == 1&&(GQ items.size items.size hi - GQ items.size 0 lo) == items.size)=true):=by
  intro q
  rw[Qs,Qs]at q
  have q1:((GQ items.size 0 lo:Nat):Int)=0:=eq_of_beq q.1.1
  have q2:GQ items.size items.size hi - GQ items.size 0 lo=items.size:=eq_of_beq q.2
  exact hw ⟨by omega,by omega⟩
 show wpAny _ _ (if (((GQ items.size 0 lo:Nat):Int) == 0&&(1:Int) == 1&&(GQ items.size items.size hi - GQ items.size 0 lo) == items.size)=true then _ else _) _ _ s
 rw[if_neg hno,tm]
 first
  |exact PJ (m:=Builtin.Tuple.tupleExact _) (Q4 (PU ⟨_,rfl,PU h⟩) JQ)
  |exact PJ (m:=Builtin.Tuple.tupleExact _) (Q4 (PJ (PU (PU ⟨_,rfl,PU h⟩))) JQ)
  |exact PJ (PJ (m:=Builtin.Tuple.tupleExact _) (Q4 (PU (PU ⟨_,rfl,PU h⟩)) JQ))
  |exact PJ (PJ (m:=Builtin.Tuple.tupleExact _) (Q4 (PU ⟨_,rfl,PU h⟩) JQ))
end
end HT
namespace L2
open PySem PySem.Spec PyProof.Rows
abbrev TO:=St->Hp->(Option Int->Hp->Prop)->Prop
def PO(X:Cx)(e:Option Expr)(t:TO):Prop:=
 ∀(pins:Va) (s:Shared) (σ:St) (H:Hp) (Q:Option Int->Hp->Prop),Inv X pins σ H s->t σ H Q->
  wpAny (model X.prog X.w) X.A (evalPart e X.env) (fun u s'=>∃o H',Inv X pins σ H' s'/\IsPart u o/\Q o H') X.xe s
noncomputable def wV:TO:=fun _ H Q=>Q none H
noncomputable def CZ(t:TE):TO:=fun σ H Q=>t σ H fun x H1=>∃i,x = .int i/\Q (some i) H1
section
variable {X:Cx} {e:Expr} {te:TE} {lo hi:Option Expr} {tl th:TO} {pos p2:Pos}
def wW:PO X none wV:=by
 intro pins s σ H Q I h
 rw[evalPart_none]
 exact PU ⟨none,H,I,.none,h⟩
def wX(h:PE X e te):PO X (some e) (CZ te):=by
 intro pins s σ H Q I hw
 rw[evalPart_some]
 refine GG (h pins s σ H _ I hw) fun u s1 ⟨x,H1,I1,r1,q1⟩=>?_
 obtain⟨i,rfl,q⟩:=q1
 obtain⟨t,rfl⟩:=r1
 exact⟨some i,H1,I1,.int i t,q⟩
def Cn(X:Cx)(r:V->Option Int->Option Int->Hp->VK->Prop):Prop:=
 ∀(pins:Va) (s:Shared) (σ:St) (H:Hp) (x:V) (v vl vu:Value) (lo hi:Option Int) (sl:Addr) (Q:VK),Inv X pins σ H s->RelV x v->s.heap.IsSliceOf sl vl vu .none->IsPart vl lo->IsPart vu hi->r x lo hi H Q->
  ∃T id,typeLookup (.type T) "__getitem__" = pure (some (.builtin id))/\s.TypeIs v T/\wpAny (model X.prog X.w) X.A (getItem v (.ref sl)) (EP X pins σ Q) X.xe s
def Gd(r:V->Option Int->Option Int->Hp->VK->Prop)(te:TE)(tl th:TO):TE:=fun σ H Q=>te σ H fun x H1=>tl σ H1 fun l H2=>th σ H2 fun u H3=>r x l u H3 Q
def tq{r:V->Option Int->Option Int->Hp->VK->Prop}(hr:Cn X r)(he:PE X e te)(hl:PO X lo tl)(hu:PO X hi th):PE X (.Subscript e (.Slice lo hi none p2) pos) (Gd r te tl th):=by
 intro pins s σ H Q I h
 refine Subscript_ (GG (he pins s σ H _ I h) fun v s1 ⟨x,H1,I1,r1,q1⟩=>?_)
 refine wpAny_Slice (GG (hl pins s1 σ H1 _ I1 q1) fun vl s2 ⟨l,H2,I2,pl,q2⟩=>GG (hu pins s2 σ H2 _ I2 q2) fun vu s3 ⟨u,H3,I3,pu,q3⟩=>?_)
 rw[evalPart_none]
 refine PU ?_
 have I4:Inv X pins σ H3 { s3 with heap:=s3.heap.push { cls:=.type "slice",data:=.fields #[vl,vu,.none] } }:=I3.kept (t':=s3.toks) fun b ob q=>PK _ q
 obtain⟨T,id,hT,ht,hg⟩:=hr pins { s3 with heap:=s3.heap.push { cls:=.type "slice",data:=.fields #[vl,vu,.none] } } σ H3 x v vl vu l u s3.heap.objs.size Q I4 r1 (Heap.IsSliceOf.new ..) pl pu q3
 show wpAny (model X.prog X.w) X.A (subscriptTail e (.Slice lo hi none p2) v (.ref s3.heap.objs.size)) (EP X pins σ Q) X.xe { s3 with heap:=s3.heap.push { cls:=.type "slice",data:=.fields #[vl,vu,.none] } }
 exact tail_any (ops:=[.ref s3.heap.objs.size,v]) ht hT hg (by with_unfolding_all rfl)
noncomputable def je(xs:List V)(lo hi:Option Int):List V:=(xs.drop (HT.GQ xs.length 0 lo)).take (HT.GQ xs.length xs.length hi - HT.GQ xs.length 0 lo)
def ir(xs:List V)(lo hi:Option Int):(je xs lo hi).length<=xs.length:=by
 unfold je
 rw[RK,Se]
 omega
noncomputable def E2(K:Vo):V->Option Int->Option Int->Hp->VK->Prop:=fun x lo hi H Q=>∃a xs,x = .ref a/\SqT K H a xs/\
 ¬(HT.GQ xs.length 0 lo=0/\HT.GQ xs.length xs.length hi=xs.length)/\∀p,H p=none->Q (.ref p) (upd H p (.tup (je xs lo hi)))
def Aq:Cn X (E2 X.K):=by
 intro pins s σ H x v vl vu lo hi sl Q I rx hs pl pu h
 obtain⟨a,xs,rfl,hx,hw,q⟩:=h
 cases rx
 obtain⟨its,r,ht,hz⟩:=I.tuple hx
 have hlen:its.toArray.size=xs.length:=by rw[P8];exact r.length.symm
 refine⟨"tuple",_,QI.lookup,ht.typeIs,?_⟩
 refine HT.fV ht hs pl pu (by rw[hlen];exact hw) ?_ (by rw[hlen];exact hz)
 rw[hlen]
 refine⟨.ref s.heap.objs.size,_,I.laid (t':=s.toks) (o:=.tup (je xs lo hi)) (fun b ob q=>PK _ q) (PN _) ?_,rfl,q _ (I.hok.fresh (PN _))⟩
 exact⟨PZ (ir xs lo hi) hz,_,(r.drop (HT.GQ xs.length 0 lo)).take (HT.GQ xs.length xs.length hi - HT.GQ xs.length 0 lo),Hj.new _ _⟩
def C0(K:Vo):R2:=fun x y H Q=>∃a b xs ys,x = .ref a/\y = .ref b/\SqT K H a xs/\SqT K H b ys/\xs≠[]/\xs.length+ys.length<=sizeLine/\
 (ys=[]->Q (.ref a) H)/\(ys≠[]->∀p,H p=none->Q (.ref p) (upd H p (.tup (xs++ys))))
def Vals.Jh{xs:List V}{us:Vv}(r:Vals xs us):us=[]↔xs=[]:=by
 cases r with
 |nil=>simp
 |cons _ _=>simp
def wY:eY X (binaryOp .Add) (C0 X.K):=by
 intro pins s σ H x y v u Q I rx ry h
 obtain⟨a,b,xs,ys,rfl,rfl,ha,hb,hx,hz,q1,q2⟩:=h
 cases rx
 cases ry
 obtain⟨its,r1,p1,_⟩:=I.tuple ha
 obtain⟨its2,r2,p2,_⟩:=I.tuple hb
 refine HT.wU p1 p2 (fun z=>hx (r1.Jh.mp z)) (fun z=>⟨.ref a,H,I,rfl,q1 (r2.Jh.mp z)⟩) (fun z=>?_) (by rw[<-r1.length,<-r2.length];exact hz)
 refine⟨.ref s.heap.objs.size,_,I.laid (t':=s.toks) (o:=.tup (xs++ys)) (fun b ob q=>PK _ q) (PN _) ?_,rfl,q2 (fun w=>z (r2.Jh.mpr w)) _ (I.hok.fresh (PN _))⟩
 exact⟨by rw[PX];exact hz,_,r1.append r2,Hj.new _ _⟩
end
noncomputable def pD(n:Nat)(i:Int):Option Nat:=if 0<=i then (if i < n then some i.toNat else none) else if -(n:Int)<=i then some (i+n).toNat else none
noncomputable def He{α:Type}(xs:List α)(i:Int):Option α:=(pD xs.length i).bind fun j=>xs[j]?
def pE{n:Nat}{i:Int}{j:Nat}(h:pD n i=some j):seqIndex? i n=some j/\j < n/\-(n:Int)<=i/\i < n:=by
 unfold pD at h
 by_cases h0:0<=i
 ·rw[if_pos h0]at h
  by_cases h1:i < n
  ·rw[if_pos h1]at h
   have e:i.toNat=j:=QM h
   exact⟨by rw[seqIndex_of h0 h1,e],by omega,by omega,h1⟩
  ·rw[if_neg h1]at h;cases h
 ·rw[if_neg h0]at h
  by_cases h1:-(n:Int)<=i
  ·rw[if_pos h1]at h
   have e:(i+n).toNat=j:=QM h
   exact⟨by rw[seqIndex_neg (by omega) h1,e],by omega,h1,by omega⟩
  ·rw[if_neg h1]at h;cases h
def lg{α:Type}{xs:List α}{i:Int}{v:α}(h:He xs i=some v):∃j,seqIndex? i xs.length=some j/\xs[j]?=some v/\j < xs.length/\-(xs.length:Int)<=i/\i < xs.length:=by
 unfold He at h
 cases e:pD xs.length i with
 |none=>rw[e]at h;cases h
 |some j=>
  rw[e]at h
  obtain⟨h1,h2,h3,h4⟩:=pE e
  exact⟨j,h1,h,h2,h3,h4⟩
def dC{α:Type}{xs:List α}{j:Nat}{v:α}(h:xs[j]?=some v):He xs (j:Int)=some v:=by
 have hj:j < xs.length:=(Qg.mp h).1
 have e:pD xs.length (j:Int)=some j:=by
  unfold pD
  rw[if_pos (by omega),if_pos (by omega)];simp
 unfold He;rw[e];exact h
def tt{α:Type}(xs:List α)(v:α):He (xs++[v]) (-1)=some v:=by
 have hl:(xs++[v]).length=xs.length+1:=by simp
 have e:pD (xs++[v]).length (-1)=some xs.length:=by
  unfold pD
  rw[hl,if_neg (by decide),if_pos (by omega)]
  congr 1
  omega
 unfold He
 rw[e]
 show(xs++[v])[xs.length]?=some v
 simp
def eZ(b:Expr):Prop:=∀o i,subscripted b false o i=operate [o,i] (getItem o i)
def Ar(X:Cx)(r:R2):Prop:=
 ∀(value slice:Expr) (pins:Va) (s:Shared) (σ:St) (H:Hp) (x y:V) (v u:Value) (Q:VK),Inv X pins σ H s->RelV x v->RelV y u->r x y H Q->
  subscripted slice false v u=operate [v,u] (getItem v u)->wpAny (model X.prog X.w) X.A (subscriptTail value slice v u) (EP X pins σ Q) X.xe s
def As(X:Cx)(id:String)(r:V->List V->Hp->VK->Prop):Prop:=
 ∀(pins:Va) (s:Shared) (σ:St) (H:Hp) (x:V) (xs:List V) (v:Value) (us:Vv) (Q:VK),Inv X pins σ H s->RelV x v->Vals xs us->r x xs H Q->
  wpAny (model X.prog X.w) X.A (call (.builtin id) (v::us)) (EP X pins σ Q) X.xe s
section
variable {X:Cx} {a b:Expr} {ta tb:TE} {pos:Pos}
def y9{r:R2}(hr:Ar X r)(ha:PE X a ta)(hb:PE X b tb)(hs:eZ b):PE X (.Subscript a b pos) (CO r ta tb):=by
 intro pins s σ H Q I h
 exact Subscript_ (Ae ha hb I h fun v u s2 x y H2 I2 rx ry q=>hr a b pins s2 σ H2 x y v u Q I2 rx ry q (hs _ _))
def E4(K:Vo):R2:=fun x y H Q=>∃p xs i v,x = .ref p/\y = .int i/\SqL K H p xs/\He xs i=some v/\Q v H
def E5(K:Vo):R2:=fun x y H Q=>∃p xs i v,x = .ref p/\y = .int i/\SqT K H p xs/\He xs i=some v/\Q v H
def E6:R2:=fun x y H Q=>∃z i c,x = .str z/\y = .int i/\z.length<=sizeLine/\He z.cps.toList i=some c/\Q (.str ⟨#[c]⟩) H
def pF:Ar X (E4 X.K):=by
 intro value slice pins s σ H x y v u Q I rx ry h hs
 obtain⟨p,xs,i,z,rfl,rfl,hq,he,q⟩:=h
 cases rx
 obtain⟨t,rfl⟩:=ry
 obtain⟨its,r,pl,hz⟩:=I.list hq
 obtain⟨j,h1,h2,h3,h4,h5⟩:=lg he
 obtain⟨w,ew,rw'⟩:=r.get h2
 have hl:=r.length
 have hn:=gR
 have fin:EP X pins σ Q w s:=⟨z,H,I,rw',q⟩
 by_cases h0:0<=i
 ·have hj:i.toNat=j:=by
   rw[seqIndex_of h0 h5]at h1
   exact QM h1
  exact item_listR pl.isList h0 (by omega) (by rw[hj];simpa using ew) fin hs
 ·have hj:(i+(its.toArray.size:Int)).toNat=j:=by
   rw[seqIndex_neg (by omega) h4]at h1
   rw[P8,<-hl]
   exact QM h1
  exact subscriptTail_builtinR (x:=w) pl.isList.typeIs slot_list_getitem.lookup
   (wpAny_getItem_list_neg (Q:=fun r s'=>r=w/\EP X pins σ Q r s') pl.isList (by omega) (by rw[P8]<;>omega) (by omega) (by rw[hj];simpa using ew) ⟨rfl,fin⟩) hs
def At:Ar X (E5 X.K):=by
 intro value slice pins s σ H x y v u Q I rx ry h hs
 obtain⟨p,xs,i,z,rfl,rfl,hq,he,q⟩:=h
 cases rx
 obtain⟨t,rfl⟩:=ry
 obtain⟨its,r,pl,hz⟩:=I.tuple hq
 obtain⟨j,h1,h2,h3,h4,h5⟩:=lg he
 obtain⟨w,ew,rw'⟩:=r.get h2
 have hl:=r.length
 have hn:=gR
 have fin:EP X pins σ Q w s:=⟨z,H,I,rw',q⟩
 exact subscriptTail_builtinR (x:=w) pl.typeIs slot_tuple_getitem.lookup
  (getItem_tuple (j:=j) (Q:=fun r s'=>r=w/\EP X pins σ Q r s') pl (by omega) (by omega) (by rw[P8,<-hl];exact h1) (by simpa using ew) ⟨rfl,fin⟩) hs
def Au:Ar X E6:=by
 intro value slice pins s σ H x y v u Q I rx ry h hs
 obtain⟨z,i,c,rfl,rfl,hz,he,q⟩:=h
 obtain⟨t,rfl⟩:=rx
 obtain⟨t',rfl⟩:=ry
 obtain⟨j,h1,h2,h3,h4,h5⟩:=lg he
 have hl:z.cps.toList.length=z.length:=by simp[Str.length]
 rw[hl]at h1 h4 h5
 have hn:=gR
 exact tail_any (Sx s z t) slot_str_getitem.lookup (getItem_str (c:=c) (by
  have e1:decide (i < -(2 ^ 63:Int))=false:=P0 (by omega)
  have e2:decide (i>=2 ^ 63)=false:=P0 (by omega)
  rw[e1,e2,Bool.or_false]) (by rw[h1];simpa using h2) ⟨.str ⟨#[c]⟩,H,I.tok _,⟨_,rfl⟩,q⟩) hs
def n_(its:Vv)(n j:Nat)(u:Value):Obj.mapSeq (·.setIfInBounds j u) { cls:=.type "list",data:=.seq its.toArray n }={ cls:=.type "list",data:=.seq (its.set j u).toArray n }:=by
 simp[Obj.mapSeq]
theorem Inv.lst{pins:Va}{σ:St}{H:Hp}{s:Shared}{p:Addr}{xs:List V}(I:Inv X pins σ H s)(h:H p=some (.lst xs)) :
  ∃(its:Vv) (n:Nat),Vals xs its/\s.heap.get? p=some { cls:=.type "list",data:=.seq its.toArray n }/\xs.length<=sizeLine:=by
 obtain⟨z,its,n,r,e⟩:=I.hok p _ h
 exact⟨its,n,r,e,z⟩
def Inv.Lv{pins:Va}{σ:St}{H:Hp}{s:Shared}{p:Addr}{xs ys:List V}{its its':Vv}{n n':Nat}{f:Obj->Obj}(I:Inv X pins σ H s)(h:H p=some (.lst xs))
  (ho:s.heap.get? p=some { cls:=.type "list",data:=.seq its.toArray n }) (hf:f { cls:=.type "list",data:=.seq its.toArray n }={ cls:=.type "list",data:=.seq its'.toArray n' }) (r:Vals ys its') (hz:ys.length<=sizeLine) (t:Nat) (ht:1<=t:=by walk_at "t") :
  Inv X pins σ (upd H p (.lst ys)) { s with heap:=s.heap.update p f,toks:=t }:=by
 have e:(s.heap.update p f).get? p=some { cls:=.type "list",data:=.seq its'.toArray n' }:=by
  rw[Rb f ho (by rw[hf]<;>rfl),hf]
 refine I.write (x:=p) (e:=p) (by rw[h];trivial) (.inl rfl) (fun b u hb q=>(QA _ _ (QK hb)).trans q) ⟨_,e⟩ ?_
 exact⟨hz,its',n',r,e⟩
noncomputable def C1:V->V->V->Hp->(Hp->Prop)->Prop:=fun o i v H Q=>∃p xs k j,o = .ref p/\i = .int k/\H p=some (.lst xs)/\pD xs.length k=some j/\Q (upd H p (.lst (xs.set j v)))
def tu:wJ X C1:=by
 intro pins s σ H o i v ov iv u Q I ro ri rv h
 obtain⟨p,xs,k,j,rfl,rfl,hp,hj,q⟩:=h
 cases ro
 obtain⟨t,rfl⟩:=ri
 obtain⟨its,n,r,ho,hz⟩:=I.lst hp
 obtain⟨h1,h2,h3,h4⟩:=pE hj
 have hl:=r.length
 have hn:=gR
 have I':Inv X pins σ (upd H p (.lst (xs.set j v))) { s with heap:=s.heap.update p (Obj.mapSeq (·.setIfInBounds j u)) }:=
  I.Lv hp ho (n_ its n j u) (r.set rv j) (by rw[RV];exact hz) s.toks
 by_cases h0:0<=k
 ·have hk:k.toNat=j:=by
   rw[seqIndex_of h0 h4]at h1
   exact QM h1
  exact PySem.W.ki_setAt ho h0 (by omega) (by rw[P8,<-hl];exact h4) (by rw[hk];exact⟨_,I',q⟩)
 ·have hk:(k+(its.toArray.size:Int)).toNat=j:=by
   rw[seqIndex_neg (by omega) h3]at h1
   rw[P8,<-hl]
   exact QM h1
  exact PySem.W.ki_setBack ho (by omega) (by rw[P8,<-hl];exact h3) (by omega) (by rw[hk];exact⟨_,I',q⟩)
def li(lo hi:Option Int)(n:Nat):(sliceBounds lo hi none n).1=((HT.GQ n 0 lo:Nat):Int)/\(sliceBounds lo hi none n).2.1=((HT.GQ n n hi:Nat):Int)/\(sliceBounds lo hi none n).2.2=1:=by
 refine⟨?_,?_,rfl⟩
 ·cases lo with
  |none=>simp[sliceBounds,HT.GQ]
  |some i=>
   simp only[sliceBounds,HT.GQ,Option.getD_none,show(1:Int) > 0 by decide,Rj]
   by_cases h:i < 0
   ·simp only[h,Rj]<;>omega
   ·simp only[h,QN]<;>omega
 ·cases hi with
  |none=>simp[sliceBounds,HT.GQ]
  |some i=>
   simp only[sliceBounds,HT.GQ,Option.getD_none,show(1:Int) > 0 by decide,Rj]
   by_cases h:i < 0
   ·simp only[h,Rj]<;>omega
   ·simp only[h,QN]<;>omega
def ke(its:Vv)(lo hi:Option Int):slicePick its.toArray lo hi none=((its.drop (HT.GQ its.length 0 lo)).take (HT.GQ its.length its.length hi - HT.GQ its.length 0 lo)).toArray:=by
 obtain⟨h1,h2,h3⟩:=li lo hi its.toArray.size
 unfold slicePick
 rw[h1,h2,h3]
 simp only[sliceRange_one,pick_run,P8]<;>rfl
noncomputable def E7(K:Vo):V->Option Int->Option Int->Hp->VK->Prop:=fun x lo hi H Q=>∃a xs,x = .ref a/\SqL K H a xs/\∀p,H p=none->Q (.ref p) (upd H p (.lst (je xs lo hi)))
def pG:Cn X (E7 X.K):=by
 intro pins s σ H x v vl vu lo hi sl Q I rx hs pl pu h
 obtain⟨a,xs,rfl,hx,q⟩:=h
 cases rx
 obtain⟨its,r,ht,hz⟩:=I.list hx
 have hlen:=r.length
 refine⟨"list",_,slot_list_getitem.lookup,ht.isList.typeIs,?_⟩
 refine wpAny_getItem_list_slice ht.isList hs pl pu .none (by simp) ?_ (by rw[P8]<;>omega)
 rw[ke,<-hlen]
 refine⟨.ref s.heap.objs.size,_,I.laid (t':=s.toks) (o:=.lst (je xs lo hi)) (fun b ob q=>PK _ q) (PN _) ?_,rfl,q _ (I.hok.fresh (PN _))⟩
 exact⟨PZ (ir xs lo hi) hz,_,0,(r.drop (HT.GQ xs.length 0 lo)).take (HT.GQ xs.length xs.length hi - HT.GQ xs.length 0 lo),P9 _ rfl⟩
def lj:eY X (compareOp .NotIn) (fun x y H Q=>∃i j,x = .str i/\y = .str j/\Q (.bl (!(!(Builtin.Str.occurrences j i 0 j.length 1).isEmpty))) H):=by
 intro pins s σ H x y v u Q I rx ry h
 obtain⟨i,j,rfl,rfl,q⟩:=h
 obtain⟨t,rfl⟩:=rx
 obtain⟨t',rfl⟩:=ry
 exact notIn_str ⟨.bl _,H,I,rfl,q⟩
def dD:dl X (.builtin "len") (fun xs H Q=>∃p ys,xs=[.ref p]/\(SqL X.K H p ys\/SqT X.K H p ys)/\Q (.int ys.length) H):=by
 intro pins s σ H xs us Q I r h
 obtain⟨p,ys,rfl,hq,q⟩:=h
 obtain⟨u,rfl,rx⟩:=dm r
 cases rx
 have hn:=gR
 rcases hq with hq|hq
 ·obtain⟨its,r',pl,hz⟩:=I.list hq
  have hlen:=r'.length
  exact Calls.call_len_list pl.isList (by simp only[P8]<;>omega) ⟨.int ys.length,H,I.tok _,⟨s.toks+1,by rw[P8,hlen]⟩,q⟩
 ·obtain⟨its,r',pl,hz⟩:=I.tuple hq
  have hlen:=r'.length
  exact len_tuple pl (by simp only[P8]<;>omega) ⟨.int ys.length,H,I.tok _,⟨s.toks+1,by rw[P8,hlen]⟩,q⟩
def ll:dl X (.builtin "len") (fun xs H Q=>∃z,xs=[.str z]/\z.length<=sizeLine/\Q (.int z.length) H):=by
 intro pins s σ H xs us Q I r h
 obtain⟨z,rfl,hz,q⟩:=h
 obtain⟨u,rfl,t,rfl⟩:=dm r
 have hn:=gR
 exact len_str (by omega) ⟨.int z.length,H,I.tok _,⟨_,rfl⟩,q⟩
def fq:dl X (.type "tuple") (fun xs H Q=>∃p ys,xs=[.ref p]/\((SqL X.K H p ys/\∀l,H l=none->Q (.ref l) (upd H l (.tup ys)))\/(SqT X.K H p ys/\Q (.ref p) H))):=by
 intro pins s σ H xs us Q I r h
 obtain⟨p,ys,rfl,h⟩:=h
 obtain⟨u,rfl,rx⟩:=dm r
 cases rx
 rcases h with⟨hq,q⟩|⟨hq,q⟩
 ·obtain⟨its,r',pl,hz⟩:=I.list hq
  have hlen:=r'.length
  refine call_tuple_list pl.isList (fun h' kp=>?_) (by simp only[P8]<;>omega)
  have I1:Inv X pins σ H { s with heap:=h' }:=I.kept (t':=s.toks) kp
  have I2:Inv X pins σ (upd H h'.objs.size (.tup ys)) { s with heap:=h'.push { cls:=.type "tuple",data:=.seq its.toArray } }:=
   I1.laid (t':=s.toks) (fun b o e=>PK _ e) (PN _) (show GM X.prog X.w _ _ _ (.tup ys)from ⟨hz,its,r',Hj.new _ _⟩)
  exact⟨.ref h'.objs.size,_,I2,rfl,q _ (I1.hok.fresh (PN _))⟩
 ·obtain⟨its,r',pl,hz⟩:=I.tuple hq
  exact call_tuple_same pl ⟨.ref p,H,I,rfl,q⟩
def Ew(K:Vo)(T:String)(x:V)(H:Hp):Prop:=match x with
 | .str _=>T = "str"
 | .int _=>T = "int"
 | .ref p=>(T = "list"/\∃xs,SqL K H p xs)\/(T = "tuple"/\∃o,K.lookup p=some o/\o.cls = .type "tuple"/\o.dict=none) \/
   (T = "dict"/\((∃kvs,H p=some (.dK kvs))\/∃kvs,H p=some (.dT kvs)))\/(T = "set"/\∃S n,H p=some (.set S n))
 |_=>False
def oa{pins:Va}{σ:St}{H:Hp}{s:Shared}{T:String}{x:V}{v:Value}(I:Inv X pins σ H s)(r:RelV x v)(ty:Ew X.K T x H) :
  s.TypeIs v T/\∀a,v = .ref a->∃ob,s.heap.get? a=some ob/\ob.dict=none:=by
 cases x with
 |str z=>
  obtain⟨t,rfl⟩:=r
  cases (show T = "str" from ty)
  exact⟨Sx s z t,fun _ e=>nomatch e⟩
 |int i=>
  obtain⟨t,rfl⟩:=r
  cases (show T = "int" from ty)
  exact⟨typeIs_int s i t,fun _ e=>nomatch e⟩
 |ref p=>
  cases r
  rcases ty with⟨rfl,xs,hq⟩|⟨rfl,o,hk,hc,hd⟩|⟨rfl,hk⟩|⟨rfl,S,n,hk⟩
  ·obtain⟨its,_,pl,_⟩:=I.list hq
   refine⟨pl.isList.typeIs,fun a e=>?_⟩
   cases e
   obtain⟨o,n,e,c,hd,_⟩:=pl
   exact⟨o,e,hd⟩
  ·refine⟨⟨o,I.IK p o hk,hc⟩,fun a e=>?_⟩
   cases e
   exact⟨o,I.IK _ o hk,hd⟩
  ·have z:∃o,s.heap.get? p=some o/\o.ExactDict:=by
    rcases hk with⟨kvs,hk⟩|⟨kvs,hk⟩
    ·obtain⟨_,_,_,_,o,_,_,e,ex,_⟩:=I.hok p _ hk
     exact⟨o,e,ex⟩
    ·obtain⟨_,_,_,_,o,_,_,e,ex,_⟩:=I.hok p _ hk
     exact⟨o,e,ex⟩
   obtain⟨o,e,ex⟩:=z
   refine⟨⟨o,e,ex.1⟩,fun a e2=>?_⟩
   cases e2
   exact⟨o,e,ex.2.1⟩
  ·obtain⟨o,_,_,_,e,ex,_⟩:=I.hok p _ hk
   refine⟨⟨o,e,ex.1⟩,fun a e2=>?_⟩
   cases e2
   exact⟨o,e,ex.2.1⟩
 |_=>exact False.elim ty
def E8(K:Vo)(T:String)(r:V->List V->Hp->VK->Prop)(to:TE):TE:=fun σ H Q=>to σ H fun x H1=>Ew K T x H1/\r x [] H1 Q
def Ge(K:Vo)(T:String)(r:V->List V->Hp->VK->Prop)(to:TE)(t:TA):TE:=fun σ H Q=>to σ H fun x H1=>Ew K T x H1/\t σ H1 fun xs H2=>r x xs H2 Q
variable {o e:Expr} {es:List Expr} {to:TE} {t:TA} {name:Str} {apos cpos:Pos} {T id:String} {r:V->List V->Hp->VK->Prop}
def Av(pa:PlainAttrs T)(slot:Slot T name id)(hty:typeOf (.builtin id)=pure (.type "method_descriptor"))(hm:As X id r)(ho:PE X o to)
  (hbase:attributeBase o name X.env (eval o X.env)=eval o X.env:=by rfl) (hline:(apos.endLine == cpos.line)=true:=by rfl):PE X (.Call (.Attribute o name apos) [] [] cpos) (E8 X.K T r to):=by
 intro pins s σ H Q I h
 refine wpAny_Call_method0_late hbase hline (GG (ho pins s σ H _ I h) fun v s1 ⟨x,H1,I1,r1,ty,q1⟩=>?_)
 obtain⟨h1,h2⟩:=oa I1 r1 ty
 exact⟨T,id,pa,slot,hty,h1,h2,SN rfl (PySem.evalArgs_none (hm pins s1 σ H1 x [] v [] Q I1 r1 .nil q1))⟩
def C2(pa:PlainAttrs T)(slot:Slot T name id)(hty:typeOf (.builtin id)=pure (.type "method_descriptor"))(hm:As X id r)(ho:PE X o to)(ha:PA X (e::es) t)
  (hbase:attributeBase o name X.env (eval o X.env)=eval o X.env:=by rfl)
  (hfew:((backTo cpos (starEach (e::es) X.env)).all (fun x=>!x.1)&&(backToKw cpos (keywordEach [] X.env)).all (fun x=>x.1.isSome)
   && decide ((e::es).length+([]:List Keyword).length+(if ([]:List Keyword).isEmpty then 0 else 1) < 30))=true:=by rfl)
  (hline:(apos.endLine == cpos.line)=true:=by rfl) (hs:starEach (e::es) X.env=(false,eval e X.env)::starEach es X.env:=by rfl) (hplain:(backTo cpos (starEach es X.env)).any (·.1)=false:=by rfl) :
  PE X (.Call (.Attribute o name apos) (e::es) [] cpos) (Ge X.K T r to t):=by
 intro pins s σ H Q I h
 refine wpAny_Call_method_late hbase hfew hline rfl (GG (ho pins s σ H _ I h) fun v s1 ⟨x,H1,I1,r1,ty,q1⟩=>?_)
 obtain⟨h1,h2⟩:=oa I1 r1 ty
 refine⟨T,id,pa,slot,hty,h1,h2,?_⟩
 have hA:=ha cpos pins s1 σ H1 _ I1 q1
 rw[hs]at hA ⊢
 refine SN (by show(false || (backTo cpos (starEach es X.env)).any (·.1))=false;rw[hplain]<;>rfl) (Calls.evalArgs_plain ?_)
 exact GG hA fun us s2 ⟨vs,H2,I2,r2,q2⟩=>hm pins s2 σ H2 x vs v us Q I2 r1 r2 q2
end
def Ex(X:Cx)(id:String)(r:V->List V->Hp->VK->Prop):Prop:=
 ∀(pins:Va) (s:Shared) (σ:St) (H:Hp) (x:V) (xs:List V) (v:Value) (us:Vv) (Q:VK),Inv X pins σ H s->RelV x v->Vals xs us->r x xs H Q->
  wpAny (model X.prog X.w) X.A (call (.builtin id) (v::us)) (EP X pins σ Q) X.xe s
theorem Vals.one:∀{x:V} {us:Vv},Vals [x] us->∃u,us=[u]/\RelV x u
 |_,_,.cons r .nil=>⟨_,rfl,r⟩
theorem Vals.zero:∀{us:Vv},Vals [] us->us=[]
 |_,.nil=>rfl
theorem Vals.dropLast{xs:List V}{us:Vv}(h:Vals xs us):Vals xs.dropLast us.dropLast:=by
 induction h with
 |nil=>exact .nil
 |cons r t ih=>
  cases t with
  |nil=>exact .nil
  |cons q t'=>exact .cons r ih
theorem Vals.eraseIdx:∀{xs:List V} {us:Vv} (i:Nat),Vals xs us->Vals (xs.eraseIdx i) (us.eraseIdx i)
 |_,_,_,.nil=>.nil
 |_,_,0,.cons _ t=>t
 |_,_,i+1,.cons r t=>.cons r (Vals.eraseIdx i t)
theorem Vals.reverse{xs:List V}{us:Vv}(h:Vals xs us):Vals xs.reverse us.reverse:=by
 induction h with
 |nil=>exact .nil
 |cons r t ih=>rw[Rl,Rl];exact Vals.append ih (.cons r .nil)
theorem Vals.rep{xs:List V}{us:Vv}(h:Vals xs us):∀k:Nat,Vals (List.replicate k xs).flatten (List.replicate k us).flatten
 |0=>.nil
 |k+1=>by
  rw[Q2,Q2,RD,RD]
  exact Vals.append h (Vals.rep h k)
def og{α:Type}(l:List α):l.eraseIdx (l.length - 1)=l.dropLast:=by
 induction l with
 |nil=>rfl
 |cons a r ih=>
  cases r with
  |nil=>rfl
  |cons b r=>
   have e:(a::b::r).length - 1=((b::r).length - 1)+1:=by
    have h1:(a::b::r).length=r.length+2:=rfl
    have h2:(b::r).length=r.length+1:=rfl
    omega
   rw[e,List.eraseIdx_cons_succ,ih]
   all_goals rfl
theorem kB{α:Type}:∀(l:List α) (i:Nat),(l.eraseIdx i).length<=l.length
 |[],_=>PN _
 |_::_,0=>Uc _
 |_::r,i+1=>QO (kB r i)
theorem kC(its:Vv):∀(k:Nat) (acc:Vv),
  List.foldl (fun x1 x2=>x1++x2) acc.toArray (List.replicate k its.toArray)=(acc++(List.replicate k its).flatten).toArray
 |0,acc=>by simp
 |k+1,acc=>by
  have e:acc.toArray++its.toArray=(acc++its).toArray:=by simp
  have e2:(acc++its)++(List.replicate k its).flatten=acc++(List.replicate (k+1) its).flatten:=by
   rw[Q2,RD,Qp]
  rw[<-e2,<-kC its k (acc++its),<-e,Q2,List.foldl_cons]
section
variable {X:Cx} {pins:Va} {σ:St} {H:Hp} {s:Shared} {l b:Addr} {xs ys zs:List V}
def Inv.Lw{its its':Vv}{n:Nat}{f:Array Value->Array Value}{t':Nat}(I:Inv X pins σ H s)(hH:H l=some (.lst xs))
  (e:s.heap.get? l=some { cls:=.type "list",data:=.seq its.toArray n }) (hf:f its.toArray=its'.toArray) (hv:Vals ys its') (hz:ys.length<=sizeLine) (ht:1<=t':=by walk_at "t") :
  Inv X pins σ (upd H l (.lst ys)) { s with heap:=s.heap.update l (Obj.mapSeq f),toks:=t' }:=by
 have q:=PySem.IsL.update e f
 rw[hf]at q
 refine I.write (x:=l) (e:=l) (by rw[hH];exact trivial) (.inl rfl) (fun b' u hb hu=>(QA s.heap (Obj.mapSeq f) (QK hb)).trans hu) ⟨_,q⟩ ?_
 exact⟨hz,its',_,hv,q⟩
def Inv.Mc{its:Vv}{t':Nat}(I:Inv X pins σ H s)(hv:Vals ys its)(hz:ys.length<=sizeLine)(ht:1<=t':=by walk_at "t") :
  Inv X pins σ (upd H s.heap.objs.size (.lst ys)) { s with heap:=s.heap.push { cls:=.type "list",data:=.seq its.toArray },toks:=t' }:=
 I.laid (fun _ _ q=>PK _ q) (PN _) ⟨hz,its,0,hv,P9 _ rfl⟩
theorem Inv.fresh(I:Inv X pins σ H s):H s.heap.objs.size=none:=I.hok.fresh (PN _)
def Inv.J6(I:Inv X pins σ H s)(hH:H l=some (.lst xs)):xs.length<=sizeLine/\∃(its:Vv) (n:Nat),Vals xs its/\xs.length=its.length/\s.heap.get? l=some { cls:=.type "list",data:=.seq its.toArray n }:=by
 obtain⟨z,its,n,r,e⟩:=I.hok l _ hH
 exact⟨z,its,n,r,r.length,e⟩
def tw{n:Nat}(h:n<=sizeLine):Builtin.List.listTooLong n=false:=by
 unfold Builtin.List.listTooLong
 exact P0 (by omega)
end
section
variable {X:Cx}
noncomputable def wZ:V->List V->Hp->VK->Prop:=fun x vs H Q=>∃l xs y,x = .ref l/\vs=[y]/\H l=some (.lst xs)/\xs.length < sizeLine/\Q .non (upd H l (.lst (xs++[y])))
def qZ:Ex X "list.append" wZ:=by
 intro pins s σ H x vs v us Q I rx rv h
 obtain⟨l,xs,y,rfl,rfl,hH,hz,q⟩:=h
 cases rx
 obtain⟨u,rfl,ru⟩:=rv.one
 obtain⟨z,its,n,r,hl,e⟩:=I.J6 hH
 refine R7 F.slot_list_append ⟨_,e,rfl⟩ F.entry_list_append (F.args_list_append_2 _ _) (PySem.list_append l its.toArray n u (by rw[P8];omega)) ⟨e,?_⟩
 refine⟨.non,_,I.Lw (its':=its++[u]) hH e (by simp) (r.append (.cons ru .nil)) ?_,rfl,q⟩
 rw[PX,Rc]
 omega
noncomputable def E9:V->List V->Hp->VK->Prop:=fun x vs H Q=>∃l xs y,x = .ref l/\vs=[]/\H l=some (.lst xs)/\xs[xs.length - 1]?=some y/\Q y (upd H l (.lst xs.dropLast))
def Aw:Ex X "list.pop" E9:=by
 intro pins s σ H x vs v us Q I rx rv h
 obtain⟨l,xs,y,rfl,rfl,hH,hy,q⟩:=h
 cases rx
 have Oz:=rv.zero
 subst Oz
 obtain⟨z,its,n,r,hl,e⟩:=I.J6 hH
 obtain⟨u,hu,ru⟩:=r.get hy
 have hy':its.toArray[its.toArray.size - 1]?=some u:=by
  show its.toArray[its.length - 1]?=some u
  rw[<-Tf,<-hl]
  exact hu
 refine R7 F.slot_list_pop ⟨_,e,rfl⟩ F.entry_list_pop (F.args_list_pop_1 _) (MeetsSeq.list_pop_last l its.toArray n u hy' (by rw[P8];omega)) ⟨e,?_⟩
 refine⟨y,_,I.Lw (its':=its.dropLast) hH e ?_ r.dropLast ?_,ru,q⟩
 ·show its.toArray.eraseIdxIfInBounds (its.toArray.size - 1)=its.dropLast.toArray
  rw[P8,Te,og]
 ·rw[List.length_dropLast]
  omega
noncomputable def Ax:V->List V->Hp->VK->Prop:=fun x vs H Q=>∃l xs i k y,x = .ref l/\vs=[.int i]/\H l=some (.lst xs)/\-(2 ^ 63)<=i/\i < 2 ^ 63/\seqIndex? i xs.length=some k/\xs[k]?=some y/\Q y (upd H l (.lst (xs.eraseIdx k)))
def tz:Ex X "list.pop" Ax:=by
 intro pins s σ H x vs v us Q I rx rv h
 obtain⟨l,xs,i,k,y,rfl,rfl,hH,h1,h2,hk,hy,q⟩:=h
 cases rx
 obtain⟨u,rfl,ru⟩:=rv.one
 obtain⟨t,rfl⟩:=ru
 obtain⟨z,its,n,r,hl,e⟩:=I.J6 hH
 obtain⟨w,hw,rw'⟩:=r.get hy
 refine R7 F.slot_list_pop ⟨_,e,rfl⟩ F.entry_list_pop (F.args_list_pop_2 _ _)
  (MeetsSeq.list_pop_at l its.toArray n i t k w (fitsIndex_both h1 h2) (by rw[P8,<-hl];exact hk) (by rw[<-Tf];exact hw) (by rw[P8];omega)) ⟨e,?_⟩
 refine⟨y,_,I.Lw (its':=its.eraseIdx k) hH e ?_ (r.eraseIdx k) ?_,rw',q⟩
 ·show its.toArray.eraseIdxIfInBounds k=(its.eraseIdx k).toArray
  rw[Te]
 ·have:=kB xs k
  omega
def E_:R2:=fun x y H Q=>∃l b xs zs,x = .ref l/\y = .ref b/\H l=some (.lst xs)/\H b=some (.lst zs)/\xs.length+zs.length<=sizeLine/\∀p,H p=none->Q (.ref p) (upd H p (.lst (xs++zs)))
def Ay:eY X (binaryOp .Add) E_:=by
 intro pins s σ H x y v u Q I rx ry h
 obtain⟨l,b,xs,zs,rfl,rfl,hH,hB,hz,q⟩:=h
 cases rx
 cases ry
 obtain⟨z,its,n,r,hl,e⟩:=I.J6 hH
 obtain⟨z2,its2,n2,r2,hl2,e2⟩:=I.J6 hB
 refine PySem.P.add_list e e2 ?_ (by rw[P8,P8];omega)
 have ea:its.toArray++its2.toArray=(its++its2).toArray:=by simp
 rw[ea]
 exact⟨.ref _,_,I.Mc (t':=s.toks) (r.append r2) (by rw[PX];omega),rfl,q _ I.fresh⟩
def Fa:R2:=fun x y H Q=>∃l k xs,x = .ref l/\y = .int k/\H l=some (.lst xs)/\-(2 ^ 63)<=k/\k < 2 ^ 63/\xs.length * k.toNat<=sizeLine/\
 ∀p,H p=none->Q (.ref p) (upd H p (.lst (List.replicate k.toNat xs).flatten))
def w4{α:Type}(xs:List α)(k:Nat):(List.replicate k xs).flatten.length=k * xs.length:=by
 induction k with
 |zero=>simp
 |succ k ih=>rw[Q2,RD,PX,ih,Nat.succ_mul,Nat.add_comm]
def Az:eY X (binaryOp .Mult) Fa:=by
 intro pins s σ H x y v u Q I rx ry h
 obtain⟨l,k,xs,rfl,rfl,hH,h1,h2,hz,q⟩:=h
 cases rx
 obtain⟨t,rfl⟩:=ry
 obtain⟨z,its,n,r,hl,e⟩:=I.J6 hH
 have hlen:its.toArray.size * k.toNat<=sizeLine:=by rw[P8,<-hl];exact hz
 have hcap:¬its.toArray.size * k.toNat > (2 ^ 63 - 1) / 8:=by
  have:(sizeLine:Nat)<=(2 ^ 63 - 1) / 8:=by decide
  omega
 have hfit:¬(!Builtin.List.listFitsIndex k)=true:=by
  rw[fitsIndex_both h1 h2]
  exact Qk
 have Md:¬Builtin.List.listTooLong (its.toArray.size * k.toNat)=true:=by
  rw[tw hlen]
  exact Qk
 have hnew:List.foldl (fun x1 x2=>x1++x2) #[] (List.replicate (if its.toArray.isEmpty=true then 0 else k.toNat) its.toArray)=(List.replicate k.toNat its).flatten.toArray:=by
  have f0:∀m:Nat,List.foldl (fun x1 x2=>x1++x2) #[] (List.replicate m its.toArray)=(List.replicate m its).flatten.toArray:=fun m=>by
   have:=kC its m []
   rw[Q0]at this
   exact this
  rw[f0]
  cases its with
  |nil=>simp
  |cons a r'=>rw[if_neg (by simp)]
 refine wpAny_binaryOp_repeat_ref (T:="list") (U:="int") (by decide) ⟨_,e,rfl⟩ (fun s'=>typeIs_int s' k t) noFill_list_mul F.fills_int_mul F.slot_int_rmul repeat_list F.slot_int_index.lookup
  (R7 F.slot_int_rmul (typeIs_int s k t) F.entry_int_rmul (F.args_int_rmul_2 _ _) (int___rmul___int_list k t l its.toArray n)
   ⟨e,rfl,⟨_,e,rfl⟩,R7 F.slot_list_mul ⟨_,e,rfl⟩ F.entry_list_mul (F.args_list_mul_2 _ _) (AutoListH.list___mul___list_int_3 l its.toArray n k t hfit hcap Md) ⟨e,?_⟩⟩)
 rw[hnew]
 exact⟨.ref _,_,I.Mc (t':=s.toks) (r.rep k.toNat) (by rw[w4,Nat.mul_comm];exact hz),rfl,q _ I.fresh⟩
end
section
variable {κ:Type} [DecidableEq κ]
noncomputable def dZ(kvs:List (κ×V))(k:κ):Option V:=(kvs.find? fun kv=>decide (kv.1=k)).map (·.2)
noncomputable def d0(kvs:List (κ×V))(k:κ)(v:V):List (κ×V):=
 if (kvs.any fun kv=>decide (kv.1=k))=true then kvs.map (fun kv=>if kv.1=k then (kv.1,v) else kv) else kvs++[(k,v)]
def Hv{p:κ×V}{r:List (κ×V)}{k:κ}(e:p.1=k):dZ (p::r) k=some p.2:=by simp[dZ,List.find?_cons,e]
def Hw{p:κ×V}{r:List (κ×V)}{k:κ}(e:¬p.1=k):dZ (p::r) k=dZ r k:=by simp[dZ,List.find?_cons,e]
theorem jf(k:κ):∀kvs:List (κ×V),(kvs.any fun kv=>decide (kv.1=k))=(dZ kvs k).isSome
 |[]=>rfl
 |p::r=>by
  rw[RX]
  by_cases e:p.1=k
  ·simp only[Hv e,Qh e,Bool.true_or,Option.isSome_some]
  ·rw[Hw e,P0 e,Bool.false_or];exact jf k r
def d3(kvs:List (κ×V))(k:κ)(v:V):(d0 kvs k v).length<=kvs.length+1:=by
 unfold d0
 split
 ·rw[PY];omega
 ·rw[PX,Qa,RA];omega
def Ij.Hf{o:Option V}{u:Option Value}(r:Ij o u):o.isSome=u.isSome:=by
 cases o with
 |none=>cases u with
  |none=>rfl
  |some _=>exact(show False from r).elim
 |some _=>cases u with
  |none=>exact(show False from r).elim
  |some _=>rfl
def KV.val{kvs:List (κ×V)}{vs:List (κ×Value)}(r:KV kvs vs)(k:κ):Ij (dZ kvs k) (valueAt vs k):=by
 unfold KV at r
 induction r with
 |nil=>exact True.intro
 |@cons p q ps qs h t ih=>
  obtain⟨h1,h2⟩:=h
  by_cases e:p.1=k
  ·have e':q.1=k:=h1.symm.trans e
   have b:valueAt (q::qs) k=some q.2:=by simp[valueAt,List.find?_cons,e']
   rw[Hv e,b];exact h2
  ·have e':¬q.1=k:=fun z=>e (h1.trans z)
   have b:valueAt (q::qs) k=valueAt qs k:=by simp[valueAt,List.find?_cons,e']
   rw[Hw e,b];exact ih
theorem KV.any{kvs:List (κ×V)}{vs:List (κ×Value)}(r:KV kvs vs)(k:κ):(kvs.any fun kv=>decide (kv.1=k))=vs.any fun kv=>decide (kv.1=k):=by
 unfold KV at r
 induction r with
 |nil=>rfl
 |cons h t ih=>rw[RX,RX,ih,h.1]
def KV.repl{kvs:List (κ×V)}{vs:List (κ×Value)}(r:KV kvs vs)(k:κ){y:V}{u:Value}(ry:RelV y u) :
  KV (kvs.map fun kv=>if kv.1=k then (kv.1,y) else kv) (vs.map fun kv=>if kv.1=k then (kv.1,u) else kv):=by
 unfold KV at r ⊢
 induction r with
 |nil=>exact .nil
 |@cons p q ps qs h t ih=>
  rw[PL,PL]
  refine .cons ?_ ih
  obtain⟨h1,h2⟩:=h
  by_cases e:p.1=k
  ·rw[if_pos e,if_pos (h1.symm.trans e)];exact⟨h1,ry⟩
  ·rw[if_neg e,if_neg (fun z=>e (h1.trans z))];exact⟨h1,h2⟩
def KV.put{kvs:List (κ×V)}{vs:List (κ×Value)}(r:KV kvs vs)(k:κ){y:V}{u:Value}(ry:RelV y u):KV (d0 kvs k y) (stored vs k u):=by
 unfold d0 stored
 rw[r.any k]
 by_cases e:(vs.any fun kv=>decide (kv.1=k))=true
 ·rw[if_pos e,if_pos e];exact r.repl k ry
 ·rw[if_neg e,if_neg e];exact Paired.snoc r ⟨rfl,ry⟩
theorem KV.length{kvs:List (κ×V)}{vs:List (κ×Value)}(r:KV kvs vs):kvs.length=vs.length:=Paired.length r
end
def iw{P:Program}{w:World}{k:aZ}{u:Value}(r:RelV (kV k) u):(aP P w).is k u=true:=by
 cases k with
 |inl i=>obtain⟨t,e⟩:=(show ∃t,u=Value.int i t from r);subst e;exact mI P w i t
 |inr x=>obtain⟨t,e⟩:=(show ∃t,u=Value.str x t from r);subst e;exact mJ P w x t
theorem kD{P:Program}{w:World}:∀{ks:List aZ} {us:Vv},Vals (ks.map kV) us->ItemsAre (aP P w) ks us
 |[],_,r=>by rw[Qm]at r;cases r;exact .nil
 |k::ks,_,r=>by
  rw[PL]at r
  cases r with
  |cons h t=>exact .cons (iw h) (kD t)
noncomputable abbrev KT(H:Hp):List (List aZ×V)->List (List aZ×Addr×Value)->Prop:=Paired fun p q=>p.1=q.1/\H q.2.1=some (.tup (p.1.map kV))/\RelV p.2 q.2.2
def KT.val{H:Hp}{kvs:List (List aZ×V)}{xs:List (List aZ×Addr×Value)}(r:KT H kvs xs)(k:List aZ):Ij (dZ kvs k) ((atKey xs k).map (·.2)):=by
 induction r with
 |nil=>exact True.intro
 |@cons p q ps qs h t ih=>
  obtain⟨h1,_,h2⟩:=h
  by_cases e:p.1=k
  ·have e':q.1=k:=h1.symm.trans e
   have b:atKey (q::qs) k=some q.2:=by simp[atKey,List.find?_cons,e']
   rw[Hv e,b];exact h2
  ·have e':¬q.1=k:=fun z=>e (h1.trans z)
   have b:atKey (q::qs) k=atKey qs k:=by simp[atKey,List.find?_cons,e']
   rw[Hw e,b];exact ih
def KT.repl{H:Hp}{kvs:List (List aZ×V)}{xs:List (List aZ×Addr×Value)}(r:KT H kvs xs)(k:List aZ){y:V}{u:Value}(ry:RelV y u) :
  KT H (kvs.map fun kv=>if kv.1=k then (kv.1,y) else kv) (xs.map (putAt k u)):=by
 induction r with
 |nil=>exact .nil
 |@cons p q ps qs h t ih=>
  rw[PL,PL]
  refine .cons ?_ ih
  obtain⟨h1,h2,h3⟩:=h
  unfold putAt
  by_cases e:p.1=k
  ·rw[if_pos e,if_pos (h1.symm.trans e)];exact⟨h1,h2,ry⟩
  ·rw[if_neg e,if_neg (fun z=>e (h1.trans z))];exact⟨h1,h2,h3⟩
def KT.put{H:Hp}{kvs:List (List aZ×V)}{xs:List (List aZ×Addr×Value)}(r:KT H kvs xs)(k:List aZ){b:Addr}{y:V}{u:Value}(hb:H b=some (.tup (k.map kV)))(ry:RelV y u) :
  KT H (d0 kvs k y) (storedH xs k b u):=by
 have e:(kvs.any fun kv=>decide (kv.1=k))=(atKey xs k).isSome:=by
  rw[jf,(r.val k).Hf,Ud]
 unfold d0 storedH
 rw[e]
 by_cases q:(atKey xs k).isSome=true
 ·rw[if_pos q,if_pos q];exact r.repl k ry
 ·rw[if_neg q,if_neg q];exact Paired.snoc r ⟨rfl,hb,ry⟩
def KT.keeps{H H':Hp}{kvs:List (List aZ×V)}{xs:List (List aZ×Addr×Value)}(r:KT H kvs xs)(ht:∀b ys,H b=some (.tup ys)->H' b=some (.tup ys)):KT H' kvs xs:=
 Paired.Lp r fun _ _ z=>⟨z.1,ht _ _ z.2.1,z.2.2⟩
section
variable {P:Program} {w:World} {H:Hp} {h:Heap} {a:Addr}
def y_{u:HO}(ok:HM P w H h)(e:Rd H a u):GM P w H h a u:=e.ok ok
def kE{kvs:List (aZ×V)}(ok:HM P w H h)(e:Rd H a (.dK kvs)):kvs.length<=sizeLine/\(a == sysModules)=false/\∃vs,KV kvs vs/\h.DictOf (aP P w) a vs:=
 show GM P w H h a (.dK kvs)from y_ ok e
def pH{kvs:List (aZ×V)}(ok:HM P w H h)(e:H a=some (.dK kvs)):kvs.length<=sizeLine/\(a == sysModules)=false/\∃vs,KV kvs vs/\h.DictOf (aP P w) a vs:=kE ok (.inl e)
def dE{ks:List aZ}(ok:HM P w H h)(e:H a=some (.tup (ks.map kV))):(tupleKind (aP P w)).is h ks a:=by
 obtain⟨_,its,r,o,h1,_,h2,n,h3⟩:=(show GM P w H h a (.tup (ks.map kV))from ok a _ e)
 exact⟨o,its.toArray,n,h1,h2,h3,by simpa using kD r⟩
def mQ{kvs:List (List aZ×V)}(ok:HM P w H h)(e:Rd H a (.dT kvs)):kvs.length<=sizeLine/\(a == sysModules)=false/\
  ∃xs,KT H kvs xs/\h.DictOfH (tupleKind (aP P w)) a xs:=by
 obtain⟨z,y,xs,r,o,es,ep,h1,h2,h3,h4,h5⟩:=(show GM P w H h a (.dT kvs)from y_ ok e)
 refine⟨z,y,xs,r,o,es,ep,h1,h2,h3,h4,fun x hx=>?_,h5⟩
 have all:∀{l:List (List aZ×V)} {m:List (List aZ×Addr×Value)},KT H l m->∀x∈m,(tupleKind (aP P w)).is h x.1 x.2.1:=by
  intro l m q
  induction q with
  |nil=>intro x hx;exact nomatch hx
  |@cons p q ps qs hq t ih=>
   intro x hx
   rcases PM.mp hx with e|hx
   ·subst e
    exact dE ok (by rw[<-hq.1];exact hq.2.1)
   ·exact ih x hx
 exact all r x hx
def C3{kvs:List (List aZ×V)}(ok:HM P w H h)(e:H a=some (.dT kvs)):kvs.length<=sizeLine/\(a == sysModules)=false/\
  ∃xs,KT H kvs xs/\h.DictOfH (tupleKind (aP P w)) a xs:=mQ ok (.inl e)
end
def DGet(H:Hp)(a:Addr)(y:V)(r:Option V):Prop:=
 (∃kvs k,Rd H a (.dK kvs)/\y=kV k/\r=dZ kvs k)\/∃kvs k b,Rd H a (.dT kvs)/\y = .ref b/\H b=some (.tup (k.map kV))/\r=dZ kvs k
def Kv(H:Hp)(a:Addr)(y v:V)(H':Hp):Prop:=
 (∃kvs k,H a=some (.dK kvs)/\y=kV k/\kvs.length < sizeLine/\H'=upd H a (.dK (d0 kvs k v))) \/
 ∃kvs k b,H a=some (.dT kvs)/\y = .ref b/\H b=some (.tup (k.map kV))/\kvs.length < sizeLine/\H'=upd H a (.dT (d0 kvs k v))
theorem DGet.k{H:Hp}{a:Addr}{kvs:List (aZ×V)}{k:aZ}(e:H a=some (.dK kvs)):DGet H a (kV k) (dZ kvs k):=.inl ⟨kvs,k,.inl e,rfl,rfl⟩
theorem Kv.k{H:Hp}{a:Addr}{kvs:List (aZ×V)}{k:aZ}{v:V}(e:H a=some (.dK kvs))(hl:kvs.length < sizeLine):Kv H a (kV k) v (upd H a (.dK (d0 kvs k v))):=.inl ⟨kvs,k,e,rfl,hl,rfl⟩
section
variable {X:Cx} {pins:Va} {σ:St} {H:Hp} {s:Shared} {a:Addr} {y v:V} {u r:Value} {o:Option V} {A:Around} {E:Vq}
def Inv.big(I:Inv X pins σ H s):sysModules < s.heap.objs.size:=by
 have h:mainGlobals < s.heap.objs.size:=(I.mod.glob.keeps I.bk).lt
 exact Sf (by decide) h
def q9{Q:Vq}(hu:A.units+1 < cLine)(I:Inv X pins σ H s)(g:DGet H a y (some v))(ry:RelV y u)(h:∀w' s',Inv X pins σ H s'->RelV v w'->Q w' s') :
  wpAny (model X.prog X.w) A (getItem (.ref a) u) Q E s:=by
 rcases g with⟨kvs,k,e,ey,l⟩|⟨kvs,k,b,e,ey,eb,l⟩
 ·subst ey
  obtain⟨z,hd,vs,rel,dd⟩:=kE I.hok e
  obtain⟨w',hw,rw'⟩:=Ij.some_of (v:=v) (o:=valueAt vs k) (by rw[l];exact rel.val k)
  exact wpAny_getItem_of (iw ry) dd.mapOf hw (h w' _ (I.tok _) rw')
 ·subst ey
  cases (show u=Value.ref b from ry)
  obtain⟨z,hd,xs,rel,dd⟩:=mQ I.hok e
  obtain⟨w',hw,rw'⟩:=Ij.some_of (v:=v) (o:=(atKey xs k).map (·.2)) (by rw[l];exact rel.val k)
  obtain⟨p,hp,hp2⟩:=Qz.mp hw
  refine wpAny_getItem_heap (Sy hu) (dE I.hok eb) dd hp ?_
  rw[hp2]
  exact h w' _ (I.tok _) rw'
def C4{Q:Vq}(hu:A.units+1 < cLine)(I:Inv X pins σ H s)(g:DGet H a y o)(ry:RelV y u)(h:∀s',Inv X pins σ H s'->Q (.bool o.isSome) s') :
  wpAny (model X.prog X.w) A (compareOp .In u (.ref a)) Q E s:=by
 rcases g with⟨kvs,k,e,ey,l⟩|⟨kvs,k,b,e,ey,eb,l⟩
 ·subst ey
  obtain⟨z,hd,vs,rel,dd⟩:=kE I.hok e
  refine wpAny_in_of (iw ry) hd dd.mapOf ?_
  rw[<-(rel.val k).Hf,<-l]
  exact h _ (I.tok _)
 ·subst ey
  cases (show u=Value.ref b from ry)
  obtain⟨z,hd,xs,rel,dd⟩:=mQ I.hok e
  refine wpAny_in_heap (Sy hu) (dE I.hok eb) hd dd ?_
  have q:=(rel.val k).Hf
  rw[Ud]at q
  rw[<-q,<-l]
  exact h _ (I.tok _)
def pI{Q:Vq}(hu:A.units+1 < cLine)(I:Inv X pins σ H s)(g:DGet H a y o)(ry:RelV y u)(h:∀s',Inv X pins σ H s'->Q (.bool (!o.isSome)) s') :
  wpAny (model X.prog X.w) A (compareOp .NotIn u (.ref a)) Q E s:=by
 rcases g with⟨kvs,k,e,ey,l⟩|⟨kvs,k,b,e,ey,eb,l⟩
 ·subst ey
  obtain⟨z,hd,vs,rel,dd⟩:=kE I.hok e
  refine wpAny_notIn_of (iw ry) hd dd.mapOf ?_
  rw[<-(rel.val k).Hf,<-l]
  exact h _ (I.tok _)
 ·subst ey
  cases (show u=Value.ref b from ry)
  obtain⟨z,hd,xs,rel,dd⟩:=mQ I.hok e
  refine wpAny_notIn_heap (Sy hu) (dE I.hok eb) hd dd ?_
  have q:=(rel.val k).Hf
  rw[Ud]at q
  rw[<-q,<-l]
  exact h _ (I.tok _)
def lm{h':Heap}{t':Nat}{ob:HO}(I:Inv X pins σ H s)(mu:CA (H a))(hs:Heap.SameBut a s.heap h')(he:∃q,h'.get? a=some q)(new:GM X.prog X.w (upd H a ob) h' a ob)(ht:1<=t':=by walk_at "t") :
  Inv X pins σ (upd H a ob) { s with heap:=h',toks:=t' }:=
 I.write (x:=a) (e:=a) mu (.inl rfl) (fun b q hb z=>(hs.2 b hb).trans z) he new
def tD{P:Program}{w:World}{H':Hp}{h':Heap}{kvs:List (aZ×V)}{vs:List (aZ×Value)}(z:kvs.length<=sizeLine)(hd:(a == sysModules)=false)(rel:KV kvs vs)(dd:h'.DictOf (aP P w) a vs) :
  GM P w H' h' a (.dK kvs):=⟨z,hd,vs,rel,dd⟩
def q_{H':Hp}{Q:Unit->Shared->Prop}(hu:A.units+1 < cLine)(I:Inv X pins σ H s)(g:Kv H a y v H')(ry:RelV y u)(rv:RelV v r)(h:∀s',Inv X pins σ H' s'->Q () s') :
  wpAny (model X.prog X.w) A (setItem (.ref a) u r) Q E s:=by
 rcases g with⟨kvs,k,e,ey,l,eH⟩|⟨kvs,k,b,e,ey,eb,l,eH⟩
 ·subst ey eH
  obtain⟨z,hd,vs,rel,dd⟩:=pH I.hok e
  have hz:vs.length<=sizeLine:=by rw[<-rel.length];exact z
  have hl:(d0 kvs k v).length<=sizeLine:=by have:=d3 kvs k v;omega
  refine wpAny_setItem_pairs (hsz:=hz) (iw ry) dd fun h' Lx hs=>h _ ?_
  have he:∃q,h'.get? a=some q:=let ⟨q,_,_,hq,_⟩:=Lx;⟨q,hq⟩
  exact lm I (by rw[e];exact True.intro) hs he (tD hl hd (rel.put k rv) Lx)
 ·subst ey eH
  cases (show u=Value.ref b from ry)
  obtain⟨z,hd,xs,rel,dd⟩:=C3 I.hok e
  have hz:xs.length<=sizeLine:=by rw[<-Paired.length rel];exact z
  have hl:(d0 kvs k v).length<=sizeLine:=by have:=d3 kvs k v;omega
  refine wpAny_setItem_heap (hsz:=hz) (Sy hu) (dE I.hok eb) dd fun h' Lx hs=>h _ ?_
  obtain⟨q,es,ep,hq,h2,h3,h4,_,h5⟩:=Lx
  refine lm I (by rw[e];exact True.intro) hs ⟨q,hq⟩ ⟨hl,hd,_,(rel.put k eb rv).keeps fun c ys ec=>?_,q,es,ep,hq,h2,h3,h4,h5⟩
  rw[aq (Cz ec e (fun z=>nomatch z))]
  exact ec
end
section
variable {X:Cx} {pins:Va} {σ:St} {H:Hp} {s:Shared} {a:Addr} {kvs:List (aZ×V)} {k:aZ} {u:Value} {A:Around} {E:Vq}
def C5{Q:Vq}(I:Inv X pins σ H s)(e:Rd H a (.dK kvs))(h:∀t s',Inv X pins σ H s'->Q (.int kvs.length t) s'):wpAny (model X.prog X.w) A (call (.builtin "len") [.ref a]) Q E s:=by
 obtain⟨z,hd,vs,rel,dd⟩:=kE I.hok e
 refine call_len_dict hd dd (by rw[<-rel.length];rw[sizeLine_eq]at z;omega) ?_
 rw[<-rel.length]
 exact h _ _ (I.tok _)
end
def mR{X:Cx}{pins:Va}{σ:St}{H:Hp}{s:Shared}{a:Addr}{y:V}{o:Option V}(I:Inv X pins σ H s)(g:DGet H a y o):s.TypeIs (.ref a) "dict":=by
 rcases g with⟨kvs,k,e,_,_⟩|⟨kvs,k,b,e,_,_,_⟩
 ·obtain⟨_,_,vs,_,dd⟩:=kE I.hok e
  exact dd.typeIs
 ·obtain⟨_,_,xs,_,dd⟩:=mQ I.hok e
  exact dd.typeIs
def tE{P:Program}{w:World}{H:Hp}(h:Heap)(hb:sysModules < h.objs.size):GM P w H (h.push { cls:=.type "dict",data:=.dict #[] }) h.objs.size (.dK []):=
 ⟨Qc _,TY.mpr (QK (Qo hb)),[],.nil,Heap.DictOf.new h⟩
noncomputable def lp:List (TE×TE)->St->Hp->(List (V×V)->Hp->Prop)->Prop
 |[],_,H,Q=>Q [] H
 |(tk,tv)::r,σ,H,Q=>tk σ H fun x H1=>tv σ H1 fun y H2=>lp r σ H2 fun ps H3=>Q ((x,y)::ps) H3
noncomputable abbrev VV:List (V×V)->List (Value×Value)->Prop:=Paired fun p q=>RelV p.1 q.1/\RelV p.2 q.2
def C6(X:Cx)(pos:Pos)(keys:List (Option Expr))(values:List Expr)(IM:List (TE×TE)):Prop:=
 ∀(pins:Va) (s:Shared) (σ:St) (H:Hp) (Q:List (V×V)->Hp->Prop),Inv X pins σ H s->lp IM σ H Q->
  wpAny (model X.prog X.w) X.A (evalPairs (pairTrees keys values X.env pos)) (fun vs s'=>∃ps H',Inv X pins σ H' s'/\VV ps vs/\Q ps H') X.xe s
def w5{X:Cx}{pos:Pos}:C6 X pos [] [] []:=fun pins s σ H Q I h=>pairTrees_nil_walk ⟨[],H,I,.nil,h⟩
def tF{X:Cx}{pos:Pos}{k v:Expr}{ks:List (Option Expr)}{vs:List Expr}{tk tv:TE}{IM:List (TE×TE)}(hk:PE X k tk)(hv:PE X v tv)(hr:C6 X pos ks vs IM) :
  C6 X pos (some k::ks) (v::vs) ((tk,tv)::IM):=fun pins s σ H Q I h=>
 pairTrees_cons_walk (GG (hk pins s σ H _ I h) fun u s1 ⟨x,H1,I1,rx,q1⟩=>GG (hv pins s1 σ H1 _ I1 q1) fun w2 s2 ⟨y,H2,I2,ry,q2⟩=>
  GG (hr pins s2 σ H2 _ I2 q2) fun ws s3 ⟨ps,H3,I3,rel,q3⟩=>⟨(x,y)::ps,H3,I3,.cons ⟨rx,ry⟩ rel,q3⟩)
noncomputable def dF(kvs more:List (aZ×V)):List (aZ×V):=more.foldl (fun acc kv=>d0 acc kv.1 kv.2) kvs
def KV.merge:∀{more:List (aZ×V)} {rs:List (aZ×Value)} {kvs:List (aZ×V)} {vs:List (aZ×Value)},KV more rs->KV kvs vs->KV (dF kvs more) (merged vs rs):=by
 intro more rs kvs vs r
 unfold KV at r
 induction r generalizing kvs vs with
 |nil=>intro q;exact q
 |@cons p q ps qs h t ih=>
  intro r0
  have e:KV (d0 kvs p.1 p.2) (stored vs q.1 q.2):=by
   have:=r0.put p.1 h.2
   rw[<-h.1];exact this
  exact ih e
theorem cV:∀(more kvs:List (aZ×V)),(dF kvs more).length<=kvs.length+more.length
 |[],kvs=>by show kvs.length<=kvs.length+0;omega
 |p::r,kvs=>by
  have h1:=cV r (d0 kvs p.1 p.2)
  have h2:=d3 kvs p.1 p.2
  show(dF (d0 kvs p.1 p.2) r).length<=_
  rw[Qa];omega
theorem jg{P:Program}{w:World}:∀{kvs:List (aZ×V)} {ws:List (Value×Value)},VV (kvs.map fun kv=>(kV kv.1,kv.2)) ws->∃rs,Carries (aP P w) ws rs/\KV kvs rs
 |[],_,r=>by rw[Qm]at r;cases r;exact⟨[],True.intro,.nil⟩
 |p::kvs,_,r=>by
  rw[PL]at r
  cases r with
  |@cons a b as bs h t=>
   obtain⟨rs,c,q⟩:=jg (P:=P) (w:=w) t
   obtain⟨b1,b2⟩:=b
   exact⟨(p.1,b2)::rs,⟨iw h.1,rfl,c⟩,.cons ⟨rfl,h.2⟩ q⟩
def C7(IM:List (TE×TE)):TE:=fun σ H Q=>∀p,H p=none->lp IM σ (upd H p (.dK [])) fun ps H2=>H2 p=some (.dK [])/\∃kvs:List (aZ×V),ps=kvs.map (fun kv=>(kV kv.1,kv.2))/\kvs.length<=15/\Q (.ref p) (upd H2 p (.dK (dF [] kvs)))
def w9{X:Cx}{pos:Pos}{keys:List (Option Expr)}{values:List Expr}{IM:List (TE×TE)}(h:C6 X pos keys values IM)(hall:keys.all (·.isSome)=true)(hl:keys.length=values.length)(h0:keys≠[])
  (Nf:keys.length<=15):PE X (.Dict keys values pos) (C7 IM):=by
 intro pins s σ H Q I q
 have hn:=I.hok.fresh (PN s.heap.objs.size)
 have I1:=I.laid (a:=s.heap.objs.size) (o:=.dK []) (h':=s.heap.push { cls:=.type "dict",data:=.dict #[] }) (t':=s.toks) (fun _ _ q=>PK _ q) (PN _) (tE s.heap I.big)
 refine wpAny_Dict_walk (knd:=aP X.prog X.w) hall hl h0 Nf (GG (h pins _ σ _ _ I1 (q _ hn)) fun ws s2 ⟨ps,H2,I2,rel,e,kvs,ep,lk,q2⟩=>?_)
 subst ep
 obtain⟨rs,c,rk⟩:=jg (P:=X.prog) (w:=X.w) rel
 obtain⟨z,hd,vs0,r0,dd⟩:=pH I2.hok e
 cases r0
 refine⟨rs,c,dd,fun h' Lx hs=>⟨.ref s.heap.objs.size,_,?_,rfl,q2⟩⟩
 have hz:(dF [] kvs).length<=sizeLine:=by
  have h1:=cV kvs []
  rw[RA]at h1
  rw[sizeLine_eq];omega
 have he:∃q,h'.get? s.heap.objs.size=some q:=let ⟨q,_,_,hq,_⟩:=Lx;⟨q,hq⟩
 exact lm I2 (by rw[e];exact True.intro) hs he (tD hz hd (rk.merge .nil) Lx)
end L2
namespace Att
open PySem PySem.W PySem.Calls PyProof.Rows
def iM{P:Params}{h:Heap}:∀(ns:Vu) (vs:Vv),WellAll P h vs (ns.map WData.int)->IntsAre vs ns:=by
 intro ns
 induction ns with
 |nil=>
  intro vs w
  rw[Qm]at w
  cases w
  exact .nil
 |cons n ns ih=>
  intro vs w
  rw[PL]at w
  cases w with
  |cons a b=>
   cases a
   exact .cons _ _ (ih _ b)
def rc{l:OpenLaw}{n:Nat}(hn:l.most=some n){P:Params}{h:Heap}{args:List WData}{vals:Vv}
  (hpre:l.row.toRowW.claim.pre args=true) (hwl:WellAll P h vals args) :
  ∃a vs ns,vals=[Value.ref a]/\args=[WData.list (ns.map WData.int)]/\h.get? a=some { cls:=.type "list",data:=.seq vs.toArray }/\IntsAre vs ns/\ns.length<=n:=by
 have hsh:WShape.hasAll [] args [.list .int]=true:=(pre_splitW hpre).1
 have hc:l.pre.holds [] { args:=args }=true:=(pre_splitW hpre).2
 obtain⟨d,r,rfl,h1,h2⟩:=hasAllW_cons hsh
 obtain rfl:=hasAllW_nil h2
 obtain⟨xs,rfl,h3⟩:=hasW_list h1
 obtain⟨ns,rfl⟩:=items_int h3
 have hlen:ns.length<=n:=by
  unfold OpenLaw.pre at hc
  have h4:(WTm.not (.lt (.lit (.int (n:Int))) (.len (.arg 0)))).holds [] { args:=[.list (ns.map .int)] }=true:=by
   have h4:=(holds_andW hc).1
   rw[hn]at h4
   exact h4
  have h5:=condW_of h4 (w_not (w_lt w_lit (w_len_list (w_arg rfl))))
  rw[PY]at h5
  refine Nat.le_of_not_lt fun q=>?_
  have q':(n:Int) < ((ns.length:Nat):Int):=by omega
  first
   |(rw[Qh q']at h5;exact absurd h5 (by decide))
   |(simp at h5;omega)
 cases hwl with
 |cons w1 w2=>
  cases w2
  cases w1 with
  |list ho hall=>exact⟨_,_,ns,rfl,rfl,ho,iM ns _ hall,hlen⟩
def rd(l:OpenLaw)(args:List WData):l.row.toRowW.claim.post args (.bool true) args=true:=
 postW_of (r:=l.row.toRowW) (X:=(true == true))
  (show WShape.has [] (.bool true) .bool=true by first|rfl|decide|simp[WShape.has,WShape.arms,WShape.armsAll])
  (show(WTm.eq .res (.lit (.bool true))).value [] { args:=args,res:=some (.bool true),after:=args }=some (.bool (true == true))from w_eq_bool (w_res rfl) w_lit) rfl
def mS{l:OpenLaw}{n:Nat}{q:Program}{loose:Vs}{XP:(Vr)->Heap->Prop}{YP:World->Heap->Prop}{d:DefRec}
  (hn:l.most=some n) (hdf:d.params.defaults=[])
  (call:∀(w:World) (s₀ s₁:Shared) (mg mb:Vr) (fa:Addr) (o:Obj) (pm cd doc:Value) (a:Addr) (vs:Vv) (ns:Vu),
   Ground q loose [] XP w s₀ mg mb s₁.heap->YP w s₁.heap->
   s₁.heap.get? fa=some o->o.data = .func (docDef d.name d.params d.body d.scope pm cd doc)->s₁.heap.CodeRec cd d.name->mg d.name=some (.ref fa)->
   s₁.heap.get? a=some { cls:=.type "list",data:=.seq vs.toArray }->IntsAre vs ns->ns.length<=n->s₁.gens=#[]->
   codeAny (model l.prog w) callerA (.call (.ref fa) ⟨[.ref a],[]⟩) (fun r s'=>r = .ok (.ret (.bool true))/\OldK s₁.heap s'.heap/\s'.os=s₁.os/\AllBare s'.gens) s₁) :
  WalkO q loose XP YP l.row.toRowW d [] (fun f vs=>PySem.call f vs):=by
 intro w s₀ s₁ mg mb G Y fa o pm cd doc dV kV ho hd hcd hD hmg hg args vals as hpre hlay hrd hwl hlo
 obtain rfl:dV = .none:=Dflts.none hD hdf
 obtain rfl:kV = .none:=Dflts.noKw hD
 obtain⟨a,vs,ns,rfl,rfl,hobj,hints,hlen⟩:=rc hn hpre hwl
 refine enter_call (RP (call w s₀ s₁ mg mb fa o pm cd doc a vs ns G Y ho (fd_plain hd) hcd hmg hobj hints hlen hg) fun r s' hq=>?_)
 obtain⟨rfl,h2,h3,h4⟩:=hq
 exact⟨.inl ⟨.bool true,.bool true,[],rfl,fun _=>rfl,.bool true,rd l _,fun _=>⟨List.Pairwise.nil,fun _ hm=>(nomatch hm)⟩⟩,h2,h3,h4⟩
end Att
namespace L2
open PySem PySem.Spec PyProof.Rows
theorem kF:∀{vs:Vv} {ns:Vu},IntsAre vs ns->Vals (ns.map V.int) vs
 |_,_,.nil=>.nil
 |_,_,.cons n t h=>.cons ⟨t,rfl⟩ (kF h)
def w_(H:Hp):Prop:=∀b,H b=none\/∃o xs,H b=some (.frz o (.lst xs))
def tG{P:Program}{w:World}{K:Vo}{mg mb:Vr}{CX:nN}{k:Nat}{fa a:Addr}{fd:FuncData}{x:Str}{sp:Sp}{s₁:Shared}{vs:Vv}{ns:Vu}
  (KX:K.In s₁.heap) (hns:s₁.heap.Ns mainGlobals mg) (hb:s₁.heap.Ns builtinsNs mb) (OA:∀x:Str,x ≠ "__name__"->mb x=bootBuiltins x) (hlim:s₁.heap.NoLimit) (hg:s₁.gens=#[])
  (ha:s₁.heap.get? a=some { cls:=.type "list",data:=.seq vs.toArray }) (hi:IntsAre vs ns) (hl:ns.length<=sizeLine) (hr:Room k callerA)
  (F:∀base:Heap,K.In base->base.Ns mainGlobals mg->dY P w K mg base CX k fa fd [x] sp) (hbind:∀(s:Shared) (u:Value),BindsTo s fd ⟨[u],[]⟩ [(x,u)]) (hfl:FL fd [x])
  (Ku:∀H:Hp,w_ H->SqL K H a (ns.map V.int)->sp [.ref a] H (fun v _=>v = .bl true) fun _ _ _=>False)
  (Ng:∀H e s',CX [] H s₁ (fun _ _ _=>False) e s'->False) :
  codeAny (model P w) callerA (.call (.ref fa) ⟨[.ref a],[]⟩) (fun r s'=>r = .ok (.ret (.bool true))/\OldK s₁.heap s'.heap/\s'.os=s₁.os/\AllBare s'.gens) s₁:=by
 have rv:=kF hi
 have Nh:=hi.length
 -- from an abstract heap in which nothing but the script may be tracked
 have core:∀H:Hp,w_ H->SqL K H a (ns.map V.int)->HM P w H s₁.heap->(∀b,H b≠none->b=a)->(H a≠none->K.lookup a=none)->
   codeAny (model P w) callerA (.call (.ref fa) ⟨[.ref a],[]⟩) (fun r s'=>r = .ok (.ret (.bool true))/\OldK s₁.heap s'.heap/\s'.os=s₁.os/\AllBare s'.gens) s₁:=by
  intro H hO hS hok hA hK
  have JR:∀{b:Addr} {o:Obj},s₁.heap.get? b=some o->H b=none->(k9 s₁.heap H).get? b=some o:=fun e n=>sM e n
  have K0:∀{b:Addr} {o:Obj} {es:Array DictEntry} {ep:Nat},s₁.heap.get? b=some o->o.data = .dict es ep->H b=none:=fun{b o es ep} e d=>by
   cases q:H b with
   |none=>rfl
   |some u=>
    have e':b=a:=hA b (by rw[q];simp)
    subst e'
    rw[ha]at e;cases e
    have d':Data.seq vs.toArray _=Data.dict es ep:=d
    cases d'
  have MN:∀{b:Addr} {m:Vr},s₁.heap.Ns b m->(k9 s₁.heap H).Ns b m:=fun{b m} ⟨o,es,ep,e,d,r⟩=>⟨o,es,ep,JR e (K0 e d),d,r⟩
  have N0:K.In (k9 s₁.heap H):=fun b o e=>JR (KX b o e) (by
   cases q:H b with
   |none=>rfl
   |some u=>
    have e':b=a:=hA b (by rw[q];simp)
    subst e'
    rw[hK (by rw[q];simp)]at e;cases e)
  have hM:Mod K mg (k9 s₁.heap H):=⟨N0,MN hns,⟨mb,MN hb,OA⟩,let ⟨mc,h1,h2⟩:=hlim;⟨mc,MN h1,h2⟩⟩
  have e0:Jg P w K mg (k9 s₁.heap H) callerA [] s₁ H:=⟨rfl,hM,fun b o e=>wE e,Nat.le_of_eq (qO _ _),trivial,fun b hb=>absurd (show b∈([]:List Addr)from hb) (by simp),hok,.of_eq hg⟩
  refine RP ((F _ N0 (MN hns)).run callerA [] s₁ H ⟨[.ref a],[]⟩ [.ref a] [.ref a] _ _ hr (.inr hfl) e0 (hbind s₁ (.ref a)) (.cons rfl .nil) (Ku H hO hS)) fun r s' h=>?_
  cases r with
  |error e=>exact(Ng H e s' h).elim
  |ok fl=>
   cases fl with
   |next=>exact False.elim h
   |brk=>exact False.elim h
   |cont=>exact False.elim h
   |ret u=>
    obtain⟨v,H',os,bare,un,Ni,r',q⟩:=h
    have q':v = .bl true:=q
    subst q'
    obtain rfl:u=Value.bool true:=r'
    refine⟨rfl,OldK.of_keep fun b o e=>?_,os,bare⟩
    cases q:H b with
    |none=>exact un.keep b o e q (by intro z;exact absurd (show b∈([]:List Addr)from z) (by simp)) (by simp)
    |some u=>
     rcases hO b with z|⟨ob,xs,z⟩
     ·rw[q]at z;cases z
     ·have z2:=un.IW b ob _ z
      obtain⟨e1,_⟩:=hok b _ z
      obtain⟨e2,_⟩:=Ni b _ z2
      rw[e]at e1;cases e1
      exact e2
 cases hk:K.lookup a with
 |some o=>
  -- the script is one of the module's own objects
  have e:=KX a o hk
  rw[ha]at e
  cases e
  refine core (fun _=>none) (fun _=>.inl rfl) (.inr ⟨_,vs.toArray,_,hk,rfl,rfl,rfl,by rw[P8,Nh];exact hl,by simpa using rv⟩) (fun b u z=>by have z':(none:Option HO)=some u:=z;cases z') (fun b z=>absurd rfl z) fun z=>absurd rfl z
 |none=>
  refine core (fun b=>if b=a then some (.frz { cls:=.type "list",data:=.seq vs.toArray } (.lst (ns.map V.int))) else none) (fun b=>?_) (.inl (.inr ⟨{ cls:=.type "list",data:=.seq vs.toArray },if_pos rfl⟩)) (fun b u z=>?_) (fun b z=>?_) fun _=>hk
  ·by_cases hb:b=a
   ·exact .inr ⟨_,_,if_pos hb⟩
   ·exact .inl (if_neg hb)
  ·by_cases hb:b=a
   ·have z':=(if_pos hb).symm.trans z
    cases z'
    subst hb
    exact⟨ha,by rw[PY];exact hl,vs,_,rv,ha⟩
   ·have z':=(if_neg hb).symm.trans z
    cases z'
  ·by_cases hb:b=a
   ·exact hb
   ·exact absurd (if_neg hb) z
def xb{l:PySem.W.OpenLaw}{n k:Nat}{q:Program}{loose:Vs}{XP:(Vr)->Heap->Prop}{YP:World->Heap->Prop}{d:DefRec}{K:Params->PySem.W.Frag}{CX:World->nN}{sp:World->Sp}{x:Str}
  (hn:l.most=some n) (hn2:n<=sizeLine) (hdf:d.params.defaults=[]) (hr:Room k callerA)
  (hY:∀(w:World) (h:Heap),YP w h->(K w.params).In h)
  (F:∀(w:World) (mg:Vr) (fa:Addr) (h:Heap),(K w.params).In h->h.Ns mainGlobals mg->mg d.name=some (.ref fa)->
   ∃fd:FuncData,FL fd [x]/\(∀(s:Shared) (u:Value),BindsTo s fd ⟨[u],[]⟩ [(x,u)])/\
    ∀base:Heap,(K w.params).In base->base.Ns mainGlobals mg->dY l.prog w (K w.params) mg base (CX w) k fa fd [x] (sp w))
  (Ku:∀(w:World) (H:Hp) (a:Addr) (ns:Vu),ns.length<=n->w_ H->SqL (K w.params) H a (ns.map V.int)->sp w [.ref a] H (fun v _=>v = .bl true) fun _ _ _=>False)
  (Ng:∀(w:World) (H:Hp) (s:Shared) (e:Value) (s':Shared),CX w [] H s (fun _ _ _=>False) e s'->False) :
  PySem.W.WalkO q loose XP YP l.row.toRowW d [] (fun f vs=>PySem.call f vs):=by
 refine Att.mS hn hdf fun w s₀ s₁ mg mb fa o pm cd doc a vs ns G Y ho hd hcd hmg hobj hints hlen hg=>?_
 have KX:=hY w _ Y
 obtain⟨fd,hfl,hb,hF⟩:=F w mg fa _ KX G.T.g hmg
 exact tG KX G.T.g G.T.b G.T.builtins G.T.nolimit hg hobj hints (PZ hlen hn2) hr hF hb hfl (fun H hO hS=>Ku w H a ns hlen hO hS) fun H e s'=>Ng w H s₁ e s'
noncomputable def cx(s:Stmt):Arguments:=match s with
 | .FunctionDef _ a _ _ _ _ _ _ _ _=>a
 |_=>{ posonlyargs:=[],args:=[],vararg:=none,kwonlyargs:=[],kw_defaults:=[],kwarg:=none,defaults:=[] }
noncomputable def aT(s:Stmt):List Stmt:=match s with
 | .FunctionDef _ _ b _ _ _ _ _ _ _=>b
 |_=>[]
noncomputable def ax(s:Stmt):Scope:=match s with
 | .FunctionDef _ _ _ _ _ _ sc _ _ _=>sc
 |_=>{ kind:=.function,names:=[],isGenerator:=false,isCoroutine:=false }
noncomputable abbrev nO:nN:=fun _ _ _ _ _ _=>False
noncomputable abbrev E0:XK:=fun _ _ _=>False
def tH{X:Cx}:gS nO X E0:=fun _ _ _ _ _ _ _ _ h=>h.elim
structure Kp (K:Vo) (x qual:Str) (st:Stmt) (f:Addr) (fd:FuncData):Prop where
 ex:∃(oc:Value) (od:Option Addr) (kV doc pm:Value) (an:Option Addr) (cdv ct:Value) (osl:Array (Option Value)),
  fd=PySem.W.fnOf x qual (cx st) (aT st) (ax st) .none kV doc pm an cdv ct/\K.lookup f=some ⟨oc,od,.func fd,osl⟩/\PySem.W.codeIn K cdv qual=true
 kp:PySem.W.keepIn K (.ref f)=true
section
variable {P:Program} {w:World} {K:Vo} {mg:Vr} {base:Heap}
def Kp.ok{x qual:Str}{st:Stmt}{f:Addr}{fd:FuncData}{N ps:Vs}{k:Nat}{sp:Sp}(F:Kp K x qual st f fd)(S:bv N ps (ax st))(len:∀vs H Q E,sp vs H Q E->vs.length=ps.length)
  (hbody:∀(cdv:Value) (A:Around) (outer:List Env) (s:Shared) (H:Hp) (vs:List V) (Q:VK) (E:XK),Room k (A.deeper (envOfC qual (ax st) s.heap.objs.size f cdv))->sp vs H Q E->
   ∃t,IZ (fj nO P w K mg base N qual (ax st) f cdv A outer s H E).Ls (aT st) t/\t { nx:=fun _ H'=>Q .non H',rt:=Q } (bW N vs) H):dY P w K mg base nO (k+1) f fd ps sp:=by
 obtain⟨oc,od,kV,doc,pm,an,cdv,ct,osl,rfl,lk,hcd⟩:=F.ex
 refine y8 lk hcd S len fun A outer s H vs Q E hr Ku=>?_
 obtain⟨t,h,q⟩:=hbody cdv A outer s H vs Q E hr Ku
 exact⟨t,h.Ls,q⟩
def Kp.binds{x qual:Str}{st:Stmt}{f:Addr}{fd:FuncData}{ps:Vs}(F:Kp K x qual st f fd)
  (h:∀(kV doc pm:Value) (an:Option Addr) (cdv ct:Value) (us:Vv),us.length=ps.length->bindArgs (PySem.W.fnOf x qual (cx st) (aT st) (ax st) .none kV doc pm an cdv ct) ⟨us,[]⟩=pure (ps.zip us)):Binds K fd ps []:=by
 obtain⟨oc,od,kV,doc,pm,an,cdv,ct,osl,rfl,lk,hcd⟩:=F.ex
 exact .all (h kV doc pm an cdv ct)
def lq{x qual:Str}{st:Stmt}{f:Addr}{oc:Value}{od an:Option Addr}{osl:Array (Option Value)}{kV doc pm cdv ct:Value}(l:K.lookup f=some ⟨oc,od,.func (PySem.W.fnOf x qual (cx st) (aT st) (ax st) .none kV doc pm an cdv ct),osl⟩)
  (c:PySem.W.codeIn K cdv qual=true) (k:PySem.W.keepIn K (.ref f)=true):Kp K x qual st f (PySem.W.fnOf x qual (cx st) (aT st) (ax st) .none kV doc pm an cdv ct):=⟨⟨oc,od,kV,doc,pm,an,cdv,ct,osl,rfl,l,c⟩,k⟩
end
def dr{n:Nat}(h:n<=1000):n < sizeLine:=Sz h (by decide)
section
variable {X:Cx}
def pv(i:Nat){x:Str}{pos:Pos}(hN:X.N[i]?=some x:=by rfl)(hv:CC X.env.scope x:=by first|exact Or.inl rfl|exact Or.inr (Or.inl rfl)|exact Or.inr (Or.inr rfl))(hd:(x == ("__debug__":Str))=false:=by decide)
  (hcd:(x == ("__classdict__":Str))=false:=by decide):PE X (.Name x pos) (qP i):=sN hN hv hd hcd
def re:dl X (.builtin "len") (fun xs H Q=>∃a kvs,xs=[V.ref a]/\H a=some (.dK kvs)/\Q (.int kvs.length) H):=by
 intro pins s σ H xs us Q I r h
 obtain⟨a,kvs,rfl,ha,q⟩:=h
 obtain⟨u,rfl,ru⟩:=dm r
 cases ru
 exact C5 I (.inl ha) fun t s' I'=>⟨.int kvs.length,H,I',⟨t,rfl⟩,q⟩
end
end L2
set_option maxHeartbeats 4000000
namespace L2
open PySem PySem.Spec PyProof.Rows
def lr{prog:Program}{w:World}{A:Around}{R:Result->Shared->Prop}{s:Shared}{elt target iter:Expr}{ifs:List Expr}{scope:Scope}{pos:Pos}{it acc:Value}{env:Env}(I:Nat->Shared->Prop)
  (turn:∀n s,I n s->wpAny (model prog w) A (pyNext it) (fun r s₁=>match r with
   |none=>R (.ok .next) s₁
   |some v=>wpAny (model prog w) A (letOwnedTupleGo target it v) (fun _ s₁'=>wpAny (model prog w) A (assign target env v) (fun _ s₂=>
     wpAny (model prog w) A (forIn ifs true fun c r=>if r=true then do let ok <-isTrue c env (eval c env);pure (ForInStep.yield ok) else pure (ForInStep.yield r)) (fun ok s₃=>
      if ok=true then wpAny (model prog w) A (eval elt env) (fun x s₄=>
       wpAny (model prog w) A (call (.builtin "list.append") [acc,x]) (fun _ s₅=>∃m,m < n/\I m s₅) (fun _ _=>False) s₄) (fun _ _=>False) s₃
      else ∃m,m < n/\I m s₃) (fun _ _=>False) s₂) (fun _ _=>False) s₁') (fun _ _=>False) s₁) (fun _ _=>False) s)
  (n:Nat) (h:I n s) :
  codeAny (model prog w) A (.compLoop (.ListComp elt [⟨target,iter,ifs,0⟩] scope pos) 0 it acc env) R s:=by
 refine codeAny_loop rfl I (fun n s hI=>?_) n h
 show wpAny _ A ((compTurn (.ListComp elt [⟨target,iter,ifs,0⟩] scope pos) 0 it acc env).onRaise (fun x=>do noteFrame x env;theTreesLotGoes x)) _ _ s
 refine wpAny_noted ?_
 rw[compTurn_list]
 refine PJ (Sl (PJ (Rg (turn n s hI) (fun r s₁ h₁=>?_) fun _ _ h'=>h'.elim)))
 cases r with
 |none=>exact PU h₁
 |some v=>
  refine PJ (Rg h₁ (fun _ s₁' h₁'=>?_) fun _ _ h'=>h'.elim)
  refine PJ (Rg h₁' (fun _ s₂ h₂=>PJ (Rg h₂ (fun ok s₃ h₃=>?_) fun _ _ h'=>h'.elim)) fun _ _ h'=>h'.elim)
  cases ok with
  |false=>exact PU ⟨rfl,h₃⟩
  |true=>
   exact PJ (PJ (Rg h₃ (fun x s₄ h₄=>PJ (Rg h₄ (fun _ s₅ h₅=>PU (PU ⟨rfl,h₅⟩)) fun _ _ h'=>h'.elim)) fun _ _ h'=>h'.elim))
structure Bk where
 C:Addr
 s:Shared
 H:Hp
 fp:List Addr
 pn:Va
noncomputable def bX(env:Env)(fs:Vs):List (Str×Addr):=fs.map fun x=>(x,(env.cells.lookup x).getD 0)
noncomputable abbrev Cx.Ih(X:Cx)(N:Vs)(scope:Scope)(fs:Vs)(B:Bk):Cx:=
 { X with N:=N,s₀:=B.s,H₀:=B.H,env:=compEnvC scope (bX X.env fs) B.C X.env,outer:=X.stack,ex:=B.fp,fn:=fun _=>false,pn:=B.pn,xe:=fun _ _=>False }
noncomputable def bP(env:Env):List Str->Prop
 |[]=>True
 |x::r=>(∃c,env.cells.lookup x=some c)/\bP env r
theorem ix{env:Env}:∀{fs:Vs},bP env fs->∀{x:Str} {c:Addr},(bX env fs).lookup x=some c->env.cells.lookup x=some c
 |[],_,x,c,h=>by cases h
 |y::r,k,x,c,h=>by
  obtain⟨⟨d,hd⟩,k⟩:=k
  have h':List.lookup x ((y,(env.cells.lookup y).getD 0)::bX env r)=some c:=h
  rw[Sg]at h'
  cases e:x == y with
  |true=>
   rw[e]at h'
   have e':x=y:=by simpa using e
   subst e'
   rw[hd]at h'
   rw[hd]
   exact h'
  |false=>
   rw[e]at h'
   exact ix k h'
noncomputable def hasB(names:List (Str×NameKind))(cl:List (Str×Addr)):Bool:=names.all fun y=>(y.2 != .cell&&y.2 != .free) || (cl.lookup y.1).isSome
def tI{names:List (Str×NameKind)}{cl:List (Str×Addr)}{x:Str}{k:NameKind}(h:hasB names cl=true)(e:names.lookup x=some k)(hk:k = .cell\/k = .free):∃c,cl.lookup x=some c:=by
 have hm:(x,k)∈names:=Qy e
 have q:=QG.mp h _ hm
 have z:(cl.lookup x).isSome=true:=by
  rcases hk with rfl|rfl
  ·simpa using q
  ·simpa using q
 exact Option.isSome_iff_exists.mp z
noncomputable def G7(env:Env)(scope:Scope)(cl:List (Str×Addr)):List Str->Prop
 |[]=>True
 |x::r=>((env.scope.names.lookup x=some .cell\/env.scope.names.lookup x=some .free)/\((relabel scope env).names.lookup x=some .cell\/(relabel scope env).names.lookup x=some .free)/\cl.lookup x=env.cells.lookup x)/\G7 env scope cl r
theorem G7.mem{env:Env}{scope:Scope}{cl:List (Str×Addr)}:∀{l:Vs},G7 env scope cl l->∀x∈l,
  (env.scope.names.lookup x=some .cell\/env.scope.names.lookup x=some .free)/\((relabel scope env).names.lookup x=some .cell\/(relabel scope env).names.lookup x=some .free)/\cl.lookup x=env.cells.lookup x
 |[],_,x,h=>nomatch h
 |y::r,k,x,h=>by
  rcases PM.mp h with rfl|h
  ·exact k.1
  ·exact G7.mem k.2 x h
noncomputable def du(own:Nat)(fr:List Nat)(σ:St):St:=List.replicate own none++fr.map fun j=>(σ[j]?).getD none
noncomputable abbrev gV(us:Vv):Obj:={ cls:=.type "list",data:=.seq us.toArray us.length }
def rg(us:Vv)(u:Value):({ cls:=.type "list",data:=.seq (us.toArray.push u) (us.length+1) }:Obj)=gV (us++[u]):=by
 show({ cls:=.type "list",data:=.seq (us.toArray.push u) (us.length+1) }:Obj)={ cls:=.type "list",data:=.seq (us++[u]).toArray (us++[u]).length }
 rw[PX,Rc,List.push_toArray]
section
variable {X:Cx} {pins:Va} {σ:St} {H:Hp} {s:Shared}
def Inv.Me{D:Addr}{us:Vv}{n:Nat}{ys:List V}(I:Inv X pins σ H s)(f:G6 X pins H D)(e:s.heap.get? D=some { cls:=.type "list",data:=.seq us.toArray n })(r:Vals ys us)(hz:ys.length<=sizeLine) :
  Inv X pins σ (upd H D (.lst ys)) s:=by
 obtain⟨f0,f1,f2,f3,f4,f5⟩:=f
 have nD:∀b u,H b=some u->b≠D:=fun b u q=>aM q f0
 have hok:HM X.prog X.w (upd H D (.lst ys)) s.heap:=fun b u q=>by
  by_cases hb:b=D
  ·subst hb
   rw[ar]at q
   cases q
   exact⟨hz,us,n,r,e⟩
  ·rw[aq hb]at q
   exact(I.hok b u q).stay (fun _ _ _ z=>z) (fun c z=>by rw[aq (nD c _ z)];exact z) fun c xs z=>by rw[aq (nD c _ z)];exact z
 exact I.step (H':=upd H D (.lst ys)) (h':=s.heap) (g':=s.gens) (t':=s.toks) (d':=s.drawn) (ch:=[D])
  (fun b hb=>by
   have z:b=D:=by simpa using hb
   subst z
   exact⟨f3,f1,f4,f5⟩)
  (fun _ _ _ _ _ q _=>q) (fun _ o _ _ _ q _=>⟨o.slots,q⟩)
  (fun b o hb _ n=>by rw[aq (fun z=>hb (by simp[z]))];exact n)
  (fun _ o _ q=>⟨o,q⟩) (fun b xs q=>by rw[aq (nD b _ q)];exact q) (fun b o u q=>by rw[aq (nD b _ q)];exact q)
  (fun b ps q=>⟨#[],by rw[aq (nD b _ q),q];simp⟩) (fun _ q=>q) hok I.bare
def AA{N:Vs}{scope:Scope}{fs:Vs}{C:Addr}{fp:List Addr}(I:Inv X pins σ H s)(hkind:scope.kind = .function)(hC:s.heap.objs.size<=C)(hcl:bP X.env fs)
  (hhas:hasB (relabel scope X.env).names (bX X.env fs)=true) (hf:∀b∈fp,G6 X pins H b) (hlt:∀b∈fp,b < s.heap.objs.size):(X.Ih N scope fs ⟨C,s,H,fp,X.pn++pins⟩).Ok where
 mod:=I.ok.mod
 kind:=hkind
 glob:=I.ok.glob
 blt:=I.ok.blt
 above:=hC
 inj:=fun x y c h1 h2=>I.ok.inj x y c (ix hcl h1) (ix hcl h2)
 has:=fun x hx=>by
  rcases hx with e|e
  ·exact tI hhas e (.inl rfl)
  ·exact tI hhas e (.inr rfl)
 KP:=fun x c h=>by cases h
 hd:=I.ok.hd
 frames:=I.ok.frames
 stk:=.inl rfl
 Lr:=fun b hb=>⟨Qo (P6 (hlt b hb) hC),fun x c e=>(hf b hb).2.2.2.2.1 x c (ix hcl e)⟩
 bs:=I.bs
 JI:=PZ I.ok.JI I.sz
 IY:=fun b o e hb=>(hf b hb).2.2.2.1.elim (fun z=>I.ok.IY b o e z) fun z=>absurd (P6 (P5 e) (PZ I.ok.JI z)) (Ri _)
 Je:=fun b hb z=>(PM.mp (I.Iu b z)).elim (hf b hb).2.1 (hf b hb).2.2.1
 HH:=I.stack
 J5:=I.Jf
def xg{N:Vs}{scope:Scope}{fs:Vs}{C D:Addr}{fp:List Addr}{own:Nat}{fr:List Nat}{h₁:Heap}{m0:Vr}{t':Nat}(I:Inv X pins σ H s)
  (ok:(X.Ih N scope fs ⟨C,s,H,fp,X.pn++pins⟩).Ok) (hC:s.heap.objs.size<=C) (hD:s.heap.objs.size<=D) (hDC:D≠C) (hcl:bP X.env fs)
  (old:∀b o,s.heap.get? b=some o->h₁.get? b=some o) (hns:h₁.Ns C m0) (hacc:h₁.get? D=some (gV [])) (hlen:N.length=own+fr.length) (hN:(N.drop own).map some=fr.map fun j=>X.N[j]?)
  (hF:G7 X.env scope (bX X.env fs) (N.drop own)) (ht:1<=t':=by walk_at "t") :
  Inv (X.Ih N scope fs ⟨C,s,H,fp,X.pn++pins⟩) [(D,gV [])] (du own fr σ) H { s with heap:=h₁,toks:=t' }:=by
 refine⟨ok,rfl,I.bare,Un.kept old,⟨m0,hns,fun i x v e1 e2 e3=>?_⟩,fun x c e=>?_,I.hok.fresh hC,fun x c e=>I.Hc x c (ix hcl e),fun p hp=>?_,I.hok.kept old,?_,ht⟩
 ·have e1:N[i]?=some x:=e1
  by_cases hi:i < own
  ·unfold du at e2
   rw[QL (by rw[QS];exact hi),Q6,if_pos hi]at e2
   cases e2
  ·obtain⟨k,rfl⟩:∃k,i=own+k:=⟨i - own,by omega⟩
   have e1':(N.drop own)[k]?=some x:=by rw[List.getElem?_drop];exact e1
   have q:=Qu (fun l=>l[k]?) hN
   simp only[Ql,e1',Option.map_some]at q
   unfold du at e2
   rw[Q8 (by rw[QS];omega),QS,Nat.add_sub_cancel_left,Ql]at e2
   cases hj:fr[k]? with
   |none=>rw[hj]at e2;cases e2
   |some j=>
    rw[hj]at e2 q
    simp only[Option.map_some,Option.some.injEq]at e2 q
    have hσ:σ[j]?=some (some v):=by
     cases z:σ[j]? with
     |none=>rw[z]at e2;cases e2
     |some w=>rw[z]at e2;simp only[Option.getD_some]at e2;rw[e2]
    obtain⟨k1,k2,k3⟩:=hF.mem x (QY e1')
    obtain⟨m,hn,hl⟩:=I.loc
    have vis:CC X.env.scope x:=by
     rcases k1 with z|z
     ·exact .inr (.inl z)
     ·exact .inr (.inr z)
    obtain⟨u,ru,l⟩:=hl j x v q.symm hσ vis
    rcases l with⟨hk,_⟩|⟨_,c,hc,o,ho,hd⟩
    ·have hk':X.env.scope.names.lookup x=some .local:=hk
     rcases k1 with z|z
     ·rw[z]at hk';cases hk'
     ·rw[z]at hk';cases hk'
    ·exact⟨u,ru,.inr ⟨k2,c,k3.trans hc,o,old _ _ ho,hd⟩⟩
 ·obtain⟨v,o,ho,hd⟩:=I.cell x c (ix hcl e)
  exact⟨v,o,old _ _ ho,hd⟩
 ·rcases Qe.mp hp with z|z
  ·obtain⟨e,n,ne,nf,d⟩:=I.pin p z
   exact⟨old _ _ e,n,Qo (P6 (P5 e) hC),fun q=>(PM.mp (I.Iu _ q)).elim ne nf,d⟩
  ·have z':p=(D,gV []):=by simpa using z
   subst z'
   exact⟨hacc,I.hok.fresh hD,hDC,fun q=>(PM.mp (I.Iu _ q)).elim (fun e=>absurd e (Rp (P6 I.lt hD))) (I.L8 hD),fun v z=>by cases z⟩
 ·show(du own fr σ).length=N.length
  unfold du
  rw[PX,QS,PY,hlen]
end
def PF(X:Cx)(ifs:List Expr)(t:TT):Prop:=
 ∀(pins:Va) (s:Shared) (σ:St) (H:Hp) (Q:Bool->Hp->Prop),Inv X pins σ H s->t σ H Q->
  wpAny (model X.prog X.w) X.A (forIn ifs true fun c r=>if r=true then do let ok <-isTrue c X.env (eval c X.env);pure (ForInStep.yield ok) else pure (ForInStep.yield r)) (TP X pins σ Q) X.xe s
def Fb:TT:=fun _ H Q=>Q true H
def AB{X:Cx}:PF X [] Fb:=fun _ _ _ H _ I h=>wpAny_tests_nil ⟨H,I,h⟩
def AC{X:Cx}{c:Expr}{t:TT}(h:PT X c t):PF X [c] t:=fun pins s σ H Q I q=>wpAny_tests_one (h pins s σ H Q I q)
def za(J:It)(g:TG)(tc:TT)(te:TE)(own:Nat)(σ':St)(fin:List V->Hp->Prop)(H1:Hp):Prop:=
 ∃W:Nat->Nat->List V->Hp->Prop,(∃m,W 0 m [] H1)/\∀i m ys H,W i m ys H->
  (J.stop i H/\ys.length<=sizeLine/\fin ys H) \/
  (J.go i H/\ys.length<=sizeLine/\∃Nx:List V->Hp->Prop,(∀ys' H',Nx ys' H'->∃m',m' < m/\W (i+1) m' ys' H')/\∀x H',J.MM i H x H'->g x σ' H' fun σ2 H2=>σ2.drop own=σ'.drop own/\tc σ2 H2 fun b H3=>
   if b=true then te σ2 H3 fun y H4=>Nx (ys++[y]) H4 else Nx ys H3)
section
variable {X:Cx} {pins:Va} {σ:St} {H:Hp} {s:Shared}
variable {elt iter tg:Expr} {ifs:List Expr} {scope:Scope} {pos:Pos} {N:Vs} {own:Nat} {fr:List Nat} {fs:Vs} {g:TG} {tc:TT} {te:TE}
def jh{J:It}{fp:List Addr}{it:Addr}{tn:Nat->Heap->Prop}{fin:List V->Hp->Prop}{E:Vq}{RR:Value->Addr->Result->Shared->Prop}
  (hc:X.calm=true) (hcell:∀y∈scope.names,y.2 ≠ .cell) (hkind:scope.kind = .function) (hcl:bP X.env fs) (hhas:hasB (relabel scope X.env).names (bX X.env fs)=true)
  (hlen:N.length=own+fr.length) (hN:(N.drop own).map some=fr.map fun j=>X.N[j]?) (hF:G7 X.env scope (bX X.env fs) (N.drop own))
  (hg:∀B,PG (X.Ih N scope fs B) tg g) (hf:∀B,PF (X.Ih N scope fs B) ifs tc) (he:∀B,PE (X.Ih N scope fs B) elt te)
  (I:Inv X pins σ H s) (T:mL X.prog X.w X.K tg J fp it tn) (st:tn 0 s.heap) (f:∀b∈fp,G6 X pins H b) (W:za J g tc te own (du own fr σ) fin H)
  (hRR:∀D C s' ys H' m',Inv X pins σ (upd H' D (.lst ys)) s'->H' D=none->s'.heap.Ns C m'->G6 X pins (upd H' D (.lst ys)) C->fin ys H'->RR (.ref D) C (.ok .next) s') :
  wpAny (model X.prog X.w) X.A (newList []) (fun acc s₃=>wpAny (model X.prog X.w) X.A (newFunctionEnv scope X.env.globals (bX X.env fs) [] X.env.qual none .none (some X.env)) (fun cenv s₄=>
   codeAny (model X.prog X.w) X.A (.compStart (.ListComp elt [⟨tg,iter,ifs,0⟩] scope pos) 0 (.ref it) acc { cenv with scope:=relabel scope X.env }) (RR acc cenv.locals) s₄) E s₃) E s:=by
 refine Q4 (wpAny_newFunctionEnv hcell (by intro y hy;simp at hy) (fun h₁ Ly K1=>?_) hkind)
 dsimp only at Ly K1 ⊢
 generalize Nj:s.heap.push { cls:=.type "list",dict:=none,data:=.seq ([]:Vv).toArray }=H2 at Ly K1 ⊢
 have hC:H2.objs.size=s.heap.objs.size+1:=by rw[<-Nj,Q9]
 have Lz:s.heap.objs.size<=H2.objs.size:=by rw[hC];exact Uc _
 have hDC:s.heap.objs.size≠H2.objs.size:=by rw[hC];exact Qo (Nat.lt_succ_self _)
 have below:∀b,b < s.heap.objs.size->b≠H2.objs.size/\b≠s.heap.objs.size:=fun b hb=>⟨by rw[hC];exact Qo (Nat.lt_succ_of_lt hb),Qo hb⟩
 have old:∀b o,s.heap.get? b=some o->h₁.get? b=some o:=fun b o e=>K1.extBut b o (below b (P5 e)).1 (PK _ (Nj▸PK _ e))
 have hacc:h₁.get? s.heap.objs.size=some (gV []):=K1.extBut _ _ hDC (PK _ (Nj▸P9 _ rfl))
 have hlt:∀b∈fp,b < s.heap.objs.size:=fun b hb=>by
  obtain⟨o,e,_⟩:=T.obj 0 _ st b hb
  exact P5 e
 obtain⟨Wv,⟨m0,w0⟩,turn⟩:=W
 have ok:=AA (N:=N) I hkind Lz hcl hhas f hlt
 have loop:∀s₃:Shared,s₃={ s with heap:=h₁,toks:=s.toks+([]:List (Str×Value)).length }->
   codeAny (model X.prog X.w) X.A (.compLoop (.ListComp elt [⟨tg,iter,ifs,0⟩] scope pos) 0 (.ref it) (.ref s.heap.objs.size) (compEnvC scope (bX X.env fs) H2.objs.size X.env))
    (RR (.ref s.heap.objs.size) H2.objs.size) s₃:=by
  rintro s₃ rfl
  have I0:=xg (own:=own) (fr:=fr) (t':=s.toks+([]:List (Str×Value)).length) I ok Lz (PN _) hDC hcl old Ly hacc hlen hN hF
  have OC:tn 0 h₁:=T.keep 0 _ _ st fun b _ o e=>old b o e
  have stat:∀{us:Vv} {H':Hp},(∀b∈fp,H' b=none)->∀b∈fp,G6 (X.Ih N scope fs ⟨H2.objs.size,s,H,fp,X.pn++pins⟩) [(s.heap.objs.size,gV us)] H' b:=fun{us H'} hn b hb=>by
   obtain⟨f0,f1,f2,f3,f4,f5⟩:=f b hb
   refine⟨hn b hb,(below b (hlt b hb)).1,fun z=>(PM.mp (I.Iu b z)).elim f1 f2,.inl hb,fun x c e=>f4 x c (ix hcl e),fun p hp=>?_⟩
   rcases Qe.mp hp with z|z
   ·exact f5 p z
   ·have z':p=(s.heap.objs.size,gV us):=by simpa using z
    subst z'
    exact QK (below b (hlt b hb)).2
  have Nk:∀p∈X.pn++pins,p.1 < s.heap.objs.size:=fun p hp=>P5 (I.pin p hp).1
  refine lr (fun k s'=>∃i ys us H',Inv (X.Ih N scope fs ⟨H2.objs.size,s,H,fp,X.pn++pins⟩) [(s.heap.objs.size,gV us)] (du own fr σ) H' s'/\Vals ys us/\tn i s'.heap/\(∀b∈fp,H' b=none)/\Wv i k ys H') ?_ m0
   ⟨0,[],[],H,I0,.nil,OC,fun b hb=>(f b hb).1,w0⟩
  rintro n s' ⟨i,ys,us,H',I',rv,st',N1,w'⟩
  rcases turn i n ys H' w' with⟨stop,hz,Nl⟩|⟨go,hz,Nx,N6,step⟩
  ·refine GG (T.done (X.Ih N scope fs ⟨H2.objs.size,s,H,fp,X.pn++pins⟩) rfl rfl rfl hc i _ s' _ H' (fun _ _=>False) I' (stat N1) st' stop) (fun r s1 ⟨hr,I1⟩=>?_)
   subst hr
   show RR _ _ (.ok .next) s1
   have IX:Inv X pins σ H' s1:=I.La I1.os I1.base I1.hok I1.bare I1.tk fun b hb=>by
    obtain⟨f0,f1,f2,f3,f4,f5⟩:=f b hb
    exact⟨f3,f1,f4,f5⟩
   obtain⟨eD,nD,_⟩:=I1.pin (s.heap.objs.size,gV us) (by simp)
   have IT:=IX.Me (I.Im (H':=H') (PN _) nD) eD rv hz
   obtain⟨m',hn',_⟩:=I1.loc
   exact hRR _ _ s1 ys H' m' IT nD hn' (I.Im Lz (by rw[aq (QK hDC)];exact I1.free)) Nl
  ·refine GG (T.item (X.Ih N scope fs ⟨H2.objs.size,s,H,fp,X.pn++pins⟩) rfl rfl rfl hc i _ s' _ H' (fun _ _=>False) I' (stat N1) st' go) (fun r s1 ⟨u,hr,h1⟩=>?_)
   subst hr
   show wpAny _ _ (letOwnedTupleGo tg (.ref it) u) _ _ s1
   refine GG h1 (fun _ s5 ⟨x,H5,I5,r5,y5,KW,M_⟩=>?_)
   have Na:=I5.pinned (stat M_) (T.obj _ _ KW)
   refine GG (hg _ _ s5 _ H5 x u _ Na r5 (step x H5 y5)) (fun _ s6 ⟨σ6,H6,I6,OD,q6⟩=>?_)
   refine GG (hf _ _ s6 σ6 H6 _ I6 q6) (fun b s7 ⟨H7,I7,q7⟩=>?_)
   -- LA the turn's own names
   have forget:∀{H8:Hp} {s8:Shared} {pl:Va},Inv (X.Ih N scope fs ⟨H2.objs.size,s,H,fp,X.pn++pins⟩) pl σ6 H8 s8->Inv (X.Ih N scope fs ⟨H2.objs.size,s,H,fp,X.pn++pins⟩) pl (du own fr σ) H8 s8:=fun{H8 s8 pl} I8=>by
    refine I8.weak (I0.len.trans I8.len.symm) fun j v e=>?_
    by_cases hj:j < own
    ·unfold du at e
     rw[QL (by rw[QS];exact hj),Q6,if_pos hj]at e
     cases e
    ·obtain⟨k,rfl⟩:∃k,j=own+k:=⟨j - own,by omega⟩
     rw[<-List.getElem?_drop]at e ⊢
     rw[OD]
     exact e
   have MO:∀{H8:Hp} {s8:Shared},Inv (X.Ih N scope fs ⟨H2.objs.size,s,H,fp,X.pn++pins⟩) ([(s.heap.objs.size,gV us)]++jb fp s5.heap) σ6 H8 s8->∀b∈fp,∀o,s5.heap.get? b=some o->s8.heap.get? b=some o/\H8 b=none:=fun I8 b hb o e=>
    let z:=I8.pin (b,o) (QD _ (QD _ (fD hb e)))
    ⟨z.1,z.2.1⟩
   cases b with
   |false=>
    show ∃m,m < n/\_
    obtain⟨m',hm,w7⟩:=N6 _ _ (show Nx ys H7 from q7)
    refine⟨m',hm,i+1,ys,us,H7,(forget I7).Io,rv,T.keep _ _ _ KW fun b hb o e=>(MO I7 b hb o e).1,fun b hb=>?_,w7⟩
    obtain⟨o,e,_⟩:=T.obj _ _ KW b hb
    exact(MO I7 b hb o e).2
   |true=>
    show wpAny _ _ (eval elt _) _ _ s7
    have OE:te σ6 H7 fun y H4=>Nx (ys++[y]) H4:=q7
    refine GG (he _ _ s7 σ6 H7 _ I7 OE) (fun v s8 ⟨y,H8,I8,r8,n8⟩=>?_)
    obtain⟨m',hm,w8⟩:=N6 _ _ n8
    obtain⟨eD,nD,N7,OF,_⟩:=I8.pin (s.heap.objs.size,gV us) (QD _ (QW _ (by simp)))
    refine append_at (hsz:=by show us.toArray.size<=sizeLine;rw[P8,<-rv.length];exact hz) eD fun h9 N8 OG=>?_
    have J0:Inv (X.Ih N scope fs ⟨H2.objs.size,s,H,fp,X.pn++pins⟩) [] σ6 H8 s8:=I8.IL fun p hp=>nomatch hp
    have J1:Inv (X.Ih N scope fs ⟨H2.objs.size,s,H,fp,X.pn++pins⟩) [] σ6 H8 { s8 with heap:=h9 }:=J0.turned (t':=s8.toks) (it:=s.heap.objs.size) (fun b o hb e=>(N8.2 b hb).trans e) nD N7 (.inr (PN _))
     (fun x c e z=>by
      obtain⟨v',q⟩:=I.cell x c (ix hcl e)
      exact absurd (P6 q.lt (by rw[z];exact PN _)) (Ri _))
     (fun p hp=>by
      rw[Qv]at hp
      exact Qo (Nk p hp))
    have J2:Inv (X.Ih N scope fs ⟨H2.objs.size,s,H,fp,X.pn++pins⟩) [(s.heap.objs.size,gV (us++[v]))] σ6 H8 { s8 with heap:=h9 }:=J1.IL fun p hp=>by
     have z':p=(s.heap.objs.size,gV (us++[v])):=by simpa using hp
     subst z'
     exact⟨OG.trans (Qu some (rg us v)),nD,N7,OF,fun v z=>by cases z⟩
    refine⟨m',hm,i+1,ys++[y],us++[v],H8,forget J2,Vals.append rv (.cons r8 .nil),T.keep _ _ _ KW fun b hb o e=>(N8.2 b (below b (hlt b hb)).2).trans (MO I8 b hb o e).1,fun b hb=>?_,w8⟩
    obtain⟨o,e,_⟩:=T.obj _ _ KW b hb
    exact(MO I8 b hb o e).2
 exact codeAny_compStart_list (loop _ rfl) (T.self _ 0 _ _ _ (T.keep 0 _ _ st fun b _ o e=>old b o e) (loop _ rfl))
def tJ(wi:TI)(g:TG)(tc:TT)(te:TE)(own:Nat)(fr:List Nat):TE:=fun σ H Q=>wi σ H fun J H1=>
 za J g tc te own (du own fr σ) (fun ys H2=>∀D,H2 D=none->Q (.ref D) (upd H2 D (.lst ys))) H1
def xh(fs:Vs)(own:Nat)(fr:List Nat)(N:Vs){wi:TI}(hc:X.calm=true)(hclos:closureFor scope X.env=pure (bX X.env fs))(hcell:∀y∈scope.names,y.2 ≠ .cell)(hkind:scope.kind = .function)
  (hnames:∀x∈scope.names,x.2 = .local->scope.names.lookup x.1=some .local) (hcl:bP X.env fs) (hhas:hasB (relabel scope X.env).names (bX X.env fs)=true)
  (hlen:N.length=own+fr.length) (hN:(N.drop own).map some=fr.map fun j=>X.N[j]?) (hF:G7 X.env scope (bX X.env fs) (N.drop own))
  (hi:PI X tg iter wi) (hg:∀B,PG (X.Ih N scope fs B) tg g) (hf:∀B,PF (X.Ih N scope fs B) ifs tc) (he:∀B,PE (X.Ih N scope fs B) elt te)
  (hs:∀x,foldedSetIterable iter X.env x=pure x:=by intro _;rfl):PE X (.ListComp elt [⟨tg,iter,ifs,0⟩] scope pos) (tJ wi g tc te own fr):=by
 intro pins s σ H Q I h
 rw[eval_ListComp]
 refine wpAny_comprehension_free (use:=none) (g:=⟨tg,iter,ifs,0⟩) (gs:=[]) rfl hs hclos hkind hnames (GG (hi pins s σ H _ I h) fun v s1 h1=>GG h1 fun itv s2 h2=>?_)
 obtain⟨it,fp,tn,J,H2,e,I2,T,st2,f2,W⟩:=h2
 subst e
 refine jh (RR:=fun acc C=>compPost (model X.prog X.w) X.A X.xe none (EP X pins σ Q) acc C) hc hcell hkind hcl hhas hlen hN hF hg hf he I2 T st2 f2 W ?_
 intro D C s' ys H' m' I' nD hn fC fin
 exact⟨m',hn,fun h' hs'=>⟨.ref D,_,I'.turned (t':=s'.toks) (fun b o hb e=>(hs'.2 b hb).trans e) fC.1 fC.2.1 fC.2.2.2.1 fC.2.2.2.2.1 fC.2.2.2.2.2,rfl,fin D nD⟩⟩
def xi(fs:Vs)(own:Nat)(fr:List Nat)(N:Vs){wi:TI}{i:Nat}{y:Str}{py spos:Pos}(hX:X.N.Nodup)(hix:X.N[i]?=some y)(hy:X.env.scope.names.lookup y=some .local)
  (hsw:swapsWith (.ListComp elt [⟨tg,iter,ifs,0⟩] scope pos) (some (.Name y py)) spos.line X.env=pure true)
  (hc:X.calm=true) (hclos:closureFor scope X.env=pure (bX X.env fs)) (hcell:∀y∈scope.names,y.2 ≠ .cell) (hkind:scope.kind = .function)
  (hnames:∀x∈scope.names,x.2 = .local->scope.names.lookup x.1=some .local) (hcl:bP X.env fs) (hhas:hasB (relabel scope X.env).names (bX X.env fs)=true)
  (hlen:N.length=own+fr.length) (hN:(N.drop own).map some=fr.map fun j=>X.N[j]?) (hF:G7 X.env scope (bX X.env fs) (N.drop own))
  (hi:PI X tg iter wi) (hg:∀B,PG (X.Ih N scope fs B) tg g) (hf:∀B,PF (X.Ih N scope fs B) ifs tc) (he:∀B,PE (X.Ih N scope fs B) elt te)
  (hs:∀x,foldedSetIterable iter X.env x=pure x:=by intro _;rfl):PS X (.Assign [.Name y py] (.ListComp elt [⟨tg,iter,ifs,0⟩] scope pos) spos) (wL (tJ wi g tc te own fr) (mK i)):=by
 intro pins s σ H D I h
 rw[exec_Assign_Name_used _ _ _ _ hsw]
 refine PJ (Sl (PJ ?_))
 show wpAny _ X.A (do let _ <-comprehension (.ListComp elt [⟨tg,iter,ifs,0⟩] scope pos) scope X.env _ (newList []) false (eval iter X.env) (some (assign (.Name y py) X.env))) _ _ s
 refine PJ (Rg (wpAny_comprehension_free (use:=some (assign (.Name y py) X.env)) (Q:=fun _ s'=>SP X pins D .next s') (g:=⟨tg,iter,ifs,0⟩) (gs:=[]) rfl hs hclos hkind hnames
  (GG (hi pins s σ H _ I h) fun v s1 h1=>GG h1 fun itv s2 h2=>?_)) (fun _ s' hq=>PU (PU hq)) fun _ _ e=>e)
 obtain⟨it,fp,tn,J,H2,e,I2,T,st2,f2,W⟩:=h2
 subst e
 refine jh (RR:=fun acc C=>compPost (model X.prog X.w) X.A X.xe (some (assign (.Name y py) X.env)) (fun _ s'=>SP X pins D .next s') acc C) hc hcell hkind hcl hhas hlen hN hF hg hf he I2 T st2 f2 W ?_
 intro Da C s' ys H' m' I' nD hn fC fin
 show wpAny _ X.A (assign (.Name y py) X.env (.ref Da)) _ _ s'
 refine wpAny_assign_Name (gP (v:=.ref Da) I' hX hix (.inl hy) rfl (fun s2 I3 ⟨a,sb,ha⟩=>?_) (.inr hy))
 have ca:C≠a:=by
  rcases ha with z|z
  ·rw[z];exact fC.2.1
  ·exact QK (fC.2.2.2.2.1 _ _ z)
 exact⟨m',hn.sameBut sb ca,fun h' hs'=>⟨_,_,I3.turned (t':=s2.toks) (fun b o hb e=>(hs'.2 b hb).trans e) fC.1 fC.2.1 fC.2.2.2.1 fC.2.2.2.2.1 fC.2.2.2.2.2,fin Da nD⟩⟩
end
end L2
namespace PySem
open Sem (wp)
namespace F
def rh:typeLookup (.type "list_reverseiterator") "__len__" = pure none:=by rw[typeLookup_type,builtinLookup_eq_fast];kernel_rfl
def tK:typeLookup (.type "list_reverseiterator") "__length_hint__" = pure (some (.builtin "list_reverseiterator.__length_hint__")):=by rw[typeLookup_type,builtinLookup_eq_fast];kernel_rfl
end F
section
variable {prog:Program} {w:World} {A:Around} {s:Shared} {R:Result->Shared->Prop}
variable {I:Addr} {fp wr:List Addr} {G:Array GenState->Array GenState->Prop} {n:Nat} {P:Nat->Value->Prop} {St:Nat->Shared->Prop}
def oi(W:WalksS prog w A.in1 I fp wr G n P St)(hT:∀i s,St i s->s.TypeIs (.ref I) "list_reverseiterator")(S:Addr)(res:Value)(c₀:Nat)(hst:St 0 s)(hSf:S ∉ fp)(hI:I∈fp)
  (hS:s.heap.get? S=some { cls:=.type "list",data:=.seq #[] c₀ })
  (hR:∀s' acc' c',Moved (S::wr) G s s'->s'.heap.get? S=some { cls:=.type "list",dict:=none,data:=.seq acc' c',slots:=#[] }->ItemsOf P acc' n->R (.ok (.ret res)) s') (hn:n<=sizeLine) :
  wpAny (model prog w) A.in1 (Builtin.List.listExtendWith (.ref S) (.ref I) res)
   (fun fin s'=>match fin with | .done f=>R (.ok f) s' | .again c'=>c'.quiet=true/\codeAny (model prog w) A c' R s') (fun e s'=>R (.error e) s') s:=by
 have hSI:S≠I:=fun e=>hSf (e▸hI)
 have h1:Builtin.List.listSameRef (.ref S) (.ref I)=false:=by simp[Builtin.List.listSameRef,hSI]
 unfold Builtin.List.listExtendWith
 refine PJ (wpAny_typeOf (hT 0 _ hst) ?_)
 rw[if_neg (by rw[h1];decide)]
 refine PJ (W.self 0 _ _ _ hst ?_)
 refine PJ (Rq ?_)
 unfold Builtin.List.listLengthHint
 refine PJ (wpAny_specialOf (hT 0 _ hst) F.rh ?_)
 show wpAny _ A.in1 (specialOf (Value.ref I) (Str.ofString "__length_hint__") >>= _) _ _ _
 refine PJ (wpAny_specialOf (hT 0 _ hst) F.tK ?_)
 (generalize hid:("list_reverseiterator.__length_hint__":String)=OH;wp_delta;rw[show splitId OH=some ("list_reverseiterator","__length_hint__")from by subst hid;decide +kernel];subst hid)
 refine PJ (wpAny_isInstance (b:=true) (hT 0 _ hst) (by rw[isSubtype_type];kernel_rfl) ?_)
 refine PU ?_
 rw[if_neg (by decide)]
 exact PU ⟨plainId_quiet F.plain_extend_loop _,codeAny_extend_loopS W hn _ hSf _ n 0 _ _ _ rfl (Qc _) hst hS (ItemsOf.nil P) fun s' acc' c' hm hS' hacc=>hR s' acc' c' hm hS' hacc⟩
def kg(W:WalksS prog w A.in1 I fp wr G n P St)(hT:∀i s,St i s->s.TypeIs (.ref I) "list_reverseiterator")(S:Addr)(hst:St 0 s)(hSf:S ∉ fp)(hI:I∈fp)
  (hS:s.heap.get? S=some { cls:=.type "list",data:=.seq #[] })
  (hR:∀s' acc' c',Moved (S::wr) G s s'->s'.heap.get? S=some { cls:=.type "list",dict:=none,data:=.seq acc' c',slots:=#[] }->ItemsOf P acc' n->R (.ok (.ret .none)) s') (hn:n<=sizeLine) :
  wpAny (model prog w) A.in1 (Builtin.«list.__init__» ⟨[.ref S,.ref I],[]⟩)
   (fun fin s'=>match fin with | .done f=>R (.ok f) s' | .again c'=>c'.quiet=true/\codeAny (model prog w) A c' R s') (fun e s'=>R (.error e) s') s:=by
 show wpAny _ A.in1 (do let old <-Builtin.List.listItems (.ref S);Builtin.List.listUpdate (.ref S) (fun _=>#[]);letGo old.toList.reverse;Builtin.List.listExtendWith (.ref S) (.ref I) .none) _ _ s
 refine PJ ?_
 unfold Builtin.List.listItems
 refine PJ (Rk hS rfl (PU ?_))
 show wpAny _ A.in1 (updateSeq S (fun _=>#[]) >>= fun _=>letGo (#[]:Vw).toList.reverse >>= fun _=>Builtin.List.listExtendWith (.ref S) (.ref I) .none) _ _ s
 refine PJ (wpAny_updateSeq hS rfl ?_)
 have OI:=Rb (Obj.mapSeq (fun _=>(#[]:Vw))) hS rfl
 have Lb:∀b o,b≠S->s.heap.get? b=some o->(s.heap.update S (Obj.mapSeq (fun _=>(#[]:Vw)))).get? b=some o:=
  fun b o hb e=>(QA _ _ (QK hb)).trans e
 refine PJ (wpAny_letGo ?_)
 refine oi (hn:=hn) W hT S .none _ (W.frame 0 s _ s.toks hst (PN _) fun b hb o e=>Lb b o (fun h=>hSf (h▸hb)) e) hSf hI OI fun s' acc' c' hm hS' hacc=>?_
 exact hR s' acc' c' (Moved.trans W.gtrans ((Moved.refl W.grefl).then_heap (PN _) fun b o hb e=>Lb b o (fun h=>hb (h▸Qj)) e) hm) hS' hacc
end
section
variable {prog:Program} {w:World} {A:Around} {E:Vq} {s:Shared}
def kh{I l:Addr}{items:Vw}{Q:Vq}(hh:A.handled=none)(hl:s.heap.IsList l items)(hit:s.heap.IsRevIter I l ((items.size:Int) - 1))(hne:l≠I)(hn:items.size<=sizeLine)
  (hQ:∀h' tk acc' c',(∀b o,b≠I->s.heap.get? b=some o->h'.get? b=some o)->h'.get? s.heap.objs.size=some { cls:=.type "list",dict:=none,data:=.seq acc' c',slots:=#[] }->
   acc'.toList=items.toList.reverse->Q (.ref s.heap.objs.size) { s with heap:=h',toks:=tk }) :
  wpAny (model prog w) A (call (.type "list") [.ref I]) Q E s:=by
 have W:=(Walks.listRev (prog:=prog) (w:=w) (A:=A.in1.in1) hh I l hne items).toS
 have Nm:I < s.heap.objs.size:=by obtain⟨o,ho,_⟩:=hit;exact P5 ho
 have Nn:l < s.heap.objs.size:=by obtain⟨o,ho,_⟩:=hl;exact P5 ho
 have hfp:∀b∈[I,l],b < s.heap.objs.size:=fun b hb=>by
  rcases PM.mp hb with rfl|hb
  ·exact Nm
  ·rw[P1.mp hb];exact Nn
 have hSf:s.heap.objs.size ∉ [I,l]:=fun hm=>Ri _ (hfp _ hm)
 have hst:(fun i (s:Shared)=>i<=items.size/\s.heap.IsRevIter I l ((items.size:Int) - 1 - (i:Int))/\s.heap.IsList l items) 0 s:=⟨Qc _,by simpa using hit,hl⟩
 refine callType_codes (Q₁:=fun obj s₁=>obj = .ref s.heap.objs.size/\s₁={ s with heap:=s.heap.push { cls:=.type "list",data:=.seq #[] } }) F.called_list (F.typeCall_list_1 _) F.entry_list_init
  (code_list_new _ ⟨rfl,rfl⟩) fun obj s₁ h₁=>?_
 obtain⟨rfl,rfl⟩:=h₁
 have hS:(s.heap.push { cls:=.type "list",data:=.seq #[] }).get? s.heap.objs.size=some { cls:=.type "list",data:=.seq #[] }:=P9 _ rfl
 refine⟨⟨_,hS,rfl⟩,F.args_list_init_2 _ _,kg (hn:=hn) W (fun i s st=>st.2.1.typeIs) _ (W.frame 0 s _ s.toks hst (PN _) fun b _ o e=>PK _ e) hSf (Qj ..) hS fun s' acc' c' hm hS' hacc=>?_⟩
 refine⟨rfl,?_⟩
 rw[hm.eq_with]
 refine hQ s'.heap s'.toks acc' c' (fun b o hb e=>hm.heap b o (fun z=>?_) (PK _ e)) hS' ?_
 ·rcases PM.mp z with z|z
  ·exact absurd (P5 e) (by rw[z];exact Ri _)
  ·exact hb (P1.mp z)
 ·obtain⟨hsz,hP⟩:=hacc
  apply List.ext_getElem?
  intro j
  by_cases hj:j < items.size
  ·have hj':j < acc'.size:=by rw[hsz];exact hj
   have q:=hP j acc'[j] (by simp[hj'])
   have e1:acc'.toList[j]?=some acc'[j]:=by simp[hj']
   rw[e1,List.getElem?_reverse (by simpa using hj)]
   simpa using q.symm
  ·rw[QT (by simpa [hsz]using hj),QT (by simpa using hj)]
end
end PySem
namespace L2
open PySem PySem.Spec PyProof.Rows
section
variable {X:Cx}
def tL(K:Vo)(te:TE):TE:=fun σ H Q=>te σ H fun x H1=>∃a xs,x = .ref a/\SqL K H1 a xs/\∀q,H1 q=none->Q (.ref q) (upd H1 q (.lst xs.reverse))
def oj{e:Expr}{te:TE}{p1 p2 q1 q2:Pos}(hc:X.calm=true)(he:PE X e te)(Mf:Gl X "list")(hm1:X.mg "list" = none)(No:Gl X "reversed")(hm2:X.mg "reversed" = none)
  (hs:starEach [e] X.env=[(false,eval e X.env)]:=by rfl) (hs2:starEach [.Call (.Name "reversed" p2) [e] [] q2] X.env=[(false,eval (.Call (.Name "reversed" p2) [e] [] q2) X.env)]:=by rfl) :
  PE X (.Call (.Name "list" p1) [.Call (.Name "reversed" p2) [e] [] q2] [] q1) (tL X.K te):=by
 intro pins s σ H Q I h
 refine QX (dX I Mf hm1 (u:=.type "list") (by decide +kernel) ?_)
 refine QV ?_ hs2 rfl
 rw[hs2]
 show wpAny _ _ (spliced ((false,eval (.Call (.Name "reversed" p2) [e] [] q2) X.env)::backTo q1 [])) _ _ s
 refine RO ?_
 refine QX (dX I No hm2 (u:=.type "reversed") boot_reversed ?_)
 refine QV ?_ hs rfl
 rw[hs]
 show wpAny _ _ (spliced ((false,eval e X.env)::backTo q2 [])) _ _ s
 refine RO (GG (he pins s σ H _ I h) fun u s1 ⟨x,H1,I1,r1,a,xs,ex,hx,q⟩=>?_)
 subst ex
 cases r1
 obtain⟨its,rv,p,hz⟩:=I1.list hx
 have hl:=rv.length
 have hal:a < s1.heap.objs.size:=by obtain⟨o,ho,_⟩:=p.isList;exact P5 ho
 refine SI (call_reversed_list p.isList ?_)
 refine SI ?_
 refine Qi (show 1<=s1.toks from I1.tk) (kh (I.ok.hd hc) (p.isList.push _) ⟨_,P9 _ rfl,rfl,rfl⟩ (Qo hal) (by rw[P8,<-hl];exact hz) fun h' tk acc c hk hS ha ht=>?_)
 have hsz:(s1.heap.push (revObj a ((its.toArray.size:Int) - 1))).objs.size=s1.heap.objs.size+1:=Q9 _ _
 have hle:s1.heap.objs.size<=(s1.heap.push (revObj a ((its.toArray.size:Int) - 1))).objs.size:=by rw[hsz];exact Uc _
 refine⟨.ref _,_,I1.laid (a:=(s1.heap.push (revObj a ((its.toArray.size:Int) - 1))).objs.size) (o:=.lst xs.reverse) (h':=h') (t':=tk) (fun b u e=>hk b u (Qo (P5 e)) (PK _ e)) hle ?_,rfl,q _ (I1.hok.fresh hle)⟩
 refine⟨by rw[T3];exact hz,its.reverse,c,Vals.reverse rv,?_⟩
 rw[hS]
 have e:acc=its.reverse.toArray:=by
  apply Array.toList_inj.mp
  rw[ha]
 rw[e]
end
section
variable {X:Cx}
noncomputable abbrev sgn(c:Nat):Str:=⟨#[c]⟩
noncomputable def Fc(z:Str):It:=⟨fun i _=>i < z.cps.size,fun i H x H'=>H'=H/\∃c,z.cps[i]?=some c/\x = .str (sgn c),fun i _=>z.cps.size<=i⟩
def tM{P:Program}{w:World}{K:Vo}{tg:Expr}{ty:String}(hty:ty = "str_ascii_iterator" \/ ty = "str_iterator")(it:Addr)(z:Str)(t:Tok):mL P w K tg (Fc z) [it] it (fun i h=>i<=z.cps.size/\h.IsStrIter it ty z t i):=by
 have W:∀A':Around,A'.handled=none->Walks P w A' it [it] [it] z.cps.size (SignAt z) (fun i h=>h.IsStrIter it ty z t i):=fun A' hA=>by
  rcases hty with rfl|rfl
  ·exact Walks.strAscii hA it z t
  ·exact Walks.strWide hA it z t
 have nt:(["enumerate","zip","dict_itemiterator","dict_reverseitemiterator","odict_iterator","itertools.zip_longest","itertools.pairwise"].contains ty)=false:=by
  rcases hty with rfl|rfl<;>decide
 refine⟨by simp,fun i h st b hb=>?_,fun i h h' st k=>?_,?_,?_,?_⟩
 ·have e:b=it:=by simpa using hb
  subst e
  obtain⟨_,o,e,c,d⟩:=st
  exact⟨o,e,fun v q=>by rw[d]at q;cases q⟩
 ·obtain⟨hi,o,e,r⟩:=st
  exact⟨hi,o,k it (by simp) o e,r⟩
 ·intro X hP hw hK hc i pins s σ H E I hf st hg
  subst hP hw hK
  obtain⟨f0,f1,f2,f3,f4,f5⟩:=hf it (by simp)
  refine Qi I.tk ((W X.A (I.ok.hd hc)).item i s _ _ hg st.2 fun v h' tk hv st' kk ht=>?_)
  obtain⟨c,u,hcp,rfl⟩:=hv
  have I1:Inv X pins σ H { s with heap:=h',toks:=tk }:=I.turned (fun b o hb e=>kk b o (by simpa using hb) e) f0 f1 f3 f4 f5
  obtain⟨o,e,co,d⟩:=id st'
  exact⟨_,rfl,mM (s:={ s with heap:=h',toks:=tk }) e co d nt ⟨.str (sgn c),H,I1,⟨u,rfl⟩,⟨rfl,c,hcp,rfl⟩,⟨hg,st'⟩,fun b hb=>(hf b hb).1⟩⟩
 ·intro X hP hw hK hc i pins s σ H E I hf st hg
  subst hP hw hK
  obtain⟨f0,f1,f2,f3,f4,f5⟩:=hf it (by simp)
  have e:i=z.cps.size:=Nat.le_antisymm st.1 hg
  subst e
  exact Qi I.tk ((W X.A (I.ok.hd hc)).done s _ _ st.2 fun h' tk kk ht=>⟨rfl,I.turned (fun b o hb e=>kk b o (by simpa using hb) e) f0 f1 f3 f4 f5⟩)
 ·intro A i s Q E st h
  rcases hty with rfl|rfl
  ·exact wpAny_pyIter_striter_ascii st.2 h
  ·exact wpAny_pyIter_striter_wide st.2 h
def xj{ys:Vs}:∀{us:Vv},Vals (ys.map V.str) us->StrsAre us ys:=by
 induction ys with
 |nil=>intro us r;rw[Qm]at r;cases r;exact .nil
 |cons n ns ih=>
  intro us r
  rw[PL]at r
  cases r with
  |cons r1 r2=>
   obtain⟨t,e⟩:=r1
   subst e
   exact .cons n t (ih r2)
noncomputable def C8(K:Vo):V->List V->Hp->VK->Prop:=fun x vs H Q=>∃sep p ys,x = .str sep/\vs=[.ref p]/\SqL K H p (ys.map V.str)/\(ys.map (·.length)).sum+ys.length * sep.length<=1000000/\Q (.str (Txt.join sep ys)) H
def xk:As X "str.join" (C8 X.K):=by
 intro pins s σ H x vs v us Q I rx rv h
 obtain⟨sep,p,ys,rfl,rfl,hp,hz,q⟩:=h
 obtain⟨t,rfl⟩:=rx
 obtain⟨u,rfl,ru⟩:=dm rv
 cases ru
 obtain⟨its,r,pl,_⟩:=I.list hp
 exact Qi I.tk (join_list pl.isList (by simpa using xj r) (by omega) fun t' k ht=>⟨.str _,H,I.tok k ht,⟨t',rfl⟩,q⟩)
def rj(hc:X.calm=true):dl X (.builtin "all") (fun xs H Q=>∃(p:Addr) (bs:List Bool),xs=[.ref p]/\SqL X.K H p (bs.map V.bl)/\Q (.bl (bs.all id)) H):=by
 intro pins s σ H xs us Q I r h
 obtain⟨p,bs,rfl,hp,q⟩:=h
 obtain⟨u,rfl,rx⟩:=dm r
 cases rx
 obtain⟨its,rv,pl,hz⟩:=I.list hp
 have hl:=rv.length
 rw[PY]at hl
 have hlt:p < s.heap.objs.size:=by obtain⟨o,ho,_⟩:=pl.isList;exact P5 ho
 refine Qi I.tk (call_all_walk (RE pl.isList ?_))
 have up:∀b o,s.heap.get? b=some o->(s.heap.push { cls:=.type "list_iterator",data:=.fields #[.ref p,.int 0 0] }).get? b=some o:=fun b o e=>PK _ e
 refine⟨s.heap.objs.size,_,_,_,_,_,fun i=>(bs[i]?).getD true,rfl,Walks.list (A:=X.A.in1) (I.ok.hd hc) s.heap.objs.size p (Qo hlt) its.toArray,⟨⟨_,P9 _ rfl,rfl,rfl⟩,pl.isList.push _⟩,?_,fun h' tk hk ht=>?_⟩
 ·intro i v s' Q' E' hv hq
  have hi:i < its.length:=by
   by_cases z:i < its.length
   ·exact z
   ·rw[Array.getElem?_eq_none (by simpa using z)]at hv;cases hv
  obtain⟨u',e1,r1⟩:=rv.get (i:=i) (x:=.bl bs[i]) (by rw[Ql,QB (by omega)];rfl)
  have e2:v=u':=by
   have z:its[i]?=some v:=by simpa using hv
   rw[z]at e1;exact QM e1
  subst e2
  cases (show v=Value.bool bs[i] from r1)
  refine RC ?_
  have hq':Q' ((bs[i]?).getD true) s':=hq
  rw[QB (show i < bs.length by omega)]at hq'
  exact hq'
 ·have e:(List.range its.toArray.size).all (fun i=>(bs[i]?).getD true)=bs.all id:=by
   rw[P8,<-hl,Rz,QG,QG]
   constructor
   ·intro h1 x hx
    obtain⟨j,hj,e⟩:=List.getElem_of_mem hx
    have q1:=h1 j (Ua.mpr hj)
    rw[QB hj]at q1
    rw[<-e];exact q1
   ·intro h1 j hj
    have hj':=Ua.mp hj
    rw[QB hj']
    exact h1 _ (Uj hj')
  rw[e]
  exact⟨.bl _,H,(I.kept (t':=tk) (h':=h') fun b o eo=>hk b o (by
   intro hm
   have hb:b=s.heap.objs.size:=by simpa using hm
   exact absurd (P5 eo) (by rw[hb];exact Ri _)) (up b o eo)),rfl,q⟩
end
section
variable {X:Cx}
noncomputable def Fd:V->Option Int->Option Int->Hp->VK->Prop:=fun x lo hi H Q=>∃z,x = .str z/\z.length<=sizeLine/\Q (.str (Txt.slice z lo hi)) H
def AD:Cn X Fd:=by
 intro pins s σ H x v vl vu lo hi sl Q I rx hs pl pu h
 obtain⟨z,rfl,hz,q⟩:=h
 obtain⟨t,rfl⟩:=rx
 refine⟨"str",_,F.slot_str_getitem.lookup,Sx _ _ _,?_⟩
 obtain⟨o,e,c,d⟩:=hs
 have fin:∀l u:Option (Int×Tok),(vl=partValue l/\lo=l.map (·.1))->(vu=partValue u/\hi=u.map (·.1))->wpAny (model X.prog X.w) X.A (getItem (.str z t) (.ref sl)) (EP X pins σ Q) X.xe s:=by
  rintro l u ⟨rfl,rfl⟩ ⟨rfl,rfl⟩
  exact Qi I.tk (wpAny_getItem_str_slice (l:=l) (u:=u) (st:=none) ⟨o,e,c,d⟩ rfl (post_val_or_str ⟨PZ (Txt.slice_le z _ _) hz,fun t' k ht=>⟨.str _,H,I.tok k,⟨t',rfl⟩,q⟩⟩))
 cases pl with
 |none=>
  cases pu with
  |none=>exact fin none none ⟨rfl,rfl⟩ ⟨rfl,rfl⟩
  |int j uj=>exact fin none (some (j,uj)) ⟨rfl,rfl⟩ ⟨rfl,rfl⟩
 |int i ui=>
  cases pu with
  |none=>exact fin (some (i,ui)) none ⟨rfl,rfl⟩ ⟨rfl,rfl⟩
  |int j uj=>exact fin (some (i,ui)) (some (j,uj)) ⟨rfl,rfl⟩ ⟨rfl,rfl⟩
end
end L2
namespace Zt
open PySem
open Sem (wp)
def Si(kd:Bool)(h:Heap)(a t:Addr)(i:Nat):Prop:=cond kd (h.IsListIter a t i) (h.IsTupleIter a t i)
def Sq(kd:Bool)(h:Heap)(a:Addr)(xs:Vw):Prop:=cond kd (h.IsList a xs) (h.IsTuple a xs)
theorem Si.at{kd:Bool}{h h':Heap}{a t:Addr}{i:Nat}(x:Si kd h a t i)(e:∀o,h.get? a=some o->h'.get? a=some o):Si kd h' a t i:=match kd,x with|true,x=>Heap.IsListIter.at x e|false,x=>Heap.IsTupleIter.at x e
theorem Sq.at{kd:Bool}{h h':Heap}{a:Addr}{xs:Vw}(x:Sq kd h a xs)(e:∀o,h.get? a=some o->h'.get? a=some o):Sq kd h' a xs:=match kd,x with|true,x=>Heap.IsList.at x e|false,x=>Heap.IsTuple.at x e
def Sq.lt{kd:Bool}{h:Heap}{a:Addr}{xs:Vw}(x:Sq kd h a xs):a < h.objs.size:=match kd,x with|true,⟨_,e,_⟩=>P5 e|false,⟨_,e,_⟩=>P5 e
def Si.ob{kd:Bool}{h:Heap}{a t:Addr}{i:Nat}(x:Si kd h a t i):∃o f,h.get? a=some o/\o.data = .fields f:=match kd,x with|true,⟨o,e,_,d⟩=>⟨o,_,e,d⟩|false,⟨o,e,_,d⟩=>⟨o,_,e,d⟩
def Si.extBut{kd:Bool}{h h':Heap}{a c t:Addr}{i:Nat}(x:Si kd h a t i)(e:Heap.ExtBut c h h')(n:a≠c):Si kd h' a t i:=x.at fun _ q=>e _ _ n q
def Sq.extBut{kd:Bool}{h h':Heap}{a c:Addr}{xs:Vw}(x:Sq kd h a xs)(e:Heap.ExtBut c h h')(n:a≠c):Sq kd h' a xs:=x.at fun _ q=>e _ _ n q
section
variable {prog:Program} {w:World} {A:Around} {E:Vq} {s:Shared}
def nx{j t:Addr}{i:Nat}{its:Vw}{x:Value}{Q:Vq}(hj:s.heap.IsTupleIter j t i)(ht:s.heap.IsTuple t its)(hx:its[i]?=some x)
  (k:∀g:Heap,g.IsTupleIter j t (i+1)->Heap.SameBut j s.heap g->Q x { s with heap:=g }):wpAny (model prog w) A (Builtin.SmallTypes.nextOf (.ref j)) Q E s:=by
 obtain⟨ob,eb,kb,db⟩:=id hj
 obtain⟨oc,ec,_,nc,dc⟩:=ht
 unfold Builtin.SmallTypes.nextOf
 refine PJ (Q7 (name:=Str.ofString "__next__") hj.typeIs Rr (RL Rr hj.typeIs F.entry_tuple_iterator_next ?_ (F.args_tuple_iterator_next_1 _)))
 show wpAny _ _ (field (.ref j) 0 >>= _) _ _ s;refine PJ (QE eb db (x:=.ref t) rfl ?_)
 show wpAny _ _ (if (Value.ref t == Value.none)=true then _ else _) _ _ s;rw[if_neg (show ¬((Value.ref t == Value.none)=true)from Qk)]
 show wpAny _ _ (field (.ref j) 1 >>= _) _ _ s;refine PJ (QE eb db (x:=.int i 0) rfl ?_)
 show wpAny _ _ (seqItems? (.ref t) >>= _) _ _ s;refine PJ (Rk ec dc ?_)
 simp only[Int.toNat_natCast,hx];refine PJ (SQ eb db (by simp) (PU ⟨x,rfl,PU (k _ ?_ (Heap.SameBut.update ..))⟩))
 exact⟨_,Rb _ eb (Th (RQ db _)),(Obj.cls_mapFields ..).trans kb,by rw[RQ db];simp[rawInt]⟩
def Gf{j t:Addr}{i:Nat}{its:Vw}{Q:Vq}(hh:A.handled=none)(hj:s.heap.IsTupleIter j t i)(ht:s.heap.IsTuple t its)(hx:its[i]?=none)
  (k:∀(g:Heap) (e:Addr),Heap.ExtBut j s.heap g->(∃o,g.get? e=some o/\o.cls = .type "StopIteration")->E (.ref e) { s with heap:=g }):wpAny (model prog w) A (Builtin.SmallTypes.nextOf (.ref j)) Q E s:=by
 obtain⟨ob,eb,kb,db⟩:=id hj
 obtain⟨oc,ec,_,nc,dc⟩:=ht
 unfold Builtin.SmallTypes.nextOf
 refine PJ (Q7 (name:=Str.ofString "__next__") hj.typeIs Rr (RL Rr hj.typeIs F.entry_tuple_iterator_next ?_ (F.args_tuple_iterator_next_1 _)))
 show wpAny _ _ (field (.ref j) 0 >>= _) _ _ s;refine PJ (QE eb db (x:=.ref t) rfl ?_)
 show wpAny _ _ (if (Value.ref t == Value.none)=true then _ else _) _ _ s;rw[if_neg (show ¬((Value.ref t == Value.none)=true)from Qk)]
 show wpAny _ _ (field (.ref j) 1 >>= _) _ _ s;refine PJ (QE eb db (x:=.int i 0) rfl ?_)
 show wpAny _ _ (seqItems? (.ref t) >>= _) _ _ s;refine PJ (Rk ec dc ?_)
 simp only[Int.toNat_natCast,hx];refine PJ (Tj (PJ (SQ eb db (by simp) ?_)))
 show wpAny _ _ (newExc (.type "StopIteration") [] >>= _) _ _ _;refine PJ ?_
 simp only[newExc,newTuple];refine PJ (Q4 ?_ (by size_fits))
 refine PJ (m:=firstArgMember _ _) (wpAny_of_eq (a:=Value.none) (by first|rfl|(simp only[firstArgMember];rfl)) ?_);refine Q4 ?_ (by size_fits)
 simp only[raiseNew];refine PJ (wpAny_handled ?_)
 first|(rw[hh])|(rw[show A.in1.handled=none from hh])
 exact PJ (PU (wpAny_throw (k _ _ (((Heap.SameBut.update ..).extBut.push _).push _) ⟨_,P9 _ rfl,rfl⟩)))
def Fe{kd:Bool}{j t:Addr}{i:Nat}{its:Vw}{x:Value}{Q:Vq}(hj:Si kd s.heap j t i)(ht:Sq kd s.heap t its)(hx:its[i]?=some x)
  (k:∀g:Heap,Si kd g j t (i+1)->Heap.SameBut j s.heap g->Q x { s with heap:=g }):wpAny (model prog w) A (Builtin.SmallTypes.nextOf (.ref j)) Q E s:=by
 cases kd with
 |true=>exact wpAny_nextOf_list_item hj ht hx k
 |false=>exact nx hj ht hx k
def C9{kd:Bool}{j t:Addr}{i:Nat}{its:Vw}{Q:Vq}(hh:A.handled=none)(hj:Si kd s.heap j t i)(ht:Sq kd s.heap t its)(hx:its[i]?=none)
  (k:∀(g:Heap) (e:Addr),Heap.ExtBut j s.heap g->(∃o,g.get? e=some o/\o.cls = .type "StopIteration")->E (.ref e) { s with heap:=g }):wpAny (model prog w) A (Builtin.SmallTypes.nextOf (.ref j)) Q E s:=by
 cases kd with
 |true=>exact wpAny_nextOf_list_end hh hj ht hx k
 |false=>exact Gf hh hj ht hx k
variable {ka kb:Bool} {z TI TO i1 i2 l1 l2:Addr} {k1 k2:Nat} {xs ys:Vw} {x y a b:Value}
def xm{Q:Vq}(D:ZipApart z TI TO i1 i2 l1 l2)(gz:IsZip s.heap z TI TO .none)(gI:IsPair s.heap TI (.ref i1) (.ref i2))(gO:IsPair s.heap TO a b)
  (g1:Si ka s.heap i1 l1 k1) (g2:Si kb s.heap i2 l2 k2) (t1:Sq ka s.heap l1 xs) (t2:Sq kb s.heap l2 ys) (hx:xs[k1]?=some x) (hy:ys[k2]?=some y)
  (k:∀g,IsZip g z TI TO (rawInt s.heap.objs.size)->IsPair g TO x y->Si ka g i1 l1 (k1+1)->Si kb g i2 l2 (k2+1)->IsPair g s.heap.objs.size x y->
   (∀c o,c≠z->c≠TO->c≠i1->c≠i2->s.heap.get? c=some o->g.get? c=some o)->Q (.ref s.heap.objs.size) { s with heap:=g }) :
  wpAny (model prog w) A (Builtin.«zip.__next__» ⟨[.ref z],[]⟩) (fun fin s'=>∃v,fin = .done (.ret v)/\Q v s') E s:=by
 show wpAny _ _ (field (.ref z) 2 >>= _) _ _ _;refine PJ (QE gz rfl (x:=.bool false) rfl ?_)
 show wpAny _ _ (field (.ref z) 3 >>= _) _ _ _;refine PJ (QE gz rfl (x:=.ref TI) rfl (PJ (Rk gI rfl ?_)))
 show wpAny _ _ (Builtin.SmallTypes.ownedTupleIsFree (.ref z) >>= _) _ _ _;refine PJ ?_;unfold Builtin.SmallTypes.ownedTupleIsFree
 refine PJ (QE gz rfl (x:=.none) rfl (PU ?_));simp only[Rj]
 refine PJ (Tj (PJ (QE gz rfl (x:=.ref TO) rfl (PJ (Rt gz (by simp) fun h₁ z1 q1=>?_)))))
 replace z1:IsZip h₁ z TI TO .ellipsis:=z1
 refine PJ ?_;simp only[List.zipIdx_cons,List.zipIdx_nil,Ss,List.forIn_nil]
 refine PJ (PJ (wpAny_onRaise ?_));show wpAny _ _ (Builtin.SmallTypes.nextOf (.ref i1) >>= _) _ _ _
 refine PJ (Fe (g1.extBut q1.extBut D.i1z) (t1.extBut q1.extBut D.l1z) hx fun h₂ n1 q2=>PU ?_)
 have o2:IsPair h₂ TO a b:=q2.extBut _ _ D.TOi1 (q1.extBut _ _ D.TOz gO)
 refine PJ (Rk o2 rfl (PJ (Tw o2 fun h₃ o3 q3=>?_)))
 replace o3:IsPair h₃ TO x b:=o3
 refine PJ (wpAny_letGo (PU ?_));refine PJ (PJ (wpAny_onRaise ?_));show wpAny _ _ (Builtin.SmallTypes.nextOf (.ref i2) >>= _) _ _ _
 refine PJ (Fe (((g2.extBut q1.extBut D.i2z).extBut q2.extBut D.i12.symm).extBut q3.extBut D.TOi2.symm) (((t2.extBut q1.extBut D.l2z).extBut q2.extBut D.l2i1).extBut q3.extBut D.l2TO) hy fun h₄ n2 q4=>PU ?_)
 have o4:IsPair h₄ TO x b:=q4.extBut _ _ D.TOi2 o3
 refine PJ (Rk o4 rfl (PJ (Tw o4 fun h₅ o5 q5=>?_)))
 replace o5:IsPair h₅ TO x y:=o5
 refine PJ (wpAny_letGo (PU (PU ?_)));refine PJ (Rk o5 rfl (PJ (wpAny_newTuple ?_)))
 have sz:h₅.objs.size=s.heap.objs.size:=by rw[q5.1,q4.1,q3.1,q2.1,q1.1]
 have z5:IsZip h₅ z TI TO .ellipsis:=q5.extBut _ _ D.TOz.symm (q4.extBut _ _ D.i2z.symm (q3.extBut _ _ D.TOz.symm (q2.extBut _ _ D.i1z.symm z1)))
 have kk:∀c o,c≠z->c≠TO->c≠i1->c≠i2->s.heap.get? c=some o->h₅.get? c=some o:=fun c o c1 c2 c3 c4 e=>q5.extBut _ _ c2 (q4.extBut _ _ c4 (q3.extBut _ _ c2 (q2.extBut _ _ c3 (q1.extBut _ _ c1 e))))
 have m1:Si ka h₅ i1 l1 (k1+1):=((n1.extBut q3.extBut D.TOi1.symm).extBut q4.extBut D.i12).extBut q5.extBut D.TOi1.symm
 have m2:Si kb h₅ i2 l2 (k2+1):=n2.extBut q5.extBut D.TOi2.symm
 have zl:z < h₅.objs.size:=P5 z5
 show wpAny _ _ (Builtin.SmallTypes.ownedTupleHandOut (.ref z) (.ref h₅.objs.size) >>= _) _ _ _;refine PJ ?_;unfold Builtin.SmallTypes.ownedTupleHandOut
 have z6:IsZip (h₅.push { cls:=.type "tuple",data:=.seq #[x,y] }) z TI TO .ellipsis:=PK _ z5
 refine PJ (Rt z6 (by simp) fun h₇ z7 q7=>?_)
 replace z7:IsZip h₇ z TI TO (rawInt h₅.objs.size):=z7
 refine Rt z7 (by simp) fun h₈ z8 q8=>?_
 replace z8:IsZip h₈ z TI TO (rawInt h₅.objs.size):=z8
 have up:∀c o,c≠z->h₅.get? c=some o->h₈.get? c=some o:=fun c o c1 e=>q8.extBut _ _ c1 (q7.extBut _ _ c1 (PK _ e))
 have T8:IsPair h₈ h₅.objs.size x y:=q8.extBut _ _ (Rp zl) (q7.extBut _ _ (Rp zl) (P9 _ rfl))
 rw[sz]at z8 T8
 refine PU ⟨_,rfl,?_⟩
 show Q (.ref h₅.objs.size) _
 rw[sz]
 exact k h₈ z8 (up _ _ D.TOz o5) (m1.at fun o e=>up _ o D.i1z e) (m2.at fun o e=>up _ o D.i2z e) T8 fun c o c1 c2 c3 c4 e=>up c o c1 (kk c o c1 c2 c3 c4 e)
def AE{Q:Fin->Shared->Prop}(hh:A.handled=none)(D:ZipApart z TI TO i1 i2 l1 l2)(gz:IsZip s.heap z TI TO .none)(gI:IsPair s.heap TI (.ref i1) (.ref i2))(gO:IsPair s.heap TO a b)
  (g1:Si ka s.heap i1 l1 k1) (g2:Si kb s.heap i2 l2 k2) (t1:Sq ka s.heap l1 xs) (t2:Sq kb s.heap l2 ys) (he:xs[k1]?=none\/ys[k2]?=none)
  (k:∀(g:Heap) (e:Addr),(∀c o,c≠z->c≠TO->c≠i1->c≠i2->s.heap.get? c=some o->g.get? c=some o)->(∃o,g.get? e=some o/\o.cls = .type "StopIteration")->E (.ref e) { s with heap:=g }) :
  wpAny (model prog w) A (Builtin.«zip.__next__» ⟨[.ref z],[]⟩) Q E s:=by
 show wpAny _ _ (field (.ref z) 2 >>= _) _ _ _;refine PJ (QE gz rfl (x:=.bool false) rfl ?_)
 show wpAny _ _ (field (.ref z) 3 >>= _) _ _ _;refine PJ (QE gz rfl (x:=.ref TI) rfl (PJ (Rk gI rfl ?_)))
 show wpAny _ _ (Builtin.SmallTypes.ownedTupleIsFree (.ref z) >>= _) _ _ _;refine PJ ?_;unfold Builtin.SmallTypes.ownedTupleIsFree
 refine PJ (QE gz rfl (x:=.none) rfl (PU ?_));simp only[Rj]
 refine PJ (Tj (PJ (QE gz rfl (x:=.ref TO) rfl (PJ (Rt gz (by simp) fun h₁ z1 q1=>?_)))))
 replace z1:IsZip h₁ z TI TO .ellipsis:=z1
 refine PJ ?_;simp only[List.zipIdx_cons,List.zipIdx_nil,Ss,List.forIn_nil]
 refine PJ (PJ (wpAny_onRaise ?_));show wpAny _ _ (Builtin.SmallTypes.nextOf (.ref i1) >>= _) _ _ _
 cases hx:xs[k1]? with
 |none=>
  refine PJ (C9 hh (g1.extBut q1.extBut D.i1z) (t1.extBut q1.extBut D.l1z) hx fun h₂ e q2 ⟨oe,ge,ce⟩=>?_)
  have z2:IsZip h₂ z TI TO .ellipsis:=q2 _ _ D.i1z.symm z1
  have ez:e≠z:=fun u=>by subst u;rw[z2]at ge;cases ge;simp at ce
  exact Rt z2 (by simp) fun h₃ _ q3=>k h₃ e (fun c o c1 _ c3 _ u=>q3.extBut _ _ c1 (q2 _ _ c3 (q1.extBut _ _ c1 u))) ⟨oe,q3.extBut _ _ ez ge,ce⟩
 |some x=>
  have hy:ys[k2]?=none:=he.elim (fun q=>by rw[hx]at q;cases q) id
  refine PJ (Fe (g1.extBut q1.extBut D.i1z) (t1.extBut q1.extBut D.l1z) hx fun h₂ n1 q2=>PU ?_)
  have o2:IsPair h₂ TO a b:=q2.extBut _ _ D.TOi1 (q1.extBut _ _ D.TOz gO)
  refine PJ (Rk o2 rfl (PJ (Tw o2 fun h₃ o3 q3=>?_)))
  refine PJ (wpAny_letGo (PU ?_));refine PJ (PJ (wpAny_onRaise ?_));show wpAny _ _ (Builtin.SmallTypes.nextOf (.ref i2) >>= _) _ _ _
  refine PJ (C9 hh (((g2.extBut q1.extBut D.i2z).extBut q2.extBut D.i12.symm).extBut q3.extBut D.TOi2.symm) (((t2.extBut q1.extBut D.l2z).extBut q2.extBut D.l2i1).extBut q3.extBut D.l2TO) hy fun h₄ e q4 ⟨oe,ge,ce⟩=>?_)
  have z4:IsZip h₄ z TI TO .ellipsis:=q4 _ _ D.i2z.symm (q3.extBut _ _ D.TOz.symm (q2.extBut _ _ D.i1z.symm z1))
  have ez:e≠z:=fun u=>by subst u;rw[z4]at ge;cases ge;simp at ce
  exact Rt z4 (by simp) fun h₅ _ q5=>k h₅ e (fun c o c1 c2 c3 c4 u=>q5.extBut _ _ c1 (q4 _ _ c4 (q3.extBut _ _ c2 (q2.extBut _ _ c3 (q1.extBut _ _ c1 u))))) ⟨oe,q5.extBut _ _ ez ge,ce⟩
def rm{Q:Option Value->Shared->Prop}(D:ZipApart z TI TO i1 i2 l1 l2)(gz:IsZip s.heap z TI TO .none)(gI:IsPair s.heap TI (.ref i1) (.ref i2))(gO:IsPair s.heap TO a b)
  (g1:Si ka s.heap i1 l1 k1) (g2:Si kb s.heap i2 l2 k2) (t1:Sq ka s.heap l1 xs) (t2:Sq kb s.heap l2 ys) (hx:xs[k1]?=some x) (hy:ys[k2]?=some y)
  (k:∀g,IsZip g z TI TO (rawInt s.heap.objs.size)->IsPair g TO x y->Si ka g i1 l1 (k1+1)->Si kb g i2 l2 (k2+1)->IsPair g s.heap.objs.size x y->
   (∀c o,c≠z->c≠TO->c≠i1->c≠i2->s.heap.get? c=some o->g.get? c=some o)->Q (some (.ref s.heap.objs.size)) { s with heap:=g }):wpAny (model prog w) A (pyNext (.ref z)) Q E s:=by
 have ty:s.TypeIs (.ref z) "zip":=⟨_,gz,rfl⟩
 unfold pyNext
 exact PJ (wpAny_attempt (Q7 (name:=Str.ofString "__next__") ty TR (RL TR ty F.entry_zip_next
  (xm D gz gI gO g1 g2 t1 t2 hx hy fun g a1 a2 a3 a4 a5 a6=>PU (k g a1 a2 a3 a4 a5 a6)) (F.args_zip_next_1 _))))
def tN{Q:Option Value->Shared->Prop}(hh:A.handled=none)(D:ZipApart z TI TO i1 i2 l1 l2)(gz:IsZip s.heap z TI TO .none)(gI:IsPair s.heap TI (.ref i1) (.ref i2))(gO:IsPair s.heap TO a b)
  (g1:Si ka s.heap i1 l1 k1) (g2:Si kb s.heap i2 l2 k2) (t1:Sq ka s.heap l1 xs) (t2:Sq kb s.heap l2 ys) (he:xs[k1]?=none\/ys[k2]?=none)
  (k:∀g:Heap,(∀c o,c≠z->c≠TO->c≠i1->c≠i2->s.heap.get? c=some o->g.get? c=some o)->Q none { s with heap:=g }):wpAny (model prog w) A (pyNext (.ref z)) Q E s:=by
 have ty:s.TypeIs (.ref z) "zip":=⟨_,gz,rfl⟩
 unfold pyNext
 refine PJ (wpAny_attempt (Q7 (name:=Str.ofString "__next__") ty TR (RL TR ty F.entry_zip_next (AE hh D gz gI gO g1 g2 t1 t2 he fun g e kk ⟨o,ho,hc⟩=>?_) (F.args_zip_next_1 _))))
 exact PJ (wpAny_isInstance (T:="StopIteration") (b:=true) ⟨o,ho,hc⟩ isSubtype_stop (PU (k _ kk)))
end
noncomputable abbrev it(kd:Bool)(l:Addr):Obj:={ cls:=.type (cond kd "list_iterator" "tuple_iterator"),data:=.fields #[.ref l,.int 0 0] }
def Si.mk{kd:Bool}{h:Heap}{a l:Addr}(e:h.get? a=some (it kd l)):Si kd h a l 0:=match kd,e with|true,e=>⟨_,e,rfl,rfl⟩|false,e=>⟨_,e,rfl,rfl⟩
noncomputable abbrev H1(ka:Bool)(h:Heap)(l1:Addr):Heap:=h.push (it ka l1)
noncomputable abbrev H2(ka kb:Bool)(h:Heap)(l1 l2:Addr):Heap:=(H1 ka h l1).push (it kb l2)
noncomputable abbrev H3(ka kb:Bool)(h:Heap)(l1 l2:Addr):Heap:=(H2 ka kb h l1 l2).push { cls:=.type "tuple",data:=.seq #[.ref h.objs.size,.ref (H1 ka h l1).objs.size] }
noncomputable abbrev H4(ka kb:Bool)(h:Heap)(l1 l2:Addr):Heap:=(H3 ka kb h l1 l2).push { cls:=.type "tuple",data:=.seq #[.none,.none] }
noncomputable abbrev H5(ka kb:Bool)(h:Heap)(l1 l2:Addr):Heap:=(H4 ka kb h l1 l2).push { cls:=.type "zip",data:=.fields #[.none,.bool false,.bool false,.ref (H2 ka kb h l1 l2).objs.size,.ref (H3 ka kb h l1 l2).objs.size] }
def rA(ka kb:Bool)(l1 l2:Addr)(xs ys:Vw) :
  Meets (Builtin.«zip.__new__» ⟨[.type "zip",.ref l1,.ref l2],[]⟩) (fun _ R s=>Sq ka s.heap l1 xs/\Sq kb s.heap l2 ys/\R (.ok (.ret (.ref (H4 ka kb s.heap l1 l2).objs.size))) { s with heap:=H5 ka kb s.heap l1 l2 }):=
 .of_wp fun prog w A R s h=>by
  obtain⟨hp,g,d,tk,os⟩:=s;obtain⟨e1,e2,h⟩:=h
  have hsub:=sub_zip
  match ka,kb,e1,e2,h with
  |false,false,e1,e2,h=>
   have L1:Heap.IsTuple (Shared.heap ⟨hp,g,d,tk,os⟩) l1 xs:=e1
   have L2:Heap.IsTuple (Shared.heap ⟨hp.push { cls:=.type "tuple_iterator",data:=.fields #[.ref l1,.int 0 0] },g,d,tk,os⟩) l2 ys:=Heap.IsTuple.push e2 _
   wp_walk using RS L1,RS L2
   exact⟨_,rfl,h⟩
  |false,true,e1,e2,h=>
   have L1:Heap.IsTuple (Shared.heap ⟨hp,g,d,tk,os⟩) l1 xs:=e1
   have L2:Heap.IsList (Shared.heap ⟨hp.push { cls:=.type "tuple_iterator",data:=.fields #[.ref l1,.int 0 0] },g,d,tk,os⟩) l2 ys:=Heap.IsList.push e2 _
   wp_walk using RS L1,RE L2
   exact⟨_,rfl,h⟩
  |true,false,e1,e2,h=>
   have L1:Heap.IsList (Shared.heap ⟨hp,g,d,tk,os⟩) l1 xs:=e1
   have L2:Heap.IsTuple (Shared.heap ⟨hp.push { cls:=.type "list_iterator",data:=.fields #[.ref l1,.int 0 0] },g,d,tk,os⟩) l2 ys:=Heap.IsTuple.push e2 _
   wp_walk using RE L1,RS L2
   exact⟨_,rfl,h⟩
  |true,true,e1,e2,h=>
   have L1:Heap.IsList (Shared.heap ⟨hp,g,d,tk,os⟩) l1 xs:=e1
   have L2:Heap.IsList (Shared.heap ⟨hp.push { cls:=.type "list_iterator",data:=.fields #[.ref l1,.int 0 0] },g,d,tk,os⟩) l2 ys:=Heap.IsList.push e2 _
   wp_walk using RE L1,RE L2
   exact⟨_,rfl,h⟩
section
variable {ka kb:Bool} {prog:Program} {w:World} {A:Around} {E:Vq} {s:Shared}
def tO{l1 l2:Addr}{xs ys:Vw}{Q:Vq}(e1:Sq ka s.heap l1 xs)(e2:Sq kb s.heap l2 ys)
  (k:∀g,IsZip g (s.heap.objs.size+4) (s.heap.objs.size+2) (s.heap.objs.size+3) .none->IsPair g (s.heap.objs.size+2) (.ref s.heap.objs.size) (.ref (s.heap.objs.size+1))->
   IsPair g (s.heap.objs.size+3) .none .none->Si ka g s.heap.objs.size l1 0->Si kb g (s.heap.objs.size+1) l2 0->
   (∀c o,s.heap.get? c=some o->g.get? c=some o)->Q (.ref (s.heap.objs.size+4)) { s with heap:=g }) :
  wpAny (model prog w) A (call (.type "zip") [.ref l1,.ref l2]) Q E s:=by
 refine callType_new F.called_zip (by decide) (F.typeCall_zip_2 _ _) (F.newCall_zip_2 _ _) (fun obj=>F.args_object_init_3 obj _ _) F.entry_zip_new (rA ka kb l1 l2 xs ys) ⟨e1,e2,?_⟩
 have z1:(H1 ka s.heap l1).objs.size=s.heap.objs.size+1:=Q9 ..
 have z2:(H2 ka kb s.heap l1 l2).objs.size=s.heap.objs.size+2:=by rw[Q9,z1]
 have z3:(H3 ka kb s.heap l1 l2).objs.size=s.heap.objs.size+3:=by rw[Q9,z2]
 have z4:(H4 ka kb s.heap l1 l2).objs.size=s.heap.objs.size+4:=by rw[Q9,z3]
 have g5:(H5 ka kb s.heap l1 l2).get? (H4 ka kb s.heap l1 l2).objs.size=some _:=P9 _ rfl
 have g4:(H5 ka kb s.heap l1 l2).get? (H3 ka kb s.heap l1 l2).objs.size=some _:=PK _ (P9 _ rfl)
 have g3:(H5 ka kb s.heap l1 l2).get? (H2 ka kb s.heap l1 l2).objs.size=some _:=PK _ (PK _ (P9 _ rfl))
 have g2:(H5 ka kb s.heap l1 l2).get? (H1 ka s.heap l1).objs.size=some _:=PK _ (PK _ (PK _ (P9 _ rfl)))
 have g1:(H5 ka kb s.heap l1 l2).get? s.heap.objs.size=some _:=PK _ (PK _ (PK _ (PK _ (P9 _ rfl))))
 show _/\_
 rw[z2,z3,z4]at g5
 rw[z1,z2]at g3
 rw[z3]at g4
 rw[z1]at g2
 rw[z4]
 exact⟨⟨_,g5,rfl⟩,k _ g5 g3 g4 (.mk g1) (.mk g2) fun c o e=>PK _ (PK _ (PK _ (PK _ (PK _ e))))⟩
end
end Zt
namespace L2
open PySem PySem.Spec PyProof.Rows
section
variable {X:Cx} {pins:Va} {σ:St} {H:Hp} {s:Shared} {h':Heap}
def Inv.JS{t':Nat}{fp:List Addr}(I:Inv X pins σ H s)(k:∀b o,b ∉ fp->s.heap.get? b=some o->h'.get? b=some o)(hf:∀b∈fp,G6 X pins H b)(ht:1<=t':=by walk_at "t"):Inv X pins σ H { s with heap:=h',toks:=t' }:=by
 have L_:∀b u,H b=some u->b ∉ fp:=fun b u e z=>by rw[(hf b z).1]at e;cases e
 refine I.step (g':=s.gens) (d':=s.drawn) (ch:=fp) (fun b hb=>?_) (fun b o _ _ hc e _=>k b o hc e) (fun b o _ _ hc e _=>⟨o.slots,k b o hc e⟩) (fun _ _ _ _ n=>n)
  (fun b o hc e=>⟨o,k b o hc e⟩) (fun _ _ e=>e) (fun _ _ _ e=>e) (fun b ps e=>⟨#[],by rw[e];simp⟩) (fun m hm=>?_) (fun b u e=>?_) I.bare
 ·obtain⟨f0,f1,f2,f3,f4,f5⟩:=hf b hb
  exact⟨f3,f1,f4,f5⟩
 ·obtain⟨o,es,ep,ho,r⟩:=hm
  exact⟨o,es,ep,k _ o (fun z=>(hf _ z).2.1 rfl) ho,r⟩
 ·refine(I.hok b u e).stay (fun c v hc q=>k c v ?_ q) (fun _ q=>q) fun _ _ q=>q
  rcases hc with z|z
  ·rw[z];exact L_ b u e
  ·exact L_ c _ z
def Inv.LB{D:Addr}{us:Vv}{ys:List V}(I:Inv X pins σ H s)(f:G6 X pins H D)(e:Hj s.heap D us.toArray)(r:Vals ys us)(hz:ys.length<=sizeLine) :
  Inv X pins σ (upd H D (.tup ys)) s:=by
 obtain⟨f0,f1,f2,f3,f4,f5⟩:=f
 have nD:∀b u,H b=some u->b≠D:=fun b u q=>aM q f0
 have hok:HM X.prog X.w (upd H D (.tup ys)) s.heap:=fun b u q=>by
  by_cases hb:b=D
  ·subst hb
   rw[ar]at q
   cases q
   exact⟨hz,us,r,e⟩
  ·rw[aq hb]at q
   exact(I.hok b u q).stay (fun _ _ _ z=>z) (fun c z=>by rw[aq (nD c _ z)];exact z) fun c xs z=>by rw[aq (nD c _ z)];exact z
 exact I.step (H':=upd H D (.tup ys)) (h':=s.heap) (g':=s.gens) (t':=s.toks) (d':=s.drawn) (ch:=[D])
  (fun b hb=>by
   have z:b=D:=by simpa using hb
   subst z
   exact⟨f3,f1,f4,f5⟩)
  (fun _ _ _ _ _ q _=>q) (fun _ o _ _ _ q _=>⟨o.slots,q⟩)
  (fun b o hb _ n=>by rw[aq (fun z=>hb (by simp[z]))];exact n)
  (fun _ o _ q=>⟨o,q⟩) (fun b xs q=>by rw[aq (nD b _ q)];exact q) (fun b o u q=>by rw[aq (nD b _ q)];exact q)
  (fun b ps q=>⟨#[],by rw[aq (nD b _ q),q];simp⟩) (fun _ q=>q) hok I.bare
end
def rB(kd:Bool)(K:Vo)(H:Hp)(a:Addr)(xs:List V):Prop:=cond kd (SqL K H a xs) (SqT K H a xs)
def Inv.J7{X:Cx}{pins:Va}{σ:St}{H:Hp}{s:Shared}{kd:Bool}{a:Addr}{xs:List V}(I:Inv X pins σ H s)(h:rB kd X.K H a xs):∃its:List Value,Vals xs its/\Zt.Sq kd s.heap a its.toArray:=by
 cases kd with
 |true=>obtain⟨i,r,p,z⟩:=I.list h;exact⟨i,r,p.isList⟩
 |false=>obtain⟨i,r,p,z⟩:=I.tuple h;exact⟨i,r,p⟩
def Inv.Jr{X:Cx}{pins:Va}{σ:St}{H:Hp}{s:Shared}{kd:Bool}{a:Addr}{xs ys:List V}(I:Inv X pins σ H s)(h:rB kd X.K H a xs)(g:rB kd X.K H a ys):xs=ys:=by
 cases kd with
 |true=>exact I.Jq h g
 |false=>exact I.Jb h g
noncomputable def Ff(ka kb:Bool)(K:Vo)(a b:Addr):It:=
  ⟨fun i H=>∃xs ys x y,rB ka K H a xs/\rB kb K H b ys/\xs[i]?=some x/\ys[i]?=some y,
   fun i H v H'=>∃p x y,v = .ref p/\H p=none/\H'=upd H p (.tup [x,y])/\∀xs ys,rB ka K H a xs->rB kb K H b ys->xs[i]?=some x/\ys[i]?=some y,
   fun i H=>∃xs ys,rB ka K H a xs/\rB kb K H b ys/\(xs.length<=i\/ys.length<=i)⟩
def tP{ka kb:Bool}{P:Program}{w:World}{K:Vo}{elts:List Expr}{k0:Nat}{Kw:Pos}{z TI TO i1 i2 a b:Addr}(D:ZipApart z TI TO i1 i2 a b) :
  mL P w K (.Tuple elts k0 Kw) (Ff ka kb K a b) [z,TI,TO,i1,i2] z (fun i h=>IsZip h z TI TO .none/\IsPair h TI (.ref i1) (.ref i2)/\(∃x y,IsPair h TO x y)/\Zt.Si ka h i1 a i/\Zt.Si kb h i2 b i) where
 mem:=by simp
 obj:=fun i h st c hc=>by
  obtain⟨gz,gI,⟨x,y,gO⟩,g1,g2⟩:=st
  obtain⟨o1,_,e1,d1⟩:=g1.ob;obtain⟨o2,_,e2,d2⟩:=g2.ob
  simp only[PM,P7,Qx]at hc
  rcases hc with rfl|rfl|rfl|rfl|rfl
  ·exact⟨_,gz,fun v q=>by cases q⟩
  ·exact⟨_,gI,fun v q=>by cases q⟩
  ·exact⟨_,gO,fun v q=>by cases q⟩
  ·exact⟨_,e1,fun v q=>by rw[d1]at q;cases q⟩
  ·exact⟨_,e2,fun v q=>by rw[d2]at q;cases q⟩
 keep:=fun i h h' st k=>by
  obtain⟨gz,gI,⟨x,y,gO⟩,g1,g2⟩:=st
  exact⟨k z (by simp) _ gz,k TI (by simp) _ gI,⟨x,y,k TO (by simp) _ gO⟩,g1.at fun o e=>k i1 (by simp) o e,g2.at fun o e=>k i2 (by simp) o e⟩
 item:=by
  intro X hP hw hK hc i pins s σ H E I hf st hg
  subst hP hw hK
  obtain⟨gz,gI,⟨ta,tb,gO⟩,g1,g2⟩:=st
  obtain⟨xs,ys,x,y,MP,MQ,hx,hy⟩:=hg
  obtain⟨ia,ra,pa⟩:=I.J7 MP
  obtain⟨ib,rb,pb⟩:=I.J7 MQ
  obtain⟨u,hu,ru⟩:=ra.get hx
  obtain⟨v,hv,rv⟩:=rb.get hy
  refine Zt.rm D gz gI gO g1 g2 pa pb (x:=u) (y:=v) (by simpa using hu) (by simpa using hv) fun g a1 a2 a3 a4 a5 a6=>?_
  refine⟨_,rfl,wpAny_letOwnedTupleGo_zip (s:={ s with heap:=g }) a1 fun g' z' q'=>?_⟩
  have kk:∀c o,c ∉ [z,TI,TO,i1,i2]->s.heap.get? c=some o->g'.get? c=some o:=fun c o hc e=>by
   simp only[PM,P7,Qx,not_or]at hc
   exact q'.extBut _ _ hc.1 (a6 c o hc.1 hc.2.2.1 hc.2.2.2.1 hc.2.2.2.2 e)
  have I1:Inv X pins σ H { s with heap:=g' }:=I.JS (t':=s.toks) kk hf
  have f0:G6 X pins H s.heap.objs.size:=I.Im (PN _) (I.hok.fresh (PN _))
  have eT:Hj g' s.heap.objs.size [u,v].toArray:=⟨_,q'.extBut _ _ (Rp (P5 gz)) a5,rfl,rfl,_,rfl⟩
  have I2:=I1.LB f0 eT (.cons ru (.cons rv .nil)) (by show 2<=sizeLine;decide)
  refine⟨.ref s.heap.objs.size,_,I2,rfl,⟨s.heap.objs.size,x,y,rfl,f0.1,rfl,fun xs' ys' h1 h2=>by rw[I.Jr h1 MP,I.Jr h2 MQ];exact⟨hx,hy⟩⟩,
   ⟨z',q'.extBut _ _ D.TIz (a6 TI _ D.TIz D.TITO D.TIi1 D.TIi2 gI),⟨_,_,q'.extBut _ _ D.TOz a2⟩,a3.extBut q'.extBut D.i1z,a4.extBut q'.extBut D.i2z⟩,fun c hc=>?_⟩
  have hlt:c < s.heap.objs.size:=by
   obtain⟨_,_,e1,_⟩:=g1.ob
   obtain⟨_,_,e2,_⟩:=g2.ob
   simp only[PM,P7,Qx]at hc
   rcases hc with rfl|rfl|rfl|rfl|rfl
   ·exact P5 gz
   ·exact P5 gI
   ·exact P5 gO
   ·exact P5 e1
   ·exact P5 e2
  rw[aq (Qo hlt)]
  exact(hf c hc).1
 done:=by
  intro X hP hw hK hc i pins s σ H E I hf st hg
  subst hP hw hK
  obtain⟨gz,gI,⟨ta,tb,gO⟩,g1,g2⟩:=st
  obtain⟨xs,ys,MP,MQ,hl⟩:=hg
  obtain⟨ia,ra,pa⟩:=I.J7 MP
  obtain⟨ib,rb,pb⟩:=I.J7 MQ
  have la:=ra.length
  have lb:=rb.length
  refine Zt.tN (I.ok.hd hc) D gz gI gO g1 g2 pa pb ?_ fun g kk=>⟨rfl,I.JS (t':=s.toks) (fun c o hc e=>?_) hf⟩
  ·rcases hl with q|q
   ·exact .inl (by simp;omega)
   ·exact .inr (by simp;omega)
  ·simp only[PM,P7,Qx,not_or]at hc
   exact kk c o hc.1 hc.2.2.1 hc.2.2.2.1 hc.2.2.2.2 e
 self:=fun _ _ _ _ _ st h=>wpAny_pyIter_zip st.1 h
section
variable {X:Cx}
def Fg(K:Vo)(ta:TA):TI:=fun σ H R=>ta σ H fun vs H1=>∃ka kb a b,vs=[.ref a,.ref b]/\(∃xs,rB ka K H1 a xs)/\(∃ys,rB kb K H1 b ys)/\R (Ff ka kb K a b) H1
def AF{elts:List Expr}{k0:Nat}{Kw:Pos}{a b:Expr}{ta:TA}{p pos:Pos}(hg:Gl X "zip")(hm:X.mg "zip" = none)(hv:bootBuiltins "zip" = some (.type "zip"))(ha:PA X [a,b] ta)
  (hs:starEach [a,b] X.env=[(false,eval a X.env),(false,eval b X.env)]:=by rfl) (hs2:starEach [b] X.env=[(false,eval b X.env)]:=by rfl):PI X (.Tuple elts k0 Kw) (.Call (.Name "zip" p) [a,b] [] pos) (Fg X.K ta):=by
 intro pins s σ H R I h
 refine Call_ (dX I hg hm hv (QV (GG (ha pos pins s σ H _ I h) fun us s1 ⟨vs,H1,I1,r1,q1⟩=>?_) (by rw[hs,hs2]) (by rw[hs2];rfl)))
 obtain⟨ka,kb,a,b,e,⟨xs,qa⟩,⟨ys,qb⟩,q⟩:=q1
 subst e
 obtain⟨u,v,rfl,ru,rv⟩:=yZ r1
 cases ru
 cases rv
 obtain⟨ia,ra,pa⟩:=I1.J7 qa
 obtain⟨ib,rb,pb⟩:=I1.J7 qb
 have la:a < s1.heap.objs.size:=pa.lt
 have lb:b < s1.heap.objs.size:=pb.lt
 refine Zt.tO pa pb fun g gz gI gO g1 g2 kk=>?_
 refine wpAny_pyIter_zip (s:={ s1 with heap:=g }) gz ?_
 refine⟨_,[s1.heap.objs.size+4,s1.heap.objs.size+2,s1.heap.objs.size+3,s1.heap.objs.size,s1.heap.objs.size+1],_,_,H1,rfl,I1.kept (t':=s1.toks) kk,tP (zipApart_new la lb),⟨gz,gI,⟨_,_,gO⟩,g1,g2⟩,fun c hc=>?_,q⟩
 have hle:s1.heap.objs.size<=c:=by
  simp only[PM,P7,Qx]at hc
  rcases hc with rfl|rfl|rfl|rfl|rfl
  ·exact To _ _
  ·exact To _ _
  ·exact To _ _
  ·exact PN _
  ·exact To _ _
 exact I1.Im hle (I1.hok.fresh hle)
def KD(P:Program)(w:World)(K:Vo)(a:Addr)(kvs:List (aZ×V)):Prop:=(a == sysModules)=false/\∃o vs,K.lookup a=some o/\KV kvs vs/\Obj.IsDictOf (aP P w) o vs
end
section
variable {env:Env} {rest:List Expr} {pos:Pos}
def rC{a:Expr}{gs:List Comprehension}{sc:Scope}:starEach (.ListComp a gs sc pos::rest) env=(false,eval (.ListComp a gs sc pos) env)::starEach rest env:=rfl
end
end L2
namespace Et
open PySem
open Sem (wp)
open AutoSeq1 (wpAny_loadPart')
end Et
namespace L2
open PySem PySem.Spec PyProof.Rows
section
variable {X:Cx}
def AG:eY X (compareOp .Is) (fun x y H Q=>x = .bl true/\y = .bl true/\Q (.bl true) H):=by
 intro pins s σ H x y v u Q I rx ry h
 obtain⟨rfl,rfl,q⟩:=h
 cases (show v=Value.bool true from rx)
 cases (show u=Value.bool true from ry)
 exact wpAny_is_self rfl ⟨.bl true,H,I,rfl,q⟩
def rD:eY X (compareOp .IsNot) (fun x y H Q=>x = .bl true/\y = .bl true/\Q (.bl false) H):=by
 intro pins s σ H x y v u Q I rx ry h
 obtain⟨rfl,rfl,q⟩:=h
 cases (show v=Value.bool true from rx)
 cases (show u=Value.bool true from ry)
 exact wpAny_isNot_self rfl ⟨.bl false,H,I,rfl,q⟩
end
def tQ(w:World)(x:Str):PyData.keyHash w.params x=hashStr w x:=rfl
end L2
namespace Wd
open PySem L2 PyProof.Rows
noncomputable def abc:Str:="abcdefghijklmnopqrstuvwxyz"
noncomputable def GW:List Str:=["jars","deed","rest","pay","put","then","either","take","often","use"]
def AH:∀i,i < 26->abc.cps.toList[i]?=some (97+i):=by decide +kernel
def xp:abc.length<=sizeLine/\abc.cps.toList.length=26:=by decide +kernel
structure Co (z:Str):Prop where
 ne:z.cps.toList≠[]
 le:z.cps.toList.length<=6
 sm:∀c∈z.cps.toList,97<=c/\c<=122
def AI(i:Nat):He abc.cps.toList ((i % 26:Nat):Int)=some (97+i % 26):=dC (AH _ (Nat.mod_lt _ (by decide)))
def ol(cs:List Nat):Txt.join "" (cs.map sgn)=⟨cs.toArray⟩:=by
 have q:=join_nil_signs ⟨cs.toArray⟩
 have e:Txt.join "" (cs.map sgn)=Str.join ⟨#[]⟩ (cs.map sgn):=StrLaws.glued_eq_join _ _
 rw[e]
 exact q
def xq(cs:List Nat):((cs.map sgn).map (·.length)).sum=cs.length:=by
 induction cs with
 |nil=>rfl
 |cons c r ih=>rw[PL,PL,RY,ih,Qa];show 1+r.length=_;omega
end Wd
namespace M3
noncomputable def ji(t b:Int):Int:=(if b < 0 then -t else t) / (Int.gcd t b:Int)
noncomputable def ki(t b:Int):Int:=(if b < 0 then -b else b) / (Int.gcd t b:Int)
def fX{t b:Int}(h:b≠0):0 < Int.gcd t b:=Nat.gcd_pos_of_pos_right _ (by omega)
def AJ{t b:Int}(h:b≠0):(Int.gcd t b:Int)<=b.natAbs:=by
 have q:Nat.gcd t.natAbs b.natAbs<=b.natAbs:=Nat.gcd_le_right _ (by omega)
 have e:Int.gcd t b=Nat.gcd t.natAbs b.natAbs:=rfl
 omega
def tR(t b:Int):Int.gcd (-t) (-b)=Int.gcd t b:=by rw[Int.gcd_neg,Int.neg_gcd]
def parts(t b:Int):∃x y:Int,t=(Int.gcd t b:Int) * x/\b=(Int.gcd t b:Int) * y:=by
 obtain⟨x,hx⟩:=Int.gcd_dvd_left t b
 obtain⟨y,hy⟩:=Int.gcd_dvd_right t b
 exact⟨x,y,hx,hy⟩
def AK{t b x y g:Int}(hg:g=(Int.gcd t b:Int))(h:b≠0)(ht:t=g * x)(hb:b=g * y):ji t b=(if y < 0 then -x else x)/\ki t b=(if y < 0 then -y else y):=by
 have gp:0 < g:=by rw[hg];exact TU.mpr (fX h)
 have hy:b < 0↔y < 0:=by
  rw[hb]
  constructor
  ·intro q
   by_cases z:y < 0
   ·exact z
   ·have:=Int.mul_nonneg (T6 gp) (Int.not_lt.mp z)
    omega
  ·intro q
   exact Int.mul_neg_of_pos_of_neg gp q
 unfold ji ki
 rw[<-hg]
 by_cases z:y < 0
 ·rw[if_pos (hy.mpr z),if_pos (hy.mpr z),if_pos z,if_pos z]
  constructor
  ·rw[ht,<-Int.mul_neg,RG _ (by omega)]
  ·rw[hb,<-Int.mul_neg,RG _ (by omega)]
 ·rw[if_neg (fun q=>z (hy.mp q)),if_neg (fun q=>z (hy.mp q)),if_neg z,if_neg z]
  constructor
  ·rw[ht,RG _ (by omega)]
  ·rw[hb,RG _ (by omega)]
def xr{t b x y:Int}(h:b≠0)(ht:t=(Int.gcd t b:Int) * x)(hb:b=(Int.gcd t b:Int) * y):Int.gcd x y=1:=by
 have gp:=fX (t:=t) h
 have q:Int.gcd ((Int.gcd t b:Int) * x) ((Int.gcd t b:Int) * y)=(Int.gcd t b:Int).natAbs * Int.gcd x y:=Int.gcd_mul_left _ _ _
 rw[<-ht,<-hb,Int.natAbs_natCast]at q
 have q2:Int.gcd t b * 1=Int.gcd t b * Int.gcd x y:=by omega
 exact(Nat.eq_of_mul_eq_mul_left gp q2).symm
structure Fh (a b:Int):Prop where
 pos:0 < b
 one:Int.gcd a b=1
def pJ{t b:Int}(h:b≠0):Fh (ji t b) (ki t b):=by
 obtain⟨x,y,ht,hb⟩:=parts t b
 have c:=xr h ht hb
 obtain⟨e1,e2⟩:=AK rfl h ht hb
 have y0:y≠0:=fun z=>h (by rw[hb,z,Int.mul_zero])
 rw[e1,e2]
 by_cases z:y < 0
 ·rw[if_pos z,if_pos z]
  exact⟨by omega,by rw[tR];exact c⟩
 ·rw[if_neg z,if_neg z]
  exact⟨by omega,c⟩
def tS{t b:Int}(h:b≠0):t.fdiv (if b < 0 then -(Int.gcd t b:Int) else (Int.gcd t b:Int))=ji t b/\b.fdiv (if b < 0 then -(Int.gcd t b:Int) else (Int.gcd t b:Int))=ki t b:=by
 have gp:(0:Int) < (Int.gcd t b:Int):=TU.mpr (fX h)
 have d1:=Int.gcd_dvd_left t b
 have d2:=Int.gcd_dvd_right t b
 unfold ji ki
 by_cases z:b < 0
 ·rw[if_pos z,if_pos z,if_pos z,Int.fdiv_neg (by omega),if_pos d1,Int.fdiv_neg (by omega),if_pos d2,RM d1,RM d2,Int.neg_ediv_of_dvd d1,Int.neg_ediv_of_dvd d2]
  exact⟨rfl,rfl⟩
 ·rw[if_neg z,if_neg z,if_neg z,RM d1,RM d2]
  exact⟨rfl,rfl⟩
def mT(x y:Int):Int.gcd y (x.fmod y)=Int.gcd x y:=by
 have q:=Int.mul_fdiv_add_fmod x y
 have e:Int.gcd y (x.fmod y+x.fdiv y * y)=Int.gcd y (x.fmod y):=Int.gcd_add_mul_right_right _ _ _
 rw[<-e,Int.mul_comm (x.fdiv y) y,Int.add_comm,q,Int.gcd_comm]
def tT{t b T B:Int}(h:b≠0)(h1:-T<=t)(h2:t<=T)(h3:-B<=b)(h4:b<=B)(hT:0<=T)(hB:0<=B):-T<=ji t b/\ji t b<=T/\0 < ki t b/\ki t b<=B:=by
 have gp:(0:Int) < (Int.gcd t b:Int):=TU.mpr (fX h)
 have L:=(pJ (t:=t) h).pos
 have key:∀z M:Int,0<=M->-M<=z->z<=M->-M<=z / (Int.gcd t b:Int)/\z / (Int.gcd t b:Int)<=M:=fun z M hM z1 z2=>by
  generalize (Int.gcd t b:Int)=g at gp
  have m2:M * 1<=M * g:=Int.mul_le_mul_of_nonneg_left (by omega) hM
  have m3:-M * g = -(M * g):=Int.neg_mul M g
  exact⟨Int.le_ediv_of_mul_le gp (by omega),Int.ediv_le_of_le_mul gp (by omega)⟩
 have k1:=key (if b < 0 then -t else t) T hT (by split<;>omega) (by split<;>omega)
 have k2:=key (if b < 0 then -b else b) B hB (by split<;>omega) (by split<;>omega)
 exact⟨k1.1,k1.2,L,k2.2⟩
end M3
namespace Xc
open PySem PySem.W PySem.Calls PyProof.Rows Builtin Builtin.ObjectAttr
noncomputable abbrev AL:List Value:=[.type "ValueError",.type "Exception",.type "BaseException",.type "object"]
noncomputable def iy(K:Frag)(C:Addr):Bool:=match K.lookup C with
 |some ⟨.type "type",_,.cls cd,sl⟩=>(match cd.mro,sl.toList with
  | .ref C'::bm,[_,_,_,_,some (.builtin n),_]=>C' == C&&n == "ValueError.__new__" && !cd.hasDel&&cd.hasDict&&tailIn K AL bm
  |_,_=>false)
 |_=>false
def om{K:Frag}{h:Heap}{C:Addr}(X:K.In h)(q:iy K C=true):∃nm qn N bs bm sn sub ab col dd k0 k1 k2 k3 k5,
  K.lookup C=some (excClassObj nm qn C N bs bm true sn sub ab col dd k0 k1 k2 k3 k5 "ValueError.__new__")/\OwnTail h AL bm:=by
 unfold iy at q
 split at q
 ·rename_i dd cd sl ho
  split at q
  ·rename_i C' bm k0 k1 k2 k3 n k5 hm hs
   simp only[Qs,SA,Ue]at q
   obtain⟨⟨⟨⟨rfl,rfl⟩,Mg⟩,hdct⟩,ht⟩:=q
   obtain⟨nm,bs,mro,ns,qn,hd,sn,sub,ab,col,del⟩:=cd
   dsimp only at hm Mg hdct
   subst hm Mg hdct
   have hsl:sl=#[k0,k1,k2,k3,some (.builtin "ValueError.__new__"),k5]:=by
    obtain⟨l⟩:=sl
    simp only at hs
    rw[hs]
   subst hsl
   exact⟨nm,qn,ns,bs,bm,sn,sub,ab,col,dd,k0,k1,k2,k3,k5,ho,tail_of_in X ht⟩
  ·cases q
 ·cases q
noncomputable abbrev dG(rest:Vv):Obj:={ cls:=.type "tuple",data:=.seq rest.toArray }
noncomputable abbrev dH(C:Addr)(t:Addr):Obj:={ cls:=.ref C,data:=.fields #[.ref t,.none,.none,.none,.bool false,.none] }
section
variable {prog:Program} {w:World} {A:Around} {K:Frag} {C f:Addr} {R:Result->Shared->Prop} {h:Heap} {g:Array GenState} {d:Drawn} {t:Nat} {os:OsState}
def tU{rest:Vv}(X:K.In h)(q:iy K C=true)(hi:findIn K (.ref C) "__init__" = some (some (.ref f)))(hf:typeIn K (.ref f)=some (.type "function"))(hrest:rest.length<=sizeLine)
  (hq:codeAny (model prog w) (A.under (.builtin "type.__call__" ⟨.ref C::rest,[]⟩)) (.call (.ref f) ⟨.ref (h.objs.size+1)::rest,[]⟩) (InitBack (h.objs.size+1) R) ⟨(h.push (dG rest)).push (dH C h.objs.size),g,d,t,os⟩) :
  codeAny (model prog w) A (.call (.ref C) ⟨rest,[]⟩) R ⟨h,g,d,t,os⟩:=by
 obtain⟨nm,qn,N,bs,bm,sn,sub,ab,col,dd,k0,k1,k2,k3,k5,hK,T⟩:=om X q
 have hC:=X _ _ hK
 have F0:=PySem.F.excBase_ValueError
 have f1:=tc_lookup
 have f2:=tc_bind (.ref C)
 have hT:(⟨h,g,d,t,os⟩:Shared).TypeIs (.ref C) "type":=⟨_,hC,rfl⟩
 refine codeAny_of_tree ?_
 show wpAny _ _ (callAny (.ref C) _) _ _ _
 repeat (any_goals (first|assumption|with_reducible refine SR hC ?_|wp_step))
 refine⟨rfl,?_⟩
 refine codeAny_call_builtin_at (Code.quiet_builtin _ (by decide +kernel)) entry_typeCall (wpAny_check_type_call_sub hC ?_)
 repeat (first|with_reducible refine SR hC ?_|with_reducible refine wpAny_madeBy_exc hC ?_|wp_step)
 refine codeAny_call_builtin_code (Code.quiet_builtin _ F0.quiet) (wpAny_check_new_subU F0 F0.hasB T hC ?_)
 refine codeAny_exc_new_subU F0 F0.hasB F0 T hC ?_ hrest
 show wpAny _ _ _ _ _ _
 have k:∀b o,h.get? b=some o->((h.push (dG rest)).push (dH C h.objs.size)).get? b=some o:=fun b o e=>PK _ (PK _ e)
 have hx:((h.push (dG rest)).push (dH C h.objs.size)).get? (h.objs.size+1)=some (dH C h.objs.size):=by heap_get
 have t1:Looks (model prog w) ((h.push (dG rest)).push (dH C h.objs.size)) (typeOf (.ref (h.objs.size+1))) (.ref C):=(Looks.ld hx).andThen .now
 have hC₁:=k _ _ hC
 have hcC:(Value.ref C::bm).contains (.ref C)=true:=by simp
 have i1:=(looks_findIn (M:=model prog w) X hi).keeps k
 have b1:=(bind_fn (M:=model prog w) X (.ref (h.objs.size+1)) hf).keeps k
 show wpAny (model prog w) (A.under (.builtin "type.__call__" ⟨.ref C::rest,[]⟩)) _ _ _ ⟨(h.push (dG rest)).push (dH C h.objs.size),g,d,t,os⟩
 unfold isInstance callSpecial? specialOf
 repeat (first|with_reducible refine Tn ?_|simp only[hcC,RH,Qd,QN]|lk)
 refine RP hq fun r s' z=>?_
 rcases r with e|(v|_|_|_)<;>first|exact z|exact z.elim|skip
 obtain⟨rfl,z⟩:=z
 exact PU (PU z)
end
structure tV (h:Heap) (e:Addr) (oe:Obj) (vs:Vw):Prop where
 at_:h.get? e=some oe
 dat:oe.data = .fields vs
 tb:vs[1]?=some .none\/∃T oT ts,vs[1]?=some (.ref T)/\T≠e/\h.get? T=some oT/\oT.data = .fields ts/\ts[3]?=some .none
section
variable {M:Model} {A:Around} {E:Vq} {s:Shared}
noncomputable abbrev Ey(l:List Env):List Addr:=l.filterMap (·.frame)
structure pK (l:List Env) (e:Addr) (oe:Obj) (old:Addr->Prop) (h h':Heap):Prop where
 lies:∃Lc vs' T oT ts,h'.get? e=some Lc/\Lc.cls=oe.cls/\Lc.dict=oe.dict/\Lc.data = .fields vs'/\vs'[1]?=some (.ref T)/\h.objs.size<=T/\T≠e/\h'.get? T=some oT/\oT.data = .fields ts/\ts[3]?=some .none
 keep:∀b o,b≠e->¬old b->b ∉ Ey l->h.get? b=some o->h'.get? b=some o
 slot:∀b o,b∈Ey l->h.get? b=some o->∃sl,h'.get? b=some { o with slots:=sl }
def kG{base:Heap}{env:Env}{outer:List Env}{L e:Addr}{oe:Obj}{vs:Vw}{head:Value}{hadNext:Bool}{Q:Unit->Shared->Prop}
  (hfr:A.frames=some (env::outer)) (hl:s.heap.FunFrames base (env::outer)) (hf:env.frame=some L) (he:s.heap.get? e=some oe) (hd:oe.data = .fields vs) (hsz:1 < vs.size)
  (h:∀h',pK (env::outer) e oe (fun _=>False) s.heap h'->Q () { s with heap:=h' }) :
  wpAny M A (do let a <-frameOf env;let pl <-entryPlaceOf L hadNext;let b <-EntryCells.newEntry head a .none (rawInt L) .none pl;setField (.ref e) 1 b) (fun _ s'=>wpAny M A (setFlight (.ref e) none) Q E s') E s:=by
 have Mh:e ∉ (env::outer).filterMap (·.frame):=fun hm=>by
  obtain⟨_,o,ho,hnf⟩:=hl.mem hm
  rw[he]at ho;injection ho with ho;subst ho;exact hnf vs hd
 refine PJ (wpAny_frameOf_fun hfr hl hf fun h₁ hs₁=>?_)
 refine PJ (wpAny_entryPlaceOf fun pl hpl=>?_)
 unfold EntryCells.newEntry newFields
 refine PJ (Q4 ?_ (hpl.sizeOk5 _ _ _ _ _))
 have N9:h₁.get? e=some oe:=(hs₁.2.1 e Mh).trans he
 have N_:=PK (h:=h₁) { cls:=.type "traceback",dict:=none,data:=.fields ([head,.ref L,.none,rawInt L,.none]++(if pl.isEmpty then List.replicate 6 Value.none else pl)).toArray } N9
 refine SQ N_ hd hsz ?_
 have Mi:h₁.objs.size≠e:=Rp (P5 N9)
 have hd₃:=RQ hd (·.setIfInBounds 1 (Value.ref h₁.objs.size))
 have Oa:=Rb (Obj.mapFields (·.setIfInBounds 1 (Value.ref h₁.objs.size))) N_ (Th hd₃)
 have Oc:=(QA (h₁.push { cls:=.type "traceback",dict:=none,data:=.fields ([head,.ref L,.none,rawInt L,.none]++(if pl.isEmpty then List.replicate 6 Value.none else pl)).toArray })
  (Obj.mapFields (·.setIfInBounds 1 (Value.ref h₁.objs.size))) (QK Mi)).trans (P9 h₁ rfl)
 unfold setFlight
 refine PJ (QE Oa hd₃ (x:=.ref h₁.objs.size) (by simp[hsz]) ?_)
 rw[if_pos (show(Value.ref h₁.objs.size != Value.none)=true from by simp)]
 refine SQ Oc rfl (by simp only[P8,PX,List.length_cons,List.length_nil]<;>omega) (h _ ?_)
 have keep:∀b o,b≠e->h₁.get? b=some o->
   (((h₁.push { cls:=.type "traceback",dict:=none,data:=.fields ([head,.ref L,.none,rawInt L,.none]++(if pl.isEmpty then List.replicate 6 Value.none else pl)).toArray }).update e (Obj.mapFields (·.setIfInBounds 1 (Value.ref h₁.objs.size)))).update h₁.objs.size
    (Obj.mapFields (·.setIfInBounds 3 ((none:Option Addr).elim Value.none fun f=>rawInt f)))).get? b=some o:=fun b o J4 hb=>by
  have OJ:h₁.objs.size≠b:=Rp (P5 hb)
  rw[QA _ _ OJ,QA _ _ (QK J4)]
  exact PK _ hb
 refine⟨⟨_,_,h₁.objs.size,_,_,?_,Obj.cls_mapFields _ _,?_,hd₃,by simp[hsz],Nat.le_of_eq hs₁.1.symm,Mi,Rb _ Oc (Th (RQ rfl _)),RQ rfl _,by first|(simp;done)|(rcases hpl with rfl|⟨_,_,_,_,_,_,_,rfl⟩<;>simp)⟩,fun b o J4 _ Ld hb=>keep b o J4 ((hs₁.2.1 b Ld).trans hb),fun b o Ld hb=>?_⟩
 ·rw[QA _ _ Mi];exact Oa
 ·obtain⟨c,dd,da,sl⟩:=oe;cases hd;rfl
 ·obtain⟨sl,hs⟩:=hs₁.2.2 b o hb
  exact⟨sl,keep b _ (fun z=>Mh (z▸Ld)) hs⟩
def fY(vs:Vw)(b:Addr):Prop:=vs[1]?=some (.ref b)
def pL{base:Heap}{env:Env}{outer:List Env}{L e:Addr}{oe:Obj}{vs:Vw}{Q:Unit->Shared->Prop}
  (hfr:A.frames=some (env::outer)) (hl:s.heap.FunFrames base (env::outer)) (hf:env.frame=some L) (x:tV s.heap e oe vs)
  (h:∀h',pK (env::outer) e oe (fY vs) s.heap h'->Q () { s with heap:=h' }) :
  wpAny M A (noteFrame (.ref e) env) (fun _ s'=>wpAny M A (setFlight (.ref e) none) Q E s') E s:=by
 obtain⟨he,hd,h1|⟨T,oT,ts,h1,Mi,hT,MR,h3⟩⟩:=x
 ·unfold noteFrame
  simp only[hf]
  refine PJ (QE he hd h1 ?_)
  rw[if_neg (by decide)]
  refine kG hfr hl hf he hd (Ru.mp h1).1 fun h' n=>h h' ⟨n.lies,fun b o hb _=>n.keep b o hb id,n.slot⟩
 ·unfold noteFrame
  simp only[hf]
  refine PJ (QE he hd h1 ?_)
  rw[if_pos (show(Value.ref T != Value.none)=true from by simp)]
  refine PJ (QE hT MR h3 ?_)
  rw[if_neg (show ¬((Value.none == rawInt L)=true)from by simp[rawInt])]
  refine PJ (SQ hT MR (Ru.mp h3).1 ?_)
  have other:∀b,b≠T->(s.heap.update T (Obj.mapFields (·.setIfInBounds 3 Value.none))).get? b=s.heap.get? b:=fun b hb=>QA _ _ (QK hb)
  have Kx:∀b o,s.heap.get? b=some o->(∀vs,o.data ≠ .fields vs)->b≠T:=fun b o hb hnf q=>by
   rw[q,hT]at hb;injection hb with hb;subst hb;exact hnf ts MR
  refine kG hfr (hl.of_keeps fun b o hb hnf=>⟨o,(other b (Kx b o hb hnf)).trans hb,rfl⟩) hf ((other e (QK Mi)).trans he) hd (Ru.mp h1).1 fun h' n=>h h' ⟨?_,fun b o hb ho Ld q=>n.keep b o hb id Ld ((other b fun z=>ho (by rw[z];exact h1)).trans q),fun b o Ld q=>n.slot b o Ld ((other b fun z=>?_).trans q)⟩
  ·obtain⟨Lc,vs',T',OK,ts',a1,a2,a3,a4,a5,a6,a7⟩:=n.lies
   exact⟨Lc,vs',T',OK,ts',a1,a2,a3,a4,a5,by simpa [Heap.size_after_update]using a6,a7⟩
  ·obtain⟨_,o',ho',hnf⟩:=hl.mem Ld
   rw[z,hT]at ho';injection ho' with ho';subst ho';exact hnf ts MR
def tW{base:Heap}{env:Env}{outer:List Env}{L e:Addr}{oe:Obj}{vs:Vw}{Q:Unit->Shared->Prop}
  (hfr:A.frames=some (env::outer)) (hl:s.heap.FunFrames base (env::outer)) (hf:env.frame=some L) (x:tV s.heap e oe vs)
  (h:∀h',pK (env::outer) e oe (fY vs) s.heap h'->Q () { s with heap:=h' }):wpAny M A (leaving env (.ref e)) Q E s:=by
 unfold leaving
 exact PJ (pL hfr hl hf x h)
end
section
variable {M:Model} {A:Around} {E:Vq} {env:Env} {K:Frag} {C:Addr}
def rE{s:Shared}{x:Sem Value}{Q:Flow->Shared->Prop}(q:iy K C=true)(hh:A.handled=none)
  (h:wpAny M A x (fun v s₁=>∃e oe vs,v = .ref e/\K.In s₁.heap/\s₁.heap.get? e=some oe/\oe.cls = .ref C/\oe.data = .fields vs/\vs[1]?=some .none/\E (.ref e) s₁) E s) :
  wpAny M A (raiseStmt env (some x) none) Q E s:=by
 unfold raiseStmt
 refine PJ (Rg h (fun v s₁ h₁=>?_) fun _ _ x=>x)
 obtain⟨e,oe,vs,rfl,X,he,hc,hd,h1,hE⟩:=h₁
 obtain⟨nm,qn,N,bs,bm,sn,sub,ab,col,dd,k0,k1,k2,k3,k5,hK,T⟩:=om X q
 have hC:=X _ _ hK
 obtain⟨hp,g,d,tk,os⟩:=s₁
 have OL:(Value.ref C::bm).contains (.type "BaseException")=true:=by rw[SD,T.hasType PySem.F.excBase_ValueError.hasBase];rfl
 have OM:(Value.ref C::bm).contains (.type "type")=false:=by rw[SD,T.hasType (b:=false) (by decide +kernel)];rfl
 repeat (first|(with_reducible refine SR he ?_;rw[hc])|with_reducible refine SR hC ?_|(with_reducible refine wpAny_isSubtype_exc hC ?_;first|rw[OL]|rw[OM])|with_reducible refine QE he hd h1 ?_|wp_step)
 exact wpAny_raiseNew_none hh hE
end
structure ExcK (K:Frag) (C:Addr):Prop where
 ok:iy K C=true
 sa:findIn K (.ref C) "__setattr__" = some (some (.builtin "object.__setattr__"))
 ga:findIn K (.ref C) "__getattribute__" = some (some (.builtin "BaseException.__getattribute__"))
 gh:findIn K (.ref C) "__getattr__" = some none
 be:mroIn K C (.type "BaseException")=some true
 ob:mroIn K C (.type "object")=some true
 cl:findIn K (.ref C) "__class__" = some (some (.builtin "object.__class__"))
 cg:specialIn K (.builtin "object.__class__") "__get__" = some (some (.builtin "getset_descriptor.__get__"))
 ct:takesIn K (.builtin "object.__class__")=some true
def ExcK.dict{K:Frag}{C:Addr}(k:ExcK K C):hasDictIn K C=true:=by
 have q:=k.ok
 unfold iy at q
 unfold hasDictIn clsIn
 split at q
 ·rename_i dd cd sl ho
  rw[ho]
  split at q
  ·simp only[Qs]at q
   exact q.1.2
  ·cases q
 ·cases q
section
variable {prog:Program} {w:World} {A:Around} {E:Vq} {s:Shared} {K:Frag} {x C:Addr} {ox:Obj} {od:Option Obj} {name:Str} {expr:Bool} {Q:Vq}
def tX{M:Model}{nameV:Value}{Q:Unit->Shared->Prop}(X:K.In s.heap)(I:InstAt s.heap x ox C od)(k:ExcK K C)(hq:Q () s) :
  wpAny M A (checkBuiltinCall "BaseException.__getattribute__" ⟨[.ref x,nameV],[]⟩) Q E s:=
 @check_slot M A E s "BaseException.__getattribute__" "BaseException" "__getattribute__" (.ref x) [nameV] [] Q (by decide +kernel) (by decide +kernel) (I.type.andThen (looks_mroIn X k.be)) (F.args_bexc_ga (.ref x) nameV) hq
def tY{nameV:Value}{fill:Bool}(X:K.In s.heap)(I:InstAt s.heap x ox C od)(k:ExcK K C)
  (h:codeAny (model prog w) A (.call (.builtin "BaseException.__getattribute__") ⟨[.ref x,nameV],[]⟩) (fun r s'=>match r with | .ok (.ret v)=>wpAny (model prog w) A (handedOut v) Q E s'|_=>False) s) :
  wpAny (model prog w) A (getAttrBy (.ref x) nameV fill expr) Q E s:=by
 obtain⟨hh,g,d,t,os⟩:=s
 have L0:=I.type (M:=model prog w)
 have L1:=looks_findIn (M:=model prog w) X k.ga
 have L2:=looks_findIn (M:=model prog w) X k.gh
 have f3:=F.attr_ValueError.ga.bind (.ref x)
 have ON:(expr&&onTheHeap (Value.builtin "BaseException.__getattribute__"))=false:=by cases expr<;>rfl
 have OO:(Value.builtin "BaseException.__getattribute__" == Value.builtin "object.__getattribute__")=false:=by decide +kernel
 have OP:(onTheHeap (Value.ref C)&&Value.builtin "BaseException.__getattribute__" == Value.builtin "object.__getattribute__")=false:=by rw[OO];rfl
 unfold getAttrBy
 refine Rq (PJ (L0.at (PJ (L1.at ?_))))
 dsimp only
 rw[if_neg (by rw[OP];decide)]
 unfold getAttrByItsOwn hookBefore
 refine PJ ?_
 show wpAny _ _ (typeLookup (.ref C) "__getattr__") _ _ _
 refine L2.at (PJ (wpAny_attempt (Rq ?_)))
 unfold callGetattribute
 rw[if_neg (by rw[ON];decide)]
 unfold boundAndCalled
 rw[f3]
 refine PJ (PU (Tn (RP h fun r s' z=>?_)))
 rcases r with e|(v|_|_|_)<;>first|exact z.elim|exact z
def tZ{nameV:Value}{R:Result->Shared->Prop}(X:K.In s.heap)(I:InstAt s.heap x ox C od)(k:ExcK K C)
  (h:wpAny (model prog w) A.in1 (Builtin.«object.__getattribute__» ⟨[.ref x,nameV],[]⟩) (fun fin s'=>match fin with | .done f=>R (.ok f) s' | .again c'=>c'.quiet=true/\codeAny (model prog w) A c' R s') (fun e s'=>R (.error e) s') s) :
  codeAny (model prog w) A (.call (.builtin "BaseException.__getattribute__") ⟨[.ref x,nameV],[]⟩) R s:=
 codeAny_call_builtin F.attr_ValueError.ga.plain F.entry_bexc_ga (tX X I k h)
def xt{v:Value}(X:K.In s.heap)(I:InstAt s.heap x ox C od)(k:ExcK K C)(hf:findObj K C od name=some (.value v))(hh:handedIn v=true)(h:Q v { s with toks:=s.toks+1 }) :
  wpAny (model prog w) A (getAttr (.ref x) name expr) Q E s:=by
 unfold getAttr
 refine PJ (wpAny_mkText ?_)
 refine tY (s:={ s with toks:=s.toks+1 }) X I k (tZ (s:={ s with toks:=s.toks+1 }) X I k ?_)
 obtain⟨hh',g,d,t,os⟩:=s
 have L0:=I.type (M:=model prog w)
 have L1:=looks_find (M:=model prog w) X I hf
 unfold Builtin.«object.__getattribute__»
 refine PJ (PU (PJ (PU (PJ (L0.at (PJ (L1.at ?_)))))))
 refine PU ?_
 show wpAny _ _ (handedOut v) _ _ _
 rw[handedOut_of hh];exact PU h
def rF{od:Obj}{Q:Option Value->Shared->Prop}(X:K.In s.heap)(I:InstAt s.heap x ox C (some od))(k:ExcK K C)(h:Q (some (.ref C)) { s with toks:=s.toks+1 }) :
  wpAny (model prog w) A (getAttr? (.ref x) "__class__") Q E s:=by
 have hf:findObj K C (some od) "__class__" = some (.bind (.builtin "getset_descriptor.__get__") (.builtin "object.__class__")):=findObj_data (by obtain⟨cd,hc,_⟩:=any_some k.dict;rw[hc];rfl) k.cl k.cg k.ct
 unfold getAttr? getAttrBy?
 refine PJ (wpAny_mkText (PJ (wpAny_attempt ?_)))
 refine tY (s:={ s with toks:=s.toks+1 }) X I k (tZ (s:={ s with toks:=s.toks+1 }) X I k ?_)
 obtain⟨hh',g,d,t,os⟩:=s
 have L0:=I.type (M:=model prog w)
 have L1:=looks_find (M:=model prog w) X I hf
 unfold Builtin.«object.__getattribute__»
 refine PJ (PU (PJ (PU (PJ (L0.at (PJ (L1.at ?_)))))))
 show wpAny _ _ (holding [Value.builtin "object.__class__"] (call (.builtin "getset_descriptor.__get__") [.builtin "object.__class__",.ref x,.ref C]) >>= ret) _ _ _
 refine PJ (Rq (Tn (class_get (s:=⟨hh',g,d,t+1,os⟩) (ox:=ox) (od:=some od) X I k.ob ?_)))
 refine PU ?_
 show wpAny _ _ (handedOut (.ref C)) _ _ _
 rw[handedOut_of rfl];exact PU (PU h)
end
def jj{K:Frag}{x C:Addr}{ox od:Obj}(k:ExcK K C):KitX K (.ref x) (.ref C) (fun h=>InstAt h x ox C (some od)) where
 ty:=fun _ _ _ I=>I.type
 it:=fun _ _ X _=>by
  obtain⟨cdD,J8,_⟩:=any_some k.dict
  unfold clsIn at J8
  split at J8
  ·rename_i c' d' Oe sl' ho
   intro A' Q' E' s' k q
   unfold isType loadHead
   exact PJ (wpAny_loadPart (k _ _ (X _ _ ho)) (PU q))
  ·cases J8
 ne:=fun h tp dd its n sl X htp=>by
  obtain⟨cdD,J8,_⟩:=any_some k.dict
  refine Bool.eq_false_iff.mpr fun q=>?_
  have e:C=tp:=Value.ref.inj (SA.mp q)
  subst e
  unfold clsIn at J8
  split at J8
  ·rename_i c' d' Oe sl' ho
   have z:=(X _ _ ho).symm.trans htp
   cases z
  ·cases J8
 ca:=fun X I q=>rF X I k q
def mU(self:Value){h:Heap}{l:Vv}(T:OwnTail h AL l):refuseLoop self "__setattr__" l=pure ():=by
 induction T with
 |base=>exact PySem.F.store_ValueError.passes self
 |own _ _ _ _ ih=>rw[refuseLoop_ref];exact ih
section
variable {prog:Program} {w:World} {A:Around} {E:Vq} {s:Shared} {K:Frag} {x C:Addr} {ox:Obj} {od:Option Obj} {name:Str} {v:Value} {R:Result->Shared->Prop}
def xu{tk:Tok}{r:Option Value}(X:K.In s.heap)(I:InstAt s.heap x ox C od)(k:ExcK K C)(ht:takerIn K C name=some r)
  (h:∀b,wpAny (model prog w) A.in1 (match r with|some a=>setByDescriptor a (.ref x) v|none=>storeInOwnDict (.ref x) (.ref C) (.str name tk) name v b)
   (fun fin s'=>match fin with | .done f=>R (.ok f) s' | .again c'=>c'.quiet=true/\codeAny (model prog w) A c' R s') (fun e s'=>R (.error e) s') s) :
  codeAny (model prog w) A (.call (.builtin "object.__setattr__") ⟨[.ref x,.str name tk,v],[]⟩) R s:=by
 have SF:=PySem.F.store_object
 obtain⟨nm,qn,N,bs,bm,sn,sub,ab,col,dd,k0,k1,k2,k3,k5,hK,T⟩:=om X k.ok
 have hc:clsIn K C=some { name:=nm,bases:=bs,mro:=.ref C::bm,ns:=N,qualname:=qn,hasDict:=true,slotNames:=sn,subclasses:=sub,abstract:=ab,collection:=col,hasDel:=false }:=by unfold clsIn;rw[hK]
 have sub:Looks (model prog w) s.heap (isInstance (.ref x) (.type "object")) true:=I.type.andThen (looks_mroIn X k.ob)
 refine codeAny_call_builtin SF.slot.plain SF.entry (@check_slot (model prog w) _ _ s "object.__setattr__" "object" "__setattr__" (.ref x) [.str name tk,v] [] _ SF.kind SF.split sub (SF.args (.ref x) (.str name tk) v) ?_)
 obtain⟨attr,ha,hr⟩:=SH.mp ht
 have hm:Looks (model prog w) s.heap (mroOf (.ref C)) (.ref C::bm):=(looks_clsIn X hc).andThen .now
 have L3:Looks (model prog w) s.heap (storeTaker? attr) r:=by
  cases attr with
  |none=>cases hr;exact .now
  |some a=>
   obtain⟨b,hb,rfl⟩:=Qz.mp hr
   refine(looks_takesIn X hb).andThen ?_
   cases b<;>exact .now
 rw[osa_eq,refuse_eq]
 refine PJ (PJ (I.type.here (PJ (hm.here ?_))))
 rw[refuseLoop_ref,mU _ T]
 refine PU (PJ (I.type.here (PJ ((looks_findIn X ha).here (PJ (L3.here ?_))))))
 exact h _
def t0{Q:Unit->Shared->Prop}(X:K.In s.heap)(hx:s.heap.get? x=some ox)(hcl:ox.cls = .ref C)(hno:∀c,ox.data ≠ .cls c)(hd:ox.dict=none)(k:ExcK K C)(ht:takerIn K C name=some none)
  (h:∀h',h'.Ns1 s.heap.objs.size (fun y=>if y=name then some v else none)->h'.get? x=some { ox with dict:=some s.heap.objs.size }->(∀b o,b≠x->s.heap.get? b=some o->h'.get? b=some o)->Q () { s with heap:=h',toks:=s.toks+2 }) :
  wpAny (model prog w) A (setAttr (.ref x) name v) Q E s:=by
 have I:InstAt s.heap x ox C none:=⟨hx,hcl,by obtain⟨a,b,c,d⟩:=ox;cases c<;>first|rfl|exact absurd rfl (hno _),by rw[hd];trivial⟩
 refine set_plain X I k.sa (xu (s:={ s with toks:=s.toks+1 }) X I k ht fun b=>?_)
 obtain⟨cd,hc,hd'⟩:=any_some k.dict
 obtain⟨oc,odd,Np,osl⟩:=ox
 dsimp only at hcl hd hno
 subst hcl hd
 obtain⟨hp,g,d,t,os⟩:=s
 unfold storeInOwnDict ownDictForStores instanceDict
 refine PJ (PU (PJ (PJ (wpAny_loadPart hx (PJ (Looks.here (s:=⟨hp,g,d,t+1,os⟩) (looks_clsIn X hc) ?_))))))
 rw[hd']
 simp only[RH,Qd,QN]
 rw[if_neg (by simp[typeHasDict])]
 have Of:(hp.push { cls:=.type "dict",data:=.dict #[] }).get? x=some { cls:=Value.ref C,data:=Np,slots:=osl }:=PK _ hx
 have hxs:x≠hp.objs.size:=Qo (P5 hx)
 refine PJ (wpAny_alloc' ?_)
 refine PJ (wpAny_update' Of ?_)
 refine PU ?_
 have hgd:((hp.push { cls:=.type "dict",data:=.dict #[] }).update x fun o=>{ cls:=o.cls,dict:=some hp.objs.size,data:=o.data,slots:=o.slots }).get? hp.objs.size=some { cls:=.type "dict",data:=.dict #[] }:=
  (Heap.get?_update_ne _ _ _ _ hxs.symm).trans (Heap.get?_push_at rfl rfl)
 have hnd:((hp.push { cls:=.type "dict",data:=.dict #[] }).update x fun o=>{ cls:=o.cls,dict:=some hp.objs.size,data:=o.data,slots:=o.slots }).Ns hp.objs.size (fun _=>none):=
  ⟨_,#[],_,hgd,rfl,fun e he=>absurd he (by simp),fun _=>rfl⟩
 show wpAny _ _ (storeInDict hp.objs.size (.str name t) name v) _ _ _
 unfold storeInDict newKeyGuard
 refine PJ (PU (PJ (wpAny_nsSet1 (Heap.Ns1.of_empty hnd) fun h' hn' hs=>?_)))
 obtain⟨oD,esD,epD,OQ,OR,J8⟩:=hn'.count (Within.cons name v Within.nil)
 refine PJ (wpAny_lookBehind OQ (by rw[OR];exact pastItsLine_dict (PZ J8 (by rw[Qa,RA,sizeLine_eq];omega))) ?_)
 refine PU (h h' hn' ?_ fun b o hb q=>(hs.2 b (Qo (P5 q))).trans ((Heap.get?_update_ne _ _ _ _ hb).trans (PK _ q)))
 refine(hs.2 x hxs).trans (Rb _ Of ?_)
 have hfr:=(Heap.get?_some_iff.mp hx).2
 cases Np<;>first|rfl|exact hfr
end
def mV{M:Model}{A:Around}{E:Vq}{s:Shared}{K:Frag}{x C D:Addr}{ox:Obj}{b:Bool}{Q:Bool->Shared->Prop}(X:K.In s.heap)(hx:s.heap.get? x=some ox)(hcl:ox.cls = .ref C)(hb:mroIn K C (.ref D)=some b)
  (hD:typeIn K (.ref D)=some (.type "type")) (J8:(clsIn K D).isSome=true) (J4:mroIn K D (.type "BaseException")=some true) (h:Q b s):wpAny M A (excMatches (.ref x) (.ref D)) Q E s:=by
 obtain⟨hp,g,d,t,os⟩:=s
 have t1:Looks M hp (typeOf (.ref x)) (.ref C):=by rw[<-hcl];exact(Looks.ld hx).andThen .now
 have t2:Looks M hp (typeOf (.ref D)) (.type "type"):=looks_typeIn X hD
 have t3:Looks M hp (isType (.ref D)) true:=by
  unfold clsIn at J8
  split at J8
  ·rename_i c' d' Oe sl' ho
   intro A' Q' E' s' k q
   unfold isType loadHead
   exact PJ (wpAny_loadPart (k _ _ (X _ _ ho)) (PU q))
  ·cases J8
 have i1:Looks M hp (isInstance (.ref D) (.type "tuple")) false:=t2.andThen (Looks.of_pure tc_notTuple)
 have i2:Looks M hp (isExcClass (.ref D)) true:=by
  unfold isExcClass
  refine t3.andThen ?_
  exact looks_mroIn X J4
 have i3:Looks M hp (isSubtype (.ref C) (.ref D)) b:=looks_mroIn X hb
 unfold excMatches
 refine PJ (m:=isInstance (.ref D) (.type "tuple")) (i1.at ?_)
 simp only[Qd,QN]
 refine PJ (PU ?_)
 rw[Ss]
 refine PJ (PJ (PJ (i2.at ?_)))
 simp only[RH,Qd,QN]
 refine PU (PU (PJ (t1.at ?_)))
 rw[Ss]
 refine PJ (PJ (PJ (i3.at ?_)))
 cases b with
 |true=>exact PU (PU (PU h))
 |false=>exact PU (PU (PU h))
end Xc
namespace L2
open PySem PySem.Spec PyProof.Rows Xc
def Cp(X:Cx)(pins:Va)(H:Hp)(h:Heap)(a C dx:Addr):Prop:=
 ∃oe vs,tV h a oe vs/\oe.cls = .ref C/\oe.dict=some dx/\G6 X pins H a/\∀T,vs[1]?=some (.ref T)->G6 X pins H T
def C_(n:Nat)(H:Hp)(h:Heap)(a C dx:Addr):Prop:=
 ∃oe vs,tV h a oe vs/\oe.cls = .ref C/\oe.dict=some dx/\H a=none/\n<=a/\∀T,vs[1]?=some (.ref T)->H T=none/\n<=T
noncomputable def wA(P:Program)(w:World):nN:=fun outer H s E e s'=>
 ∃a C dx H',e = .ref a/\s'.os=s.os/\AllBare s'.gens/\Un (frs outer) [] H H' s.heap s'.heap/\HM P w H' s'.heap/\C_ s.heap.objs.size H' s'.heap a C dx/\E (.ref C) (some dx) H'
section
variable {X:Cx} {pins:Va} {σ:St} {H H':Hp} {s s':Shared} {a C dx:Addr}
def Inv.noted{oe:Obj}{vs:Vw}{h':Heap}(I:Inv X pins σ H s)(n:pK X.stack a oe (fY vs) s.heap h')(x:tV s.heap a oe vs)(hc:oe.cls = .ref C)(hd:oe.dict=some dx)(f:G6 X pins H a)(fT:∀T,vs[1]?=some (.ref T)->G6 X pins H T) :
  Inv X pins σ H { s with heap:=h' }/\Cp X pins H h' a C dx:=by
 have tr:∀b u,H b=some u->b≠a/\¬fY vs b/\b ∉ Ey X.stack:=fun b u e=>⟨fun z=>(by rw[z,f.1]at e;cases e),fun z=>(by rw[(fT b z).1]at e;cases e),fun z=>(by rw[I.Jf b z]at e;cases e)⟩
 have ff:∀b,(b=a\/fY vs b)->G6 X pins H b:=fun b hb=>by
  rcases hb with rfl|hb
  ·exact f
  ·exact fT b hb
 have hok:HM X.prog X.w H h':=fun b u e=>(I.hok b u e).stay (fun c v hc q=>by
  rcases hc with rfl|hc
  ·obtain⟨t1,t2,t3⟩:=tr c u e;exact n.keep c v t1 t2 t3 q
  ·obtain⟨t1,t2,t3⟩:=tr c _ hc;exact n.keep c v t1 t2 t3 q) (fun _ z=>z) fun _ _ z=>z
 have OS:∀b o,s.heap.get? b=some o->b≠a->¬fY vs b->∃o',h'.get? b=some o':=fun b o e h1 h2=>by
  by_cases hb:b∈Ey X.stack
  ·obtain⟨sl,q⟩:=n.slot b o hb e;exact⟨_,q⟩
  ·exact⟨o,n.keep b o h1 h2 hb e⟩
 have go:∀ch:List Addr,(∀b,b∈ch↔(b=a\/fY vs b))->Inv X pins σ H { s with heap:=h' }:=fun ch hch=>by
  refine I.call (g':=s.gens) (t':=s.toks) (d':=s.drawn) (ch:=ch) ⟨fun b o e n1 n2 n3=>?_,fun b o e _ n2 _=>n.slot b o n2 e,fun _ _ _ z _=>z,fun b o e n1=>?_,fun _ _ z=>z,fun _ _ _ z=>z,fun _ ps z=>⟨#[],by rw[z];simp⟩⟩ hok I.bare fun b hb=>?_
  ·exact n.keep b o (fun z=>n3 ((hch b).mpr (.inl z))) (fun z=>n3 ((hch b).mpr (.inr z))) n2 e
  ·exact OS b o e (fun z=>n1 ((hch b).mpr (.inl z))) (fun z=>n1 ((hch b).mpr (.inr z)))
  ·obtain⟨f0,f1,f2,f3,f4,f5⟩:=ff b ((hch b).mp hb)
   exact⟨f3,f1,f4,f5⟩
 refine⟨?_,?_⟩
 ·rcases x.tb with h1|⟨T,oT,ts,h1,_⟩
  ·refine go [a] fun b=>⟨fun z=>.inl (by simpa using z),fun z=>?_⟩
   rcases z with z|z
   ·simp[z]
   ·unfold fY at z;rw[h1]at z;cases z
  ·refine go [a,T] fun b=>⟨fun z=>?_,fun z=>?_⟩
   ·simp only[PM,P7,Qx]at z
    rcases z with z|z
    ·exact .inl z
    ·exact .inr (by rw[z];exact h1)
   ·rcases z with z|z
    ·simp[z]
    ·unfold fY at z;rw[h1]at z;cases z;simp
 ·obtain⟨Lc,vs',T,oT,ts,a1,a2,a3,a4,a5,a6,a7,a8,a9,OT⟩:=n.lies
  refine⟨Lc,vs',⟨a1,a4,.inr ⟨T,oT,ts,a5,a7,a8,a9,OT⟩⟩,a2.trans hc,a3.trans hd,f,fun T' hT'=>?_⟩
  rw[a5]at hT'
  cases hT'
  exact I.Im a6 (I.hok.fresh a6)
def Inv.raised{E:XK}{e:Value}(I:Inv X pins σ H s)(ht:1<=s'.toks)(h:wA X.prog X.w X.stack H s E e s'):∃a C dx H',e = .ref a/\Inv X pins σ H' s'/\Cp X pins H' s'.heap a C dx/\E (.ref C) (some dx) H':=by
 obtain⟨a,C,dx,H',rfl,os,bare,un,hok,⟨oe,vs,x,hc,hd,h0,hn,hT⟩,hE⟩:=h
 refine⟨a,C,dx,H',rfl,I.La (ch:=[]) os un hok bare ht (fun b z=>absurd z (by simp)),⟨oe,vs,x,hc,hd,I.Im hn h0,fun T z=>I.Im (hT T z).2 (hT T z).1⟩,hE⟩
end
def rG{P:Program}{w:World}{K:Vo}{mg:Vr}{base:Heap}{N:Vs}{qual:Str}{scope:Scope}{f:Addr}{cd:Value}{A:Around}{outer:List Env}{s s':Shared}{H H':Hp}{E:XK}{pins:Va}{σ:St}{a C dx:Addr}
  (I:Inv (fj (wA P w) P w K mg base N qual scope f cd A outer s H E) pins σ H' s') (x:Cp (fj (wA P w) P w K mg base N qual scope f cd A outer s H E) pins H' s'.heap a C dx) (hE:E (.ref C) (some dx) H') :
  (fj (wA P w) P w K mg base N qual scope f cd A outer s H E).xe (.ref a) s':=by
 obtain⟨oe,vs,x,hc,hd,fa,fT⟩:=x
 have hfr:(fj (wA P w) P w K mg base N qual scope f cd A outer s H E).A.frames=some (envOfC qual scope s.heap.objs.size f cd::outer):=I.ok.frames
 have hl:=I.stack
 refine tW (s:=s') (env:=envOfC qual scope s.heap.objs.size f cd) (outer:=outer) hfr hl rfl x fun h' n=>?_
 obtain⟨I2,x2⟩:=I.noted (h':=h') n x hc hd fa fT
 obtain⟨Mj,Jp,x2,hc2,hd2,MS,MT⟩:=x2
 have lt:∀b,G6 (fj (wA P w) P w K mg base N qual scope f cd A outer s H E) pins H' b->s.heap.objs.size<=b:=fun b q=>by
  rcases q.2.2.2.1 with z|z
  ·exact absurd (show b∈([]:List Addr)from z) (by simp)
  ·exact z
 exact⟨a,C,dx,H',rfl,I2.os,I2.bare,I2.base,I2.hok,⟨Mj,Jp,x2,hc2,hd2,MS.1,lt a MS,fun T z=>⟨(MT T z).1,lt T (MT T z)⟩⟩,hE⟩
section
variable {X:Cx} {k:Nat} {f C:Addr} {fd:FuncData} {ps:Vs} {sp:Sp} {x m:Str} {p pos apos:Pos} {e o:Expr} {es:List Expr} {ta:TE} {t:TA}
noncomputable def EX(X:Cx)(pins:Va)(σ:St):XK:=fun c d H'=>∀s' a C dx,c = .ref C->d=some dx->Inv X pins σ H' s'->Cp X pins H' s'.heap a C dx->X.xe (.ref a) s'
def xv{pins:Va}{σ:St}{H:Hp}{s:Shared}{Q:VK}{E:XK}{us:Vv}{vs:List V}(F:dY X.prog X.w X.K X.mg X.base (wA X.prog X.w) k f fd ps sp)(hr:Room k X.A)(hb:Binds X.K fd ps [])
  (hE:∀c d H',E c d H'->EX X pins σ c d H') (I:Inv X pins σ H s) (r:Vals vs us) (h:sp vs H Q E):wpAny (model X.prog X.w) X.A (call (.ref f) us) (EP X pins σ Q) X.xe s:=by
 have hl:(us++[]).length=ps.length:=by rw[Qv,<-r.length];exact F.len _ _ _ _ h
 have hb':=hb s us I.IK hl
 rw[Qv]at hb'
 refine Tn (RP (TN I.tk (F.run X.A X.stack s H ⟨us,[]⟩ us vs Q E hr (.inl I.tk) I.KZ hb' r h)) fun r s' ⟨ht,hq⟩=>?_)
 cases r with
 |error e=>
  obtain⟨a,C,dx,H',rfl,I',xa,he⟩:=I.raised ht hq
  exact hE _ _ _ he s' a C dx rfl rfl I' xa
 |ok fl=>
  cases fl with
  |ret u=>exact I.after ht hq
  |next=>exact False.elim hq
  |brk=>exact False.elim hq
  |cont=>exact False.elim hq
def AM(X:Cx)(sp:Sp)(t:TA):TE:=fun σ H Q=>t σ H fun vs H1=>∃E,sp vs H1 Q E/\∀pins c d H',E c d H'->EX X pins σ c d H'
def t6(F:dY X.prog X.w X.K X.mg X.base (wA X.prog X.w) k f fd ps sp)(hr:Room k X.A)(hg:Gl X x)(hm:X.mg x=some (.ref f))(hk:PySem.W.keepIn X.K (.ref f)=true)(hb:Binds X.K fd ps [])
  (ha:PA X (e::es) t) (hdb:(x == ("__debug__":Str))=false:=by decide) (he:starEach (e::es) X.env=(false,eval e X.env)::starEach es X.env:=by rfl) (hpl:(backTo pos (starEach es X.env)).any (·.1)=false:=by rfl) :
  PE X (.Call (.Name x p) (e::es) [] pos) (AM X sp t):=by
 intro pins s σ H Q I h
 refine QX (dB I hg hm ?_ hdb)
 refine Sw (h₀:=X.base) I.ok.mod.Lq hk (GG (ha pos pins s σ H _ I h) fun us s1 ⟨vs,H1,I1,r,E,q,hE⟩=>⟨I1.IK,?_⟩) he hpl
 exact xv F hr hb (hE pins) I1 r q
end
def XO(a C:Addr)(d:Option Addr)(h:Heap):Prop:=∃oe vs,h.get? a=some oe/\oe.cls = .ref C/\oe.dict=d/\oe.data = .fields vs/\vs[1]?=some .none
def XD(dx:Addr)(fs:List (Str×V))(h:Heap):Prop:=∃mA,h.Ns1 dx mA/\(∀f,Ij (fs.lookup f) (mA f))/\PySem.Within mA (fs.map (·.1))
def XO.stay{a C:Addr}{d:Option Addr}{h1 h2:Heap}(x:XO a C d h1)(k:∀o,h1.get? a=some o->h2.get? a=some o):XO a C d h2:=let ⟨oe,vs,e,r⟩:=x;⟨oe,vs,k oe e,r⟩
def XD.stay{dx:Addr}{fs:List (Str×V)}{h1 h2:Heap}(x:XD dx fs h1)(k:∀o,h1.get? dx=some o->h2.get? dx=some o):XD dx fs h2:=let ⟨mA,⟨o,es,ep,e,r⟩,q⟩:=x;⟨mA,⟨o,es,ep,k o e,r⟩,q⟩
def XO.ok{P:Program}{w:World}{H:Hp}{h:Heap}{a C:Addr}{d:Option Addr}(x:XO a C d h):GM P w H h a (.ext (XO a C d)):=⟨x,let ⟨oe,_,e,_⟩:=x;⟨oe,e⟩,fun _ _ y k=>y.stay k⟩
def XD.ok{P:Program}{w:World}{H:Hp}{h:Heap}{dx:Addr}{fs:List (Str×V)}(x:XD dx fs h):GM P w H h dx (.ext (XD dx fs)):=⟨x,let ⟨_,⟨o,_,_,e,_⟩,_⟩:=x;⟨o,e⟩,fun _ _ y k=>y.stay k⟩
def XO.of{P:Program}{w:World}{H:Hp}{h:Heap}{a C:Addr}{d:Option Addr}(hok:HM P w H h)(e:H a=some (.ext (XO a C d))):XO a C d h:=(show GM P w H h a (.ext (XO a C d))from hok a _ e).1
def XD.of{P:Program}{w:World}{H:Hp}{h:Heap}{a:Addr}{fs:List (Str×V)}(hok:HM P w H h)(e:H a=some (.ext (XD a fs))):XD a fs h:=(show GM P w H h a (.ext (XD a fs))from hok a _ e).1
section
variable {X:Cx} {pins:Va} {σ:St} {H:Hp} {s:Shared}
def Inv.Ky{D:Addr}{o:HO}(I:Inv X pins σ H s)(f:G6 X pins H D)(n:GM X.prog X.w (upd H D o) s.heap D o):Inv X pins σ (upd H D o) s:=by
 obtain⟨f0,f1,f2,f3,f4,f5⟩:=f
 have nD:∀b u,H b=some u->b≠D:=fun b u q=>aM q f0
 have hok:HM X.prog X.w (upd H D o) s.heap:=fun b u q=>by
  by_cases hb:b=D
  ·subst hb
   rw[ar]at q
   cases q
   exact n
  ·rw[aq hb]at q
   exact(I.hok b u q).stay (fun _ _ _ z=>z) (fun c z=>by rw[aq (nD c _ z)];exact z) fun c xs z=>by rw[aq (nD c _ z)];exact z
 exact I.step (H':=upd H D o) (h':=s.heap) (g':=s.gens) (t':=s.toks) (d':=s.drawn) (ch:=[D])
  (fun b hb=>by
   have z:b=D:=by simpa using hb
   subst z
   exact⟨f3,f1,f4,f5⟩)
  (fun _ _ _ _ _ q _=>q) (fun _ o _ _ _ q _=>⟨o.slots,q⟩)
  (fun b o hb _ n=>by rw[aq (fun z=>hb (by simp[z]))];exact n)
  (fun _ o _ q=>⟨o,q⟩) (fun b xs q=>by rw[aq (nD b _ q)];exact q) (fun b o u q=>by rw[aq (nD b _ q)];exact q)
  (fun b ps q=>⟨#[],by rw[aq (nD b _ q),q];simp⟩) (fun _ q=>q) hok I.bare
def Inv.forget{H':Hp}{D:Addr}{φ:Heap->Prop}(I:Inv X pins σ H s)(e:H D=some (.ext φ))(h1:H' D=none)(h2:∀b,b≠D->H' b=H b):Inv X pins σ H' s:=by
 have ne:∀b u,H b=some u->u ≠ .ext φ->b≠D:=fun b u q z y=>by rw[y,e]at q;exact z (QM q).symm
 refine I.un (h':=s.heap) (t':=s.toks) ⟨fun _ _ q _ _ _=>q,fun _ o q _ _ _=>⟨o.slots,q⟩,fun b o q n _=>?_,fun _ o q _=>⟨o,q⟩,fun b xs q=>?_,fun b o u q=>?_,fun b ps q=>?_⟩ fun b u q=>?_
 ·by_cases z:b=D
  ·rw[z];exact h1
  ·rw[h2 b z];exact n
 ·rw[h2 b (ne b _ q fun z=>nomatch z)];exact q
 ·rw[h2 b (ne b _ q fun z=>nomatch z)];exact q
 ·exact⟨#[],by rw[h2 b (ne b _ q fun z=>nomatch z),q];simp⟩
 ·have hb:b≠D:=fun z=>by rw[z,h1]at q;cases q
  rw[h2 b hb]at q
  exact(I.hok b u q).stay (fun _ _ _ z=>z) (fun c z=>by rw[h2 c (ne c _ z fun y=>nomatch y)];exact z) fun c xs z=>by rw[h2 c (ne c _ z fun y=>nomatch y)];exact z
end
def AN(K:Vo)(ta tv:TE)(f:Str):TS:=fun D σ H=>tv σ H fun y H1=>ta σ H1 fun x H2=>∃a C,x = .ref a/\H2 a=some (.ext (XO a C none))/\ExcK K C/\NoAttr K C f/\
 ∀dx,H2 dx=none->dx≠a->D.nx σ (upd (upd H2 a (.ext (XO a C (some dx)))) dx (.ext (XD dx [(f,y)])))
section
variable {X:Cx} {o value:Expr} {f:Str} {pos pos':Pos} {ta tv:TE}
def AO(ha:PE X o ta)(hv:PE X value tv)(hs:swapsWith value (some (.Attribute o f pos')) pos.line X.env=pure false):PS X (.Assign [.Attribute o f pos'] value pos) (AN X.K ta tv f):=by
 intro pins s σ H D I h
 refine plainObj_wpAny_Assign_Attribute (GG (hv pins s σ H _ I h) fun u s1 ⟨y,H1,I1,ry,q⟩=>GG (ha pins s1 σ H1 _ I1 q) fun ov s2 ⟨x,H2,I2,rx,a,C,ex,ea,k,n,q2⟩=>?_) hs
 subst ex
 obtain rfl:ov=Value.ref a:=rx
 obtain⟨oe,vs,g1,g2,g3,g4,g5⟩:=XO.of I2.hok ea
 have ne:s2.heap.objs.size≠a:=Rp (P5 g1)
 refine t0 I2.IK g1 g2 (fun c z=>by rw[g4]at z;cases z) g3 k n.Ma fun h' n1 n2 n3=>?_
 have J1:Inv X pins σ (upd H2 a (.ext (XO a C (some s2.heap.objs.size)))) { s2 with heap:=h',toks:=s2.toks+2 }:=
  I2.write (x:=a) (e:=a) (by rw[ea];exact True.intro) (.inl rfl) (fun b u hb z=>n3 b u hb z) ⟨_,n2⟩ (XO.ok ⟨_,vs,n2,g2,rfl,g4,g5⟩)
 have f0:H2 s2.heap.objs.size=none:=I2.hok.fresh (PN _)
 have f1:G6 X pins (upd H2 a (.ext (XO a C (some s2.heap.objs.size)))) s2.heap.objs.size:=I2.Im (PN _) (by rw[aq ne];exact f0)
 have xd:XD s2.heap.objs.size [(f,y)] h':=⟨_,n1,fun g=>by
  show Ij (List.lookup g [(f,y)]) (if g=f then some u else none)
  by_cases q:g=f
  ·subst q;rw[if_pos rfl];simp;exact ry
  ·rw[if_neg q,Sg,TY.mpr q];exact True.intro,fun g hg=>by
  by_cases q:g=f
  ·simp[q]
  ·exact absurd (show(if g=f then some u else none)=none by rw[if_neg q]) hg⟩
 exact⟨σ,_,J1.Ky f1 xd.ok,q2 _ f0 ne⟩
end
noncomputable def lv(K:Vo)(C:Addr)(ks:Vs):Sp:=fun vs H Q _=>∃a rest,vs = .ref a::rest/\rest.length=ks.length/\H a=some (.ext (XO a C none))/\ExcK K C/\(∀k∈ks,NoAttr K C k)/\
 ∀dx,H dx=none->dx≠a->Q .non (upd (upd H a (.ext (XO a C (some dx)))) dx (.ext (XD dx (ks.zip rest))))
section
variable {P:Program} {w:World} {K:Vo} {mg:Vr} {base:Heap}
def De{qual:Str}{st:Stmt}{f C:Addr}{fd:FuncData}{N ps:Vs}{k1:Str}(F:Kp K "__init__" qual st f fd)(S:bv N ps (ax st))(hp:ps.length=2)
  (hbody:∀(cdv:Value) (A:Around) (outer:List Env) (s:Shared) (H:Hp) (E:XK),IZ (fj nO P w K mg base N qual (ax st) f cdv A outer s H E).Ls (aT st) (AN K (qP 0) (qP 1) k1)) :
  dY P w K mg base nO 1 f fd ps (lv K C [k1]):=
 F.ok S (fun vs H Q E ⟨a,rest,e,l,_⟩=>by rw[e,Qa,l,hp];rfl) fun cdv A outer s H vs Q E hr ⟨a,rest,e,l,ea,ek,en,q⟩=>by
  obtain⟨x,rfl⟩:=SS.mp l
  subst e
  refine⟨_,hbody cdv A outer s H E,?_⟩
  exact⟨x,rfl,.ref a,rfl,a,C,rfl,ea,ek,en k1 (by simp),fun dx h1 h2=>q dx h1 h2⟩
end
section
variable {X:Cx} {f C:Addr} {fd:FuncData} {ps ks:Vs} {x:Str} {p cpos pos:Pos} {e:Expr} {es:List Expr} {t:TA}
def AQ(X:Cx)(C:Addr)(ks:Vs)(t:TA):TS:=fun D σ H=>t σ H fun vs H1=>vs.length=ks.length/\∀pins dx od,H1 dx=none->EX X pins σ (.ref C) (some dx) (upd H1 dx (.frz od (.ext (XD dx (ks.zip vs)))))
def t7(F:dY X.prog X.w X.K X.mg X.base nO 1 f fd ps (lv X.K C ks))(hps:ps.length=ks.length+1)(hks:ks.length<=1000)(ek:ExcK X.K C)(en:∀k∈ks,NoAttr X.K C k)(hi:PySem.W.findIn X.K (.ref C) "__init__" = some (some (.ref f)))(hf:PySem.W.isFn X.K (.ref f)=true)(hkp:PySem.W.keepIn X.K (.ref C)=true)
  (hr:Room 2 X.A) (Js:X.calm=true) (hg:Gl X x) (hm:X.mg x=some (.ref C)) (hb:Binds X.K fd ps []) (ha:PA X (e::es) t)
  (hdb:(x == ("__debug__":Str))=false:=by decide) (he:starEach (e::es) X.env=(false,eval e X.env)::starEach es X.env:=by rfl) (hpl:(backTo cpos (starEach es X.env)).any (·.1)=false:=by rfl) :
  PS X (.Raise (some (.Call (.Name x p) (e::es) [] cpos)) none pos) (AQ X C ks t):=by
 intro pins s σ H D I h
 rw[arm_exec_Raise]
 refine PJ (Sl ?_)
 show wpAny _ _ (raiseStmt X.env (some (do let v <-eval (.Call (.Name x p) (e::es) [] cpos) X.env;standAt pos;pure v)) none) _ _ _
 refine rE (K:=X.K) (C:=C) ek.ok (I.ok.hd Js) (PJ ?_)
 refine QX (dB I hg hm ?_ hdb)
 refine Sw (h₀:=X.base) I.ok.mod.Lq hkp (GG (ha cpos pins s σ H _ I h) fun us s1 ⟨vs,H1,I1,r,hl,q⟩=>⟨I1.IK,?_⟩) he hpl
 have Og:us.length=ks.length:=by rw[<-r.length];exact hl
 obtain⟨hp,g,d,tk,os⟩:=s1
 have e1:(hp.push (dG us)).objs.size=hp.objs.size+1:=Q9 _ _
 have OU:Inv X pins σ H1 ⟨hp.push (dG us),g,d,tk,os⟩:=I1.kept (t':=tk) fun b o q=>PK _ q
 have ex:((hp.push (dG us)).push (dH C hp.objs.size)).get? (hp.objs.size+1)=some (dH C hp.objs.size):=by heap_get
 have I2:Inv X pins σ (upd H1 (hp.objs.size+1) (.ext (XO (hp.objs.size+1) C none))) ⟨(hp.push (dG us)).push (dH C hp.objs.size),g,d,tk,os⟩:=
  OU.laid (a:=hp.objs.size+1) (t':=tk) (fun b o q=>PK _ q) (Nat.le_of_eq e1) (XO.ok ⟨_,_,ex,rfl,rfl,rfl,rfl⟩)
 have n0:H1 (hp.objs.size+1)=none:=I1.hok.fresh (Uc _)
 have r2:Vals (V.ref (hp.objs.size+1)::vs) (Value.ref (hp.objs.size+1)::us):=.cons rfl r
 have Kz:(Value.ref (hp.objs.size+1)::us++[]).length=ps.length:=by rw[Qv,Qa,Og,hps]
 have hb':=hb _ (Value.ref (hp.objs.size+1)::us) I2.IK Kz
 rw[Qv]at hb'
 refine Tn (tU (f:=f) I1.IK ek.ok hi (SA.mp hf) (by rw[Q0,Og];exact RB (dr hks)) (RP (TN I2.tk (F.run _ X.stack _ _ ⟨Value.ref (hp.objs.size+1)::us,[]⟩ (Value.ref (hp.objs.size+1)::us) _
  (fun v H2=>v = .non/\∃dx,H1 dx=none/\dx≠hp.objs.size+1/\H2=upd (upd (upd H1 (hp.objs.size+1) (.ext (XO (hp.objs.size+1) C none))) (hp.objs.size+1) (.ext (XO (hp.objs.size+1) C (some dx)))) dx (.ext (XD dx (ks.zip vs)))) (fun _ _ _=>False) (hr.make C us []) (.inl I2.tk)
  (I2.KZ.make C us []) hb' r2 ⟨_,vs,rfl,hl,ar,ek,en,fun dx h1 h2=>⟨rfl,dx,by rw[aq h2]at h1;exact h1,h2,rfl⟩⟩)) fun r s' ⟨ht,hq'⟩=>?_))
 cases r with
 |error e=>exact hq'.elim
 |ok fl=>
  cases fl with
  |ret u=>
   obtain⟨v,H',I3,rv,ev,dx,d1,d2,rfl⟩:=I2.after ht hq'
   subst ev
   refine⟨rv,PJ (Sl (PU ?_))⟩
   obtain⟨oe,ws,g1,g2,g3,g4,g5⟩:=XO.of (a:=hp.objs.size+1) (C:=C) (d:=some dx) I3.hok (by rw[aq d2.symm,ar])
   have xd:XD dx (ks.zip vs) s'.heap:=XD.of I3.hok ar
   obtain⟨od,hod⟩:∃o,s'.heap.get? dx=some o:=let ⟨_,⟨o,_,_,e,_⟩,_⟩:=xd;⟨o,e⟩
   refine⟨hp.objs.size+1,oe,ws,rfl,I3.IK,g1,g2,g4,g5,?_⟩
   have I4:Inv X pins σ (upd (upd (upd (upd H1 (hp.objs.size+1) (.ext (XO (hp.objs.size+1) C none))) (hp.objs.size+1) (.ext (XO (hp.objs.size+1) C (some dx)))) dx (.ext (XD dx (ks.zip vs)))) dx (.frz od (.ext (XD dx (ks.zip vs))))) s':=by
    have J:=I3.write (x:=dx) (e:=dx) (o:=.frz od (.ext (XD dx (ks.zip vs)))) (h':=s'.heap) (t':=s'.toks) (by rw[ar];exact True.intro) (.inl rfl) (fun _ _ _ z=>z) ⟨od,hod⟩ ⟨hod,xd.ok⟩
    exact J
   have I5:Inv X pins σ (upd H1 dx (.frz od (.ext (XD dx (ks.zip vs))))) s':=I4.forget (D:=hp.objs.size+1) (φ:=XO (hp.objs.size+1) C (some dx)) (by rw[wD,aq d2.symm,ar]) (by rw[aq d2.symm];exact n0) fun b hb=>by
    by_cases z:b=dx
    ·rw[z,ar,ar]
    ·rw[aq z,aq z,aq z,aq hb,aq hb]
   refine q pins dx od d1 s' _ C dx rfl rfl I5 ⟨oe,ws,⟨g1,g4,.inl g5⟩,g2,g3,I1.Im (Uc _) (by rw[aq d2.symm];exact n0),fun T z=>?_⟩
   rw[g5]at z
   cases z
  |next=>exact hq'.elim
  |brk=>exact hq'.elim
  |cont=>exact hq'.elim
end
noncomputable abbrev Cx.tr(X:Cx)(E:Vq)(pins:Va):Cx:={ X with xe:=E,pn:=X.pn++pins }
noncomputable abbrev Cx.inH(X:Cx)(a:Addr):Cx:={ X with A:=X.A.mark (some (.ref a)),calm:=false,xe:=fun _ _=>False }
section
variable {X:Cx} {pins pins':Va} {σ:St} {H H':Hp} {s s':Shared} {E:Vq}
theorem Cx.Ok.tr(ok:X.Ok):(X.tr E pins).Ok:=⟨ok.mod,ok.kind,ok.glob,ok.blt,ok.above,ok.inj,ok.has,ok.KP,ok.hd,ok.frames,ok.stk,ok.Lr,ok.bs,ok.JI,ok.IY,ok.Je,ok.HH,ok.J5⟩
def Cx.Ok.IF(ok:(X.tr E pins).Ok):X.Ok:=⟨ok.mod,ok.kind,ok.glob,ok.blt,ok.above,ok.inj,ok.has,ok.KP,ok.hd,ok.frames,ok.stk,ok.Lr,ok.bs,ok.JI,ok.IY,ok.Je,ok.HH,ok.J5⟩
theorem Cx.Ok.inH{a:Addr}(ok:X.Ok):(X.inH a).Ok:=⟨ok.mod,ok.kind,ok.glob,ok.blt,ok.above,ok.inj,ok.has,ok.KP,fun z=>absurd (show false=true from z) (by decide),ok.frames,ok.stk,ok.Lr,ok.bs,ok.JI,ok.IY,ok.Je,ok.HH,ok.J5⟩
def Cx.Ok.LD{a:Addr}(hc:X.calm=true->X.A.handled=none)(ok:(X.inH a).Ok):X.Ok:=⟨ok.mod,ok.kind,ok.glob,ok.blt,ok.above,ok.inj,ok.has,ok.KP,hc,ok.frames,ok.stk,ok.Lr,ok.bs,ok.JI,ok.IY,ok.Je,ok.HH,ok.J5⟩
theorem Inv.tr(I:Inv X pins σ H s):Inv (X.tr E pins) [] σ H s:=⟨I.ok.tr,I.os,I.bare,I.base,I.loc,I.cell,I.free,I.Hc,fun p hp=>I.pin p (by simpa using hp),I.hok,I.len,I.tk⟩
theorem Inv.IF(I:Inv (X.tr E pins) pins' σ H s):Inv X pins σ H s:=⟨I.ok.IF,I.os,I.bare,I.base,I.loc,I.cell,I.free,I.Hc,fun p hp=>I.pin p (QW _ hp),I.hok,I.len,I.tk⟩
theorem Inv.inH{a:Addr}(I:Inv X pins σ H s):Inv (X.inH a) pins σ H s:=⟨I.ok.inH,I.os,I.bare,I.base,I.loc,I.cell,I.free,I.Hc,I.pin,I.hok,I.len,I.tk⟩
theorem Inv.LD{a:Addr}(hc:X.calm=true->X.A.handled=none)(I:Inv (X.inH a) pins σ H s):Inv X pins σ H s:=⟨I.ok.LD hc,I.os,I.bare,I.base,I.loc,I.cell,I.free,I.Hc,I.pin,I.hok,I.len,I.tk⟩
def G6.IF{b:Addr}(f:G6 (X.tr E pins) pins' H b):G6 X pins H b:=⟨f.1,f.2.1,f.2.2.1,f.2.2.2.1,f.2.2.2.2.1,fun p hp=>f.2.2.2.2.2 p (QW _ hp)⟩
theorem SP.IF{D:gQ}{f:Flow}(h:SP (X.tr E pins) [] D f s'):SP X pins D f s':=by
 cases f with
 |next=>obtain⟨a,b,I,q⟩:=h;exact⟨a,b,I.IF,q⟩
 |brk=>obtain⟨a,b,I,q⟩:=h;exact⟨a,b,I.IF,q⟩
 |cont=>obtain⟨a,b,I,q⟩:=h;exact⟨a,b,I.IF,q⟩
 |ret v=>obtain⟨v,a,b,I,r,q⟩:=h;exact⟨v,a,b,I.IF,r,q⟩
def rH{A:Around}{E:Vq}{i:Nat}{n:Str}{pos:Pos}{Q:Unit->Shared->Prop}(I:Inv X pins σ H s)(hN:X.N.Nodup)(hi:X.N[i]?=some n)(hk:X.env.scope.names.lookup n=some .local)(h:∀s',Inv X pins (σ.set i none) H s'->Q () s') :
  wpAny (model X.prog X.w) A (do bindName X.env n .none;unbindBehindTheSuite X.env n pos) Q E s:=by
 obtain⟨m,hn,hl⟩:=id I.loc
 have hcls:(X.env.scope.kind == .class || (X.env.scope.kind == .module&&X.env.locals != X.env.globals))=false:=by rw[I.ok.kind];rfl
 have Ks:=I.Ks
 refine wpAny_nameGoes_keeps hk hn hcls fun h' v hn' hs=>h _ ?_
 have Nq:∀b o,X.s₀.heap.get? b=some o->b≠X.env.locals:=fun b o e=>Qo (P6 (P5 e) I.ok.above)
 refine⟨I.ok,I.os,I.bare,⟨fun b o e n hb hx=>(hs.2 b (Nq b o e)).trans (I.base.keep b o e n hb hx),fun b o e n hb hx=>?_,I.base.free,fun b o e hx=>?_,I.base.tups,I.base.IW,I.base.Jd⟩,⟨_,hn',fun j y v' e1 e2 e3=>?_⟩,fun y c e=>?_,I.free,I.Hc,fun p hp=>?_,fun b ob e=>?_,by simpa using I.len,by first|exact I.tk|exact QO (Qc _)⟩
 ·obtain⟨sl,e1⟩:=I.base.slot b o e n hb hx
  exact⟨sl,(hs.2 b (Nq b o e)).trans e1⟩
 ·obtain⟨o',e1⟩:=I.base.there b o e hx
  exact⟨o',(hs.2 b (Nq b o e)).trans e1⟩
 ·by_cases hj:j=i
  ·subst hj
   rw[SV]at e2
   split at e2
   ·split at e2
    ·cases e2
    ·cases e2
   ·rename_i z;exact absurd rfl z
  ·rw[Tv (QK hj)]at e2
   obtain⟨u',r',q⟩:=hl j y v' e1 e2 e3
   refine⟨u',r',?_⟩
   rcases q with⟨k,e⟩|⟨k,c,e,z⟩
   ·refine .inl ⟨k,?_⟩
    have:y≠n:=fun e=>hj (i_ hN e1 (e▸hi))
    simp[this,e]
   ·exact .inr ⟨k,c,e,z.sameBut hs (Ks y c e)⟩
 ·obtain⟨w',z⟩:=I.cell y c e
  exact⟨w',z.sameBut hs (Ks y c e)⟩
 ·obtain⟨e,n,ne,nf,d⟩:=I.pin p hp
  exact⟨(hs.2 p.1 ne).trans e,n,ne,nf,d⟩
 ·refine(I.hok b ob e).stay (fun c w' hc q=>(hs.2 c ?_).trans q) (fun _ q=>q) fun _ _ q=>q
  rintro rfl
  rcases hc with rfl|hc
  ·rw[I.free]at e;cases e
  ·rw[I.free]at hc;cases hc
end
structure AR (K:Vo) (Dc:Addr):Prop where
 ty:PySem.W.typeIn K (.ref Dc)=some (.type "type")
 cl:(PySem.W.clsIn K Dc).isSome=true
 be:PySem.W.mroIn K Dc (.type "BaseException")=some true
noncomputable abbrev t8(D:gQ)(i:Nat):gQ:={ nx:=fun σ H=>D.nx (σ.set i none) H,rt:=D.rt,bk:=fun σ H=>D.bk (σ.set i none) H,ct:=fun σ H=>D.ct (σ.set i none) H }
section
variable {X:Cx} {pins pins':Va} {σ:St} {H:Hp} {s':Shared} {E:Vq} {a C dx Dc:Addr} {i:Nat} {n x:Str} {np hpos:Pos} {b₀:Stmt} {suite:List Stmt} {th:Addr->TS} {D:gQ}
def AS(hst:X.stack=X.env::X.outer)(KA:X.env.frame=some X.env.locals)(hN:X.N.Nodup)(hi:X.N[i]?=some n)(hk:X.env.scope.names.lookup n=some .local)(hg:Gl X x)(hm:X.mg x=some (.ref Dc))(hD:AR X.K Dc)
  (hs:∀a,IZ (X.inH a) (b₀::suite) (th a)) (I:Inv (X.tr E pins) pins' σ H s') (xa:Cp (X.tr E pins) pins' H s'.heap a C dx) (hb:PySem.W.mroIn X.K C (.ref Dc)=some true)
  (q:∀oe:Obj,oe.cls = .ref C->oe.dict=some dx->(∀c,oe.data ≠ .cls c)->th a (t8 D i) (σ.set i (some (.ref a))) (upd H a (.frz oe (.ext fun _=>True))))
  (hdb:(x == ("__debug__":Str))=false:=by decide) :
  wpAny (model X.prog X.w) X.A (noteFrame (.ref a) X.env) (fun _ s₂=>wpAny (model X.prog X.w) X.A (setFlight (.ref a) none) (fun _ s₃=>wpAny (model X.prog X.w) X.A (handleBy (.ref a) X.env [.ExceptHandler (some (.Name x np)) (some n) (b₀::suite) hpos]) (SP X pins D) X.xe s₃) X.xe s₂) X.xe s':=by
 have I0:Inv X pins σ H s':=I.IF
 obtain⟨oe,vs,lx,hc,hd,fa,fT⟩:=xa
 have hfr:X.A.frames=some (X.env::X.outer):=by rw[<-hst];exact I0.ok.frames
 refine pL (base:=X.base) hfr (by rw[<-hst];exact I0.stack) KA lx fun h' nt=>?_
 obtain⟨I2,Mj,Jp,K3,hc2,hd2,MS,MT⟩:=I0.noted (h':=h') (by rw[hst];exact nt) lx hc hd fa.IF fun T z=>(fT T z).IF
 refine PySem.wpAny_handleBy_cons (codeAny_handlers_test ?_) (by intro q;cases q)
 have IH:=I2.inH (a:=a)
 refine dB (X:=X.inH a) IH hg hm ?_ hdb
 refine mV IH.IK K3.at_ hc2 hb hD.ty hD.cl hD.be ?_
 refine codeAny_handlers_suite_as ?_
 -- the flight is none already
 have flight:∀{Q:Unit->Shared->Prop} {E:Vq},(∀h3,Inv (X.inH a) pins σ H { s' with heap:=h3 }->h3.get? a=some Mj->Q () { s' with heap:=h3 })->wpAny (model X.prog X.w) (X.inH a).A (setFlight (.ref a) none) Q E { s' with heap:=h' }:=by
  intro Q E hQ
  rcases K3.tb with t1|⟨T,oT,ts,t1,t2,t3,t4,t5⟩
  ·unfold setFlight
   refine PJ (QE K3.at_ K3.dat t1 ?_)
   rw[if_neg (by decide)]
   exact PU (hQ _ IH K3.at_)
  ·have Mk:=MT T t1
   refine wpAny_setFlight_none K3.at_ K3.dat t1 t3 t4 (Ru.mp t5).1 (hQ _ ?_ ((QA _ _ t2).trans K3.at_))
   exact Inv.turned (s:={ s' with heap:=h' }) IH (t':=s'.toks) (it:=T) (fun b o hb e=>(QA _ _ (QK hb)).trans e) Mk.1 Mk.2.1 Mk.2.2.2.1 Mk.2.2.2.2.1 Mk.2.2.2.2.2
 refine flight fun h3 I3 ga=>?_
 have f3:G6 (X.inH a) pins H a:=MS
 have I4:Inv (X.inH a) pins σ (upd H a (.frz Mj (.ext fun _=>True))) { s' with heap:=h3 }:=I3.Ky f3 ⟨ga,True.intro,⟨_,ga⟩,fun _ _ _ _=>True.intro⟩
 refine gP (X:=X.inH a) I4 hN hi (.inl hk) (v:=.ref a) rfl (fun s5 I5 _=>?_) (.inr hk)
 refine Rg (hs a pins s5 _ _ (t8 D i) I5 (q Mj hc2 hd2 fun c z=>by rw[K3.dat]at z;cases z)) (fun f s6 hf=>?_) fun _ _ z=>False.elim z
 have fin:∀{σ6:St} {H6:Hp} {Q:Unit->Shared->Prop},Inv (X.inH a) pins σ6 H6 s6->(∀s7,Inv X pins (σ6.set i none) H6 s7->Q () s7)->wpAny (model X.prog X.w) X.A (do bindName X.env n .none;unbindBehindTheSuite X.env n hpos) Q X.xe s6:=fun I6 hq=>
  rH (I6.LD I0.ok.hd) hN hi hk fun s7 I7=>hq s7 I7
 cases f with
 |next=>obtain⟨σ6,H6,I6,q6⟩:=hf;exact fin I6 fun s7 I7=>⟨_,_,I7,q6⟩
 |brk=>obtain⟨σ6,H6,I6,q6⟩:=hf;exact fin I6 fun s7 I7=>⟨_,_,I7,q6⟩
 |cont=>obtain⟨σ6,H6,I6,q6⟩:=hf;exact fin I6 fun s7 I7=>⟨_,_,I7,q6⟩
 |ret u=>obtain⟨v6,σ6,H6,I6,r6,q6⟩:=hf;exact fin I6 fun s7 I7=>⟨_,_,_,I7,r6,q6⟩
end
noncomputable def tryXe(X:Cx)(pins:Va)(D:gQ)(hs:List ExceptHandler):Value->Shared->Prop:=fun e s₁=>
 wpAny (model X.prog X.w) X.A (noteFrame e X.env) (fun _ s₂=>wpAny (model X.prog X.w) X.A (setFlight e none) (fun _ s₃=>wpAny (model X.prog X.w) X.A (handleBy e X.env hs) (SP X pins D) X.xe s₃) X.xe s₂) X.xe s₁
def tryXe.passes{X:Cx}{pins:Va}{D:gQ}{hs:List ExceptHandler}:PassesOwn (model X.prog X.w) X.A X.env (tryXe X pins D hs):=PassesOwn.looking
def AT{X:Cx}{h₀:ExceptHandler}{body:List Stmt}{pos:Pos}{tb:(E:Vq)->List (Addr×Obj)->TS}
  (hb:∀E pins,PassesOwn (model X.prog X.w) X.A X.env E->IZ (X.tr E pins) body (tb E pins)) :
  PS X (.Try body [h₀] [] [] pos) (fun D σ H=>∀pins,tb (tryXe X pins D [h₀]) pins D σ H):=by
 intro pins s σ H D I h
 refine wpAny_Try_except ?_
 refine Rg (hb (tryXe X pins D [h₀]) pins tryXe.passes [] s σ H D I.tr (h pins)) (fun f s1 q=>?_) fun e s1 q=>q
 have q':=SP.IF q
 cases f with
 |next=>exact So q'
 |ret v=>exact q'
 |brk=>exact q'
 |cont=>exact q'
end L2
namespace L3
open PySem L2
inductive PV where
 |non|bl (b:Bool)|int (i:Int)|str (x:Str)|tup (xs:List PV)|cl (xs:List PV)|ref (a:Addr)|ty (n:String)|exc (c:Str) (ks:Vs) (ps:List PV)|cls (c:Str)
def LY(K:Vo)(H:Hp)(a:Addr)(xs:List V):Prop:=
 (∃o,H a=some (.frz o (.lst xs))) \/
  ∃(o:Obj) (its:Vw) (n:Nat),K.lookup a=some o/\o.cls = .type "list"/\o.dict=none/\o.data = .seq its n/\its.size<=sizeLine/\Vals xs its.toList
def LY.sq{K:Vo}{H:Hp}{a:Addr}{xs:List V}(h:LY K H a xs):SqL K H a xs:=h.elim (fun z=>.inl (.inr z)) .inr
def Ml(H:Hp)(a C:Addr)(ks:Vs)(vs:List V):Prop:=
 ∃oe dx od,H a=some (.frz oe (.ext fun _=>True))/\oe.cls = .ref C/\oe.dict=some dx/\(∀c,oe.data ≠ .cls c)/\H dx=some (.frz od (.ext (XD dx (ks.zip vs))))
def G8(K:Vo)(c:Str)(C:Addr):Prop:=PySem.W.nsIn K mainGlobals c=some (some (.ref C))
mutual
inductive Rep (K:Vo) (H:Hp):V->PV->Prop
 |non:Rep K H .non .non
 |bl (b:Bool):Rep K H (.bl b) (.bl b)
 |int (i:Int):Rep K H (.int i) (.int i)
 |str (x:Str):Rep K H (.str x) (.str x)
 |ty (n:String):Rep K H (.ty n) (.ty n)
 |ref (a:Addr):Rep K H (.ref a) (.ref a)
 |tup {a:Addr} {vs:List V} {ps:List PV}:SqT K H a vs->Reps K H vs ps->Rep K H (.ref a) (.tup ps)
 |cl {a:Addr} {vs:List V} {ps:List PV}:LY K H a vs->Reps K H vs ps->Rep K H (.ref a) (.cl ps)
 |exc {a C:Addr} {c:Str} {ks:Vs} {vs:List V} {ps:List PV}:G8 K c C->Ml H a C ks vs->Reps K H vs ps->Rep K H (.ref a) (.exc c ks ps)
 |cls {C:Addr} {c:Str}:G8 K c C->Rep K H (.ref C) (.cls c)
inductive Reps (K:Vo) (H:Hp):List V->List PV->Prop
 |nil:Reps K H [] []
 |cons {v:V} {p:PV} {vs:List V} {ps:List PV}:Rep K H v p->Reps K H vs ps->Reps K H (v::vs) (p::ps)
end
structure Grow (K:Vo) (H H':Hp):Prop where
 t:∀a vs,SqT K H a vs->SqT K H' a vs
 c:∀a vs,LY K H a vs->LY K H' a vs
 x:∀a o u,H a=some (.frz o u)->H' a=some (.frz o u)
def Grow.refl{K:Vo}{H:Hp}:Grow K H H:=⟨fun _ _ h=>h,fun _ _ h=>h,fun _ _ _ h=>h⟩
def Grow.trans{K:Vo}{H H1 H2:Hp}(a:Grow K H H1)(b:Grow K H1 H2):Grow K H H2:=⟨fun x vs h=>b.t x vs (a.t x vs h),fun x vs h=>b.c x vs (a.c x vs h),fun x o u h=>b.x x o u (a.x x o u h)⟩
def Ml.mono{K:Vo}{H H':Hp}(g:Grow K H H'){a C:Addr}{ks:Vs}{vs:List V}(h:Ml H a C ks vs):Ml H' a C ks vs:=let ⟨oe,dx,od,h1,h2,h3,h4,h5⟩:=h;⟨oe,dx,od,g.x _ _ _ h1,h2,h3,h4,g.x _ _ _ h5⟩
def Grow.of{K:Vo}{H H':Hp}(h:∀a xs,H a=some (.tup xs)->H' a=some (.tup xs))(h2:∀a o u,H a=some (.frz o u)->H' a=some (.frz o u)):Grow K H H':=by
 refine⟨fun a vs q=>?_,fun a vs q=>?_,h2⟩
 ·rcases q with(q|⟨o,q⟩)|q
  ·exact .inl (.inl (h a vs q))
  ·exact .inl (.inr ⟨o,h2 a o _ q⟩)
  ·exact .inr q
 ·rcases q with⟨o,q⟩|q
  ·exact .inl ⟨o,h2 a o _ q⟩
  ·exact .inr q
def Grow.same{K:Vo}{H H':Hp}(h:∀c o,H c=some o->H' c=some o):Grow K H H':=.of (fun a _ q=>h a _ q) (fun a _ _ q=>h a _ q)
def Grow.new{K:Vo}{H:Hp}{p:Addr}{o:HO}(h:H p=none):Grow K H (upd H p o):=.same fun c u q=>by rw[aq (aM q h)];exact q
noncomputable def Mu:HO->Prop
 | .tup _=>False
 | .frz _ _=>False
 |_=>True
def Grow.mut{K:Vo}{H:Hp}{p:Addr}{o u:HO}(h:H p=some u)(m:Mu u):Grow K H (upd H p o):=
 .of (fun a xs q=>by rw[aq (fun e=>by subst e;rw[h]at q;cases q;exact m)];exact q) (fun a _ _ q=>by rw[aq (fun e=>by subst e;rw[h]at q;cases q;exact m)];exact q)
mutual
theorem Rep.mono{K:Vo}{H H':Hp}(g:Grow K H H'):∀{v:V} {p:PV},Rep K H v p->Rep K H' v p
 |_,_,.non=>.non
 |_,_,.bl b=>.bl b
 |_,_,.int i=>.int i
 |_,_,.str x=>.str x
 |_,_,.ty n=>.ty n
 |_,_,.ref a=>.ref a
 |_,_,.tup h r=>.tup (g.t _ _ h) (Reps.mono g r)
 |_,_,.cl h r=>.cl (g.c _ _ h) (Reps.mono g r)
 |_,_,.exc n h r=>.exc n (h.mono g) (Reps.mono g r)
 |_,_,.cls n=>.cls n
theorem Reps.mono{K:Vo}{H H':Hp}(g:Grow K H H'):∀{vs:List V} {ps:List PV},Reps K H vs ps->Reps K H' vs ps
 |_,_,.nil=>.nil
 |_,_,.cons a r=>.cons (Rep.mono g a) (Reps.mono g r)
end
theorem Reps.length{K:Vo}{H:Hp}:∀{vs:List V} {ps:List PV},Reps K H vs ps->vs.length=ps.length
 |_,_,.nil=>rfl
 |_,_,.cons _ r=>by rw[Qa,Qa,Reps.length r]
theorem Reps.append{K:Vo}{H:Hp}:∀{vs us:List V} {ps qs:List PV},Reps K H vs ps->Reps K H us qs->Reps K H (vs++us) (ps++qs)
 |_,_,_,_,.nil,s=>s
 |_,_,_,_,.cons a r,s=>.cons a (Reps.append r s)
theorem Reps.get{K:Vo}{H:Hp}:∀{vs:List V} {ps:List PV} {i:Nat} {p:PV},Reps K H vs ps->ps[i]?=some p->∃v,vs[i]?=some v/\Rep K H v p
 |_,_,_,_,.nil,e=>by simp at e
 |_,_,0,_,.cons a r,e=>by simp at e;subst e;exact⟨_,rfl,a⟩
 |_,_,i+1,p,.cons a r,e=>by
  obtain⟨v,h1,h2⟩:=Reps.get (i:=i) (p:=p) r (by simpa using e)
  exact⟨v,by simpa using h1,h2⟩
theorem Reps.take{K:Vo}{H:Hp}:∀{vs:List V} {ps:List PV} (n:Nat),Reps K H vs ps->Reps K H (vs.take n) (ps.take n)
 |_,_,0,_=>.nil
 |_,_,_+1,.nil=>.nil
 |_,_,n+1,.cons a r=>.cons a (Reps.take n r)
theorem Reps.drop{K:Vo}{H:Hp}:∀{vs:List V} {ps:List PV} (n:Nat),Reps K H vs ps->Reps K H (vs.drop n) (ps.drop n)
 |_,_,0,r=>r
 |_,_,_+1,.nil=>.nil
 |_,_,n+1,.cons _ r=>Reps.drop n r
theorem Reps.set{K:Vo}{H:Hp}{v:V}{p:PV}(q:Rep K H v p):∀{vs:List V} {ps:List PV} (n:Nat),Reps K H vs ps->Reps K H (vs.set n v) (ps.set n p)
 |_,_,_,.nil=>.nil
 |_,_,0,.cons _ r=>.cons q r
 |_,_,n+1,.cons a r=>.cons a (Reps.set q n r)
theorem Reps.eraseIdx{K:Vo}{H:Hp}:∀{vs:List V} {ps:List PV} (n:Nat),Reps K H vs ps->Reps K H (vs.eraseIdx n) (ps.eraseIdx n)
 |_,_,_,.nil=>.nil
 |_,_,0,.cons _ r=>r
 |_,_,n+1,.cons a r=>.cons a (Reps.eraseIdx n r)
theorem Reps.reverse{K:Vo}{H:Hp}:∀{vs:List V} {ps:List PV},Reps K H vs ps->Reps K H vs.reverse ps.reverse
 |_,_,.nil=>.nil
 |_,_,.cons a r=>by rw[Rl,Rl];exact(Reps.reverse r).append (.cons a .nil)
theorem Reps.dropLast{K:Vo}{H:Hp}{vs:List V}{ps:List PV}(r:Reps K H vs ps):Reps K H vs.dropLast ps.dropLast:=by
 rw[List.dropLast_eq_take,List.dropLast_eq_take,r.length]
 exact r.take _
inductive SO where
 |lst (xs:List PV)
 |dct (kvs:List (aZ×PV))
 |ins (c:Str) (fs:List (Str×PV))
abbrev ap:=Addr->Option SO
noncomputable def GC(S:ap)(a:Addr)(o:SO):ap:=fun b=>if b=a then some o else S b
def aa{S:ap}{a:Addr}{o:SO}:GC S a o a=some o:=by unfold GC;rw[if_pos rfl]
def ag{S:ap}{a b:Addr}{o:SO}(h:b≠a):GC S a o b=S b:=by unfold GC;rw[if_neg h]
inductive GR (K:Vo) (H:Hp) {κ:Type}:List (κ×V)->List (κ×PV)->Prop
 |nil:GR K H [] []
 |cons {k:κ} {v:V} {p:PV} {vs:List (κ×V)} {ps:List (κ×PV)}:Rep K H v p->GR K H vs ps->GR K H ((k,v)::vs) ((k,p)::ps)
theorem GR.mono{K:Vo}{H H':Hp}(g:Grow K H H'){κ:Type}:∀{vs:List (κ×V)} {ps:List (κ×PV)},GR K H vs ps->GR K H' vs ps
 |_,_,.nil=>.nil
 |_,_,.cons a r=>.cons (a.mono g) (GR.mono g r)
theorem GR.length{K:Vo}{H:Hp}{κ:Type}:∀{vs:List (κ×V)} {ps:List (κ×PV)},GR K H vs ps->vs.length=ps.length
 |_,_,.nil=>rfl
 |_,_,.cons _ r=>by rw[Qa,Qa,GR.length r]
noncomputable def Jt(K:Vo)(H:Hp)(a:Addr):SO->Prop
 | .lst xs=>∃vs,H a=some (.lst vs)/\Reps K H vs xs
 | .dct kvs=>∃kv,H a=some (.dK kv)/\GR K H kv kvs
 | .ins c fs=>∃C dx f',G8 K c C/\H a=some (.ins C dx f')/\GR K H f' fs
theorem Jt.stay{K:Vo}{H H':Hp}(g:Grow K H H'){a:Addr}(e:H' a=H a):∀{o:SO},Jt K H a o->Jt K H' a o
 | .lst _,⟨vs,h,r⟩=>⟨vs,e.trans h,r.mono g⟩
 | .dct _,⟨vs,h,r⟩=>⟨vs,e.trans h,r.mono g⟩
 | .ins _ _,⟨C,dx,vs,n,h,r⟩=>⟨C,dx,vs,n,e.trans h,r.mono g⟩
theorem Jt.some{K:Vo}{H:Hp}{a:Addr}:∀{o:SO},Jt K H a o->∃u,H a=Option.some u/\Mu u
 | .lst _,⟨_,h,_⟩=>⟨_,h,trivial⟩
 | .dct _,⟨_,h,_⟩=>⟨_,h,trivial⟩
 | .ins _ _,⟨_,_,_,_,h,_⟩=>⟨_,h,trivial⟩
def GH(K:Vo)(H:Hp)(S:ap):Prop:=∀a o,S a=some o->Jt K H a o
def GH.free{K:Vo}{H:Hp}{S:ap}(r:GH K H S){p:Addr}(h:H p=none):S p=none:=by
 cases e:S p with
 |none=>rfl
 |some o=>
  obtain⟨u,q,_⟩:=(r p o e).some
  rw[h]at q;cases q
def GH.grow{K:Vo}{H H':Hp}{S:ap}(r:GH K H S)(h:∀c o,H c=some o->H' c=some o):GH K H' S:=fun a o e=>by
 obtain⟨u,q,_⟩:=(r a o e).some
 exact(r a o e).stay (.same h) ((h a u q).trans q.symm)
def GH.other{K:Vo}{H:Hp}{S:ap}(r:GH K H S){p:Addr}{o:HO}(h:H p=none):GH K (upd H p o) S:=r.grow fun c u q=>by rw[aq (aM q h)];exact q
theorem GH.new{K:Vo}{H:Hp}{S:ap}(r:GH K H S){p:Addr}{u:HO}{o:SO}(h:H p=none)(q:Jt K (upd H p u) p o):GH K (upd H p u) (GC S p o):=fun a x e=>by
 by_cases z:a=p
 ·subst z;rw[aa]at e;cases e;exact q
 ·rw[ag z]at e;exact(r a x e).stay (.new h) (aq z)
def GH.put{K:Vo}{H:Hp}{S:ap}(r:GH K H S){p:Addr}{u0 u:HO}{o:SO}(h:H p=some u0)(m:Mu u0)(q:Jt K (upd H p u) p o):GH K (upd H p u) (GC S p o):=fun a x e=>by
 by_cases z:a=p
 ·subst z;rw[aa]at e;cases e;exact q
 ·rw[ag z]at e;exact(r a x e).stay (.mut h m) (aq z)
abbrev bM:=List (Option PV)
noncomputable def lk:bM->Nat->Option PV
 |[],_=>none
 |x::_,0=>x
 |_::r,i+1=>lk r i
def t9{σ:bM}{i:Nat}{p:PV}(h:lk σ i=some p):σ[i]?=some (some p):=by
 induction σ generalizing i with
 |nil=>cases h
 |cons x r ih=>
  cases i with
  |zero=>exact Qu some h
  |succ i=>exact ih h
structure GK (K:Vo) (H:Hp) (σ:St) (σ3:bM):Prop where
 len:σ.length=σ3.length
 at':∀(i:Nat) (p:PV),σ3[i]?=some (some p)->∃v,σ[i]?=some (some v)/\Rep K H v p
theorem GK.mono{K:Vo}{H H':Hp}{σ:St}{σ3:bM}(r:GK K H σ σ3)(g:Grow K H H'):GK K H' σ σ3:=⟨r.len,fun i p e=>let ⟨v,h,q⟩:=r.at' i p e;⟨v,h,q.mono g⟩⟩
theorem GK.set{K:Vo}{H:Hp}{σ:St}{σ3:bM}(r:GK K H σ σ3){v:V}{p:PV}(q:Rep K H v p)(i:Nat):GK K H (σ.set i (some v)) (σ3.set i (some p)):=by
 refine⟨by rw[RV,RV,r.len],fun j x e=>?_⟩
 rw[SV]at e ⊢
 split at e
 ·rename_i hij
  rw[if_pos hij]
  subst hij
  split at e
  ·rename_i hl
   cases e
   rw[if_pos (by rw[r.len];exact hl)]
   exact⟨v,rfl,q⟩
  ·cases e
 ·rename_i hij
  rw[if_neg hij]
  exact r.at' j x e
abbrev bQ:=PV->ap->Prop
abbrev b8:=PV->bM->ap->Prop
abbrev aK:=bM->ap->bQ->b8->Prop
abbrev iz:=bM->ap->(Bool->ap->Prop)->b8->Prop
abbrev Gg:=bM->ap->(List PV->ap->Prop)->b8->Prop
structure fZ where
 nx:bM->ap->Prop
 rt:bQ
 ex:b8
 bk:bM->ap->Prop:=fun _ _=>False
 ct:bM->ap->Prop:=fun _ _=>False
abbrev bw:=fZ->bM->ap->Prop
def Kq(X:Cx)(H:Hp)(E:b8):Prop:=∀(c:Str) (ks:Vs) (ps:List PV) (σ3:bM) (S':ap) (H':Hp) (pins:Va) (σ:St) (s':Shared) (a C dx:Addr) (od:Obj) (vs:List V),E (.exc c ks ps) σ3 S'->G8 X.K c C->vs.length=ks.length->
 H' dx=some (.frz od (.ext (XD dx (ks.zip vs))))->Reps X.K H' vs ps->GH X.K H' S'->GK X.K H' σ σ3->Grow X.K H H'->Inv X pins σ H' s'->Cp X pins H' s'.heap a C dx->X.xe (.ref a) s'
def Kq.mono{X:Cx}{H H':Hp}{E:b8}(x:Kq X H E)(g:Grow X.K H H'):Kq X H' E:=fun c ks ps σ3 S' H2 pins σ s' a C dx od vs h1 h2 h3 h4 h5 h6 h7 h8 h9 OV=>x c ks ps σ3 S' H2 pins σ s' a C dx od vs h1 h2 h3 h4 h5 h6 h7 (g.trans h8) h9 OV
def J9(K:Vo)(H:Hp)(Q3:bQ)(Q:VK):Prop:=∀p S' v H',Q3 p S'->Rep K H' v p->GH K H' S'->Grow K H H'->Q v H'
def J9.mono{K:Vo}{H H':Hp}{Q3:bQ}{Q:VK}(r:J9 K H Q3 Q)(g:Grow K H H'):J9 K H' Q3 Q:=fun p S' v H2 h1 h2 h3 h4=>r p S' v H2 h1 h2 h3 (g.trans h4)
def K4(K:Vo)(H:Hp)(N3:bM->ap->Prop)(N:St->Hp->Prop):Prop:=∀σ3 S' σ H',N3 σ3 S'->GK K H' σ σ3->GH K H' S'->Grow K H H'->N σ H'
def K4.mono{K:Vo}{H H':Hp}{Q3:bM->ap->Prop}{Q:St->Hp->Prop}(r:K4 K H Q3 Q)(g:Grow K H H'):K4 K H' Q3 Q:=fun p S' v H2 h1 h2 h3 h4=>r p S' v H2 h1 h2 h3 (g.trans h4)
inductive LE (X:Cx) (t:aK) (σ:L2.St) (H:Hp) (Q:VK):Prop
 |mk (σ3 S Q3 E3) (rσ:GK X.K H σ σ3) (rS:GH X.K H S) (h:t σ3 S Q3 E3) (xo:Kq X H E3) (k:J9 X.K H Q3 Q):LE X t σ H Q
inductive LT (X:Cx) (t:iz) (σ:L2.St) (H:Hp) (Q:Bool->Hp->Prop):Prop
 |mk (σ3 S Q3 E3) (rσ:GK X.K H σ σ3) (rS:GH X.K H S) (h:t σ3 S Q3 E3) (xo:Kq X H E3) (k:∀b S' H',Q3 b S'->GH X.K H' S'->Grow X.K H H'->Q b H'):LT X t σ H Q
inductive LS (X:Cx) (t:bw) (D:gQ) (σ:L2.St) (H:Hp):Prop
 |mk (σ3 S D3) (rσ:GK X.K H σ σ3) (rS:GH X.K H S) (h:t D3 σ3 S) (xo:Kq X H D3.ex) (nx:K4 X.K H D3.nx D.nx) (rt:J9 X.K H D3.rt D.rt) (bk:K4 X.K H D3.bk D.bk) (ct:K4 X.K H D3.ct D.ct):LS X t D σ H
structure aO (X:Cx) (e:Expr) (t:aK):Prop where
 ok:PE X e (LE X t)
structure mW (X:Cx) (e:Expr) (t:iz):Prop where
 ok:PT X e (LT X t)
structure AU (X:Cx) (e:Expr) (t:iz):Prop where
 ok:PW X e (LT X t)
structure mE (X:Cx) (st:Stmt) (t:bw):Prop where
 ok:PS X st (LS X t)
structure dI (X:Cx) (st:List Stmt) (t:bw):Prop where
 ok:IZ X st (LS X t)
def aE{X:Cx}{e:Expr}{t t':TE}(h:PE X e t)(k:∀σ H Q,t' σ H Q->t σ H Q):PE X e t':=fun pins s σ H Q I q=>h pins s σ H Q I (k σ H Q q)
def jk{X:Cx}{e:Expr}{t t':TT}(h:PT X e t)(k:∀σ H Q,t' σ H Q->t σ H Q):PT X e t':=fun pins s σ H Q I q=>h pins s σ H Q I (k σ H Q q)
def t_{X:Cx}{e:Expr}{t t':TT}(h:PW X e t)(k:∀σ H Q,t' σ H Q->t σ H Q):PW X e t':=fun wh pins s σ H Q I q=>h wh pins s σ H Q I (k σ H Q q)
def cf{X:Cx}{e:Stmt}{t t':TS}(h:PS X e t)(k:∀D σ H,t' D σ H->t D σ H):PS X e t':=fun pins s σ H D I q=>h pins s σ H D I (k D σ H q)
def pM{X:Cx}{e:List Stmt}{t t':TS}(h:IZ X e t)(k:∀D σ H,t' D σ H->t D σ H):IZ X e t':=fun pins s σ H D I q=>h pins s σ H D I (k D σ H q)
section
variable {X:Cx} {a b c e o:Expr} {es:List Expr} {ta tb tc te:aK} {pos:Pos}
def v3(i:Nat):aK:=fun σ S Q _=>match lk σ i with|some p=>Q p S|none=>False
def ah(i:Nat){x:Str}(hN:X.N[i]?=some x:=by rfl)(hv:CC X.env.scope x:=by first|exact Or.inl rfl|exact Or.inr (Or.inl rfl)|exact Or.inr (Or.inr rfl))(hd:(x == ("__debug__":Str))=false:=by decide)
  (hcd:(x == ("__classdict__":Str))=false:=by decide):aO X (.Name x pos) (v3 i):=
 ⟨aE (sN hN hv hd hcd) fun σ H Q ⟨σ3,S,Q3,E3,rσ,rS,h,xo,k⟩=>by
  unfold v3 at h
  split at h
  ·rename_i p e
   obtain⟨v,ev,rv⟩:=rσ.at' i p (t9 e)
   exact⟨v,ev,k p S v H h rv rS .refl⟩
  ·exact h.elim⟩
def c3(p:PV):aK:=fun _ S Q _=>Q p S
def ae{i:Int}{j:Nat}:aO X (.Constant (.int i) j pos) (c3 (.int i)):=⟨aE zS fun σ H Q ⟨σ3,S,Q3,E3,rσ,rS,h,xo,k⟩=>k _ S _ H h (.int i) rS .refl⟩
def xx{i:Bool}{j:Nat}:aO X (.Constant (.bool i) j pos) (c3 (.bl i)):=⟨aE CD fun σ H Q ⟨σ3,S,Q3,E3,rσ,rS,h,xo,k⟩=>k _ S _ H h (.bl i) rS .refl⟩
def ad{i:Str}{j:Nat}:aO X (.Constant (.str i) j pos) (c3 (.str i)):=⟨aE zU fun σ H Q ⟨σ3,S,Q3,E3,rσ,rS,h,xo,k⟩=>k _ S _ H h (.str i) rS .refl⟩
def cv{j:Nat}:aO X (.Constant .none j pos) (c3 .non):=⟨aE zT fun σ H Q ⟨σ3,S,Q3,E3,rσ,rS,h,xo,k⟩=>k _ S _ H h .non rS .refl⟩
def Fi{x:Str}{n:String}(hg:Gl X x)(hm:X.mg x=none)(hv:bootBuiltins x=some (.type n))(hn:x ≠ "__name__":=by decide)(hd:(x == ("__debug__":Str))=false:=by decide):aO X (.Name x pos) (c3 (.ty n)):=
 ⟨aE (wF (v:=.ty n) hg hm hv rfl hn hd) fun σ H Q ⟨σ3,S,Q3,E3,rσ,rS,h,xo,k⟩=>k _ S _ H h (.ty n) rS .refl⟩
def AV{x z:Str}{t:Tok}(hg:Gl X x)(hm:X.mg x=some (.str z t))(hd:(x == ("__debug__":Str))=false:=by decide):aO X (.Name x pos) (c3 (.str z)):=
 ⟨aE (fR (v:=.str z) hg hm ⟨t,rfl⟩ hd) fun σ H Q ⟨σ3,S,Q3,E3,rσ,rS,h,xo,k⟩=>k _ S _ H h (.str z) rS .refl⟩
noncomputable def au:List aK->Gg
 |[],_,S,Q,_=>Q [] S
 |t::ts,σ,S,Q,E=>t σ S (fun x S1=>au ts σ S1 (fun xs S2=>Q (x::xs) S2) E) E
noncomputable def Ez:List TE->TA
 |[]=>Al
 |t::ts=>y4 t (Ez ts)
structure iA (X:Cx) (es:List Expr) (ts:List aK):Prop where
 ok:PA X es (Ez (ts.map (LE X)))
def mX:iA X [] []:=⟨Am⟩
def ua{ts:List aK}(hs:starEach (e::es) X.env=(false,eval e X.env)::starEach es X.env)(ha:aO X e te)(hr:iA X es ts):iA X (e::es) (te::ts):=⟨wS ha.ok hr.ok hs⟩
theorem bB:∀{ts:List aK} {σ:L2.St} {H:Hp} {Q:List V->Hp->Prop} {σ3:bM} {S:ap} {Q3:List PV->ap->Prop} {E3:b8},GK X.K H σ σ3->GH X.K H S->au ts σ3 S Q3 E3->Kq X H E3->
  (∀ps S' vs H',ps.length=ts.length->Q3 ps S'->Reps X.K H' vs ps->GH X.K H' S'->Grow X.K H H'->Q vs H')->Ez (ts.map (LE X)) σ H Q
 |[],σ,H,Q,σ3,S,Q3,E3,rσ,rS,h,xo,k=>k [] S [] H rfl h .nil rS .refl
 |t::ts,σ,H,Q,σ3,S,Q3,E3,rσ,rS,h,xo,k=>
  ⟨σ3,S,_,E3,rσ,rS,h,xo,fun p S1 v H1 h1 rv GP g1=>bB (rσ.mono g1) GP h1 (xo.mono g1) fun ps S2 vs H2 hl h2 Nr Hy g2=>k (p::ps) S2 (v::vs) H2 (by rw[Qa,Qa,hl]) h2 (.cons (rv.mono g2) Nr) Hy (g1.trans g2)⟩
def bR(ts:List aK):aK:=fun σ S Q E=>au ts σ S (fun xs S1=>Q (.tup xs) S1) E
def bI{ts:List aK}{x1:Nat}(h:iA X es ts)(hn:ts.length<=1000:=by exact Rw rfl):aO X (.Tuple es x1 pos) (bR ts):=
 ⟨aE (An h.ok) fun σ H Q ⟨σ3,S,Q3,E3,rσ,rS,hq,xo,k⟩=>bB rσ rS hq xo fun ps S' vs H' hl q rv HE g=>
  ⟨RB (dr (by rw[rv.length,hl];exact hn)),fun p hp=>k _ S' _ _ q (.tup (SqT.of ar) (rv.mono (.new hp))) (HE.other hp) (g.trans (.new hp))⟩⟩
def aS(ts:List aK):aK:=fun σ S Q E=>au ts σ S (fun xs S1=>∀p,S1 p=none->Q (.ref p) (GC S1 p (.lst xs))) E
def aY{ts:List aK}(h:iA X es ts)(hn:ts.length<=1000:=by exact Rw rfl):aO X (.List es pos) (aS ts):=
 ⟨aE (Ao h.ok) fun σ H Q ⟨σ3,S,Q3,E3,rσ,rS,hq,xo,k⟩=>bB rσ rS hq xo fun ps S' vs H' hl q rv HE g=>
  ⟨RB (dr (by rw[rv.length,hl];exact hn)),fun p hp=>k _ _ _ _ (q p (HE.free hp)) (.ref p) (HE.new hp ⟨vs,ar,rv.mono (.new hp)⟩) (g.trans (.new hp))⟩⟩
abbrev R3:=PV->PV->ap->bQ->Prop
inductive LR (X:Cx) (r:R3) (x y:V) (H:Hp) (Q:VK):Prop
 |mk (px py S Q3) (rx:Rep X.K H x px) (ry:Rep X.K H y py) (rS:GH X.K H S) (h:r px py S Q3) (k:J9 X.K H Q3 Q):LR X r x y H Q
structure fN (X:Cx) (f:Value->Value->Sem Value) (r:R3):Prop where
 ok:eY X f (LR X r)
def am(r:R3)(ta tb:aK):aK:=fun σ S Q E=>ta σ S (fun x S1=>tb σ S1 (fun y S2=>r x y S2 Q) E) E
def iW{r:R3}{σ:L2.St}{H:Hp}{Q:VK}:LE X (am r ta tb) σ H Q->CO (LR X r) (LE X ta) (LE X tb) σ H Q:=fun⟨σ3,S,Q3,E3,rσ,rS,h,xo,k⟩=>
 ⟨σ3,S,_,E3,rσ,rS,h,xo,fun x S1 v H1 h1 rx GP g1=>⟨σ3,S1,_,E3,rσ.mono g1,GP,h1,xo.mono g1,fun y S2 u H2 h2 ry Hy g2=>⟨x,y,S2,Q3,rx.mono g2,ry,Hy,h2,k.mono (g1.trans g2)⟩⟩⟩
def aB{op:Operator}{r:R3}(ho:fN X (binaryOp op) r)(ha:aO X a ta)(hb:aO X b tb):aO X (.BinOp a op b pos) (am r ta tb):=⟨aE (CP ho.ok ha.ok hb.ok) fun _ _ _=>iW⟩
def jl{op:CmpOp}{r:R3}(ho:fN X (compareOp op) r)(ha:aO X a ta)(hb:aO X b tb)(hm:behindInMarks op b=false):aO X (.Compare a [op] [b] pos) (am r ta tb):=⟨aE (wQ ho.ok ha.ok hb.ok hm) fun _ _ _=>iW⟩
def aL(t:aK):iz:=fun σ S Q E=>t σ S (fun v S'=>match v with | .bl k=>Q k S'|_=>False) E
def ub{σ:L2.St}{H:Hp}{Q:Bool->Hp->Prop}:LT X (aL te) σ H Q->LE X te σ H (fun x H'=>∃k,x = .bl k/\Q k H'):=fun⟨σ3,S,Q3,E3,rσ,rS,h,xo,k⟩=>
 ⟨σ3,S,_,E3,rσ,rS,h,xo,fun p S' v H' h1 rv HE g=>by
  cases p with
  |bl z=>cases rv;exact⟨z,rfl,k z S' H' h1 HE g⟩
  |_=>exact h1.elim⟩
def aW{op:CmpOp}{r:R3}(ho:fN X (compareOp op) r)(ha:aO X a ta)(hb:aO X b tb)(hm:behindInMarks op b=false):mW X (.Compare a [op] [b] pos) (aL (am r ta tb)):=
 ⟨jk (pB ho.ok ha.ok hb.ok hm) fun σ H Q ⟨σ3,S,Q3,E3,rσ,rS,h,xo,k⟩=>iW ⟨σ3,S,_,E3,rσ,rS,h,xo,fun p S' v H' h1 rv HE g=>by
  cases p with
  |bl z=>cases rv;exact⟨z,rfl,k z S' H' h1 HE g⟩
  |_=>exact h1.elim⟩⟩
def dv(h:aO X e te)(he:∀whole,isTrue e X.env whole=(do let v <-whole;standAt e.pos;holding [v] (truthy v)):=by intro _;rfl):mW X e (aL te):=
 ⟨jk (zV h.ok he) fun σ H Q q=>ub q⟩
end
section
variable {X:Cx} {a b c:Expr} {rest:List Expr} {ta tb te:aK} {tA tB:iz} {pos:Pos}
def lw(t u:iz):iz:=fun σ S Q E=>t σ S (fun c S1=>if c=true then u σ S1 Q E else Q false S1) E
def gK(t u:iz):iz:=fun σ S Q E=>t σ S (fun c S1=>if c=true then Q true S1 else u σ S1 Q E) E
def f7(t:iz):iz:=fun σ S Q E=>t σ S (fun c S1=>Q (!c) S1) E
def jm(ha:mW X a tA):AU X (.BoolOp .And [a] pos) tA:=⟨wG ha.ok⟩
def cK(ha:mW X a tA):AU X (.BoolOp .Or [a] pos) tA:=⟨zW ha.ok⟩
def mY(ha:mW X a tA)(hb:AU X (.BoolOp .And (b::rest) pos) tB):AU X (.BoolOp .And (a::b::rest) pos) (lw tA tB):=
 ⟨t_ (zX ha.ok hb.ok) fun σ H Q ⟨σ3,S,Q3,E3,rσ,rS,h,xo,k⟩=>⟨σ3,S,_,E3,rσ,rS,h,xo,fun c S1 H1 h1 GP g1=>by
  cases c with
  |true=>rw[if_pos rfl]at h1 ⊢;exact⟨σ3,S1,Q3,E3,rσ.mono g1,GP,h1,xo.mono g1,fun b S2 H2 h2 Hy g2=>k b S2 H2 h2 Hy (g1.trans g2)⟩
  |false=>rw[if_neg (by decide)]at h1 ⊢;exact k false S1 H1 h1 GP g1⟩⟩
def dJ(ha:mW X a tA)(hb:AU X (.BoolOp .Or (b::rest) pos) tB):AU X (.BoolOp .Or (a::b::rest) pos) (gK tA tB):=
 ⟨t_ (CF ha.ok hb.ok) fun σ H Q ⟨σ3,S,Q3,E3,rσ,rS,h,xo,k⟩=>⟨σ3,S,_,E3,rσ,rS,h,xo,fun c S1 H1 h1 GP g1=>by
  cases c with
  |true=>rw[if_pos rfl]at h1 ⊢;exact k true S1 H1 h1 GP g1
  |false=>rw[if_neg (by decide)]at h1 ⊢;exact⟨σ3,S1,Q3,E3,rσ.mono g1,GP,h1,xo.mono g1,fun b S2 H2 h2 Hy g2=>k b S2 H2 h2 Hy (g1.trans g2)⟩⟩⟩
def ly(h:AU X a tA):mW X a tA:=⟨h.ok.pt⟩
def jn(ha:mW X a tA):mW X (.UnaryOp .Not a pos) (f7 tA):=
 ⟨jk (zY ha.ok) fun σ H Q ⟨σ3,S,Q3,E3,rσ,rS,h,xo,k⟩=>⟨σ3,S,_,E3,rσ,rS,h,xo,fun c S1 H1 h1 GP g1=>k (!c) S1 H1 h1 GP g1⟩⟩
def kH(t u:aK):aK:=fun σ S Q E=>t σ S (fun v S1=>match v with | .bl c=>if c=true then u σ S1 Q E else Q (.bl false) S1|_=>False) E
def Df{op:BoolOp}(h:aO X a ta):aO X (.BoolOp op [a] pos) ta:=⟨zZ h.ok⟩
def Dg(ha:aO X a ta)(hb:aO X (.BoolOp .And (b::rest) pos) tb):aO X (.BoolOp .And (a::b::rest) pos) (kH ta tb):=
 ⟨aE (z0 ha.ok hb.ok) fun σ H Q ⟨σ3,S,Q3,E3,rσ,rS,h,xo,k⟩=>⟨σ3,S,_,E3,rσ,rS,h,xo,fun p S1 v H1 h1 rv GP g1=>by
  cases p with
  |bl z=>
   cases rv
   refine⟨z,rfl,?_⟩
   cases z with
   |true=>rw[if_pos rfl];exact⟨σ3,S1,Q3,E3,rσ.mono g1,GP,h1,xo.mono g1,k.mono g1⟩
   |false=>rw[if_neg (by decide)];exact k _ S1 _ H1 h1 (.bl false) GP g1
  |_=>exact h1.elim⟩⟩
def rJ(t:iz)(ta tb:aK):aK:=fun σ S Q E=>t σ S (fun c S1=>if c=true then ta σ S1 Q E else tb σ S1 Q E) E
def zb(hc:mW X c tA)(ha:aO X a ta)(hb:aO X b tb):aO X (.IfExp c a b pos) (rJ tA ta tb):=
 ⟨aE (sO hc.ok ha.ok hb.ok) fun σ H Q ⟨σ3,S,Q3,E3,rσ,rS,h,xo,k⟩=>⟨σ3,S,_,E3,rσ,rS,h,xo,fun c S1 H1 h1 GP g1=>by
  cases c with
  |true=>rw[if_pos rfl]at h1 ⊢;exact⟨σ3,S1,Q3,E3,rσ.mono g1,GP,h1,xo.mono g1,k.mono g1⟩
  |false=>rw[if_neg (by decide)]at h1 ⊢;exact⟨σ3,S1,Q3,E3,rσ.mono g1,GP,h1,xo.mono g1,k.mono g1⟩⟩⟩
abbrev Dh:=PV->ap->bQ->Prop
noncomputable def Gh(X:Cx)(r:Dh):V->Hp->VK->Prop:=fun x H Q=>∃px S Q3,Rep X.K H x px/\GH X.K H S/\r px S Q3/\J9 X.K H Q3 Q
structure FX (X:Cx) (f:Value->Sem Value) (r:Dh):Prop where
 ok:Eu X f (Gh X r)
def sG(r:Dh)(ta:aK):aK:=fun σ S Q E=>ta σ S (fun x S1=>r x S1 Q) E
def rK{op:UnaryOp}{r:Dh}(ho:FX X (unaryOp op) r)(ha:aO X a ta):aO X (.UnaryOp op a pos) (sG r ta):=
 ⟨aE (CQ ho.ok ha.ok) fun σ H Q ⟨σ3,S,Q3,E3,rσ,rS,h,xo,k⟩=>⟨σ3,S,_,E3,rσ,rS,h,xo,fun p S1 v H1 h1 rv GP g1=>⟨p,S1,Q3,rv,GP,h1,k.mono g1⟩⟩⟩
noncomputable def iN:Dh:=fun x S Q=>match x with | .int i=>Q (.int (-i)) S|_=>False
def gW:FX X (unaryOp .USub) iN:=⟨fun pins s σ H x v Q I rx ⟨px,S,Q3,r1,rS,h,k⟩=>by
 cases px with
 |int i=>cases r1;exact Aj pins s σ H _ v Q I rx ⟨i,rfl,k _ S _ H h (.int _) rS .refl⟩
 |_=>exact h.elim⟩
end
section
variable {X:Cx}
def fk(g:Int->Int->PV):R3:=fun x y S Q=>match x,y with | .int i,.int j=>Q (g i j) S|_,_=>False
def ft(C:Int->Int->Prop)(g:Int->Int->PV):R3:=fun x y S Q=>match x,y with | .int i,.int j=>C i j/\Q (g i j) S|_,_=>False
def AX{f:Value->Value->Sem Value}{g:Int->Int->Int}(h:eY X f (wM fun i j=>.int (g i j))):fN X f (fk fun i j=>.int (g i j)):=⟨fun pins s σ H x y v u Q I rx ry ⟨px,py,S,Q3,r1,r2,rS,q,k⟩=>by
 cases px with
 |int i=>
  cases py with
  |int j=>cases r1;cases r2;exact h pins s σ H _ _ v u Q I rx ry ⟨i,j,rfl,rfl,k _ S _ H q (.int _) rS .refl⟩
  |_=>exact q.elim
 |_=>exact q.elim⟩
def lz{f:Value->Value->Sem Value}{g:Int->Int->Bool}(h:eY X f (wM fun i j=>.bl (g i j))):fN X f (fk fun i j=>.bl (g i j)):=⟨fun pins s σ H x y v u Q I rx ry ⟨px,py,S,Q3,r1,r2,rS,q,k⟩=>by
 cases px with
 |int i=>
  cases py with
  |int j=>cases r1;cases r2;exact h pins s σ H _ _ v u Q I rx ry ⟨i,j,rfl,rfl,k _ S _ H q (.bl _) rS .refl⟩
  |_=>exact q.elim
 |_=>exact q.elim⟩
def lA{f:Value->Value->Sem Value}{C:Int->Int->Prop}{g:Int->Int->Int}(h:eY X f (rI C fun i j=>.int (g i j))):fN X f (ft C fun i j=>.int (g i j)):=⟨fun pins s σ H x y v u Q I rx ry ⟨px,py,S,Q3,r1,r2,rS,q,k⟩=>by
 cases px with
 |int i=>
  cases py with
  |int j=>cases r1;cases r2;exact h pins s σ H _ _ v u Q I rx ry ⟨i,j,rfl,rfl,q.1,k _ S _ H q.2 (.int _) rS .refl⟩
  |_=>exact q.elim
 |_=>exact q.elim⟩
def mZ(i j:Int):Prop:=j≠0/\j.natAbs < 2 ^ 8000
def on{n:Nat}(h:n < 2 ^ 8000):n.log2 < 9000:=by
 by_cases z:n=0
 ·rw[z];decide +kernel
 ·exact Sf ((Nat.log2_lt z).mpr h) (by decide)
def AY:fN X (binaryOp .Sub) (fk fun i j=>.int (i - j)):=AX Ah
def AZ:fN X (binaryOp .Mod) (ft (fun _ j=>j≠0) fun i j=>.int (i.fmod j)):=lA wO
def xy:fN X (binaryOp .FloorDiv) (ft mZ fun i j=>.int (i.fdiv j)):=lA (Ev fun _ _ _ _ _ _ _ hc q=>PyProof.Rows.floordiv_int hc.1 q (.inl (PyProof.noPylong_of_log2 (on hc.2))))
def A0:fN X (binaryOp .Pow) (ft wN fun i j=>.int (i ^ j.toNat)):=lA Ai
def Di:fN X (compareOp .Lt) (fk fun i j=>.bl (decide (i < j))):=lz CU
def Dj:fN X (compareOp .Gt) (fk fun i j=>.bl (decide (j < i))):=lz CV
def Dk:fN X (compareOp .GtE) (fk fun i j=>.bl (decide (j<=i))):=lz CW
end
end L3
namespace L2
open PySem PySem.Spec PyProof.Rows
section
variable {X:Cx}
def Dl(K:Vo):R2:=fun x y H Q=>∃a b xs ys,x = .ref a/\y = .ref b/\SqT K H a xs/\SqT K H b ys/\xs.length+ys.length<=sizeLine/\∀r H',(∀c o,H c=some o->H' c=some o)->SqT K H' r (xs++ys)->Q (.ref r) H'
def xz:eY X (binaryOp .Add) (Dl X.K):=by
 intro pins s σ H x y v u Q I rx ry h
 obtain⟨a,b,xs,ys,rfl,rfl,ha,hb,hz,q⟩:=h
 by_cases hx:xs=[]
 ·subst hx
  cases rx
  cases ry
  obtain⟨its,r1,p1,_⟩:=I.tuple ha
  obtain⟨its2,r2,p2,_⟩:=I.tuple hb
  cases r1
  obtain⟨⟨cls,dd,data,sl⟩,ho,hc,n,hd⟩:=id p1
  obtain⟨⟨Nc,dd2,data2,sl2⟩,ho2,hc2,n2,hd2⟩:=id p2
  simp only at hc hd hc2 hd2
  subst hc hd hc2 hd2
  exact concat_meets ⟨_,ho,rfl⟩ ⟨_,ho2,rfl⟩ noFill_tuple_add seq_tuple_add SK SG (Sm _ _)
   (tuple_addW0 a b _ its2.toArray n n2 dd dd2 sl sl2 rfl) ⟨ho,ho2,⟨.ref b,H,I,rfl,q b H (fun _ _ e=>e) hb⟩⟩
 ·exact wY pins s σ H _ _ v u Q I rx ry ⟨a,b,xs,ys,rfl,rfl,ha,hb,hx,hz,fun e=>q a H (fun _ _ e=>e) (by rw[e,Qv];exact ha),
   fun _ p hp=>q p _ (fun c o e=>by rw[aq (aM e hp)];exact e) (SqT.of ar)⟩
end
end L2
namespace L3
open PySem L2
section
variable {X:Cx}
def aH:R3:=fun x y S Q=>match x,y with
 | .int i,.int j=>Q (.int (i+j)) S
 | .str i,.str j=>i.length+j.length<=sizeLine/\Q (.str (i++j)) S
 | .tup i,.tup j=>i.length+j.length<=sizeLine/\Q (.tup (i++j)) S
 | .ref i,.ref j=>match S i,S j with
  |some (.lst xs),some (.lst ys)=>xs.length+ys.length<=sizeLine/\∀p,S p=none->Q (.ref p) (GC S p (.lst (xs++ys)))
  |_,_=>False
 |_,_=>False
def az:fN X (binaryOp .Add) aH:=⟨fun pins s σ H x y v u Q I rx ry ⟨px,py,S,Q3,r1,r2,rS,q,k⟩=>by
 unfold aH at q
 split at q
 ·cases r1;cases r2
  exact Ag pins s σ H _ _ v u Q I rx ry ⟨_,_,rfl,rfl,k _ S _ H q (.int _) rS .refl⟩
 ·cases r1;cases r2
  exact nX pins s σ H _ _ v u Q I rx ry ⟨_,_,rfl,rfl,q.1,k _ S _ H q.2 (.str _) rS .refl⟩
 ·cases r1 with
  |tup h1 s1=>
   cases r2 with
   |tup h2 s2=>
    refine xz pins s σ H _ _ v u Q I rx ry ⟨_,_,_,_,rfl,rfl,h1,h2,by rw[s1.length,s2.length];exact q.1,fun r H' hs hr=>?_⟩
    exact k _ S _ H' q.2 (.tup hr ((s1.mono (.same hs)).append (s2.mono (.same hs)))) (rS.grow hs) (.same hs)
 ·cases r1;cases r2
  split at q
  ·rename_i i j xs ys e1 e2
   obtain⟨vs,h1,s1⟩:=rS _ _ e1
   obtain⟨us,h2,s2⟩:=rS _ _ e2
   exact Ay pins s σ H _ _ v u Q I rx ry ⟨_,_,_,_,rfl,rfl,h1,h2,by rw[s1.length,s2.length];exact q.1,fun p hp=>k _ _ _ _ (q.2 p (rS.free hp)) (.ref p) (rS.new hp ⟨_,ar,(s1.append s2).mono (.new hp)⟩) (.new hp)⟩
  ·exact q.elim
 ·exact q.elim⟩
end
mutual
inductive Dat (S:ap):PV->PyData->Prop
 |non:Dat S .non .none
 |bl (b:Bool):Dat S (.bl b) (.bool b)
 |int (i:Int):Dat S (.int i) (.int i)
 |str (x:Str):Dat S (.str x) (.str x)
 |tup {ps:List PV} {ds:List PyData}:Hz S ps ds->Dat S (.tup ps) (.tuple ds)
 |cl {ps:List PV} {ds:List PyData}:Hz S ps ds->Dat S (.cl ps) (.list ds)
 |ref {a:Addr} {ps:List PV} {ds:List PyData}:S a=some (.lst ps)->Hz S ps ds->Dat S (.ref a) (.list ds)
inductive Hz (S:ap):List PV->List PyData->Prop
 |nil:Hz S [] []
 |cons {p:PV} {d:PyData} {ps:List PV} {ds:List PyData}:Dat S p d->Hz S ps ds->Hz S (p::ps) (d::ds)
end
section
variable {X:Cx} {pins:Va} {σ:L2.St} {H:Hp} {s:Shared} {S:ap}
def oo(I:Inv X pins σ H s)(rS:GH X.K H S):(∀{p:PV} {d:PyData},Dat S p d->∀{v:V} {u:Value},Rep X.K H v p->RelV v u->∃as,Reads s.heap u d as)/\∀{ps:List PV} {ds:List PyData},Hz S ps ds->∀{vs:List V} {us:Vv},Reps X.K H vs ps->Vals vs us->∃as,ReadsAll s.heap us ds as:=by
 have one:=@Dat.rec S (motive_1:=fun p d _=>∀{v:V} {u:Value},Rep X.K H v p->RelV v u->∃as,Reads s.heap u d as) (motive_2:=fun ps ds _=>∀{vs:List V} {us:Vv},Reps X.K H vs ps->Vals vs us->∃as,ReadsAll s.heap us ds as)
 have two:=@Hz.rec S (motive_1:=fun p d _=>∀{v:V} {u:Value},Rep X.K H v p->RelV v u->∃as,Reads s.heap u d as) (motive_2:=fun ps ds _=>∀{vs:List V} {us:Vv},Reps X.K H vs ps->Vals vs us->∃as,ReadsAll s.heap us ds as)
 have c1:∀{v:V} {u:Value},Rep X.K H v .non->RelV v u->∃as,Reads s.heap u .none as:=fun h r=>by cases h;cases r;exact⟨_,.none⟩
 have c2:∀(b:Bool) {v:V} {u:Value},Rep X.K H v (.bl b)->RelV v u->∃as,Reads s.heap u (.bool b) as:=fun b _ _ h r=>by cases h;cases r;exact⟨_,.bool b⟩
 have c3:∀(i:Int) {v:V} {u:Value},Rep X.K H v (.int i)->RelV v u->∃as,Reads s.heap u (.int i) as:=fun i _ _ h r=>by cases h;obtain⟨t,rfl⟩:=r;exact⟨_,.int i t⟩
 have c4:∀(x:Str) {v:V} {u:Value},Rep X.K H v (.str x)->RelV v u->∃as,Reads s.heap u (.str x) as:=fun x _ _ h r=>by cases h;obtain⟨t,rfl⟩:=r;exact⟨_,.str x t⟩
 have c5:∀{ps:List PV} {ds:List PyData},Hz S ps ds->(∀{vs:List V} {us:Vv},Reps X.K H vs ps->Vals vs us->∃as,ReadsAll s.heap us ds as)->∀{v:V} {u:Value},Rep X.K H v (.tup ps)->RelV v u->∃as,Reads s.heap u (.tuple ds) as:=fun _ ih _ _ h r=>by
  cases h with
  |tup h rs=>
   cases r
   obtain⟨its,rv,⟨o,ho,hc,n,hd⟩,hz⟩:=I.tuple h
   obtain⟨as,q⟩:=ih rs rv
   exact⟨as,.tuple ho hc hd (by simpa using q)⟩
 have c6:∀{ps:List PV} {ds:List PyData},Hz S ps ds->(∀{vs:List V} {us:Vv},Reps X.K H vs ps->Vals vs us->∃as,ReadsAll s.heap us ds as)->∀{v:V} {u:Value},Rep X.K H v (.cl ps)->RelV v u->∃as,Reads s.heap u (.list ds) as:=fun _ ih _ _ h r=>by
  cases h with
  |cl h rs=>
   cases r
   obtain⟨its,rv,⟨o,n,ho,hc,_,hd⟩,hz⟩:=I.list h.sq
   obtain⟨as,q⟩:=ih rs rv
   exact⟨_,.list ho hc hd (by simpa using q)⟩
 have c7:∀{a:Addr} {ps:List PV} {ds:List PyData},S a=some (.lst ps)->Hz S ps ds->(∀{vs:List V} {us:Vv},Reps X.K H vs ps->Vals vs us->∃as,ReadsAll s.heap us ds as)->∀{v:V} {u:Value},Rep X.K H v (.ref a)->RelV v u->∃as,Reads s.heap u (.list ds) as:=fun e _ ih _ _ h r=>by
  cases h
  cases r
  obtain⟨vs,hv,rs⟩:=rS _ _ e
  obtain⟨its,rv,⟨o,n,ho,hc,_,hd⟩,hz⟩:=I.list (SqL.of hv)
  obtain⟨as,q⟩:=ih rs rv
  exact⟨_,.list ho hc hd (by simpa using q)⟩
 have c8:∀{vs:List V} {us:Vv},Reps X.K H vs []->Vals vs us->∃as,ReadsAll s.heap us [] as:=fun h r=>by cases h;cases r;exact⟨_,.nil⟩
 have c9:∀{p:PV} {d:PyData} {ps:List PV} {ds:List PyData},Dat S p d->Hz S ps ds->(∀{v:V} {u:Value},Rep X.K H v p->RelV v u->∃as,Reads s.heap u d as)->(∀{vs:List V} {us:Vv},Reps X.K H vs ps->Vals vs us->∃as,ReadsAll s.heap us ds as)->∀{vs:List V} {us:Vv},Reps X.K H vs (p::ps)->Vals vs us->∃as,ReadsAll s.heap us (d::ds) as:=fun _ _ i1 i2 _ _ h r=>by
  cases h with
  |cons a rs=>
   cases r with
   |cons r1 r2=>
    obtain⟨as,q⟩:=i1 a r1
    obtain⟨bs,q2⟩:=i2 rs r2
    exact⟨_,.cons q q2⟩
 exact⟨fun h=>one c1 c2 c3 c4 c5 c6 c7 c8 c9 h,fun h=>two c1 c2 c3 c4 c5 c6 c7 c8 c9 h⟩
def Dat.reads(I:Inv X pins σ H s)(rS:GH X.K H S){p:PV}{d:PyData}{v:V}{u:Value}(h:Dat S p d)(r:Rep X.K H v p)(r2:RelV v u):∃as,Reads s.heap u d as:=(oo I rS).1 h r r2
end
section
variable {X:Cx}
def bE(neg:Bool):R3:=fun x y S Q=>match x,y with
 | .int i,.int j=>Q (.bl (neg != decide (i=j))) S
 | .str i,.str j=>Q (.bl (neg != decide (i=j))) S
 | .bl i,.bl j=>Q (.bl (neg != decide (i=j))) S
 |x,y=>∃d d',Dat S x d/\Dat S y d'/\d.canLay0=true/\d'.canLay0=true/\min d.depth d'.depth<=150/\Q (.bl (neg != PyData.eqv d d')) S
def zc(hu:X.A.units+150 < cLine):fN X (compareOp .Eq) (bE false):=⟨fun pins s σ H x y v u Q I rx ry ⟨px,py,S,Q3,r1,r2,rS,q,k⟩=>by
 unfold bE at q
 split at q
 ·cases r1;cases r2
  exact sV pins s σ H _ _ v u Q I rx ry ⟨rfl,k _ S _ H (by simpa using q) (.bl _) rS .refl⟩
 ·cases r1;cases r2
  exact sV pins s σ H _ _ v u Q I rx ry ⟨rfl,k _ S _ H (by simpa using q) (.bl _) rS .refl⟩
 ·cases r1;cases r2
  exact sV pins s σ H _ _ v u Q I rx ry ⟨rfl,k _ S _ H (by simpa using q) (.bl _) rS .refl⟩
 ·obtain⟨d,d',h1,h2,c1,c2,hd,q⟩:=q
  obtain⟨as,a1⟩:=h1.reads I rS r1 rx
  obtain⟨bs,a2⟩:=h2.reads I rS r2 ry
  exact SeqAt.compareEq_reads a1 a2 c1 c2 (by omega) ⟨.bl _,H,I,rfl,k _ S _ H (by simpa using q) (.bl _) rS .refl⟩⟩
def zd(hu:X.A.units+150 < cLine):fN X (compareOp .NotEq) (bE true):=⟨fun pins s σ H x y v u Q I rx ry ⟨px,py,S,Q3,r1,r2,rS,q,k⟩=>by
 unfold bE at q
 split at q
 ·cases r1;cases r2
  exact sW pins s σ H _ _ v u Q I rx ry ⟨rfl,k _ S _ H (by simpa using q) (.bl _) rS .refl⟩
 ·cases r1;cases r2
  exact sW pins s σ H _ _ v u Q I rx ry ⟨rfl,k _ S _ H (by simpa using q) (.bl _) rS .refl⟩
 ·cases r1;cases r2
  exact sW pins s σ H _ _ v u Q I rx ry ⟨rfl,k _ S _ H (by simpa using q) (.bl _) rS .refl⟩
 ·obtain⟨d,d',h1,h2,c1,c2,hd,q⟩:=q
  obtain⟨as,a1⟩:=h1.reads I rS r1 rx
  obtain⟨bs,a2⟩:=h2.reads I rS r2 ry
  exact SeqAt.compareNe_reads a1 a2 c1 c2 (by omega) ⟨.bl _,H,I,rfl,k _ S _ H (by simpa using q) (.bl _) rS .refl⟩⟩
def oq(neg:Bool):R3:=fun x y S Q=>match y with
 | .non=>Q (.bl (neg != match x with | .non=>true|_=>false)) S
 | .bl true=>match x with | .bl true=>Q (.bl (neg != true)) S|_=>False
 |_=>False
def ze:fN X (compareOp .Is) (oq false):=⟨fun pins s σ H x y v u Q I rx ry ⟨px,py,S,Q3,r1,r2,rS,q,k⟩=>by
 unfold oq at q
 split at q
 ·cases r2
  refine Ak pins s σ H _ _ v u Q I rx ry ⟨rfl,?_⟩
  cases r1<;>exact k _ S _ H (by simpa using q) (.bl _) rS .refl
 ·cases r2
  split at q
  ·cases r1
   exact AG pins s σ H _ _ v u Q I rx ry ⟨rfl,rfl,k _ S _ H (by simpa using q) (.bl _) rS .refl⟩
  ·exact q.elim
 ·exact q.elim⟩
def uc:fN X (compareOp .IsNot) (oq true):=⟨fun pins s σ H x y v u Q I rx ry ⟨px,py,S,Q3,r1,r2,rS,q,k⟩=>by
 unfold oq at q
 split at q
 ·cases r2
  refine wP pins s σ H _ _ v u Q I rx ry ⟨rfl,?_⟩
  cases r1<;>exact k _ S _ H (by simpa using q) (.bl _) rS .refl
 ·cases r2
  split at q
  ·cases r1
   exact rD pins s σ H _ _ v u Q I rx ry ⟨rfl,rfl,k _ S _ H (by simpa using q) (.bl _) rS .refl⟩
  ·exact q.elim
 ·exact q.elim⟩
noncomputable def jo(S:ap):PV->Option (List PV)
 | .tup xs=>some xs
 | .cl xs=>some xs
 | .ref a=>match S a with|some (.lst xs)=>some xs|_=>none
 |_=>none
def A1{H:Hp}{S:ap}{v:V}{p:PV}{xs:List PV}(rS:GH X.K H S)(r:Rep X.K H v p)(h:jo S p=some xs):∃a vs,v = .ref a/\(SqL X.K H a vs\/SqT X.K H a vs)/\Reps X.K H vs xs:=by
 unfold jo at h
 split at h
 ·cases h;cases r with|tup h1 rs=>exact⟨_,_,rfl,.inr h1,rs⟩
 ·cases h;cases r with|cl h1 rs=>exact⟨_,_,rfl,.inl h1.sq,rs⟩
 ·cases r
  split at h
  ·rename_i e
   cases h
   obtain⟨vs,hv,rs⟩:=rS _ _ e
   exact⟨_,vs,rfl,.inl (SqL.of hv),rs⟩
  ·cases h
 ·cases h
noncomputable def fu(x:PyData)(xs:List PyData):Bool:=xs.any fun y=>PyData.eqv y x
def jp(neg:Bool):R3:=fun x y S Q=>match x,y with
 | .str i,.str j=>Q (.bl (neg != !(Builtin.Str.occurrences j i 0 j.length 1).isEmpty)) S
 |x,y=>match y with
  | .ref a=>match S a with
   |some (.lst xs)=>∃d ds,Dat S x d/\Hz S xs ds/\d.canLay0=true/\PyData.canLayAll0 ds=true/\d.depth<=150/\Q (.bl (neg != fu d ds)) S
   |some (.dct kvs)=>match x with
    | .str z=>Q (.bl (neg != (kvs.any fun kv=>decide (kv.1=Sum.inr z)))) S
    | .int z=>Q (.bl (neg != (kvs.any fun kv=>decide (kv.1=Sum.inl z)))) S
    |_=>False
   |_=>False
  | .tup xs=>∃d ds,Dat S x d/\Hz S xs ds/\d.canLay0=true/\PyData.canLayAll0 ds=true/\d.depth<=150/\Q (.bl (neg != fu d ds)) S
  |_=>False
theorem GR.any{K:Vo}{H:Hp}{κ:Type} [DecidableEq κ](k:κ):∀{vs:List (κ×V)} {ps:List (κ×PV)},GR K H vs ps->(dZ vs k).isSome=ps.any fun kv=>decide (kv.1=k)
 |_,_,.nil=>rfl
 |_,_,.cons (k:=k') a r=>by
  rw[RX,<-GR.any k r]
  by_cases e:k'=k
  ·rw[Hv e];simp[e]
  ·rw[Hw e];simp[e]
def kI(hu:X.A.units+160 < cLine):fN X (compareOp .In) (jp false):=⟨fun pins s σ H x y v u Q I rx ry ⟨px,py,S,Q3,r1,r2,rS,q,k⟩=>by
 unfold jp at q
 split at q
 ·cases r1;cases r2
  exact qT pins s σ H _ _ v u Q I rx ry ⟨_,_,rfl,rfl,k _ S _ H (by simpa using q) (.bl _) rS .refl⟩
 ·split at q
  ·cases r2
   cases ry
   split at q
   ·rename_i xs e
    obtain⟨d,ds,h1,h2,c1,c2,hd,q⟩:=q
    obtain⟨as,a1⟩:=h1.reads I rS r1 rx
    obtain⟨bs,a2⟩:=(Dat.ref e h2).reads I rS (.ref _) (rfl:RelV (.ref _) (.ref _))
    exact SeqAt.in_list_reads a2 a1 c2 c1 (by omega) ⟨.bl _,H,I,rfl,k _ S _ H (by simpa [fu]using q) (.bl _) rS .refl⟩
   ·rename_i kvs e
    obtain⟨kv,hv,rk⟩:=rS _ _ e
    split at q
    ·cases r1
     exact C4 (by omega) I (DGet.k (k:=Sum.inr _) hv) rx fun s3 I3=>⟨.bl _,H,I3,rfl,k _ S _ H (by rw[rk.any];simpa using q) (.bl _) rS .refl⟩
    ·cases r1
     exact C4 (by omega) I (DGet.k (k:=Sum.inl _) hv) rx fun s3 I3=>⟨.bl _,H,I3,rfl,k _ S _ H (by rw[rk.any];simpa using q) (.bl _) rS .refl⟩
    ·exact q.elim
   ·exact q.elim
  ·rename_i xs
   obtain⟨d,ds,h1,h2,c1,c2,hd,q⟩:=q
   obtain⟨as,a1⟩:=h1.reads I rS r1 rx
   obtain⟨bs,a2⟩:=(Dat.tup h2).reads I rS r2 ry
   exact SeqAt.in_tuple_reads a2 a1 c2 c1 (by omega) ⟨.bl _,H,I,rfl,k _ S _ H (by simpa [fu]using q) (.bl _) rS .refl⟩
  ·exact q.elim⟩
def d4(hu:X.A.units+160 < cLine):fN X (compareOp .NotIn) (jp true):=⟨fun pins s σ H x y v u Q I rx ry ⟨px,py,S,Q3,r1,r2,rS,q,k⟩=>by
 unfold jp at q
 split at q
 ·cases r1;cases r2
  exact lj pins s σ H _ _ v u Q I rx ry ⟨_,_,rfl,rfl,k _ S _ H (by simpa using q) (.bl _) rS .refl⟩
 ·split at q
  ·cases r2
   cases ry
   split at q
   ·rename_i xs e
    obtain⟨d,ds,h1,h2,c1,c2,hd,q⟩:=q
    obtain⟨as,a1⟩:=h1.reads I rS r1 rx
    obtain⟨bs,a2⟩:=(Dat.ref e h2).reads I rS (.ref _) (rfl:RelV (.ref _) (.ref _))
    exact SeqAt.notIn_list_reads a2 a1 c2 c1 (by omega) ⟨.bl _,H,I,rfl,k _ S _ H (by simpa [fu]using q) (.bl _) rS .refl⟩
   ·rename_i kvs e
    obtain⟨kv,hv,rk⟩:=rS _ _ e
    split at q
    ·cases r1
     exact pI (by omega) I (DGet.k (k:=Sum.inr _) hv) rx fun s3 I3=>⟨.bl _,H,I3,rfl,k _ S _ H (by rw[rk.any];simpa using q) (.bl _) rS .refl⟩
    ·cases r1
     exact pI (by omega) I (DGet.k (k:=Sum.inl _) hv) rx fun s3 I3=>⟨.bl _,H,I3,rfl,k _ S _ H (by rw[rk.any];simpa using q) (.bl _) rS .refl⟩
    ·exact q.elim
   ·exact q.elim
  ·rename_i xs
   obtain⟨d,ds,h1,h2,c1,c2,hd,q⟩:=q
   obtain⟨as,a1⟩:=h1.reads I rS r1 rx
   obtain⟨bs,a2⟩:=(Dat.tup h2).reads I rS r2 ry
   exact SeqAt.notIn_tuple_reads a2 a1 c2 c1 (by omega) ⟨.bl _,H,I,rfl,k _ S _ H (by simpa [fu]using q) (.bl _) rS .refl⟩
  ·exact q.elim⟩
end
end L3
namespace HT
open PySem PySem.Spec PyProof.Rows
section
variable {prog:Program} {w:World} {A:Around} {E:Vq} {s:Shared}
def f8{t sl:Addr}{items:Vw}{vl vu:Value}{lo hi:Option Int}{Q:Vq}(ht:IsTup s.heap t items)(hs:s.heap.IsSliceOf sl vl vu .none)(pl:IsPart vl lo)(pu:IsPart vu hi)
  (hw:GQ items.size 0 lo=0/\GQ items.size items.size hi=items.size)
  (h:Q (.ref t) s):wpAny (model prog w) A (getItem (.ref t) (.ref sl)) Q E s:=by
 obtain⟨os,hos,hcs,hds⟩:=id hs
 have Nd:s.TypeIs (.ref sl) "slice":=⟨os,hos,hcs⟩
 unfold getItem
 try with_reducible refine Rq ?_
 first|refine PJ (PU ?_)|skip
 refine PJ (wpAny_sequenceKey ht.typeIs (by decide) ?_)
 refine PJ (Q7 (name:=Str.ofString "__getitem__") ht.typeIs QI
  (RL QI ht.typeIs entry_tuple_getitem ?_ (args_tuple_getitem _ _)))
 show wpAny _ _ (Builtin.Tuple.tupleItemsOf (.ref t) >>= _) _ _ s
 refine PJ (tupleItemsOf_ ht ?_)
 refine PJ (wpAny_typeOf Nd ?_)
 rw[if_pos (by decide)]
 refine PJ (dq hs pl pu ?_)
 have hyes:(((GQ items.size 0 lo:Nat):Int) == 0&&(1:Int) == 1&&(GQ items.size items.size hi - GQ items.size 0 lo) == items.size)=true:=by
  rw[hw.1,hw.2];simp
 show wpAny _ _ (if (((GQ items.size 0 lo:Nat):Int) == 0&&(1:Int) == 1&&(GQ items.size items.size hi - GQ items.size 0 lo) == items.size)=true then _ else _) _ _ s
 rw[if_pos hyes]
 unfold Builtin.Tuple.tupleIsExact
 refine PJ (PJ (wpAny_typeOf ht.typeIs (PU ?_)))
 rw[if_pos (by decide)]
 first
  |exact PJ (Tj (PU ⟨_,rfl,PU h⟩))
  |exact PJ (Tj (PJ (PU (PU ⟨_,rfl,PU h⟩))))
  |exact PJ (Tj (PJ (PU ⟨_,rfl,PU h⟩)))
end
end HT
namespace L2
open PySem PySem.Spec PyProof.Rows
section
variable {X:Cx}
noncomputable def Dm(K:Vo):V->Option Int->Option Int->Hp->VK->Prop:=fun x lo hi H Q=>∃a xs,x = .ref a/\SqT K H a xs/\∀r H',(∀c o,H c=some o->H' c=some o)->SqT K H' r (je xs lo hi)->Q (.ref r) H'
def xA:Cn X (Dm X.K):=by
 intro pins s σ H x v vl vu lo hi sl Q I rx hs pl pu h
 obtain⟨a,xs,rfl,hx,q⟩:=h
 by_cases hw:HT.GQ xs.length 0 lo=0/\HT.GQ xs.length xs.length hi=xs.length
 ·cases rx
  obtain⟨its,r,ht,hz⟩:=I.tuple hx
  have hlen:its.toArray.size=xs.length:=by rw[P8];exact r.length.symm
  refine⟨"tuple",_,QI.lookup,ht.typeIs,HT.f8 ht hs pl pu (by rw[hlen];exact hw) ⟨.ref a,H,I,rfl,q a H (fun _ _ e=>e) ?_⟩⟩
  have e:je xs lo hi=xs:=by unfold je;rw[hw.1,hw.2];simp
  rw[e];exact hx
 ·exact Aq pins s σ H _ v vl vu lo hi sl Q I rx hs pl pu ⟨a,xs,rfl,hx,hw,fun p hp=>q p _ (fun c o e=>by rw[aq (aM e hp)];exact e) (SqT.of ar)⟩
def xB(hu:X.A.units+1 < cLine):Ar X (fun x y H Q=>∃a v,x = .ref a/\DGet H a y (some v)/\Q v H):=by
 intro value slice pins s σ H x y v u Q I rx ry h hs
 obtain⟨a,z,rfl,g,q⟩:=h
 cases rx
 exact tail_any (mR I g) PySem.F.slot_dict_getitem.lookup (q9 hu I g ry fun w' s3 I3 rw'=>⟨z,H,I3,rw',q⟩) hs
def ud(hu:X.A.units+1 < cLine):wJ X (fun o i v H Q=>∃a H',o = .ref a/\Kv H a i v H'/\Q H'):=by
 intro pins s σ H o i v ov iv u Q I ro ri rv h
 obtain⟨a,H',rfl,g,q⟩:=h
 cases ro
 exact q_ hu I g ri rv fun s' I'=>⟨H',I',q⟩
end
end L2
namespace L3
open PySem L2
theorem Reps.He{K:Vo}{H:Hp}{vs:List V}{ps:List PV}{i:Int}{p:PV}(r:Reps K H vs ps)(h:L2.He ps i=some p):∃v,L2.He vs i=some v/\Rep K H v p:=by
 unfold L2.He at h ⊢
 rw[r.length]
 cases e:pD ps.length i with
 |none=>rw[e]at h;cases h
 |some j=>
  rw[e]at h
  obtain⟨v,h1,h2⟩:=r.get h
  exact⟨v,h1,h2⟩
noncomputable def lB:PV->Option aZ
 | .int i=>some (.inl i)
 | .str x=>some (.inr x)
 |_=>none
def dE{K:Vo}{H:Hp}{v:V}{p:PV}{k:aZ}(r:Rep K H v p)(h:lB p=some k):v=kV k:=by
 cases p with
 |int i=>cases h;cases r;rfl
 |str i=>cases h;cases r;rfl
 |_=>cases h
noncomputable def gX{κ:Type} [DecidableEq κ]:List (κ×PV)->κ->Option PV
 |[],_=>none
 |(k',v)::r,k=>if k'=k then some v else gX r k
theorem GR.val{K:Vo}{H:Hp}{κ:Type} [DecidableEq κ]{k:κ}{p:PV}:∀{vs:List (κ×V)} {ps:List (κ×PV)},GR K H vs ps->gX ps k=some p->∃v,dZ vs k=some v/\Rep K H v p
 |_,_,.nil,h=>by cases h
 |_,_,.cons (k:=k') a r,h=>by
  unfold gX at h
  split at h
  ·rename_i e;cases h;exact⟨_,Hv e,a⟩
  ·rename_i e;rw[Hw e];exact GR.val r h
section
variable {X:Cx} {a b e lo hi:Expr} {ta tb te:aK} {pos p2:Pos}
structure FY (X:Cx) (r:R3):Prop where
 ok:Ar X (LR X r)
def A2{r:R3}(hr:FY X r)(ha:aO X a ta)(hb:aO X b tb)(hs:eZ b):aO X (.Subscript a b pos) (am r ta tb):=⟨aE (y9 hr.ok ha.ok hb.ok hs) fun _ _ _=>iW⟩
def aD:R3:=fun x y S Q=>match x with
 | .tup xs=>match y with | .int i=>(match He xs i with|some v=>Q v S|none=>False)|_=>False
 | .cl xs=>match y with | .int i=>(match He xs i with|some v=>Q v S|none=>False)|_=>False
 | .str z=>match y with | .int i=>z.length<=sizeLine/\(match He z.cps.toList i with|some c=>Q (.str ⟨#[c]⟩) S|none=>False)|_=>False
 | .ref a=>match S a with
  |some (.lst xs)=>(match y with | .int i=>(match He xs i with|some v=>Q v S|none=>False)|_=>False)
  |some (.dct kvs)=>(match lB y with|some k=>(match gX kvs k with|some v=>Q v S|none=>False)|none=>False)
  |_=>False
 |_=>False
def Fj(hu:X.A.units+1 < cLine):FY X aD:=⟨fun value slice pins s σ H x y v u Q I rx ry ⟨px,py,S,Q3,r1,r2,rS,q,k⟩ hs=>by
 unfold aD at q
 split at q
 ·split at q
  ·split at q
   ·rename_i e
    cases r2
    cases r1 with
    |tup h1 rs=>
     obtain⟨w,hw,rw'⟩:=rs.He e
     exact At value slice pins s σ H _ _ v u Q I rx ry ⟨_,_,_,w,rfl,rfl,h1,hw,k _ S _ H q rw' rS .refl⟩ hs
   ·exact q.elim
  ·exact q.elim
 ·split at q
  ·split at q
   ·rename_i e
    cases r2
    cases r1 with
    |cl h1 rs=>
     obtain⟨w,hw,rw'⟩:=rs.He e
     exact pF value slice pins s σ H _ _ v u Q I rx ry ⟨_,_,_,w,rfl,rfl,h1.sq,hw,k _ S _ H q rw' rS .refl⟩ hs
   ·exact q.elim
  ·exact q.elim
 ·split at q
  ·obtain⟨hz,q⟩:=q
   split at q
   ·rename_i e
    cases r1;cases r2
    exact Au value slice pins s σ H _ _ v u Q I rx ry ⟨_,_,_,rfl,rfl,hz,e,k _ S _ H q (.str _) rS .refl⟩ hs
   ·exact q.elim
  ·exact q.elim
 ·split at q
  ·rename_i e0
   split at q
   ·split at q
    ·rename_i e
     cases r1;cases r2
     obtain⟨vs,hv,rs⟩:=rS _ _ e0
     obtain⟨w,hw,rw'⟩:=rs.He e
     exact pF value slice pins s σ H _ _ v u Q I rx ry ⟨_,_,_,w,rfl,rfl,SqL.of hv,hw,k _ S _ H q rw' rS .refl⟩ hs
    ·exact q.elim
   ·exact q.elim
  ·rename_i e0
   split at q
   ·rename_i ek
    split at q
    ·rename_i ev
     cases r1
     have e1:=dE r2 ek
     subst e1
     obtain⟨kv,hv,rk⟩:=rS _ _ e0
     obtain⟨w,hw,rw'⟩:=rk.val ev
     refine xB hu value slice pins s σ H _ _ v u Q I rx ry ⟨_,w,rfl,?_,k _ S _ H q rw' rS .refl⟩ hs
     rw[<-hw]
     exact DGet.k hv
    ·exact q.elim
   ·exact q.elim
  ·exact q.elim
 ·exact q.elim⟩
abbrev Cq:=bM->ap->(Option Int->ap->Prop)->b8->Prop
inductive LO (X:Cx) (t:Cq) (σ:L2.St) (H:Hp) (Q:Option Int->Hp->Prop):Prop
 |mk (σ3 S Q3 E3) (rσ:GK X.K H σ σ3) (rS:GH X.K H S) (h:t σ3 S Q3 E3) (xo:Kq X H E3) (k:∀o S' H',Q3 o S'->GH X.K H' S'->Grow X.K H H'->Q o H'):LO X t σ H Q
structure EA (X:Cx) (e:Option Expr) (t:Cq):Prop where
 ok:PO X e (LO X t)
noncomputable def kj:Cq:=fun _ S Q _=>Q none S
noncomputable def gY(t:aK):Cq:=fun σ S Q E=>t σ S (fun v S'=>match v with | .int i=>Q (some i) S'|_=>False) E
def ue{e:Option Expr}{t t':TO}(h:PO X e t)(k:∀σ H Q,t' σ H Q->t σ H Q):PO X e t':=fun pins s σ H Q I q=>h pins s σ H Q I (k σ H Q q)
def cW:EA X none kj:=⟨ue wW fun σ H Q ⟨σ3,S,Q3,E3,rσ,rS,h,xo,k⟩=>k none S H h rS .refl⟩
def bG(h:aO X e te):EA X (some e) (gY te):=⟨ue (wX h.ok) fun σ H Q ⟨σ3,S,Q3,E3,rσ,rS,h,xo,k⟩=>⟨σ3,S,_,E3,rσ,rS,h,xo,fun p S' v H' h1 rv HE g=>by
 cases p with
 |int i=>cases rv;exact⟨i,rfl,k _ S' H' h1 HE g⟩
 |_=>exact h1.elim⟩⟩
noncomputable def ci{α:Type}(xs:List α)(lo hi:Option Int):List α:=(xs.drop (HT.GQ xs.length 0 lo)).take (HT.GQ xs.length xs.length hi - HT.GQ xs.length 0 lo)
def Reps.cut{K:Vo}{H:Hp}{vs:List V}{ps:List PV}(r:Reps K H vs ps)(lo hi:Option Int):Reps K H (je vs lo hi) (ci ps lo hi):=by
 unfold je ci
 rw[r.length]
 exact(r.drop _).take _
def gZ(x:PV)(lo hi:Option Int)(S:ap)(Q:bQ):Prop:=match x with
 | .tup xs=>Q (.tup (ci xs lo hi)) S
 | .cl xs=>∀p,S p=none->Q (.ref p) (GC S p (.lst (ci xs lo hi)))
 | .str z=>z.length<=sizeLine/\Q (.str (Txt.slice z lo hi)) S
 | .ref a=>match S a with|some (.lst xs)=>∀p,S p=none->Q (.ref p) (GC S p (.lst (ci xs lo hi)))|_=>False
 |_=>False
noncomputable def Gi(X:Cx):V->Option Int->Option Int->Hp->VK->Prop:=fun x lo hi H Q=>∃px S Q3,Rep X.K H x px/\GH X.K H S/\gZ px lo hi S Q3/\J9 X.K H Q3 Q
def Gj:Cn X (Gi X):=by
 intro pins s σ H x v vl vu lo hi sl Q I rx hs pl pu ⟨px,S,Q3,r1,rS,q,k⟩
 unfold gZ at q
 split at q
 ·cases r1 with
  |tup h1 rs=>exact xA pins s σ H _ v vl vu lo hi sl Q I rx hs pl pu ⟨_,_,rfl,h1,fun r H' hh hr=>k _ S _ H' q (.tup hr ((rs.cut lo hi).mono (.same hh))) (rS.grow hh) (.same hh)⟩
 ·cases r1 with
  |cl h1 rs=>exact pG pins s σ H _ v vl vu lo hi sl Q I rx hs pl pu ⟨_,_,rfl,h1.sq,fun p hp=>k _ _ _ _ (q p (rS.free hp)) (.ref p) (rS.new hp ⟨_,ar,(rs.cut lo hi).mono (.new hp)⟩) (.new hp)⟩
 ·cases r1
  exact AD pins s σ H _ v vl vu lo hi sl Q I rx hs pl pu ⟨_,rfl,q.1,k _ S _ H q.2 (.str _) rS .refl⟩
 ·split at q
  ·rename_i e
   cases r1
   obtain⟨vs,hv,rs⟩:=rS _ _ e
   exact pG pins s σ H _ v vl vu lo hi sl Q I rx hs pl pu ⟨_,_,rfl,SqL.of hv,fun p hp=>k _ _ _ _ (q p (rS.free hp)) (.ref p) (rS.new hp ⟨_,ar,(rs.cut lo hi).mono (.new hp)⟩) (.new hp)⟩
  ·exact q.elim
 ·exact q.elim
def aU(te:aK)(tl th:Cq):aK:=fun σ S Q E=>te σ S (fun x S1=>tl σ S1 (fun l S2=>th σ S2 (fun u S3=>gZ x l u S3 Q) E) E) E
def bC{lo hi:Option Expr}{tl th:Cq}(he:aO X e te)(hl:EA X lo tl)(hu:EA X hi th):aO X (.Subscript e (.Slice lo hi none p2) pos) (aU te tl th):=
 ⟨aE (tq Gj he.ok hl.ok hu.ok) fun σ H Q ⟨σ3,S,Q3,E3,rσ,rS,h,xo,k⟩=>⟨σ3,S,_,E3,rσ,rS,h,xo,fun x S1 v H1 h1 rx GP g1=>⟨σ3,S1,_,E3,rσ.mono g1,GP,h1,xo.mono g1,fun l S2 H2 h2 Hy g2=>
  ⟨σ3,S2,_,E3,rσ.mono (g1.trans g2),Hy,h2,xo.mono (g1.trans g2),fun u S3 H3 h3 Kr g3=>⟨x,S3,Q3,rx.mono (g2.trans g3),Kr,h3,k.mono (g1.trans (g2.trans g3))⟩⟩⟩⟩⟩
def xC:eY X (binaryOp .Mult) (rI IntMulOk fun i j=>.int (i * j)):=Ev fun _ _ _ _ _ _ _ hc q=>PyProof.Rows.mul_int q hc
def iO:R3:=fun x y S Q=>match x,y with
 | .int i,.int j=>IntMulOk i j/\Q (.int (i * j)) S
 | .ref a,.int j=>(match S a with|some (.lst xs)=>-(2 ^ 63)<=j/\j < 2 ^ 63/\xs.length * j.toNat<=sizeLine/\∀p,S p=none->Q (.ref p) (GC S p (.lst (List.replicate j.toNat xs).flatten))|_=>False)
 |_,_=>False
theorem Reps.rep{K:Vo}{H:Hp}{vs:List V}{ps:List PV}(r:Reps K H vs ps):∀n:Nat,Reps K H (List.replicate n vs).flatten (List.replicate n ps).flatten
 |0=>.nil
 |n+1=>by
  rw[Q2,Q2,RD,RD]
  exact r.append (Reps.rep r n)
def fE:fN X (binaryOp .Mult) iO:=⟨fun pins s σ H x y v u Q I rx ry ⟨px,py,S,Q3,r1,r2,rS,q,k⟩=>by
 unfold iO at q
 split at q
 ·cases r1;cases r2
  exact xC pins s σ H _ _ v u Q I rx ry ⟨_,_,rfl,rfl,q.1,k _ S _ H q.2 (.int _) rS .refl⟩
 ·split at q
  ·rename_i e
   cases r1;cases r2
   obtain⟨vs,hv,rs⟩:=rS _ _ e
   exact Az pins s σ H _ _ v u Q I rx ry ⟨_,_,_,rfl,rfl,hv,q.1,q.2.1,by rw[rs.length];exact q.2.2.1,fun p hp=>k _ _ _ _ (q.2.2.2 p (rS.free hp)) (.ref p) (rS.new hp ⟨_,ar,(rs.rep _).mono (.new hp)⟩) (.new hp)⟩
  ·exact q.elim
 ·exact q.elim⟩
end
end L3
namespace L2
open PySem PySem.Spec PyProof.Rows
section
variable {X:Cx}
def ot{pins:Va}{σ:St}{H:Hp}{s:Shared}{x:Value}{t:Value}{p:Heap->Prop}{vs:List V}{tp:Addr}{b:Bool}{Q:Vq}{E:Vq}(I:Inv X pins σ H s)(Z:PySem.W.KitX X.K x t p)(hp:p s.heap)(hx:x ≠ .builtin "__main__.__loader__#opaque")
  (ht:SqT X.K H tp vs) (e:∀its,Vals vs its->PySem.W.kitAny X.K t its=some b) (h:∀tk,Q (.bool b) { s with toks:=tk }):wpAny (model X.prog X.w) X.A (call (.builtin "isinstance") [x,.ref tp]) Q E s:=by
 obtain⟨its,rv,⟨⟨cls,dd,data,sl⟩,ho,hc,n,hd⟩,hz⟩:=I.tuple ht
 simp only at hc hd
 subst hc hd
 exact PySem.W.kia_tup Z I.IK hp ho (e its rv) hx h
end
end L2
namespace L3
open PySem L2
abbrev kJ:=List PV->ap->bQ->Prop
section
variable {X:Cx} {e o:Expr} {es:List Expr} {te to:aK} {ts:List aK} {x:Str} {p pos apos cpos:Pos}
inductive LC (X:Cx) (r:kJ) (xs:List V) (H:Hp) (Q:VK):Prop
 |mk (ps S Q3) (rx:Reps X.K H xs ps) (rS:GH X.K H S) (h:r ps S Q3) (k:J9 X.K H Q3 Q):LC X r xs H Q
structure cw (X:Cx) (f:Value) (r:kJ):Prop where
 ok:dl X f (LC X r)
def aj(r:kJ)(ts:List aK):aK:=fun σ S Q E=>au ts σ S (fun ps S1=>r ps S1 Q) E
def pN{r:kJ}{σ:L2.St}{H:Hp}{Q:VK}:LE X (aj r ts) σ H Q->Ez (ts.map (LE X)) σ H fun vs H1=>LC X r vs H1 Q:=fun⟨σ3,S,Q3,E3,rσ,rS,h,xo,k⟩=>
 bB rσ rS h xo fun ps S' vs H' hl q rv HE g=>⟨ps,S',Q3,rv,HE,q,k.mono g⟩
def xD{id:String}{r:kJ}(hc:cw X (.builtin id) r)(hg:Gl X x)(hm:X.mg x=none)(hv:bootBuiltins x=some (.builtin id))(he:starEach (e::es) X.env=(false,eval e X.env)::starEach es X.env)(ha:iA X (e::es) ts)
  (hn:x ≠ "__name__":=by decide) (hdb:(x == ("__debug__":Str))=false:=by decide) (hpl:(backTo pos (starEach es X.env)).any (·.1)=false:=by rfl):aO X (.Call (.Name x p) (e::es) [] pos) (aj r ts):=
 ⟨aE (tj hc.ok hg hm hv ha.ok hn hdb he hpl) fun _ _ _=>pN⟩
def xE{id:String}{r:kJ}(hc:cw X (.type id) r)(hg:Gl X x)(hm:X.mg x=none)(hv:bootBuiltins x=some (.type id))(he:starEach (e::es) X.env=(false,eval e X.env)::starEach es X.env)(ha:iA X (e::es) ts)
  (hn:x ≠ "__name__":=by decide) (hdb:(x == ("__debug__":Str))=false:=by decide) (hpl:(backTo pos (starEach es X.env)).any (·.1)=false:=by rfl):aO X (.Call (.Name x p) (e::es) [] pos) (aj r ts):=
 ⟨aE (qY hc.ok hg hm hv ha.ok hn hdb he hpl) fun _ _ _=>pN⟩
def bn:kJ:=fun ps S Q=>match ps with
 |[.tup xs]=>Q (.int xs.length) S
 |[.cl xs]=>Q (.int xs.length) S
 |[.str z]=>z.length<=sizeLine/\Q (.int z.length) S
 |[.ref a]=>(match S a with|some (.lst xs)=>Q (.int xs.length) S|some (.dct kvs)=>Q (.int kvs.length) S|_=>False)
 |_=>False
def bc:cw X (.builtin "len") bn:=⟨fun pins s σ H xs us Q I r ⟨ps,S,Q3,rp,rS,q,k⟩=>by
 unfold bn at q
 split at q
 ·cases rp with|cons a rr=>cases rr;cases a with|tup h rs=>exact dD pins s σ H _ us Q I r ⟨_,_,rfl,.inr h,by rw[rs.length];exact k _ S _ H q (.int _) rS .refl⟩
 ·cases rp with|cons a rr=>cases rr;cases a with|cl h rs=>exact dD pins s σ H _ us Q I r ⟨_,_,rfl,.inl h.sq,by rw[rs.length];exact k _ S _ H q (.int _) rS .refl⟩
 ·cases rp with|cons a rr=>cases rr;cases a;exact ll pins s σ H _ us Q I r ⟨_,rfl,q.1,k _ S _ H q.2 (.int _) rS .refl⟩
 ·cases rp with
  |cons a rr=>
   cases rr;cases a
   split at q
   ·rename_i e
    obtain⟨vs,hv,rs⟩:=rS _ _ e
    exact dD pins s σ H _ us Q I r ⟨_,_,rfl,.inl (SqL.of hv),by rw[rs.length];exact k _ S _ H q (.int _) rS .refl⟩
   ·rename_i e
    obtain⟨vs,hv,rs⟩:=rS _ _ e
    exact re pins s σ H _ us Q I r ⟨_,_,rfl,hv,by rw[rs.length];exact k _ S _ H q (.int _) rS .refl⟩
   ·exact q.elim
 ·exact q.elim⟩
def rL:kJ:=fun ps S Q=>match ps with|[.int i]=>Q (.int (if i < 0 then -i else i)) S|_=>False
def Dn:cw X (.builtin "abs") rL:=⟨fun pins s σ H xs us Q I r ⟨ps,S,Q3,rp,rS,q,k⟩=>by
 unfold rL at q
 split at q
 ·cases rp with|cons a rr=>cases rr;cases a;exact sZ pins s σ H _ us Q I r ⟨_,rfl,k _ S _ H q (.int _) rS .refl⟩
 ·exact q.elim⟩
def jq:kJ:=fun ps S Q=>match ps with|[.int i,.int j]=>Q (.int (if j > i then j else i)) S|_=>False
def uf(hc:X.calm=true):cw X (.builtin "max") jq:=⟨fun pins s σ H xs us Q I r ⟨ps,S,Q3,rp,rS,q,k⟩=>by
 unfold jq at q
 split at q
 ·cases rp with|cons a rr=>cases rr with|cons b r3=>cases r3;cases a;cases b;exact qU hc pins s σ H _ us Q I r ⟨_,_,rfl,k _ S _ H q (.int _) rS .refl⟩
 ·exact q.elim⟩
def fv:kJ:=fun ps S Q=>match ps with|[.int i]=>Q (.int i) S|[.bl b]=>Q (.int (if b then 1 else 0)) S|_=>False
def Mm:cw X (.type "int") fv:=⟨fun pins s σ H xs us Q I r ⟨ps,S,Q3,rp,rS,q,k⟩=>by
 unfold fv at q
 split at q
 ·cases rp with|cons a rr=>cases rr;cases a;exact ky pins s σ H _ us Q I r (.inl ⟨_,rfl,k _ S _ H q (.int _) rS .refl⟩)
 ·cases rp with|cons a rr=>cases rr;cases a;exact ky pins s σ H _ us Q I r (.inr ⟨_,rfl,k _ S _ H q (.int _) rS .refl⟩)
 ·exact q.elim⟩
def f_:kJ:=fun ps S Q=>match ps with|[.int i]=>i.natAbs.log2 < 1920/\Q (.str (toString i)) S|_=>False
def pO:cw X (.type "str") f_:=⟨fun pins s σ H xs us Q I r ⟨ps,S,Q3,rp,rS,q,k⟩=>by
 unfold f_ at q
 split at q
 ·cases rp with|cons a rr=>cases rr;cases a;exact k_ pins s σ H _ us Q I r ⟨_,rfl,q.1,k _ S _ H q.2 (.str _) rS .refl⟩
 ·exact q.elim⟩
def cL:kJ:=fun ps S Q=>match ps with
 |[v]=>(match jo S v with|some xs=>Q (.tup xs) S|none=>False)
 |_=>False
def pP:cw X (.type "tuple") cL:=⟨fun pins s σ H xs us Q I r ⟨ps,S,Q3,rp,rS,q,k⟩=>by
 unfold cL at q
 split at q
 ·cases rp with
  |cons a rr=>
   cases rr
   split at q
   ·rename_i e
    obtain⟨b,vs,rfl,hs,rs⟩:=A1 rS a e
    rcases hs with hs|hs
    ·exact fq pins s σ H _ us Q I r ⟨_,_,rfl,.inl ⟨hs,fun p hp=>k _ S _ _ q (.tup (SqT.of ar) (rs.mono (.new hp))) (rS.other hp) (.new hp)⟩⟩
    ·exact fq pins s σ H _ us Q I r ⟨_,_,rfl,.inr ⟨hs,k _ S _ _ q (.tup hs rs) rS .refl⟩⟩
   ·exact q.elim
 ·exact q.elim⟩
noncomputable def jr:List PV->Option (List Bool)
 |[]=>some []
 | .bl b::r=>(jr r).map (b::·)
 |_::_=>none
theorem js{K:Vo}{H:Hp}:∀{vs:List V} {ps:List PV} {bs:List Bool},Reps K H vs ps->jr ps=some bs->vs=bs.map V.bl
 |_,_,_,.nil,h=>by cases h;rfl
 |_,_,bs,.cons (p:=p) a r,h=>by
  cases p with
  |bl b=>
   cases a
   unfold jr at h
   cases e:jr _ with
   |none=>rw[e]at h;cases h
   |some l=>rw[e]at h;cases h;rw[js r e];rfl
  |_=>cases h
def rM:kJ:=fun ps S Q=>match ps with
 |[.ref a]=>(match S a with|some (.lst xs)=>(match jr xs with|some bs=>Q (.bl (bs.all id)) S|none=>False)|_=>False)
 |_=>False
def zg(hc:X.calm=true):cw X (.builtin "all") rM:=⟨fun pins s σ H xs us Q I r ⟨ps,S,Q3,rp,rS,q,k⟩=>by
 unfold rM at q
 split at q
 ·cases rp with
  |cons a rr=>
   cases rr;cases a
   split at q
   ·rename_i e
    split at q
    ·rename_i eb
     obtain⟨vs,hv,rs⟩:=rS _ _ e
     have e2:=js rs eb
     subst e2
     exact rj hc pins s σ H _ us Q I r ⟨_,_,rfl,SqL.of hv,k _ S _ H q (.bl _) rS .refl⟩
    ·exact q.elim
   ·exact q.elim
 ·exact q.elim⟩
def m4:kJ:=fun ps S Q=>match ps with
 |[.int _]=>False
 |[.str _]=>False
 |[.bl _]=>False
 |[.non]=>False
 |[.ty _]=>False
 |[v]=>∃d,Dat S v d/\d.showable=true/\d.hasDict=false/\d.depth<=100/\d.shown.length<=sizeLine/\Q (.str d.shown) S
 |_=>False
def A3(hu:X.A.units+150 < cLine)(hg:X.A.guards=some []):cw X (.builtin "repr") m4:=⟨fun pins s σ H xs us Q I r ⟨ps,S,Q3,rp,rS,q,k⟩=>by
 unfold m4 at q
 have main:∀{v:PV} {x:V} {u:Value} {a:Addr},u = .ref a->Rep X.K H x v->RelV x u->(∃d,Dat S v d/\d.showable=true/\d.hasDict=false/\d.depth<=100/\d.shown.length<=sizeLine/\Q3 (.str d.shown) S)->wpAny (model X.prog X.w) X.A (call (.builtin "repr") [u]) (EP X pins σ Q) X.xe s:=by
  rintro v x u a rfl rv rx ⟨d,hd,h1,h2,h3,h4,q⟩
  obtain⟨as,R⟩:=hd.reads I rS rv rx
  exact Qi I.tk (repr_of_reads' R h1 (PyData.noDict_hsm h2) hg (by omega) (fun _ _ e=>e) (fun h' u tk hk ht=>⟨.str _,H,I.kept hk,⟨u,rfl⟩,k _ S _ H q (.str _) rS .refl⟩) h4)
 split at q
 ·exact q.elim
 ·exact q.elim
 ·exact q.elim
 ·exact q.elim
 ·exact q.elim
 ·rename_i n1 n2 n3 n4 n5
  cases rp with
  |cons a rr=>
   cases rr
   cases r with
   |cons r1 r2=>
    cases r2
    cases a with
    |non=>exact absurd rfl n4
    |bl b=>exact absurd rfl (n3 b)
    |int i=>exact absurd rfl (n1 i)
    |str i=>exact absurd rfl (n2 i)
    |ty i=>exact absurd rfl (n5 i)
    |ref b=>cases r1;exact main rfl (.ref b) rfl q
    |tup h rs=>cases r1;exact main rfl (.tup h rs) rfl q
    |cl h rs=>cases r1;exact main rfl (.cl h rs) rfl q
    |exc h1 h2 rs=>cases r1;exact main rfl (.exc h1 h2 rs) rfl q
    |cls h=>cases r1;exact main rfl (.cls h) rfl q
 ·exact q.elim⟩
end
noncomputable def cY(t c:String):Bool:=t == c || (t == "bool" && c == "int")
noncomputable def ow(S:ap):PV->Option String
 | .non=>some "NoneType"
 | .bl _=>some "bool"
 | .int _=>some "int"
 | .str _=>some "str"
 | .tup _=>some "tuple"
 | .cl _=>some "list"
 | .ref a=>(match S a with|some (.lst _)=>some "list" | some (.dct _)=>some "dict" | _=>none)
 | .ty _=>none
 | .exc _ _ _=>none
 | .cls _=>none
noncomputable def cN(c:String):Bool:=["int","str","bool","tuple","list","dict"].contains c
def ug(K:Vo)(t c:String):PySem.W.kitCls K (.type t) (.type c)=(if PySem.W.kitMeta c=true then (PySem.fastBuiltinMro t).map (·.contains (Value.type c)) else none):=rfl
def pQ{K:Vo}{t c:String}(ht:t∈["NoneType","bool","int","str","tuple","list","dict"])(hc:cN c=true):PySem.W.kitOne K (.type t) (.type c)=some (cY t c):=by
 have hc':c∈["int","str","bool","tuple","list","dict"]:=by
  have:=hc
  unfold cN at this
  simpa using this
 simp only[PM,P7,Qx]at ht hc'
 rcases ht with rfl|rfl|rfl|rfl|rfl|rfl|rfl<;>rcases hc' with rfl|rfl|rfl|rfl|rfl|rfl <;>
  first
   |(unfold PySem.W.kitOne;rw[if_pos (by decide)];rfl)
   |(unfold PySem.W.kitOne;rw[if_neg (by decide),ug];decide +kernel)
def uh{S:ap}{p:PV}{t:String}(h:ow S p=some t):t∈["NoneType","bool","int","str","tuple","list","dict"]:=by
 unfold ow at h
 split at h<;>first|(cases h;decide)|(split at h<;>first|(cases h;decide)|cases h)|cases h
section
variable {X:Cx}
noncomputable def Do:List PV->Option (List String)
 |[]=>some []
 | .ty c::r=>if cN c then (Do r).map (c::·) else none
 |_::_=>none
def fm:kJ:=fun ps S Q=>match ps with
 |[x,.ty c]=>(match ow S x with|some t=>cN c=true/\Q (.bl (cY t c)) S|none=>False)
 |[x,.tup cs]=>(match ow S x,Do cs with|some t,some l=>Q (.bl (l.any (cY t))) S|_,_=>False)
 |_=>False
def xF{K:Vo}{H:Hp}{t:String}(ht:t∈["NoneType","bool","int","str","tuple","list","dict"]):∀(cs:List PV) {l:List String} {vs:List V} {its:Vv},Do cs=some l->Reps K H vs cs->Vals vs its->PySem.W.kitAny K (.type t) its=some (l.any (cY t)):=by
 intro cs
 induction cs with
 |nil=>intro l vs its h rs r;cases h;cases rs;cases r;rfl
 |cons p cs ih=>
  intro l vs its h rs r
  cases p with
  |ty c=>
   unfold Do at h
   split at h
   ·rename_i hc
    cases e:Do cs with
    |none=>rw[e]at h;cases h
    |some l'=>
     rw[e]at h
     cases h
     cases rs with
     |cons a rs=>
      cases a
      cases r with
      |@cons _ u _ us r1 r2=>
       cases (show u=Value.type c from r1)
       show(match PySem.W.kitOne K (.type t) (.type c)with|some true=>some true|some false=>PySem.W.kitAny K (.type t) us|none=>none)=_
       rw[pQ ht hc,RX]
       cases cY t c with
       |true=>rfl
       |false=>exact ih e rs r2
   ·cases h
  |_=>cases h
def jt:cw X (.builtin "isinstance") fm:=⟨fun pins s σ H xs us Q I r ⟨ps,S,Q3,rp,rS,q,k⟩=>by
 have main:∀{v:PV} {x:V} {u:Value} {t:String},Rep X.K H x v->RelV x u->ow S v=some t->∃(h:Heap->Prop),PySem.W.KitX X.K u (.type t) h/\h s.heap/\u ≠ .builtin "__main__.__loader__#opaque":=by
  intro v x u t rv rx ht
  cases rv with
  |non=>cases ht;cases rx;exact⟨_,PySem.W.kitx_none,True.intro,fun z=>nomatch z⟩
  |bl b=>cases ht;cases rx;exact⟨_,PySem.W.kitx_bool,True.intro,fun z=>nomatch z⟩
  |int b=>cases ht;obtain⟨t,rfl⟩:=rx;exact⟨_,PySem.W.kitx_int,True.intro,fun z=>nomatch z⟩
  |str b=>cases ht;obtain⟨t,rfl⟩:=rx;exact⟨_,PySem.W.kitx_str,True.intro,fun z=>nomatch z⟩
  |ty b=>cases ht
  |exc _ _ _=>cases ht
  |cls _=>cases ht
  |tup h rs=>
   cases ht;cases rx
   obtain⟨its,_,⟨o,ho,hc,_⟩,_⟩:=I.tuple h
   exact⟨_,PySem.W.kitx_tuple,⟨o,ho,hc⟩,fun z=>nomatch z⟩
  |cl h rs=>
   cases ht;cases rx
   obtain⟨its,_,⟨o,n,ho,hc,_⟩,_⟩:=I.list h.sq
   exact⟨_,PySem.W.kitx_list,⟨o,ho,hc⟩,fun z=>nomatch z⟩
  |ref a=>
   cases rx
   unfold ow at ht
   simp only at ht
   split at ht
   ·rename_i e
    cases ht
    obtain⟨vs,hv,_⟩:=rS _ _ e
    obtain⟨its,_,⟨o,n,ho,hc,_⟩,_⟩:=I.list (SqL.of hv)
    exact⟨_,PySem.W.kitx_list,⟨o,ho,hc⟩,fun z=>nomatch z⟩
   ·rename_i e
    cases ht
    obtain⟨vs,hv,_⟩:=rS _ _ e
    obtain⟨_,_,vs',_,p⟩:=(show GM X.prog X.w H s.heap _ (.dK vs)from I.hok _ _ hv)
    obtain⟨o,es,ep,h1,h2,_⟩:=p
    exact⟨_,PySem.W.kitx_dict,⟨o,h1,h2.1⟩,fun z=>nomatch z⟩
   ·cases ht
 unfold fm at q
 split at q
 ·split at q
  ·rename_i ht
   cases rp with
   |cons a rr=>
    cases rr with
    |cons b r3=>
     cases r3;cases b
     cases r with
     |cons r1 r2=>
      cases r2 with
      |cons r4 r5=>
       cases r5
       cases (show _=Value.type _ from r4)
       obtain⟨h,Z,hp,hx⟩:=main a r1 ht
       exact Qi I.tk (PySem.W.kia_one Z I.IK hp (pQ (uh ht) q.1) hx fun tk ht=>⟨.bl _,H,I.tok _,rfl,k _ S _ H q.2 (.bl _) rS .refl⟩)
  ·exact q.elim
 ·split at q
  ·rename_i ht hl
   cases rp with
   |cons a rr=>
    cases rr with
    |cons b r3=>
     cases r3
     cases b with
     |tup h1 rs=>
      cases r with
      |cons r1 r2=>
       cases r2 with
       |cons r4 r5=>
        cases r5
        cases r4
        obtain⟨h,Z,hp,hx⟩:=main a r1 ht
        exact Qi I.tk (ot I Z hp hx h1 (fun its rv=>xF (uh ht) _ hl rs rv) fun tk ht=>⟨.bl _,H,I.tok _,rfl,k _ S _ H q (.bl _) rS .refl⟩)
  ·exact q.elim
 ·exact q.elim⟩
end
abbrev rN:=PV->List PV->ap->bQ->Prop
section
variable {X:Cx} {e o:Expr} {es:List Expr} {te to:aK} {ts:List aK} {name:Str} {p pos apos cpos:Pos} {T id:String}
inductive LM (X:Cx) (r:rN) (x:V) (xs:List V) (H:Hp) (Q:VK):Prop
 |mk (px ps S Q3) (rx:Rep X.K H x px) (rs:Reps X.K H xs ps) (rS:GH X.K H S) (h:r px ps S Q3) (k:J9 X.K H Q3 Q):LM X r x xs H Q
structure uk (X:Cx) (id:String) (r:rN):Prop where
 ok:As X id (LM X r)
def kl(T:String)(x:PV)(S:ap):Prop:=match x with
 | .str _=>T = "str"
 | .ref a=>(match S a with|some (.lst _)=>T = "list" | some (.dct _)=>T = "dict" | _=>False)
 | .cl _=>T = "list"
 |_=>False
def ul{H:Hp}{S:ap}{v:V}{p:PV}(rS:GH X.K H S)(r:Rep X.K H v p)(h:kl T p S):Ew X.K T v H:=by
 cases r with
 |str x=>exact h
 |ref a=>
  unfold kl at h
  simp only at h
  split at h
  ·rename_i e
   obtain⟨vs,hv,_⟩:=rS _ _ e
   exact .inl ⟨h,_,SqL.of hv⟩
  ·rename_i e
   obtain⟨vs,hv,_⟩:=rS _ _ e
   exact .inr (.inr (.inl ⟨h,.inl ⟨_,hv⟩⟩))
  ·exact h.elim
 |cl h1 _=>exact .inl ⟨h,_,h1.sq⟩
 |_=>exact h.elim
def cz(T:String)(r:rN)(to:aK)(ts:List aK):aK:=fun σ S Q E=>to σ S (fun x S1=>kl T x S1/\au ts σ S1 (fun ps S2=>r x ps S2 Q) E) E
def Fk{r:rN}(pa:PlainAttrs T)(slot:Slot T name id)(hty:typeOf (.builtin id)=pure (.type "method_descriptor"))(hm:uk X id r)(hs:starEach (e::es) X.env=(false,eval e X.env)::starEach es X.env)(ho:aO X o to)(ha:iA X (e::es) ts)
  (hbase:attributeBase o name X.env (eval o X.env)=eval o X.env:=by rfl)
  (hfew:((backTo cpos (starEach (e::es) X.env)).all (fun x=>!x.1)&&(backToKw cpos (keywordEach [] X.env)).all (fun x=>x.1.isSome)
   && decide ((e::es).length+([]:List Keyword).length+(if ([]:List Keyword).isEmpty then 0 else 1) < 30))=true:=by rfl)
  (hline:(apos.endLine == cpos.line)=true:=by rfl) (hplain:(backTo cpos (starEach es X.env)).any (·.1)=false:=by rfl):aO X (.Call (.Attribute o name apos) (e::es) [] cpos) (cz T r to ts):=
 ⟨aE (C2 pa slot hty hm.ok ho.ok ha.ok hbase hfew hline hs hplain) fun σ H Q ⟨σ3,S,Q3,E3,rσ,rS,h,xo,k⟩=>⟨σ3,S,_,E3,rσ,rS,h,xo,fun x S1 v H1 h1 rx GP g1=>
  ⟨ul GP rx h1.1,bB (rσ.mono g1) GP h1.2 (xo.mono g1) fun ps S2 vs H2 hl q rv Hy g2=>⟨x,ps,S2,Q3,rx.mono g2,rv,Hy,q,k.mono (g1.trans g2)⟩⟩⟩⟩
def Dp{r:rN}(pa:PlainAttrs T)(slot:Slot T name id)(hty:typeOf (.builtin id)=pure (.type "method_descriptor"))(hm:uk X id r)(ho:aO X o to)
  (hbase:attributeBase o name X.env (eval o X.env)=eval o X.env:=by rfl) (hline:(apos.endLine == cpos.line)=true:=by rfl):aO X (.Call (.Attribute o name apos) [] [] cpos) (cz T r to []):=
 ⟨aE (Av pa slot hty hm.ok ho.ok hbase hline) fun σ H Q ⟨σ3,S,Q3,E3,rσ,rS,h,xo,k⟩=>⟨σ3,S,_,E3,rσ,rS,h,xo,fun x S1 v H1 h1 rx GP g1=>
  ⟨ul GP rx h1.1,⟨x,[],S1,Q3,rx,.nil,GP,h1.2,k.mono g1⟩⟩⟩⟩
def aI:rN:=fun x ps S Q=>match x,ps with
 | .ref a,[y]=>(match S a with|some (.lst xs)=>xs.length < sizeLine/\Q .non (GC S a (.lst (xs++[y])))|_=>False)
 |_,_=>False
def bx:uk X "list.append" aI:=⟨fun pins s σ H x xs v us Q I rx rs ⟨px,ps,S,Q3,r1,rp,rS,q,k⟩=>by
 unfold aI at q
 split at q
 ·split at q
  ·rename_i e
   cases r1
   cases rp with
   |cons b rr=>
    cases rr
    obtain⟨vs,hv,rl⟩:=rS _ _ e
    exact qZ pins s σ H _ _ v us Q I rx rs ⟨_,_,_,rfl,rfl,hv,by rw[rl.length];exact q.1,k _ _ _ _ q.2 .non (rS.put hv trivial ⟨_,ar,(rl.append (.cons b .nil)).mono (.mut hv trivial)⟩) (.mut hv trivial)⟩
  ·exact q.elim
 ·exact q.elim⟩
def oy:rN:=fun x ps S Q=>match x,ps with
 | .ref a,[]=>(match S a with|some (.lst xs)=>(match xs[xs.length - 1]? with|some y=>Q y (GC S a (.lst xs.dropLast))|none=>False)|_=>False)
 | .ref a,[.int i]=>(match S a with|some (.lst xs)=>-(2 ^ 63)<=i/\i < 2 ^ 63/\(match seqIndex? i xs.length with|some j=>(match xs[j]? with|some y=>Q y (GC S a (.lst (xs.eraseIdx j)))|none=>False)|none=>False)|_=>False)
 |_,_=>False
def zh:uk X "list.pop" oy:=⟨fun pins s σ H x xs v us Q I rx rs ⟨px,ps,S,Q3,r1,rp,rS,q,k⟩=>by
 unfold oy at q
 split at q
 ·split at q
  ·rename_i e
   split at q
   ·rename_i ey
    cases r1
    cases rp
    obtain⟨vs,hv,rl⟩:=rS _ _ e
    rw[<-rl.length]at ey
    obtain⟨y',Nt,ry⟩:=rl.get ey
    exact Aw pins s σ H _ _ v us Q I rx rs ⟨_,_,_,rfl,rfl,hv,Nt,k _ _ _ _ q (ry.mono (.mut hv trivial)) (rS.put hv trivial ⟨_,ar,rl.dropLast.mono (.mut hv trivial)⟩) (.mut hv trivial)⟩
   ·exact q.elim
  ·exact q.elim
 ·split at q
  ·rename_i e
   obtain⟨h1,h2,q⟩:=q
   split at q
   ·rename_i ej
    split at q
    ·rename_i ey
     cases r1
     cases rp with
     |cons b rr=>
      cases rr;cases b
      obtain⟨vs,hv,rl⟩:=rS _ _ e
      obtain⟨y',Nt,ry⟩:=rl.get ey
      rw[<-rl.length]at ej
      exact tz pins s σ H _ _ v us Q I rx rs ⟨_,_,_,_,_,rfl,rfl,hv,h1,h2,ej,Nt,k _ _ _ _ q (ry.mono (.mut hv trivial)) (rS.put hv trivial ⟨_,ar,(rl.eraseIdx _).mono (.mut hv trivial)⟩) (.mut hv trivial)⟩
    ·exact q.elim
   ·exact q.elim
  ·exact q.elim
 ·exact q.elim⟩
noncomputable def texts:List PV->Option (List Str)
 |[]=>some []
 | .str b::r=>(texts r).map (b::·)
 |_::_=>none
theorem ju{K:Vo}{H:Hp}:∀{vs:List V} {ps:List PV} {bs:Vs},Reps K H vs ps->texts ps=some bs->vs=bs.map V.str
 |_,_,_,.nil,h=>by cases h;rfl
 |_,_,bs,.cons (p:=p) a r,h=>by
  cases p with
  |str b=>
   cases a
   unfold texts at h
   cases e:texts _ with
   |none=>rw[e]at h;cases h
   |some l=>rw[e]at h;cases h;rw[ju r e];rfl
  |_=>cases h
def fw:rN:=fun x ps S Q=>match x,ps with
 | .str z,[.ref a]=>(match S a with|some (.lst xs)=>(match texts xs with|some ys=>(ys.map (·.length)).sum+ys.length * z.length<=1000000/\Q (.str (Txt.join z ys)) S|none=>False)|_=>False)
 |_,_=>False
def oz:uk X "str.join" fw:=⟨fun pins s σ H x xs v us Q I rx rs ⟨px,ps,S,Q3,r1,rp,rS,q,k⟩=>by
 unfold fw at q
 split at q
 ·split at q
  ·rename_i e
   split at q
   ·rename_i et
    cases r1
    cases rp with
    |cons b rr=>
     cases rr;cases b
     obtain⟨vs,hv,rl⟩:=rS _ _ e
     have e2:=ju rl et
     subst e2
     exact xk pins s σ H _ _ v us Q I rx rs ⟨_,_,_,rfl,rfl,SqL.of hv,q.1,k _ S _ H q.2 (.str _) rS .refl⟩
   ·exact q.elim
  ·exact q.elim
 ·exact q.elim⟩
end
section
variable {X:Cx} {e c:Expr} {te:aK} {st:Stmt} {rest a b:List Stmt} {t u:bw} {tc:iz} {pos:Pos}
def aQ:bw:=fun D σ S=>D.nx σ S
def af(t u:bw):bw:=fun D σ S=>t { D with nx:=u D } σ S
def aJ:dI X [] aQ:=⟨pM wH fun D σ H ⟨σ3,S,D3,rσ,rS,h,xo,n,r,bk,ct⟩=>n σ3 S σ H h rσ rS .refl⟩
def ac(h1:mE X st t)(h2:dI X rest u):dI X (st::rest) (af t u):=
 ⟨pM (sP h1.ok h2.ok) fun D σ H ⟨σ3,S,D3,rσ,rS,h,xo,n,r,bk,ct⟩=>⟨σ3,S,{ D3 with nx:=u D3 },rσ,rS,h,xo,fun σ4 S' σ' H' h' KQ HE g=>⟨σ4,S',D3,KQ,HE,h',xo.mono g,n.mono g,r.mono g,bk.mono g,ct.mono g⟩,r,bk,ct⟩⟩
def ak(h1:mE X st t):dI X [st] t:=⟨pp h1.ok⟩
def bd(te:aK):bw:=fun D σ S=>te σ S (fun _ S1=>D.nx σ S1) D.ex
def cj(he:aO X e te)(hs:swapsWith e none pos.line X.env=pure false:=by rfl):mE X (.Expr e pos) (bd te):=
 ⟨cf (wI he.ok hs) fun D σ H ⟨σ3,S,D3,rσ,rS,h,xo,n,r,bk,ct⟩=>⟨σ3,S,_,D3.ex,rσ,rS,h,xo,fun p S1 v H1 h1 rv GP g1=>n σ3 S1 σ H1 h1 (rσ.mono g1) GP g1⟩⟩
def aC(te:aK):bw:=fun D σ S=>te σ S D.rt D.ex
def ay(he:aO X e te):mE X (.Return (some e) pos) (aC te):=
 ⟨cf (z9 he.ok) fun D σ H ⟨σ3,S,D3,rσ,rS,h,xo,n,r,bk,ct⟩=>⟨σ3,S,D3.rt,D3.ex,rσ,rS,h,xo,r⟩⟩
def bg(c:iz)(t u:bw):bw:=fun D σ S=>c σ S (fun b S1=>if b=true then t D σ S1 else u D σ S1) D.ex
def aR(hc:mW X c tc)(ha:dI X a t)(hb:dI X b u):mE X (.If c a b pos) (bg tc t u):=
 ⟨cf (CJ hc.ok ha.ok hb.ok) fun D σ H ⟨σ3,S,D3,rσ,rS,h,xo,n,r,bk,ct⟩=>⟨σ3,S,_,D3.ex,rσ,rS,h,xo,fun z S1 H1 h1 GP g1=>by
  cases z with
  |true=>rw[if_pos rfl]at h1 ⊢;exact⟨σ3,S1,D3,rσ.mono g1,GP,h1,xo.mono g1,n.mono g1,r.mono g1,bk.mono g1,ct.mono g1⟩
  |false=>rw[if_neg (by decide)]at h1 ⊢;exact⟨σ3,S1,D3,rσ.mono g1,GP,h1,xo.mono g1,n.mono g1,r.mono g1,bk.mono g1,ct.mono g1⟩⟩⟩
def av(i:Nat)(te:aK):bw:=fun D σ S=>te σ S (fun v S1=>D.nx (σ.set i (some v)) S1) D.ex
def um{i:Nat}{D:gQ}{σ:L2.St}{H:Hp}:LS X (av i te) D σ H->wL (LE X te) (mK i) D σ H:=fun⟨σ3,S,D3,rσ,rS,h,xo,n,r,bk,ct⟩=>
 ⟨σ3,S,_,D3.ex,rσ,rS,h,xo,fun p S1 v H1 h1 rv GP g1=>n _ S1 _ H1 h1 ((rσ.mono g1).set rv i) GP g1⟩
def Dq{i:Nat}{x:Str}{pos':Pos}(hN:X.N.Nodup)(hi:X.N[i]?=some x)(hx:yV X.env.scope x)(he:aO X e te)(hs:swapsWith e (some (.Name x pos')) pos.line X.env=pure false:=by rfl)
  (hf:X.fn x=true\/X.env.scope.names.lookup x=some .local:=by first|exact .inl rfl|exact .inr rfl|assumption):mE X (.Assign [.Name x pos'] e pos) (av i te):=⟨cf (Aa hN hi hx he.ok hs hf) fun _ _ _=>um⟩
def rO(i j:Nat)(ta tb:aK):bw:=fun D σ S=>ta σ S (fun v S1=>tb σ S1 (fun w S2=>D.nx ((σ.set i (some v)).set j (some w)) S2) D.ex) D.ex
def zi{i j:Nat}{x y:Str}{a b:Expr}{ta tb:aK}{px py pt:Pos}{kt k2 Lu}(hc:X.calm=true)(hN:X.N.Nodup)(hi:X.N[i]?=some x)(hj:X.N[j]?=some y)(hij:i≠j)
  (hx:X.env.scope.names.lookup x=some .local) (hy:X.env.scope.names.lookup y=some .local) (ha:iA X [a,b] [ta,tb])
  (hw:swappedStores [.Tuple [.Name x px,.Name y py] kt pt] (.Tuple [a,b] k2 Lu) X.env=pure (some [x,y]):=by rfl)
  (hs:swapsWithSole [.Tuple [.Name x px,.Name y py] kt pt] (.Tuple [a,b] k2 Lu) pos.line X.env=pure false:=by rfl) :
  mE X (.Assign [.Tuple [.Name x px,.Name y py] kt pt] (.Tuple [a,b] k2 Lu) pos) (rO i j ta tb):=
 ⟨cf (Ab hc hN hi hj hij hx hy ha.ok hw hs) fun D σ H ⟨σ3,S,D3,rσ,rS,h,xo,n,r,bk,ct⟩=>
  ⟨σ3,S,_,D3.ex,rσ,rS,h,xo,fun v S1 v' H1 h1 rv GP g1=>⟨σ3,S1,_,D3.ex,rσ.mono g1,GP,h1,xo.mono g1,fun w S2 w' H2 h2 rw' Hy g2=>
   ⟨v',w',rfl,n _ S2 _ H2 h2 (((rσ.mono (g1.trans g2)).set (rv.mono g2) i).set rw' j) Hy (g1.trans g2)⟩⟩⟩⟩
inductive Tg where
 |n (i:Nat)|tp (l:Tg)|nil|cons (a r:Tg)
mutual
noncomputable def Tg.put:Tg->PV->bM->Option bM
 | .n i,p,σ=>some (σ.set i (some p))
 | .tp l,.tup xs,σ=>l.HI xs σ
 |_,_,_=>none
noncomputable def Tg.HI:Tg->List PV->bM->Option bM
 | .nil,[],σ=>some σ
 | .cons a r,x::xs,σ=>(match a.put x σ with|some σ'=>r.HI xs σ'|none=>none)
 |_,_,_=>none
end
noncomputable def Tg.len:Tg->Nat
 | .cons _ r=>r.len+1
 |_=>0
mutual
noncomputable def Tg.g2(K:Vo):Tg->TG
 | .n i=>mK i
 | .tp l=>CM K l.len (l.Le K)
 |_=>fun _ _ _ _=>False
noncomputable def Tg.Le(K:Vo):Tg->yW
 | .nil=>CL
 | .cons a r=>yX (a.g2 K) (r.Le K)
 |_=>fun _ _ _ _=>False
end
noncomputable def Tg.under(own:Nat):Tg->Bool
 | .n i=>decide (i < own)
 | .tp l=>l.under own
 | .nil=>true
 | .cons a r=>a.under own&&r.under own
theorem Tg.Ju:∀(g:Tg) {ps:List PV} {σ3 σ4:bM},g.HI ps σ3=some σ4->ps.length=g.len
 | .nil,ps,σ3,σ4,h=>by
  cases ps with
  |nil=>rfl
  |cons _ _=>unfold Tg.HI at h;cases h
 | .cons a r,ps,σ3,σ4,h=>by
  cases ps with
  |nil=>unfold Tg.HI at h;cases h
  |cons x xs=>
   unfold Tg.HI at h
   split at h
   ·rw[Qa,Tg.Ju r h];rfl
   ·cases h
 | .n _,ps,σ3,σ4,h=>by unfold Tg.HI at h;cases h
 | .tp _,ps,σ3,σ4,h=>by unfold Tg.HI at h;cases h
mutual
theorem Tg.JJ{K:Vo}{H:Hp}{own:Nat}:∀(g:Tg) {v:V} {p:PV} {σ:L2.St} {σ3 σ4:bM} {Q:L2.St->Hp->Prop},Rep K H v p->GK K H σ σ3->g.put p σ3=some σ4->(∀σ',GK K H σ' σ4->(g.under own=true->σ'.drop own=σ.drop own)->Q σ' H)->g.g2 K v σ H Q
 | .n i,v,p,σ,σ3,σ4,Q,r,rσ,h,k=>by
  unfold Tg.put at h
  cases h
  unfold Tg.g2
  refine k _ (rσ.set r i) fun hb=>?_
  have hi:i < own:=of_decide_eq_true hb
  rw[List.drop_set]
  rw[if_pos hi]
 | .tp l,v,p,σ,σ3,σ4,Q,r,rσ,h,k=>by
  cases p with
  |tup xs=>
   unfold Tg.put at h
   cases r with
   |tup hq rs=>
    have hg:=Tg.JT (own:=own) l rs rσ h k
    unfold Tg.g2
    exact⟨_,_,rfl,hq,rs.length.trans (Tg.Ju l h),hg⟩
  |_=>unfold Tg.put at h;cases h
 | .nil,v,p,σ,σ3,σ4,Q,r,rσ,h,k=>by unfold Tg.put at h;cases h
 | .cons _ _,v,p,σ,σ3,σ4,Q,r,rσ,h,k=>by unfold Tg.put at h;cases h
theorem Tg.JT{K:Vo}{H:Hp}{own:Nat}:∀(g:Tg) {vs:List V} {ps:List PV} {σ:L2.St} {σ3 σ4:bM} {Q:L2.St->Hp->Prop},Reps K H vs ps->GK K H σ σ3->g.HI ps σ3=some σ4->(∀σ',GK K H σ' σ4->(g.under own=true->σ'.drop own=σ.drop own)->Q σ' H)->g.Le K vs σ H Q
 | .nil,vs,ps,σ,σ3,σ4,Q,r,rσ,h,k=>by
  cases ps with
  |nil=>
   unfold Tg.HI at h
   cases h
   cases r
   unfold Tg.Le
   exact⟨rfl,k _ rσ fun _=>rfl⟩
  |cons _ _=>unfold Tg.HI at h;cases h
 | .cons a r',vs,ps,σ,σ3,σ4,Q,r,rσ,h,k=>by
  cases ps with
  |nil=>unfold Tg.HI at h;cases h
  |cons x xs=>
   unfold Tg.HI at h
   split at h
   ·rename_i σ5 e5
    cases r with
    |cons r1 r2=>
     unfold Tg.Le
     refine⟨_,_,rfl,Tg.JJ (own:=own) a r1 rσ e5 fun σ' KQ d1=>Tg.JT (own:=own) r' r2 KQ h fun OW Nu d2=>k OW Nu fun hb=>?_⟩
     have hb':a.under own=true/\r'.under own=true:=by simpa [Tg.under]using hb
     rw[d2 hb'.2,d1 hb'.1]
   ·cases h
 | .n _,vs,ps,σ,σ3,σ4,Q,r,rσ,h,k=>by unfold Tg.HI at h;cases h
 | .tp _,vs,ps,σ,σ3,σ4,Q,r,rσ,h,k=>by unfold Tg.HI at h;cases h
end
structure xG (X:Cx) (e:Expr) (g:Tg):Prop where
 ok:PG X e (g.g2 X.K)
structure xH (X:Cx) (es:List Expr) (g:Tg):Prop where
 ok:CK X es (g.Le X.K)
 len:(assignEach es X.env).length=g.len
def Gk(i:Nat){x:Str}(hN:X.N.Nodup)(hi:X.N[i]?=some x)(hx:yV X.env.scope x)(hf:X.fn x=true\/X.env.scope.names.lookup x=some .local:=by first|exact .inl rfl|exact .inr rfl|assumption):xG X (.Name x pos) (.n i):=⟨by
 have h:=wK (pos:=pos) hN hi hx hf
 unfold Tg.g2
 exact h⟩
def Dr:xH X [] .nil:=⟨by unfold Tg.Le;exact pq,rfl⟩
def uo{es:List Expr}{a r:Tg}(h1:xG X e a)(h2:xH X es r)(hs:(assignEach (e::es) X.env).map (·.2)=assign e X.env::(assignEach es X.env).map (·.2):=by rfl)(hl:(assignEach (e::es) X.env).length=(assignEach es X.env).length+1:=by rfl):xH X (e::es) (.cons a r):=
 ⟨by unfold Tg.Le;exact ja h1.ok h2.ok hs,by rw[hl,h2.len];rfl⟩
def Gm{es:List Expr}{k:Nat}{l:Tg}(hc:X.calm=true)(h:xH X es l)(hst:(assignEach es X.env).findIdx? (·.1)=none:=by rfl):xG X (.Tuple es k pos) (.tp l):=⟨by
 have h:=sQ (pos:=pos) (k:=k) hc h.ok h.len hst
 unfold Tg.g2
 exact h⟩
end
noncomputable def iP{κ:Type} [DecidableEq κ](kvs:List (κ×PV))(k:κ)(v:PV):List (κ×PV):=
 if (kvs.any fun kv=>decide (kv.1=k))=true then kvs.map (fun kv=>if kv.1=k then (kv.1,v) else kv) else kvs++[(k,v)]
theorem GR.append{K:Vo}{H:Hp}{κ:Type}:∀{vs us:List (κ×V)} {ps qs:List (κ×PV)},GR K H vs ps->GR K H us qs->GR K H (vs++us) (ps++qs)
 |_,_,_,_,.nil,s=>s
 |_,_,_,_,.cons a r,s=>.cons a (GR.append r s)
def GR.put{K:Vo}{H:Hp}{κ:Type} [DecidableEq κ]{k:κ}{v:V}{p:PV}(q:Rep K H v p){vs:List (κ×V)}{ps:List (κ×PV)}(r:GR K H vs ps):GR K H (d0 vs k v) (iP ps k p):=by
 have e:(vs.any fun kv=>decide (kv.1=k))=(ps.any fun kv=>decide (kv.1=k)):=by rw[jf,r.any]
 unfold d0 iP
 rw[e]
 split
 ·clear e
  rename_i h
  clear h
  induction r with
  |nil=>exact .nil
  |@cons k' v' p' vs' ps' a r ih=>
   rw[PL,PL]
   by_cases z:k'=k
   ·rw[if_pos z,if_pos z];exact .cons q ih
   ·rw[if_neg z,if_neg z];exact .cons a ih
 ·exact r.append (.cons q .nil)
def cZ(o i v:PV)(S:ap)(Q:ap->Prop):Prop:=match o with
 | .ref a=>(match S a with
  |some (.lst xs)=>(match i with | .int k=>(match pD xs.length k with|some j=>Q (GC S a (.lst (xs.set j v)))|none=>False)|_=>False)
  |some (.dct kvs)=>(match lB i with|some k=>kvs.length < sizeLine/\Q (GC S a (.dct (iP kvs k v)))|none=>False)
  |_=>False)
 |_=>False
section
variable {X:Cx} {e o i:Expr} {te to ti:aK} {pos pos':Pos}
noncomputable def Fl(X:Cx):V->V->V->Hp->(Hp->Prop)->Prop:=fun o i v H Q=>∃po pi pv S Q3,Rep X.K H o po/\Rep X.K H i pi/\Rep X.K H v pv/\GH X.K H S/\cZ po pi pv S Q3/\∀S' H',Q3 S'->GH X.K H' S'->Grow X.K H H'->Q H'
def oA(hu:X.A.units+1 < cLine):wJ X (Fl X):=by
 intro pins s σ H o i v ov iv u Q I ro ri rv ⟨po,pi,pv,S,Q3,r1,r2,r3,rS,q,k⟩
 unfold cZ at q
 split at q
 ·split at q
  ·rename_i e
   split at q
   ·split at q
    ·rename_i ej
     cases r1;cases r2
     obtain⟨vs,hv,rl⟩:=rS _ _ e
     rw[<-rl.length]at ej
     exact tu pins s σ H _ _ _ ov iv u Q I ro ri rv ⟨_,_,_,_,rfl,rfl,hv,ej,k _ _ q (rS.put hv trivial ⟨_,ar,((rl.set r3 _).mono (.mut hv trivial))⟩) (.mut hv trivial)⟩
    ·exact q.elim
   ·exact q.elim
  ·rename_i e
   split at q
   ·rename_i ek
    cases r1
    have e1:=dE r2 ek
    subst e1
    obtain⟨kv,hv,rk⟩:=rS _ _ e
    exact ud hu pins s σ H _ _ _ ov iv u Q I ro ri rv ⟨_,_,rfl,Kv.k hv (by rw[rk.length];exact q.1),k _ _ q.2 (rS.put hv trivial ⟨_,ar,(rk.put r3).mono (.mut hv trivial)⟩) (.mut hv trivial)⟩
   ·exact q.elim
  ·exact q.elim
 ·exact q.elim
def lC(te to ti:aK):bw:=fun D σ S=>te σ S (fun v S1=>to σ S1 (fun o S2=>ti σ S2 (fun i S3=>cZ o i v S3 (fun S4=>D.nx σ S4)) D.ex) D.ex) D.ex
def pR(hu:X.A.units+1 < cLine)(he:aO X e te)(ho:aO X o to)(hi:aO X i ti)
  (ha:∀v,assign (.Subscript o i pos') X.env v=(do
   let ov <-holding [v] (eval o X.env)
   let iv <-holding [v,ov] (eval i X.env)
   standAt pos'
   holding [v,ov,iv] (setItem ov iv v)
   release [v,ov,iv] []):=by intro _;rfl)
  (hs:swapsWithSole [.Subscript o i pos'] e pos.line X.env=pure false:=by rfl) (hw:swappedStores [.Subscript o i pos'] e X.env=pure none:=by rfl)
  (h1:(assignEach [.Subscript o i pos'] X.env).map (·.2)=[assign (.Subscript o i pos') X.env]:=by rfl):mE X (.Assign [.Subscript o i pos'] e pos) (lC te to ti):=
 ⟨cf (sR he.ok (nU ho.ok hi.ok (oA hu) ha) hs hw h1) fun D σ H ⟨σ3,S,D3,rσ,rS,h,xo,n,r,bk,ct⟩=>⟨σ3,S,_,D3.ex,rσ,rS,h,xo,fun v S1 v' H1 h1 rv GP g1=>
  ⟨σ3,S1,_,D3.ex,rσ.mono g1,GP,h1,xo.mono g1,fun o S2 o' H2 h2 ro Hy g2=>⟨σ3,S2,_,D3.ex,rσ.mono (g1.trans g2),Hy,h2,xo.mono (g1.trans g2),fun i S3 i' H3 h3 ri Kr g3=>
   ⟨o,i,v,S3,_,ro.mono g3,ri,rv.mono (g2.trans g3),Kr,h3,fun S4 H4 h4 Mn g4=>n _ S4 _ H4 h4 (rσ.mono (g1.trans (g2.trans (g3.trans g4)))) Mn (g1.trans (g2.trans (g3.trans g4)))⟩⟩⟩⟩⟩
end
end L3
namespace L2
open PySem PySem.Spec PyProof.Rows
section
variable {X:Cx} {tg:Expr}
def Fm(K:Vo)(tl:TE):TI:=fun σ H R=>tl σ H fun x H1=>(∃a,x = .ref a/\(∃xs,SqL K H1 a xs)/\R (Er K a) H1)\/(∃a,x = .ref a/\(∃xs,SqT K H1 a xs)/\R (EV K a) H1)\/∃z,x = .str z/\R (Fc z) H1
def A4{l:Expr}{tl:TE}(hl:PE X l tl):PI X tg l (Fm X.K tl):=by
 intro pins s σ H R I h
 refine GG (hl pins s σ H _ I h) fun v s1 ⟨x,H1,I1,r1,q1⟩=>?_
 rcases q1 with⟨a,e,⟨xs,hq⟩,q⟩|⟨a,e,⟨xs,hq⟩,q⟩|⟨z,e,q⟩
 ·subst e
  cases r1
  obtain⟨its,rv,p,hz⟩:=I1.list hq
  refine RE p.isList ?_
  refine⟨s1.heap.objs.size,[s1.heap.objs.size],_,_,H1,rfl,I1.kept (t':=s1.toks) fun b o e=>PK _ e,qQ a _,⟨_,P9 _ rfl,rfl,rfl⟩,fun b hb=>?_,q⟩
  have e:b=s1.heap.objs.size:=by simpa using hb
  subst e
  exact I1.Im (PN _) (I1.hok.fresh (PN _))
 ·subst e
  cases r1
  obtain⟨its,rv,p,hz⟩:=I1.tuple hq
  refine RS (show s1.heap.IsTuple a its.toArray from p) ?_
  refine⟨s1.heap.objs.size,[s1.heap.objs.size],_,_,H1,rfl,I1.kept (t':=s1.toks) fun b o e=>PK _ e,nV a _,⟨_,P9 _ rfl,rfl,rfl⟩,fun b hb=>?_,q⟩
  have e:b=s1.heap.objs.size:=by simpa using hb
  subst e
  exact I1.Im (PN _) (I1.hok.fresh (PN _))
 ·subst e
  obtain⟨t,rfl⟩:=r1
  have fin:∀ty,(ty = "str_ascii_iterator" \/ ty = "str_iterator")->Ep X pins σ tg R (.ref s1.heap.objs.size) { s1 with heap:=s1.heap.push { cls:=.type ty,data:=.fields #[.str z t,.int 0 0] } }:=fun ty hty=>by
   refine⟨s1.heap.objs.size,[s1.heap.objs.size],_,_,H1,rfl,I1.kept (t':=s1.toks) fun b o e=>PK _ e,tM hty _ z t,⟨Qc _,_,P9 _ rfl,rfl,rfl⟩,fun b hb=>?_,q⟩
   have e:b=s1.heap.objs.size:=by simpa using hb
   subst e
   exact I1.Im (PN _) (I1.hok.fresh (PN _))
  cases ha:z.cps.all (· < 128)
  ·exact wpAny_pyIter_wide ha (fin _ (.inr rfl))
  ·exact wpAny_pyIter_ascii ha (fin _ (.inl rfl))
end
end L2
namespace L3
open PySem L2
structure Fn where
 items:List PV
 keep:ap->Prop
def iB(K:Vo)(H0:Hp)(J:It)(src:Fn):Prop:=∀(i:Nat) (S:ap) (H:Hp),Grow K H0 H->GH K H S->src.keep S->
 (∀p,src.items[i]?=some p->J.go i H/\∀x H',J.MM i H x H'->Rep K H' x p/\GH K H' S/\Grow K H H')/\(i=src.items.length->J.stop i H)
abbrev uq:=bM->ap->(Fn->ap->Prop)->b8->Prop
inductive LI (X:Cx) (t:uq) (σ:L2.St) (H:Hp) (R:It->Hp->Prop):Prop
 |mk (σ3 S R3 E3) (rσ:GK X.K H σ σ3) (rS:GH X.K H S) (h:t σ3 S R3 E3) (xo:Kq X H E3) (k:∀src S' J H',R3 src S'->iB X.K H' J src->GH X.K H' S'->Grow X.K H H'->R J H'):LI X t σ H R
structure xI (X:Cx) (tg iter:Expr) (t:uq):Prop where
 ok:PI X tg iter (LI X t)
def lD{X:Cx}{tg iter:Expr}{t t':TI}(h:PI X tg iter t)(k:∀σ H R,t' σ H R->t σ H R):PI X tg iter t':=fun pins s σ H R I q=>h pins s σ H R I (k σ H R q)
section
variable {X:Cx} {e tg:Expr} {es:List Expr} {te:aK} {ts:List aK} {p pos:Pos}
noncomputable def fx(S:ap):PV->Option Fn
 | .tup xs=>some ⟨xs,fun _=>True⟩
 | .cl xs=>some ⟨xs,fun _=>True⟩
 | .str z=>some ⟨z.cps.toList.map fun c=>.str (sgn c),fun _=>True⟩
 | .ref a=>(match S a with|some (.lst xs)=>some ⟨xs,fun S'=>S' a=some (.lst xs)⟩|_=>none)
 |_=>none
def bJ(te:aK):uq:=fun σ S R E=>te σ S (fun v S1=>match fx S1 v with|some src=>R src S1|none=>False) E
end
section
variable {X:Cx} {e tg a b:Expr} {es:List Expr} {te ta tb:aK} {ts:List aK} {p pos:Pos}
def ur{K:Vo}{H0:Hp}{a:Addr}{xs:List PV}:iB K H0 (Er K a) ⟨xs,fun S'=>S' a=some (.lst xs)⟩:=by
 intro i S H g rS hk
 obtain⟨vs,hv,rs⟩:=rS a _ hk
 refine⟨fun p hp=>?_,fun hi=>⟨vs,SqL.of hv,by rw[rs.length,hi];exact PN _⟩⟩
 obtain⟨v,hx,rv⟩:=rs.get hp
 refine⟨⟨vs,v,SqL.of hv,hx⟩,fun x H' ⟨e,h⟩=>?_⟩
 subst e
 have:=h vs (SqL.of hv)
 rw[hx]at this
 cases this
 exact⟨rv,rS,.refl⟩
def xJ{K:Vo}{H0:Hp}{a:Addr}{vs:List V}{xs:List PV}(h:SqT K H0 a vs)(rs:Reps K H0 vs xs):iB K H0 (EV K a) ⟨xs,fun _=>True⟩:=by
 intro i S H g rS _
 have hv:=g.t _ _ h
 refine⟨fun p hp=>?_,fun hi=>⟨vs,hv,by rw[rs.length,hi];exact PN _⟩⟩
 obtain⟨v,hx,rv⟩:=rs.get hp
 refine⟨⟨vs,v,hv,hx⟩,fun x H' ⟨e,h⟩=>?_⟩
 subst e
 have:=h vs hv
 rw[hx]at this
 cases this
 exact⟨rv.mono g,rS,.refl⟩
def A5{K:Vo}{H0:Hp}{a:Addr}{vs:List V}{xs:List PV}(h:LY K H0 a vs)(rs:Reps K H0 vs xs):iB K H0 (Er K a) ⟨xs,fun _=>True⟩:=by
 intro i S H g rS _
 have hv:=(g.c _ _ h).sq
 refine⟨fun p hp=>?_,fun hi=>⟨vs,hv,by rw[rs.length,hi];exact PN _⟩⟩
 obtain⟨v,hx,rv⟩:=rs.get hp
 refine⟨⟨vs,v,hv,hx⟩,fun x H' ⟨e,h⟩=>?_⟩
 subst e
 have:=h vs hv
 rw[hx]at this
 cases this
 exact⟨rv.mono g,rS,.refl⟩
def xK{K:Vo}{H0:Hp}{z:Str}:iB K H0 (Fc z) ⟨z.cps.toList.map fun c=>.str (sgn c),fun _=>True⟩:=by
 intro i S H g rS _
 refine⟨fun p hp=>?_,fun hi=>by show z.cps.size<=i;rw[hi,PY,TZ];exact PN _⟩
 rw[Ql]at hp
 cases hc:z.cps.toList[i]? with
 |none=>rw[hc]at hp;cases hp
 |some c=>
  rw[hc]at hp
  cases hp
  have hc':z.cps[i]?=some c:=by simpa using hc
  refine⟨?_,fun x H' ⟨e,c',h1,h2⟩=>?_⟩
  ·show i < z.cps.size
   by_cases hi:i < z.cps.size
   ·exact hi
   ·rw[Array.getElem?_eq_none (by omega)]at hc';cases hc'
  ·subst e
   rw[hc']at h1
   cases h1
   subst h2
   exact⟨.str _,rS,.refl⟩
def dQ(he:aO X e te):xI X tg e (bJ te):=⟨lD (A4 he.ok) fun σ H R ⟨σ3,S,R3,E3,rσ,rS,h,xo,k⟩=>⟨σ3,S,_,E3,rσ,rS,h,xo,fun v S1 v' H1 h1 rv GP g1=>by
 split at h1
 ·rename_i src hs
  unfold fx at hs
  split at hs
  ·cases hs
   cases rv with
   |tup hq rs=>exact .inr (.inl ⟨_,rfl,⟨_,hq⟩,k _ S1 _ H1 h1 (xJ hq rs) GP g1⟩)
  ·cases hs
   cases rv with
   |cl hq rs=>exact .inl ⟨_,rfl,⟨_,hq.sq⟩,k _ S1 _ H1 h1 (A5 hq rs) GP g1⟩
  ·cases hs
   cases rv
   exact .inr (.inr ⟨_,rfl,k _ S1 _ H1 h1 xK GP g1⟩)
  ·cases rv
   split at hs
   ·rename_i ea
    cases hs
    obtain⟨vs,hv,rs⟩:=GP _ _ ea
    exact .inl ⟨_,rfl,⟨_,SqL.of hv⟩,k _ S1 _ H1 h1 ur GP g1⟩
   ·cases hs
  ·cases hs
 ·exact h1.elim⟩⟩
noncomputable def cA(lo:Int)(n:Nat):List PV:=(List.range n).map fun(i:Nat)=>PV.int (lo+i)
def rP{K:Vo}{H0:Hp}{lo:Int}{n:Nat}:iB K H0 (Es lo n) ⟨cA lo n,fun _=>True⟩:=by
 intro i S H g rS _
 refine⟨fun p hp=>?_,fun hi=>by show n<=i;rw[hi];simp[cA]⟩
 unfold cA at hp
 rw[Ql]at hp
 by_cases hi:i < n
 ·rw[T4 hi]at hp
  cases hp
  refine⟨hi,fun x H' ⟨e,h⟩=>?_⟩
  subst e h
  exact⟨.int _,rS,.refl⟩
 ·rw[QT (by simpa using hi)]at hp
  cases hp
def jv(ta:aK):uq:=fun σ S R E=>ta σ S (fun v S1=>match v with | .int j=>-(2 ^ 62)<=j/\j < 2 ^ 62/\R ⟨cA 0 j.toNat,fun _=>True⟩ S1|_=>False) E
def gf(hs:starEach [a] X.env=[(false,eval a X.env)])(hg:Gl X "range")(hm:X.mg "range" = none)(ha:iA X [a] [ta]):xI X tg (.Call (.Name "range" p) [a] [] pos) (jv ta):=
 ⟨lD (qR hg hm ha.ok hs) fun σ H R ⟨σ3,S,R3,E3,rσ,rS,h,xo,k⟩=>⟨σ3,S,_,E3,rσ,rS,h,xo,fun v S1 v' H1 h1 rv GP g1=>by
  split at h1
  ·cases rv
   exact⟨_,rfl,h1.1,h1.2.1,k _ S1 _ H1 h1.2.2 rP GP g1⟩
  ·exact h1.elim⟩⟩
noncomputable def dL(xs ys:List PV):List PV:=(xs.zip ys).map fun z=>.tup [z.1,z.2]
def J_(K:Vo)(H0:Hp)(ka:Bool)(a:Addr)(xs:List PV)(keep:ap->Prop):Prop:=∀S H,Grow K H0 H->GH K H S->keep S->∃vs,rB ka K H a vs/\Reps K H vs xs
def J_.tup{K:Vo}{H0:Hp}{a:Addr}{vs:List V}{xs:List PV}{keep:ap->Prop}(h:SqT K H0 a vs)(r:Reps K H0 vs xs):J_ K H0 false a xs keep:=fun _ _ g _ _=>⟨vs,g.t _ _ h,r.mono g⟩
theorem J_.lst{K:Vo}{H0:Hp}{a:Addr}{xs:List PV}{keep:ap->Prop}(h:∀S,keep S->S a=some (.lst xs)):J_ K H0 true a xs keep:=fun S _ _ rS k=>let ⟨vs,hv,r⟩:=rS _ _ (h S k);⟨vs,SqL.of hv,r⟩
def iX{K:Vo}{H0:Hp}{ka kb:Bool}{a b:Addr}{xs ys:List PV}{keep:ap->Prop}(h1:J_ K H0 ka a xs keep)(h2:J_ K H0 kb b ys keep):iB K H0 (Ff ka kb K a b) ⟨dL xs ys,keep⟩:=by
 intro i S H g rS kp
 obtain⟨vs,hv,r1⟩:=h1 S H g rS kp
 obtain⟨us,hu,r2⟩:=h2 S H g rS kp
 have l1:=r1.length
 have l2:=r2.length
 refine⟨fun p hp=>?_,fun hi=>⟨vs,us,hv,hu,?_⟩⟩
 ·unfold dL at hp
  rw[Ql]at hp
  cases hz:(xs.zip ys)[i]? with
  |none=>rw[hz]at hp;cases hp
  |some z=>
   rw[hz]at hp
   cases hp
   obtain⟨e1,e2⟩:=List.getElem?_zip_eq_some.mp hz
   obtain⟨v,hx',rv⟩:=r1.get e1
   obtain⟨u,hy',ru⟩:=r2.get e2
   refine⟨⟨vs,us,v,u,hv,hu,hx',hy'⟩,fun x H' ⟨q,x2,y2,e3,hq,e4,h⟩=>?_⟩
   subst e3 e4
   obtain⟨k1,k2⟩:=h vs us hv hu
   rw[hx']at k1
   rw[hy']at k2
   cases k1;cases k2
   exact⟨.tup (SqT.of ar) (.cons (rv.mono (.new hq)) (.cons (ru.mono (.new hq)) .nil)),rS.other hq,.new hq⟩
 ·have e:(dL xs ys).length=min xs.length ys.length:=by simp[dL]
  rw[e]at hi
  by_cases hle:xs.length<=ys.length
  ·exact .inl (by omega)
  ·exact .inr (by omega)
end
section
variable {X:Cx} {iter tg c:Expr} {body:List Stmt} {ti:uq} {g:Tg} {tb:bw} {tc:iz} {pos:Pos}
noncomputable def lE(g:Tg)(tb:bw)(D:fZ)(keep:ap->Prop):List PV->bM->ap->Prop
 |[],σ,S=>keep S/\D.nx σ S
 |x::r,σ,S=>keep S/\match g.put x σ with|some σ'=>tb { D with nx:=lE g tb D keep r,ct:=lE g tb D keep r,bk:=D.nx } σ' S|none=>False
def dy(ti:uq)(g:Tg)(tb:bw):bw:=fun D σ S=>ti σ S (fun src S1=>lE g tb D src.keep src.items σ S1) D.ex
def gg(hp:PassesOwn (model X.prog X.w) X.A X.env X.xe)(hc:X.calm=true)(hi:xI X tg iter ti)(hg:xG X tg g)(hb:dI X body tb)(hs:∀x,foldedSetIterable iter X.env x=pure x:=by intro _;rfl):mE X (.For tg iter body [] pos) (dy ti g tb):=
 ⟨cf (Ad hp hc hi.ok hg.ok hb.ok hs) fun D σ H ⟨σ3,S,D3,rσ,rS,h,xo,n,r,bk,ct⟩=>⟨σ3,S,_,D3.ex,rσ,rS,h,xo,fun src S1 J H1 h1 sim GP g1=>by
  refine⟨fun i m σ' H'=>i+m=src.items.length/\∃σ4 S',GK X.K H' σ' σ4/\GH X.K H' S'/\Grow X.K H1 H'/\lE g tb D3 src.keep (src.items.drop i) σ4 S',⟨src.items.length,SW _,σ3,S1,rσ.mono g1,GP,.refl,by simpa using h1⟩,?_⟩
  rintro i m σ' H' ⟨hm,σ4,S',KQ,HE,g',hw⟩
  cases hd:src.items.drop i with
  |nil=>
   rw[hd]at hw
   have hi:i=src.items.length:=by
    have:=Qu List.length hd
    rw[Se,RA]at this
    omega
   exact .inl ⟨(sim i S' H' g' HE hw.1).2 hi,n _ S' _ H' hw.2 KQ HE (g1.trans g')⟩
  |cons x rest=>
   rw[hd]at hw
   have hx:src.items[i]?=some x:=by
    have:=Qu (fun l=>l[0]?) hd
    simpa using this
   have hrest:src.items.drop (i+1)=rest:=by
    have:=Qu List.tail hd
    simpa [Rv]using this
   have hlt:i < src.items.length:=by
    by_cases z:i < src.items.length
    ·exact z
    ·rw[QT (by omega)]at hx;cases hx
   obtain⟨go,yl⟩:=(sim i S' H' g' HE hw.1).1 x hx
   refine .inr ⟨go,fun σ5 H5=>∃σ6 S6,GK X.K H5 σ5 σ6/\GH X.K H5 S6/\Grow X.K H1 H5/\lE g tb D3 src.keep rest σ6 S6,?_,fun v H5 hv=>?_⟩
   ·rintro σ5 H5 ⟨σ6,S6,q1,q2,q3,q4⟩
    exact⟨m - 1,by omega,by omega,σ6,S6,q1,q2,q3,by rw[hrest];exact q4⟩
   ·obtain⟨rv,Mo,g5⟩:=yl v H5 hv
    obtain⟨_,hw⟩:=hw
    split at hw
    ·rename_i σ6 e6
     refine Tg.JJ (own:=0) g rv (KQ.mono g5) e6 fun σ7 MU _=>?_
     exact⟨σ6,S',_,MU,Mo,hw,xo.mono (g1.trans (g'.trans g5)),fun σ8 S8 σ9 H9 q1 q2 q3 q4=>⟨σ8,S8,q2,q3,g'.trans (g5.trans q4),q1⟩,r.mono (g1.trans (g'.trans g5)),n.mono (g1.trans (g'.trans g5)),
      fun σ8 S8 σ9 H9 q1 q2 q3 q4=>⟨σ8,S8,q2,q3,g'.trans (g5.trans q4),q1⟩⟩
    ·exact hw.elim⟩⟩
def lF(tc:iz)(tb:bw):bw:=fun D σ S=>∃W:Nat->bM->ap->Prop,(∃m,W m σ S)/\∀m σ S,W m σ S->
 tc σ S (fun b S1=>if b=true then ∃N:bM->ap->Prop,(∀σ' S',N σ' S'->∃m',m' < m/\W m' σ' S')/\tb { D with nx:=N,ct:=N,bk:=D.nx } σ S1 else D.nx σ S1) D.ex
def lG(hp:PassesOwn (model X.prog X.w) X.A X.env X.xe)(hc:mW X c tc)(hb:dI X body tb):mE X (.While c body [] pos) (lF tc tb):=
 ⟨cf (sS hp hc.ok hb.ok) fun D σ H ⟨σ3,S,D3,rσ,rS,⟨W,⟨m0,w0⟩,turn⟩,xo,n,r,bk,ct⟩=>by
  refine⟨fun m σ' H'=>∃σ4 S',GK X.K H' σ' σ4/\GH X.K H' S'/\Grow X.K H H'/\W m σ4 S',⟨m0,σ3,S,rσ,rS,.refl,w0⟩,?_⟩
  rintro m σ' H' ⟨σ4,S',KQ,HE,g',w'⟩
  refine⟨σ4,S',_,D3.ex,KQ,HE,turn m σ4 S' w',xo.mono g',fun b S1 H1 h1 GP g1=>?_⟩
  cases b with
  |true=>
   rw[if_pos rfl]at h1 ⊢
   obtain⟨N,hN,h1⟩:=h1
   refine⟨fun σ5 H5=>∃σ6 S6,GK X.K H5 σ5 σ6/\GH X.K H5 S6/\Grow X.K H H5/\N σ6 S6,?_,?_⟩
   ·rintro σ5 H5 ⟨σ6,S6,q1,q2,q3,q4⟩
    obtain⟨m',hm,w6⟩:=hN σ6 S6 q4
    exact⟨m',hm,σ6,S6,q1,q2,q3,w6⟩
   ·exact⟨σ4,S1,_,KQ.mono g1,GP,h1,xo.mono (g'.trans g1),fun σ8 S8 σ9 H9 q1 q2 q3 q4=>⟨σ8,S8,q2,q3,g'.trans (g1.trans q4),q1⟩,r.mono (g'.trans g1),n.mono (g'.trans g1),
     fun σ8 S8 σ9 H9 q1 q2 q3 q4=>⟨σ8,S8,q2,q3,g'.trans (g1.trans q4),q1⟩⟩
  |false=>
   rw[if_neg (by decide)]at h1 ⊢
   exact n _ S1 _ H1 h1 (KQ.mono g1) GP (g'.trans g1)⟩
end
noncomputable def fF:b8:=fun _ _ _=>False
def Kq.no{X:Cx}{H:Hp}:Kq X H fF:=fun _ _ _ _ _ _ _ _ _ _ _ _ _ _ h=>h.elim
section
variable {X:Cx} {elt iter tg c:Expr} {ifs:List Expr} {scope:Scope} {pos:Pos} {ti:uq} {g:Tg} {tc:iz} {te:aK} {fs N:Vs} {own:Nat} {fr:List Nat}
noncomputable def cC(g:Tg)(tc:iz)(te:aK)(σ':bM)(keep:ap->Prop)(fin:List PV->ap->Prop):List PV->List PV->ap->Prop
 |[],ys,S=>keep S/\ys.length<=sizeLine/\fin ys S
 |x::r,ys,S=>keep S/\ys.length<=sizeLine/\match g.put x σ' with
  |some σ2=>tc σ2 S (fun b S3=>if b=true then te σ2 S3 (fun y S4=>cC g tc te σ' keep fin r (ys++[y]) S4) fF else cC g tc te σ' keep fin r ys S3) fF
  |none=>False
def fG:iz:=fun _ S Q _=>Q true S
structure Cr (X:Cx) (ifs:List Expr) (t:iz):Prop where
 ok:PF X ifs (LT X t)
def oB{t t':TT}(h:PF X ifs t)(k:∀σ H Q,t' σ H Q->t σ H Q):PF X ifs t':=fun pins s σ H Q I q=>h pins s σ H Q I (k σ H Q q)
def kK:Cr X [] fG:=⟨oB AB fun σ H Q ⟨σ3,S,Q3,E3,rσ,rS,h,xo,k⟩=>k true S H h rS .refl⟩
def ut(h:mW X c tc):Cr X [c] tc:=⟨AC h.ok⟩
noncomputable def km(own:Nat)(fr:List Nat)(σ:bM):bM:=List.replicate own none++fr.map fun j=>lk σ j
def xL{K:Vo}{H:Hp}{σ:L2.St}{σ3:bM}(r:GK K H σ σ3)(own:Nat)(fr:List Nat):GK K H (du own fr σ) (km own fr σ3):=by
 refine⟨by unfold du km;simp,fun i p e=>?_⟩
 unfold km at e
 unfold du
 by_cases hi:i < own
 ·rw[QL (by simpa using hi),Q6,if_pos hi]at e
  cases e
 ·rw[Q8 (by simpa using hi),QS,Ql]at e ⊢
  cases hj:fr[i - own]? with
  |none=>rw[hj]at e;cases e
  |some j=>
   rw[hj]at e
   simp only[Option.map_some,Option.some.injEq]at e ⊢
   obtain⟨v,hv,rv⟩:=r.at' j p (t9 e)
   exact⟨v,by rw[hv];rfl,rv⟩
def bS(ti:uq)(g:Tg)(tc:iz)(te:aK)(own:Nat)(fr:List Nat):aK:=fun σ S Q E=>ti σ S (fun src S1=>cC g tc te (km own fr σ) src.keep (fun ys S2=>∀p,S2 p=none->Q (.ref p) (GC S2 p (.lst ys))) src.items [] S1) E
def kL{σ:L2.St}{H:Hp}{Q:VK}(Kz:g.under own=true)(B0:Bk):LE X (bS ti g tc te own fr) σ H Q->tJ (LI X ti) (g.g2 X.K) (fun σ H Q=>∃σ3 S Q3,GK X.K H σ σ3/\GH X.K H S/\tc σ3 S Q3 fF/\∀b S' H',Q3 b S'->GH X.K H' S'->Grow X.K H H'->Q b H')
  (fun σ H Q=>∃σ3 S Q3,GK X.K H σ σ3/\GH X.K H S/\te σ3 S Q3 fF/\J9 X.K H Q3 Q) own fr σ H Q:=fun⟨σ3,S,Q3,E3,rσ,rS,h,xo,k⟩=>by
 refine⟨σ3,S,_,E3,rσ,rS,h,xo,fun src S1 J H1 h1 sim GP g1=>?_⟩
 refine⟨fun i m ys H'=>i+m=src.items.length/\∃zs S',Reps X.K H' ys zs/\GH X.K H' S'/\Grow X.K H1 H'/\cC g tc te (km own fr σ3) src.keep (fun ys S2=>∀p,S2 p=none->Q3 (.ref p) (GC S2 p (.lst ys))) (src.items.drop i) zs S',⟨src.items.length,SW _,[],S1,.nil,GP,.refl,by simpa using h1⟩,?_⟩
 rintro i m ys H' ⟨hm,zs,S',rz,HE,g',hw⟩
 cases hd:src.items.drop i with
 |nil=>
  rw[hd]at hw
  have hi:i=src.items.length:=by
   have:=Qu List.length hd
   rw[Se,RA]at this
   omega
  refine .inl ⟨(sim i S' H' g' HE hw.1).2 hi,by rw[rz.length];exact hw.2.1,fun D hD=>?_⟩
  exact k _ _ _ _ (hw.2.2 D (HE.free hD)) (.ref D) (HE.new hD ⟨_,ar,rz.mono (.new hD)⟩) (g1.trans (g'.trans (.new hD)))
 |cons x rest=>
  rw[hd]at hw
  have hx:src.items[i]?=some x:=by
   have:=Qu (fun l=>l[0]?) hd
   simpa using this
  have hrest:src.items.drop (i+1)=rest:=by
   have:=Qu List.tail hd
   simpa [Rv]using this
  have hlt:i < src.items.length:=by
   by_cases z:i < src.items.length
   ·exact z
   ·rw[QT (by omega)]at hx;cases hx
  obtain⟨go,yl⟩:=(sim i S' H' g' HE hw.1).1 x hx
  refine .inr ⟨go,by rw[rz.length];exact hw.2.1,fun ys' H5=>∃zs' S6,Reps X.K H5 ys' zs'/\GH X.K H5 S6/\Grow X.K H1 H5/\cC g tc te (km own fr σ3) src.keep (fun ys S2=>∀p,S2 p=none->Q3 (.ref p) (GC S2 p (.lst ys))) rest zs' S6,?_,fun v H5 hv=>?_⟩
  ·rintro ys' H5 ⟨zs',S6,q1,q2,q3,q4⟩
   exact⟨m - 1,by omega,by omega,zs',S6,q1,q2,q3,by rw[hrest];exact q4⟩
  ·obtain⟨rv,Mo,g5⟩:=yl v H5 hv
   obtain⟨_,_,hw⟩:=hw
   split at hw
   ·rename_i σ6 e6
    refine Tg.JJ (own:=own) g rv ((xL rσ own fr).mono (g1.trans (g'.trans g5))) e6 fun σ7 MU d7=>⟨d7 Kz,?_⟩
    refine⟨σ6,S',_,MU,Mo,hw,fun b S8 H8 h8 Oh g8=>?_⟩
    cases b with
    |true=>
     rw[if_pos rfl]at h8 ⊢
     exact⟨σ6,S8,_,MU.mono g8,Oh,h8,fun y S9 y' H9 h9 ry OX g9=>⟨zs++[y],S9,(rz.mono (g5.trans (g8.trans g9))).append (.cons ry .nil),OX,g'.trans (g5.trans (g8.trans g9)),h9⟩⟩
    |false=>
     rw[if_neg (by decide)]at h8 ⊢
     exact⟨zs,S8,rz.mono (g5.trans g8),Oh,g'.trans (g5.trans g8),h8⟩
   ·exact hw.elim
def A6(fs:Vs)(own:Nat)(fr:List Nat)(N:Vs)(Kz:g.under own=true)(hc:X.calm=true)(hclos:closureFor scope X.env=pure (bX X.env fs))(hcell:∀y∈scope.names,y.2 ≠ .cell)(hkind:scope.kind = .function)
  (hnames:∀x∈scope.names,x.2 = .local->scope.names.lookup x.1=some .local) (hcl:bP X.env fs) (hhas:hasB (relabel scope X.env).names (bX X.env fs)=true)
  (hlen:N.length=own+fr.length) (hN:(N.drop own).map some=fr.map fun j=>X.N[j]?) (hF:G7 X.env scope (bX X.env fs) (N.drop own))
  (hi:xI X tg iter ti) (hg:∀B,xG (X.Ih N scope fs B) tg g) (hf:∀B,Cr (X.Ih N scope fs B) ifs tc) (he:∀B,aO (X.Ih N scope fs B) elt te)
  (hs:∀x,foldedSetIterable iter X.env x=pure x:=by intro _;rfl):aO X (.ListComp elt [⟨tg,iter,ifs,0⟩] scope pos) (bS ti g tc te own fr):=
 ⟨aE (xh fs own fr N hc hclos hcell hkind hnames hcl hhas hlen hN hF hi.ok (fun B=>(hg B).ok)
  (fun B=>oB (hf B).ok fun σ H Q ⟨σ3,S,Q3,rσ,rS,h,k⟩=>⟨σ3,S,Q3,fF,rσ,rS,h,.no,k⟩) (fun B=>aE (he B).ok fun σ H Q ⟨σ3,S,Q3,rσ,rS,h,k⟩=>⟨σ3,S,Q3,fF,rσ,rS,h,.no,k⟩) hs) fun _ _ _=>kL Kz ⟨0,X.s₀,X.H₀,[],[]⟩⟩
def A7(fs:Vs)(own:Nat)(fr:List Nat)(N:Vs){i:Nat}{y:Str}{py spos:Pos}(hX:X.N.Nodup)(hix:X.N[i]?=some y)(hy:X.env.scope.names.lookup y=some .local)
  (hsw:swapsWith (.ListComp elt [⟨tg,iter,ifs,0⟩] scope pos) (some (.Name y py)) spos.line X.env=pure true)
  (Kz:g.under own=true) (hc:X.calm=true) (hclos:closureFor scope X.env=pure (bX X.env fs)) (hcell:∀y∈scope.names,y.2 ≠ .cell) (hkind:scope.kind = .function)
  (hnames:∀x∈scope.names,x.2 = .local->scope.names.lookup x.1=some .local) (hcl:bP X.env fs) (hhas:hasB (relabel scope X.env).names (bX X.env fs)=true)
  (hlen:N.length=own+fr.length) (hN:(N.drop own).map some=fr.map fun j=>X.N[j]?) (hF:G7 X.env scope (bX X.env fs) (N.drop own))
  (hi:xI X tg iter ti) (hg:∀B,xG (X.Ih N scope fs B) tg g) (hf:∀B,Cr (X.Ih N scope fs B) ifs tc) (he:∀B,aO (X.Ih N scope fs B) elt te)
  (hs:∀x,foldedSetIterable iter X.env x=pure x:=by intro _;rfl):mE X (.Assign [.Name y py] (.ListComp elt [⟨tg,iter,ifs,0⟩] scope pos) spos) (av i (bS ti g tc te own fr)):=
 ⟨cf (xi fs own fr N hX hix hy hsw hc hclos hcell hkind hnames hcl hhas hlen hN hF hi.ok (fun B=>(hg B).ok)
  (fun B=>oB (hf B).ok fun σ H Q ⟨σ3,S,Q3,rσ,rS,h,k⟩=>⟨σ3,S,Q3,fF,rσ,rS,h,.no,k⟩) (fun B=>aE (he B).ok fun σ H Q ⟨σ3,S,Q3,rσ,rS,h,k⟩=>⟨σ3,S,Q3,fF,rσ,rS,h,.no,k⟩) hs)
  fun D σ H ⟨σ3,S,D3,rσ,rS,h,xo,n,r,bk,ct⟩=>kL Kz ⟨0,X.s₀,X.H₀,[],[]⟩ ⟨σ3,S,_,D3.ex,rσ,rS,h,xo,fun p S1 v H1 h1 rv GP g1=>n _ S1 _ H1 h1 ((rσ.mono g1).set rv i) GP g1⟩⟩
end
abbrev aG:=List PV->ap->bQ->b8->Prop
noncomputable def Cs(K:Vo)(n:Nat)(sp:aG):Sp:=fun vs H Q _=>vs.length=n/\∃ps S Q3 E3,Reps K H vs ps/\GH K H S/\sp ps S Q3 E3/\J9 K H Q3 Q
structure Lf (P:Program) (w:World) (K:Vo) (mg:Vr) (base:Heap) (k:Nat) (f:Addr) (fd:FuncData) (ps:Vs) (sp:aG):Prop where
 ok:dY P w K mg base nO k f fd ps (Cs K ps.length sp)
section
variable {X:Cx} {e o:Expr} {es:List Expr} {te to:aK} {ts:List aK} {x:Str} {p pos apos cpos:Pos} {k:Nat} {f:Addr} {fd:FuncData} {ps:Vs} {sp:aG}
def al(sp:aG)(ts:List aK):aK:=fun σ S Q E=>au ts σ S (fun ps S1=>sp ps S1 Q E) E
def A8(F:Lf X.prog X.w X.K X.mg X.base k f fd ps sp)(hr:Room k X.A)(hg:Gl X x)(hm:X.mg x=some (.ref f))(hk:PySem.W.keepIn X.K (.ref f)=true)(hb:Binds X.K fd ps [])(he:starEach (e::es) X.env=(false,eval e X.env)::starEach es X.env)(ha:iA X (e::es) ts)
  (hl:ts.length=ps.length:=by rfl) (hdb:(x == ("__debug__":Str))=false:=by decide) (hpl:(backTo pos (starEach es X.env)).any (·.1)=false:=by rfl):aO X (.Call (.Name x p) (e::es) [] pos) (al sp ts):=
 ⟨aE (wT F.ok hr hg hm hk hb .nil tH ha.ok hdb he hpl) fun σ H Q ⟨σ3,S,Q3,E3,rσ,rS,h,xo,k⟩=>bB rσ rS h xo fun ps' S' vs H' hl' q rv HE g=>by
  rw[Qv]
  exact⟨by rw[rv.length,hl',hl],ps',S',Q3,E3,rv,HE,q,k.mono g⟩⟩
def xM(F:Lf X.prog X.w X.K X.mg X.base k f fd [] sp)(hr:Room k X.A)(hg:Gl X x)(hm:X.mg x=some (.ref f))(hk:PySem.W.keepIn X.K (.ref f)=true)(hb:Binds X.K fd [] [])
  (hdb:(x == ("__debug__":Str))=false:=by decide):aO X (.Call (.Name x p) [] [] pos) (al sp []):=
 ⟨aE (td F.ok hr hg hm hk hb .nil tH hdb) fun σ H Q ⟨σ3,S,Q3,E3,rσ,rS,h,xo,k⟩=>⟨rfl,[],S,Q3,E3,.nil,rS,h,k⟩⟩
end
noncomputable def aA(n:Nat)(args:List PV):bM:=args.map some++List.replicate (n - args.length) none
def bO(n:Nat)(t:bw):aG:=fun args S Q _=>t { nx:=fun _ S'=>Q .non S',rt:=Q,ex:=fF } (aA n args) S
def g_{K:Vo}{H:Hp}{N:Vs}{vs:List V}{ps:List PV}(r:Reps K H vs ps):GK K H (L2.bW N vs) (aA N.length ps):=by
 refine⟨by unfold L2.bW aA;simp[r.length],fun i p e=>?_⟩
 unfold aA at e
 unfold L2.bW
 by_cases hi:i < ps.length
 ·rw[QL (by simpa using hi),Ql]at e
  cases hp:ps[i]? with
  |none=>rw[hp]at e;cases e
  |some q=>
   rw[hp]at e
   cases e
   obtain⟨v,hv,rv⟩:=r.get hp
   rw[QL (by rw[PY,r.length];exact hi),Ql,hv]
   exact⟨v,rfl,rv⟩
 ·rw[Q8 (by simpa using hi),Q6]at e
  split at e
  ·cases e
  ·cases e
section
variable {P:Program} {w:World} {K:Vo} {mg:Vr} {base:Heap}
noncomputable abbrev Fo(P:Program)(w:World)(K:Vo)(mg:Vr)(base:Heap)(N:Vs)(qual:Str)(st:Stmt)(f:Addr)(cdv:Value)(A:Around)(outer:List Env)(s:Shared)(H:Hp)(E:XK):Cx:=(fj nO P w K mg base N qual (ax st) f cdv A outer s H E).Ls
def FZ{x qual:Str}{st:Stmt}{f:Addr}{fd:FuncData}{N ps:Vs}{k:Nat}{t:bw}(F:Kp K x qual st f fd)(S:bv N ps (ax st))
  (hbody:∀(cdv:Value) (A:Around) (outer:List Env) (s:Shared) (H:Hp) (E:XK),Room k (A.deeper (PyProof.Rows.envOfC qual (ax st) s.heap.objs.size f cdv))->dI (Fo P w K mg base N qual st f cdv A outer s H E) (aT st) t) :
  Lf P w K mg base (k+1) f fd ps (bO N.length t):=
 ⟨F.ok S (fun vs H Q E h=>h.1) fun cdv A outer s H vs Q E hr ⟨hl,ps',S',Q3,E3,rv,rS,q,kk⟩=>⟨_,(hbody cdv A outer s H E hr).ok,aA N.length ps',S',_,g_ rv,rS,q,.no,fun σ3 S2 σ2 H2 h2 _ Hy g2=>kk _ S2 _ H2 h2 .non Hy g2,kk,fun _ _ _ _ h2=>h2.elim,fun _ _ _ _ h2=>h2.elim⟩⟩
end
section
variable {X:Cx} {o e f:Expr} {to te tf:aK} {pos apos cpos:Pos}
noncomputable def d5:List (aK×aK)->bM->ap->(List (PV×PV)->ap->Prop)->b8->Prop
 |[],_,S,Q,_=>Q [] S
 |(tk,tv)::r,σ,S,Q,E=>tk σ S (fun x S1=>tv σ S1 (fun y S2=>d5 r σ S2 (fun ps S3=>Q ((x,y)::ps) S3) E) E) E
noncomputable def jw:List (PV×PV)->Option (List (aZ×PV))
 |[]=>some []
 |(x,y)::r=>match lB x,jw r with|some k,some l=>some ((k,y)::l)|_,_=>none
noncomputable def c_(kvs more:List (aZ×PV)):List (aZ×PV):=more.foldl (fun acc kv=>iP acc kv.1 kv.2) kvs
structure EB (X:Cx) (pos:Pos) (keys:List (Option Expr)) (values:List Expr) (IM:List (aK×aK)):Prop where
 ok:C6 X pos keys values (IM.map fun t=>(LE X t.1,LE X t.2))
def oC:EB X pos [] [] []:=⟨w5⟩
def b5{k v:Expr}{ks:List (Option Expr)}{vs:List Expr}{tk tv:aK}{IM:List (aK×aK)}(hk:aO X k tk)(hv:aO X v tv)(hr:EB X pos ks vs IM):EB X pos (some k::ks) (v::vs) ((tk,tv)::IM):=⟨tF hk.ok hv.ok hr.ok⟩
inductive kM (K:Vo) (H:Hp):List (V×V)->List (PV×PV)->Prop
 |nil:kM K H [] []
 |cons {a b:V} {p q:PV} {vs:List (V×V)} {ps:List (PV×PV)}:Rep K H a p->Rep K H b q->kM K H vs ps->kM K H ((a,b)::vs) ((p,q)::ps)
theorem jx:∀{IM:List (aK×aK)} {σ:L2.St} {H:Hp} {Q:List (V×V)->Hp->Prop} {σ3:bM} {S:ap} {Q3:List (PV×PV)->ap->Prop} {E3:b8},GK X.K H σ σ3->GH X.K H S->d5 IM σ3 S Q3 E3->Kq X H E3->
  (∀ps S' vs H',ps.length=IM.length->Q3 ps S'->kM X.K H' vs ps->GH X.K H' S'->Grow X.K H H'->Q vs H')->lp (IM.map fun t=>(LE X t.1,LE X t.2)) σ H Q
 |[],σ,H,Q,σ3,S,Q3,E3,rσ,rS,h,xo,k=>k [] S [] H rfl h .nil rS .refl
 |(tk,tv)::ts,σ,H,Q,σ3,S,Q3,E3,rσ,rS,h,xo,k=>
  ⟨σ3,S,_,E3,rσ,rS,h,xo,fun p S1 v H1 h1 rv GP g1=>⟨σ3,S1,_,E3,rσ.mono g1,GP,h1,xo.mono g1,fun p2 S2 v2 H2 h2 OY Hy g2=>jx (rσ.mono (g1.trans g2)) Hy h2 (xo.mono (g1.trans g2)) fun ps S3 vs H3 hl h3 Nr Kr g3=>
   k ((p,p2)::ps) S3 ((v,v2)::vs) H3 (by rw[Qa,Qa,hl]) h3 (.cons (rv.mono (g2.trans g3)) (OY.mono g3) Nr) Kr (g1.trans (g2.trans g3))⟩⟩
theorem kN{K:Vo}{H:Hp}:∀{vs:List (V×V)} {ps:List (PV×PV)} {l:List (aZ×PV)},kM K H vs ps->jw ps=some l->∃kvs:List (aZ×V),vs=kvs.map (fun kv=>(kV kv.1,kv.2))/\GR K H kvs l
 |_,_,_,.nil,h=>by cases h;exact⟨[],rfl,.nil⟩
 |_,_,l,.cons a b r,h=>by
  unfold jw at h
  split at h
  ·rename_i k l' ek el
   cases h
   obtain⟨kvs,e,q⟩:=kN r el
   refine⟨(k,_)::kvs,?_,.cons b q⟩
   rw[PL,<-e,dE a ek]
  ·cases h
def GR.merge{K:Vo}{H:Hp}{more:List (aZ×V)}{m3:List (aZ×PV)}(r:GR K H more m3):∀{kvs:List (aZ×V)} {k3:List (aZ×PV)},GR K H kvs k3->GR K H (dF kvs more) (c_ k3 m3):=by
 induction r with
 |nil=>intro kvs k3 q;exact q
 |cons a r ih=>intro kvs k3 q;exact ih (q.put a)
def d6(IM:List (aK×aK)):aK:=fun σ S Q E=>∀p,S p=none->d5 IM σ (GC S p (.dct [])) (fun ps S2=>S2 p=some (.dct [])/\match jw ps with|some kvs=>Q (.ref p) (GC S2 p (.dct (c_ [] kvs)))|none=>False) E
def oE{keys:List (Option Expr)}{values:List Expr}{IM:List (aK×aK)}(h:EB X pos keys values IM)(hall:keys.all (·.isSome)=true:=by rfl)(hl:keys.length=values.length:=by rfl)(h0:keys≠[]:=by exact List.cons_ne_nil _ _)(Nf:keys.length<=15:=by decide)
  (ht:IM.length<=15:=by exact Rw rfl):aO X (.Dict keys values pos) (d6 IM):=
 ⟨aE (w9 h.ok hall hl h0 Nf) fun σ H Q ⟨σ3,S,Q3,E3,rσ,rS,hq,xo,k⟩=>fun p hp=>by
  have g0:Grow X.K H (upd H p (.dK [])):=.new hp
  refine jx (rσ.mono g0) (rS.new hp (o:=.dct []) ⟨[],ar,.nil⟩) (hq p (rS.free hp)) (xo.mono g0) fun ps S' vs H' hl' q rv HE g=>?_
  obtain⟨e,q⟩:=q
  obtain⟨kv,hv,rk⟩:=HE _ _ e
  cases rk
  refine⟨hv,?_⟩
  split at q
  ·rename_i kvs ek
   obtain⟨l,el,rl⟩:=kN rv ek
   refine⟨l,el,?_,k _ _ _ _ q (.ref p) (HE.put hv trivial ⟨_,ar,(GR.merge rl .nil).mono (.mut hv trivial)⟩) (g0.trans (g.trans (.mut hv trivial)))⟩
   have z1:∀{vs:List (V×V)} {ps:List (PV×PV)},kM X.K H' vs ps->vs.length=ps.length:=by
    intro vs ps r
    induction r with
    |nil=>rfl
    |cons _ _ _ ih=>rw[Qa,Qa,ih]
   have z2:=Qu List.length el
   rw[PY,z1 rv,hl']at z2
   omega
  ·exact q.elim⟩
def m5(te:aK):aK:=fun σ S Q E=>te σ S (fun x S1=>match x with
 | .ref a=>(match S1 a with|some (.lst xs)=>∀p,S1 p=none->Q (.ref p) (GC S1 p (.lst xs.reverse))|_=>False)
 |_=>False) E
def A9{p1 p2 q1 q2:Pos}(hs:starEach [e] X.env=[(false,eval e X.env)])(hc:X.calm=true)(he:aO X e te)(Mf:Gl X "list")(hm1:X.mg "list" = none)(No:Gl X "reversed")(hm2:X.mg "reversed" = none):aO X (.Call (.Name "list" p1) [.Call (.Name "reversed" p2) [e] [] q2] [] q1) (m5 te):=
 ⟨aE (oj hc he.ok Mf hm1 No hm2 hs rfl) fun σ H Q ⟨σ3,S,Q3,E3,rσ,rS,h,xo,k⟩=>⟨σ3,S,_,E3,rσ,rS,h,xo,fun x S1 v H1 h1 rx GP g1=>by
  split at h1
  ·cases rx
   split at h1
   ·rename_i ea
    obtain⟨vs,hv,rs⟩:=GP _ _ ea
    exact⟨_,_,rfl,SqL.of hv,fun q hq=>k _ _ _ _ (h1 q (GP.free hq)) (.ref q) (GP.new hq ⟨_,ar,rs.reverse.mono (.new hq)⟩) (g1.trans (.new hq))⟩
   ·exact h1.elim
  ·exact h1.elim⟩⟩
end
def cD:R3:=fk fun i j=>.int (i - j)
def fH:R3:=ft (fun _ j=>j≠0) fun i j=>.int (i.fmod j)
def jy:R3:=ft mZ fun i j=>.int (i.fdiv j)
def rQ:R3:=ft wN fun i j=>.int (i ^ j.toNat)
def mF:R3:=fk fun i j=>.bl (decide (i < j))
def pS:R3:=fk fun i j=>.bl (decide (j < i))
def Ds:R3:=fk fun i j=>.bl (decide (j<=i))
section
variable {X:Cx}
def d9:fN X (binaryOp .Sub) cD:=AY
def d_:fN X (binaryOp .Mod) fH:=AZ
def oF:fN X (binaryOp .FloorDiv) jy:=xy
def zj:fN X (binaryOp .Pow) rQ:=A0
def iQ:fN X (compareOp .Lt) mF:=Di
def lH:fN X (compareOp .Gt) pS:=Dj
def Fp:fN X (compareOp .GtE) Ds:=Dk
end
def A_{A:Around}{k:Nat}(hr:Room k A):A.units+1 < cLine:=by have:=hr.un;omega
def m6{A:Around}{k:Nat}(hr:Room k A):A.units+150 < cLine:=by have:=hr.un;omega
def ef{A:Around}{k:Nat}(hr:Room k A):A.units+160 < cLine:=by have:=hr.un;omega
structure EC (K:Vo) (mg:Vr) (x:Str) (st:Stmt) (ps:Vs) (f:Addr) (fd:FuncData):Prop where
 F:Kp K x x st f fd
 b:Binds K fd ps []
 k:PySem.W.keepIn K (.ref f)=true
 m:mg x=some (.ref f)
def Lf.zero{P:Program}{w:World}{K:Vo}{mg:Vr}{base:Heap}{k:Nat}{f:Addr}{fd:FuncData}{ps:Vs}{sp:aG}(h:sp=fun _ _ _ _=>False):Lf P w K mg base k f fd ps sp:=by
 subst h
 exact⟨⟨fun vs H Q E q=>q.1,fun A outer s H args us vs Q E _ _ _ _ _ ⟨_,_,_,_,_,_,_,q,_⟩=>q.elim⟩⟩
def Fq{K:Vo}{H:Hp}{a:Addr}{ns:Vu}{sp:aG}(hO:w_ H)(hS:SqL K H a (ns.map V.int))(h:sp [.cl (ns.map PV.int)] (fun _=>none) (fun v _=>v = .bl true) fF):Cs K 1 sp [.ref a] H (fun v _=>v = .bl true) fun _ _ _=>False:=by
 have hr:∀l:List Int,Reps K H (l.map V.int) (l.map PV.int):=by
  intro l
  induction l with
  |nil=>exact .nil
  |cons x r ih=>exact .cons (.int x) ih
 refine⟨rfl,[.cl (ns.map PV.int)],fun _=>none,_,fF,.cons (.cl (vs:=ns.map V.int) ?_ (hr ns)) .nil,(fun b o e=>by simp at e),h,fun p S' v H' q rv rS g=>?_⟩
 ·rcases hS with(q|q)|q
  ·rcases hO a with z|⟨o,xs,z⟩
   ·rw[z]at q;cases q
   ·rw[z]at q;cases q
  ·exact .inl q
  ·exact .inr q
 ·subst q
  cases rv
  rfl
end L3
namespace L2
open PySem PySem.Spec PyProof.Rows
end L2
namespace HT
open PySem PySem.Spec PyProof.Rows
section
variable {prog:Program} {w:World} {A:Around} {E:Vq} {s:Shared}
theorem m7{α β:Type}{f g:α->Option β}:∀(l:List α),(∀x∈l,f x=g x)->l.filterMap f=l.filterMap g
 |[],_=>rfl
 |x::l,h=>by rw[RJ,RJ,h x (by simp),m7 l fun y hy=>h y (by simp[hy])]
def uu(xs:Vw):((List.range xs.size).filterMap fun(m:Nat)=>xs[((xs.size:Int) - 1+(m:Int) * (-1)).toNat]?)=xs.toList.reverse:=by
 have e:∀m∈List.range xs.size,xs[((xs.size:Int) - 1+(m:Int) * (-1)).toNat]?=some (xs.toList.reverse.getD m default):=by
  intro m hm
  have hm':=Ua.mp hm
  have:((xs.size:Int) - 1+(m:Int) * (-1)).toNat=xs.size - 1 - m:=by omega
  rw[this,List.getD_eq_getElem?_getD,List.getElem?_reverse (by simpa using hm'),TZ,Tf,Array.getElem?_eq_getElem (by omega)]
  rfl
 rw[m7 _ e,List.filterMap_eq_map']
 apply List.ext_getElem?
 intro i
 rw[Ql]
 by_cases hi:i < xs.size
 ·rw[T4 hi,Option.map_some,List.getD_eq_getElem?_getD,QB (by simpa using hi)]
  rfl
 ·rw[QT (by simpa using hi),QT (by simpa using hi)]
  rfl
end
end HT
namespace L2
open PySem PySem.Spec PyProof.Rows
end L2
namespace L3
open PySem L2
end L3
namespace L2
open PySem PySem.Spec PyProof.Rows
end L2
namespace L3
open PySem L2
section
variable {X:Cx} {a b c:Expr} {ta tb tc:aK} {pos:Pos}
def lI(r r':R3)(ta tb tc:aK):aK:=fun σ S Q E=>ta σ S (fun x S1=>tb σ S1 (fun y S2=>r x y S2 fun z S3=>match z with | .bl k=>if k=true then tc σ S3 (fun w S4=>r' y w S4 Q) E else Q (.bl false) S3|_=>False) E) E
def oG{r r':R3}{σ:L2.St}{H:Hp}{Q:VK}:LE X (lI r r' ta tb tc) σ H Q->sX (LR X r) (LR X r') (LE X ta) (LE X tb) (LE X tc) σ H Q:=fun⟨σ3,S,Q3,E3,rσ,rS,h,xo,k⟩=>
 ⟨σ3,S,_,E3,rσ,rS,h,xo,fun x S1 v H1 h1 rx GP g1=>⟨σ3,S1,_,E3,rσ.mono g1,GP,h1,xo.mono g1,fun y S2 u H2 h2 ry Hy g2=>⟨x,y,S2,_,rx.mono g2,ry,Hy,h2,fun z S3 w H3 h3 rz Kr g3=>by
  split at h3
  ·rename_i k'
   cases rz
   refine⟨k',rfl,?_⟩
   cases k' with
   |false=>rw[if_neg (by decide)]at h3 ⊢;exact k _ S3 _ H3 h3 (.bl false) Kr (g1.trans (g2.trans g3))
   |true=>
    rw[if_pos rfl]at h3 ⊢
    exact⟨σ3,S3,_,E3,rσ.mono (g1.trans (g2.trans g3)),Kr,h3,xo.mono (g1.trans (g2.trans g3)),fun w' S4 v4 H4 h4 r4 Mn g4=>⟨y,w',S4,Q3,ry.mono (g3.trans g4),r4,Mn,h4,k.mono (g1.trans (g2.trans (g3.trans g4)))⟩⟩
  ·exact h3.elim⟩⟩⟩
def xN{op op':CmpOp}{r r':R3}(ho:fN X (compareOp op) r)(ho':fN X (compareOp op') r')(ha:aO X a ta)(hb:aO X b tb)(hc:aO X c tc)(hm:lastMarks [op,op'] [b,c]=false:=by with_unfolding_all rfl):mW X (.Compare a [op,op'] [b,c] pos) (aL (lI r r' ta tb tc)):=
 ⟨jk (sY ho.ok ho'.ok ha.ok hb.ok hc.ok hm) fun σ H Q ⟨σ3,S,Q3,E3,rσ,rS,h,xo,k⟩=>oG ⟨σ3,S,_,E3,rσ,rS,h,xo,fun p S' v H' h1 rv HE g=>by
  cases p with
  |bl z=>cases rv;exact⟨z,rfl,k z S' H' h1 HE g⟩
  |_=>exact h1.elim⟩⟩
end
end L3
namespace L2
open PySem PySem.Spec PyProof.Rows PySem.AutoSeq1
end L2
namespace L3
open PySem L2
end L3
namespace C
open PySem L2 L3
def eg:bw:=(af (av 3 (bS (bJ (aU (v3 0) (gY (v3 1)) (gY (c3 (.int 63))))) (.n 0) fG (aj jq [(v3 0),(am cD (c3 (.int 0)) (v3 0))]) 1 []))
  (af (av 4 (am aH (c3 (.int 7919)) (v3 1)))
  (af (dy (bJ (v3 3)) (.n 2) (av 4 (am fH (am aH (am iO (v3 4) (c3 (.int 48271))) (am fH (v3 2) (c3 (.int 2147483629)))) (c3 (.int 2147483647)))))
  (aC (d6 [((c3 (.str "seed")),(v3 4)),((c3 (.str "number")),(c3 (.int 0))),((c3 (.str "left")),(m5 (bS (bJ (v3 3)) (.n 0) (aL (am Ds (v3 0) (am rQ (c3 (.int 10)) (c3 (.int 18))))) (v3 0) 1 [])))])))))
def eh:bw:=(af (lF (lw (aL (am (bE false) (am aD (v3 0) (c3 (.str "number"))) (c3 (.int 0)))) (aL (am pS (aj bn [(am aD (v3 0) (c3 (.str "left")))]) (c3 (.int 0))))) (lC (cz "list" oy (am aD (v3 0) (c3 (.str "left"))) []) (v3 0) (c3 (.str "number"))))
  (af (av 2 (am aD (v3 0) (c3 (.str "number"))))
  (af (bg (aL (am pS (v3 2) (c3 (.int 0)))) (af (lC (am jy (v3 2) (v3 1)) (v3 0) (c3 (.str "number")))
  (aC (am fH (v3 2) (v3 1)))) aQ)
  (af (av 3 (am fH (am aH (am iO (am aD (v3 0) (c3 (.str "seed"))) (c3 (.int 48271))) (c3 (.int 7919))) (c3 (.int 2147483647))))
  (af (lC (am fH (am aH (am iO (v3 3) (c3 (.int 40692))) (c3 (.int 104729))) (c3 (.int 2147483399))) (v3 0) (c3 (.str "seed")))
  (af (av 4 (am fH (am iO (am aD (v3 0) (c3 (.str "seed"))) (am aD (v3 0) (c3 (.str "seed")))) (c3 (.int 2147483563))))
  (aC (am fH (am aH (am iO (am fH (am iO (v3 3) (v3 3)) (c3 (.int 2147483629))) (c3 (.int 2147483563))) (v3 4)) (v3 1)))))))))
def fI:bw:=(af (rO 2 3 (aj jq [(v3 0),(am cD (c3 (.int 0)) (v3 0))]) (v3 1))
  (af (lF (aL (am pS (v3 3) (c3 (.int 0)))) (rO 2 3 (v3 3) (am fH (v3 2) (v3 3))))
  (aC (bR [(am jy (v3 0) (v3 2)),(am jy (v3 1) (v3 2))]))))
def jz:bw:=(af (lF (aL (am (bE true) (v3 1) (c3 (.int 0)))) (af (av 2 (am fH (v3 0) (v3 1)))
  (af (av 0 (v3 1))
  (av 1 (v3 2)))))
  (aC (aj rL [(v3 0)])))
end C
namespace Zu
open PySem Zt
open Sem (wp)
end Zu
namespace L2
open PySem PySem.Spec PyProof.Rows
end L2
namespace L3
open PySem L2
end L3
namespace L2
open PySem PySem.Spec PyProof.Rows
end L2
namespace L3
open PySem L2
end L3
namespace C
open PySem L2 L3
end C
namespace Zv
open PySem
open Sem (wp)
end Zv
namespace L2
open PySem PySem.Spec PyProof.Rows
end L2
namespace L3
open PySem L2
end L3
namespace L2
open PySem PySem.Spec PyProof.Rows
end L2
namespace L3
open PySem L2
section
variable {X:Cx} {a b:Expr} {ta tb:aK} {p pos:Pos}
def uv(ta tb:aK):uq:=fun σ S R E=>ta σ S (fun v S1=>tb σ S1 (fun w S2=>match v,w with
 | .tup xs,.tup ys=>R ⟨dL xs ys,fun _=>True⟩ S2
 | .ref a,.ref b=>(match S2 a,S2 b with|some (.lst xs),some (.lst ys)=>R ⟨dL xs ys,fun S'=>S' a=some (.lst xs)/\S' b=some (.lst ys)⟩ S2|_,_=>False)
 | .ref a,.tup ys=>(match S2 a with|some (.lst xs)=>R ⟨dL xs ys,fun S'=>S' a=some (.lst xs)⟩ S2|_=>False)
 | .tup xs,.ref b=>(match S2 b with|some (.lst ys)=>R ⟨dL xs ys,fun S'=>S' b=some (.lst ys)⟩ S2|_=>False)
 |_,_=>False) E) E
def Ba{elts:List Expr}{k0:Nat}{Kw:Pos}(hs:starEach [a,b] X.env=[(false,eval a X.env),(false,eval b X.env)])(hs2:starEach [b] X.env=[(false,eval b X.env)])(hg:Gl X "zip")(hm:X.mg "zip" = none)(hv:bootBuiltins "zip" = some (.type "zip"))(ha:iA X [a,b] [ta,tb]) :
  xI X (.Tuple elts k0 Kw) (.Call (.Name "zip" p) [a,b] [] pos) (uv ta tb):=
 ⟨lD (AF hg hm hv ha.ok hs hs2) fun σ H R ⟨σ3,S,R3,E3,rσ,rS,h,xo,k⟩=>⟨σ3,S,_,E3,rσ,rS,h,xo,fun v S1 v' H1 h1 rv GP g1=>⟨σ3,S1,_,E3,rσ.mono g1,GP,h1,xo.mono g1,fun w S2 w' H2 h2 rw' Hy g2=>by
  have L:∀{a:Addr} {xs:List PV},S2 a=some (.lst xs)->∃vs,rB true X.K H2 a vs:=fun e=>let ⟨_,h,_⟩:=Hy _ _ e;⟨_,SqL.of h⟩
  split at h2
  ·cases rv with
   |tup hq rs=>
    cases rw' with
    |tup hq2 Mp=>exact⟨false,false,_,_,rfl,⟨_,g2.t _ _ hq⟩,⟨_,hq2⟩,k _ S2 _ H2 h2 (iX (.tup (g2.t _ _ hq) (rs.mono g2)) (.tup hq2 Mp)) Hy (g1.trans g2)⟩
  ·cases rv
   cases rw'
   split at h2
   ·rename_i ea eb
    exact⟨true,true,_,_,rfl,L ea,L eb,k _ S2 _ H2 h2 (iX (.lst fun _ q=>q.1) (.lst fun _ q=>q.2)) Hy (g1.trans g2)⟩
   ·exact h2.elim
  ·cases rv
   cases rw' with
   |tup hq2 Mp=>
    split at h2
    ·rename_i ea
     exact⟨true,false,_,_,rfl,L ea,⟨_,hq2⟩,k _ S2 _ H2 h2 (iX (.lst fun _ q=>q) (.tup hq2 Mp)) Hy (g1.trans g2)⟩
    ·exact h2.elim
  ·cases rv with
   |tup hq rs=>
    cases rw'
    split at h2
    ·rename_i eb
     exact⟨false,true,_,_,rfl,⟨_,g2.t _ _ hq⟩,L eb,k _ S2 _ H2 h2 (iX (.tup (g2.t _ _ hq) (rs.mono g2)) (.lst fun _ q=>q)) Hy (g1.trans g2)⟩
    ·exact h2.elim
  ·exact h2.elim⟩⟩⟩
end
end L3
namespace C
open PySem L2 L3
end C
namespace L3
open PySem L2 Xc
def Fr(K:Vo)(H:Hp)(E3:b8)(E:XK):Prop:=∀(c:Str) (ks:Vs) (ps:List PV) (S':ap) (H':Hp) (C dx:Addr) (od:Obj) (vs:List V),E3 (.exc c ks ps) [] S'->G8 K c C->vs.length=ks.length->
 H' dx=some (.frz od (.ext (XD dx (ks.zip vs))))->Reps K H' vs ps->GH K H' S'->Grow K H H'->E (.ref C) (some dx) H'
noncomputable def Fs(K:Vo)(n:Nat)(sp:aG):Sp:=fun vs H Q E=>vs.length=n/\∃ps S Q3 E3,Reps K H vs ps/\GH K H S/\sp ps S Q3 E3/\J9 K H Q3 Q/\Fr K H E3 E
structure KB (P:Program) (w:World) (K:Vo) (mg:Vr) (base:Heap) (k:Nat) (f:Addr) (fd:FuncData) (ps:Vs) (sp:aG):Prop where
 ok:dY P w K mg base (wA P w) k f fd ps (Fs K ps.length sp)
def KB.zero{P:Program}{w:World}{K:Vo}{mg:Vr}{base:Heap}{k:Nat}{f:Addr}{fd:FuncData}{ps:Vs}{sp:aG}(h:sp=fun _ _ _ _=>False):KB P w K mg base k f fd ps sp:=by
 subst h
 exact⟨⟨fun vs H Q E q=>q.1,fun A outer s H args us vs Q E _ _ _ _ _ ⟨_,_,_,_,_,_,_,q,_⟩=>q.elim⟩⟩
def bo(sp:aG)(ts:List aK):aK:=fun σ S Q E=>au ts σ S (fun ps S1=>sp ps S1 Q (fun p _ S'=>E p σ S')) E
def ei(n:Nat)(t:bw):aG:=fun args S Q E=>t { nx:=fun _ S'=>Q .non S',rt:=Q,ex:=fun p _ S'=>E p [] S' } (aA n args) S
section
variable {X:Cx} {e o:Expr} {es:List Expr} {te to:aK} {ts:List aK} {x:Str} {p pos apos cpos:Pos} {k:Nat} {f:Addr} {fd:FuncData} {ps:Vs} {sp:aG}
def xO(F:KB X.prog X.w X.K X.mg X.base k f fd ps sp)(hr:Room k X.A)(hg:Gl X x)(hm:X.mg x=some (.ref f))(hk:PySem.W.keepIn X.K (.ref f)=true)(hb:Binds X.K fd ps [])(he:starEach (e::es) X.env=(false,eval e X.env)::starEach es X.env)(ha:iA X (e::es) ts)
    (hl:ts.length=ps.length:=by rfl) (hdb:(x == ("__debug__":Str))=false:=by decide) (hpl:(backTo pos (starEach es X.env)).any (·.1)=false:=by rfl):aO X (.Call (.Name x p) (e::es) [] pos) (bo sp ts):=
  ⟨aE (t6 F.ok hr hg hm hk hb ha.ok hdb he hpl) fun σ H Q ⟨σ3,S,Q3,E3,rσ,rS,h,xo,k⟩=>bB rσ rS h xo fun ps' S' vs H' hl' q rv HE g=>
    ⟨fun c d H2=>∃(cn:Str) (ks:Vs) (ps2:List PV) (S2:ap) (C dx:Addr) (od:Obj) (Jp:List V),c = .ref C/\d=some dx/\E3 (.exc cn ks ps2) σ3 S2/\G8 X.K cn C/\Jp.length=ks.length/\H2 dx=some (.frz od (.ext (XD dx (ks.zip Jp))))/\Reps X.K H2 Jp ps2/\GH X.K H2 S2/\Grow X.K H' H2,
     ⟨by rw[rv.length,hl',hl],ps',S',Q3,_,rv,HE,q,k.mono g,fun cn ks ps2 S2 H2 C dx od Jp h1 h2 h3 h4 h5 h6 h7=>⟨cn,ks,ps2,S2,C,dx,od,Jp,rfl,rfl,h1,h2,h3,h4,h5,h6,h7⟩⟩,
     fun pins c d H2 ⟨cn,ks,ps2,S2,C,dx,od,Jp,e1,e2,h1,h2,h3,h4,h5,h6,h7⟩ s' a C' OZ e3 e4 I xa=>by
      subst e1 e2;cases e3;cases e4
      exact xo cn ks ps2 σ3 S2 H2 pins σ s' a _ _ od Jp h1 h2 h3 h4 h5 h6 (rσ.mono (g.trans h7)) (g.trans h7) I xa⟩⟩
end
section
variable {P:Program} {w:World} {K:Vo} {mg:Vr} {base:Heap}
noncomputable abbrev oH(P:Program)(w:World)(K:Vo)(mg:Vr)(base:Heap)(N:Vs)(qual:Str)(st:Stmt)(f:Addr)(cdv:Value)(A:Around)(outer:List Env)(s:Shared)(H:Hp)(E:XK):Cx:=fj (wA P w) P w K mg base N qual (ax st) f cdv A outer s H E
def Ft{x qual:Str}{st:Stmt}{f:Addr}{fd:FuncData}{N ps:Vs}{k:Nat}{t:bw}(F:Kp K x qual st f fd)(S:bv N ps (ax st))
  (hbody:∀(cdv:Value) (A:Around) (outer:List Env) (s:Shared) (H:Hp) (E:XK),Room k (A.deeper (PyProof.Rows.envOfC qual (ax st) s.heap.objs.size f cdv))->dI (oH P w K mg base N qual st f cdv A outer s H E) (aT st) t) :
  KB P w K mg base (k+1) f fd ps (ei N.length t):=by
 obtain⟨oc,od,kV,doc,pm,an,cdv,ct,osl,rfl,lk,hcd⟩:=F.ex
 refine⟨y8 lk hcd S (fun vs H Q E h=>h.1) fun A outer s H vs Q E hr ⟨hl,ps',S',Q3,E3,rv,rS,q,kk,kx⟩=>⟨_,(hbody cdv A outer s H E hr).ok,aA N.length ps',S',_,g_ rv,rS,q,?_,fun σ3 S2 σ2 H2 h2 _ Hy g2=>kk _ S2 _ H2 h2 .non Hy g2,kk,fun _ _ _ _ h2=>h2.elim,fun _ _ _ _ h2=>h2.elim⟩⟩
 exact fun c ks ps2 σ3 S2 H2 pins σ s' a C dx od Jp h1 h2 h3 h4 h5 h6 h7 h8 I xa=>rG I xa (kx c ks ps2 S2 H2 C dx od Jp h1 h2 h3 h4 h5 h6 h8)
end
structure Bb (K:Vo) (mg:Vr) (x qual:Str) (st:Stmt) (ps ks:Vs) (C f:Addr) (fd:FuncData):Prop where
 F:Kp K "__init__" qual st f fd
 b:Binds K fd ps []
 cn:G8 K x C
 m:mg x=some (.ref C)
 ek:ExcK K C
 en:∀k∈ks,NoAttr K C k
 hi:PySem.W.findIn K (.ref C) "__init__" = some (some (.ref f))
 hf:PySem.W.isFn K (.ref f)=true
 kp:PySem.W.keepIn K (.ref C)=true
def bT(c:Str)(ks:Vs)(ts:List aK):bw:=fun D σ S=>au ts σ S (fun ps S1=>D.ex (.exc c ks ps) σ S1) D.ex
section
variable {X:Cx} {e:Expr} {es:List Expr} {ts:List aK} {x qual:Str} {st:Stmt} {p pos cpos:Pos} {f C:Addr} {fd:FuncData} {ps ks:Vs}
def xP(T:Bb X.K X.mg x qual st ps ks C f fd)(F:dY X.prog X.w X.K X.mg X.base nO 1 f fd ps (lv X.K C ks))(hps:ps.length=ks.length+1)(hr:Room 2 X.A)(Js:X.calm=true)(hg:Gl X x)(he:starEach (e::es) X.env=(false,eval e X.env)::starEach es X.env)(ha:iA X (e::es) ts)
  (hl:ts.length=ks.length:=by rfl) (hks:ks.length<=1000:=by exact Rw rfl) (hdb:(x == ("__debug__":Str))=false:=by decide) (hpl:(backTo cpos (starEach es X.env)).any (·.1)=false:=by rfl) :
  mE X (.Raise (some (.Call (.Name x p) (e::es) [] cpos)) none pos) (bT x ks ts):=
 ⟨cf (t7 F hps hks T.ek T.en T.hi T.hf T.kp hr Js hg T.m T.b ha.ok hdb he hpl) fun D σ H ⟨σ3,S,D3,rσ,rS,h,xo,n,r,bk,ct⟩=>bB rσ rS h xo fun ps' S' vs H' hl' q rv HE g=>
  ⟨by rw[rv.length,hl',hl],fun pins dx od hdx s' a C' OZ e3 e4 I xa=>by
   cases e3;cases e4
   exact xo x ks ps' σ3 S' _ pins σ s' a C dx od vs q T.cn (by rw[rv.length,hl',hl]) ar (rv.mono (.new hdx)) (HE.other hdx) (rσ.mono (g.trans (.new hdx))) (g.trans (.new hdx)) I xa⟩⟩
end
noncomputable abbrev uw(D:fZ)(i:Nat):fZ:={ nx:=fun σ S=>D.nx (σ.set i none) S,rt:=D.rt,ex:=fF,bk:=fun σ S=>D.bk (σ.set i none) S,ct:=fun σ S=>D.ct (σ.set i none) S }
def xQ(cs:Vs)(i:Nat)(tb th:bw):bw:=fun D σ S=>tb { D with ex:=fun p σ' S'=>match p with | .exc c _ _=>cs.contains c=true/\th (uw D i) (σ'.set i (some p)) S'|_=>False } σ S
def GK.unset{K:Vo}{H:Hp}{σ:L2.St}{σ3:bM}(r:GK K H σ σ3)(i:Nat):GK K H (σ.set i none) (σ3.set i none):=by
 refine⟨by rw[RV,RV,r.len],fun j x e=>?_⟩
 rw[SV]at e ⊢
 split at e
 ·split at e
  ·cases e
  ·cases e
 ·rename_i hij
  rw[if_neg hij]
  exact r.at' j x e
theorem K4.unset{K:Vo}{H:Hp}{N3:bM->ap->Prop}{N:L2.St->Hp->Prop}(n:K4 K H N3 N)(i:Nat):K4 K H (fun σ S=>N3 (σ.set i none) S) (fun σ H=>N (σ.set i none) H):=fun σ3 S' σ H' h1 h2 h3 h4=>n _ S' _ H' h1 (h2.unset i) h3 h4
noncomputable def JK(K:Vo)(Dc:Addr):List Str->Prop
 |[]=>True
 |c::r=>(∃C,G8 K c C/\PySem.W.mroIn K C (.ref Dc)=some true)/\JK K Dc r
def G8.inj{K:Vo}{c:Str}{C D:Addr}(h1:G8 K c C)(h2:G8 K c D):C=D:=by
 have e:=(show PySem.W.nsIn K mainGlobals c=some (some (.ref C))from h1).symm.trans h2
 injection e with e;injection e with e;injection e
theorem JK.at_{K:Vo}{Dc:Addr}:∀{cs:Vs} {c:Str} {C:Addr},JK K Dc cs->cs.contains c=true->G8 K c C->PySem.W.mroIn K C (.ref Dc)=some true
 |[],_,_,_,h,_=>by simp at h
 |d::r,c,C,⟨⟨D,h1,h2⟩,h3⟩,h,hc=>by
  rw[SD,Bool.or_eq_true]at h
  rcases h with h|h
  ·cases SA.mp h;rw[hc.inj h1];exact h2
  ·exact JK.at_ h3 h hc
section
variable {X:Cx} {body suite:List Stmt} {b₀:Stmt} {n x:Str} {i:Nat} {np hpos pos:Pos} {tb th:bw} {Dc:Addr} {cs:Vs}
def Dt(hst:X.stack=X.env::X.outer)(KA:X.env.frame=some X.env.locals)(hN:X.N.Nodup)(hi:X.N[i]?=some n)(hk:X.env.scope.names.lookup n=some .local)(hg:Gl X x)(hm:X.mg x=some (.ref Dc))(hD:AR X.K Dc)(hcs:JK X.K Dc cs)
  (hb:∀E pins,PassesOwn (model X.prog X.w) X.A X.env E->dI (X.tr E pins) body tb) (hs:∀a,dI (X.inH a) (b₀::suite) th) (hdb:(x == ("__debug__":Str))=false:=by decide) :
  mE X (.Try body [.ExceptHandler (some (.Name x np)) (some n) (b₀::suite) hpos] [] [] pos) (xQ cs i tb th):=
 ⟨cf (AT (tb:=fun E pins=>LS (X.tr E pins) tb) fun E pins hp=>(hb E pins hp).ok) fun D σ H ⟨σ3,S,D3,rσ,rS,h,xo,nx,rt,bk,ct⟩ pins=>
  ⟨σ3,S,_,rσ,rS,h,fun c ks ps O0 S' H' pins' σ' s' a C dx od vs h1 h2 h3 h4 h5 h6 h7 h8 I xa=>by
   have fa:H' a=none:=by obtain⟨_,_,_,_,_,f,_⟩:=xa;exact f.1
   have O_:dx≠a:=aM h4 fa
   refine AS hst KA hN hi hk hg hm hD (fun a=>(hs a).ok) I xa (hcs.at_ h1.1 h2) (fun oe o1 o2 o3=>?_) hdb
   have gr:Grow X.K H' (upd H' a (.frz oe (.ext fun _=>True))):=.new fa
   exact⟨O0.set i (some (.exc c ks ps)),S',uw D3 i,(h7.mono gr).set (.exc h2 ⟨oe,dx,od,ar,o1,o2,o3,by rw[aq O_];exact h4⟩ (h5.mono gr)) i,h6.other fa,h1.2,.no,
    (nx.mono (h8.trans gr)).unset i,rt.mono (h8.trans gr),(bk.mono (h8.trans gr)).unset i,(ct.mono (h8.trans gr)).unset i⟩,nx,rt,bk,ct⟩⟩
end
theorem m8{K:Vo}{H:Hp}{f:Str}{p:PV}:∀{ks:Vs} {vs:List V} {ps:List PV},Reps K H vs ps->(ks.zip ps).lookup f=some p->∃v,(ks.zip vs).lookup f=some v/\Rep K H v p
 |[],_,_,_,e=>by simp at e
 |_::_,_,_,.nil,e=>by simp at e
 |k::ks,_,_,.cons a r,e=>by
  rw[List.zip_cons_cons,Sg]at e ⊢
  split at e
  ·cases e;exact⟨_,rfl,a⟩
  ·exact m8 r e
noncomputable def IR(K:Vo):List (Str×Str)->Prop
 |[]=>True
 |(c,f)::r=>(∃C,G8 K c C/\ExcK K C/\NoAttr K C f)/\IR K r
theorem IR.at_{K:Vo}:∀{l:List (Str×Str)} {c f:Str} {C:Addr},IR K l->l.contains (c,f)=true->G8 K c C->ExcK K C/\NoAttr K C f
 |[],_,_,_,_,h,_=>by simp at h
 |(d,g)::r,c,f,C,⟨⟨D,h1,h2,h3⟩,h4⟩,h,hc=>by
  rw[SD,Bool.or_eq_true]at h
  rcases h with h|h
  ·cases SA.mp h;rw[hc.inj h1];exact⟨h2,h3⟩
  ·exact IR.at_ h4 h hc
def kO(l:List (Str×Str))(f:Str)(te:aK):aK:=fun σ S Q E=>te σ S (fun p S1=>match p with | .exc c ks ps=>l.contains (c,f)=true/\(match (ks.zip ps).lookup f with|some v=>Q v S1|none=>False)|_=>False) E
def gi{X:Cx}{pins:Va}{σ:L2.St}{H:Hp}{s:Shared}{a C:Addr}{ks:Vs}{vs:List V}(I:Inv X pins σ H s)(h:Ml H a C ks vs):∃(oe od:Obj) (mA:Vr),PySem.W.InstAt s.heap a oe C (some od)/\(∀name,PySem.W.lookIn name od=some (mA name))/\∀f,Ij ((ks.zip vs).lookup f) (mA f):=by
 obtain⟨oe,dx,od,h1,h2,h3,h4,h5⟩:=h
 have g1:=(show GM X.prog X.w H s.heap a (.frz oe (.ext fun _=>True))from I.hok a _ h1).1
 have g2:=(show GM X.prog X.w H s.heap dx (.frz od (.ext (XD dx (ks.zip vs))))from I.hok dx _ h5)
 obtain⟨g3,⟨mA,m1,m2,m3⟩,_⟩:=g2
 obtain⟨od',e1,hl⟩:=qV m1
 rw[g3]at e1;cases e1
 exact⟨oe,od,mA,⟨g1,h2,by obtain⟨p1,p2,p3,p4⟩:=oe;cases p3<;>first|rfl|exact absurd rfl (h4 _),by rw[h3];exact g3⟩,hl,m2⟩
section
variable {X:Cx} {e:Expr} {te:aK} {f:Str} {pos:Pos} {l:List (Str×Str)}
def ux(hl:IR X.K l)(he:aO X e te)(hb:attributeBase e f X.env (eval e X.env)=eval e X.env):aO X (.Attribute e f pos) (kO l f te):=
 ⟨fun pins s σ H Q I ⟨σ3,S,Q3,E3,rσ,rS,h,xo,k⟩=>by
  refine wR hb (GG (he.ok pins s σ H (fun v H1=>∃p S1,Rep X.K H1 v p/\GH X.K H1 S1/\Grow X.K H H1/\(match p with | .exc c ks ps=>l.contains (c,f)=true/\(match (ks.zip ps).lookup f with|some v=>Q3 v S1|none=>False)|_=>False)) I ⟨σ3,S,_,E3,rσ,rS,h,xo,fun p S1 v H1 h1 rv GP g1=>⟨p,S1,rv,GP,g1,h1⟩⟩) fun u s1 ⟨v,H1,I1,rv,p,S1,rp,GP,g1,q⟩=>?_)
  split at q
  ·rename_i c ks ps
   obtain⟨q1,q2⟩:=q
   split at q2
   ·rename_i p' hp'
    cases rp with
    |exc hn hx rs=>
     cases rv
     obtain⟨ek,na⟩:=hl.at_ q1 hn
     obtain⟨oe,od,mA,J,hlk,rel⟩:=gi I1 hx
     obtain⟨v',hv',Pa⟩:=m8 rs hp'
     obtain⟨u,hu,ru⟩:=Ij.some_of (v:=v') (o:=mA f) (by rw[<-hv'];exact rel f)
     exact xt I1.IK J ek (PySem.W.findObj_own ek.dict na rfl (by rw[hlk,hu])) (qW ru) ⟨v',H1,I1.tok _,ru,k _ S1 _ H1 q2 Pa GP g1⟩
   ·exact q2.elim
  ·exact q.elim⟩
def Du{x:Str}{C:Addr}(hg:Gl X x)(hm:X.mg x=some (.ref C))(hc:G8 X.K x C)(hd:(x == ("__debug__":Str))=false:=by decide):aO X (.Name x pos) (c3 (.cls x)):=
 ⟨aE (fR (v:=.ref C) hg hm rfl hd) fun σ H Q ⟨σ3,S,Q3,E3,rσ,rS,h,xo,k⟩=>k _ S _ H h (.cls hc) rS .refl⟩
end
noncomputable def XTab(K:Vo):List (Str×Str×Bool)->Prop
 |[]=>True
 |(c,d,b)::r=>(∃C D,G8 K c C/\G8 K d D/\ExcK K C/\PySem.W.kitOne K (.ref C) (.ref D)=some b/\PySem.W.kitOne K (.ref C) (.type "ValueError")=some true)/\XTab K r
noncomputable def jA(c d:Str):List (Str×Str×Bool)->Option Bool
 |[]=>none
 |(c',d',b)::r=>if c=c'/\d=d' then some b else jA c d r
theorem XTab.at_{K:Vo}:∀{l:List (Str×Str×Bool)} {c d:Str} {b:Bool} {C D:Addr},XTab K l->jA c d l=some b->G8 K c C->G8 K d D->ExcK K C/\PySem.W.kitOne K (.ref C) (.ref D)=some b
 |[],_,_,_,_,_,_,h,_,_=>by cases h
 |(c',d',b')::r,c,d,b,C,D,⟨⟨C',D',h1,h2,h3,h4,h5⟩,h6⟩,h,hc,hd=>by
  unfold jA at h
  split at h
  ·rename_i e
   obtain⟨rfl,rfl⟩:=e
   cases h
   rw[hc.inj h1,hd.inj h2]
   exact⟨h3,h4⟩
  ·exact XTab.at_ h6 h hc hd
theorem XTab.ve{K:Vo}:∀{l:List (Str×Str×Bool)} {c:Str} {C:Addr},XTab K l->l.any (fun t=>t.1 == c)=true->G8 K c C->ExcK K C/\PySem.W.kitOne K (.ref C) (.type "ValueError")=some true
 |[],_,_,_,h,_=>by simp at h
 |(c',d',b')::r,c,C,⟨⟨C',D',h1,h2,h3,h4,h5⟩,h6⟩,h,hc=>by
  rw[RX,Bool.or_eq_true]at h
  rcases h with h|h
  ·have e:c'=c:=SA.mp h
   subst e
   rw[hc.inj h1]
   exact⟨h3,h5⟩
  ·exact XTab.ve h6 h hc
noncomputable def rR(l:List (Str×Str×Bool))(c:Str):List PV->Option Bool
 |[]=>some false
 | .cls d::r=>(match jA c d l with|some true=>some true|some false=>rR l c r|none=>none)
 |_::_=>none
def jB(l:List (Str×Str×Bool)):kJ:=fun ps S Q=>match ps with
 |[.exc c _ _,.cls d]=>(match jA c d l with|some b=>Q (.bl b) S|none=>False)
 |[.exc c _ _,.ty n]=>n = "ValueError"/\l.any (fun t=>t.1 == c)=true/\Q (.bl true) S
 |[.exc c _ _,.tup ds]=>l.any (fun t=>t.1 == c)=true/\(match rR l c ds with|some b=>Q (.bl b) S|none=>False)
 |_=>False
theorem Jv{K:Vo}{H:Hp}{l:List (Str×Str×Bool)}{c:Str}{C:Addr}(T:XTab K l)(hc:G8 K c C):∀{ds:List PV} {b:Bool} {vs:List V} {its:Vv},rR l c ds=some b->Reps K H vs ds->Vals vs its->PySem.W.kitAny K (.ref C) its=some b
 |[],b,_,_,h,.nil,.nil=>h
 |p::ds,b,_,_,h,.cons a rs,r=>by
  cases p with
  |cls d=>
   cases a with
   |@cls D _ hd=>
    cases r with
    |@cons _ u _ us r1 r2=>
     cases (show u=Value.ref D from r1)
     show(match PySem.W.kitOne K (.ref C) (.ref D)with|some true=>some true|some false=>PySem.W.kitAny K (.ref C) us|none=>none)=_
     unfold rR at h
     split at h
     ·rename_i e;rw[(T.at_ e hc hd).2];exact h
     ·rename_i e;rw[(T.at_ e hc hd).2];exact Jv T hc h rs r2
     ·cases h
  |_=>cases h
def oI{X:Cx}{l:List (Str×Str×Bool)}(T:XTab X.K l):cw X (.builtin "isinstance") (jB l):=⟨fun pins s σ H xs us Q I r ⟨ps,S,Q3,rp,rS,q,k⟩=>by
 unfold jB at q
 split at q
 ·rename_i c ks as d
  split at q
  ·rename_i b hb
   cases rp with
   |cons a rr=>
    cases rr with
    |cons b' r3=>
     cases r3
     cases r with
     |cons r1 r2=>
      cases r2 with
      |cons r4 r5=>
       cases r5
       cases a with
       |exc hn hx rs=>
        cases b' with
        |cls hd=>
         cases r1;cases r4
         obtain⟨ek,e⟩:=T.at_ hb hn hd
         obtain⟨oe,od,mA,J,_,_⟩:=gi I hx
         exact Qi I.tk (PySem.W.kia_one (jj ek) I.IK J e (fun z=>nomatch z) fun tk ht=>⟨.bl _,H,I.tok _,rfl,k _ S _ H q (.bl _) rS .refl⟩)
  ·exact q.elim
 ·rename_i c ks as n
  obtain⟨rfl,q1,q2⟩:=q
  cases rp with
  |cons a rr=>
   cases rr with
   |cons b' r3=>
    cases r3
    cases r with
    |cons r1 r2=>
     cases r2 with
     |cons r4 r5=>
      cases r5
      cases a with
      |exc hn hx rs=>
       cases b'
       cases r1;cases r4
       obtain⟨ek,e⟩:=T.ve q1 hn
       obtain⟨oe,od,mA,J,_,_⟩:=gi I hx
       exact Qi I.tk (PySem.W.kia_one (jj ek) I.IK J e (fun z=>nomatch z) fun tk ht=>⟨.bl _,H,I.tok _,rfl,k _ S _ H q2 (.bl _) rS .refl⟩)
 ·rename_i c ks as ds
  obtain⟨q1,q⟩:=q
  split at q
  ·rename_i b hb
   cases rp with
   |cons a rr=>
    cases rr with
    |cons b' r3=>
     cases r3
     cases r with
     |cons r1 r2=>
      cases r2 with
      |cons r4 r5=>
       cases r5
       cases a with
       |exc hn hx rs=>
        cases b' with
        |tup h1 Mp=>
         cases r1;cases r4
         obtain⟨ek,_⟩:=T.ve q1 hn
         obtain⟨oe,od,mA,J,_,_⟩:=gi I hx
         obtain⟨its,rv,⟨⟨oc,odd,Np,osl⟩,ho,hc,n,hd⟩,_⟩:=I.tuple h1
         simp only at hc hd
         subst hc hd
         exact Qi I.tk (PySem.W.kia_tup (jj ek) I.IK J ho (Jv T hn hb Mp rv) (fun z=>nomatch z) fun tk ht=>⟨.bl _,H,I.tok _,rfl,k _ S _ H q (.bl _) rS .refl⟩)
  ·exact q.elim
 ·exact q.elim⟩
noncomputable def xR(s:Stmt):List Stmt:=match s with
 | .ClassDef _ _ _ body _ _ _ _ _ _ _=>body
 |_=>[]
section
variable {P:Program} {w:World} {K:Vo} {mg:Vr} {base:Heap} {N:Vs} {qual:Str} {st:Stmt} {f:Addr} {cdv:Value} {A:Around} {outer:List Env} {s:Shared} {H:Hp} {E:XK}
def F1:PassesOwn (model (oH P w K mg base N qual st f cdv A outer s H E).prog (oH P w K mg base N qual st f cdv A outer s H E).w) (oH P w K mg base N qual st f cdv A outer s H E).A (oH P w K mg base N qual st f cdv A outer s H E).env (oH P w K mg base N qual st f cdv A outer s H E).xe:=PassesOwn.leaving
end
end L3
namespace L3
open PySem L2
end L3
namespace CX
open PySem L2 L3
end CX
namespace L2
open PySem PySem.Spec PyProof.Rows Xc
end L2
namespace L3
open PySem L2 Xc
section
variable {P:Program} {w:World} {K:Vo} {mg:Vr} {base:Heap}
structure bh (K:Vo) (mg:Vr) (x:Str) (st:Stmt) (ps:Vs):Prop where
 ex:∃f fd,EC K mg x st ps f fd
structure HF (P:Program) (w:World) (K:Vo) (mg:Vr) (base:Heap) (k:Nat) (x:Str) (n:Nat) (sp:aG):Prop where
 ex:∃f fd ps,ps.length=n/\Lf P w K mg base k f fd ps sp/\mg x=some (.ref f)/\PySem.W.keepIn K (.ref f)=true/\Binds K fd ps []
structure JU (P:Program) (w:World) (K:Vo) (mg:Vr) (base:Heap) (k:Nat) (x:Str) (n:Nat) (sp:aG):Prop where
 ex:∃f fd ps,ps.length=n/\KB P w K mg base k f fd ps sp/\mg x=some (.ref f)/\PySem.W.keepIn K (.ref f)=true/\Binds K fd ps []
def jC{x:Str}{st:Stmt}{ps:Vs}{k n:Nat}{t:bw}{sp:aG}(N:Vs)(O:bh K mg x st ps)
  (hbody:∀(f:Addr) (cdv:Value) (A:Around) (outer:List Env) (s:Shared) (H:Hp) (E:XK),Room k (A.deeper (PyProof.Rows.envOfC x (ax st) s.heap.objs.size f cdv))->N.Nodup->dI (Fo P w K mg base N x st f cdv A outer s H E) (aT st) t) (e:sp=bO N.length t)
  (hn:ps.length=n:=by rfl) (S:bv N ps (ax st):=by exact⟨rfl,rfl,rfl,by decide +kernel,rfl,by decide +kernel,by decide +kernel⟩):HF P w K mg base (k+1) x n sp:=by
 subst e
 obtain⟨f,fd,o⟩:=O.ex
 exact⟨f,fd,ps,hn,FZ o.F S fun cdv A outer s H E hr=>hbody f cdv A outer s H E hr S.nd,o.m,o.k,o.b⟩
def Bc{x:Str}{st:Stmt}{ps:Vs}{k n:Nat}{t:bw}{sp:aG}(N:Vs)(O:bh K mg x st ps)
  (hbody:∀(f:Addr) (cdv:Value) (A:Around) (outer:List Env) (s:Shared) (H:Hp) (E:XK),Room k (A.deeper (PyProof.Rows.envOfC x (ax st) s.heap.objs.size f cdv))->N.Nodup->dI (oH P w K mg base N x st f cdv A outer s H E) (aT st) t) (e:sp=ei N.length t)
  (hn:ps.length=n:=by rfl) (S:bv N ps (ax st):=by exact⟨rfl,rfl,rfl,by decide +kernel,rfl,by decide +kernel,by decide +kernel⟩):JU P w K mg base (k+1) x n sp:=by
 subst e
 obtain⟨f,fd,o⟩:=O.ex
 exact⟨f,fd,ps,hn,Ft o.F S fun cdv A outer s H E hr=>hbody f cdv A outer s H E hr S.nd,o.m,o.k,o.b⟩
def Gn{x:Str}{st:Stmt}{ps:Vs}{k:Nat}{t:bw}{sp:aG}{f:Addr}{fd:FuncData}(N:Vs)(o:EC K mg x st ps f fd)
  (hbody:∀(f:Addr) (cdv:Value) (A:Around) (outer:List Env) (s:Shared) (H:Hp) (E:XK),Room k (A.deeper (PyProof.Rows.envOfC x (ax st) s.heap.objs.size f cdv))->N.Nodup->dI (Fo P w K mg base N x st f cdv A outer s H E) (aT st) t) (e:sp=bO N.length t)
  (S:bv N ps (ax st):=by exact⟨rfl,rfl,rfl,by decide +kernel,rfl,by decide +kernel,by decide +kernel⟩):Lf P w K mg base (k+1) f fd ps sp:=by
 subst e
 exact FZ o.F S fun cdv A outer s H E hr=>hbody f cdv A outer s H E hr S.nd
def xS:aG:=fun _ _ _ _=>False
theorem HF.zero{x:Str}{st:Stmt}{ps:Vs}{k n:Nat}(O:bh K mg x st ps)(hn:ps.length=n:=by rfl):HF P w K mg base k x n xS:=by
 obtain⟨f,fd,o⟩:=O.ex
 exact⟨f,fd,ps,hn,.zero rfl,o.m,o.k,o.b⟩
theorem JU.zero{x:Str}{st:Stmt}{ps:Vs}{k n:Nat}(O:bh K mg x st ps)(hn:ps.length=n:=by rfl):JU P w K mg base k x n xS:=by
 obtain⟨f,fd,o⟩:=O.ex
 exact⟨f,fd,ps,hn,.zero rfl,o.m,o.k,o.b⟩
theorem Be{b n:Nat}{x:Str}{st:Stmt}{ps:Vs}{r:Nat->aG}(O:bh K mg x st ps)(h:∀j,HF P w K mg base (b+j) x n (r j)->HF P w K mg base (b+j+1) x n (r (j+1)))(h0:r 0=xS)(hn:ps.length=n:=by rfl):∀j,HF P w K mg base (b+j) x n (r j)
 |0=>by rw[h0];exact .zero O hn
 |j+1=>h j (Be O h h0 hn j)
theorem Dv{b n:Nat}{x:Str}{st:Stmt}{ps:Vs}{r:Nat->aG}(O:bh K mg x st ps)(h:∀j,JU P w K mg base (b+j) x n (r j)->JU P w K mg base (b+j+1) x n (r (j+1)))(h0:r 0=xS)(hn:ps.length=n:=by rfl):∀j,JU P w K mg base (b+j) x n (r j)
 |0=>by rw[h0];exact .zero O hn
 |j+1=>h j (Dv O h h0 hn j)
end
section
variable {X:Cx} {a b e o:Expr} {es:List Expr} {ta tb te to:aK} {ts:List aK} {x c m f:Str} {p pos apos cpos:Pos} {j k n:Nat} {sp:aG}
def c4(O:HF X.prog X.w X.K X.mg X.base k x n sp)(hr:Room j X.A)(ha:iA X (e::es) ts)(hj:k<=j:=by omega)(hl:ts.length=n:=by rfl)(hg:Gl X x:=by rfl)(he:starEach (e::es) X.env=(false,eval e X.env)::starEach es X.env:=by rfl)(hdb:(x == ("__debug__":Str))=false:=by decide)(hpl:(backTo pos (starEach es X.env)).any (·.1)=false:=by rfl) :
  aO X (.Call (.Name x p) (e::es) [] pos) (al sp ts):=by
 obtain⟨f,fd,ps,hn,F,h1,h2,h3⟩:=O.ex
 exact A8 F (hr.mono hj) hg h1 h2 h3 he ha (hl.trans hn.symm) hdb hpl
def ED(O:HF X.prog X.w X.K X.mg X.base k x 0 sp)(hr:Room j X.A)(hj:k<=j:=by omega)(hg:Gl X x:=by rfl)(hdb:(x == ("__debug__":Str))=false:=by decide):aO X (.Call (.Name x p) [] [] pos) (al sp []):=by
 obtain⟨f,fd,ps,hn,F,h1,h2,h3⟩:=O.ex
 obtain rfl:=QF.mp hn
 exact xM F (hr.mono hj) hg h1 h2 h3 hdb
def cX(O:JU X.prog X.w X.K X.mg X.base k x n sp)(hr:Room j X.A)(ha:iA X (e::es) ts)(hj:k<=j:=by omega)(hl:ts.length=n:=by rfl)(hg:Gl X x:=by rfl)(he:starEach (e::es) X.env=(false,eval e X.env)::starEach es X.env:=by rfl)(hdb:(x == ("__debug__":Str))=false:=by decide)(hpl:(backTo pos (starEach es X.env)).any (·.1)=false:=by rfl) :
  aO X (.Call (.Name x p) (e::es) [] pos) (bo sp ts):=by
 obtain⟨f,fd,ps,hn,F,h1,h2,h3⟩:=O.ex
 exact xO F (hr.mono hj) hg h1 h2 h3 he ha (hl.trans hn.symm) hdb hpl
def cB{id:String}{r:kJ}(hc:cw X (.builtin id) r)(hm:X.mg x=none)(ha:iA X (e::es) ts)(hg:Gl X x:=by rfl)(hv:bootBuiltins x=some (.builtin id):=by decide +kernel)(he:starEach (e::es) X.env=(false,eval e X.env)::starEach es X.env:=by rfl)
  (hnn:x ≠ "__name__":=by decide) (hdb:(x == ("__debug__":Str))=false:=by decide) (hpl:(backTo pos (starEach es X.env)).any (·.1)=false:=by rfl):aO X (.Call (.Name x p) (e::es) [] pos) (aj r ts):=xD hc hg hm hv he ha hnn hdb hpl
def cT{id:String}{r:kJ}(hc:cw X (.type id) r)(hm:X.mg x=none)(ha:iA X (e::es) ts)(hg:Gl X x:=by rfl)(hv:bootBuiltins x=some (.type id):=by decide +kernel)(he:starEach (e::es) X.env=(false,eval e X.env)::starEach es X.env:=by rfl)
  (hnn:x ≠ "__name__":=by decide) (hdb:(x == ("__debug__":Str))=false:=by decide) (hpl:(backTo pos (starEach es X.env)).any (·.1)=false:=by rfl):aO X (.Call (.Name x p) (e::es) [] pos) (aj r ts):=xE hc hg hm hv he ha hnn hdb hpl
def lc{r:List Expr}(ha:aO X a ta)(hr:iA X r ts)(hs:starEach (a::r) X.env=(false,eval a X.env)::starEach r X.env:=by rfl):iA X (a::r) (ta::ts):=ua hs ha hr
def l1(ha:aO X a ta)(hs:starEach [a] X.env=(false,eval a X.env)::starEach [] X.env:=by rfl):iA X [a] [ta]:=ua hs ha mX
def jD{i:Int}{q:Nat}{p2:Pos}(hr:Room j X.A)(ha:aO X a ta)(hs:eZ (.Constant (.int i) q p2):=by exact fun _ _=>rfl):aO X (.Subscript a (.Constant (.int i) q p2) pos) (am aD ta (c3 (.int i))):=A2 (Fj (A_ hr)) ha ae hs
def iR(hr:Room j X.A)(ha:aO X a ta)(hb:aO X b tb)(hs:eZ b:=by exact fun _ _=>rfl):aO X (.Subscript a b pos) (am aD ta tb):=A2 (Fj (A_ hr)) ha hb hs
def gL(hr:Room j X.A)(ha:aO X a ta)(hb:aO X b tb):mW X (.Compare a [.Eq] [b] pos) (aL (am (bE false) ta tb)):=aW (zc (m6 hr)) ha hb (aN _)
def sH(hr:Room j X.A)(ha:aO X a ta)(hb:aO X b tb):mW X (.Compare a [.NotEq] [b] pos) (aL (am (bE true) ta tb)):=aW (zd (m6 hr)) ha hb (aN _)
def s4(i:Nat){pos':Pos}(nd:X.N.Nodup)(he:aO X e te)(hi:X.N[i]?=some x:=by rfl)(hx:yV X.env.scope x:=by first|exact Or.inl rfl|exact Or.inr rfl)(hs:swapsWith e (some (.Name x pos')) pos.line X.env=pure false:=by rfl)
  (hf:X.fn x=true\/X.env.scope.names.lookup x=some .local:=by first|exact .inl rfl|exact .inr rfl|assumption):mE X (.Assign [.Name x pos'] e pos) (av i te):=Dq nd hi hx he hs hf
def gn(i:Nat)(nd:X.N.Nodup)(hi:X.N[i]?=some x:=by rfl)(hx:yV X.env.scope x:=by first|exact Or.inl rfl|exact Or.inr rfl)(hf:X.fn x=true\/X.env.scope.names.lookup x=some .local:=by first|exact .inl rfl|exact .inr rfl|assumption):xG X (.Name x pos) (.n i):=Gk i nd hi hx hf
def F2{z:Str}(h:∃t,X.mg x=some (.str z t))(hg:Gl X x:=by rfl)(hd:(x == ("__debug__":Str))=false:=by decide):aO X (.Name x pos) (c3 (.str z)):=let ⟨_,h1⟩:=h;AV hg h1 hd
end
structure zk (T:String) (name:Str) (id:String):Prop where
 pa:PlainAttrs T
 slot:Slot T name id
 ty:typeOf (.builtin id)=pure (.type "method_descriptor")
section
variable {X:Cx} {e o:Expr} {es:List Expr} {to:aK} {ts:List aK} {name:Str} {T id:String} {p pos apos cpos:Pos} {r:rN}
def bf:zk "list" "append" "list.append":=⟨PySem.F.plainAttrs_list,PySem.F.slot_list_append,PySem.F.type_list_append⟩
def uy:zk "list" "pop" "list.pop":=⟨PySem.F.plainAttrs_list,PySem.F.slot_list_pop,PySem.F.type_list_pop⟩
def lJ:zk "str" "join" "str.join":=⟨RU,PySem.F.slot_str_join,PySem.F.type_str_join⟩
def kP(k:zk T name id)(hm:uk X id r)(ho:aO X o to)(ha:iA X (e::es) ts)(hs:starEach (e::es) X.env=(false,eval e X.env)::starEach es X.env:=by rfl)
  (hbase:attributeBase o name X.env (eval o X.env)=eval o X.env:=by rfl)
  (hfew:((backTo cpos (starEach (e::es) X.env)).all (fun x=>!x.1)&&(backToKw cpos (keywordEach [] X.env)).all (fun x=>x.1.isSome)
   && decide ((e::es).length+([]:List Keyword).length+(if ([]:List Keyword).isEmpty then 0 else 1) < 30))=true:=by rfl)
  (hline:(apos.endLine == cpos.line)=true:=by rfl) (hplain:(backTo cpos (starEach es X.env)).any (·.1)=false:=by rfl):aO X (.Call (.Attribute o name apos) (e::es) [] cpos) (cz T r to ts):=Fk k.pa k.slot k.ty hm hs ho ha hbase hfew hline hplain
def Bf(k:zk T name id)(hm:uk X id r)(ho:aO X o to)
  (hbase:attributeBase o name X.env (eval o X.env)=eval o X.env:=by rfl) (hline:(apos.endLine == cpos.line)=true:=by rfl):aO X (.Call (.Attribute o name apos) [] [] cpos) (cz T r to []):=Dp k.pa k.slot k.ty hm ho hbase hline
end
section
variable {X:Cx} {tg iter elt:Expr} {ifs:List Expr} {scope:Scope} {pos:Pos} {ti:uq} {g:Tg} {tc:iz} {te:aK}
def Ct(fs:Vs)(own:Nat)(fr:List Nat)(N:Vs)(hi:xI X tg iter ti)(hg:∀B,xG (X.Ih N scope fs B) tg g)(hf:∀B,Cr (X.Ih N scope fs B) ifs tc)(he:∀B,aO (X.Ih N scope fs B) elt te)
  (Kz:g.under own=true:=by rfl) (hc:X.calm=true:=by rfl) (hclos:closureFor scope X.env=pure (bX X.env fs):=by rfl) (hcell:∀y∈scope.names,y.2 ≠ .cell:=by decide +kernel) (hkind:scope.kind = .function:=by rfl)
  (hnames:∀x∈scope.names,x.2 = .local->scope.names.lookup x.1=some .local:=by decide +kernel) (hcl:bP X.env fs:=by repeat' first|exact trivial|exact⟨_,rfl⟩|constructor) (hhas:hasB (relabel scope X.env).names (bX X.env fs)=true:=by rfl)
  (hlen:N.length=own+fr.length:=by rfl) (hN:(N.drop own).map some=fr.map (fun j=>X.N[j]?):=by rfl) (hF:G7 X.env scope (bX X.env fs) (N.drop own):=by repeat' first|exact trivial|exact .inl rfl|exact .inr rfl|exact rfl|apply And.intro)
  (hs:∀x,foldedSetIterable iter X.env x=pure x:=by intro _;rfl):aO X (.ListComp elt [⟨tg,iter,ifs,0⟩] scope pos) (bS ti g tc te own fr):=A6 fs own fr N Kz hc hclos hcell hkind hnames hcl hhas hlen hN hF hi hg hf he hs
def Fu(fs:Vs)(own:Nat)(fr:List Nat)(N:Vs)(i:Nat){y:Str}{py spos:Pos}(hX:X.N.Nodup)(hi:xI X tg iter ti)(hg:∀B,xG (X.Ih N scope fs B) tg g)(hf:∀B,Cr (X.Ih N scope fs B) ifs tc)(he:∀B,aO (X.Ih N scope fs B) elt te)
  (hix:X.N[i]?=some y:=by rfl) (hy:X.env.scope.names.lookup y=some .local:=by rfl) (hsw:swapsWith (.ListComp elt [⟨tg,iter,ifs,0⟩] scope pos) (some (.Name y py)) spos.line X.env=pure true:=by rfl)
  (Kz:g.under own=true:=by rfl) (hc:X.calm=true:=by rfl) (hclos:closureFor scope X.env=pure (bX X.env fs):=by rfl) (hcell:∀y∈scope.names,y.2 ≠ .cell:=by decide +kernel) (hkind:scope.kind = .function:=by rfl)
  (hnames:∀x∈scope.names,x.2 = .local->scope.names.lookup x.1=some .local:=by decide +kernel) (hcl:bP X.env fs:=by repeat' first|exact trivial|exact⟨_,rfl⟩|constructor) (hhas:hasB (relabel scope X.env).names (bX X.env fs)=true:=by rfl)
  (hlen:N.length=own+fr.length:=by rfl) (hN:(N.drop own).map some=fr.map (fun j=>X.N[j]?):=by rfl) (hF:G7 X.env scope (bX X.env fs) (N.drop own):=by repeat' first|exact trivial|exact .inl rfl|exact .inr rfl|exact rfl|apply And.intro)
  (hs:∀x,foldedSetIterable iter X.env x=pure x:=by intro _;rfl):mE X (.Assign [.Name y py] (.ListComp elt [⟨tg,iter,ifs,0⟩] scope pos) spos) (av i (bS ti g tc te own fr)):=A7 fs own fr N hX hix hy hsw Kz hc hclos hcell hkind hnames hcl hhas hlen hN hF hi hg hf he hs
end
structure Fv (P:Program) (w:World) (K:Vo) (mg:Vr) (base:Heap) (x:Str) (ks:Vs):Prop where
 ex:∃qual st ps C f fd,Bb K mg x qual st ps ks C f fd/\dY P w K mg base nO 1 f fd ps (lv K C ks)/\ps.length=ks.length+1
structure Fw (K:Vo) (mg:Vr) (x q:Str) (st:Stmt) (ps ks:Vs):Prop where
 ex:∃C f fd,Bb K mg x q st ps ks C f fd
structure Fx (K:Vo) (mg:Vr) (x:Str) (cs:Vs):Prop where
 ex:∃D,mg x=some (.ref D)/\AR K D/\JK K D cs
structure wB (K:Vo) (mg:Vr) (x:Str):Prop where
 ex:∃C,mg x=some (.ref C)/\G8 K x C
section
variable {P:Program} {w:World} {K:Vo} {mg:Vr} {base:Heap}
def Go{x q k1:Str}{st:Stmt}{ps:Vs}(N:Vs)(h:Fw K mg x q st ps [k1])(hp:ps.length=2)
  (hb:∀(f:Addr) (cdv:Value) (A:Around) (outer:List Env) (s:Shared) (H:Hp) (E:XK),IZ (fj nO P w K mg base N q (ax st) f cdv A outer s H E).Ls (aT st) (AN K (qP 0) (qP 1) k1))
  (S:bv N ps (ax st):=by exact⟨rfl,rfl,rfl,by decide +kernel,rfl,by decide +kernel,by decide +kernel⟩):Fv P w K mg base x [k1]:=by
 obtain⟨C,f,fd,T⟩:=h.ex
 exact⟨q,st,ps,C,f,fd,T,De T.F S hp (hb f),hp⟩
end
section
variable {X:Cx} {e:Expr} {es:List Expr} {ts:List aK} {x:Str} {p pos cpos:Pos} {ks:Vs} {j:Nat}
def xT(T:Fv X.prog X.w X.K X.mg X.base x ks)(hr:Room j X.A)(ha:iA X (e::es) ts)(hj:2<=j:=by omega)(Js:X.calm=true:=by rfl)(hg:Gl X x:=by rfl)(he:starEach (e::es) X.env=(false,eval e X.env)::starEach es X.env:=by rfl)
  (hl:ts.length=ks.length:=by rfl) (hks:ks.length<=1000:=by exact Rw rfl) (hdb:(x == ("__debug__":Str))=false:=by decide) (hpl:(backTo cpos (starEach es X.env)).any (·.1)=false:=by rfl) :
  mE X (.Raise (some (.Call (.Name x p) (e::es) [] cpos)) none pos) (bT x ks ts):=by
 obtain⟨qual,st,ps,C,f,fd,T,F,hp⟩:=T.ex
 exact xP T F hp (hr.mono hj) Js hg he ha hl hks hdb hpl
def Bg(h:wB X.K X.mg x)(hg:Gl X x:=by rfl)(hd:(x == ("__debug__":Str))=false:=by decide):aO X (.Name x pos) (c3 (.cls x)):=let ⟨_,h1,h2⟩:=h.ex;Du hg h1 h2 hd
def zm{n:String}(hm:X.mg x=none)(hg:Gl X x:=by rfl)(hv:bootBuiltins x=some (.type n):=by decide +kernel)(hn:x ≠ "__name__":=by decide)(hd:(x == ("__debug__":Str))=false:=by decide):aO X (.Name x pos) (c3 (.ty n)):=Fi hg hm hv hn hd
end
section
variable {X:Cx} {body suite:List Stmt} {b₀:Stmt} {n x:Str} {np hpos pos:Pos} {tb th:bw} {cs:Vs}
def Gp(i:Nat)(T:Fx X.K X.mg x cs)(hN:X.N.Nodup)(hb:∀E pins,PassesOwn (model X.prog X.w) X.A X.env E->dI (X.tr E pins) body tb)(hs:∀a,dI (X.inH a) (b₀::suite) th)
  (hst:X.stack=X.env::X.outer:=by rfl) (KA:X.env.frame=some X.env.locals:=by rfl) (hi:X.N[i]?=some n:=by rfl) (hk:X.env.scope.names.lookup n=some .local:=by rfl) (hg:Gl X x:=by rfl) (hdb:(x == ("__debug__":Str))=false:=by decide) :
  mE X (.Try body [.ExceptHandler (some (.Name x np)) (some n) (b₀::suite) hpos] [] [] pos) (xQ cs i tb th):=by
 obtain⟨D,h1,h2,h3⟩:=T.ex
 exact Dt hst KA hN hi hk hg h1 h2 h3 hb hs hdb
end
end L3
namespace L2
open PySem PySem.Spec PyProof.Rows
section
variable {X:Cx}
noncomputable def Bh:V->List V->Hp->VK->Prop:=fun x vs H Q=>∃z i,x = .str z/\vs=[.int i]/\PadOk i=true/\Q (.str (Txt.zfill z i)) H
def uz:As X "str.zfill" Bh:=by
 intro pins s σ H x vs v us Q I rx rv h
 obtain⟨z,i,rfl,rfl,hp,q⟩:=h
 obtain⟨t,rfl⟩:=rx
 obtain⟨w,rfl,u,rfl⟩:=dm rv
 exact Qi I.tk (call_gives F.slot_str_zfill (Sx _ _ _) F.entry_str_zfill (F.args_str_zfill_2 _ _) (gives_str_zfill z i t u (PadOk.parts hp).1 (PadOk.parts hp).2) (post_val_or_made (fits_zfilled (PadOk.parts hp).2) fun t' k ht=>⟨.str _,H,I.tok _,⟨_,rfl⟩,q⟩))
theorem Bi:∀(l:List (Str×Tok)),Vals ((l.map (·.1)).map V.str) (strValues l)
 |[]=>.nil
 |(x,t)::r=>.cons ⟨t,rfl⟩ (Bi r)
def uA{prog:Program}{w:World}{A:Around}{E:Vq}{s:Shared}{x y:Str}{t u:Tok}{Q:Vq}(hy:(y.length == 0)=false)(hsz:x.length<=sizeLine)(hsz2:(Txt.split x y).length<=sizeLine)
  (hq:∀(l:List (Str×Tok)) tk,l.map (·.1)=Txt.split x y->Q (.ref s.heap.objs.size) { s with heap:=s.heap.push { cls:=.type "list",data:=.seq (strValues l).toArray },toks:=tk }) :
  wpAny (model prog w) A (call (.builtin "str.split") [.str x t,.str y u]) Q E s:=by
 cases h1:(decide (x.length < y.length) || decide (Builtin.Str.strKind x < Builtin.Str.strKind y))
 ·cases hf:(Builtin.Str.occurrences x y 0 x.length (x.length+1)).isEmpty
  ·have es:Txt.split x y=Builtin.Str.partsBetween x (Builtin.Str.occurrences x y 0 x.length (x.length+1)) y.length:=(if_neg (Sk h1)).trans (if_neg (Sk hf))
   refine R7 Tp (Sx _ _ _) SX (F.args_str_split_2 _ _) (meets_str_split_sep x y t u h1 hy hf hsz (by rw[<-es];exact hsz2)) ?_
   show wants Q E _ { s with toks:=_,heap:=s.heap.push { cls:=.type "list",data:=.seq (strsFrom s.toks (Builtin.Str.partsBetween x (Builtin.Str.occurrences x y 0 x.length (x.length+1)) y.length)).toArray } }
   rw[strsFrom_eq]
   exact hq _ _ ((numbered_texts _ _).trans es.symm)
  ·exact R7 Tp (Sx _ _ _) SX (F.args_str_split_2 _ _) (meets_str_split_not_found x y t u h1 hy hf)
    (hq [(x,t)] s.toks ((if_neg (Sk h1)).trans (if_pos hf)).symm)
 ·exact R7 Tp (Sx _ _ _) SX (F.args_str_split_2 _ _) (meets_str_split_cannot_occur x y t u h1)
   (hq [(x,t)] s.toks (if_pos h1).symm)
noncomputable def Bj:V->List V->Hp->VK->Prop:=fun x vs H Q=>∃z y,x = .str z/\vs=[.str y]/\(y.length == 0)=false/\z.length<=sizeLine/\(Txt.split z y).length<=sizeLine/\∀q,H q=none->Q (.ref q) (upd H q (.lst ((Txt.split z y).map V.str)))
def uB:As X "str.split" Bj:=by
 intro pins s σ H x vs v us Q I rx rv h
 obtain⟨z,y,rfl,rfl,hy,h1,h2,q⟩:=h
 obtain⟨t,rfl⟩:=rx
 obtain⟨w,rfl,u,rfl⟩:=dm rv
 refine Qi I.tk (uA hy h1 h2 fun l tk e ht=>?_)
 rw[<-e]at q h2
 refine⟨.ref _,_,I.laid (a:=s.heap.objs.size) (o:=.lst ((l.map (·.1)).map V.str)) (t':=tk) (fun b o e=>PK _ e) (PN _) ?_,rfl,q _ (I.hok.fresh (PN _))⟩
 exact⟨by rw[PY];exact h2,strValues l,0,Bi l,P9 _ rfl⟩
def rT:dl X (.type "int") (fun xs H Q=>∃z n,xs=[.str z]/\z.length<=640/\PySem.intText? z=some n/\Q (.int n) H):=by
 intro pins s σ H xs us Q I r h
 obtain⟨z,n,rfl,hl,hn,q⟩:=h
 obtain⟨u,rfl,t,rfl⟩:=dm r
 exact PySem.W.KIN.call_text hn hl ⟨.int n,H,I.tok _,⟨_,rfl⟩,q⟩
end
end L2
namespace L3
open PySem PySem.Spec PyProof.Rows L2
section
variable {X:Cx}
def lK:rN:=fun x ps S Q=>match x,ps with
 | .str z,[.int i]=>PadOk i=true/\Q (.str (Txt.zfill z i)) S
 |_,_=>False
def xU:uk X "str.zfill" lK:=⟨fun pins s σ H x xs v us Q I rx rs ⟨px,ps,S,Q3,r1,rp,rS,q,k⟩=>by
 unfold lK at q
 split at q
 ·cases r1
  cases rp with
  |cons b rr=>cases rr;cases b;exact uz pins s σ H _ _ v us Q I rx rs ⟨_,_,rfl,rfl,q.1,k _ S _ H q.2 (.str _) rS .refl⟩
 ·exact q.elim⟩
theorem dz{K:Vo}{H:Hp}:∀l:List Str,Reps K H (l.map V.str) (l.map PV.str)
 |[]=>.nil
 |_::r=>.cons (.str _) (dz r)
def de:rN:=fun x ps S Q=>match x,ps with
 | .str z,[.str y]=>(y.length == 0)=false/\z.length<=sizeLine/\(Txt.split z y).length<=sizeLine/\∀p,S p=none->Q (.ref p) (GC S p (.lst ((Txt.split z y).map PV.str)))
 |_,_=>False
def iY:uk X "str.split" de:=⟨fun pins s σ H x xs v us Q I rx rs ⟨px,ps,S,Q3,r1,rp,rS,q,k⟩=>by
 unfold de at q
 split at q
 ·cases r1
  cases rp with
  |cons b rr=>cases rr;cases b;exact uB pins s σ H _ _ v us Q I rx rs ⟨_,_,rfl,rfl,q.1,q.2.1,q.2.2.1,fun p hp=>k _ _ _ _ (q.2.2.2 p (rS.free hp)) (.ref p) (rS.new hp ⟨_,ar,dz _⟩) (.new hp)⟩
 ·exact q.elim⟩
def bN:kJ:=fun ps S Q=>match ps with
 |[.str z]=>z.length<=640/\(match PySem.intText? z with|some n=>Q (.int n) S|none=>False)
 |ps=>fv ps S Q
def gj:cw X (.type "int") bN:=⟨fun pins s σ H xs us Q I r ⟨ps,S,Q3,rp,rS,q,k⟩=>by
 unfold bN at q
 split at q
 ·cases rp with
  |cons a rr=>
   cases rr;cases a
   obtain⟨q1,q2⟩:=q
   split at q2
   ·rename_i n e
    exact rT pins s σ H _ us Q I r ⟨_,_,rfl,q1,e,k _ S _ H q2 (.int _) rS .refl⟩
   ·exact q2.elim
 ·exact Mm.ok pins s σ H xs us Q I r ⟨_,S,Q3,rp,rS,q,k⟩⟩
def uC:zk "str" "zfill" "str.zfill":=⟨RU,PySem.F.slot_str_zfill,PySem.F.type_str_zfill⟩
def eu:zk "str" "split" "str.split":=⟨RU,PySem.F.slot_str_split,PySem.F.type_str_split⟩
end
end L3
namespace L2
open PySem PySem.Spec PyProof.Rows
end L2
namespace L3
open PySem PySem.Spec PyProof.Rows L2
end L3
namespace PySem
open PyProof.Rows Builtin Builtin.Str
end PySem
namespace L2
open PySem PySem.Spec PyProof.Rows
end L2
namespace L3
open PySem PySem.Spec PyProof.Rows L2
end L3
namespace L2
open PySem PySem.Spec PyProof.Rows
noncomputable def EE(lo c:Int)(n:Nat):It:=⟨fun i _=>i < n,fun i H x H'=>H'=H/\x = .int (lo+i * c),fun i _=>n<=i⟩
def rV{P:Program}{w:World}{K:Vo}{tg:Expr}(it:Addr)(lo c:Int)(n:Nat):mL P w K tg (EE lo c n) [it] it (fun i h=>IsRangeIter h it (lo+(i:Nat) * c) ((n:Int) - (i:Nat)) c) where
 mem:=by simp
 obj:=fun i h st b hb=>by
  have e:b=it:=by simpa using hb
  subst e
  exact⟨_,st,fun v z=>by
   have z':Data.fields _=Data.cell v:=z
   cases z'⟩
 keep:=fun i h h' st k=>k it (by simp) _ st
 item:=by
  intro X hP hw hK hc i pins s σ H E I hf st hg
  subst hP hw hK
  obtain⟨f0,f1,f2,f3,f4,f5⟩:=hf it (by simp)
  have W:=Walks.range (prog:=X.prog) (w:=X.w) (I.ok.hd hc) it lo c n
  refine Qi I.tk (W.item i s _ _ hg st fun v h' tk hv st' kk ht=>?_)
  obtain⟨t,rfl⟩:=hv
  have I1:Inv X pins σ H { s with heap:=h',toks:=tk }:=I.turned (fun b o hb e=>kk b o (by simpa using hb) e) f0 f1 f3 f4 f5
  exact⟨_,rfl,mM (s:={ s with heap:=h',toks:=tk }) (n:="range_iterator") st' rfl rfl (by decide) ⟨.int (lo+i * c),H,I1,⟨t,rfl⟩,⟨rfl,rfl⟩,st',fun b hb=>(hf b hb).1⟩⟩
 done:=by
  intro X hP hw hK hc i pins s σ H E I hf st hg
  subst hP hw hK
  obtain⟨f0,f1,f2,f3,f4,f5⟩:=hf it (by simp)
  exact wpAny_pyNext_range_end (I.ok.hd hc) st (by have:n<=i:=hg;omega) fun h' eb=>⟨rfl,I.turned (t':=s.toks) (fun b o hb e=>eb b o hb e) f0 f1 f3 f4 f5⟩
 self:=fun _ _ _ _ _ st h=>wpAny_pyIter_rangeiter st h
section
variable {X:Cx} {tg:Expr}
def oJ(a b c:Int)(n:Nat):Prop:=c≠0/\Builtin.Range.small a b c=true/\Builtin.Range.rangeSize a b c=n/\Builtin.divisionGoesByPylong (b - a) c=false
def xV{pins:Va}{σ:St}{H:Hp}{s:Shared}{R:It->Hp->Prop}{E:Vq}{lo hi c:Int}{n:Nat}{t u v:Tok}{tk:Nat}(I:Inv X pins σ H s)(ht:1<=tk)(ok:oJ lo hi c n)
  (q:R (EE lo c n) H):wpAny (model X.prog X.w) X.A (pyIter (.ref s.heap.objs.size)) (Ep X pins σ tg R) E { s with heap:=s.heap.push { cls:=.type "range",data:=.fields #[.int lo t,.int hi u,.int c v] },toks:=tk }:=by
 refine wpAny_pyIter_range (IsRange.new ..) ok.2.1 ?_
 have I1:Inv X pins σ H { s with heap:=s.heap.push { cls:=.type "range",data:=.fields #[.int lo t,.int hi u,.int c v] },toks:=tk }:=I.kept fun b o e=>PK _ e
 refine⟨(s.heap.push { cls:=.type "range",data:=.fields #[.int lo t,.int hi u,.int c v] }).objs.size,[(s.heap.push { cls:=.type "range",data:=.fields #[.int lo t,.int hi u,.int c v] }).objs.size],_,_,H,rfl,
  I1.kept (t':=tk) fun b o e=>PK _ e,rV _ lo c n,?_,fun b hb=>?_,q⟩
 ·have e1:lo+((0:Nat):Int) * c=lo:=by simp
  have e2:(n:Int) - ((0:Nat):Int)=Builtin.Range.rangeSize lo hi c:=by rw[ok.2.2.1];simp
  show IsRangeIter _ _ (lo+((0:Nat):Int) * c) ((n:Int) - ((0:Nat):Int)) c
  rw[e1,e2]
  exact P9 _ rfl
 ·have e:b=(s.heap.push { cls:=.type "range",data:=.fields #[.int lo t,.int hi u,.int c v] }).objs.size:=by simpa using hb
  subst e
  exact I1.Im (PN _) (I1.hok.fresh (PN _))
def Dw(ta:TA):TI:=fun σ H R=>ta σ H fun vs H1=>∃(i j c:Int) (n:Nat),vs=[.int i,.int j,.int c]/\oJ i j c n/\R (EE i c n) H1
def rW{a b c:Expr}{ta:TA}{p pos:Pos}(hg:Gl X "range")(hm:X.mg "range" = none)(ha:PA X [a,b,c] ta)(hs:starEach [a,b,c] X.env=[(false,eval a X.env),(false,eval b X.env),(false,eval c X.env)])(hs2:starEach [b,c] X.env=[(false,eval b X.env),(false,eval c X.env)]) :
  PI X tg (.Call (.Name "range" p) [a,b,c] [] pos) (Dw ta):=by
 intro pins s σ H R I h
 refine Call_ (dX I hg hm boot_range (QV (GG (ha pos pins s σ H _ I h) fun us s1 ⟨vs,H1,I1,r1,q1⟩=>?_) (by rw[hs,hs2]) (by rw[hs2];rfl)))
 obtain⟨i,j,k,n,e,ok,q⟩:=q1
 subst e
 cases r1 with
 |cons r rr=>
  cases rr with
  |cons r' rr=>
   cases rr with
   |cons r2 rr=>
    cases rr
    obtain⟨t,rfl⟩:=r
    obtain⟨t',rfl⟩:=r'
    obtain⟨t2,rfl⟩:=r2
    exact call_range_3 ok.1 (xV I1 (by walk_at "t") ok q) (.inl ok.2.2.2)
end
end L2
namespace L3
open PySem PySem.Spec PyProof.Rows L2
section
variable {X:Cx} {a b c tg:Expr} {ta tb tc:aK} {p pos:Pos}
noncomputable def jE(lo c:Int)(n:Nat):List PV:=(List.range n).map fun(i:Nat)=>PV.int (lo+i * c)
def uD{K:Vo}{H0:Hp}{lo c:Int}{n:Nat}:iB K H0 (EE lo c n) ⟨jE lo c n,fun _=>True⟩:=by
 intro i S H g rS _
 refine⟨fun p hp=>?_,fun hi=>by show n<=i;rw[hi];simp[jE]⟩
 unfold jE at hp
 rw[Ql]at hp
 by_cases hi:i < n
 ·rw[T4 hi]at hp
  cases hp
  refine⟨hi,fun x H' ⟨e,h⟩=>?_⟩
  subst e h
  exact⟨.int _,rS,.refl⟩
 ·rw[QT (by simpa using hi)]at hp
  cases hp
def Bm(ta tb tc:aK):uq:=fun σ S R E=>ta σ S (fun v S1=>tb σ S1 (fun w S2=>tc σ S2 (fun u S3=>match v,w,u with | .int i,.int j,.int c=>∃n,oJ i j c n/\R ⟨jE i c n,fun _=>True⟩ S3|_,_,_=>False) E) E) E
def uE(hs:starEach [a,b,c] X.env=[(false,eval a X.env),(false,eval b X.env),(false,eval c X.env)])(hs2:starEach [b,c] X.env=[(false,eval b X.env),(false,eval c X.env)])(hg:Gl X "range")(hm:X.mg "range" = none)(ha:iA X [a,b,c] [ta,tb,tc]):xI X tg (.Call (.Name "range" p) [a,b,c] [] pos) (Bm ta tb tc):=
 ⟨lD (rW hg hm ha.ok hs hs2) fun σ H R ⟨σ3,S,R3,E3,rσ,rS,h,xo,k⟩=>⟨σ3,S,_,E3,rσ,rS,h,xo,fun v S1 v' H1 h1 rv GP g1=>⟨σ3,S1,_,E3,rσ.mono g1,GP,h1,xo.mono g1,fun w S2 w' H2 h2 rw' Hy g2=>⟨σ3,S2,_,E3,rσ.mono (g1.trans g2),Hy,h2,xo.mono (g1.trans g2),fun u S3 u' H3 h3 ru Kr g3=>by
  split at h3
  ·cases rv;cases rw';cases ru
   obtain⟨n,ok,q⟩:=h3
   exact⟨_,_,_,n,rfl,ok,k _ S3 _ H3 q uD Kr ((g1.trans g2).trans g3)⟩
  ·exact h3.elim⟩⟩⟩⟩
end
end L3
namespace T5
open PySem PySem.NumText
noncomputable def ai(l:List Nat):Str:=⟨l.toArray⟩
def df(z:Str):ai z.cps.toList=z:=by obtain⟨⟨l⟩⟩:=z;rfl
def toL(l:List Nat):(ai l).cps.toList=l:=rfl
def GF(l:List Nat):(ai l).length=l.length:=rfl
noncomputable def sp:List Nat->List (List Nat)
 |[]=>[[]]
 |c::r=>if c=47 then []::sp r else match sp r with
  |[]=>[[c]]
  |p::q=>(c::p)::q
theorem pT:∀l,sp l≠[]
 |[]=>by simp[sp]
 |c::r=>by
  unfold sp
  split
  ·simp
  ·split<;>simp
noncomputable def oK:List (List Nat)->List Nat
 |[]=>[]
 |[p]=>p
 |p::q=>p++47::oK q
def hG{p:List Nat}{q:List (List Nat)}(h:q≠[]):oK (p::q)=p++47::oK q:=by
 cases q with
 |nil=>exact absurd rfl h
 |cons a b=>rfl
theorem e9:∀(p:List Nat),47 ∉ p->sp p=[p]
 |[],_=>rfl
 |c::r,h=>by
  unfold sp
  rw[if_neg (fun e=>h (by rw[e];exact Qj)),e9 r fun z=>h (P4 _ z)]
theorem lL:∀(p r:List Nat),47 ∉ p->sp (p++47::r)=p::sp r
 |[],r,_=>by
  show sp (47::r)=_
  rw[sp,if_pos rfl]
 |c::p,r,h=>by
  show sp (c::(p++47::r))=_
  rw[sp,if_neg (fun e=>h (by rw[e];exact Qj)),lL p r fun z=>h (P4 _ z)]
theorem pU:∀(P:List (List Nat)),P≠[]->(∀p∈P,47 ∉ p)->sp (oK P)=P
 |[],h,_=>absurd rfl h
 |[p],_,h=>e9 p (h p Qj)
 |p::a::q,_,h=>by
  rw[hG (by simp),lL _ _ (h p Qj),pU (a::q) (by simp) fun x hx=>h x (P4 _ hx)]
theorem pV:∀l,oK (sp l)=l
 |[]=>rfl
 |c::r=>by
  have ih:=pV r
  unfold sp
  split
  ·rename_i e
   rw[hG (pT r),ih,e];rfl
  ·split
   ·rename_i e
    exact absurd e (pT r)
   ·rename_i p q e
    rw[e]at ih
    cases q with
    |nil=>show c::p=_;rw[<-ih];rfl
    |cons a b=>rw[hG (by simp)]at ih ⊢;rw[<-ih];rfl
def uF(l:List Nat):(sp l).length<=l.length+1:=by
 induction l with
 |nil=>simp[sp]
 |cons c r ih=>
  unfold sp
  split
  ·simpa using ih
  ·split
   ·simp
   ·rename_i e;rw[e]at ih;simp at ih ⊢;omega
theorem kQ:∀(P:Vs),(Str.join (ai [47]) P).cps.toList=oK (P.map fun z=>z.cps.toList)
 |[]=>rfl
 |[p]=>rfl
 |p::a::q=>by
  have ih:=kQ (a::q)
  show(p++ai [47]++Str.join (ai [47]) (a::q)).cps.toList=p.cps.toList++47::oK ((a::q).map fun z=>z.cps.toList)
  rw[<-ih]
  show((p.cps++#[47])++(Str.join (ai [47]) (a::q)).cps).toList=_
  simp
def m_(z:Str):Txt.split z "/" = (sp z.cps.toList).map ai:=by
 have e0:("/":Str)=ai [47]:=rfl
 have h1:=PySem.StrLaws.join_split z (ai [47])
 have h2:=Sn z 47
 have h3:=PyProof.Rows.split_pos z (ai [47])
 rw[e0]
 have e:(ai [47]:Str)=⟨#[47]⟩:=rfl
 rw[<-e]at h2
 generalize Txt.split z (ai [47])=P at *
 have h4:=kQ P
 rw[h1]at h4
 rw[h4,pU _ (by intro z;have:=Qu List.length z;simp at this;rw[this]at h3;simp at h3) (by intro p hp;obtain⟨y,hy,rfl⟩:=Qt.mp hp;exact h2 y hy),QH]
 conv=>lhs;rw[<-List.map_id P]
 exact List.map_congr_left fun y _=>(df y).symm
noncomputable def dn(m:Nat):List Nat:=(Nat.toDigits 10 m).map Char.toNat
noncomputable def num(n:Int):List Nat:=(PySem.Str.ofString (toString n)).cps.toList
def ba(m:Nat):num (m:Int)=dn m:=PySem.W.KIN.signs_num m
def xW(m:Nat)(h:0 < m):num (-(m:Int))=45::dn m:=by
 obtain⟨k,rfl⟩:∃k,m=k+1:=⟨m - 1,by omega⟩
 unfold num
 rw[show -((k+1:Nat):Int)=Int.negSucc k from rfl,PyProof.Rows.signs_ofString]
 show("-" ++ Nat.repr (k+1)).toList.map Char.toNat=_
 rw[String.toList_append,QC,Nat.toList_repr]
 rfl
def HR{m:Nat}(h:m < 10):dn m=[48+m]:=by
 unfold dn
 rw[Nat.toDigits_of_lt_base h]
 show[(Nat.digitChar m).toNat]=_
 have:∀d:Nat,d < 10->(Nat.digitChar d).toNat=48+d:=by decide
 rw[this m h]
def ng{m:Nat}(h:10<=m):dn m=dn (m / 10)++[48+m % 10]:=by
 have hm:m % 10 < 10:=Nat.mod_lt m (by decide)
 have t:Nat.toDigits 10 (m / 10)++Nat.toDigits 10 (m % 10)=Nat.toDigits 10 (10 * (m / 10)+m % 10):=Nat.toDigits_append_toDigits (by decide) (by omega) hm
 rw[Nat.div_add_mod]at t
 rw[<-HR hm]
 unfold dn
 rw[<-t,QC]
def lM(m:Nat):AllDigits (dn m):=by
 induction m using Nat.strongRecOn with
 |_ m ih=>
  by_cases h:m < 10
  ·rw[HR h];intro c hc;rw[P1.mp hc];omega
  ·rw[ng (by omega)]
   intro c hc
   rcases Qe.mp hc with hc|hc
   ·exact ih (m / 10) (by omega) c hc
   ·rw[P1.mp hc];omega
def uG(m:Nat):dn m≠[]:=by
 by_cases h:m < 10
 ·rw[HR h];simp
 ·rw[ng (by omega)];simp
def lN(m:Nat):digitsVal (dn m)=m:=PySem.W.KIN.val_back m
def lO{k:Nat}:∀{m:Nat},m < 10 ^ (k+1)->(dn m).length<=k+1:=by
 induction k with
 |zero=>intro m h;rw[HR (by simpa using h)];simp
 |succ k ih=>
  intro m h
  by_cases h9:m < 10
  ·rw[HR h9];simp
  ·rw[ng (by omega),PX]
   have:=ih (m:=m / 10) (by rw[Nat.pow_succ]at h;omega)
   simp;omega
def xX(m:Nat)(h:0 < m):∀r,dn m≠48::r:=by
 induction m using Nat.strongRecOn with
 |_ m ih=>
  intro r e
  by_cases h9:m < 10
  ·rw[HR h9]at e
   have:=(RZ e).1
   omega
  ·rw[ng (by omega)]at e
   cases ed:dn (m / 10)with
   |nil=>exact uG _ ed
   |cons a b=>
    rw[ed]at e
    have:=(RZ e).1
    exact ih (m / 10) (by omega) (by omega) b (by rw[ed,this])
def jF(l:List Nat):Prop:=∀r,l=48::r->r=[]
def uH(m:Nat):jF (dn m):=by
 intro r e
 by_cases h:0 < m
 ·exact absurd e (xX m h r)
 ·have:m=0:=by omega
  subst this
  rw[HR (by decide)]at e
  exact((RZ e).2).symm
def xY:∀(k:Nat) (h:List Nat),h.length=k->AllDigits h->h≠[]->jF h->dn (digitsVal h)=h:=by
 intro k
 induction k with
 |zero=>intro h hl _ hn;exact absurd (QF.mp hl) hn
 |succ k ih=>
  intro h hl hd hn hc
  obtain⟨p,c,rfl⟩:∃p c,h=p++[c]:=⟨h.dropLast,h.getLast hn,(RW hn).symm⟩
  have hcd:=hd c (by simp)
  have hp:AllDigits p:=fun x hx=>hd x (QW _ hx)
  rw[digitsVal_snoc]
  by_cases Mq:p=[]
  ·subst Mq
   show dn (0 * 10+(c - 48))=[c]
   rw[HR (by omega)]
   congr 1
   omega
  ·have Lg:jF p:=by
    intro r e
    have:=hc (r++[c]) (by rw[e];rfl)
    simp at this
   have e:=ih p (by simpa using hl) hp Mq Lg
   have h0:0 < digitsVal p:=by
    apply Nat.pos_of_ne_zero
    intro z
    rw[z,HR (by decide)]at e
    have:=hc [c] (by rw[<-e];rfl)
    simp at this
   rw[ng (by omega),show(digitsVal p * 10+(c - 48)) / 10=digitsVal p by omega,e]
   congr 2
   omega
def sI(l:List Nat):Prop:=l≠[]/\AllDigits l
open Classical in
noncomputable def rf(l:List Nat):Option Nat:=if sI l/\jF l then some (digitsVal l) else none
noncomputable def rn(l:List Nat):Option (Nat×Nat):=match sp l with
 |[a]=>(match rf a with|some t=>some (t,1)|none=>none)
 |[a,b]=>(match rf a,rf b with|some t,some u=>if u < 2\/Nat.gcd t u≠1 then none else some (t,u)|_,_=>none)
 |_=>none
noncomputable def txt(f:Int×Int):List Nat:=if f.2=1 then num f.1 else num f.1++47::num f.2
open Classical in
def pX{l:List Nat}(h:sI l)(c:jF l):rf l=some (digitsVal l):=if_pos ⟨h,c⟩
def iZ{l:List Nat}(h:¬(sI l/\jF l)):rf l=none:=if_neg h
def KC(v:Nat):sI (dn v):=⟨uG v,lM v⟩
def uI(v:Nat):rf (dn v)=some v:=by rw[pX (KC v) (uH v),lN]
def uJ{l:List Nat}{v:Nat}(h:rf l=some v):l=dn v/\digitsVal l=v:=by
 unfold rf at h
 split at h
 ·rename_i q
  cases h
  exact⟨(xY _ l rfl q.1.2 q.1.1 q.2).symm,rfl⟩
 ·cases h
end T5
namespace T5
open PySem PySem.NumText PySem.Builtin PySem.Builtin.Str
def xZ(l:List Nat)(i:Nat):Txt.slice (ai l) (some (i:Int)) none=ai (l.drop i):=by
 rw[show Txt.slice (ai l) (some (i:Int)) none=StrLaws.sliceText (ai l) (some (i:Int)) none from rfl]
 have key:∀k:Nat,k<=l.length->StrLaws.sliceText (ai l) (some (k:Int)) none=ai (l.drop k):=by
  intro k hk
  rw[StrLaws.sliceText_from ⟨by omega,by rw[toL];omega⟩,toL]
  show ai ((l.drop ((k:Int).toNat)).take ((l.length:Int) - (k:Int)).toNat)=_
  rw[SM,Ra (by simp)]
 by_cases h:i<=l.length
 ·exact key i h
 ·have e:StrLaws.sliceText (ai l) (some (i:Int)) none=StrLaws.sliceText (ai l) (some (l.length:Int)) none:=by
   have e2:strSliceIndices (some (i:Int)) none 1 (ai l).length=strSliceIndices (some (l.length:Int)) none 1 (ai l).length:=by
    rw[GF]
    unfold strSliceIndices
    have e3:max (0:Int) (min (i:Int) (l.length:Int))=max (0:Int) (min (l.length:Int) (l.length:Int)):=by omega
    have h1:¬((i:Int) < 0):=by omega
    have h2:¬((l.length:Int) < 0):=by omega
    simp[e3,h1,h2]
   unfold StrLaws.sliceText
   rw[e2]
  rw[e,key _ (PN _),SY (by omega),SY (by omega)]
def Dx(l:List Nat)(i:Nat):Txt.slice (ai l) none (some (i:Int))=ai (l.take i):=by
 rw[show Txt.slice (ai l) none (some (i:Int))=StrLaws.sliceText (ai l) none (some (i:Int))from rfl]
 have key:∀k:Nat,k<=l.length->StrLaws.sliceText (ai l) none (some (k:Int))=ai (l.take k):=by
  intro k hk
  rw[StrLaws.sliceText_to ⟨by omega,by rw[toL];omega⟩,toL]
  show ai ((l.drop 0).take ((k:Int) - 0).toNat)=_
  rw[R8,Int.sub_zero,SM]
 by_cases h:i<=l.length
 ·exact key i h
 ·have e:StrLaws.sliceText (ai l) none (some (i:Int))=StrLaws.sliceText (ai l) none (some (l.length:Int)):=by
   have e2:strSliceIndices none (some (i:Int)) 1 (ai l).length=strSliceIndices none (some (l.length:Int)) 1 (ai l).length:=by
    rw[GF]
    unfold strSliceIndices
    have e3:max (0:Int) (min (i:Int) (l.length:Int))=max (0:Int) (min (l.length:Int) (l.length:Int)):=by omega
    have h1:¬((i:Int) < 0):=by omega
    have h2:¬((l.length:Int) < 0):=by omega
    simp[e3,h1,h2]
   unfold StrLaws.sliceText
   rw[e2]
  rw[e,key _ (PN _),Ra (by omega),Ra (by omega)]
def uK(l:List Nat)(h:l.length=60):Txt.slice (ai l) (some 0) (some 60)=ai l:=by
 rw[show Txt.slice (ai l) (some 0) (some 60)=StrLaws.sliceText (ai l) (some ((0:Nat):Int)) (some ((60:Nat):Int))from rfl,StrLaws.sliceText_nat _ (by decide) (by rw[GF,h];exact PN _),toL]
 show ai ((l.drop 0).take 60)=_
 rw[R8,Ra (by omega)]
noncomputable def rX(l:List Nat):List Nat:=List.replicate (60 - l.length) 48++l
def e_{l:List Nat}(h:l.length<=60):(rX l).length=60:=by unfold rX;simp;omega
def zf{l:List Nat}(h:sI l)(hl:l.length<=60):Txt.zfill (ai l) 60=ai (rX l):=by
 unfold Txt.zfill
 rw[GF]
 by_cases h6:(60:Int)<=(l.length:Int)
 ·rw[if_pos h6]
  unfold rX
  rw[show 60 - l.length=0 by omega]
  rfl
 ·rw[if_neg h6]
  obtain⟨hne,hd⟩:=h
  cases l with
  |nil=>exact absurd rfl hne
  |cons c r=>
   have hc:=hd c (by simp)
   unfold zfilled
   have e:(ai (c::r)).cps[0]?=some c:=by simp[ai]
   rw[e]
   have:padded (ai (c::r)) ((60:Int).toNat - (c::r).length) 0 48=ai (rX (c::r)):=by
    unfold padded rX ai
    apply Str.ext'
    apply Array.toList_inj.mp
    simp
   rw[<-this]
   split
   ·rename_i e2;cases e2;omega
   ·rename_i e2;cases e2;omega
   ·rfl
def x_(l:List Nat):digitsVal (rX l)=digitsVal l:=by
 unfold rX digitsVal
 rw[List.foldl_append]
 have:∀k:Nat,(List.replicate k 48).foldl (fun acc c=>acc * 10+(c - 48)) 0=0:=by
  intro k
  induction k with
  |zero=>rfl
  |succ k ih=>rw[Q2,List.foldl_cons];exact ih
 rw[this]
def ya{l:List Nat}(h:sI l)(hl:l.length<=60):intText? (ai (rX l))=some (digitsVal l:Int):=by
 have hd:AllDigits (rX l):=by
  intro c hc
  unfold rX at hc
  rcases Qe.mp hc with hc|hc
  ·rw[List.eq_of_mem_replicate hc];omega
  ·exact h.2 c hc
 rw[intText_digits (x:=ai (rX l)) hd (by rw[toL];intro e;have:=e_ hl;rw[e]at this;cases this) (by rw[GF,e_ hl];decide),toL,x_]
end T5
namespace L3
open PySem L2 Xc
end L3
namespace L3
open PySem L2
end L3
namespace L2
open PySem PySem.Spec PyProof.Rows
end L2
namespace L3
open PySem L2
end L3
namespace CY
open PySem L2 L3
end CY
namespace L3
open PySem L2
section
variable {X:Cx}
def kR:kJ:=fun ps S Q=>match ps with
 |[.int i]=>i.natAbs.log2 < 1920/\Q (.str (toString i)) S
 |[.str z]=>(reprText z).length<=sizeLine/\Q (.str (reprText z)) S
 |ps=>m4 ps S Q
def uL(hu:X.A.units+150 < cLine)(hg:X.A.guards=some []):cw X (.builtin "repr") kR:=⟨fun pins s σ H xs us Q I r ⟨ps,S,Q3,rp,rS,q,k⟩=>by
 unfold kR at q
 split at q
 ·rename_i i
  cases rp with
  |cons a rr=>
   cases rr
   cases r with
   |cons r1 r2=>
    cases r2;cases a
    obtain⟨t,rfl⟩:=r1
    exact P.repr_of_int q.1 ⟨.str _,H,I.kept (t':=s.toks+1) (h':=s.heap) (fun _ _ e=>e),⟨_,rfl⟩,k _ S _ H q.2 (.str _) rS .refl⟩
 ·rename_i z
  cases rp with
  |cons a rr=>
   cases rr
   cases r with
   |cons r1 r2=>
    cases r2;cases a
    obtain⟨t,rfl⟩:=r1
    exact P.repr_of_str ⟨.str _,H,I.kept (t':=s.toks+1) (h':=s.heap) (fun _ _ e=>e),⟨_,rfl⟩,k _ S _ H q.2 (.str _) rS .refl⟩ q.1
 ·exact(A3 hu hg).ok pins s σ H xs us Q I r ⟨ps,S,Q3,rp,rS,q,k⟩⟩
end
end L3
namespace L2
open PySem PySem.Spec PyProof.Rows
def Bn(K:Vo)(a:Addr)(zs:Vs):Prop:=∃(o:Obj) (its:Vw) (n:Nat),K.lookup a=some o/\o.cls = .type "tuple"/\o.dict=none/\o.data = .seq its n/\its.size<=sizeLine/\Vals (zs.map V.str) its.toList
inductive K5 (K:Vo):List (aZ×V)->List (Str×List Str)->Prop
 |nil:K5 K [] []
 |cons {z:Str} {b:Addr} {zs:Vs} {kvs:List (aZ×V)} {fs:List (Str×List Str)} (h:Bn K b zs) (t:K5 K kvs fs):K5 K ((.inr z,.ref b)::kvs) ((z,zs)::fs)
def KF(P:Program)(w:World)(K:Vo)(a:Addr)(fs:List (Str×List Str)):Prop:=∃kvs,KD P w K a kvs/\K5 K kvs fs
noncomputable def fJ:List (Str×List Str)->Str->Option (List Str)
 |[],_=>none
 |(k,v)::r,z=>if k=z then some v else fJ r z
theorem K5.at_{K:Vo}{z:Str}:∀{kvs:List (aZ×V)} {fs:List (Str×List Str)},K5 K kvs fs->(match fJ fs z with|some zs=>∃b,dZ kvs (.inr z)=some (.ref b)/\Bn K b zs|none=>dZ kvs (.inr z)=none)
 |_,_,.nil=>rfl
 |_,_,.cons (z:=k) h t=>by
  unfold fJ
  by_cases e:k=z
  ·subst e
   rw[if_pos rfl]
   exact⟨_,Hv rfl,h⟩
  ·rw[if_neg e]
   have ih:=t.at_ (z:=z)
   rw[Hw (by intro q;cases q;exact e rfl)]
   exact ih
section
variable {X:Cx} {a:Addr} {kvs:List (aZ×V)}
def pY{pins:Va}{σ:St}{H:Hp}{s:Shared}(hD:KD X.prog X.w X.K a kvs)(I:Inv X pins σ H s):∃vs,KV kvs vs/\s.heap.DictOf (aP X.prog X.w) a vs:=by
 obtain⟨_,o,vs,hk,rel,ii⟩:=hD
 exact⟨vs,rel,Heap.dictOf_iff.mpr ⟨o,I.IK a o hk,ii⟩⟩
def Fy(hD:KD X.prog X.w X.K a kvs):Ar X (fun x y H Q=>∃k v,x = .ref a/\y=kV k/\dZ kvs k=some v/\Q v H):=by
 intro value slice pins s σ H x y v u Q I rx ry h hs
 obtain⟨k,z,rfl,rfl,g,q⟩:=h
 cases rx
 obtain⟨vs,rel,dd⟩:=pY hD I
 obtain⟨w',hw,rw'⟩:=Ij.some_of (v:=z) (o:=valueAt vs k) (by rw[<-g];exact rel.val k)
 exact tail_any dd.typeIs PySem.F.slot_dict_getitem.lookup (wpAny_getItem_of (iw ry) dd.mapOf hw ⟨z,H,I.tok _,rw',q⟩) hs
def rY(hD:KD X.prog X.w X.K a kvs):eY X (compareOp .NotIn) (fun x y H Q=>∃k,x=kV k/\y = .ref a/\Q (.bl (!(dZ kvs k).isSome)) H):=by
 intro pins s σ H x y v u Q I rx ry h
 obtain⟨k,rfl,rfl,q⟩:=h
 cases ry
 obtain⟨vs,rel,dd⟩:=pY hD I
 refine wpAny_notIn_of (iw rx) hD.1 dd.mapOf ?_
 rw[<-(rel.val k).Hf]
 exact⟨.bl _,H,I.tok _,rfl,q⟩
end
end L2
namespace L3
open PySem PySem.Spec PyProof.Rows L2
section
variable {X:Cx} {x:Str} {e:Expr} {te:aK} {p pos:Pos} {j:Nat}
def Gq{zs:Vs}(h:∃a,X.mg x=some (.ref a)/\Bn X.K a zs)(hg:Gl X x:=by rfl)(hd:(x == ("__debug__":Str))=false:=by decide):aO X (.Name x pos) (c3 (.tup (zs.map PV.str))):=
 let ⟨a,h1,h2⟩:=h
 ⟨aE (fR (v:=.ref a) hg h1 rfl hd) fun σ H Q ⟨σ3,S,Q3,E3,rσ,rS,h,xo,k⟩=>k _ S _ H h (.tup (vs:=zs.map V.str) (.inr h2) (dz zs)) rS .refl⟩
def uM(fs:List (Str×List Str))(te:aK):aK:=fun σ S Q E=>te σ S (fun y S1=>match y with | .str z=>(match fJ fs z with|some zs=>Q (.tup (zs.map PV.str)) S1|none=>False)|_=>False) E
def Gr{fs:List (Str×List Str)}(h:∃a,X.mg x=some (.ref a)/\KF X.prog X.w X.K a fs)(he:aO X e te)(hs:eZ e)(hg:Gl X x:=by rfl)(hd:(x == ("__debug__":Str))=false:=by decide):aO X (.Subscript (.Name x p) e pos) (uM fs te):=
 let ⟨a,h1,kvs,h2,h3⟩:=h
 ⟨aE (y9 (Fy h2) (fR (v:=.ref a) hg h1 rfl hd) he.ok hs) fun σ H Q ⟨σ3,S,Q3,E3,rσ,rS,h,xo,k⟩=>⟨σ3,S,_,E3,rσ,rS,h,xo,fun y S1 v H1 q rv GP g1=>by
  split at q
  ·rename_i z
   cases rv
   have hz:=h3.at_ (z:=z)
   split at q
   ·rename_i zs ez
    rw[ez]at hz
    obtain⟨b,e1,e2⟩:=hz
    exact⟨.inr z,_,rfl,rfl,e1,k _ S1 _ H1 q (.tup (vs:=zs.map V.str) (.inr e2) (dz zs)) GP g1⟩
   ·exact q.elim
  ·exact q.elim⟩⟩
def uN(fs:List (Str×List Str))(te:aK):aK:=fun σ S Q E=>te σ S (fun y S1=>match y with | .str z=>Q (.bl (!(fJ fs z).isSome)) S1|_=>False) E
end
end L3
namespace L2
open PySem PySem.Spec PyProof.Rows
section
variable {X:Cx} {o:Expr} {to:TE} {a b:Str} {k1 k2:Nat} {p1 p2 apos cpos:Pos}
def Dy(a b:Str)(to:TE):TE:=fun σ H Q=>to σ H fun x H1=>∃z,x = .str z/\z.length+(z.length+1) * b.length<=16777216/\Q (.str (Txt.replace z a b)) H1
def yb(ho:PE X o to)(hab:(a == b)=false)
  (hbase:attributeBase o "replace" X.env (eval o X.env)=eval o X.env:=by rfl)
  (hfew:((backTo cpos (starEach [.Constant (.str a) k1 p1,.Constant (.str b) k2 p2] X.env)).all (fun x=>!x.1)&&(backToKw cpos (keywordEach [] X.env)).all (fun x=>x.1.isSome)
   && decide (([.Constant (.str a) k1 p1,.Constant (.str b) k2 p2]:List Expr).length+([]:List Keyword).length+(if ([]:List Keyword).isEmpty then 0 else 1) < 30))=true:=by rfl)
  (hline:(apos.endLine == cpos.line)=true:=by rfl)
  (hs:starEach [.Constant (.str a) k1 p1,.Constant (.str b) k2 p2] X.env=[(false,eval (.Constant (.str a) k1 p1) X.env),(false,eval (.Constant (.str b) k2 p2) X.env)]:=by rfl)
  (hb2:backTo cpos [(false,eval (.Constant (.str a) k1 p1) X.env),(false,eval (.Constant (.str b) k2 p2) X.env)]=[(false,eval (.Constant (.str a) k1 p1) X.env),(false,eval (.Constant (.str b) k2 p2) X.env)]:=by rfl) :
  PE X (.Call (.Attribute o "replace" apos) [.Constant (.str a) k1 p1,.Constant (.str b) k2 p2] [] cpos) (Dy a b to):=by
 intro pins s σ H Q I h
 refine wpAny_Call_method_late hbase hfew hline rfl (GG (ho pins s σ H _ I h) fun v s1 ⟨x,H1,I1,r1,z,ez,hz,q1⟩=>?_)
 subst ez
 obtain⟨h1,h2⟩:=oa (T:="str") I1 r1 rfl
 obtain⟨t,rfl⟩:=r1
 refine⟨"str","str.replace",RU,PySem.F.slot_str_replace,PySem.F.type_str_replace,h1,h2,?_⟩
 have tk:=I1.tk
 rw[hs,hb2]
 refine SN rfl (Calls.evalArgs_plain ?_)
 refine RO (Calls.Constant_str (RO (Calls.Constant_str (SI ?_))))
 have I2:Inv X pins σ H1 { s1 with toks:=s1.toks+1+1 }:=I1.tok _
 refine Qi I2.tk (SC.replace (Rp tk) (Nat.succ_ne_zero _) (Qo (Nat.lt_succ_self _)) hab hz fun t' k ht=>?_)
 exact⟨.str _,H1,I2.tok k ht,⟨t',rfl⟩,q1⟩
end
end L2
namespace L3
open PySem PySem.Spec PyProof.Rows L2
section
variable {X:Cx} {o:Expr} {to:aK} {a b:Str} {k1 k2:Nat} {p1 p2 apos cpos:Pos}
def jG(a b:Str)(to:aK):aK:=fun σ S Q E=>to σ S (fun x S1=>match x with | .str z=>z.length+(z.length+1) * b.length<=16777216/\Q (.str (Txt.replace z a b)) S1|_=>False) E
def lP(ho:aO X o to)(hab:(a == b)=false:=by decide +kernel)
  (hbase:attributeBase o "replace" X.env (eval o X.env)=eval o X.env:=by rfl)
  (hfew:((backTo cpos (starEach [.Constant (.str a) k1 p1,.Constant (.str b) k2 p2] X.env)).all (fun x=>!x.1)&&(backToKw cpos (keywordEach [] X.env)).all (fun x=>x.1.isSome)
   && decide (([.Constant (.str a) k1 p1,.Constant (.str b) k2 p2]:List Expr).length+([]:List Keyword).length+(if ([]:List Keyword).isEmpty then 0 else 1) < 30))=true:=by rfl)
  (hline:(apos.endLine == cpos.line)=true:=by rfl):aO X (.Call (.Attribute o "replace" apos) [.Constant (.str a) k1 p1,.Constant (.str b) k2 p2] [] cpos) (jG a b to):=
 ⟨aE (yb ho.ok hab hbase hfew hline) fun σ H Q ⟨σ3,S,Q3,E3,rσ,rS,h,xo,k⟩=>⟨σ3,S,_,E3,rσ,rS,h,xo,fun x S1 v H1 h1 rx GP g1=>by
  split at h1
  ·cases rx
   exact⟨_,rfl,h1.1,k _ S1 _ H1 h1.2 (.str _) GP g1⟩
  ·exact h1.elim⟩⟩
end
end L3
namespace L2
open PySem PySem.Spec PyProof.Rows
end L2
namespace L3
open PySem PySem.Spec PyProof.Rows L2
def Fz{X:Cx}{x:Str}{e:Expr}{te:aK}{p pos:Pos}{fs:List (Str×List Str)}(h:∃a,X.mg x=some (.ref a)/\KF X.prog X.w X.K a fs)(he:aO X e te)(hg:Gl X x:=by rfl)(hm:behindInMarks .NotIn (.Name x p)=false:=by rfl)(hd:(x == ("__debug__":Str))=false:=by decide):mW X (.Compare e [.NotIn] [.Name x p] pos) (aL (uN fs te)):=
 let ⟨a,h1,kvs,h2,h3⟩:=h
 ⟨jk (pB (rY h2) he.ok (fR (v:=.ref a) hg h1 rfl hd) hm) fun σ H Q ⟨σ3,S,Q3,E3,rσ,rS,h,xo,k⟩=>⟨σ3,S,_,E3,rσ,rS,h,xo,fun y S1 v H1 q rv GP g1=>by
  dsimp only at q
  split at q
  ·rename_i z
   cases rv
   have hz:=h3.at_ (z:=z)
   refine⟨.inr z,rfl,rfl,_,rfl,k _ S1 H1 ?_ GP g1⟩
   cases ez:fJ fs z with
   |none=>rw[ez]at hz q;rw[hz];exact q
   |some zs=>rw[ez]at hz q;obtain⟨b,e1,_⟩:=hz;rw[e1];exact q
  ·exact q.elim⟩⟩
end L3
namespace L2
open PySem PySem.Spec PyProof.Rows
structure RoomH (k:Nat) (A:Around):Prop where
 dp:A.depth+3 * k+5 < recursionLimit
 un:A.units+16 * k+200 < cLine
 gd:A.guards=some []
theorem RoomH.deeper{k:Nat}{A:Around}(r:RoomH (k+1) A)(env:Env):RoomH k (A.deeper env):=
 ⟨by have:=r.dp;show A.depth+1+3 * k+5 < _;omega,by have:=r.un;show A.units+3+16 * k+200 < _;omega,r.gd⟩
theorem RoomH.depth{k:Nat}{A:Around}(r:RoomH k A):A.depth < recursionLimit:=by have:=r.dp;omega
noncomputable def kS(CX:nN)(P:Program)(w:World)(K:Vo)(mg:Vr)(base:Heap)(N:Vs)(qual:Str)(scope:Scope)(f:Addr)(cd:Value)(A:Around)(outer:List Env)(s:Shared)(H:Hp)(E:XK):Cx:=
 { fj CX P w K mg base N qual scope f cd A outer s H E with calm:=false }
structure pZ (P:Program) (w:World) (K:Vo) (mg:Vr) (base:Heap) (CX:nN) (k:Nat) (f:Addr) (fd:FuncData) (ps:Vs) (sp:Sp):Prop where
 len:∀vs H Q E,sp vs H Q E->vs.length=ps.length
 run:∀(A:Around) (outer:List Env) (s:Shared) (H:Hp) (args:Args) (us:Vv) (vs:List V) (Q:VK) (E:XK),RoomH k A->(1<=s.toks\/FL fd ps)->Jg P w K mg base A outer s H->BindsTo s fd args (ps.zip us)->Vals vs us->sp vs H Q E->
  codeAny (model P w) A (.call (.ref f) args) (CR CX outer P w H s Q E) s
def oM{CX:nN}{P:Program}{w:World}{K:Vo}{mg:Vr}{base:Heap}{N ps:Vs}{qual:Str}{scope:Scope}{f:Addr}{cd:Value}{A:Around}{outer:List Env}{s s1:Shared}{H:Hp}{E:XK}{us:Vv}{vs:List V}(ht:1<=s1.toks)
  (S:bv N ps scope) (e0:Jg P w K mg base A outer s H) (hl:vs.length=ps.length) (r:Vals vs us)
  (x:InCallC s s.heap.objs.size (bindL (envOfC qual scope s.heap.objs.size f cd).kindOf (ps.zip us) fun _=>none) (cellsFrom (s.heap.objs.size+1) scope.names []) (bindC (envOfC qual scope s.heap.objs.size f cd).kindOf (ps.zip us) fun _=>none) s1) :
  Inv (kS CX P w K mg base N qual scope f cd A outer s H E) [] (bW N vs) H s1:=by
 have hpl:ps.length<=N.length:=by have:=Qu List.length S.pre;rw[RK]at this;omega
 obtain⟨h1,tk,rfl,hk⟩:=x.done
 have K0:∀b:Addr,b ∉ (kS CX P w K mg base N qual scope f cd A outer s H E).ex:=fun b z=>absurd (show b∈([]:List Addr)from z) (by simp)
 refine⟨⟨e0.mod,S.kind,rfl,rfl,PN _,fun y z c h1 h2=>?_,fun y hy=>?_,fun y c _ h=>?_,(fun z=>by cases z),Around.frames_deeper e0.frames,.inr ⟨rfl,rfl⟩,fun b z=>absurd z (K0 b),e0.bs,e0.JI,fun b _ _=>K0 b,fun b z=>absurd z (K0 b),e0.HH,e0.J5⟩,
  rfl,e0.bare,Un.kept hk,⟨_,x.toInCall.ns,fun i y v h1 h2 h3=>?_⟩,fun y c h=>⟨_,x.cell y c h⟩,e0.hok.fresh (PN _),fun y c h=>?_,fun p hp=>absurd (show p∈([]:Va)from hp) (by simp),e0.hok.kept hk,?_,ht⟩
 ·exact name_of_addr x.apart (Qy h1) (Qy h2)
 ·have hy:scope.names.lookup y=some .cell\/scope.names.lookup y=some .free:=hy
  rcases hy with hy|hy
  ·exact fS hy
  ·exact absurd rfl (S.Kt _ (Qy hy))
 ·exact RB (x.above y c (Qy h))
 ·have hi:i < vs.length:=by
   unfold bW at h2
   by_cases hi:i < vs.length
   ·exact hi
   ·rw[Q8 (by simpa using hi)]at h2
    rw[Q6]at h2
    split at h2<;>cases h2
  have ha:vs[i]?=some v:=by
   unfold bW at h2
   rw[QL (by simpa using hi),Ql]at h2
   cases e:vs[i]? with
   |none=>rw[e]at h2;cases h2
   |some a=>rw[e]at h2;cases h2;rfl
  obtain⟨u,hu,rv⟩:=r.get ha
  have hp:ps[i]?=some y:=by
   rw[<-S.pre,List.getElem?_take_of_lt (by omega)];exact h1
  have Mb:ps.Nodup:=by rw[<-S.pre];exact S.nd.sublist (List.take_sublist _ _)
  refine⟨u,rv,?_⟩
  rcases S.par y (QY hp)with k|k
  ·exact .inl ⟨k,gT Mb hp hu k⟩
  ·obtain⟨c,e⟩:=fS (n:=s.heap.objs.size+1) k
   refine .inr ⟨.inl k,c,e,?_⟩
   have q:=x.cell y c e
   rw[gU Mb hp hu (by show scope.names.lookup y≠_;rw[k];decide)]at q
   exact q
 ·exact e0.hok.fresh (RB (x.above y c (Qy h)))
 ·unfold bW
  show _=N.length
  rw[PX,PY,QS]
  omega
def Bo{CX:nN}{P:Program}{w:World}{K:Vo}{mg:Vr}{base:Heap}{k:Nat}{f:Addr}{name qual:Str}{params:Arguments}{body:List Stmt}{scope:Scope}{dV kV doc pm cdv ct oc:Value}{an od:Option Addr}
  {osl:Array (Option Value)} {N ps:Vs} {sp:Sp} (lk:K.lookup f=some ⟨oc,od,.func (PySem.W.fnOf name qual params body scope dV kV doc pm an cdv ct),osl⟩) (hcd:PySem.W.codeIn K cdv qual=true) (S:bv N ps scope)
  (len:∀vs H Q E,sp vs H Q E->vs.length=ps.length)
  (hbody:∀(A:Around) (outer:List Env) (s:Shared) (H:Hp) (vs:List V) (Q:VK) (E:XK),RoomH k (A.deeper (envOfC qual scope s.heap.objs.size f cdv))->sp vs H Q E->
   ∃t,IZ (kS CX P w K mg base N qual scope f cdv A outer s H E) body t/\t { nx:=fun _ H'=>Q .non H',rt:=Q } (bW N vs) H) :
  pZ P w K mg base CX (k+1) f (PySem.W.fnOf name qual params body scope dV kV doc pm an cdv ct) ps sp:=by
 refine⟨len,fun A outer s H args us vs Q E hr ht0 e0 hb r Ku=>?_⟩
 have hl:=len _ _ _ _ Ku
 have KX:K.In s.heap:=e0.mod.Lq.keeps fun b o e=>(e0.bs b o e).1
 have lim:s.heap.NoLimit:=e0.mod.nolimit.keeps fun b o e=>(e0.bs b o e).1
 have hkind:∀y∈ps.zip us,scope.names.lookup y.1=some .local\/(scope.names.lookup y.1=some .cell/\((cellsFrom (s.heap.objs.size+1) scope.names []).lookup y.1).isSome=true):=fun⟨n,v⟩ hy=>by
  rcases S.par n (TQ hy).1 with q|q
  ·exact .inl q
  ·exact .inr ⟨q,SJ _ _ _ (.inl q)⟩
 refine codeAny_call_function hr.depth (KX _ _ lk) rfl S.co S.gen rfl (PySem.W.codeRec_of KX hcd) (hb _ _ _ _ ?_)
 refine mP (ht0.imp id fun z=>mO z (by rw[<-r.length,hl])) S.kind hkind fun env he s1 x htk=>?_
 subst he
 refine⟨lim.keeps x.toInCall.keep,codeAny_func ?_⟩
 obtain⟨t,ht,hq⟩:=hbody A outer s H vs Q E (hr.deeper _) Ku
 have I:Inv (kS CX P w K mg base N qual scope f cdv A outer s H E) [] (bW N vs) H s1:=oM htk S e0 hl r x
 refine Rg (ht [] s1 (bW N vs) H _ I hq) (fun fl s' hs=>?_) fun e s' hs=>hs
 have fin:∀{σ':St} {H':Hp} {v:V} {u:Value},Inv (kS CX P w K mg base N qual scope f cdv A outer s H E) [] σ' H' s'->RelV v u->Q v H'->CE outer P w H s Q u s':=
  fun{σ' H' v u} J rv q=>⟨v,H',J.os,J.bare,J.base,J.hok,rv,q⟩
 cases fl with
 |ret u=>
  obtain⟨v,σ',H',J,rv,q⟩:=hs
  exact fin J rv q
 |next=>
  obtain⟨σ',H',J,q⟩:=hs
  exact fin (v:=V.non) (u:=Value.none) J rfl q
 |brk=>
  obtain⟨_,_,_,q⟩:=hs
  exact False.elim q
 |cont=>
  obtain⟨_,_,_,q⟩:=hs
  exact False.elim q
section
variable {X:Cx} {CX:nN} {k:Nat} {f C:Addr} {fd:FuncData} {ps:Vs} {sp:Sp} {dvs:List V} {ds:Vv} {E:XK} {x m:Str} {p pos apos:Pos} {e o:Expr} {es:List Expr} {ta:TE} {t:TA}
def yc{pins:Va}{σ:St}{H:Hp}{s:Shared}{Q:VK}{us:Vv}{vs:List V}(F:pZ X.prog X.w X.K X.mg X.base CX k f fd ps sp)(hr:RoomH k X.A)(hb:Binds X.K fd ps ds)(hd:Vals dvs ds)(hx:gS CX X E)
  (I:Inv X pins σ H s) (r:Vals vs us) (h:sp (vs++dvs) H Q E):wpAny (model X.prog X.w) X.A (call (.ref f) us) (EP X pins σ Q) X.xe s:=by
 have r2:Vals (vs++dvs) (us++ds):=r.append hd
 have hl:(us++ds).length=ps.length:=by rw[<-r2.length];exact F.len _ _ _ _ h
 refine Tn (RP (TN (Inv.tk ‹_›) (F.run X.A X.stack s H ⟨us,[]⟩ (us++ds) (vs++dvs) Q E hr (.inl I.tk) I.KZ (hb s us I.IK hl) r2 h)) fun r s' ⟨ht,hq⟩=>?_)
 cases r with
 |error e=>exact hx pins σ H s e s' I ht hq
 |ok fl=>
  cases fl with
  |ret u=>exact I.after ht hq
  |next=>exact False.elim hq
  |brk=>exact False.elim hq
  |cont=>exact False.elim hq
def uO(F:pZ X.prog X.w X.K X.mg X.base CX k f fd ps sp)(hr:RoomH k X.A)(hg:Gl X x)(hm:X.mg x=some (.ref f))(hk:PySem.W.keepIn X.K (.ref f)=true)(hb:Binds X.K fd ps ds)(hd:Vals dvs ds)(hx:gS CX X E)
  (ha:PA X (e::es) t) (hdb:(x == ("__debug__":Str))=false:=by decide) (he:starEach (e::es) X.env=(false,eval e X.env)::starEach es X.env:=by rfl) (hpl:(backTo pos (starEach es X.env)).any (·.1)=false:=by rfl) :
  PE X (.Call (.Name x p) (e::es) [] pos) (s9 sp dvs E t):=by
 intro pins s σ H Q I h
 refine QX (dB I hg hm ?_ hdb)
 refine Sw (h₀:=X.base) I.ok.mod.Lq hk (GG (ha pos pins s σ H _ I h) fun us s1 ⟨vs,H1,I1,r,q⟩=>⟨I1.IK,?_⟩) he hpl
 exact yc F hr hb hd hx I1 r q
end
end L2
namespace L3
open PySem L2 Xc
structure Bp (P:Program) (w:World) (K:Vo) (mg:Vr) (base:Heap) (k:Nat) (f:Addr) (fd:FuncData) (ps:Vs) (sp:aG):Prop where
 ok:pZ P w K mg base nO k f fd ps (Cs K ps.length sp)
section
variable {X:Cx} {e o:Expr} {es:List Expr} {te to:aK} {ts:List aK} {x:Str} {p pos apos cpos:Pos} {k:Nat} {f:Addr} {fd:FuncData} {ps:Vs} {sp:aG}
def yd(F:Bp X.prog X.w X.K X.mg X.base k f fd ps sp)(hr:RoomH k X.A)(hg:Gl X x)(hm:X.mg x=some (.ref f))(hk:PySem.W.keepIn X.K (.ref f)=true)(hb:Binds X.K fd ps [])(he:starEach (e::es) X.env=(false,eval e X.env)::starEach es X.env)(ha:iA X (e::es) ts)
  (hl:ts.length=ps.length:=by rfl) (hdb:(x == ("__debug__":Str))=false:=by decide) (hpl:(backTo pos (starEach es X.env)).any (·.1)=false:=by rfl):aO X (.Call (.Name x p) (e::es) [] pos) (al sp ts):=
 ⟨aE (uO F.ok hr hg hm hk hb .nil tH ha.ok hdb he hpl) fun σ H Q ⟨σ3,S,Q3,E3,rσ,rS,h,xo,k⟩=>bB rσ rS h xo fun ps' S' vs H' hl' q rv HE g=>by
  rw[Qv]
  exact⟨by rw[rv.length,hl',hl],ps',S',Q3,E3,rv,HE,q,k.mono g⟩⟩
end
section
variable {P:Program} {w:World} {K:Vo} {mg:Vr} {base:Heap}
noncomputable abbrev Dz(P:Program)(w:World)(K:Vo)(mg:Vr)(base:Heap)(N:Vs)(qual:Str)(st:Stmt)(f:Addr)(cdv:Value)(A:Around)(outer:List Env)(s:Shared)(H:Hp)(E:XK):Cx:=kS nO P w K mg base N qual (ax st) f cdv A outer s H E
def FA{x qual:Str}{st:Stmt}{f:Addr}{fd:FuncData}{N ps:Vs}{k:Nat}{t:bw}(F:Kp K x qual st f fd)(S:bv N ps (ax st))
  (hbody:∀(cdv:Value) (A:Around) (outer:List Env) (s:Shared) (H:Hp) (E:XK),RoomH k (A.deeper (PyProof.Rows.envOfC qual (ax st) s.heap.objs.size f cdv))->dI (Dz P w K mg base N qual st f cdv A outer s H E) (aT st) t) :
  Bp P w K mg base (k+1) f fd ps (bO N.length t):=by
 obtain⟨oc,od,kV,doc,pm,an,cdv,ct,osl,rfl,lk,hcd⟩:=F.ex
 exact⟨Bo lk hcd S (fun vs H Q E h=>h.1) fun A outer s H vs Q E hr ⟨hl,ps',S',Q3,E3,rv,rS,q,kk⟩=>⟨_,(hbody cdv A outer s H E hr).ok,aA N.length ps',S',_,g_ rv,rS,q,.no,fun σ3 S2 σ2 H2 h2 _ Hy g2=>kk _ S2 _ H2 h2 .non Hy g2,kk,fun _ _ _ _ h2=>h2.elim,fun _ _ _ _ h2=>h2.elim⟩⟩
end
def uP{X:Cx}{a:Addr}{k:Nat}(hr:Room k X.A):RoomH k (X.inH a).A:=⟨hr.dp,hr.un,hr.gd⟩
def RoomH.mono{j k:Nat}{A:Around}(r:RoomH k A)(h:j<=k):RoomH j A:=⟨by have:=r.dp;omega,by have:=r.un;omega,r.gd⟩
section
variable {P:Program} {w:World} {K:Vo} {mg:Vr} {base:Heap}
structure FB (P:Program) (w:World) (K:Vo) (mg:Vr) (base:Heap) (k:Nat) (x:Str) (n:Nat) (sp:aG):Prop where
 ex:∃f fd ps,ps.length=n/\Bp P w K mg base k f fd ps sp/\mg x=some (.ref f)/\PySem.W.keepIn K (.ref f)=true/\Binds K fd ps []
def FC{x:Str}{st:Stmt}{ps:Vs}{k n:Nat}{t:bw}{sp:aG}(N:Vs)(O:bh K mg x st ps)
  (hbody:∀(f:Addr) (cdv:Value) (A:Around) (outer:List Env) (s:Shared) (H:Hp) (E:XK),RoomH k (A.deeper (PyProof.Rows.envOfC x (ax st) s.heap.objs.size f cdv))->N.Nodup->dI (Dz P w K mg base N x st f cdv A outer s H E) (aT st) t) (e:sp=bO N.length t)
  (hn:ps.length=n:=by rfl) (S:bv N ps (ax st):=by exact⟨rfl,rfl,rfl,by decide +kernel,rfl,by decide +kernel,by decide +kernel⟩):FB P w K mg base (k+1) x n sp:=by
 subst e
 obtain⟨f,fd,o⟩:=O.ex
 exact⟨f,fd,ps,hn,FA o.F S fun cdv A outer s H E hr=>hbody f cdv A outer s H E hr S.nd,o.m,o.k,o.b⟩
end
section
variable {X:Cx} {a b e:Expr} {es:List Expr} {ta tb te:aK} {ts:List aK} {x:Str} {p pos:Pos} {j k n:Nat} {sp:aG}
def cH(O:FB X.prog X.w X.K X.mg X.base k x n sp)(hr:RoomH j X.A)(ha:iA X (e::es) ts)(hj:k<=j:=by omega)(hl:ts.length=n:=by rfl)(hg:Gl X x:=by rfl)(he:starEach (e::es) X.env=(false,eval e X.env)::starEach es X.env:=by rfl)(hdb:(x == ("__debug__":Str))=false:=by decide)(hpl:(backTo pos (starEach es X.env)).any (·.1)=false:=by rfl) :
  aO X (.Call (.Name x p) (e::es) [] pos) (al sp ts):=by
 obtain⟨f,fd,ps,hn,F,h1,h2,h3⟩:=O.ex
 exact yd F (RoomH.mono hr hj) hg h1 h2 h3 he ha (hl.trans hn.symm) hdb hpl
def FD(hr:RoomH j X.A):X.A.units+1 < cLine:=by have:=hr.un;omega
def Bq(hr:RoomH j X.A):X.A.units+150 < cLine:=by have:=hr.un;omega
def FE(hr:RoomH j X.A)(ha:aO X a ta)(hb:aO X b tb)(hs:eZ b:=by exact fun _ _=>rfl):aO X (.Subscript a b pos) (am aD ta tb):=A2 (Fj (FD hr)) ha hb hs
end
end L3
namespace L2
open PySem PySem.Spec PyProof.Rows
section
variable {X:Cx}
def uQ{prog:Program}{w:World}{A:Around}{E:Vq}{s:Shared}{x:Str}{t:Tok}{Q:Vq}(hsz:x.length+2<=sizeLine)
  (hq:∀(l:List (Str×Tok)) tk,l.map (·.1)=Txt.words x->Q (.ref s.heap.objs.size) { s with heap:=s.heap.push { cls:=.type "list",data:=.seq (strValues l).toArray },toks:=tk }) :
  wpAny (model prog w) A (call (.builtin "str.split") [.str x t]) Q E s:=by
 have hn:(Builtin.Str.spaceWords x (x.length+1)).length<=sizeLine:=by
  have e1:=(StrLaws.sw_weight x).1
  have e2:=StrLaws.len_le_wsum (Builtin.Str.spaceWords x (x.length+1))
  omega
 refine R7 Tp (Sx _ _ _) SX (F.args_str_split_1 _) (meets_str_split_space x t (by omega) hn) ?_
 cases hw:Builtin.Str.spaceWords x (x.length+1) == [(0,x.length)]
 ·simp only[Qd,QN]
  rw[strsFrom_eq]
  exact hq (numbered s.toks (wordsOf x)) _ ((numbered_texts _ _).trans (if_neg (Sk hw)).symm)
 ·simp only[Rj]
  exact hq [(x,t)] s.toks (if_pos hw).symm
def uR:As X "str.split" (fun x vs H Q=>∃z,x = .str z/\vs=[]/\z.length+2<=sizeLine/\∀q,H q=none->Q (.ref q) (upd H q (.lst ((Txt.words z).map V.str)))):=by
 intro pins s σ H x vs v us Q I rx rv h
 obtain⟨z,rfl,rfl,h1,q⟩:=h
 obtain⟨t,rfl⟩:=rx
 cases rv
 refine Qi I.tk (uQ h1 fun l tk e ht=>?_)
 rw[<-e]at q
 have h2:(l.map (·.1)).length<=sizeLine:=by
  rw[e]
  have:=StrLaws.words_weight z
  omega
 refine⟨.ref _,_,I.laid (a:=s.heap.objs.size) (o:=.lst ((l.map (·.1)).map V.str)) (t':=tk) (fun b o e=>PK _ e) (PN _) ?_,rfl,q _ (I.hok.fresh (PN _))⟩
 exact⟨by rw[PY];exact h2,strValues l,0,Bi l,P9 _ rfl⟩
end
end L2
namespace L3
open PySem PySem.Spec PyProof.Rows L2
section
variable {X:Cx}
def lQ:rN:=fun x ps S Q=>match x,ps with
 | .str z,[]=>z.length+2<=sizeLine/\∀p,S p=none->Q (.ref p) (GC S p (.lst ((Txt.words z).map PV.str)))
 |_,_=>False
def ye:uk X "str.split" lQ:=⟨fun pins s σ H x xs v us Q I rx rs ⟨px,ps,S,Q3,r1,rp,rS,q,k⟩=>by
 unfold lQ at q
 split at q
 ·cases r1
  cases rp
  exact uR pins s σ H _ _ v us Q I rx rs ⟨_,rfl,rfl,q.1,fun p hp=>k _ _ _ _ (q.2 p (rS.free hp)) (.ref p) (rS.new hp ⟨_,ar,dz _⟩) (.new hp)⟩
 ·exact q.elim⟩
end
end L3
namespace L2
open PySem PySem.Spec PyProof.Rows
section
variable {X:Cx}
noncomputable def yf:V->List V->Hp->VK->Prop:=fun x vs H Q=>∃d o kvs more,x = .ref d/\vs=[.ref o]/\d≠o/\H d=some (.dK kvs)/\H o=some (.dK more)/\kvs.length+more.length<=sizeLine/\Q .non (upd H d (.dK (dF kvs more)))
def rZ:Ex X "dict.update" yf:=by
 intro pins s σ H x vs v us Q I rx rv h
 obtain⟨d,o,kvs,more,rfl,rfl,hdo,hd,ho,hz,q⟩:=h
 cases rx
 obtain⟨u,rfl,ru⟩:=rv.one
 cases ru
 obtain⟨z1,s1,Pb,r1,d1⟩:=pH I.hok hd
 obtain⟨z2,s2,Jp,r2,d2⟩:=pH I.hok ho
 refine call_meetsIn PySem.F.slot_dict_update d1.typeIs PySem.F.entry_dict_update (PySem.F.args_dict_update_2 _ _) (meets_dict_update (aP X.prog X.w) d o hdo s2) ⟨Pb,Jp,d1,d2,by rw[<-r1.length,<-r2.length];exact hz,fun h' e1 e2 hs=>?_⟩
 have hm:(dF kvs more).length<=sizeLine:=PZ (cV more kvs) hz
 refine⟨.non,_,I.write (x:=d) (e:=d) (o:=.dK (dF kvs more)) (t':=s.toks) (by rw[hd];trivial) (.inl rfl) (fun b u hb e=>(hs.2 b hb).trans e) ?_ ⟨hm,s1,_,r2.merge r1,e1⟩,rfl,q⟩
 obtain⟨ob,_,_,e,_⟩:=e1
 exact⟨ob,e⟩
end
end L2
namespace L3
open PySem PySem.Spec PyProof.Rows L2
section
variable {X:Cx}
def gk:rN:=fun x ps S Q=>match x,ps with
 | .ref a,[.ref b]=>(match S a,S b with|some (.dct kvs),some (.dct more)=>a≠b/\kvs.length+more.length<=sizeLine/\Q .non (GC S a (.dct (c_ kvs more)))|_,_=>False)
 |_,_=>False
def uS:uk X "dict.update" gk:=⟨fun pins s σ H x xs v us Q I rx rs ⟨px,ps,S,Q3,r1,rp,rS,q,k⟩=>by
 unfold gk at q
 split at q
 ·split at q
  ·rename_i e1 e2
   cases r1
   cases rp with
   |cons b rr=>
    cases rr
    cases b
    obtain⟨k1,h1,p1⟩:=rS _ _ e1
    obtain⟨k2,h2,p2⟩:=rS _ _ e2
    exact rZ pins s σ H _ _ v us Q I rx rs ⟨_,_,_,_,rfl,rfl,q.1,h1,h2,by rw[p1.length,p2.length];exact q.2.1,k _ _ _ _ q.2.2 .non (rS.put h1 trivial ⟨_,ar,(GR.merge p2 p1).mono (.mut h1 trivial)⟩) (.mut h1 trivial)⟩
  ·exact q.elim
 ·exact q.elim⟩
def r9:zk "dict" "update" "dict.update":=⟨PySem.F.plainAttrs_dict,PySem.F.slot_dict_update,PySem.F.type_dict_update⟩
end
section
variable {X:Cx} {e o1 i1 o2 i2:Expr} {te MV ti1 to2 ti2:aK} {pos p1 p2 pt:Pos} {k:Nat}
def uT(te MV ti1 to2 ti2:aK):bw:=fun D σ S=>te σ S (fun v S1=>match v with
 | .tup [v1,v2]=>MV σ S1 (fun o S2=>ti1 σ S2 (fun i S3=>cZ o i v1 S3 fun S4=>to2 σ S4 (fun o' S5=>ti2 σ S5 (fun i' S6=>cZ o' i' v2 S6 fun S7=>D.nx σ S7) D.ex) D.ex) D.ex) D.ex
 |_=>False) D.ex
def Br(hu:X.A.units+1 < cLine)(he:aO X e te)(Pc:aO X o1 MV)(hi1:aO X i1 ti1)(ho2:aO X o2 to2)(hi2:aO X i2 ti2)(hc:X.calm=true:=by rfl)
  (ha1:∀v,assign (.Subscript o1 i1 p1) X.env v=(do
   let ov <-holding [v] (eval o1 X.env)
   let iv <-holding [v,ov] (eval i1 X.env)
   standAt p1
   holding [v,ov,iv] (setItem ov iv v)
   release [v,ov,iv] []):=by intro _;rfl)
  (ha2:∀v,assign (.Subscript o2 i2 p2) X.env v=(do
   let ov <-holding [v] (eval o2 X.env)
   let iv <-holding [v,ov] (eval i2 X.env)
   standAt p2
   holding [v,ov,iv] (setItem ov iv v)
   release [v,ov,iv] []):=by intro _;rfl)
  (hn:(assignEach [.Subscript o1 i1 p1,.Subscript o2 i2 p2] X.env).length=2:=by rfl) (hst:(assignEach [.Subscript o1 i1 p1,.Subscript o2 i2 p2] X.env).findIdx? (·.1)=none:=by rfl)
  (hs:swapsWithSole [.Tuple [.Subscript o1 i1 p1,.Subscript o2 i2 p2] k pt] e pos.line X.env=pure false:=by rfl) (hw:swappedStores [.Tuple [.Subscript o1 i1 p1,.Subscript o2 i2 p2] k pt] e X.env=pure none:=by rfl)
  (h1:(assignEach [.Tuple [.Subscript o1 i1 p1,.Subscript o2 i2 p2] k pt] X.env).map (·.2)=[assign (.Tuple [.Subscript o1 i1 p1,.Subscript o2 i2 p2] k pt) X.env]:=by rfl) :
  mE X (.Assign [.Tuple [.Subscript o1 i1 p1,.Subscript o2 i2 p2] k pt] e pos) (uT te MV ti1 to2 ti2):=
 ⟨cf (sR he.ok (sQ hc (ja (nU Pc.ok hi1.ok (oA hu) ha1) (ja (nU ho2.ok hi2.ok (oA hu) ha2) pq)) hn hst) hs hw h1) fun D σ H ⟨σ3,S,D3,rσ,rS,h,xo,n,r,bk,ct⟩=>⟨σ3,S,_,D3.ex,rσ,rS,h,xo,fun v S1 v' H1 h1 rv GP g1=>by
  split at h1
  ·cases rv with
   |tup hq rs=>cases rs with
    |cons r1 rs=>cases rs with
     |cons r2 rs=>
      cases rs
      refine⟨_,_,rfl,hq,rfl,_,_,rfl,?_⟩
      exact⟨σ3,S1,_,D3.ex,rσ.mono g1,GP,h1,xo.mono g1,fun o S2 o' H2 h2 ro Hy g2=>⟨σ3,S2,_,D3.ex,rσ.mono (g1.trans g2),Hy,h2,xo.mono (g1.trans g2),fun i S3 i' H3 h3 ri Kr g3=>
       ⟨o,i,_,S3,_,ro.mono g3,ri,r1.mono (g2.trans g3),Kr,h3,fun S4 H4 h4 Mn g4=>⟨_,_,rfl,⟨σ3,S4,_,D3.ex,rσ.mono (g1.trans (g2.trans (g3.trans g4))),Mn,h4,xo.mono (g1.trans (g2.trans (g3.trans g4))),fun o S5 o' H5 h5 ro Mo g5=>⟨σ3,S5,_,D3.ex,rσ.mono ((g1.trans (g2.trans (g3.trans g4))).trans g5),Mo,h5,xo.mono ((g1.trans (g2.trans (g3.trans g4))).trans g5),fun i S6 i' H6 h6 ri Pd g6=>
        ⟨o,i,_,S6,_,ro.mono g6,ri,r2.mono ((g2.trans (g3.trans g4)).trans (g5.trans g6)),Pd,h6,fun S7 H7 h7 Pe g7=>⟨rfl,n _ S7 _ H7 h7 (rσ.mono ((g1.trans (g2.trans (g3.trans g4))).trans (g5.trans (g6.trans g7)))) Pe ((g1.trans (g2.trans (g3.trans g4))).trans (g5.trans (g6.trans g7)))⟩⟩⟩⟩⟩⟩⟩⟩
  ·exact h1.elim⟩⟩
end
end L3
namespace L2
open PySem PySem.Spec PyProof.Rows
def kn(items:Vw):slicePick items none none (some (-1))=items.toList.reverse.toArray:=by
 unfold slicePick
 have e:sliceBounds none none (some (-1)) items.size=((items.size:Int) - 1,-1,-1):=by simp[sliceBounds]
 rw[e]
 dsimp only
 unfold sliceRange
 have ec:(if (-1:Int) > 0 then (if (items.size:Int) - 1 < -1 then (-1 - ((items.size:Int) - 1) + -1 - 1) / -1 else 0) else (if (items.size:Int) - 1 > -1 then ((items.size:Int) - 1 - -1 - -1 - 1) / (- -1) else 0)).toNat=items.size:=by
  rw[if_neg (by decide)]
  split<;>simp<;>omega
 dsimp only
 rw[ec,List.filterMap_map,<-HT.uu]
 congr 1
 congr 1
 funext m
 show items[((items.size:Int) - 1 + -1 * (m:Int)).toNat]?=_
 rw[Int.mul_comm]
section
variable {X:Cx} {e st:Expr} {te ts:TE} {p2 pos:Pos}
def DA(K:Vo)(te ts:TE):TE:=fun σ H Q=>te σ H fun x H1=>ts σ H1 fun y H2=>y = .int (-1)/\∃a xs,x = .ref a/\SqL K H2 a xs/\∀p,H2 p=none->Q (.ref p) (upd H2 p (.lst xs.reverse))
def yg(he:PE X e te)(hst:PE X st ts):PE X (.Subscript e (.Slice none none (some st) p2) pos) (DA X.K te ts):=by
 intro pins s σ H Q I h
 refine Subscript_ (GG (he pins s σ H _ I h) fun v s1 ⟨x,H1,I1,r1,q1⟩=>?_)
 refine wpAny_Slice ?_
 rw[evalPart_none]
 refine PU (PU ?_)
 show wpAny _ _ (eval st X.env) _ _ s1
 refine GG (hst pins s1 σ H1 _ I1 q1) fun u s3 ⟨y,H3,I3,r3,ey,a,xs,ex,hx,q3⟩=>?_
 subst ey
 subst ex
 obtain⟨tk,rfl⟩:=r3
 cases r1
 have I4:Inv X pins σ H3 { s3 with heap:=s3.heap.push { cls:=.type "slice",data:=.fields #[.none,.none,.int (-1) tk] } }:=I3.kept (t':=s3.toks) fun b ob q=>PK _ q
 obtain⟨its,r,ht,hz⟩:=I4.list hx
 have hlen:its.toArray.size=xs.length:=by rw[P8];exact r.length.symm
 have hg:=wpAny_getItem_list_slice (prog:=X.prog) (w:=X.w) (A:=X.A) (E:=X.xe) (Q:=EP X pins σ Q) ht.isList (Heap.IsSliceOf.new ..) .none .none (.int (-1) tk) (by decide) (by
  rw[kn]
  refine⟨.ref _,_,I4.laid (t':=s3.toks) (o:=.lst xs.reverse) (fun b ob q=>PK _ q) (PN _) ?_,rfl,q3 _ (I4.hok.fresh (PN _))⟩
  exact⟨by rw[T3];exact hz,_,0,r.reverse,P9 _ rfl⟩) (by rw[hlen];exact hz)
 show wpAny (model X.prog X.w) X.A (subscriptTail e (.Slice none none (some st) p2) (.ref a) (.ref s3.heap.objs.size)) (EP X pins σ Q) X.xe { s3 with heap:=s3.heap.push { cls:=.type "slice",data:=.fields #[.none,.none,.int (-1) tk] } }
 exact tail_any (ops:=[.ref a,.ref s3.heap.objs.size]) ht.isList.typeIs slot_list_getitem.lookup hg (by with_unfolding_all rfl)
end
end L2
namespace L3
open PySem PySem.Spec PyProof.Rows L2
section
variable {X:Cx} {e st:Expr} {te ts:aK} {p2 pos:Pos}
def uU(te ts:aK):aK:=fun σ S Q E=>te σ S (fun x S1=>ts σ S1 (fun y S2=>match x,y with
 | .ref a,.int i=>i = -1/\(match S2 a with|some (.lst xs)=>∀p,S2 p=none->Q (.ref p) (GC S2 p (.lst xs.reverse))|_=>False)
 |_,_=>False) E) E
def Bs(he:aO X e te)(hs:aO X st ts):aO X (.Subscript e (.Slice none none (some st) p2) pos) (uU te ts):=
 ⟨aE (yg he.ok hs.ok) fun σ H Q ⟨σ3,S,Q3,E3,rσ,rS,h,xo,k⟩=>⟨σ3,S,_,E3,rσ,rS,h,xo,fun x S1 v H1 h1 rx GP g1=>⟨σ3,S1,_,E3,rσ.mono g1,GP,h1,xo.mono g1,fun y S2 u H2 h2 ry Hy g2=>by
  try dsimp only at h2
  split at h2
  ·cases ry
   cases rx
   obtain⟨e1,h2⟩:=h2
   split at h2
   ·rename_i ea
    obtain⟨vs,hv,rs⟩:=Hy _ _ ea
    exact⟨by rw[e1],_,_,rfl,SqL.of hv,fun p hp=>k _ _ _ _ (h2 p (Hy.free hp)) (.ref p) (Hy.new hp ⟨_,ar,rs.reverse.mono (.new hp)⟩) (g1.trans (g2.trans (.new hp)))⟩
   ·exact h2.elim
  ·exact h2.elim⟩⟩⟩
end
end L3
namespace L3
open PySem L2
theorem nh:∀{a b:List Char},a.map Char.toNat=b.map Char.toNat->a=b
 |[],[],_=>rfl
 |[],_::_,h=>by simp at h
 |_::_,[],h=>by simp at h
 |x::a,y::b,h=>by
  simp only[PL,List.cons.injEq]at h
  rw[nh h.2,Char.toNat_inj.mp h.1]
def bi{a b:String}:(Str.ofString a=Str.ofString b)↔a=b:=by
 refine⟨fun h=>?_,fun h=>by rw[h]⟩
 rw[Str.ofString_eq_toList,Str.ofString_eq_toList]at h
 have h':a.toList.map Char.toNat=b.toList.map Char.toNat:=by
  have:=Qu (fun s:Str=>s.cps.toList) h
  simpa using this
 exact String.toList_inj.mp (nh h')
def Bt{i j:Int}(h1:-(2 ^ 64) < i)(h2:i < 2 ^ 64):IntMulOk i j:=(show KY i j from .inl ⟨h1,h2⟩).ok
def yh{i j:Int}(h1:-(2 ^ 64) < j)(h2:j < 2 ^ 64):IntMulOk i j:=(show KY i j from .inr ⟨h1,h2⟩).ok
def iC{i j:Int}(h:0<=j):i.fmod j=i % j:=Int.fmod_eq_emod_of_nonneg i h
def DC{i j:Int}(h:0<=j):i.fdiv j=i / j:=Int.fdiv_eq_ediv_of_nonneg i h
def FF{i j:Int}(h:0 < j)(h2:j < 2 ^ 64):mZ i j:=⟨by omega,Sf (show j.natAbs < 2 ^ 64 by omega) (Tz (by decide) (by decide))⟩
def G9(d l:Addr)(S S':ap):Prop:=∀a o,S a=some o->a≠d->a≠l->S' a=some o
def G9.refl{d l:Addr}{S:ap}:G9 d l S S:=fun _ _ h _ _=>h
def G9.trans{d l:Addr}{S S1 S2:ap}(a:G9 d l S S1)(b:G9 d l S1 S2):G9 d l S S2:=fun x o h h1 h2=>b x o (a x o h h1 h2) h1 h2
def G9.upd{d l:Addr}{S:ap}{o:SO}:G9 d l S (GC S d o):=fun x u h h1 h2=>by rw[ag h1];exact h
def G9.Pf{d l:Addr}{S:ap}{o:SO}:G9 d l S (GC S l o):=fun x u h h1 h2=>by rw[ag h2];exact h
def G9.new{d l p:Addr}{S:ap}{o:SO}(h:S p=none):G9 d l S (GC S p o):=fun x u hx h1 h2=>by rw[ag (fun e=>by rw[e,h]at hx;cases hx)];exact hx
end L3
local macro_rules | `(tactic| walk_at "x")=>`(tactic| ((try dsimp only [L3.af,L3.av,L3.aC,L3.bd,L3.bg,L3.aQ,L3.am,L3.v3,L3.c3,L3.lk,L3.au,L3.aj,L3.al,L3.cz,L3.aL,L3.lw,L3.gK,L3.f7,L3.kH,L3.rJ,L3.lC,L3.rO,L3.bR,L3.aS,L3.sG,L3.iN,L3.aD,L3.lB,L3.aU,L3.kj,L3.gY,L3.gZ,L3.fk,L3.ft,L3.cD,L3.fH,L3.jy,L3.rQ,L3.mF,L3.pS,L3.Ds,L3.bE,L3.oq,L3.aH,L3.iO,L3.bn,L3.rL,L3.jq,L3.fv,L3.cL,L3.jo,List.set_cons_zero,List.set_cons_succ,List.set_nil,L3.kl,L3.cZ,L3.oy,L3.bS,L3.bJ,L3.fx,L3.dy,L3.km,L3.Tg.put,L3.Tg.HI,L3.d6,L3.d5,L3.m5,L3.jv,L3.aI,List.reduceReplicate,List.map_cons,List.map_nil,List.cons_append,List.nil_append,L3.bo,L3.bT,L3.kO]); (try simp only [L3.af,L3.av,L3.aC,L3.bd,L3.bg,L3.aQ,L3.am,L3.v3,L3.c3,L3.lk,L3.au,L3.aj,L3.al,L3.cz,L3.aL,L3.lw,L3.gK,L3.f7,L3.kH,L3.rJ,L3.lC,L3.rO,L3.bR,L3.aS,L3.sG,L3.iN,L3.aD,L3.lB,L3.aU,L3.kj,L3.gY,L3.gZ,L3.fk,L3.ft,L3.cD,L3.fH,L3.jy,L3.rQ,L3.mF,L3.pS,L3.Ds,L3.bE,L3.oq,L3.aH,L3.iO,L3.bn,L3.rL,L3.jq,L3.fv,L3.cL,L3.jo,List.set_cons_zero,List.set_cons_succ,List.set_nil,L3.kl,L3.cZ,L3.oy,L3.bS,L3.bJ,L3.fx,L3.dy,L3.km,L3.Tg.put,L3.Tg.HI,L3.d6,L3.d5,L3.m5,L3.jv,L3.aI,List.reduceReplicate,PL,Qm,List.cons_append,List.nil_append,L3.bo,L3.bT,L3.kO])))
namespace C
open PySem L2 L3
noncomputable def bF(seed number:Int)(l:Addr):List (aZ×PV):=[(Sum.inr "seed",.int seed),(Sum.inr "number",.int number),(Sum.inr "left",.ref l)]
structure Iw (S:ap) (d l:Addr) (seed number:Int) (left:Vu):Prop where
 d:S d=some (.dct (bF seed number l))
 l:S l=some (.lst (left.map PV.int))
 s0:0<=seed
 s1:seed < 2147483647
 nm:0<=number
 lf:∀x∈left,0<=x
 ln:left.length<=100
def GV(S:ap)(d l:Addr):Prop:=∃seed number left,Iw S d l seed number left
def Iw.ne{S:ap}{d l:Addr}{seed number:Int}{left:Vu}(D:Iw S d l seed number left):d≠l:=fun e=>by
 have h:=D.d
 rw[e,D.l]at h
 cases h
def GV.new{S:ap}{d l p:Addr}{o:SO}(D:GV S d l)(h:S p=none):GV (GC S p o) d l:=by
 obtain⟨s,n,f,D⟩:=D
 refine⟨s,n,f,?_,?_,D.s0,D.s1,D.nm,D.lf,D.ln⟩
 ·rw[ag (fun e=>by have:=D.d;rw[e,h]at this;cases this)];exact D.d
 ·rw[ag (fun e=>by have:=D.l;rw[e,h]at this;cases this)];exact D.l
def GV.upd{S:ap}{d l p:Addr}{o:SO}(D:GV S d l)(h1:p≠d)(h2:p≠l):GV (GC S p o) d l:=by
 obtain⟨s,n,f,D⟩:=D
 exact⟨s,n,f,by rw[ag h1.symm];exact D.d,by rw[ag h2.symm];exact D.l,D.s0,D.s1,D.nm,D.lf,D.ln⟩
def GV.free{S:ap}{d l p:Addr}(D:GV S d l)(h:S p=none):p≠d/\p≠l:=by
 obtain⟨s,n,f,D⟩:=D
 exact⟨(fun e=>by have:=D.d;rw[<-e,h]at this;cases this),(fun e=>by have:=D.l;rw[<-e,h]at this;cases this)⟩
def jH(s n m:Int)(l:Addr):iP (bF s n l) (Sum.inr "number") (.int m)=bF s m l:=by
 simp[iP,bF,bi]
def uV(s n m:Int)(l:Addr):iP (bF s n l) (Sum.inr "seed") (.int m)=bF m n l:=by
 simp[iP,bF,bi]
def Bu(s n:Int)(l:Addr):gX (bF s n l) (Sum.inr "seed")=some (.int s):=by simp[gX,bF,bi]
def uW(s n:Int)(l:Addr):gX (bF s n l) (Sum.inr "number")=some (.int n):=by simp[gX,bF,bi]
def Bv(s n:Int)(l:Addr):gX (bF s n l) (Sum.inr "left")=some (.ref l):=by simp[gX,bF,bi]
abbrev b9(w:aG):Prop:=∀{S:ap} {d l:Addr} {m:Int} {Q:bQ} {E:b8},GV S d l->0 < m->m < 2 ^ 62->(∀r S',0<=r->r < m->GV S' d l->G9 d l S S'->Q (.int r) S')->w [.ref d,.int m] S Q E
def GE:b9 (bO 5 eh):=by
  intro S d l m Q E D h0 h1 k
  obtain⟨seed,number,left,D⟩:=D
  have hne:=D.ne
  have hsz:∀a b,(bF a b l).length < sizeLine:=fun _ _=>dr (by show 3<=1000;decide)
  have fin:∀num JV S1,Iw S1 d l seed num JV->G9 d l S S1->¬(num=0/\0 < JV.length)->
      (if 0 < num then mZ num m/\(bF seed num l).length < sizeLine/\m≠0/\Q (PV.int (num.fmod m)) (GC S1 d (SO.dct (bF seed (num.fdiv m) l)))
       else IntMulOk seed 48271/\(2147483647:Int)≠0/\IntMulOk ((seed * 48271+7919).fmod 2147483647) 40692/\(2147483399:Int)≠0/\(bF seed num l).length < sizeLine/\
        IntMulOk (((seed * 48271+7919).fmod 2147483647 * 40692+104729).fmod 2147483399) (((seed * 48271+7919).fmod 2147483647 * 40692+104729).fmod 2147483399)/\(2147483563:Int)≠0/\
        IntMulOk ((seed * 48271+7919).fmod 2147483647) ((seed * 48271+7919).fmod 2147483647)/\(2147483629:Int)≠0/\
        IntMulOk (((seed * 48271+7919).fmod 2147483647 * (seed * 48271+7919).fmod 2147483647).fmod 2147483629) 2147483563/\m≠0/\
        Q (PV.int ((((seed * 48271+7919).fmod 2147483647 * (seed * 48271+7919).fmod 2147483647).fmod 2147483629 * 2147483563+((((seed * 48271+7919).fmod 2147483647 * 40692+104729).fmod 2147483399) * (((seed * 48271+7919).fmod 2147483647 * 40692+104729).fmod 2147483399)).fmod 2147483563).fmod m))
          (GC S1 d (SO.dct (bF (((seed * 48271+7919).fmod 2147483647 * 40692+104729).fmod 2147483399) num l)))):=by
    intro num JV S1 D1 O1 hz
    split
    . rename_i hp
      rw[iC (T6 h0),DC (T6 h0)]
      refine⟨FF h0 (by omega),hsz _ _,by omega,k _ _ (TV _ (by omega)) (SE _ h0) ⟨seed,num / m,JV,aa,by rw[ag hne.symm];exact D1.l,D1.s0,D1.s1,Int.ediv_nonneg D1.nm (T6 h0),D1.lf,D1.ln⟩ (O1.trans .upd)⟩
    . have e1:∀x:Int,x.fmod 2147483647=x % 2147483647:=fun x=>iC (by decide)
      have e2:∀x:Int,x.fmod 2147483399=x % 2147483399:=fun x=>iC (by decide)
      simp only[e1,e2,iC (T6 h0)]
      have p1:=D1.s0
      have p2:=D1.s1
      refine⟨yh (by decide) (by decide),by decide,yh (by decide) (by decide),by decide,hsz _ _,Bt (by omega) (by omega),by decide,Bt (by omega) (by omega),by decide,yh (by decide) (by decide),by omega,
        k _ _ (TV _ (by omega)) (SE _ h0) ⟨_,num,JV,aa,by rw[ag hne.symm];exact D1.l,by omega,by omega,D1.nm,D1.lf,D1.ln⟩ (O1.trans .upd)⟩
  unfold bO eh
  rw[show aA 5 [PV.ref d,PV.int m]=[some (.ref d),some (.int m),none,none,none] from rfl]
  simp only[af]
  refine⟨fun n σ S'=>σ=[some (.ref d),some (.int m),none,none,none]/\∃number left,Iw S' d l seed number left/\left.length=n/\G9 d l S S',⟨_,rfl,number,left,D,rfl,.refl⟩,?_⟩
  rintro n σ S1 ⟨rfl,num,JV,D1,hn,O1⟩
  walk_at "x"
  simp only[D1.d,D1.l,uW,Bv,Bu,uV,jH,aa,Qn,Qf]
  have hlen:(List.map PV.int JV).length=JV.length:=PY ..
  rw[hlen]
  split
  . rename_i hz
    subst hz
    split
    . rename_i hl
      refine⟨fun σ S'=>σ=[some (.ref d),some (.int m),none,none,none]/\∃number left,Iw S' d l seed number left/\left.length < n/\G9 d l S S',?_,?_⟩
      . rintro σ' S' ⟨rfl,a,b,h2,h3,h4⟩
        exact⟨_,h3,rfl,a,b,h2,rfl,h4⟩
      . have hl':0 < JV.length:=by omega
        obtain⟨pre,x,rfl⟩:∃pre x,JV=pre++[x]:=by
          refine⟨JV.dropLast,JV.getLast (by intro e;rw[e]at hl';simp at hl'),(RW _).symm⟩
        refine⟨trivial,?_⟩
        rw[show(List.map PV.int (pre++[x]))[(pre++[x]).length - 1]?=some (.int x) by simp,show(List.map PV.int (pre++[x])).dropLast=pre.map PV.int by simp]
        simp only[ag hne,D1.d,jH]
        refine⟨hsz _ _,trivial,x,pre,⟨aa,by rw[ag hne.symm,aa],D1.s0,D1.s1,D1.lf x (by simp),fun y hy=>D1.lf y (by simp[hy]),by have:=D1.ln;simp at this;omega⟩,?_,O1.trans (G9.Pf.trans .upd)⟩
        rw[<-hn];simp
    . rename_i hl
      exact fin 0 JV S1 D1 O1 (fun z=>hl (by omega))
  . rename_i hz
    rw[if_neg (by decide)]
    exact fin num JV S1 D1 O1 (fun z=>hz z.1)
end C
namespace L3
open PySem L2
def Ext(S S':ap):Prop:=∀a o,S a=some o->S' a=some o
def Ext.refl{S:ap}:Ext S S:=fun _ _ h=>h
def Ext.trans{S S1 S2:ap}(a:Ext S S1)(b:Ext S1 S2):Ext S S2:=fun x o h=>b x o (a x o h)
def Ext.new{S:ap}{p:Addr}{o:SO}(h:S p=none):Ext S (GC S p o):=fun x u hx=>by rw[ag (fun e=>by rw[e,h]at hx;cases hx)];exact hx
def Ext.free{S S':ap}(e:Ext S S'){p:Addr}(h:S' p=none):S p=none:=by
 cases q:S p with
 |none=>rfl
 |some o=>rw[e p o q]at h;cases h
def Ext.Lb{d l:Addr}{S S':ap}(e:Ext S S'):G9 d l S S':=fun a o h _ _=>e a o h
theorem dM{g:Tg}{tc:iz}{te:aK}{σ':bM}{keep:ap->Prop}{fin:List PV->ap->Prop}{S:ap}(f:PV->PV)(c:PV->Bool)(hk:keep S):∀(items ys:List PV),
  (∀x∈items,∃σ2,g.put x σ'=some σ2/\(∀Q:Bool->ap->Prop,Q (c x) S->tc σ2 S Q fF)/\(c x=true->∀Q:bQ,Q (f x) S->te σ2 S Q fF))->ys.length+items.length<=sizeLine->fin (ys++(items.filter c).map f) S->cC g tc te σ' keep fin items ys S
 |[],ys,_,hl,hf=>⟨hk,by simpa using hl,by simpa using hf⟩
 |x::r,ys,h,hl,hf=>by
  obtain⟨σ2,e,h1,h2⟩:=h x (by simp)
  refine⟨hk,by simp at hl;omega,?_⟩
  rw[e]
  refine h1 _ ?_
  cases hc:c x with
  |true=>
   rw[if_pos rfl]
   refine h2 hc _ (dM f c hk r (ys++[f x]) (fun y hy=>h y (by simp[hy])) (by simp at hl ⊢;omega) ?_)
   rw[List.filter_cons,hc,if_pos rfl]at hf
   simpa using hf
  |false=>
   rw[if_neg (by decide)]
   refine dM f c hk r ys (fun y hy=>h y (by simp[hy])) (by simp at hl ⊢;omega) ?_
   rw[List.filter_cons,hc,if_neg (by decide)]at hf
   exact hf
def r_{g:Tg}{te:aK}{σ':bM}{keep:ap->Prop}{fin:List PV->ap->Prop}{S:ap}(f:PV->PV){items:List PV}(hk:keep S)
  (h:∀x∈items,∃σ2,g.put x σ'=some σ2/\∀Q:bQ,Q (f x) S->te σ2 S Q fF) (hl:items.length<=sizeLine) (hf:fin (items.map f) S):cC g fG te σ' keep fin items [] S:=by
 refine dM f (fun _=>true) hk items [] (fun x hx=>?_) (by simpa using hl) (by rw[List.filter_eq_self.mpr (fun _ _=>rfl)];exact hf)
 obtain⟨σ2,e,k⟩:=h x hx
 exact⟨σ2,e,fun Q q=>q,fun _=>k⟩
theorem kT{g:Tg}{tc:iz}{te:aK}{σ':bM}{keep:ap->Prop}{fin:List PV->ap->Prop}{items:List PV}(Iv:List PV->List PV->ap->Prop)(hk:∀done ys S,Iv done ys S->keep S/\ys.length<=sizeLine)
  (step:∀done x rest ys S (K:List PV->ap->Prop),items=done++x::rest->Iv done ys S->(∀ys' S',Iv (done++[x]) ys' S'->K ys' S')->match g.put x σ' with
   |some σ2=>tc σ2 S (fun b S3=>if b=true then te σ2 S3 (fun y S4=>K (ys++[y]) S4) fF else K ys S3) fF
   |none=>False)
  (hf:∀ys S,Iv items ys S->fin ys S):∀(rest done ys:List PV) (S:ap),items=done++rest->Iv done ys S->cC g tc te σ' keep fin rest ys S
 |[],done,ys,S,e,h=>by
  rw[Qv]at e
  exact⟨(hk _ _ _ h).1,(hk _ _ _ h).2,hf ys S (e▸h)⟩
 |x::rest,done,ys,S,e,h=>by
  refine⟨(hk _ _ _ h).1,(hk _ _ _ h).2,?_⟩
  exact step done x rest ys S (fun ys' S'=>cC g tc te σ' keep fin rest ys' S') e h fun ys' S' h'=>kT Iv hk step hf rest (done++[x]) ys' S' (by rw[e];simp) h'
theorem ni{g:Tg}{tb:bw}{D:fZ}{keep:ap->Prop}{items:List PV}(Iv:List PV->bM->ap->Prop)(hk:∀done σ S,Iv done σ S->keep S)
  (step:∀done x rest σ S (K:bM->ap->Prop),items=done++x::rest->Iv done σ S->(∀σ' S',Iv (done++[x]) σ' S'->K σ' S')->match g.put x σ with
   |some σ'=>tb { D with nx:=K,ct:=K,bk:=D.nx } σ' S
   |none=>False)
  (hd:∀σ S,Iv items σ S->D.nx σ S):∀(rest done:List PV) (σ:bM) (S:ap),items=done++rest->Iv done σ S->lE g tb D keep rest σ S
 |[],done,σ,S,e,h=>by
  rw[Qv]at e
  exact⟨hk _ _ _ h,hd σ S (e▸h)⟩
 |x::rest,done,σ,S,e,h=>
  ⟨hk _ _ _ h,step done x rest σ S (lE g tb D keep rest) e h fun σ' S' h'=>ni Iv hk step hd rest (done++[x]) σ' S' (by rw[e];simp) h'⟩
def cM{g:Tg}{tb:bw}{D:fZ}{keep:ap->Prop}{items:List PV}{σ:bM}{S:ap}(Iv:List PV->bM->ap->Prop)(h0:Iv [] σ S)(hk:∀done σ S,Iv done σ S->keep S)
  (step:∀done x rest σ S (K:bM->ap->Prop),items=done++x::rest->Iv done σ S->(∀σ' S',Iv (done++[x]) σ' S'->K σ' S')->match g.put x σ with
   |some σ'=>tb { D with nx:=K,ct:=K,bk:=D.nx } σ' S
   |none=>False)
  (hd:∀σ S,Iv items σ S->D.nx σ S):lE g tb D keep items σ S:=ni Iv hk step hd items [] σ S rfl h0
def nj{g:Tg}{tc:iz}{te:aK}{σ':bM}{keep:ap->Prop}{fin:List PV->ap->Prop}{items:List PV}{S:ap}(Iv:List PV->List PV->ap->Prop)(h0:Iv [] [] S)(hk:∀done ys S,Iv done ys S->keep S/\ys.length<=sizeLine)
  (step:∀done x rest ys S (K:List PV->ap->Prop),items=done++x::rest->Iv done ys S->(∀ys' S',Iv (done++[x]) ys' S'->K ys' S')->match g.put x σ' with
   |some σ2=>tc σ2 S (fun b S3=>if b=true then te σ2 S3 (fun y S4=>K (ys++[y]) S4) fF else K ys S3) fF
   |none=>False)
  (hf:∀ys S,Iv items ys S->fin ys S):cC g tc te σ' keep fin items [] S:=kT Iv hk step hf items [] [] S rfl h0
def aw{t u:bw}{D:fZ}{σ:bM}{S:ap}(h:∀N:bM->ap->Prop,(∀σ S,u D σ S->N σ S)->t { D with nx:=N } σ S):af t u D σ S:=h (u D) fun _ _ q=>q
def j9{n:Nat}{b:bw}{args:List PV}{S:ap}{Q:bQ}{E:b8}(h:b { nx:=fun _ S'=>Q .non S',rt:=Q,ex:=fF } (aA n args) S):bO n b args S Q E:=h
def uX{α β:Type}(f:α->β)(xs:List α)(lo hi:Option Int):ci (xs.map f) lo hi=(ci xs lo hi).map f:=by
 unfold ci
 rw[PY,List.map_take,List.map_drop]
def uY{α:Type}(xs:List α)(lo hi:Option Int):(ci xs lo hi).length<=xs.length:=by
 unfold ci
 rw[RK,Se]
 omega
def gm{n:Nat}(h:n<=1000):n<=sizeLine:=RB (dr h)
section
variable {α:Type} {a b c d e:α} {l:List α}
def uZ:He (a::l) 0=some a:=by simp[He,pD]
def FG:He (a::b::l) 1=some b:=dC (j:=1) rfl
def Bw:He [a] (-1)=some a:=rfl
def Bx:He [a,b] (-1)=some b:=rfl
def By:He [a,b,c] (-1)=some c:=rfl
def Bz:He [a,b,c,d] (-1)=some d:=rfl
def BA:He [a,b,c,d,e] (-1)=some e:=rfl
def BB:He [a,b] (-2)=some a:=rfl
def BC:He [a,b,c] (-2)=some b:=rfl
def BD:He [a,b,c,d] (-2)=some c:=rfl
def BE:He [a,b,c,d,e] (-2)=some d:=rfl
end
def b_(lo:Int)(n:Nat):(cA lo n).length=n:=by simp[cA]
end L3
namespace C
open PySem L2 L3
abbrev nk(w:aG):Prop:=∀{S:ap} {ns:Vu} {b:Int} {Q:bQ} {E:b8},ns.length<=63->0<=b->b < 1000->(∀d l S',S d=none->S l=none->GV S' d l->Ext S S'->Q (.ref d) S')->w [.cl (ns.map PV.int),.int b] S Q E
def Ji:nk (bO 5 eg):=by
 intro S ns b Q E hn h0 h1 k
 unfold bO eg
 rw[show aA 5 [PV.cl (ns.map PV.int),PV.int b]=[some (.cl (ns.map PV.int)),some (.int b),none,none,none] from rfl]
 walk_at "x"
 intro p hp
 rw[aa]
 dsimp only
 rw[uX]
 have hx:(ci ns (some b) (some 63)).length<=63:=PZ (uY _ _ _) hn
 generalize ci ns (some b) (some 63)=xs at hx
 refine r_ (fun v=>match v with | .int i=>.int (if 0 - i > i then 0 - i else i)|v=>v) aa (fun x hx=>?_) (gm (by rw[PY];omega)) ?_
 ·obtain⟨i,hi,rfl⟩:=Qt.mp hx
  refine⟨[some (.int i)],rfl,fun Q q=>?_⟩
  walk_at "x"
  exact q
 intro p2 hp2
 rw[aa]
 dsimp only
 rw[QH]
 have e0:(xs.map ((fun v=>match v with | .int i=>.int (if 0 - i > i then 0 - i else i)|v=>v) ∘ PV.int))=(xs.map fun i=>if 0 - i > i then 0 - i else i).map PV.int:=by
  rw[QH];rfl
 rw[e0]
 have hy:((xs.map fun i=>if 0 - i > i then 0 - i else i)).length<=63:=by rw[PY];exact hx
 have LZ:∀y∈xs.map (fun i:Int=>if 0 - i > i then 0 - i else i),0<=y:=by
  intro y hy
  obtain⟨i,_,rfl⟩:=Qt.mp hy
  split<;>omega
 generalize (xs.map fun i=>if 0 - i > i then 0 - i else i)=ys at hy LZ
 have h2:p2≠p:=fun e=>by rw[e,aa]at hp2;cases hp2
 have hp2':S p2=none:=by rw[<-hp2,ag h2]
 refine cM (fun done σ S'=>S'=GC (GC S p (.lst (xs.map PV.int))) p2 (.lst (ys.map PV.int))/\∃v2 n,0<=n/\n < 2147483647/\σ=[some (.cl (ns.map PV.int)),some (.int b),v2,some (.ref p2),some (.int n)]) ⟨rfl,none,7919+b,by omega,by omega,rfl⟩ (fun done σ S' h=>by rw[h.1];exact aa) ?_ ?_
 ·rintro done x rest σ S' K e ⟨rfl,v2,n,n0,n1,rfl⟩ hK
  obtain⟨i,hi,rfl⟩:∃i,i∈ys/\x = .int i:=by
   have:x∈ys.map PV.int:=by rw[e];simp
   obtain⟨i,hi,rfl⟩:=Qt.mp this
   exact⟨i,hi,rfl⟩
  walk_at "x"
  refine⟨yh (by decide) (by decide),by decide,by decide,hK _ _ ⟨rfl,_,_,?_,?_,rfl⟩⟩
  ·rw[iC (by decide)];omega
  ·rw[iC (i:=(n * 48271+_)) (by decide)];omega
 ·rintro σ S' ⟨rfl,v2,n,n0,n1,rfl⟩
  walk_at "x"
  intro d hd
  have hd2:d≠p2:=fun e=>by rw[e,aa]at hd;cases hd
  rw[ag hd2]at hd
  have hd1:d≠p:=fun e=>by rw[e,aa]at hd;cases hd
  rw[ag hd1]at hd
  rw[ag hd2.symm,aa]
  dsimp only
  refine dM (fun v=>v) (fun v=>match v with | .int i=>decide (10 ^ 18<=i)|_=>false) (by rw[ag hd2.symm,aa]) _ [] (fun x hx=>?_) (by rw[PY];exact gm (by simp;omega)) ?_
  ·obtain⟨i,hi,rfl⟩:=Qt.mp hx
   refine⟨[some (.int i)],rfl,fun Q q=>?_,fun _ Q q=>?_⟩
   ·walk_at "x"
    exact⟨⟨by decide,by decide,by decide⟩,q⟩
   ·walk_at "x"
    exact q
  intro p3 hp3
  rw[aa]
  intro l hl
  have e3:([]++List.map (fun v:PV=>v) (List.filter (fun v=>match v with | .int i=>decide (10 ^ 18<=i)|_=>false) (List.map PV.int ys)))=(ys.filter fun i=>decide (10 ^ 18<=i)).map PV.int:=by
   rw[Q0,List.map_id',List.filter_map]
   rfl
  rw[e3]at hl ⊢
  rw[<-List.map_reverse]
  generalize Oi:GC (GC (GC (GC S p (SO.lst (List.map PV.int xs))) p2 (SO.lst (List.map PV.int ys))) d (SO.dct [])) p3 (SO.lst (List.map PV.int (List.filter (fun i=>decide (10 ^ 18<=i)) ys)))=S3 at hl ⊢
  have Oj:S3 d=some (.dct []):=by rw[<-Oi,ag (fun e=>by rw[<-e,aa]at hp3;cases hp3),aa]
  have Ol:l≠d:=fun e=>by rw[e,Oj]at hl;cases hl
  have Nv:Ext S S3:=by
   rw[<-Oi]
   refine(Ext.new hp).trans ((Ext.new hp2).trans ((Ext.new ?_).trans (.new hp3)))
   rw[ag hd2,ag hd1];exact hd
  refine⟨by rw[ag Ol.symm];exact Oj,?_⟩
  have e4:jw [(PV.str "seed",PV.int n),(PV.str "number",PV.int 0),(PV.str "left",PV.ref l)]=some (bF n 0 l):=rfl
  rw[e4]
  have e5:c_ [] (bF n 0 l)=bF n 0 l:=by simp[c_,bF,iP,bi]
  dsimp only
  rw[e5]
  refine k d l _ hd (Nv.free hl) ⟨n,0,_,aa,by rw[ag Ol,aa],n0,n1,Int.le_refl _,fun y hy=>?_,?_⟩ ?_
  ·exact LZ y (TJ.mp (List.mem_reverse.mp hy)).1
  ·rw[T3]
   exact PZ (List.length_filter_le _ _) (by omega)
  ·intro a o ha
   have had:a≠d:=fun e=>by rw[e,hd]at ha;cases ha
   rw[ag had,ag (fun e=>by rw[e,Nv.free hl]at ha;cases ha)]
   exact Nv a o ha
end C
namespace L3
open PySem L2
theorem gq(S:ap):∀zs:List Str,Hz S (zs.map PV.str) (zs.map PyData.str)
 |[]=>.nil
 |z::r=>.cons (.str z) (gq S r)
theorem eA:∀{zs:Vs},(∀z∈zs,PyData.strOk z=true)->PyData.canLayAll0 (zs.map PyData.str)=true
 |[],_=>rfl
 |z::r,h=>by
  show(PyData.canLay0 (.str z)&&PyData.canLayAll0 (r.map PyData.str))=true
  rw[eA fun y hy=>h y (by simp[hy])]
  have:PyData.canLay0 (.str z)=true:=h z (by simp)
  rw[this];rfl
def jI(z:Str)(zs:Vs):fu (.str z) (zs.map PyData.str)=decide (z∈zs):=by
 unfold fu
 rw[List.any_map,Rz,List.any_eq_true,decide_eq_true_iff]
 constructor
 ·rintro⟨y,hy,e⟩
  have e':(y == z)=true:=e
  exact(eq_of_beq e')▸hy
 ·intro h
  exact⟨z,h,Sj z⟩
def p0{neg:Bool}{z:Str}{zs:Vs}{a:Addr}{S:ap}{Q:bQ}(hS:S a=some (.lst (zs.map PV.str)))(hz:PyData.strOk z=true)(hzs:∀y∈zs,PyData.strOk y=true)(q:Q (.bl (neg != decide (z∈zs))) S):jp neg (.str z) (.ref a) S Q:=by
 unfold jp
 simp only[hS]
 exact⟨_,_,.str z,gq S zs,hz,eA hzs,by show 0<=150;decide,by rw[jI];exact q⟩
def u4{neg:Bool}{z:Str}{zs:Vs}{S:ap}{Q:bQ}(hz:PyData.strOk z=true)(hzs:∀y∈zs,PyData.strOk y=true)(q:Q (.bl (neg != decide (z∈zs))) S):jp neg (.str z) (.tup (zs.map PV.str)) S Q:=by
 unfold jp
 exact⟨_,_,.str z,gq S zs,hz,eA hzs,by show 0<=150;decide,by rw[jI];exact q⟩
end L3
namespace C
open PySem L2 L3 Wd
abbrev lR(w:aG):Prop:=∀{S:ap} {t b:Int} {Q:bQ} {E:b8},0 < b->b.natAbs < 2 ^ 8000->Q (.tup [.int (M3.ji t b),.int (M3.ki t b)]) S->w [.int t,.int b] S Q E
def Ix:lR (bO 4 fI):=by
 intro S t b Q E hb hs k
 unfold bO fI
 rw[show aA 4 [PV.int t,PV.int b]=[some (.int t),some (.int b),none,none] from rfl]
 simp only[af]
 walk_at "x"
 refine⟨fun n σ S'=>S'=S/\∃x y:Int,σ=[some (.int t),some (.int b),some (.int x),some (.int y)]/\0<=x/\0<=y/\Int.gcd x y=Int.gcd t b/\y.toNat=n,⟨_,rfl,_,b,rfl,by split<;>omega,by omega,?_,rfl⟩,?_⟩
 ·split
  ·rw[show(0 - t) = -t by omega,Int.neg_gcd]
  ·rfl
 rintro n σ S' ⟨rfl,x,y,rfl,hx,hy,hg,rfl⟩
 walk_at "x"
 simp only[Qf]
 split
 ·rename_i hp
  refine⟨fun σ' Mr=>Mr=S'/\∃x' y':Int,σ'=[some (.int t),some (.int b),some (.int x'),some (.int y')]/\0<=x'/\0<=y'/\Int.gcd x' y'=Int.gcd t b/\y'.toNat < y.toNat,?_,?_⟩
  ·rintro σ' Mr ⟨rfl,x',y',rfl,h1,h2,h3,h4⟩
   exact⟨_,h4,rfl,x',y',rfl,h1,h2,h3,rfl⟩
  ·walk_at "x"
   have e:x.fmod y=x % y:=iC hy
   have l1:=TV x (b:=y) (by omega)
   have l2:=SE x hp
   refine⟨by omega,trivial,y,x.fmod y,rfl,hy,by omega,?_,by omega⟩
   rw[M3.mT];exact hg
 ·rename_i hp
  have LZ:y=0:=by omega
  subst LZ
  have Nw:x=(Int.gcd t b:Int):=by
   rw[<-hg]
   rw[Int.gcd_zero_right]
   omega
  subst Nw
  have gp:(0:Int) < (Int.gcd t b:Int):=TU.mpr (M3.fX (by omega))
  have gl:=M3.AJ (t:=t) (b:=b) (by omega)
  have cd:∀z,mZ z (Int.gcd t b:Int):=fun z=>⟨by omega,Sz (by omega) hs⟩
  refine⟨cd _,cd _,?_⟩
  have d1:=(M3.tS (t:=t) (b:=b) (by omega))
  rw[if_neg (by omega)]at d1
  rw[d1.1,d1.2]
  exact k
def sd{n:Nat}(h:n < 2 ^ 64):n < 2 ^ 8000:=Sf h (Tz (by decide) (by decide))
def sf{r:Int}(h0:0<=r)(h1:r < 26):∃c,He abc.cps.toList r=some c/\97<=c/\c<=122:=by
 obtain⟨n,rfl⟩:=QJ h0
 have q:=AI n
 rw[Nat.mod_eq_of_lt (by omega)]at q
 exact⟨_,q,by omega,by omega⟩
def BF{z:Str}(h:Co z):PyData.strOk z=true:=by
 unfold PyData.strOk
 rw[Array.all_eq_true']
 intro c hc
 have:=h.sm c (by simpa using hc)
 simp;omega
def lS:∀z∈GW,PyData.strOk z=true:=by decide +kernel
theorem fb:∀zs:List Str,texts (zs.map PV.str)=some zs
 |[]=>rfl
 |z::r=>by show(texts (r.map PV.str)).map (z::·)=_;rw[fb r];rfl
def sh:("":Str).length=0:=by decide +kernel
def si{cs:List Nat}(h:cs.length<=1000):((cs.map sgn).map (·.length)).sum+(cs.map sgn).length * ("":Str).length<=1000000:=by
 rw[xq,sh]
 omega
def oN{w__law_draw:aG}(GE:b9 w__law_draw){S:ap}{d l:Addr}{σ:bM}{n:Int}{fin:List PV->ap->Prop}(D:GV S d l)(hn:n.toNat<=100)(h1:lk σ 1=some (.ref d))(h2:lk σ 2=some (.str abc))(hσ:∃x,σ=[x,some (.ref d),some (.str abc)])
  (k:∀(cs:List Nat) S',cs.length=n.toNat->(∀c∈cs,97<=c/\c<=122)->GV S' d l->G9 d l S S'->fin ((cs.map sgn).map PV.str) S') :
  cC (Tg.n 0) fG (am aD (v3 2) (al w__law_draw [v3 1,c3 (.int 26)])) σ (fun _=>True) fin (cA 0 n.toNat) [] S:=by
 obtain⟨x0,rfl⟩:=hσ
 refine nj (fun done ys S'=>∃cs:List Nat,ys=(cs.map sgn).map PV.str/\cs.length=done.length/\done.length<=n.toNat/\(∀c∈cs,97<=c/\c<=122)/\GV S' d l/\G9 d l S S') ⟨[],rfl,rfl,Qc _,by simp,D,.refl⟩ ?_ ?_ ?_
 ·rintro done ys S' ⟨cs,rfl,e,hd,_⟩
  exact⟨trivial,gm (by rw[PY,PY,e];omega)⟩
 ·rintro done x rest ys S' K e ⟨cs,rfl,e2,hd,hc,D',O'⟩ hK
  have hlen:done.length+1<=n.toNat:=by
   have:=Qu List.length e
   rw[b_,PX,Qa]at this
   omega
  walk_at "x"
  simp only[fG,Rj]
  refine GE D' (by decide) (by decide) fun r S2 r0 r1 D2 O2=>⟨xp.1,?_⟩
  obtain⟨c,ec,c0,c1⟩:=sf r0 r1
  rw[ec]
  refine hK _ _ ⟨cs++[c],by simp,by simp[e2],by simpa using hlen,fun y hy=>?_,D2,O'.trans O2⟩
  rcases Qe.mp hy with hy|hy
  ·exact hc y hy
  ·rw[P1.mp hy];exact⟨c0,c1⟩
 ·rintro ys S' ⟨cs,rfl,e,hd,hc,D',O'⟩
  exact k cs S' (by rw[e,b_]) hc D' O'
inductive Bd where
 |rest|pay (x y:Int)|put (z:Str) (m:Int)|use (z:Str)|HN (a:Bd)|GG (a b:Bd)|HG (a b:Bd)|HJ (z:Str) (m:Int) (a b:Bd)
noncomputable def Bd.pv:Bd->PV
 | .rest=>.tup [.str "rest"]
 | .pay x y=>.tup [.str "pay",.tup [.int x,.int y]]
 | .put z m=>.tup [.str "put",.str z,.int m]
 | .use z=>.tup [.str "use",.str z]
 | .HN a=>.tup [.str "often",a.pv]
 | .GG a b=>.tup [.str "then",a.pv,b.pv]
 | .HG a b=>.tup [.str "either",a.pv,b.pv]
 | .HJ z m a b=>.tup [.str "take",.str z,.int m,a.pv,b.pv]
noncomputable def Bd.dep:Bd->Nat
 | .HN a=>a.dep+1
 | .GG a b=>max a.dep b.dep+1
 | .HG a b=>max a.dep b.dep+1
 | .HJ _ _ a b=>max a.dep b.dep+1
 |_=>1
noncomputable def Bd.size:Bd->Nat
 | .HN a=>a.size+1
 | .GG a b=>a.size+b.size+1
 | .HG a b=>a.size+b.size+1
 | .HJ _ _ a b=>a.size+b.size+1
 |_=>1
def Bd.K6(t:Bd):1<=t.dep:=by cases t<;>simp[Bd.dep]
def i0{α:Type}{xs:List α}{r:Int}(h0:0<=r)(h1:r < xs.length):∃v,He xs r=some v/\v∈xs:=by
 obtain⟨n,rfl⟩:=QJ h0
 have hn:n < xs.length:=by omega
 exact⟨xs[n],dC (by simp[hn]),Uj hn⟩
end C
local macro_rules | `(tactic| walk_at "w")=>`(tactic| simp only [L3.af,L3.av,L3.aC,L3.bd,L3.bg,L3.aQ,L3.am,L3.v3,L3.c3,L3.lk,L3.au,L3.aj,L3.al,L3.cz,L3.aL,L3.lw,L3.gK,L3.f7,L3.kH,L3.rJ,L3.lC,L3.rO,L3.bR,L3.aS,L3.sG,L3.iN,L3.aD,L3.lB,L3.aU,L3.kj,L3.gY,L3.gZ,L3.fk,L3.ft,L3.cD,L3.fH,L3.jy,L3.rQ,L3.mF,L3.pS,L3.Ds,L3.bE,L3.oq,L3.aH,L3.iO,L3.bn,L3.rL,L3.jq,L3.fv,L3.cL,L3.jo,List.set_cons_zero,List.set_cons_succ,List.set_nil,L3.kl,L3.cZ,L3.oy,L3.bS,L3.bJ,L3.fx,L3.dy,L3.km,L3.Tg.put,L3.Tg.HI,L3.d6,L3.d5,L3.m5,L3.jv,L3.aI,List.reduceReplicate,PL,Qm,List.cons_append,List.nil_append,L3.uZ,L3.FG,L3.Bw,L3.Bx,L3.By,L3.Bz,L3.BA,L3.BB,L3.BC,L3.BD,L3.BE,L3.bi,String.reduceEq,decide_true,decide_false,Qn,Tu,RH,Ub,Rj,QN,Qd,reduceIte,ite_true,ite_false,L3.bo,L3.bT,L3.kO])
local macro_rules | `(tactic| walk_at "y")=>`(tactic| ((try walk_at "x"); (try walk_at "w")))
namespace C
open PySem L2 L3 Wd
structure Sh (S:ap) (v:PV) (d:PyData) (n k:Nat):Prop where
 dat:Dat S v d
 lay:d.canLay0=true
 LF:d.showable=true
 dep:d.depth<=k
 len:d.shown.length<=n
structure KR (S:ap) (vs:List PV) (ds:List PyData) (n k:Nat):Prop where
 dat:Hz S vs ds
 lay:PyData.canLayAll0 ds=true
 LF:PyData.showableAll ds=true
 dep:PyData.depthAll ds<=k
 len:piled (PyData.shownAll ds)<=n
def Sh.le{S:ap}{v:PV}{d:PyData}{n k m j:Nat}(h:Sh S v d n k)(a:n<=m)(b:k<=j):Sh S v d m j:=⟨h.dat,h.lay,h.LF,PZ h.dep b,PZ h.len a⟩
def KR.le{S:ap}{v:List PV}{d:List PyData}{n k m j:Nat}(h:KR S v d n k)(a:n<=m)(b:k<=j):KR S v d m j:=⟨h.dat,h.lay,h.LF,PZ h.dep b,PZ h.len a⟩
theorem Sh.int{S:ap}{i:Int}(h:i.natAbs.log2 < 1920):Sh S (.int i) (.int i) 1921 0:=
 ⟨.int i,by simp[PyData.canLay0],by simpa [PyData.showable]using h,by simp[PyData.depth],by rw[PyData.shown_int];exact PyProof.Rows.int_text_len_1921 h⟩
theorem Sh.str{S:ap}{z:Str}(h:PyData.strOk z=true):Sh S (.str z) (.str z) (10 * z.length+2) 0:=
 ⟨.str z,by simpa [PyData.canLay0]using h,by simp[PyData.showable],by simp[PyData.depth],by
  rw[PyData.shown_str]
  refine StrLaws.reprText_len z fun c hc=>?_
  have h3:=Array.all_eq_true_iff_forall_mem.mp h c (Array.mem_toList_iff.mp hc)
  have h4:c < 0x110000:=by simpa using h3
  have e:(16:Nat) ^ 8=4294967296:=by decide
  omega⟩
theorem KR.nil{S:ap}:KR S [] [] 0 0:=⟨.nil,by simp[PyData.canLayAll0],by simp[PyData.showableAll],by simp[PyData.depthAll],by simp[PyData.shownAll,piled]⟩
theorem Sh.cons{S:ap}{v:PV}{d:PyData}{n k:Nat}{vs:List PV}{ds:List PyData}{m:Nat}(a:Sh S v d n k)(b:KR S vs ds m k):KR S (v::vs) (d::ds) (n+2+m) k:=
 ⟨.cons a.dat b.dat,by simp[PyData.canLayAll0,a.lay,b.lay],by simp[PyData.showableAll,a.LF,b.LF],by simp only[PyData.depthAll];exact Nat.max_le.mpr ⟨a.dep,b.dep⟩,by
  rw[PyData.shownAll_cons,piled_cons]
  have:=a.len
  have:=b.len
  omega⟩
theorem Sh.tup{S:ap}{n k:Nat}{vs:List PV}{ds:List PyData}(a:KR S vs ds n k):Sh S (.tup vs) (.tuple ds) (n+3) (k+1):=
 ⟨.tup a.dat,by simp[PyData.canLay0,a.lay],by simp[PyData.showable,a.LF],by simp only[PyData.depth];exact QO a.dep,by
  rw[PyData.shown_tuple,strLen_append,strLen_append]
  have e1:((("(":String):Str)).length=1:=rfl
  have e3:(((if ds.length == 1 then ",)" else ")":String):Str)).length<=2:=by split<;>decide
  have q:=a.len
  rcases ds with _|⟨d,ds⟩
  ·have:(Str.join ", " (PyData.shownAll [])).length=0:=by simp[PyData.shownAll];rfl
   omega
  ·have:=join_length_add (PyData.shownAll (d::ds)) (by simp[PyData.shownAll])
   omega⟩
def Sh.dict{S:ap}{v:PV}{d:PyData}{n k:Nat}(h:Sh S v d n k):d.hasDict=false:=PyData.hasDict_of_canLay d h.lay
def BG:(2:Nat) ^ 24<=sizeLine:=by decide
def nl{S:ap}{vs:List PV}{d:PyData}{n k:Nat}{Q:bQ}(h:Sh S (.tup vs) d n k)(hn:n<=2 ^ 24)(hk:k<=100)(q:Q (.str d.shown) S):m4 [.tup vs] S Q:=by
 unfold m4
 exact⟨d,h.dat,h.LF,h.dict,PZ h.dep hk,PZ h.len (PZ hn BG),q⟩
noncomputable def Bd.dt:Bd->PyData
 | .rest=>.tuple [.str "rest"]
 | .pay x y=>.tuple [.str "pay",.tuple [.int x,.int y]]
 | .put z m=>.tuple [.str "put",.str z,.int m]
 | .use z=>.tuple [.str "use",.str z]
 | .HN a=>.tuple [.str "often",a.dt]
 | .GG a b=>.tuple [.str "then",a.dt,b.dt]
 | .HG a b=>.tuple [.str "either",a.dt,b.dt]
 | .HJ z m a b=>.tuple [.str "take",.str z,.int m,a.dt,b.dt]
def sj{i:Int}(h:i.natAbs < 2 ^ 64):i.natAbs.log2 < 1920:=by
 by_cases h0:i.natAbs=0
 ·rw[h0];decide
 ·exact(Nat.log2_lt h0).mpr (Sf h (Tz (by decide) (by decide)))
def Sh.s{S:ap}(z:String)(k:Nat)(h:PyData.strOk (z:Str)=true)(hl:(z:Str).length<=6):Sh S (.str z) (.str z) 62 k:=(Sh.str h).le (by omega) (Qc _)
def KR.Ka{S:ap}(k:Nat):KR S [] [] 0 k:=.le .nil (PN _) (Qc _)
theorem Sh.i{S:ap}{i:Int}(h:i.natAbs < 2 ^ 64):Sh S (.int i) (.int i) 1921 0:=Sh.int (sj h)
def GV.ext{S S':ap}{d l:Addr}(D:GV S d l)(e:Ext S S'):GV S' d l:=by
 obtain⟨s,n,f,D⟩:=D
 exact⟨s,n,f,e _ _ D.d,e _ _ D.l,D.s0,D.s1,D.nm,D.lf,D.ln⟩
def _root_.L3.G9.free{d l p:Addr}{S S':ap}(O:G9 d l S S')(h:S' p=none)(h1:p≠d)(h2:p≠l):S p=none:=by
 cases e:S p with
 |none=>rfl
 |some o=>rw[O p o e h1 h2]at h;cases h
end C
namespace CX
open PySem L2 L3 Wd
open C
def oO{n:Nat}{b:bw}{args:List PV}{S:ap}{Q:bQ}{E:b8}(h:b { nx:=fun _ S'=>Q .non S',rt:=Q,ex:=fun p _ S'=>E p [] S' } (aA n args) S):ei n b args S Q E:=h
end CX
namespace C
open PySem L2 L3 Wd
noncomputable def Bd.hd:Bd->Str
 | .rest=>"rest" | .pay _ _=>"pay" | .put _ _=>"put" | .use _=>"use" | .HN _=>"often" | .GG _ _=>"then" | .HG _ _=>"either" | .HJ _ _ _ _=>"take"
noncomputable def Bd.tl:Bd->List PV
 | .rest=>[] | .pay x y=>[.tup [.int x,.int y]] | .put z m=>[.str z,.int m] | .use z=>[.str z] | .HN a=>[a.pv] | .GG a b=>[a.pv,b.pv] | .HG a b=>[a.pv,b.pv] | .HJ z m a b=>[.str z,.int m,a.pv,b.pv]
def Bd.Jc(t:Bd):t.pv = .tup (.str t.hd::t.tl):=by cases t<;>rfl
theorem hJ{α:Type}{g:Tg}{te:aK}{σ':bM}{keep:ap->Prop}{fin:List PV->ap->Prop}{S:ap}(enc f:α->PV)(hk:keep S):∀(xs:List α) (ys:List PV),
  (∀x∈xs,∃σ2,g.put (enc x) σ'=some σ2/\∀Q:bQ,Q (f x) S->te σ2 S Q fF)->ys.length+xs.length<=sizeLine->fin (ys++xs.map f) S->cC g fG te σ' keep fin (xs.map enc) ys S
 |[],ys,_,hl,hf=>⟨hk,by simpa using hl,by simpa using hf⟩
 |x::r,ys,h,hl,hf=>by
  obtain⟨σ2,e,h1⟩:=h x (by simp)
  refine⟨hk,by simp at hl;omega,?_⟩
  rw[e]
  show te σ2 S (fun y S4=>cC g fG te σ' keep fin (r.map enc) (ys++[y]) S4) fF
  exact h1 _ (hJ enc f hk r (ys++[f x]) (fun y hy=>h y (by simp[hy])) (by simp at hl ⊢;omega) (by simpa using hf))
abbrev jJ(w:aG):Prop:=∀{S:ap} {a b:Int} {Q:bQ} {E:b8},0<=a->0<=b->Q (.int (Int.gcd a b)) S->w [.int a,.int b] S Q E
def sr:jJ (bO 3 jz):=by
 intro S a b Q E ha hb k
 unfold jz
 refine j9 ?_
 rw[show aA 3 [PV.int a,PV.int b]=[some (.int a),some (.int b),none] from rfl]
 refine aw fun N hN=>?_
 refine⟨fun n σ S'=>S'=S/\∃(x y:Int) (z:Option PV),σ=[some (.int x),some (.int y),z]/\0<=x/\0<=y/\Int.gcd x y=Int.gcd a b/\y.toNat=n,⟨_,rfl,a,b,none,rfl,ha,hb,rfl,rfl⟩,?_⟩
 rintro n σ S' ⟨rfl,x,y,z,rfl,hx,hy,hg,rfl⟩
 walk_at "x"
 simp only[Tu,Ue,decide_eq_false_iff_not]
 split
 ·rename_i hp
  refine⟨fun σ' Mr=>Mr=S'/\∃(x' y':Int) (z':Option PV),σ'=[some (.int x'),some (.int y'),z']/\0<=x'/\0<=y'/\Int.gcd x' y'=Int.gcd a b/\y'.toNat < y.toNat,?_,?_⟩
  ·rintro σ' Mr ⟨rfl,x',y',z',rfl,h1,h2,h3,h4⟩
   exact⟨_,h4,rfl,x',y',z',rfl,h1,h2,h3,rfl⟩
  ·have e:x.fmod y=x % y:=iC hy
   have l1:=TV x (b:=y) hp
   have l2:=SE x (show 0 < y by omega)
   refine⟨hp,rfl,y,x.fmod y,_,rfl,hy,by omega,?_,by omega⟩
   rw[M3.mT];exact hg
 ·rename_i hp
  have LZ:y=0:=by omega
  subst LZ
  refine hN _ _ ?_
  walk_at "x"
  rw[if_neg (by omega)]
  have Nw:x=(Int.gcd a b:Int):=by
   rw[<-hg]
   rw[Int.gcd_zero_right]
   omega
  rw[Nw]
  exact k
end C
namespace T7
open PySem PySem.NumText T5
noncomputable def gl(s:List Nat):List (List Nat)->List Nat
 |[]=>[]
 |p::q=>match q with|[]=>p|_::_=>p++s++gl s q
def bp(s p:List Nat):gl s [p]=p:=by rw[gl]
def aX(s p:List Nat){q:List (List Nat)}(h:q≠[]):gl s (p::q)=p++s++gl s q:=by
 cases q with
 |nil=>exact absurd rfl h
 |cons a b=>rw[gl]
theorem lT(s:List Nat):∀(a b:List (List Nat)),a≠[]->b≠[]->gl s (a++b)=gl s a++s++gl s b
 |[],b,h,_=>absurd rfl h
 |[p],b,_,h=>by rw[QU,aX s p h,bp]
 |p::q::r,b,_,h=>by
  rw[Rh,aX s p (by simp),lT s (q::r) b (by simp) h,aX s p (q:=q::r) (by simp)]
  simp only[Qp]
theorem i5(s:List Nat):∀(P:Vs),(Str.join (ai s) P).cps.toList=gl s (P.map fun z=>z.cps.toList)
 |[]=>rfl
 |[p]=>by rw[PL,Qm,bp];rfl
 |p::a::q=>by
  have ih:=i5 s (a::q)
  rw[PL,aX s _ (by simp),<-ih]
  show((p.cps++(ai s).cps)++(Str.join (ai s) (a::q)).cps).toList=_
  simp[ai]
noncomputable def GL(c:Nat):List Nat->List (List Nat)
 |[]=>[[]]
 |d::r=>if d=c then []::GL c r else match GL c r with
  |[]=>[[d]]
  |p::q=>(d::p)::q
theorem oP(c:Nat):∀l,GL c l≠[]
 |[]=>by simp[GL]
 |d::r=>by
  unfold GL
  split
  ·simp
  ·split<;>simp
theorem nn(c:Nat):∀(p:List Nat),c ∉ p->GL c p=[p]
 |[],_=>rfl
 |d::r,h=>by
  unfold GL
  rw[if_neg (fun e=>h (by rw[<-e];exact Qj)),nn c r fun z=>h (P4 _ z)]
theorem p8(c:Nat):∀(p r:List Nat),c ∉ p->GL c (p++[c]++r)=p::GL c r
 |[],r,_=>by
  show GL c (c::r)=_
  rw[GL,if_pos rfl]
 |d::p,r,h=>by
  show GL c (d::(p++[c]++r))=_
  rw[GL,if_neg (fun e=>h (by rw[<-e];exact Qj)),p8 c p r fun z=>h (P4 _ z)]
theorem oQ(c:Nat):∀(P:List (List Nat)),P≠[]->(∀p∈P,c ∉ p)->GL c (gl [c] P)=P
 |[],h,_=>absurd rfl h
 |[p],_,h=>by rw[bp];exact nn c p (h p Qj)
 |p::a::q,_,h=>by
  rw[aX _ _ (by simp),p8 c _ _ (h p Qj),oQ c (a::q) (by simp) fun x hx=>h x (P4 _ hx)]
def jK(z:Str)(c:Nat):gl [c] ((Txt.split z ⟨#[c]⟩).map fun y=>y.cps.toList)=z.cps.toList:=by
 have h1:=PySem.StrLaws.join_split z (ai [c])
 have h4:=i5 [c] (Txt.split z (ai [c]))
 rw[h1]at h4
 exact h4.symm
def ss(z:Str)(c:Nat):(Txt.split z ⟨#[c]⟩).map (fun y=>y.cps.toList)=GL c z.cps.toList:=by
 have h2:=Sn z c
 have h3:=PyProof.Rows.split_pos z ⟨#[c]⟩
 rw[<-jK z c,oQ c]
 ·intro e
  have:=Qu List.length e
  simp at this
  rw[this]at h3
  simp at h3
 ·intro p hp
  obtain⟨y,hy,rfl⟩:=Qt.mp hp
  exact h2 y hy
def nq(l:List Nat)(c:Nat):Txt.split (ai l) ⟨#[c]⟩=(GL c l).map ai:=by
 have h:=ss (ai l) c
 rw[toL]at h
 rw[<-h,QH]
 conv=>lhs;rw[<-List.map_id (Txt.split (ai l) ⟨#[c]⟩)]
 exact List.map_congr_left fun y _=>(df y).symm
noncomputable def rp(c:Nat)(d l:List Nat):List Nat:=l.flatMap fun x=>if x=c then d else [x]
def hU(c:Nat)(d a b:List Nat):rp c d (a++b)=rp c d a++rp c d b:=by simp[rp]
theorem b6(c:Nat)(d:List Nat):∀(p:List Nat),c ∉ p->rp c d p=p
 |[],_=>rfl
 |x::r,h=>by
  show(if x=c then d else [x])++rp c d r=_
  rw[if_neg (fun e=>h (by rw[<-e];exact Qj)),b6 c d r fun z=>h (P4 _ z)]
  rfl
def BH(c:Nat)(d:List Nat):rp c d [c]=d:=by simp[rp]
theorem zn(c:Nat)(d:List Nat):∀(P:List (List Nat)),(∀p∈P,c ∉ p)->rp c d (gl [c] P)=gl d P
 |[],_=>rfl
 |[p],h=>by rw[bp,bp];exact b6 c d p (h p Qj)
 |p::a::q,h=>by
  rw[aX [c] p (q:=a::q) (by simp),aX d p (q:=a::q) (by simp),hU,hU,BH,b6 c d p (h p Qj),zn c d (a::q) fun x hx=>h x (P4 _ hx)]
def lU(l d:List Nat)(c:Nat):Txt.replace (ai l) ⟨#[c]⟩ (ai d)=ai (rp c d l):=by
 rw[PySem.StrLaws.replace_one]
 have h:=i5 d (Txt.split (ai l) ⟨#[c]⟩)
 have h2:rp c d l=gl d ((Txt.split (ai l) ⟨#[c]⟩).map fun y=>y.cps.toList):=by
  have e:=jK (ai l) c
  rw[toL]at e
  conv=>lhs;rw[<-e]
  refine zn c d _ fun p hp=>?_
  obtain⟨y,hy,rfl⟩:=Qt.mp hp
  exact Sn (ai l) c y hy
 rw[h2,<-h,df]
theorem oR(c:Nat)(d s:List Nat):∀(P:List (List Nat)),c ∉ s->rp c d (gl s P)=gl s (P.map (rp c d))
 |[],_=>rfl
 |[p],_=>by rw[PL,Qm,bp,bp]
 |p::a::q,h=>by
  rw[aX s p (q:=a::q) (by simp),PL,aX s (rp c d p) (q:=(a::q).map (rp c d)) (by simp),hU,hU,b6 c d s h,oR c d s (a::q) h]
end T7
namespace T7
open PySem PySem.NumText T5 C
noncomputable abbrev sg(z:Str):List Nat:=z.cps.toList
noncomputable def tx:Bd->List Nat
 | .rest=>sg "rest"
 | .pay x y=>[40]++gl [32] [sg "pay",txt (x,y)]++[41]
 | .put z m=>[40]++gl [32] [sg "put",sg z,num m]++[41]
 | .use z=>[40]++gl [32] [sg "use",sg z]++[41]
 | .HN a=>[40]++gl [32] [sg "often",tx a]++[41]
 | .GG a b=>[40]++gl [32] [sg "then",tx a,tx b]++[41]
 | .HG a b=>[40]++gl [32] [sg "either",tx a,tx b]++[41]
 | .HJ z m a b=>[40]++gl [32] [sg "take",sg z,num m,tx a,tx b]++[41]
noncomputable def wd:Bd->List (List Nat)
 | .rest=>[sg "rest"]
 | .pay x y=>[[40],sg "pay",txt (x,y),[41]]
 | .put z m=>[[40],sg "put",sg z,num m,[41]]
 | .use z=>[[40],sg "use",sg z,[41]]
 | .HN a=>[[40],sg "often"]++wd a++[[41]]
 | .GG a b=>[[40],sg "then"]++wd a++wd b++[[41]]
 | .HG a b=>[[40],sg "either"]++wd a++wd b++[[41]]
 | .HJ z m a b=>[[40],sg "take",sg z,num m]++wd a++wd b++[[41]]
def Wo(l:List Nat):Prop:=32 ∉ l/\40 ∉ l/\41 ∉ l/\10 ∉ l
noncomputable def Wf:Bd->Prop
 | .rest=>True
 | .pay x y=>Wo (txt (x,y))
 | .put z m=>Wo (sg z)/\Wo (num m)
 | .use z=>Wo (sg z)
 | .HN a=>Wf a
 | .GG a b=>Wf a/\Wf b
 | .HG a b=>Wf a/\Wf b
 | .HJ z m a b=>Wo (sg z)/\Wo (num m)/\Wf a/\Wf b
theorem nr:∀t,wd t≠[]
 | .rest=>by simp[wd]
 | .pay _ _=>by simp[wd]
 | .put _ _=>by simp[wd]
 | .use _=>by simp[wd]
 | .HN a=>by simp[wd]
 | .GG a b=>by simp[wd]
 | .HG a b=>by simp[wd]
 | .HJ _ _ a b=>by simp[wd]
noncomputable def rq(l:List Nat):List Nat:=rp 41 [32,41] (rp 40 [40,32] l)
def lV(a b:List Nat):rq (a++b)=rq a++rq b:=by simp[rq,hU]
def kU{l:List Nat}(h:Wo l):rq l=l:=by rw[rq,b6 40 _ l h.2.1,b6 41 _ l h.2.2.1]
def DD(P:List (List Nat)):rq (gl [32] P)=gl [32] (P.map rq):=by
 rw[rq,oR 40 _ _ _ (by simp),oR 41 _ _ _ (by simp),QH]
 rfl
def jL(P:List (List Nat))(W:List (List Nat))(hW:W≠[])(e:gl [32] (P.map rq)=gl [32] W):rq ([40]++gl [32] P++[41])=gl [32] ([[40]]++W++[[41]]):=by
 rw[lV,lV,DD,e,lT [32] ([[40]]++W) [[41]] (by simp) (by simp),lT [32] [[40]] W (by simp) hW,bp,bp]
 show[40,32]++gl [32] W++[32,41]=_
 simp
theorem gu:∀(Ws:List (List (List Nat))),(∀W∈Ws,W≠[])->gl [32] (Ws.map (gl [32]))=gl [32] Ws.flatten
 |[],_=>rfl
 |[W],_=>by simp[bp]
 |W::V::r,h=>by
  have ih:=gu (V::r) fun x hx=>h x (P4 _ hx)
  rw[PL,aX [32] _ (q:=(V::r).map (gl [32])) (by simp),ih,show(W::V::r).flatten=W++(V::r).flatten from rfl,lT [32] W _ (h W Qj)]
  intro e
  have:=h V (by simp)
  simp at e
  exact this e.1
theorem gv:∀t,Wf t->rq (tx t)=gl [32] (wd t)
 | .rest,_=>by decide +kernel
 | .pay x y,h=>by
  have:=jL [sg "pay",txt (x,y)] [sg "pay",txt (x,y)] (by simp) (by rw[PL,PL,Qm,kU h,show rq (sg "pay")=sg "pay" by decide +kernel])
  exact this
 | .put z m,h=>by
  have:=jL [sg "put",sg z,num m] [sg "put",sg z,num m] (by simp) (by rw[PL,PL,PL,Qm,kU h.1,kU h.2,show rq (sg "put")=sg "put" by decide +kernel])
  exact this
 | .use z,h=>by
  have:=jL [sg "use",sg z] [sg "use",sg z] (by simp) (by rw[PL,PL,Qm,kU h,show rq (sg "use")=sg "use" by decide +kernel])
  exact this
 | .HN a,h=>by
  have e:=gu [[sg "often"],wd a] (by simp[nr])
  have:=jL [sg "often",tx a] ([sg "often"]++wd a) (by simp) (by
   rw[PL,PL,Qm,gv a h,show rq (sg "often")=gl [32] [sg "often"] by decide +kernel]
   simpa using e)
  simpa [wd,tx]using this
 | .GG a b,h=>by
  have e:=gu [[sg "then"],wd a,wd b] (by simp[nr])
  have:=jL [sg "then",tx a,tx b] ([sg "then"]++wd a++wd b) (by simp) (by
   rw[PL,PL,PL,Qm,gv a h.1,gv b h.2,show rq (sg "then")=gl [32] [sg "then"] by decide +kernel]
   simpa using e)
  simpa [wd,tx]using this
 | .HG a b,h=>by
  have e:=gu [[sg "either"],wd a,wd b] (by simp[nr])
  have:=jL [sg "either",tx a,tx b] ([sg "either"]++wd a++wd b) (by simp) (by
   rw[PL,PL,PL,Qm,gv a h.1,gv b h.2,show rq (sg "either")=gl [32] [sg "either"] by decide +kernel]
   simpa using e)
  simpa [wd,tx]using this
 | .HJ z m a b,h=>by
  have e:=gu [[sg "take"],[sg z],[num m],wd a,wd b] (by simp[nr])
  have:=jL [sg "take",sg z,num m,tx a,tx b] ([sg "take",sg z,num m]++wd a++wd b) (by simp) (by
   rw[PL,PL,PL,PL,PL,Qm,kU h.1,kU h.2.1,gv a h.2.2.1,gv b h.2.2.2,show rq (sg "take")=gl [32] [sg "take"] by decide +kernel]
   simpa [bp]using e)
  simpa [wd,tx]using this
theorem cO:∀t,Wf t->∀w∈wd t,32 ∉ w
 | .rest,_,w,h=>by rw[P1.mp h];decide +kernel
 | .pay x y,f,w,h=>by
  simp only[wd,PM,P7,Qx]at h
  rcases h with rfl|rfl|rfl|rfl
  ·simp
  ·decide +kernel
  ·exact f.1
  ·simp
 | .put z m,f,w,h=>by
  simp only[wd,PM,P7,Qx]at h
  rcases h with rfl|rfl|rfl|rfl|rfl
  ·simp
  ·decide +kernel
  ·exact f.1.1
  ·exact f.2.1
  ·simp
 | .use z,f,w,h=>by
  simp only[wd,PM,P7,Qx]at h
  rcases h with rfl|rfl|rfl|rfl
  ·simp
  ·decide +kernel
  ·exact f.1
  ·simp
 | .HN a,f,w,h=>by
  simp only[wd,PM,Qe,P7,Qx]at h
  rcases h with((rfl|rfl)|h)|rfl
  ·simp
  ·decide +kernel
  ·exact cO a f w h
  ·simp
 | .GG a b,f,w,h=>by
  simp only[wd,PM,Qe,P7,Qx]at h
  rcases h with(((rfl|rfl)|h)|h)|rfl
  ·simp
  ·decide +kernel
  ·exact cO a f.1 w h
  ·exact cO b f.2 w h
  ·simp
 | .HG a b,f,w,h=>by
  simp only[wd,PM,Qe,P7,Qx]at h
  rcases h with(((rfl|rfl)|h)|h)|rfl
  ·simp
  ·decide +kernel
  ·exact cO a f.1 w h
  ·exact cO b f.2 w h
  ·simp
 | .HJ z m a b,f,w,h=>by
  simp only[wd,PM,Qe,P7,Qx]at h
  rcases h with(((rfl|rfl|rfl|rfl)|h)|h)|rfl
  ·simp
  ·decide +kernel
  ·exact f.1.1
  ·exact f.2.1.1
  ·exact cO a f.2.2.1 w h
  ·exact cO b f.2.2.2 w h
  ·simp
end T7
namespace T9
open PySem PySem.NumText T5 T7 C Wd L3
noncomputable def dec:List Nat->List Nat
 |[]=>[]
 |[x]=>[x]
 |x::y::r=>if x=40/\y=32 then 40::dec r else if x=32/\y=41 then 41::dec r else x::dec (y::r)
def fc(x:Nat)(l:List Nat):rq (x::l)=(if x=40 then [40,32] else if x=41 then [32,41] else [x])++rq l:=by
 have:x::l=[x]++l:=rfl
 rw[this,lV]
 congr 1
 by_cases h:x=40
 ·subst h;rfl
 ·by_cases h':x=41
  ·subst h';rfl
  ·rw[if_neg h,if_neg h',rq,b6 40 _ [x] (by simp;omega),b6 41 _ [x] (by simp;omega)]
def DE(l:List Nat):∀r,rq l≠41::r:=by
 cases l with
 |nil=>intro r h;cases h
 |cons x l=>
  intro r h
  rw[fc]at h
  split at h
  ·cases h
  ·split at h
   ·cases h
   ·rename_i h';injection h with h1;exact h' h1
def u5(x:Nat)(r:List Nat)(h:¬(x=40/\∃s,r=32::s))(h':¬(x=32/\∃s,r=41::s)):dec (x::r)=x::dec r:=by
 cases r with
 |nil=>rfl
 |cons y r=>
  rw[dec,if_neg (fun z=>h ⟨z.1,r,by rw[z.2]⟩),if_neg (fun z=>h' ⟨z.1,r,by rw[z.2]⟩)]
theorem jM:∀l,dec (rq l)=l
 |[]=>rfl
 |x::l=>by
  rw[fc]
  split
  ·rename_i h;subst h;show dec (40::32::rq l)=_;rw[dec,if_pos ⟨rfl,rfl⟩,jM l]
  ·rename_i h
   split
   ·rename_i h';subst h';show dec (32::41::rq l)=_;rw[dec,if_neg (by simp),if_pos ⟨rfl,rfl⟩,jM l]
   ·show dec (x::rq l)=_
    rw[u5 x _ (fun z=>h z.1) (fun⟨_,s,e⟩=>DE l s e),jM l]
def BI{a b:List Nat}(h:rq a=rq b):a=b:=by rw[<-jM a,h,jM]
inductive Kd|cost|things|name|body
deriving DecidableEq
inductive Pt|b (t:Bd)|c (x y:Nat)|m (k:Nat)|n (z:List Nat)
noncomputable def Pt.pv:Pt->PV
 | .b t=>t.pv
 | .c x y=>.tup [.int x,.int y]
 | .m k=>.int k
 | .n z=>.str (ai z)
noncomputable def Pt.wd:Pt->List (List Nat)
 | .b t=>T7.wd t
 | .c x y=>[txt ((x:Int),(y:Int))]
 | .m k=>[num k]
 | .n z=>[z]
noncomputable def dR(l:List Nat):Bool:=!l.isEmpty&&decide (l.length<=6)&&(l.all fun c=>decide (97<=c)&&decide (c<=122))&&decide (ai l ∉ GW)
noncomputable def VB:Bd->Prop
 | .rest=>True
 | .pay x y=>∃v b:Nat,x=v/\y=b/\1<=b/\Nat.gcd v b=1
 | .put z m=>dR (sg z)=true/\1<=m/\m<=9
 | .use z=>dR (sg z)=true
 | .HN a=>VB a
 | .GG a b=>VB a/\VB b
 | .HG a b=>VB a/\VB b
 | .HJ z m a b=>dR (sg z)=true/\1<=m/\m<=9/\VB a/\VB b
noncomputable def Pt.ok:Kd->Pt->Prop
 | .body,.b t=>VB t
 | .cost,.c x y=>1<=y/\Nat.gcd x y=1
 | .things,.m k=>1<=k/\k<=9
 | .name,.n z=>dR z=true
 |_,_=>False
inductive sJ:List Kd->List Pt->Prop
 |nil:sJ [] []
 |cons {k:Kd} {p:Pt} {ks:List Kd} {ps:List Pt}:Pt.ok k p->sJ ks ps->sJ (k::ks) (p::ps)
noncomputable def j_:Kd->List Nat->Option Pt
 | .cost,l=>(rn l).map fun f=>.c f.1 f.2
 | .things,l=>match l with
  |[c]=>if 49<=c/\c<=57 then some (.m (c - 48)) else none
  |_=>none
 | .name,l=>if dR l=true then some (.n l) else none
 | .body,_=>none
abbrev Ws:=List (List Nat)
noncomputable def gM(r:Ws->Option (Bd×Ws)):List Kd->Ws->Option (List Pt×Ws)
 |[],W=>some ([],W)
 |k::ks,W=>
  match (if k = .body then (r W).map (fun q=>(Pt.b q.1,q.2)) else (j_ k (W.headD [])).map fun p=>(p,W.tail))with
  |none=>none
  |some (p,W1)=>match gM r ks W1 with
   |none=>none
   |some (ps,W2)=>some (p::ps,W2)
noncomputable def tab:List (Str×List Kd):=[("pay",[.cost]),("put",[.name,.things]),("then",[.body,.body]),("either",[.body,.body]),("take",[.name,.things,.body,.body]),("often",[.body]),("use",[.name])]
noncomputable def gw(h:Str):List Pt->Bd
 |[.c x y]=>.pay x y
 |[.n z,.m k]=>.put (ai z) k
 |[.b a,.b b]=>if h = "then" then .GG a b else .HG a b
 |[.n z,.m k,.b a,.b b]=>.HJ (ai z) k a b
 |[.b a]=>.HN a
 |[.n z]=>.use (ai z)
 |_=>.rest
noncomputable def lW:Nat->Ws->Option (Bd×Ws)
 |0,_=>none
 |n+1,W=>if W.headD []=sg "rest" then some (.rest,W.tail) else if W.headD []=[40] then
   (match tab.lookup (ai (W.tail.headD []))with
   |none=>none
   |some ks=>match gM (lW n) ks W.tail.tail with
    |none=>none
    |some (ps,W1)=>if W1.headD []=[41] then some (gw (ai (W.tail.headD [])) ps,W1.tail) else none) else none
def DF{l:List Nat}{v b:Nat}(h:rn l=some (v,b)):l=txt ((v:Int),(b:Int))/\1<=b/\Nat.gcd v b=1:=by
 have hg:=pV l
 unfold rn at h
 split at h
 ·rename_i a e
  split at h
  ·rename_i t ht
   cases h
   rw[e]at hg
   refine⟨?_,PN _,Ug _⟩
   rw[<-hg]
   show a=_
   rw[(uJ ht).1,<-ba]
   exact(if_pos rfl).symm
  ·cases h
 ·rename_i a c e
  split at h
  ·rename_i t u ht hu
   split at h
   ·cases h
   ·rename_i hn
    cases h
    rw[e]at hg
    refine⟨?_,by omega,by omega⟩
    rw[<-hg]
    show a++47::c=_
    rw[(uJ ht).1,(uJ hu).1,<-ba,<-ba]
    exact(if_neg (by show ¬(b:Int)=1;omega)).symm
  ·cases h
 ·cases h
def p_{k:Nat}(h:k < 10):num (k:Int)=[48+k]:=by rw[ba,HR h]
def lX{k:Kd}{l:List Nat}{p:Pt}(h:j_ k l=some p):p.ok k/\p.wd=[l]:=by
 cases k with
 |cost=>
  change (rn l).map (fun f=>Pt.c f.1 f.2)=some p at h
  cases e:rn l with
  |none=>rw[e]at h;cases h
  |some f=>
   rw[e]at h
   cases h
   obtain⟨h1,h2,h3⟩:=DF (v:=f.1) (b:=f.2) e
   exact⟨⟨h2,h3⟩,by rw[Pt.wd,<-h1]⟩
 |things=>
  unfold j_ at h
  dsimp only at h
  split at h
  ·rename_i c
   split at h
   ·rename_i hc
    cases h
    refine⟨⟨by omega,by omega⟩,?_⟩
    rw[Pt.wd,p_ (by omega)]
    congr 2
    omega
   ·cases h
  ·cases h
 |name=>
  unfold j_ at h
  dsimp only at h
  split at h
  ·rename_i hc;cases h;exact⟨hc,rfl⟩
  ·cases h
 |body=>cases h
def yi(k:Kd):j_ k []=none:=by
 cases k with
 |cost=>
  have:rn []=none:=by
   unfold rn
   rw[show sp []=[[]] from rfl]
   dsimp only
   rw[iZ (fun z=>z.1.1 rfl)]
  show(rn []).map (fun f=>Pt.c f.1 f.2)=none
  rw[this];rfl
 |things=>rfl
 |name=>rfl
 |body=>rfl
theorem lY{r:Ws->Option (Bd×Ws)}(hr:∀W t B,r W=some (t,B)->W=wd t++B/\VB t):∀(ks:List Kd) (W:Ws) (ps:List Pt) (B:Ws),gM r ks W=some (ps,B)->W=ps.flatMap Pt.wd++B/\sJ ks ps
 |[],W,ps,B,h=>by cases h;exact⟨rfl,.nil⟩
 |k::ks,W,ps,B,h=>by
  unfold gM at h
  split at h
  ·cases h
  ·rename_i p W1 e1
   split at h
   ·cases h
   ·rename_i ps' W2 e2
    cases h
    obtain⟨q1,q2⟩:=lY hr ks W1 ps' _ e2
    have:W=p.wd++W1/\p.ok k:=by
     split at e1
     ·rename_i hk
      subst hk
      cases e:r W with
      |none=>rw[e]at e1;cases e1
      |some q=>
       rw[e]at e1
       cases e1
       exact hr W q.1 q.2 e
     ·cases e:j_ k (W.headD [])with
      |none=>rw[e]at e1;cases e1
      |some q=>
       rw[e]at e1
       cases e1
       obtain⟨h1,h2⟩:=lX e
       refine⟨?_,h1⟩
       rw[h2]
       cases W with
       |nil=>rw[show([]:Ws).headD []=[] from rfl,yi]at e;cases e
       |cons w W=>rfl
    refine⟨?_,.cons this.2 q2⟩
    rw[this.1,q1,R4,Qp]
def i6{h:Str}{ks:List Kd}(e:tab.lookup h=some ks):(h,ks)∈tab:=Qy e
def jN{h:Str}{ks:List Kd}{ps:List Pt}(e:tab.lookup h=some ks)(g:sJ ks ps):VB (gw h ps)/\wd (gw h ps)=[40]::sg h::(ps.flatMap Pt.wd++[[41]])/\(gw h ps).pv = .tup (.str h::ps.map Pt.pv):=by
 have hm:=i6 e
 simp only[tab,PM,Uh,P7,Qx]at hm
 rcases hm with⟨rfl,rfl⟩|⟨rfl,rfl⟩|⟨rfl,rfl⟩|⟨rfl,rfl⟩|⟨rfl,rfl⟩|⟨rfl,rfl⟩|⟨rfl,rfl⟩
 ·cases g with
  |@cons _ p _ _ h1 g=>cases g;cases p with
   |c x y=>exact⟨⟨x,y,rfl,rfl,h1.1,h1.2⟩,rfl,rfl⟩
   |_=>exact h1.elim
 ·cases g with
  |@cons _ p _ _ h1 g=>cases g with
   |@cons _ q _ _ h2 g=>cases g;cases p with
    |n z=>cases q with
     |m k=>exact⟨⟨h1,by have:=h2.1;omega,by have:=h2.2;omega⟩,rfl,rfl⟩
     |_=>exact h2.elim
    |_=>exact h1.elim
 ·cases g with
  |@cons _ p _ _ h1 g=>cases g with
   |@cons _ q _ _ h2 g=>cases g;cases p with
    |b a=>cases q with
     |b c=>exact⟨⟨h1,h2⟩,by simp[gw,wd,Pt.wd,Qp],rfl⟩
     |_=>exact h2.elim
    |_=>exact h1.elim
 ·cases g with
  |@cons _ p _ _ h1 g=>cases g with
   |@cons _ q _ _ h2 g=>cases g;cases p with
    |b a=>cases q with
     |b c=>
      have:gw "either" [.b a,.b c] = .HG a c:=by rw[gw,if_neg (by simp[bi])]
      rw[this]
      exact⟨⟨h1,h2⟩,by simp[wd,Pt.wd,Qp],rfl⟩
     |_=>exact h2.elim
    |_=>exact h1.elim
 ·cases g with
  |@cons _ p _ _ h1 g=>cases g with
   |@cons _ q _ _ h2 g=>cases g with
    |@cons _ r _ _ h3 g=>cases g with
     |@cons _ s _ _ h4 g=>cases g;cases p with
      |n z=>cases q with
       |m k=>cases r with
        |b a=>cases s with
         |b c=>exact⟨⟨h1,by have:=h2.1;omega,by have:=h2.2;omega,h3,h4⟩,by simp[gw,wd,Pt.wd,Qp,sg,ai],rfl⟩
         |_=>exact h4.elim
        |_=>exact h3.elim
       |_=>exact h2.elim
      |_=>exact h1.elim
 ·cases g with
  |@cons _ p _ _ h1 g=>cases g;cases p with
   |b a=>exact⟨h1,by simp[gw,wd,Pt.wd,Qp],rfl⟩
   |_=>exact h1.elim
 ·cases g with
  |@cons _ p _ _ h1 g=>cases g;cases p with
   |n z=>exact⟨h1,rfl,rfl⟩
   |_=>exact h1.elim
def i7{W:Ws}{l:List Nat}(h:W.headD []=l)(hl:l≠[]):W=l::W.tail:=by
 cases W with
 |nil=>exact absurd h.symm hl
 |cons w W=>simp at h;rw[h];rfl
theorem lZ:∀(n:Nat) (W:Ws) (t:Bd) (B:Ws),lW n W=some (t,B)->W=wd t++B/\VB t
 |0,_,_,_,h=>by cases h
 |n+1,W,t,B,h=>by
  unfold lW at h
  split at h
  ·rename_i e
   cases h
   exact⟨i7 e (by decide),trivial⟩
  ·split at h
   ·rename_i e0
    split at h
    ·cases h
    ·rename_i ks ek
     split at h
     ·cases h
     ·rename_i ps W1 er
      split at h
      ·rename_i e1
       cases h
       obtain⟨q1,q2⟩:=lY (lZ n) ks _ _ _ er
       obtain⟨a1,a2,-⟩:=jN ek q2
       refine⟨?_,a1⟩
       obtain⟨V,rfl⟩:∃V,W=[40]::V:=⟨_,i7 e0 (by decide)⟩
       cases V with
       |nil=>exact absurd ek (by rw[show tab.lookup (ai (([[40]]:Ws).tail.headD []))=none from by decide];simp)
       |cons w V=>
        rw[a2]
        change V=_ at q1
        show[40]::w::V=_
        rw[q1,i7 e1 (by decide)]
        simp[sg,ai]
      ·cases h
   ·cases h
def su(n:Nat):47 ∉ dn n:=fun h=>by have:=lM n _ h;omega
def BJ{n m:Nat}(h:1<=m)(g:Nat.gcd n m=1):rn (txt ((n:Int),(m:Int)))=some (n,m):=by
 by_cases e:m=1
 ·subst e
  have e1:txt ((n:Int),((1:Nat):Int))=dn n:=by rw[<-ba];exact if_pos rfl
  rw[e1]
  unfold rn
  rw[e9 _ (su n)]
  dsimp only
  rw[uI]
 ·have e1:txt ((n:Int),(m:Int))=dn n++47::dn m:=by rw[<-ba,<-ba];exact if_neg (by show ¬(m:Int)=1;omega)
  rw[e1]
  unfold rn
  rw[lL _ _ (su n),e9 _ (su m)]
  dsimp only
  rw[uI,uI]
  dsimp only
  rw[if_neg (by omega)]
def u6{k:Kd}{p:Pt}(h:p.ok k)(hk:k ≠ .body):∃l,p.wd=[l]/\j_ k l=some p:=by
 cases k with
 |body=>exact absurd rfl hk
 |cost=>cases p with
  |c x y=>exact⟨_,rfl,by show(rn _).map _=_;rw[BJ h.1 h.2];rfl⟩
  |_=>exact h.elim
 |things=>cases p with
  |m k=>
   refine⟨_,rfl,?_⟩
   have h1:=h.1
   have h2:=h.2
   rw[p_ (by omega)]
   show(if 49<=48+k/\48+k<=57 then some (Pt.m (48+k - 48)) else none)=_
   rw[if_pos (by omega),show 48+k - 48=k by omega]
  |_=>exact h.elim
 |name=>cases p with
  |n z=>exact⟨_,rfl,if_pos h⟩
  |_=>exact h.elim
theorem u7{r:Ws->Option (Bd×Ws)}:∀{ks:List Kd} {ps:List Pt} (B:Ws),sJ ks ps->(∀t,Pt.b t∈ps->∀B,r (wd t++B)=some (t,B))->gM r ks (ps.flatMap Pt.wd++B)=some (ps,B)
 |_,_,B,.nil,_=>rfl
 |k::ks,p::ps,B,.cons h1 h2,hr=>by
  have ih:=u7 (r:=r) B h2 fun t ht=>hr t (P4 _ ht)
  unfold gM
  rw[R4,Qp]
  by_cases hk:k = .body
  ·subst hk
   cases p with
   |b t=>
    rw[if_pos rfl,show Pt.wd (.b t)=wd t from rfl,hr t (by simp)]
    show(match gM r ks (ps.flatMap Pt.wd++B)with|none=>none|some (ps',W2)=>some (Pt.b t::ps',W2))=_
    rw[ih]
   |_=>exact h1.elim
  ·obtain⟨l,e1,e2⟩:=u6 h1 hk
   rw[if_neg hk,e1,show([l]++(ps.flatMap Pt.wd++B)).headD []=l from rfl,e2]
   show(match gM r ks (ps.flatMap Pt.wd++B)with|none=>none|some (ps',W2)=>some (p::ps',W2))=_
   rw[ih]
noncomputable def dg:Bd->List Pt
 | .rest=>[]
 | .pay x y=>[.c x.toNat y.toNat]
 | .put z m=>[.n (sg z),.m m.toNat]
 | .use z=>[.n (sg z)]
 | .HN a=>[.b a]
 | .GG a b=>[.b a,.b b]
 | .HG a b=>[.b a,.b b]
 | .HJ z m a b=>[.n (sg z),.m m.toNat,.b a,.b b]
noncomputable def EF:Bd->List Kd
 | .rest=>[]
 | .pay x y=>[.cost]
 | .put z m=>[.name,.things]
 | .use z=>[.name]
 | .HN a=>[.body]
 | .GG a b=>[.body,.body]
 | .HG a b=>[.body,.body]
 | .HJ z m a b=>[.name,.things,.body,.body]
def oS{t:Bd}(h:t ≠ .rest):tab.lookup t.hd=some (EF t):=by
 cases t with
 |rest=>exact absurd rfl h
 |_=>simp only[Bd.hd,EF];decide +kernel
def DG{m:Int}(h1:1<=m)(h2:m<=9):Pt.ok .things (.m m.toNat):=⟨by omega,by omega⟩
def jO{t:Bd}(g:VB t):sJ (EF t) (dg t):=by
 cases t with
 |rest=>exact .nil
 |pay x y=>obtain⟨v,b,rfl,rfl,h1,h2⟩:=g;exact .cons ⟨h1,h2⟩ .nil
 |put z m=>exact .cons g.1 (.cons (DG g.2.1 g.2.2) .nil)
 |use z=>exact .cons g .nil
 |HN a=>exact .cons g .nil
 |GG a b=>exact .cons g.1 (.cons g.2 .nil)
 |HG a b=>exact .cons g.1 (.cons g.2 .nil)
 |HJ z m a b=>exact .cons g.1 (.cons (DG g.2.1 g.2.2.1) (.cons g.2.2.2.1 (.cons g.2.2.2.2 .nil)))
def nu(z:Str):ai (sg z)=z:=df z
def jP{t:Bd}(g:VB t):gw t.hd (dg t)=t:=by
 cases t with
 |rest=>rfl
 |pay x y=>obtain⟨v,b,rfl,rfl,h1,h2⟩:=g;rfl
 |put z m=>show Bd.put (ai (sg z)) (m.toNat:Int)=_;rw[nu,Rm (by have:=g.2.1;omega)]
 |use z=>show Bd.use (ai (sg z))=_;rw[nu]
 |HN a=>rfl
 |GG a b=>rfl
 |HG a b=>show gw "either" [.b a,.b b]=_;rw[gw,if_neg (by simp[bi])]
 |HJ z m a b=>show Bd.HJ (ai (sg z)) (m.toNat:Int) a b=_;rw[nu,Rm (by have:=g.2.1;omega)]
def l0{t:Bd}(g:VB t)(h:t ≠ .rest):wd t=[40]::sg t.hd::((dg t).flatMap Pt.wd++[[41]]):=by
 have:=(jN (oS h) (jO g)).2.1
 rwa [jP g]at this
def l4{t u:Bd}(g:VB t)(h:Pt.b u∈dg t):VB u/\u.dep+1<=t.dep:=by
 cases t with
 |rest=>cases h
 |pay x y=>simp[dg]at h
 |put z m=>simp[dg]at h
 |use z=>simp[dg]at h
 |HN a=>simp[dg]at h;subst h;exact⟨g,PN _⟩
 |GG a b=>
  simp[dg]at h
  rcases h with rfl|rfl
  ·exact⟨g.1,by simp only[Bd.dep];omega⟩
  ·exact⟨g.2,by simp only[Bd.dep];omega⟩
 |HG a b=>
  simp[dg]at h
  rcases h with rfl|rfl
  ·exact⟨g.1,by simp only[Bd.dep];omega⟩
  ·exact⟨g.2,by simp only[Bd.dep];omega⟩
 |HJ z m a b=>
  simp[dg]at h
  rcases h with rfl|rfl
  ·exact⟨g.2.2.2.1,by simp only[Bd.dep];omega⟩
  ·exact⟨g.2.2.2.2,by simp only[Bd.dep];omega⟩
def yj(t:Bd):1<=t.dep:=by cases t<;>simp only[Bd.dep]<;>omega
theorem u8:∀(n:Nat) (t:Bd) (B:Ws),VB t->t.dep<=n->lW n (wd t++B)=some (t,B)
 |0,t,_,_,h=>by have:=yj t;omega
 |n+1,t,B,g,h=>by
  by_cases ht:t = .rest
  ·subst ht;exact if_pos rfl
  ·have e:=u7 (r:=lW n) ([41]::B) (jO g) fun u hu B=>by
    obtain⟨h1,h2⟩:=l4 g hu
    exact u8 n u B h1 (by omega)
   rw[l0 g ht]
   have eW:[40]::sg t.hd::((dg t).flatMap Pt.wd++[[41]])++B=[40]::sg t.hd::((dg t).flatMap Pt.wd++([41]::B)):=by simp
   rw[eW]
   unfold lW
   refine(if_neg (show ¬([40]:List Nat)=sg "rest" from by decide)).trans ((if_pos rfl).trans ?_)
   show(match tab.lookup (ai (sg t.hd))with|none=>none|some ks=>match gM (lW n) ks ((dg t).flatMap Pt.wd++([41]::B))with
    |none=>none
    |some (ps,W1)=>if W1.headD []=[41] then some (gw (ai (sg t.hd)) ps,W1.tail) else none)=_
   rw[nu,oS ht]
   dsimp only
   rw[e]
   show(if ([41]:List Nat)=[41] then some (gw t.hd (dg t),B) else none)=_
   rw[if_pos rfl,jP g]
def jQ{l:List Nat}(h:∀c∈l,45<=c):Wo l:=⟨fun q=>by have:=h _ q;omega,fun q=>by have:=h _ q;omega,fun q=>by have:=h _ q;omega,fun q=>by have:=h _ q;omega⟩
def u9{l:List Nat}(h:dR l=true):∀c∈l,45<=c:=by
 unfold dR at h
 simp only[Qs,QG,Qf]at h
 intro c hc
 have:=(h.1.2 c hc).1
 omega
def DH(n:Nat):∀c∈dn n,45<=c:=fun c hc=>by have:=lM n c hc;omega
def jR{m:Int}(h:0<=m):∀c∈num m,45<=c:=by
 obtain⟨n,rfl⟩:∃n:Nat,m=(n:Int):=⟨m.toNat,by omega⟩
 rw[ba]
 exact DH n
def BK(v b:Nat):∀c∈txt ((v:Int),(b:Int)),45<=c:=by
 intro c hc
 unfold txt at hc
 split at hc
 ·exact jR (by simp) c hc
 ·rcases Qe.mp hc with hc|hc
  ·exact jR (by simp) c hc
  ·rcases PM.mp hc with rfl|hc
   ·decide
   ·exact jR (by simp) c hc
theorem fy:∀t:Bd,VB t->Wf t
 | .rest,_=>trivial
 | .pay x y,g=>by obtain⟨v,b,rfl,rfl,-,-⟩:=g;exact jQ (BK v b)
 | .put z m,g=>⟨jQ (u9 g.1),jQ (jR (by have:=g.2.1;omega))⟩
 | .use z,g=>jQ (u9 g)
 | .HN a,g=>fy a g
 | .GG a b,g=>⟨fy a g.1,fy b g.2⟩
 | .HG a b,g=>⟨fy a g.1,fy b g.2⟩
 | .HJ z m a b,g=>⟨jQ (u9 g.1),jQ (jR (by have:=g.2.1;omega)),fy a g.2.2.2.1,fy b g.2.2.2.2⟩
def hV(c:Nat)(l:List Nat):gl [c] (GL c l)=l:=by
 have h:=jK (ai l) c
 rw[nq,QH,toL]at h
 have e:(GL c l).map ((fun y:Str=>y.cps.toList) ∘ ai)=GL c l:=by(conv=>rhs;rw[<-List.map_id (GL c l)]);rfl
 rw[e]at h
 exact h
noncomputable def JL(l:List Nat):Ws:=GL 32 (rq l)
def zo{t:Bd}(g:VB t):JL (tx t)=wd t:=by
 unfold JL
 rw[gv t (fy t g),oQ 32 (wd t) (nr t) (cO t (fy t g))]
def DI{t:Bd}(g:VB t){l:List Nat}(h:JL l=wd t):l=tx t:=by
 apply BI
 rw[gv t (fy t g),<-h]
 exact(hV 32 _).symm
noncomputable def sv(n:Nat)(l:List Nat):Option Bd:=match lW n (JL l)with
 |some (t,[])=>some t
 |_=>none
def u_{n:Nat}{l:List Nat}{t:Bd}(h:sv n l=some t):VB t/\l=tx t:=by
 unfold sv at h
 split at h
 ·rename_i u e
  cases h
  obtain⟨h1,h2⟩:=lZ _ _ _ _ e
  rw[Qv]at h1
  exact⟨h2,DI h2 h1⟩
 ·cases h
def BL{n:Nat}{t:Bd}(g:VB t)(h:t.dep<=n):sv n (tx t)=some t:=by
 unfold sv
 rw[zo g]
 have:=u8 n t [] g h
 rw[Qv]at this
 rw[this]
theorem eB:∀t:Bd,t.dep<=(wd t).count [40]+1
 | .rest=>by simp[Bd.dep]
 | .pay _ _=>by simp[Bd.dep]
 | .put _ _=>by simp[Bd.dep]
 | .use _=>by simp[Bd.dep]
 | .HN a=>by have:=eB a;simp only[Bd.dep,wd,Qq,QZ];omega
 | .GG a b=>by have:=eB a;have:=eB b;simp only[Bd.dep,wd,Qq,QZ];omega
 | .HG a b=>by have:=eB a;have:=eB b;simp only[Bd.dep,wd,Qq,QZ];omega
 | .HJ _ _ a b=>by have:=eB a;have:=eB b;simp only[Bd.dep,wd,Qq,QZ];omega
def yk{n:Nat}{l:List Nat}(h:(JL l).count [40] < n){t:Bd}:sv n l=some t↔VB t/\l=tx t:=by
 refine⟨u_,fun⟨g,e⟩=>?_⟩
 subst e
 refine BL g ?_
 rw[zo g]at h
 have:=eB t
 omega
noncomputable def HP:List Nat->List Nat->Ws
 |run,[]=>if run=[] then [] else [run]
 |run,c::l=>if Unicode.isSpace c=true then (if run=[] then HP [] l else run::HP [] l) else HP (run++[c]) l
theorem gx:∀(l:List Nat) (ws:Vs) (run:List Nat),KWd.fin (l.foldl KWd.step (ws,ai run))=ws++(HP run l).map ai
 |[],ws,run=>by
  show KWd.fin (ws,ai run)=_
  unfold KWd.fin HP
  dsimp only
  rw[GF]
  by_cases h:run=[]
  ·subst h;simp
  ·rw[if_neg h,if_neg (fun z=>h (QF.mp z))];rfl
 |c::l,ws,run=>by
  rw[List.foldl_cons]
  unfold KWd.step
  dsimp only
  rw[GF]
  unfold HP
  by_cases hc:Unicode.isSpace c=true
  ·rw[if_pos hc,if_pos hc]
   by_cases h:run=[]
   ·subst h
    rw[if_pos (show([]:List Nat).length=0 from rfl),if_pos rfl]
    exact gx l ws []
   ·rw[if_neg h,if_neg (fun z=>h (QF.mp z))]
    refine(gx l (ws++[ai run]) []).trans ?_
    simp
  ·rw[if_neg hc,if_neg hc]
   have e:ai run++(⟨#[c]⟩:Str)=ai (run++[c]):=by
    show Str.mk (run.toArray++#[c])=Str.mk (run++[c]).toArray
    simp
   rw[e]
   exact gx l ws (run++[c])
def sw(l:List Nat):Txt.words (ai l)=(HP [] l).map ai:=by
 rw[KWd.words_scan]
 exact gx l [] []
def Nb(l:List Nat):Prop:=∀c∈l,Unicode.isSpace c=false
def va{l:List Nat}(h:∀c∈l,40<=c/\c<=126):Nb l:=by
 have:∀c < 127,40<=c->Unicode.isSpace c=false:=by decide +kernel
 exact fun c hc=>this c (by have:=(h c hc).2;omega) (h c hc).1
def Bl(r:List Nat):Prop:=r=[]\/∃s,r=32::s
def DJ:Unicode.isSpace 32=true:=by decide +kernel
theorem qc:∀(p run r:List Nat),Nb p->run++p≠[]->Bl r->HP run (p++r)=(run++p)::HP [] r
 |[],run,r,_,h,hr=>by
  rw[Qv]at h ⊢
  rcases hr with rfl|⟨s,rfl⟩
  ·simp[HP,h]
  ·simp[HP,h,DJ]
 |c::p,run,r,hp,h,hr=>by
  have hc:¬Unicode.isSpace c=true:=by rw[hp c (by simp)];simp
  rw[Rh,HP,if_neg hc,qc p (run++[c]) r (fun d hd=>hp d (by simp[hd])) (by simp) hr]
  simp
def jS{p r:List Nat}(hp:Nb p)(h:p≠[])(hr:Bl r):HP [] (p++r)=p::HP [] r:=qc p [] r hp h hr
def jT(r:List Nat):HP [] (32::r)=HP [] r:=by rw[HP,if_pos DJ,if_pos rfl]
noncomputable def rr(l:List Nat):List Nat:=rp 41 [32,41,32] (rp 40 [32,40,32] l)
def jU(a b:List Nat):rr (a++b)=rr a++rr b:=by simp[rr,hU]
def DK{l:List Nat}(h:Wo l):rr l=l:=by rw[rr,b6 40 _ l h.2.1,b6 41 _ l h.2.2.1]
def It(x:List Nat)(w:Ws):Prop:=∀r,Bl r->HP [] (rr x++r)=w++HP [] r
def gy{p:List Nat}(h:∀c∈p,45<=c/\c<=126)(hn:p≠[]):It p [p]:=fun r hr=>by
 rw[DK (jQ fun c hc=>(h c hc).1),jS (va fun c hc=>by have:=h c hc;omega) hn hr]
 rfl
theorem zp:∀(P:List (List Nat×Ws)),P≠[]->(∀q∈P,It q.1 q.2)->It (gl [32] (P.map Prod.fst)) (P.flatMap Prod.snd)
 |[],h,_=>absurd rfl h
 |[q],_,h=>by
  intro r hr
  rw[PL,Qm,bp,h q (by simp) r hr]
  simp
 |q::q'::P,_,h=>by
  intro r hr
  rw[PL,aX [32] q.1 (by simp),jU,jU,Qp,Qp,show rr [32]=[32] from rfl,QU,h q (by simp) _ (.inr ⟨_,rfl⟩)]
  rw[jT,zp (q'::P) (by simp) (fun x hx=>h x (by simp[hx])) r hr]
  simp
def DL{x:List Nat}{w:Ws}(h:It x w):It ([40]++x++[41]) ([40]::(w++[[41]])):=fun r hr=>by
 rw[jU,jU,show rr [40]=[32,40,32] from rfl,show rr [41]=[32,41,32] from rfl]
 have Pg:Nb [40]:=va (by simp)
 have Ph:Nb [41]:=va (by simp)
 rw[show[32,40,32]++rr x++[32,41,32]++r=32::([40]++(32::(rr x++(32::([41]++(32::r))))))from by simp]
 rw[jT,jS Pg (by simp) (.inr ⟨_,rfl⟩),jT,h _ (.inr ⟨_,rfl⟩),jT,jS Ph (by simp) (.inr ⟨_,rfl⟩),jT]
 simp
def vb{l:List Nat}(h:dR l=true):∀c∈l,45<=c/\c<=126:=by
 unfold dR at h
 simp only[Qs,QG,Qf]at h
 intro c hc
 have:=h.1.2 c hc
 omega
def DM{l:List Nat}(h:dR l=true):l≠[]:=fun e=>by subst e;simp[dR]at h
def DN(n:Nat):∀c∈dn n,45<=c/\c<=126:=fun c hc=>by have:=lM n c hc;omega
def hZ{m:Int}(h:0<=m):(∀c∈num m,45<=c/\c<=126)/\num m≠[]:=by
 obtain⟨n,rfl⟩:∃n:Nat,m=(n:Int):=⟨m.toNat,by omega⟩
 rw[ba]
 exact⟨DN n,uG n⟩
def l5(v b:Nat):(∀c∈txt ((v:Int),(b:Int)),45<=c/\c<=126)/\txt ((v:Int),(b:Int))≠[]:=by
 have h1:=hZ (m:=(v:Int)) (by simp)
 have h2:=hZ (m:=(b:Int)) (by simp)
 unfold txt
 split
 ·exact h1
 ·refine⟨fun c hc=>?_,by simp⟩
  rcases Qe.mp hc with hc|hc
  ·exact h1.1 c hc
  ·rcases PM.mp hc with rfl|hc
   ·decide
   ·exact h2.1 c hc
noncomputable def FH:Pt->List Nat
 | .b t=>tx t
 | .c x y=>txt ((x:Int),(y:Int))
 | .m k=>num k
 | .n z=>z
def vc(t:Bd):(∀c∈sg t.hd,45<=c/\c<=126)/\sg t.hd≠[]:=by cases t<;>simp only[Bd.hd]<;>decide +kernel
def ym{t:Bd}(g:VB t)(h:t ≠ .rest):tx t=[40]++gl [32] (sg t.hd::(dg t).map FH)++[41]:=by
 cases t with
 |rest=>exact absurd rfl h
 |pay x y=>obtain⟨v,b,rfl,rfl,h1,h2⟩:=g;rfl
 |put z m=>show _=[40]++gl [32] [sg "put",sg z,num (m.toNat:Int)]++[41];rw[Rm (by have:=g.2.1;omega)];rfl
 |use z=>rfl
 |HN a=>rfl
 |GG a b=>rfl
 |HG a b=>rfl
 |HJ z m a b=>show _=[40]++gl [32] [sg "take",sg z,num (m.toNat:Int),tx a,tx b]++[41];rw[Rm (by have:=g.2.1;omega)];rfl
def DO{k:Kd}{p:Pt}(h:p.ok k)(hb:∀t,p = .b t->It (tx t) (wd t)):It (FH p) p.wd:=by
 cases p with
 |b t=>exact hb t rfl
 |c x y=>exact gy (l5 x y).1 (l5 x y).2
 |m k=>exact gy (hZ (by simp)).1 (hZ (by simp)).2
 |n z=>cases k with
  |name=>exact gy (vb h) (DM h)
  |_=>exact h.elim
def qd{ks:List Kd}{ps:List Pt}(h:sJ ks ps):∀p∈ps,∃k,p.ok k:=by
 induction h with
 |nil=>intro p hp;cases hp
 |cons h1 _ ih=>
  intro p hp
  rcases PM.mp hp with rfl|hp
  ·exact⟨_,h1⟩
  ·exact ih p hp
theorem zq:∀(n:Nat) (t:Bd),t.dep<=n->VB t->It (tx t) (wd t)
 |0,t,h,_=>by have:=yj t;omega
 |n+1,t,h,g=>by
  by_cases ht:t = .rest
  ·subst ht;exact gy (by decide +kernel) (by decide +kernel)
  ·rw[ym g ht,l0 g ht]
   have e:=zp ((sg t.hd,[sg t.hd])::(dg t).map fun p=>(FH p,p.wd)) (by simp) (fun q hq=>by
    rcases PM.mp hq with rfl|hq
    ·exact gy (vc t).1 (vc t).2
    ·obtain⟨p,hp,rfl⟩:=Qt.mp hq
     obtain⟨k,hk⟩:=qd (jO g) p hp
     refine DO hk fun u hu=>?_
     subst hu
     obtain⟨g1,g2⟩:=l4 g hp
     exact zq n u (by omega) g1)
   have:=DL e
   simp only[PL,QH,R4,List.flatMap_map,List.singleton_append,List.cons_append]at this
   exact this
noncomputable def toks(l:List Nat):Ws:=HP [] (rr l)
def yn{t:Bd}(g:VB t):toks (tx t)=wd t:=by
 have:=zq _ t (PN _) g [] (.inl rfl)
 rw[Qv,show HP [] []=[] from rfl,Qv]at this
 exact this
inductive Tr where
 |w (l:List Nat)
 |n (ts:List Tr)
noncomputable def oU(w:List Nat)(st:List (List Tr)):Option (List (List Tr)):=if w=[40] then some ([]::st) else if w=[41] then (match st with
  |top::Pi::rest=>some ((Pi++[.n top])::rest)
  |_=>none) else (match st with
  |top::rest=>some ((top++[.w w])::rest)
  |[]=>none)
noncomputable def fo:Ws->List (List Tr)->Option (List (List Tr))
 |[],st=>some st
 |w::r,st=>match oU w st with
  |some st'=>fo r st'
  |none=>none
noncomputable def BM:Option (List (List Tr))->Option Tr
 |some [[t]]=>some t
 |_=>none
noncomputable def tree(l:List Nat):Option Tr:=BM (fo (toks l) [[]])
mutual
noncomputable def l6:Bd->Tr
 | .rest=>.w (sg "rest")
 | .pay x y=>.n [.w (sg "pay"),.w (txt (x,y))]
 | .put z m=>.n [.w (sg "put"),.w (sg z),.w (num m)]
 | .use z=>.n [.w (sg "use"),.w (sg z)]
 | .HN a=>.n [.w (sg "often"),l6 a]
 | .GG a b=>.n [.w (sg "then"),l6 a,l6 b]
 | .HG a b=>.n [.w (sg "either"),l6 a,l6 b]
 | .HJ z m a b=>.n [.w (sg "take"),.w (sg z),.w (num m),l6 a,l6 b]
end
noncomputable def zr:Pt->Tr
 | .b t=>l6 t
 | .c x y=>.w (txt ((x:Int),(y:Int)))
 | .m k=>.w (num k)
 | .n z=>.w z
def qe{t:Bd}(g:VB t)(h:t ≠ .rest):l6 t = .n (.w (sg t.hd)::(dg t).map zr):=by
 cases t with
 |rest=>exact absurd rfl h
 |pay x y=>obtain⟨v,b,rfl,rfl,h1,h2⟩:=g;rfl
 |put z m=>show _=Tr.n [.w (sg "put"),.w (sg z),.w (num (m.toNat:Int))];rw[Rm (by have:=g.2.1;omega)];rfl
 |use z=>rfl
 |HN a=>rfl
 |GG a b=>rfl
 |HG a b=>rfl
 |HJ z m a b=>show _=Tr.n [.w (sg "take"),.w (sg z),.w (num (m.toNat:Int)),l6 a,l6 b];rw[Rm (by have:=g.2.1;omega)];rfl
def Pu(w:Ws)(t:Tr):Prop:=∀r top rest,fo (w++r) (top::rest)=fo r ((top++[t])::rest)
def gA{p:List Nat}(h:∀c∈p,45<=c/\c<=126):Pu [p] (.w p):=fun r top rest=>by
 have n1:p≠[40]:=fun e=>by subst e;have:=h 40 (by simp);omega
 have n2:p≠[41]:=fun e=>by subst e;have:=h 41 (by simp);omega
 rw[QU,fo,show oU p (top::rest)=some ((top++[.w p])::rest)from by unfold oU;rw[if_neg n1,if_neg n2]]
theorem qf:∀(P:List (Ws×Tr)),(∀q∈P,Pu q.1 q.2)->∀r top rest,fo (P.flatMap Prod.fst++r) (top::rest)=fo r ((top++P.map Prod.snd)::rest)
 |[],_,r,top,rest=>by simp
 |q::P,h,r,top,rest=>by
  rw[R4,Qp,h q (by simp),qf P (fun x hx=>h x (by simp[hx]))]
  simp
def DP{P:List (Ws×Tr)}(h:∀q∈P,Pu q.1 q.2):Pu ([40]::(P.flatMap Prod.fst++[[41]])) (.n (P.map Prod.snd)):=fun r top rest=>by
 rw[Rh,fo]
 show fo (P.flatMap Prod.fst++[[41]]++r) ([]::top::rest)=_
 rw[Qp,qf P h,QU,fo]
 rfl
def DQ{k:Kd}{p:Pt}(h:p.ok k)(hb:∀t,p = .b t->Pu (wd t) (l6 t)):Pu p.wd (zr p):=by
 cases p with
 |b t=>exact hb t rfl
 |c x y=>exact gA (l5 x y).1
 |m k=>exact gA (hZ (by simp)).1
 |n z=>cases k with
  |name=>exact gA (vb h)
  |_=>exact h.elim
theorem zt:∀(n:Nat) (t:Bd),t.dep<=n->VB t->Pu (wd t) (l6 t)
 |0,t,h,_=>by have:=yj t;omega
 |n+1,t,h,g=>by
  by_cases ht:t = .rest
  ·subst ht;exact gA (by decide +kernel)
  ·rw[qe g ht,l0 g ht]
   have:=DP (P:=([sg t.hd],.w (sg t.hd))::(dg t).map fun p=>(p.wd,zr p)) (fun q hq=>by
    rcases PM.mp hq with rfl|hq
    ·exact gA (vc t).1
    ·obtain⟨p,hp,rfl⟩:=Qt.mp hq
     obtain⟨k,hk⟩:=qd (jO g) p hp
     refine DQ hk fun u hu=>?_
     subst hu
     obtain⟨g1,g2⟩:=l4 g hp
     exact zt n u (by omega) g1)
   simp only[PL,QH,R4,List.flatMap_map,List.singleton_append,List.cons_append]at this
   exact this
def yo{t:Bd}(g:VB t):tree (tx t)=some (l6 t):=by
 unfold tree
 rw[yn g]
 have:=zt _ t (PN _) g [] [] []
 rw[Qv]at this
 rw[this]
 rfl
open Classical in
noncomputable def fz(l:List Nat):Option Pt:=if ∀p∈sp l,sI p then (match sp l with
 |[h]=>some (.c (digitsVal h) 1)
 |[h,u]=>if digitsVal u=0 then none else some (.c (digitsVal h / Nat.gcd (digitsVal h) (digitsVal u)) (digitsVal u / Nat.gcd (digitsVal h) (digitsVal u)))
 |_=>none) else none
noncomputable def F3:Kd->List Nat->Option Pt
 | .cost,l=>fz l
 |k,l=>j_ k l
noncomputable def mG:Kd->Tr×Option Bd->Option Pt
 | .body,q=>q.2.map .b
 |k,(.w l,_)=>F3 k l
 |_,(.n _,_)=>none
noncomputable def kW:List Kd->List (Tr×Option Bd)->Option (List Pt)
 |[],_=>some []
 |_,[]=>some []
 |k::ks,q::r=>match mG k q,kW ks r with
  |some p,some ps=>some (p::ps)
  |_,_=>none
noncomputable def vg:List (Tr×Option Bd)->Option Bd
 |(.w h,_)::r=>match tab.lookup (ai h)with
  |some ks=>if r.length=ks.length then (kW ks r).map (gw (ai h)) else none
  |none=>none
 |_=>none
mutual
noncomputable def cJ:Tr->Option Bd
 | .w l=>if l=sg "rest" then some .rest else none
 | .n ts=>vg (bofs ts)
noncomputable def bofs:List Tr->List (Tr×Option Bd)
 |[]=>[]
 |t::ts=>(t,cJ t)::bofs ts
end
theorem eC:∀ts:List Tr,bofs ts=ts.map fun t=>(t,cJ t)
 |[]=>by rw[bofs];rfl
 |t::ts=>by rw[bofs,eC ts];rfl
def BN{k:Kd}{p:Pt}(h:p.ok k)(hk:k ≠ .body):mG k (zr p,none)=some p:=by
 cases k with
 |body=>exact absurd rfl hk
 |cost=>cases p with
  |c x y=>
   show fz (txt ((x:Int),(y:Int)))=_
   unfold fz
   by_cases e:y=1
   ·subst e
    have e1:txt ((x:Int),((1:Nat):Int))=dn x:=by rw[<-ba];exact if_pos rfl
    rw[e1,e9 _ (su x),if_pos (by intro p hp;rw[P1.mp hp];exact KC x)]
    dsimp only
    rw[lN]
   ·have e1:txt ((x:Int),(y:Int))=dn x++47::dn y:=by rw[<-ba,<-ba];exact if_neg (by show ¬(y:Int)=1;omega)
    rw[e1,lL _ _ (su x),e9 _ (su y),if_pos (by intro p hp;simp at hp;rcases hp with rfl|rfl<;>exact KC _)]
    dsimp only
    have:=h.1
    rw[lN,lN,if_neg (by omega),show Nat.gcd x y=1 from h.2,Nat.div_one,Nat.div_one]
  |_=>exact h.elim
 |things=>cases p with
  |m k=>obtain⟨l,e1,e2⟩:=u6 h (by simp);show j_ .things (num k)=_;cases e1;exact e2
  |_=>exact h.elim
 |name=>cases p with
  |n z=>exact if_pos h
  |_=>exact h.elim
def vh(k:Kd)(hk:k ≠ .body)(t:Tr)(o o':Option Bd):mG k (t,o)=mG k (t,o'):=by
 cases k<;>cases t<;>first|rfl|exact absurd rfl hk
theorem vi:∀{ks:List Kd} {ps:List Pt},sJ ks ps->(∀t,Pt.b t∈ps->cJ (l6 t)=some t)->kW ks (bofs (ps.map zr))=some ps
 |_,_,.nil,_=>by rw[kW]
 |k::ks,p::ps,.cons h1 h2,hb=>by
  have ih:=vi h2 fun t ht=>hb t (P4 _ ht)
  rw[PL,bofs,kW,ih]
  have:mG k (zr p,cJ (zr p))=some p:=by
   by_cases hk:k = .body
   ·subst hk
    cases p with
    |b t=>show(cJ (l6 t)).map _=_;rw[hb t (by simp)];rfl
    |_=>exact h1.elim
   ·rw[vh k hk _ _ none];exact BN h1 hk
  rw[this]
theorem vj:∀(n:Nat) (t:Bd),t.dep<=n->VB t->cJ (l6 t)=some t
 |0,t,h,_=>by have:=yj t;omega
 |n+1,t,h,g=>by
  by_cases ht:t = .rest
  ·subst ht;rw[l6,cJ,if_pos rfl]
  ·rw[qe g ht,cJ,bofs,vg,nu,oS ht]
   dsimp only
   have e:=vi (jO g) fun u hu=>by
    obtain⟨g1,g2⟩:=l4 g hu
    exact vj n u (by omega) g1
   have el:(bofs ((dg t).map zr)).length=(EF t).length:=by rw[eC];cases t<;>rfl
   rw[if_pos el,e]
   show some (gw t.hd (dg t))=_
   rw[jP g]
def FI{a b:Nat}(h:0 < Nat.gcd a b):Nat.gcd (a / Nat.gcd a b) (b / Nat.gcd a b)=1:=by
 rw[Nat.gcd_div (Nat.gcd_dvd_left _ _) (Nat.gcd_dvd_right _ _),Nat.div_self h]
def BO{k:Kd}{l:List Nat}{p:Pt}(hk:k ≠ .body)(h:F3 k l=some p):p.ok k:=by
 cases k with
 |body=>exact absurd rfl hk
 |cost=>
  change fz l=some p at h
  unfold fz at h
  split at h
  ·split at h
   ·cases h;exact⟨PN _,Ug _⟩
   ·rename_i a u e
    split at h
    ·cases h
    ·rename_i hu
     cases h
     have hg:0 < Nat.gcd (digitsVal a) (digitsVal u):=Nat.gcd_pos_of_pos_right _ (by omega)
     exact⟨Nat.div_pos (Nat.le_of_dvd (by omega) (Nat.gcd_dvd_right _ _)) hg,FI hg⟩
   ·cases h
  ·cases h
 |things=>exact(lX (k:=.things) (l:=l) h).1
 |name=>exact(lX (k:=.name) (l:=l) h).1
def vk{k:Kd}{q:Tr×Option Bd}{p:Pt}(hq:∀t,q.2=some t->VB t)(h:mG k q=some p):p.ok k:=by
 by_cases hk:k = .body
 ·subst hk
  change q.2.map Pt.b=some p at h
  cases e:q.2 with
  |none=>rw[e]at h;cases h
  |some t=>rw[e]at h;cases h;exact hq t e
 ·obtain⟨t,o⟩:=q
  cases t with
  |w l=>refine BO (l:=l) hk ?_;rw[<-h];cases k<;>first|rfl|exact absurd rfl hk
  |n ts=>cases k<;>first|cases h|exact absurd rfl hk
theorem l7:∀{ks:List Kd} {qs:List (Tr×Option Bd)} {ps:List Pt},qs.length=ks.length->(∀q∈qs,∀t,q.2=some t->VB t)->kW ks qs=some ps->sJ ks ps
 |[],_,ps,_,_,h=>by rw[kW]at h;cases h;exact .nil
 |k::ks,[],_,hl,_,_=>by simp at hl
 |k::ks,q::qs,ps,hl,hq,h=>by
  rw[kW]at h
  split at h
  ·rename_i p ps' e1 e2
   cases h
   exact .cons (vk (hq q (by simp)) e1) (l7 (by simpa using hl) (fun x hx=>hq x (by simp[hx])) e2)
  ·cases h
def yp{qs:List (Tr×Option Bd)}{t:Bd}(hq:∀q∈qs,∀t,q.2=some t->VB t)(h:vg qs=some t):VB t:=by
 unfold vg at h
 split at h
 ·rename_i a o r
  split at h
  ·rename_i ks ek
   split at h
   ·rename_i hl
    cases e:kW ks r with
    |none=>rw[e]at h;cases h
    |some ps=>
     rw[e]at h
     cases h
     exact(jN ek (l7 hl (fun x hx=>hq x (by simp[hx])) e)).1
   ·cases h
  ·cases h
 ·cases h
mutual
theorem jV:∀(T:Tr) (t:Bd),cJ T=some t->VB t
 | .w l,t,h=>by
  rw[cJ]at h
  split at h
  ·cases h;trivial
  ·cases h
 | .n ts,t,h=>by
  rw[cJ]at h
  exact yp (IN ts) h
theorem IN:∀(ts:List Tr),∀q∈bofs ts,∀t,q.2=some t->VB t
 |[],q,hq,_,_=>by rw[bofs]at hq;cases hq
 |T::ts,q,hq,t,h=>by
  rw[bofs]at hq
  rcases PM.mp hq with rfl|hq
  ·exact jV T t h
  ·exact IN ts q hq t h
end
noncomputable def nP(l:List Nat):Option Bd:=match (tree l).bind cJ with
 |some t=>if tx t=l then some t else none
 |none=>none
def BP{n:Nat}{l:List Nat}(h:(JL l).count [40] < n):nP l=sv n l:=by
 cases e:sv n l with
 |some t=>
  obtain⟨g,rfl⟩:=u_ e
  unfold nP
  rw[yo g]
  show(match cJ (l6 t)with|some u=>if tx u=tx t then some u else none|none=>none)=_
  rw[vj _ t (PN _) g]
  exact if_pos rfl
 |none=>
  unfold nP
  split
  ·rename_i t e1
   split
   ·rename_i e2
    obtain⟨T,-,hT⟩:=SH.mp e1
    have:=(yk h).mpr ⟨jV T t hT,e2.symm⟩
    rw[e]at this
    cases this
   ·rfl
  ·rfl
end T9
namespace G09
open PySem L2 L3
noncomputable def top(i:Nat):Stmt:=PySem.Challenge.pw_dueworth_k09_texts_of_no_body.main.body.getD i (.Pass ⟨0,0,0,0⟩)
noncomputable def mt(i j:Nat):Stmt:=(xR (top i)).getD j (.Pass ⟨0,0,0,0⟩)
noncomputable abbrev MW:List (Str×Str):=[("BadText","row")]
noncomputable abbrev Jw:List (Str×Str×Bool):=[("BadText","BadText",true),("BadText","NoHouse",false),("BadText","Stuck",false),("BadText","TooLong",false),("BadText","NoStory",false),("BadText","TooMany",false),("BadText","NoRow",false)]
structure Txt (P:Program) (w:World) (K:Vo) (mg:Vr):Prop where
 o_common:bh K mg "common" (top 11) ["one","other"]
 o_read_figures:bh K mg "read_figures" (top 12) ["text"]
 o_read_from_nought_on:bh K mg "read_from_nought_on" (top 13) ["text"]
 o_is_name:bh K mg "is_name" (top 17) ["text"]
 o_read_name:bh K mg "read_name" (top 20) ["word"]
 o_read_things:bh K mg "read_things" (top 21) ["word"]
 o_read_word:bh K mg "read_word" (top 22) ["kind","word"]
 o_split_words:bh K mg "split_words" (top 23) ["text"]
 o_word_at:bh K mg "word_at" (top 24) ["words","place"]
 o_read_part:bh K mg "read_part" (top 25) ["words","place"]
 o_read_body:bh K mg "read_body" (top 26) ["text"]
 o__law_deal:bh K mg "_law_deal" (top 28) ["_law_script","_law_base"]
 o__law_draw:bh K mg "_law_draw" (top 29) ["_law_deal_here","_law_many"]
 o__law_signs:bh K mg "_law_signs" (top 30) []
 o__law_low:bh K mg "_law_low" (top 31) ["_law_top","_law_bottom"]
 o__law_kept:bh K mg "_law_kept" (top 32) []
 o__law_name:bh K mg "_law_name" (top 33) ["_law_deal_here"]
 o__law_any_leaf:bh K mg "_law_any_leaf" (top 34) ["_law_deal_here","_law_words"]
 o__law_any_body:bh K mg "_law_any_body" (top 35) ["_law_deal_here","_law_words","_law_room","_law_down"]
 o__law_cost_text:bh K mg "_law_cost_text" (top 36) ["_law_cost"]
 o__law_body_text:bh K mg "_law_body_text" (top 37) ["_law_body"]
 o__law_is_name:bh K mg "_law_is_name" (top 38) ["_law_word"]
 o__law_tree:bh K mg "_law_tree" (top 39) ["_law_text"]
 o__law_cost_of:bh K mg "_law_cost_of" (top 40) ["_law_word"]
 o__law_thing_of:bh K mg "_law_thing_of" (top 41) ["_law_tree_here","_law_sort"]
 o__law_body_of:bh K mg "_law_body_of" (top 42) ["_law_tree_here"]
 o__law_body_due:bh K mg "_law_body_due" (top 43) ["_law_text"]
 o__law_spoilt:bh K mg "_law_spoilt" (top 44) ["_law_deal_here","_law_text"]
 o__law_heard:bh K mg "_law_heard" (top 45) ["_law_caught"]
 o__law_read:bh K mg "_law_read" (top 46) ["_law_text"]
 o__law_odd:bh K mg "_law_odd" (top 47) []
 Jj:mg "ValueError" = none
 Ms:mg "abs" = none
 Lh:mg "all" = none
 LG:mg "bool" = none
 Ii:mg "int" = none
 GI:mg "isinstance" = none
 GN:mg "len" = none
 LH:mg "list" = none
 Li:mg "max" = none
 Ip:mg "range" = none
 KE:mg "repr" = none
 JM:mg "reversed" = none
 Iq:mg "str" = none
 JW:mg "tuple" = none
 Mt:mg "zip" = none
 Kb:∃t,mg "FIGURES" = some (.str "0123456789" t)
 JX:∃a,mg "FORMS" = some (.ref a)/\KF P w K a [("pay",["cost"]),("put",["name","things"]),("then",["body","body"]),("either",["body","body"]),("take",["name","things","body","body"]),("often",["body"]),("use",["name"])]
 Jk:∃a,mg "KEPT_WORDS" = some (.ref a)/\Bn K a ["jars","deed","rest","pay","put","then","either","take","often","use"]
 Kc:∃t,mg "LETTERS" = some (.str "abcdefghijklmnopqrstuvwxyz" t)
 LJ:wB K mg "DueError"
 Ke:wB K mg "BadText"
 Kf:wB K mg "NoHouse"
 K7:wB K mg "Stuck"
 Kg:wB K mg "TooLong"
 Kh:wB K mg "NoStory"
 Ki:wB K mg "TooMany"
 K8:wB K mg "NoRow"
 Kj:Fw K mg "BadText" "BadText.__init__" (mt 2 0) ["self","row"] ["row"]
 JN:Fx K mg "DueError" ["BadText"]
 x_at:IR K MW
 KG:XTab K Jw
section
variable {P:Program} {w:World} {K:Vo} {mg:Vr} {base:Heap}
def DR:(["sign"]:Vs).Nodup:=by decide +kernel
def DS:(["_law_one"]:Vs).Nodup:=by decide +kernel
def FJ:(["_law_k","_law_deal_here","_law_letters"]:Vs).Nodup:=by decide +kernel
def DT:(["_law_sign"]:Vs).Nodup:=by decide +kernel
def DU:(["_law_one","_law_sort"]:Vs).Nodup:=by decide +kernel
def FK:(["_law_j","_law_deal_here"]:Vs).Nodup:=by decide +kernel
def bj(T:Txt P w K mg):Fv P w K mg base "BadText" ["row"]:=Go ["self","row"] T.Kj rfl fun _ _ _ _ _ _ _=>pp (AO (pv 0) (pv 1) rfl)
def nw:aG:=bO 3 C.jz
def sx(T:Txt P w K mg):HF P w K mg base 1 "common" 2 nw:=jC ["one","other","left"] T.o_common (fun _ _ _ _ _ _ _ hr nd=>(ac (lG Q5 (sH hr (ah 1) ae) (ac (s4 2 nd (aB d_ (ah 0) (ah 1)))
  (ac (s4 0 nd (ah 1))
  (ak (s4 1 nd (ah 2))))))
  (ak (ay (cB Dn T.Ms (l1 (ah 0))))))) rfl
def cE:bw:=(af (bg (gK (aL (am (bE false) (v3 0) (c3 (.str "")))) (f7 (aL (aj rM [(bS (bJ (v3 0)) (.n 0) fG (am (jp false) (v3 0) (c3 (.str "0123456789"))) 1 [])])))) (bT "BadText" ["row"] [(c3 (.int 0))]) aQ)
  (af (bg (lw (aL (am (bE false) (am aD (v3 0) (c3 (.int 0))) (c3 (.str "0")))) (aL (am (bE true) (v3 0) (c3 (.str "0"))))) (bT "BadText" ["row"] [(c3 (.int 0))]) aQ)
  (af (av 1 (c3 (.int 0)))
  (af (av 2 (cz "str" lK (v3 0) [(am aH (aj bn [(v3 0)]) (am fH (sG iN (aj bn [(v3 0)])) (c3 (.int 60))))]))
  (af (dy (Bm (c3 (.int 0)) (aj bn [(v3 2)]) (c3 (.int 60))) (.n 3) (av 1 (am aH (am iO (v3 1) (am rQ (c3 (.int 10)) (c3 (.int 60)))) (aj bN [(aU (v3 2) (gY (v3 3)) (gY (am aH (v3 3) (c3 (.int 60)))))]))))
  (aC (v3 1)))))))
def eE:aG:=ei 4 cE
def dS(T:Txt P w K mg):JU P w K mg base 3 "read_figures" 1 eE:=Bc ["text","number","padded","place"] T.o_read_figures (fun _ _ _ _ _ _ _ hr nd=>(ac (aR (ly (dJ (gL hr (ah 0) ad) (cK (jn (dv (cB (zg rfl) T.Lh (l1 (Ct [] 1 [] ["sign"] (dQ (ah 0)) (fun _=>(gn 0 DR)) (fun _=>kK) (fun _=>(jl (kI (ef hr)) (ah 0) (F2 T.Kb) rfl)))))))))) (ak (xT (bj T) hr (l1 ae))) aJ)
  (ac (aR (ly (mY (gL hr (jD hr (ah 0)) ad) (jm (sH hr (ah 0) ad)))) (ak (xT (bj T) hr (l1 ae))) aJ)
  (ac (s4 1 nd ae)
  (ac (s4 2 nd (kP uC xU (ah 0) (l1 (aB az (cB bc T.GN (l1 (ah 0))) (aB d_ (rK gW (cB bc T.GN (l1 (ah 0)))) ae)))))
  (ac (gg F1 rfl (uE rfl rfl rfl T.Ip (lc ae (lc (cB bc T.GN (l1 (ah 2))) (l1 ae)))) (gn 3 nd) (ak (s4 1 nd (aB az (aB fE (ah 1) (aB zj ae ae)) (cT gj T.Ii (l1 (bC (ah 2) (bG (ah 3)) (bG (aB az (ah 3) ae)))))))))
  (ak (ay (ah 1))))))))) rfl
def bq(HS KH:aG):bw:=(af (av 1 (cz "str" de (v3 0) [(c3 (.str "/"))]))
  (af (av 2 (bo HS [(am aD (v3 1) (c3 (.int 0)))]))
  (af (bg (aL (am (bE false) (aj bn [(v3 1)]) (c3 (.int 1)))) (aC (bR [(v3 2),(c3 (.int 1))])) aQ)
  (af (bg (aL (am pS (aj bn [(v3 1)]) (c3 (.int 2)))) (bT "BadText" ["row"] [(c3 (.int 0))]) aQ)
  (af (av 3 (bo HS [(am aD (v3 1) (c3 (.int 1)))]))
  (af (bg (gK (aL (am mF (v3 3) (c3 (.int 2)))) (aL (am (bE true) (al KH [(v3 2),(v3 3)]) (c3 (.int 1))))) (bT "BadText" ["row"] [(c3 (.int 0))]) aQ)
  (aC (bR [(v3 2),(v3 3)]))))))))
def bu:aG:=ei 4 (bq eE nw)
def dN(T:Txt P w K mg):JU P w K mg base 4 "read_from_nought_on" 1 bu:=Bc ["text","pieces","top","bottom"] T.o_read_from_nought_on (fun _ _ _ _ _ _ _ hr nd=>(ac (s4 1 nd (kP eu iY (ah 0) (l1 ad)))
  (ac (s4 2 nd (cX (dS T) hr (l1 (jD hr (ah 1)))))
  (ac (aR (gL hr (cB bc T.GN (l1 (ah 1))) ae) (ak (ay (bI (lc (ah 2) (l1 ae))))) aJ)
  (ac (aR (aW lH (cB bc T.GN (l1 (ah 1))) ae (aN _)) (ak (xT (bj T) hr (l1 ae))) aJ)
  (ac (s4 3 nd (cX (dS T) hr (l1 (jD hr (ah 1)))))
  (ac (aR (ly (dJ (aW iQ (ah 3) ae (aN _)) (cK (sH hr (c4 (sx T) hr (lc (ah 2) (l1 (ah 3)))) ae)))) (ak (xT (bj T) hr (l1 ae))) aJ)
  (ak (ay (bI (lc (ah 2) (l1 (ah 3))))))))))))) rfl
def h_:bw:=(af (bg (gK (aL (am mF (aj bn [(v3 0)]) (c3 (.int 1)))) (aL (am pS (aj bn [(v3 0)]) (c3 (.int 6))))) (aC (c3 (.bl false))) aQ)
  (aC (kH (am (jp true) (v3 0) (c3 (.tup ((["jars","deed","rest","pay","put","then","either","take","often","use"]:Vs).map PV.str)))) (aj rM [(bS (bJ (v3 0)) (.n 0) fG (am (jp false) (v3 0) (c3 (.str "abcdefghijklmnopqrstuvwxyz"))) 1 [])]))))
def kX:aG:=bO 1 h_
def oV(T:Txt P w K mg):HF P w K mg base 1 "is_name" 1 kX:=jC ["text"] T.o_is_name (fun _ _ _ _ _ _ _ hr nd=>(ac (aR (ly (dJ (aW iQ (cB bc T.GN (l1 (ah 0))) ae (aN _)) (cK (aW lH (cB bc T.GN (l1 (ah 0))) ae (aN _))))) (ak (ay xx)) aJ)
  (ak (ay (Dg (jl (d4 (ef hr)) (ah 0) (Gq T.Jk) rfl) (Df (cB (zg rfl) T.Lh (l1 (Ct [] 1 [] ["sign"] (dQ (ah 0)) (fun _=>(gn 0 DR)) (fun _=>kK) (fun _=>(jl (kI (ef hr)) (ah 0) (F2 T.Kc) rfl))))))))))) rfl
def eF(Kk:aG):bw:=(af (bg (f7 (aL (al Kk [(v3 0)]))) (bT "BadText" ["row"] [(c3 (.int 0))]) aQ)
  (aC (v3 0)))
def eG:aG:=ei 1 (eF kX)
def l8(T:Txt P w K mg):JU P w K mg base 3 "read_name" 1 eG:=Bc ["word"] T.o_read_name (fun _ _ _ _ _ _ _ hr nd=>(ac (aR (jn (dv (c4 (oV T) hr (l1 (ah 0))))) (ak (xT (bj T) hr (l1 ae))) aJ)
  (ak (ay (ah 0))))) rfl
def dh:bw:=(af (bg (gK (aL (am (bE true) (aj bn [(v3 0)]) (c3 (.int 1)))) (aL (am (jp true) (v3 0) (c3 (.str "123456789"))))) (bT "BadText" ["row"] [(c3 (.int 0))]) aQ)
  (aC (aj bN [(v3 0)])))
def fA:aG:=ei 1 dh
def jW(T:Txt P w K mg):JU P w K mg base 3 "read_things" 1 fA:=Bc ["word"] T.o_read_things (fun _ _ _ _ _ _ _ hr nd=>(ac (aR (ly (dJ (sH hr (cB bc T.GN (l1 (ah 0))) ae) (cK (aW (d4 (ef hr)) (ah 0) ad rfl)))) (ak (xT (bj T) hr (l1 ae))) aJ)
  (ak (ay (cT gj T.Ii (l1 (ah 0))))))) rfl
def eI(HK I9 Jx:aG):bw:=(af (bg (aL (am (bE false) (v3 0) (c3 (.str "cost")))) (aC (bo HK [(v3 1)])) aQ)
  (af (bg (aL (am (bE false) (v3 0) (c3 (.str "things")))) (aC (bo I9 [(v3 1)])) aQ)
  (aC (bo Jx [(v3 1)]))))
def eJ:aG:=ei 2 (eI bu fA eG)
def l9(T:Txt P w K mg):JU P w K mg base 5 "read_word" 2 eJ:=Bc ["kind","word"] T.o_read_word (fun _ _ _ _ _ _ _ hr nd=>(ac (aR (gL hr (ah 0) ad) (ak (ay (cX (dN T) hr (l1 (ah 1))))) aJ)
  (ac (aR (gL hr (ah 0) ad) (ak (ay (cX (jW T) hr (l1 (ah 1))))) aJ)
  (ak (ay (cX (l8 T) hr (l1 (ah 1)))))))) rfl
def di:bw:=(aC (cz "str" de (jG ")" " )" (jG "(" "( " (v3 0))) [(c3 (.str " "))]))
def fB:aG:=bO 1 di
def jX(T:Txt P w K mg):HF P w K mg base 1 "split_words" 1 fB:=jC ["text"] T.o_split_words (fun _ _ _ _ _ _ _ hr nd=>(ak (ay (kP eu iY (lP (lP (ah 0))) (l1 ad))))) rfl
def ic:bw:=(af (bg (aL (am mF (v3 1) (aj bn [(v3 0)]))) (aC (am aD (v3 0) (v3 1))) aQ)
  (aC (c3 (.str ""))))
def kY:aG:=bO 2 ic
def cF(T:Txt P w K mg):HF P w K mg base 1 "word_at" 2 kY:=jC ["words","place"] T.o_word_at (fun _ _ _ _ _ _ _ hr nd=>(ac (aR (aW iQ (ah 1) (cB bc T.GN (l1 (ah 0))) (aN _)) (ak (ay (iR hr (ah 0) (ah 1)))) aJ)
  (ak (ay ad)))) rfl
def eK(Hx Jy s0:aG):bw:=(af (bg (aL (am (bE false) (al Hx [(v3 0),(v3 1)]) (c3 (.str "rest")))) (aC (bR [(bR [(c3 (.str "rest"))]),(am aH (v3 1) (c3 (.int 1)))])) aQ)
  (af (av 2 (al Hx [(v3 0),(am aH (v3 1) (c3 (.int 1)))]))
  (af (bg (gK (aL (am (bE true) (al Hx [(v3 0),(v3 1)]) (c3 (.str "(")))) (aL (uN [("pay",["cost"]),("put",["name","things"]),("then",["body","body"]),("either",["body","body"]),("take",["name","things","body","body"]),("often",["body"]),("use",["name"])] (v3 2)))) (bT "BadText" ["row"] [(c3 (.int 0))]) aQ)
  (af (av 3 (aS [(v3 2)]))
  (af (av 1 (am aH (v3 1) (c3 (.int 2))))
  (af (dy (bJ (uM [("pay",["cost"]),("put",["name","things"]),("then",["body","body"]),("either",["body","body"]),("take",["name","things","body","body"]),("often",["body"]),("use",["name"])] (v3 2))) (.n 4) (bg (aL (am (bE false) (v3 4) (c3 (.str "body")))) (af (av 5 (bo s0 [(v3 0),(v3 1)]))
  (af (bd (cz "list" aI (v3 3) [(am aD (v3 5) (c3 (.int 0)))]))
  (av 1 (am aD (v3 5) (c3 (.int 1)))))) (af (bd (cz "list" aI (v3 3) [(bo Jy [(v3 4),(al Hx [(v3 0),(v3 1)])])]))
  (av 1 (am aH (v3 1) (c3 (.int 1)))))))
  (af (bg (aL (am (bE true) (al Hx [(v3 0),(v3 1)]) (c3 (.str ")")))) (bT "BadText" ["row"] [(c3 (.int 0))]) aQ)
  (aC (bR [(aj cL [(v3 3)]),(am aH (v3 1) (c3 (.int 1)))])))))))))
noncomputable def cP:Nat->aG
 |0=>xS
 |n+1=>ei 6 (eK kY eJ (cP n))
def iD:aG:=cP 36
def l_(T:Txt P w K mg):JU P w K mg base 41 "read_part" 2 iD:=Dv (b:=5) (r:=cP) T.o_read_part (fun n R0=>Bc ["words","place","head","found","kind","side"] T.o_read_part (fun _ _ _ _ _ _ _ hr nd=>(ac (aR (gL hr (c4 (cF T) hr (lc (ah 0) (l1 (ah 1)))) ad) (ak (ay (bI (lc (bI (l1 ad)) (l1 (aB az (ah 1) ae)))))) aJ)
  (ac (s4 2 nd (c4 (cF T) hr (lc (ah 0) (l1 (aB az (ah 1) ae)))))
  (ac (aR (ly (dJ (sH hr (c4 (cF T) hr (lc (ah 0) (l1 (ah 1)))) ad) (cK (Fz T.JX (ah 2))))) (ak (xT (bj T) hr (l1 ae))) aJ)
  (ac (s4 3 nd (aY (l1 (ah 2))))
  (ac (s4 1 nd (aB az (ah 1) ae))
  (ac (gg F1 rfl (dQ (Gr T.JX (ah 2) (fun _ _=>rfl))) (gn 4 nd) (ak (aR (gL hr (ah 4) ad) (ac (s4 5 nd (cX R0 hr (lc (ah 0) (l1 (ah 1)))))
  (ac (cj (kP bf bx (ah 3) (l1 (jD hr (ah 5)))))
  (ak (s4 1 nd (jD hr (ah 5)))))) (ac (cj (kP bf bx (ah 3) (l1 (cX (l9 T) hr (lc (ah 4) (l1 (c4 (cF T) hr (lc (ah 0) (l1 (ah 1))))))))))
  (ak (s4 1 nd (aB az (ah 1) ae)))))))
  (ac (aR (sH hr (c4 (cF T) hr (lc (ah 0) (l1 (ah 1)))) ad) (ak (xT (bj T) hr (l1 ae))) aJ)
  (ak (ay (bI (lc (cT pP T.JW (l1 (ah 3))) (l1 (aB az (ah 1) ae)))))))))))))) rfl) rfl rfl 36
def eL(I_ Jz:aG):bw:=(af (av 1 (al I_ [(v3 0)]))
  (af (av 2 (bo Jz [(v3 1),(c3 (.int 0))]))
  (af (bg (aL (am (bE true) (am aD (v3 2) (c3 (.int 1))) (aj bn [(v3 1)]))) (bT "BadText" ["row"] [(c3 (.int 0))]) aQ)
  (aC (am aD (v3 2) (c3 (.int 0)))))))
def eM:aG:=ei 3 (eL fB iD)
def ma(T:Txt P w K mg):JU P w K mg base 42 "read_body" 1 eM:=Bc ["text","words","whole_body"] T.o_read_body (fun _ _ _ _ _ _ _ hr nd=>(ac (s4 1 nd (c4 (jX T) hr (l1 (ah 0))))
  (ac (s4 2 nd (cX (l_ T) hr (lc (ah 1) (l1 ae))))
  (ac (aR (sH hr (jD hr (ah 2)) (cB bc T.GN (l1 (ah 1)))) (ak (xT (bj T) hr (l1 ae))) aJ)
  (ak (ay (jD hr (ah 2)))))))) rfl
def iE:aG:=bO 5 C.eg
def md(T:Txt P w K mg):HF P w K mg base 1 "_law_deal" 2 iE:=jC ["_law_script","_law_base","_law_one","_law_some","_law_number"] T.o__law_deal (fun _ _ _ _ _ _ _ hr nd=>(ac (Fu [] 1 [] ["_law_one"] 3 nd (dQ (bC (ah 0) (bG (ah 1)) (bG ae))) (fun _=>(gn 0 DS)) (fun _=>kK) (fun _=>(cB (uf rfl) T.Li (lc (ah 0) (l1 (aB d9 ae (ah 0)))))))
  (ac (s4 4 nd (aB az ae (ah 1)))
  (ac (gg Q5 rfl (dQ (ah 3)) (gn 2 nd) (ak (s4 4 nd (aB d_ (aB az (aB fE (ah 4) ae) (aB d_ (ah 2) ae)) ae))))
  (ak (ay (oE (b5 ad (ah 4) (b5 ad ae (b5 ad (A9 rC rfl (Ct [] 1 [] ["_law_one"] (dQ (ah 3)) (fun _=>(gn 0 DS)) (fun _=>(ut (aW Fp (ah 0) (aB zj ae ae) (aN _)))) (fun _=>(ah 0))) rfl T.LH rfl T.JM) oC)))))))))) rfl
def w__law_draw:aG:=bO 5 C.eh
def ao(T:Txt P w K mg):HF P w K mg base 1 "_law_draw" 2 w__law_draw:=jC ["_law_deal_here","_law_many","_law_number","_law_one","_law_other"] T.o__law_draw (fun _ _ _ _ _ _ _ hr nd=>(ac (lG Q5 (ly (mY (gL hr (iR hr (ah 0) ad) ae) (jm (aW lH (cB bc T.GN (l1 (iR hr (ah 0) ad))) ae (aN _))))) (ak (pR (A_ hr) (Bf uy zh (iR hr (ah 0) ad)) (ah 0) ad)))
  (ac (s4 2 nd (iR hr (ah 0) ad))
  (ac (aR (aW lH (ah 2) ae (aN _)) (ac (pR (A_ hr) (aB oF (ah 2) (ah 1)) (ah 0) ad)
  (ak (ay (aB d_ (ah 2) (ah 1))))) aJ)
  (ac (s4 3 nd (aB d_ (aB az (aB fE (iR hr (ah 0) ad) ae) ae) ae))
  (ac (pR (A_ hr) (aB d_ (aB az (aB fE (ah 3) ae) ae) ae) (ah 0) ad)
  (ac (s4 4 nd (aB d_ (aB fE (iR hr (ah 0) ad) (iR hr (ah 0) ad)) ae))
  (ak (ay (aB d_ (aB az (aB fE (aB d_ (aB fE (ah 3) (ah 3)) ae) ae) (ah 4)) (ah 1))))))))))) rfl
def dO:bw:=(af (av 0 (c3 (.str " !\"#$&'()*+,-./0123456789:;<=>?@ABCDEFGHIJKLMNOPQRSTUVWXYZ")))
  (aC (am aH (v3 0) (c3 (.str "[\\]^_`abcdefghijklmnopqrstuvwxyz{|}~\n")))))
def gB:aG:=bO 1 dO
def ko(T:Txt P w K mg):HF P w K mg base 1 "_law_signs" 0 gB:=jC ["_law_signs_here"] T.o__law_signs (fun _ _ _ _ _ _ _ hr nd=>(ac (s4 0 nd ad)
  (ak (ay (aB az (ah 0) ad))))) rfl
def fK:aG:=bO 4 C.fI
def iF(T:Txt P w K mg):HF P w K mg base 1 "_law_low" 2 fK:=jC ["_law_top","_law_bottom","_law_one","_law_other"] T.o__law_low (fun _ _ _ _ _ _ _ hr nd=>(ac (zi (i:=2) (j:=3) rfl nd rfl rfl (by decide) rfl rfl (lc (cB (uf rfl) T.Li (lc (ah 0) (l1 (aB d9 ae (ah 0))))) (l1 (ah 1))))
  (ac (lG Q5 (aW lH (ah 3) ae (aN _)) (ak (zi (i:=2) (j:=3) rfl nd rfl rfl (by decide) rfl rfl (lc (ah 3) (l1 (aB d_ (ah 2) (ah 3)))))))
  (ak (ay (bI (lc (aB oF (ah 0) (ah 2)) (l1 (aB oF (ah 1) (ah 2)))))))))) rfl
def eN:bw:=(aC (aS [(c3 (.str "jars")),(c3 (.str "deed")),(c3 (.str "rest")),(c3 (.str "pay")),(c3 (.str "put")),(c3 (.str "then")),(c3 (.str "either")),(c3 (.str "take")),(c3 (.str "often")),(c3 (.str "use"))]))
def eO:aG:=bO 0 eN
def gC(T:Txt P w K mg):HF P w K mg base 1 "_law_kept" 0 eO:=jC [] T.o__law_kept (fun _ _ _ _ _ _ _ hr nd=>(ak (ay (aY (lc ad (lc ad (lc ad (lc ad (lc ad (lc ad (lc ad (lc ad (lc ad (l1 ad)))))))))))))) rfl
def eP(GD HU:aG):bw:=(af (av 1 (c3 (.str "abcdefghijklmnopqrstuvwxyz")))
  (af (av 2 (cz "str" fw (c3 (.str "")) [(bS (jv (am aH (c3 (.int 1)) (al GD [(v3 0),(c3 (.int 6))]))) (.n 0) fG (am aD (v3 2) (al GD [(v3 1),(c3 (.int 26))])) 1 [0,1])]))
  (af (bg (aL (am (bE false) (al GD [(v3 0),(c3 (.int 8))]) (c3 (.int 0)))) (af (av 3 (aS [(c3 (.str "jar")),(c3 (.str "deeds")),(c3 (.str "rests")),(c3 (.str "pays")),(c3 (.str "putt")),(c3 (.str "the")),(c3 (.str "eithe")),(c3 (.str "taken")),(c3 (.str "ofte")),(c3 (.str "user")),(c3 (.str "a"))]))
  (av 2 (am aD (v3 3) (al GD [(v3 0),(c3 (.int 11))])))) aQ)
  (af (bg (aL (am (jp false) (v3 2) (al HU []))) (aC (am aH (aU (v3 2) kj (gY (sG iN (c3 (.int 1))))) (c3 (.str "z")))) aQ)
  (aC (v3 2))))))
def iG:aG:=bO 4 (eP w__law_draw eO)
def me(T:Txt P w K mg):HF P w K mg base 2 "_law_name" 1 iG:=jC ["_law_deal_here","_law_letters","_law_word","_law_near"] T.o__law_name (fun _ _ _ _ _ _ _ hr nd=>(ac (s4 1 nd ad)
  (ac (s4 2 nd (kP lJ oz ad (l1 (Ct ["_law_letters","_law_deal_here"] 1 [0,1] ["_law_k","_law_deal_here","_law_letters"] (gf rfl rfl T.Ip (l1 (aB az ae (c4 (ao T) hr (lc (ah 0) (l1 ae)))))) (fun _=>(gn 0 FJ)) (fun _=>kK) (fun _=>(iR hr (ah 2) (c4 (ao T) hr (lc (ah 1) (l1 ae)))))))))
  (ac (aR (gL hr (c4 (ao T) hr (lc (ah 0) (l1 ae))) ae) (ac (s4 3 nd (aY (lc ad (lc ad (lc ad (lc ad (lc ad (lc ad (lc ad (lc ad (lc ad (lc ad (l1 ad)))))))))))))
  (ak (s4 2 nd (iR hr (ah 3) (c4 (ao T) hr (lc (ah 0) (l1 ae))))))) aJ)
  (ac (aR (aW (kI (ef hr)) (ah 2) (ED (gC T) hr) rfl) (ak (ay (aB az (bC (ah 2) cW (bG (rK gW ae))) ad))) aJ)
  (ak (ay (ah 2)))))))) rfl
def ck(GD Ik:aG):bw:=(af (av 2 (am aD (v3 1) (al GD [(v3 0),(aj bn [(v3 1)])])))
  (af (av 3 (al GD [(v3 0),(c3 (.int 4))]))
  (af (bg (aL (am (bE false) (v3 3) (c3 (.int 0)))) (aC (bR [(c3 (.str "rest"))])) aQ)
  (af (bg (aL (am (bE false) (v3 3) (c3 (.int 1)))) (aC (bR [(c3 (.str "pay")),(al Ik [(al GD [(v3 0),(am aD (aS [(c3 (.int 4)),(c3 (.int 1000))]) (al GD [(v3 0),(c3 (.int 2))]))]),(am aH (c3 (.int 1)) (al GD [(v3 0),(c3 (.int 9))]))])])) aQ)
  (aC (am aD (aS [(bR [(c3 (.str "put")),(v3 2),(am aH (c3 (.int 1)) (al GD [(v3 0),(c3 (.int 9))]))]),(bR [(c3 (.str "use")),(v3 2)])]) (am cD (v3 3) (c3 (.int 2)))))))))
def dU:aG:=bO 4 (ck w__law_draw fK)
def ie(T:Txt P w K mg):HF P w K mg base 2 "_law_any_leaf" 2 dU:=jC ["_law_deal_here","_law_words","_law_word","_law_form"] T.o__law_any_leaf (fun _ _ _ _ _ _ _ hr nd=>(ac (s4 2 nd (iR hr (ah 1) (c4 (ao T) hr (lc (ah 0) (l1 (cB bc T.GN (l1 (ah 1))))))))
  (ac (s4 3 nd (c4 (ao T) hr (lc (ah 0) (l1 ae))))
  (ac (aR (gL hr (ah 3) ae) (ak (ay (bI (l1 ad)))) aJ)
  (ac (aR (gL hr (ah 3) ae) (ak (ay (bI (lc ad (l1 (c4 (iF T) hr (lc (c4 (ao T) hr (lc (ah 0) (l1 (iR hr (aY (lc ae (l1 ae))) (c4 (ao T) hr (lc (ah 0) (l1 ae))))))) (l1 (aB az ae (c4 (ao T) hr (lc (ah 0) (l1 ae)))))))))))) aJ)
  (ak (ay (iR hr (aY (lc (bI (lc ad (lc (ah 2) (l1 (aB az ae (c4 (ao T) hr (lc (ah 0) (l1 ae)))))))) (l1 (bI (lc ad (l1 (ah 2))))))) (aB d9 (ah 3) ae))))))))) rfl
def cp(GD IG s0:aG):bw:=(af (av 4 (al GD [(v3 0),(c3 (.int 8))]))
  (af (bg (gK (aL (am mF (v3 2) (c3 (.int 2)))) (gK (aL (am mF (v3 3) (c3 (.int 2)))) (aL (am (bE false) (v3 4) (c3 (.int 0)))))) (aC (al IG [(v3 0),(v3 1)])) aQ)
  (af (bg (gK (aL (am mF (v3 2) (c3 (.int 3)))) (aL (am mF (v3 4) (c3 (.int 3))))) (aC (bR [(c3 (.str "often")),(al s0 [(v3 0),(v3 1),(am cD (v3 2) (c3 (.int 1))),(am cD (v3 3) (c3 (.int 1)))])])) aQ)
  (af (av 5 (am aH (c3 (.int 1)) (al GD [(v3 0),(am cD (v3 2) (c3 (.int 2)))])))
  (af (av 6 (al s0 [(v3 0),(v3 1),(v3 5),(am cD (v3 3) (c3 (.int 1)))]))
  (af (av 7 (al s0 [(v3 0),(v3 1),(am cD (am cD (v3 2) (c3 (.int 1))) (v3 5)),(am cD (v3 3) (c3 (.int 1)))]))
  (af (bg (aL (am mF (v3 4) (c3 (.int 6)))) (aC (bR [(am aD (aS [(c3 (.str "then")),(c3 (.str "then")),(c3 (.str "either"))]) (am cD (v3 4) (c3 (.int 3)))),(v3 6),(v3 7)])) aQ)
  (aC (bR [(c3 (.str "take")),(am aD (v3 1) (al GD [(v3 0),(aj bn [(v3 1)])])),(am aH (c3 (.int 1)) (al GD [(v3 0),(c3 (.int 9))])),(v3 6),(v3 7)])))))))))
noncomputable def bK:Nat->aG
 |0=>xS
 |n+1=>bO 8 (cp w__law_draw dU (bK n))
def dW:aG:=bK 12
def ig(T:Txt P w K mg):HF P w K mg base 14 "_law_any_body" 4 dW:=Be (b:=2) (r:=bK) T.o__law_any_body (fun n R0=>jC ["_law_deal_here","_law_words","_law_room","_law_down","_law_form","_law_left","_law_one","_law_other"] T.o__law_any_body (fun _ _ _ _ _ _ _ hr nd=>(ac (s4 4 nd (c4 (ao T) hr (lc (ah 0) (l1 ae))))
  (ac (aR (ly (dJ (aW iQ (ah 2) ae (aN _)) (dJ (aW iQ (ah 3) ae (aN _)) (cK (gL hr (ah 4) ae))))) (ak (ay (c4 (ie T) hr (lc (ah 0) (l1 (ah 1)))))) aJ)
  (ac (aR (ly (dJ (aW iQ (ah 2) ae (aN _)) (cK (aW iQ (ah 4) ae (aN _))))) (ak (ay (bI (lc ad (l1 (c4 R0 hr (lc (ah 0) (lc (ah 1) (lc (aB d9 (ah 2) ae) (l1 (aB d9 (ah 3) ae))))))))))) aJ)
  (ac (s4 5 nd (aB az ae (c4 (ao T) hr (lc (ah 0) (l1 (aB d9 (ah 2) ae))))))
  (ac (s4 6 nd (c4 R0 hr (lc (ah 0) (lc (ah 1) (lc (ah 5) (l1 (aB d9 (ah 3) ae)))))))
  (ac (s4 7 nd (c4 R0 hr (lc (ah 0) (lc (ah 1) (lc (aB d9 (aB d9 (ah 2) ae) (ah 5)) (l1 (aB d9 (ah 3) ae)))))))
  (ac (aR (aW iQ (ah 4) ae (aN _)) (ak (ay (bI (lc (iR hr (aY (lc ad (lc ad (l1 ad)))) (aB d9 (ah 4) ae)) (lc (ah 6) (l1 (ah 7))))))) aJ)
  (ak (ay (bI (lc ad (lc (iR hr (ah 1) (c4 (ao T) hr (lc (ah 0) (l1 (cB bc T.GN (l1 (ah 1))))))) (lc (aB az ae (c4 (ao T) hr (lc (ah 0) (l1 ae)))) (lc (ah 6) (l1 (ah 7))))))))))))))))) rfl) rfl rfl 12
def bY:bw:=(af (bg (aL (am (bE false) (am aD (v3 0) (c3 (.int 1))) (c3 (.int 1)))) (aC (aj f_ [(am aD (v3 0) (c3 (.int 0)))])) aQ)
  (aC (am aH (am aH (aj f_ [(am aD (v3 0) (c3 (.int 0)))]) (c3 (.str "/"))) (aj f_ [(am aD (v3 0) (c3 (.int 1)))]))))
def dA:aG:=bO 1 bY
def gD(T:Txt P w K mg):HF P w K mg base 1 "_law_cost_text" 1 dA:=jC ["_law_cost"] T.o__law_cost_text (fun _ _ _ _ _ _ _ hr nd=>(ac (aR (gL hr (jD hr (ah 0)) ae) (ak (ay (cT pO T.Iq (l1 (jD hr (ah 0)))))) aJ)
  (ak (ay (aB az (aB az (cT pO T.Iq (l1 (jD hr (ah 0)))) ad) (cT pO T.Iq (l1 (jD hr (ah 0))))))))) rfl
def bZ(Iy s0:aG):bw:=(af (bg (aL (am (bE false) (am aD (v3 0) (c3 (.int 0))) (c3 (.str "rest")))) (aC (c3 (.str "rest"))) aQ)
  (af (av 1 (aS [(am aD (v3 0) (c3 (.int 0)))]))
  (af (dy (bJ (aU (v3 0) (gY (c3 (.int 1))) kj)) (.n 2) (bg (aL (aj fm [(v3 2),(c3 (.ty "str"))])) (bd (cz "list" aI (v3 1) [(v3 2)])) (bg (aL (aj fm [(v3 2),(c3 (.ty "int"))])) (bd (cz "list" aI (v3 1) [(aj f_ [(v3 2)])])) (bg (aL (aj fm [(am aD (v3 2) (c3 (.int 0))),(c3 (.ty "str"))])) (bd (cz "list" aI (v3 1) [(al s0 [(v3 2)])])) (bd (cz "list" aI (v3 1) [(al Iy [(v3 2)])]))))))
  (aC (am aH (am aH (c3 (.str "(")) (cz "str" fw (c3 (.str " ")) [(v3 1)])) (c3 (.str ")")))))))
noncomputable def bD:Nat->aG
 |0=>xS
 |n+1=>bO 3 (bZ dA (bD n))
def b4:aG:=bD 36
def cQ(T:Txt P w K mg):HF P w K mg base 37 "_law_body_text" 1 b4:=Be (b:=1) (r:=bD) T.o__law_body_text (fun n R0=>jC ["_law_body","_law_wrote","_law_thing"] T.o__law_body_text (fun _ _ _ _ _ _ _ hr nd=>(ac (aR (gL hr (jD hr (ah 0)) ad) (ak (ay ad)) aJ)
  (ac (s4 1 nd (aY (l1 (jD hr (ah 0)))))
  (ac (gg Q5 rfl (dQ (bC (ah 0) (bG ae) cW)) (gn 2 nd) (ak (aR (dv (cB jt T.GI (lc (ah 2) (l1 (zm T.Iq))))) (ak (cj (kP bf bx (ah 1) (l1 (ah 2))))) (ak (aR (dv (cB jt T.GI (lc (ah 2) (l1 (zm T.Ii))))) (ak (cj (kP bf bx (ah 1) (l1 (cT pO T.Iq (l1 (ah 2))))))) (ak (aR (dv (cB jt T.GI (lc (jD hr (ah 2)) (l1 (zm T.Iq))))) (ak (cj (kP bf bx (ah 1) (l1 (c4 R0 hr (l1 (ah 2))))))) (ak (cj (kP bf bx (ah 1) (l1 (c4 (gD T) hr (l1 (ah 2))))))))))))))
  (ak (ay (aB az (aB az ad (kP lJ oz ad (l1 (ah 1)))) ad))))))) rfl) rfl rfl 36
def cG(HU:aG):bw:=(af (bg (gK (aL (am (jp false) (v3 0) (al HU []))) (f7 (aL (lI mF mF (c3 (.int 0)) (aj bn [(v3 0)]) (c3 (.int 7)))))) (aC (c3 (.bl false))) aQ)
  (aC (am (bE false) (bS (bJ (v3 0)) (.n 0) (aL (am (jp true) (v3 0) (c3 (.str "abcdefghijklmnopqrstuvwxyz")))) (v3 0) 1 []) (aS []))))
def bz:aG:=bO 1 (cG eO)
def iS(T:Txt P w K mg):HF P w K mg base 2 "_law_is_name" 1 bz:=jC ["_law_word"] T.o__law_is_name (fun _ _ _ _ _ _ _ hr nd=>(ac (aR (ly (dJ (aW (kI (ef hr)) (ah 0) (ED (gC T) hr) rfl) (cK (jn (xN iQ iQ ae (cB bc T.GN (l1 (ah 0))) ae))))) (ak (ay xx)) aJ)
  (ak (ay (jl (zc (m6 hr)) (Ct [] 1 [] ["_law_sign"] (dQ (ah 0)) (fun _=>(gn 0 DT)) (fun _=>(ut (aW (d4 (ef hr)) (ah 0) ad rfl))) (fun _=>(ah 0))) (aY mX) (aN _)))))) rfl
def eQ:bw:=(af (av 1 (aS [(aS [])]))
  (af (dy (bJ (cz "str" lQ (jG ")" " ) " (jG "(" " ( " (v3 0))) [])) (.n 2) (bg (aL (am (bE false) (v3 2) (c3 (.str "(")))) (bd (cz "list" aI (v3 1) [(aS [])])) (bg (lw (aL (am (bE false) (v3 2) (c3 (.str ")")))) (aL (am pS (aj bn [(v3 1)]) (c3 (.int 1))))) (af (av 3 (cz "list" oy (v3 1) []))
  (bd (cz "list" aI (am aD (v3 1) (sG iN (c3 (.int 1)))) [(v3 3)]))) (bg (aL (am (bE false) (v3 2) (c3 (.str ")")))) (aC (c3 .non)) (bd (cz "list" aI (am aD (v3 1) (sG iN (c3 (.int 1)))) [(v3 2)]))))))
  (af (bg (gK (aL (am pS (aj bn [(v3 1)]) (c3 (.int 1)))) (aL (am (bE true) (aj bn [(am aD (v3 1) (c3 (.int 0)))]) (c3 (.int 1))))) (aC (c3 .non)) aQ)
  (aC (am aD (am aD (v3 1) (c3 (.int 0))) (c3 (.int 0)))))))
def iH:aG:=bO 4 eQ
def mf(T:Txt P w K mg):HF P w K mg base 1 "_law_tree" 1 iH:=jC ["_law_text","_law_stack","_law_word","_law_one"] T.o__law_tree (fun _ _ _ _ _ _ _ hr nd=>(ac (s4 1 nd (aY (l1 (aY mX))))
  (ac (gg Q5 rfl (dQ (Bf eu ye (lP (lP (ah 0))))) (gn 2 nd) (ak (aR (gL hr (ah 2) ad) (ak (cj (kP bf bx (ah 1) (l1 (aY mX))))) (ak (aR (ly (mY (gL hr (ah 2) ad) (jm (aW lH (cB bc T.GN (l1 (ah 1))) ae (aN _))))) (ac (s4 3 nd (Bf uy zh (ah 1)))
  (ak (cj (kP bf bx (iR hr (ah 1) (rK gW ae)) (l1 (ah 3)))))) (ak (aR (gL hr (ah 2) ad) (ak (ay cv)) (ak (cj (kP bf bx (iR hr (ah 1) (rK gW ae)) (l1 (ah 2))))))))))))
  (ac (aR (ly (dJ (aW lH (cB bc T.GN (l1 (ah 1))) ae (aN _)) (cK (sH hr (cB bc T.GN (l1 (jD hr (ah 1)))) ae)))) (ak (ay cv)) aJ)
  (ak (ay (jD hr (jD hr (ah 1))))))))) rfl
def cI(Ik:aG):bw:=(af (av 1 (cz "str" de (v3 0) [(c3 (.str "/"))]))
  (af (dy (bJ (v3 1)) (.n 2) (bg (gK (aL (am (bE false) (v3 2) (c3 (.str "")))) (aL (am (bE true) (bS (bJ (v3 2)) (.n 0) (aL (am (jp true) (v3 0) (c3 (.str "0123456789")))) (v3 0) 1 []) (aS [])))) (aC (c3 .non)) aQ))
  (af (bg (gK (aL (am pS (aj bn [(v3 1)]) (c3 (.int 2)))) (lw (aL (am (bE false) (aj bn [(v3 1)]) (c3 (.int 2)))) (aL (am (bE false) (aj bN [(am aD (v3 1) (c3 (.int 1)))]) (c3 (.int 0)))))) (aC (c3 .non)) aQ)
  (aC (al Ik [(aj bN [(am aD (v3 1) (c3 (.int 0)))]),(aj bN [(am aD (am aH (v3 1) (aS [(c3 (.str "1"))])) (c3 (.int 1)))])])))))
def bA:aG:=bO 3 (cI fK)
def iT(T:Txt P w K mg):HF P w K mg base 2 "_law_cost_of" 1 bA:=jC ["_law_word","_law_numbers","_law_number"] T.o__law_cost_of (fun _ _ _ _ _ _ _ hr nd=>(ac (s4 1 nd (kP eu iY (ah 0) (l1 ad)))
  (ac (gg Q5 rfl (dQ (ah 1)) (gn 2 nd) (ak (aR (ly (dJ (gL hr (ah 2) ad) (cK (sH hr (Ct [] 1 [] ["_law_sign"] (dQ (ah 2)) (fun _=>(gn 0 DT)) (fun _=>(ut (aW (d4 (ef hr)) (ah 0) ad rfl))) (fun _=>(ah 0))) (aY mX))))) (ak (ay cv)) aJ)))
  (ac (aR (ly (dJ (aW lH (cB bc T.GN (l1 (ah 1))) ae (aN _)) (cK (ly (mY (gL hr (cB bc T.GN (l1 (ah 1))) ae) (jm (gL hr (cT gj T.Ii (l1 (jD hr (ah 1)))) ae))))))) (ak (ay cv)) aJ)
  (ak (ay (c4 (iF T) hr (lc (cT gj T.Ii (l1 (jD hr (ah 1)))) (l1 (cT gj T.Ii (l1 (jD hr (aB az (ah 1) (aY (l1 ad))))))))))))))) rfl
def bL(IS IU s0 s1:aG):bw:=(af (bg (aL (am (bE false) (v3 1) (c3 (.str "body")))) (aC (al s1 [(v3 0)])) aQ)
  (af (bg (f7 (aL (aj fm [(v3 0),(c3 (.ty "str"))]))) (aC (c3 .non)) aQ)
  (af (bg (aL (am (bE false) (v3 1) (c3 (.str "cost")))) (aC (al IS [(v3 0)])) aQ)
  (af (bg (aL (am (bE false) (v3 1) (c3 (.str "many")))) (aC (rJ (lw (aL (am (bE false) (aj bn [(v3 0)]) (c3 (.int 1)))) (aL (am (jp false) (v3 0) (c3 (.str "123456789"))))) (aj bN [(v3 0)]) (c3 .non))) aQ)
  (aC (rJ (aL (al IU [(v3 0)])) (v3 0) (c3 .non)))))))
def bU(s0 s1:aG):bw:=(af (bg (aL (am (bE false) (v3 0) (c3 (.str "rest")))) (aC (bR [(c3 (.str "rest"))])) aQ)
  (af (av 1 (d6 [((c3 (.str "pay")),(aS [(c3 (.str "cost"))])),((c3 (.str "put")),(aS [(c3 (.str "name")),(c3 (.str "many"))])),((c3 (.str "then")),(aS [(c3 (.str "body")),(c3 (.str "body"))])),((c3 (.str "either")),(aS [(c3 (.str "body")),(c3 (.str "body"))]))]))
  (af (bd (cz "dict" gk (v3 1) [(d6 [((c3 (.str "take")),(aS [(c3 (.str "name")),(c3 (.str "many")),(c3 (.str "body")),(c3 (.str "body"))])),((c3 (.str "often")),(aS [(c3 (.str "body"))])),((c3 (.str "use")),(aS [(c3 (.str "name"))]))])]))
  (af (bg (gK (aL (aj fm [(v3 0),(c3 (.ty "str"))])) (gK (aL (am (bE false) (aj bn [(v3 0)]) (c3 (.int 0)))) (gK (f7 (aL (aj fm [(am aD (v3 0) (c3 (.int 0))),(c3 (.ty "str"))]))) (aL (am (jp true) (am aD (v3 0) (c3 (.int 0))) (v3 1)))))) (aC (c3 .non)) aQ)
  (af (av 2 (am aD (v3 1) (am aD (v3 0) (c3 (.int 0)))))
  (af (bg (aL (am (bE true) (aj bn [(v3 0)]) (am aH (aj bn [(v3 2)]) (c3 (.int 1))))) (aC (c3 .non)) aQ)
  (af (av 3 (bS (uv (aU (v3 0) (gY (c3 (.int 1))) kj) (v3 2)) (.tp (.cons (.n 0) (.cons (.n 1) .nil))) fG (al s0 [(v3 0),(v3 1)]) 2 []))
  (af (bg (aL (am (jp false) (c3 .non) (v3 3))) (aC (c3 .non)) aQ)
  (aC (aj cL [(am aH (aU (v3 0) kj (gY (c3 (.int 1)))) (v3 3))]))))))))))
noncomputable def aV:Nat->aG×aG
 |0=>(xS,xS)
 |n+1=>(bO 2 (bL bA bz (aV n).1 (aV n).2),bO 4 (bU (aV n).1 (aV n).2))
def cq(n:Nat):aG:=(aV n).1
def bV(n:Nat):aG:=(aV n).2
def ij(T:Txt P w K mg)(n:Nat){s0 s1:aG}(R0:HF P w K mg base (2+n) "_law_thing_of" 2 s0)(R1:HF P w K mg base (2+n) "_law_body_of" 1 s1):HF P w K mg base (2+n+1) "_law_thing_of" 2 (bO 2 (bL bA bz s0 s1)):=jC ["_law_tree_here","_law_sort"] T.o__law_thing_of (fun _ _ _ _ _ _ _ hr nd=>(ac (aR (gL hr (ah 1) ad) (ak (ay (c4 R1 hr (l1 (ah 0))))) aJ)
  (ac (aR (jn (dv (cB jt T.GI (lc (ah 0) (l1 (zm T.Iq)))))) (ak (ay cv)) aJ)
  (ac (aR (gL hr (ah 1) ad) (ak (ay (c4 (iT T) hr (l1 (ah 0))))) aJ)
  (ac (aR (gL hr (ah 1) ad) (ak (ay (zb (ly (mY (gL hr (cB bc T.GN (l1 (ah 0))) ae) (jm (aW (kI (ef hr)) (ah 0) ad rfl)))) (cT gj T.Ii (l1 (ah 0))) cv))) aJ)
  (ak (ay (zb (dv (c4 (iS T) hr (l1 (ah 0)))) (ah 0) cv)))))))) rfl
def iU(T:Txt P w K mg)(n:Nat){s0 s1:aG}(R0:HF P w K mg base (2+n) "_law_thing_of" 2 s0)(R1:HF P w K mg base (2+n) "_law_body_of" 1 s1):HF P w K mg base (2+n+1) "_law_body_of" 1 (bO 4 (bU s0 s1)):=jC ["_law_tree_here","_law_sorts","_law_wrote","_law_things"] T.o__law_body_of (fun _ _ _ _ _ _ _ hr nd=>(ac (aR (gL hr (ah 0) ad) (ak (ay (bI (l1 ad)))) aJ)
  (ac (s4 1 nd (oE (b5 ad (aY (l1 ad)) (b5 ad (aY (lc ad (l1 ad))) (b5 ad (aY (lc ad (l1 ad))) (b5 ad (aY (lc ad (l1 ad))) oC))))))
  (ac (cj (kP r9 uS (ah 1) (l1 (oE (b5 ad (aY (lc ad (lc ad (lc ad (l1 ad))))) (b5 ad (aY (l1 ad)) (b5 ad (aY (l1 ad)) oC)))))))
  (ac (aR (ly (dJ (dv (cB jt T.GI (lc (ah 0) (l1 (zm T.Iq))))) (dJ (gL hr (cB bc T.GN (l1 (ah 0))) ae) (dJ (jn (dv (cB jt T.GI (lc (jD hr (ah 0)) (l1 (zm T.Iq)))))) (cK (aW (d4 (ef hr)) (jD hr (ah 0)) (ah 1) rfl)))))) (ak (ay cv)) aJ)
  (ac (s4 2 nd (iR hr (ah 1) (jD hr (ah 0))))
  (ac (aR (sH hr (cB bc T.GN (l1 (ah 0))) (aB az (cB bc T.GN (l1 (ah 2))) ae)) (ak (ay cv)) aJ)
  (ac (Fu [] 2 [] ["_law_one","_law_sort"] 3 nd (Ba rfl rfl rfl T.Mt (by decide +kernel) (lc (bC (ah 0) (bG ae) cW) (l1 (ah 2)))) (fun _=>(Gm rfl (uo (gn 0 DU) (uo (gn 1 DU) Dr)))) (fun _=>kK) (fun _=>(c4 R0 hr (lc (ah 0) (l1 (ah 1))))))
  (ac (aR (aW (kI (ef hr)) cv (ah 3) rfl) (ak (ay cv)) aJ)
  (ak (ay (cT pP T.JW (l1 (aB az (bC (ah 0) cW (bG ae)) (ah 3))))))))))))))) rfl
theorem cR(T:Txt P w K mg):∀n:Nat,HF P w K mg base (2+n) "_law_thing_of" 2 (cq n)/\HF P w K mg base (2+n) "_law_body_of" 1 (bV n)
 |0=>⟨.zero T.o__law_thing_of,.zero T.o__law_body_of⟩
 |n+1=>let ⟨h0,h1⟩:=cR T n;⟨ij T n h0 h1,iU T n h0 h1⟩
def eR:aG:=bV 72
def iV(T:Txt P w K mg):HF P w K mg base 74 "_law_body_of" 1 eR:=(cR T 72).2
def cr(JA IV G1:aG):bw:=(af (av 1 (al JA [(v3 0)]))
  (af (av 2 (c3 .non))
  (af (bg (aL (am (oq true) (v3 1) (c3 .non))) (av 2 (al IV [(v3 1)])) aQ)
  (af (bg (gK (aL (am (oq false) (v3 2) (c3 .non))) (aL (am (bE true) (al G1 [(v3 2)]) (v3 0)))) (aC (c3 .non)) aQ)
  (aC (v3 2))))))
def cu:aG:=bO 3 (cr iH eR b4)
def ik(T:Txt P w K mg):HF P w K mg base 75 "_law_body_due" 1 cu:=jC ["_law_text","_law_tree_here","_law_found"] T.o__law_body_due (fun _ _ _ _ _ _ _ hr nd=>(ac (s4 1 nd (c4 (mf T) hr (l1 (ah 0))))
  (ac (s4 2 nd cv)
  (ac (aR (aW uc (ah 1) cv (aN _)) (ak (s4 2 nd (c4 (iV T) hr (l1 (ah 1))))) aJ)
  (ac (aR (ly (dJ (aW ze (ah 2) cv (aN _)) (cK (sH hr (c4 (cQ T) hr (l1 (ah 2))) (ah 0))))) (ak (ay cv)) aJ)
  (ak (ay (ah 2)))))))) rfl
def dj(GD Jl:aG):bw:=(af (av 2 (al GD [(v3 0),(am aH (aj bn [(v3 1)]) (c3 (.int 1)))]))
  (af (av 3 (al GD [(v3 0),(c3 (.int 9))]))
  (af (av 4 (am aD (aS [(al Jl []),(c3 (.str "() /0:9"))]) (al GD [(v3 0),(c3 (.int 2))])))
  (af (av 5 (am aD (v3 4) (al GD [(v3 0),(aj bn [(v3 4)])])))
  (af (bg (aL (am mF (v3 3) (c3 (.int 3)))) (aC (am aH (am aH (aU (v3 1) kj (gY (v3 2))) (am aD (aS [(v3 5),(c3 (.str "")),(v3 5)]) (v3 3))) (aU (v3 1) (gY (am aH (v3 2) (aj bN [(am pS (v3 3) (c3 (.int 0)))]))) kj))) aQ)
  (af (av 6 (cz "str" de (v3 1) [(c3 (.str " "))]))
  (af (av 7 (al GD [(v3 0),(aj bn [(v3 6)])]))
  (af (av 8 (al GD [(v3 0),(aj bn [(v3 6)])]))
  (af (bg (aL (am (bE false) (v3 3) (c3 (.int 3)))) (av 6 (am aH (aU (v3 6) kj (gY (v3 7))) (aU (v3 6) (gY (am aH (v3 7) (c3 (.int 1)))) kj))) (bg (aL (am (bE false) (v3 3) (c3 (.int 4)))) (av 6 (am aH (am aH (aU (v3 6) kj (gY (v3 7))) (aU (v3 6) (gY (v3 7)) (gY (am aH (v3 7) (c3 (.int 1)))))) (aU (v3 6) (gY (v3 7)) kj))) (bg (aL (am mF (v3 3) (c3 (.int 7)))) (uT (bR [(am aD (v3 6) (v3 8)),(am aD (v3 6) (v3 7))]) (v3 6) (v3 7) (v3 6) (v3 8)) (af (av 9 (aS [(c3 (.str "rest")),(c3 (.str "(rest)")),(c3 (.str "0")),(c3 (.str "10")),(c3 (.str "01")),(c3 (.str "2/4")),(c3 (.str "5/1")),(c3 (.str "-1")),(c3 (.str "1/0")),(c3 (.str "deed")),(c3 (.str "jars")),(c3 (.str ":")),(c3 (.str "abcdefg")),(c3 (.str "(use a)"))]))
  (lC (am aD (v3 9) (al GD [(v3 0),(c3 (.int 14))])) (v3 6) (v3 7))))))
  (aC (cz "str" fw (c3 (.str " ")) [(v3 6)])))))))))))
def dk:aG:=bO 10 (dj w__law_draw gB)
def jY(T:Txt P w K mg):HF P w K mg base 2 "_law_spoilt" 2 dk:=jC ["_law_deal_here","_law_text","_law_at","_law_form","_law_signs_here","_law_sign","_law_words","_law_spot","_law_far","_law_some"] T.o__law_spoilt (fun _ _ _ _ _ _ _ hr nd=>(ac (s4 2 nd (c4 (ao T) hr (lc (ah 0) (l1 (aB az (cB bc T.GN (l1 (ah 1))) ae)))))
  (ac (s4 3 nd (c4 (ao T) hr (lc (ah 0) (l1 ae))))
  (ac (s4 4 nd (iR hr (aY (lc (ED (ko T) hr) (l1 ad))) (c4 (ao T) hr (lc (ah 0) (l1 ae)))))
  (ac (s4 5 nd (iR hr (ah 4) (c4 (ao T) hr (lc (ah 0) (l1 (cB bc T.GN (l1 (ah 4))))))))
  (ac (aR (aW iQ (ah 3) ae (aN _)) (ak (ay (aB az (aB az (bC (ah 1) cW (bG (ah 2))) (iR hr (aY (lc (ah 5) (lc ad (l1 (ah 5))))) (ah 3))) (bC (ah 1) (bG (aB az (ah 2) (cT gj T.Ii (l1 (jl lH (ah 3) ae (aN _)))))) cW)))) aJ)
  (ac (s4 6 nd (kP eu iY (ah 1) (l1 ad)))
  (ac (s4 7 nd (c4 (ao T) hr (lc (ah 0) (l1 (cB bc T.GN (l1 (ah 6)))))))
  (ac (s4 8 nd (c4 (ao T) hr (lc (ah 0) (l1 (cB bc T.GN (l1 (ah 6)))))))
  (ac (aR (gL hr (ah 3) ae) (ak (s4 6 nd (aB az (bC (ah 6) cW (bG (ah 7))) (bC (ah 6) (bG (aB az (ah 7) ae)) cW)))) (ak (aR (gL hr (ah 3) ae) (ak (s4 6 nd (aB az (aB az (bC (ah 6) cW (bG (ah 7))) (bC (ah 6) (bG (ah 7)) (bG (aB az (ah 7) ae)))) (bC (ah 6) (bG (ah 7)) cW)))) (ak (aR (aW iQ (ah 3) ae (aN _)) (ak (Br (A_ hr) (bI (lc (iR hr (ah 6) (ah 8)) (l1 (iR hr (ah 6) (ah 7))))) (ah 6) (ah 7) (ah 6) (ah 8))) (ac (s4 9 nd (aY (lc ad (lc ad (lc ad (lc ad (lc ad (lc ad (lc ad (lc ad (lc ad (lc ad (lc ad (lc ad (lc ad (l1 ad))))))))))))))))
  (ak (pR (A_ hr) (iR hr (ah 9) (c4 (ao T) hr (lc (ah 0) (l1 ae)))) (ah 6) (ah 7)))))))))
  (ak (ay (kP lJ oz ad (l1 (ah 6))))))))))))))) rfl
def dP:bw:=(af (av 1 (aj (jB Jw) [(v3 0),(bR [(c3 (.cls "NoHouse")),(c3 (.cls "NoRow")),(c3 (.cls "NoStory")),(c3 (.cls "Stuck")),(c3 (.cls "TooLong")),(c3 (.cls "TooMany"))])]))
  (af (bg (gK (aL (v3 1)) (gK (f7 (aL (aj (jB Jw) [(v3 0),(c3 (.cls "BadText"))]))) (gK (f7 (aL (aj (jB Jw) [(v3 0),(c3 (.ty "ValueError"))]))) (aL (aj fm [(kO MW "row" (v3 0)),(c3 (.ty "bool"))]))))) (aC (sG iN (c3 (.int 1)))) aQ)
  (aC (kO MW "row" (v3 0)))))
def gE:aG:=bO 2 dP
def jZ(T:Txt P w K mg):FB P w K mg base 1 "_law_heard" 1 gE:=FC ["_law_caught","_law_others"] T.o__law_heard (fun _ _ _ _ _ _ _ hr nd=>(ac (s4 1 nd (cB (oI T.KG) T.GI (lc (ah 0) (l1 (bI (lc (Bg T.Kf) (lc (Bg T.K8) (lc (Bg T.Kh) (lc (Bg T.K7) (lc (Bg T.Kg) (l1 (Bg T.Ki))))))))))))
  (ac (aR (ly (dJ (dv (ah 1)) (dJ (jn (dv (cB (oI T.KG) T.GI (lc (ah 0) (l1 (Bg T.Ke)))))) (dJ (jn (dv (cB (oI T.KG) T.GI (lc (ah 0) (l1 (zm T.Jj)))))) (cK (dv (cB jt T.GI (lc (ux T.x_at (ah 0) rfl) (l1 (zm T.LG)))))))))) (ak (ay (rK gW ae))) aJ)
  (ak (ay (ux T.x_at (ah 0) rfl)))))) rfl
def eS(JB Jm:aG):bw:=(af (xQ ["BadText"] 2 (av 1 (bR [(c3 (.str "told")),(bo JB [(v3 0)])])) (av 1 (am aD (aS [(bR [(c3 (.str "refused"))]),(bR [(c3 (.str "other"))])]) (aj bN [(am (bE true) (al Jm [(v3 2)]) (c3 (.int 0)))]))))
  (aC (v3 1)))
def eU:aG:=bO 3 (eS eM gE)
def mh(T:Txt P w K mg):HF P w K mg base 43 "_law_read" 1 eU:=jC ["_law_text","_law_found","e"] T.o__law_read (fun _ _ _ _ _ _ _ hr nd=>(ac (Gp 2 T.JN nd (fun E pins hp=>(ak (s4 1 nd (bI (lc ad (l1 (cX (ma T) hr (l1 (ah 0))))))))) (fun a=>(ak (s4 1 nd (FE (uP hr) (aY (lc (bI (l1 ad)) (l1 (bI (l1 ad))))) (cT gj T.Ii (l1 (jl (zd (Bq (uP hr))) (cH (jZ T) (uP hr) (l1 (ah 2))) ae (aN _)))))))))
  (ak (ay (ah 1))))) rfl
def fL:bw:=(af (av 0 (aS [(c3 (.str "")),(c3 (.str " ")),(c3 (.str "()")),(c3 (.str "rest ")),(c3 (.str " rest")),(c3 (.str "(rest)")),(c3 (.str "(pay)")),(c3 (.str "(pay 1 2)")),(c3 (.str "(pay -1)")),(c3 (.str "(pay 0)")),(c3 (.str "(put a)"))]))
  (af (av 0 (am aH (v3 0) (aS [(c3 (.str "(put a 0)")),(c3 (.str "(put a 10)")),(c3 (.str "(then rest)")),(c3 (.str "(then rest rest rest)")),(c3 (.str "(often rest rest)")),(c3 (.str "(use)"))])))
  (af (av 0 (am aH (v3 0) (aS [(c3 (.str "(use a 1)"))])))
  (af (av 0 (am aH (v3 0) (aS [(c3 (.str "(take a 1 rest)")),(c3 (.str "(take 1 a rest rest)")),(c3 (.str "(pay 2/2)")),(c3 (.str "((pay 1))"))])))
  (aC (am aH (v3 0) (aS [(c3 (.str "(pay (pay 1))")),(c3 (.str "(Pay 1)")),(c3 (.str "pay"))])))))))
def j0:aG:=bO 1 fL
def ny(T:Txt P w K mg):HF P w K mg base 1 "_law_odd" 0 j0:=jC ["_law_some"] T.o__law_odd (fun _ _ _ _ _ _ _ hr nd=>(ac (s4 0 nd (aY (lc ad (lc ad (lc ad (lc ad (lc ad (lc ad (lc ad (lc ad (lc ad (lc ad (l1 ad)))))))))))))
  (ac (s4 0 nd (aB az (ah 0) (aY (lc ad (lc ad (lc ad (lc ad (lc ad (l1 ad)))))))))
  (ac (s4 0 nd (aB az (ah 0) (aY (l1 ad))))
  (ac (s4 0 nd (aB az (ah 0) (aY (lc ad (lc ad (lc ad (l1 ad)))))))
  (ak (ay (aB az (ah 0) (aY (lc ad (lc ad (l1 ad)))))))))))) rfl
def vm(JC JO GD JD G1 II Ja IJ JE:aG):bw:=(af (av 1 (al JC [(v3 0),(c3 (.int 0))]))
  (af (av 2 (al JO []))
  (af (dy (jv (c3 (.int 6))) (.n 3) (af (av 4 (bS (jv (am aH (c3 (.int 2)) (al GD [(v3 1),(c3 (.int 4))]))) (.n 0) fG (al JD [(v3 1)]) 1 [1]))
  (af (av 5 (al G1 [(al II [(v3 1),(v3 4),(am aH (c3 (.int 1)) (al GD [(v3 1),(c3 (.int 20))])),(c3 (.int 6))])]))
  (af (bd (cz "list" aI (v3 2) [(v3 5)]))
  (dy (jv (am aH (c3 (.int 1)) (al GD [(v3 1),(c3 (.int 3))]))) (.n 6) (af (av 5 (al Ja [(v3 1),(v3 5)]))
  (bd (cz "list" aI (v3 2) [(v3 5)]))))))))
  (af (dy (bJ (am aH (v3 2) (uU (v3 2) (sG iN (c3 (.int 1)))))) (.n 5) (af (av 7 (al IJ [(v3 5)]))
  (bg (aL (am (bE true) (aj kR [(al JE [(v3 5)])]) (aj kR [(am aD (aS [(bR [(c3 (.str "told")),(v3 7)]),(bR [(c3 (.str "refused"))])]) (aj bN [(am (oq false) (v3 7) (c3 .non))]))]))) (aC (c3 (.bl false))) aQ)))
  (aC (c3 (.bl true)))))))
def nz:aG:=bO 8 (vm iE j0 w__law_draw iG b4 dW dk cu eU)
def BQ(T:Txt P w K mg){f:Addr}{fd:FuncData}(O:EC K mg "law" (top 48) ["_law_script"] f fd):Lf P w K mg base 76 f fd ["_law_script"] nz:=Gn ["_law_script","_law_deal_here","_law_texts","_law_k","_law_words","_law_text","_law_turn","_law_due"] O (fun _ _ _ _ _ _ _ hr nd=>(ac (s4 1 nd (c4 (md T) hr (lc (ah 0) (l1 ae))))
  (ac (s4 2 nd (ED (ny T) hr))
  (ac (gg Q5 rfl (gf rfl rfl T.Ip (l1 ae)) (gn 3 nd) (ac (Fu ["_law_deal_here"] 1 [1] ["_law_j","_law_deal_here"] 4 nd (gf rfl rfl T.Ip (l1 (aB az ae (c4 (ao T) hr (lc (ah 1) (l1 ae)))))) (fun _=>(gn 0 FK)) (fun _=>kK) (fun _=>(c4 (me T) hr (l1 (ah 1)))))
  (ac (s4 5 nd (c4 (cQ T) hr (l1 (c4 (ig T) hr (lc (ah 1) (lc (ah 4) (lc (aB az ae (c4 (ao T) hr (lc (ah 1) (l1 ae)))) (l1 ae))))))))
  (ac (cj (kP bf bx (ah 2) (l1 (ah 5))))
  (ak (gg Q5 rfl (gf rfl rfl T.Ip (l1 (aB az ae (c4 (ao T) hr (lc (ah 1) (l1 ae)))))) (gn 6 nd) (ac (s4 5 nd (c4 (jY T) hr (lc (ah 1) (l1 (ah 5)))))
  (ak (cj (kP bf bx (ah 2) (l1 (ah 5))))))))))))
  (ac (gg Q5 rfl (dQ (aB az (ah 2) (Bs (ah 2) (rK gW ae)))) (gn 5 nd) (ac (s4 7 nd (c4 (ik T) hr (l1 (ah 5))))
  (ak (aR (sH hr (cB (uL (m6 hr) hr.gd) T.KE (l1 (c4 (mh T) hr (l1 (ah 5))))) (cB (uL (m6 hr) hr.gd) T.KE (l1 (iR hr (aY (lc (bI (lc ad (l1 (ah 7)))) (l1 (bI (l1 ad))))) (cT gj T.Ii (l1 (jl ze (ah 7) cv (aN _)))))))) (ak (ay xx)) aJ))))
  (ak (ay xx))))))) rfl
end
end G09
namespace G09
open PySem L2 L3 Wd
open C CX T5
noncomputable abbrev bt:PV:=.exc "BadText" ["row"] [.int 0]
def toS(n:Int):PySem.Str.ofString (toString n)=ai (num n):=(df _).symm
def il{n:Int}(h:n.natAbs < 10 ^ 60):n.natAbs.log2 < 1920:=by
 by_cases h0:n.natAbs=0
 ·rw[h0];decide
 ·rw[Nat.log2_lt h0]
  exact P6 h (by decide)
def cS{n:Int}{k:Nat}(h:n.natAbs < 10 ^ (k+1)):(num n).length<=k+2:=by
 rcases Int.eq_nat_or_neg n with⟨m,rfl|rfl⟩
 ·rw[ba];have:=lO (k:=k) (m:=m) (by simpa using h);omega
 ·by_cases h0:0 < m
  ·rw[xW m h0];have:=lO (k:=k) (m:=m) (by simpa using h);simp;omega
  ·have:m=0:=by omega
   subst this
   show(num ((0:Nat):Int)).length<=_
   rw[ba,HR (by decide)];simp
def ln{n m:Nat}(h:n<=m)(hm:m<=100000:=by decide):n<=sizeLine:=PZ h (PZ hm (by decide))
def FM:wN 10 60:=⟨by decide,by decide,by decide⟩
noncomputable def kZ(c:Nat):Bool:=decide (c∈(PySem.Str.ofString "0123456789").cps.toList)
def IP{c:Nat}:kZ c=true↔48<=c/\c<=57:=by
 unfold kZ
 rw[decide_eq_true_iff,show(PySem.Str.ofString "0123456789").cps.toList=[48,49,50,51,52,53,54,55,56,57] from rfl]
 simp only[PM,P7,Qx]
 omega
def JY{l:List Nat}:l.all kZ=true↔NumText.AllDigits l:=by
 rw[QG]
 exact⟨fun h c hc=>IP.mp (h c hc),fun h c hc=>IP.mpr (h c hc)⟩
theorem im{α:Type}(f:α->Bool):∀l:List α,jr (l.map fun c=>PV.bl (f c))=some (l.map f)
 |[]=>rfl
 |a::r=>by rw[PL,jr,im f r];rfl
def vn{c:Nat}:(false != !(Builtin.Str.occurrences (PySem.Str.ofString "0123456789") (sgn c) 0 (PySem.Str.ofString "0123456789").length 1).isEmpty)=kZ c:=by
 unfold kZ
 rw[<-RN,Qn]
abbrev zu(w:aG):Prop:=∀{S:ap} {l:List Nat} {Q:bQ} {E:b8},l.length<=60->(∀v S',rf l=some v->Ext S S'->Q (.int (v:Int)) S')->(∀S',rf l=none->Ext S S'->E bt [] S')->w [.str (ai l)] S Q E
def vo:zu (ei 4 cE):=by
 intro S l Q E hl k1 k2
 unfold cE
 refine oO ?_
 rw[show aA 4 [PV.str (ai l)]=[some (.str (ai l)),none,none,none] from rfl]
 refine aw fun N hN=>?_
 by_cases hz:l=[]
 ·subst hz
  walk_at "x"
  rw[show decide (ai []=Str.ofString "")=true from by decide]
  walk_at "y"
  exact k2 _ (iZ fun z=>z.1.1 rfl) .refl
 walk_at "x"
 rw[show decide (ai l=Str.ofString "")=false from P0 fun e=>hz (Qu (fun z:Str=>z.cps.toList) e)]
 walk_at "y"
 refine hJ (fun c=>PV.str (sgn c)) (fun c=>PV.bl (kZ c)) trivial l [] (fun c _=>⟨_,rfl,fun Q q=>?_⟩) (ln (m:=60) (by simpa using hl)) ?_
 ·show Q (.bl (false != !(Builtin.Str.occurrences (PySem.Str.ofString "0123456789") (sgn c) 0 (PySem.Str.ofString "0123456789").length 1).isEmpty)) S
  rw[vn];exact q
 intro p hp
 simp only[rM,aa,List.nil_append,im]
 have ea:(l.map kZ).all id=l.all kZ:=by rw[List.all_map];rfl
 rw[ea]
 have X1:Ext S (GC S p (.lst (l.map fun c=>PV.bl (kZ c)))):=.new hp
 generalize GC S p (.lst (l.map fun c=>PV.bl (kZ c)))=S1 at X1
 by_cases hd:l.all kZ=true
 ·rw[hd]
  walk_at "y"
  refine hN _ _ (aw fun N hN=>?_)
  have hd:=JY.mp hd
  cases l with
  |nil=>exact absurd rfl hz
  |cons c r=>
  walk_at "x"
  refine⟨ln (m:=60) hl,?_⟩
  rw[show He (ai (c::r)).cps.toList 0=some c from dC (j:=0) rfl]
  dsimp only
  have rest:jF (c::r)->N [some (PV.str (ai (c::r))),none,none,none] S1:=by
   intro hc
   have ok:sI (c::r):=⟨hz,hd⟩
   have hv:rf (c::r)=some (NumText.digitsVal (c::r)):=pX ok hc
   refine hN _ _ (aw fun N hN=>?_)
   walk_at "x"
   refine hN _ _ (aw fun N hN=>?_)
   walk_at "x"
   have Pj:((ai (c::r)).length:Int)+(-((ai (c::r)).length:Int)).fmod 60=60:=by
    rw[GF,Int.fmod_eq_emod_of_nonneg _ (by decide)]
    have:1<=(c::r).length:=by simp
    omega
   rw[Pj]
   simp only[lK]
   have hsz:(ai (c::r)).length<=sizeLine:=ln (m:=60) hl
   refine⟨trivial,hsz,hsz,by decide,by decide,hN _ _ (aw fun N hN=>?_)⟩
   rw[zf ok hl]
   have hsz':(ai (rX (c::r))).length<=sizeLine:=by rw[GF,e_ hl];decide
   walk_at "x"
   simp only[Bm,c3,aj,au,v3,lk,bn,GF,e_ hl]
   refine⟨by decide,1,⟨by decide,by decide,by decide,by decide⟩,?_⟩
   rw[show jE 0 60 1=[PV.int 0] from rfl]
   simp only[lE]
   refine⟨trivial,?_⟩
   walk_at "x"
   refine⟨FM,Bt (by decide) (by decide),hsz',?_⟩
   rw[show((0:Int)+60)=60 from rfl,uK _ (e_ hl)]
   simp only[bN,ya ok hl]
   refine⟨by rw[GF,e_ hl];decide,trivial,hN _ _ ?_⟩
   walk_at "x"
   rw[Int.zero_mul,Int.zero_add]
   exact k1 _ _ hv X1
  by_cases Ny:c=48
  ·subst Ny
   rw[show decide (({ cps:=#[48] }:Str)=Str.ofString "0")=true from by decide]
   by_cases hr:r=[]
   ·subst hr
    rw[show decide (ai [48]=Str.ofString "0")=true from by decide]
    walk_at "y"
    exact rest fun r e=>((RZ e).2).symm
   ·rw[show decide (ai (48::r)=Str.ofString "0")=false from P0 fun e=>hr (RZ (Qu (fun z:Str=>z.cps.toList) e)).2]
    walk_at "y"
    exact k2 _ (iZ fun z=>hr (z.2 r rfl)) X1
  ·rw[show decide (({ cps:=#[c] }:Str)=Str.ofString "0")=false from P0 fun e=>Ny (RZ (Qu (fun z:Str=>z.cps.toList) e)).1]
   walk_at "y"
   exact rest fun r e=>absurd (RZ e).1 Ny
 ·rw[Bool.not_eq_true]at hd
  rw[hd]
  walk_at "y"
  exact k2 _ (iZ fun z=>by have:=JY.mpr z.1.2;rw[hd]at this;cases this) X1
def gF(a b:List Nat):ai a++ai b=ai (a++b):=by
 apply Str.ext'
 show a.toArray++b.toArray=(a++b).toArray
 simp
def BR(a:List Nat):ai a++Str.ofString "/" = ai (a++[47]):=gF a [47]
def Ps(l:List Nat):Prop:=l.length<=1000/\∀p∈sp l,p.length<=60
abbrev vp(w:aG):Prop:=∀{S:ap} {l:List Nat} {Q:bQ} {E:b8},Ps l->(∀t u S',rn l=some (t,u)->Ext S S'->Q (.tup [.int (t:Int),.int (u:Int)]) S')->(∀S',rn l=none->Ext S S'->E bt [] S')->w [.str (ai l)] S Q E
def vq{xf xc:aG}(Mv:zu xf)(JF:jJ xc):vp (ei 4 (bq xf xc)):=by
 intro S l Q E hl k1 k2
 unfold bq
 refine oO ?_
 rw[show aA 4 [PV.str (ai l)]=[some (.str (ai l)),none,none,none] from rfl]
 refine aw fun N hN=>?_
 have hlen:=uF l
 have Lj:=hl.2
 walk_at "x"
 simp only[de]
 rw[m_,toL]
 refine⟨trivial,by decide,ln (m:=1000) hl.1,ln (m:=1001) (by rw[PY];have:=hl.1;omega),fun p hp=>hN _ _ (aw fun N hN=>?_)⟩
 have X1:Ext S (GC S p (.lst (((sp l).map ai).map PV.str))):=.new hp
 have hS:(GC S p (.lst (((sp l).map ai).map PV.str))) p=some (.lst (((sp l).map ai).map PV.str)):=aa
 generalize GC S p (.lst (((sp l).map ai).map PV.str))=S1 at X1 hS
 unfold rn at k1 k2
 cases e:sp l with
 |nil=>exact absurd e (pT l)
 |cons a t=>
 rw[e]at hS Lj k1 k2 hlen
 walk_at "x"
 rw[hS]
 walk_at "y"
 refine Mv (Lj a (by simp)) (fun v S2 hv X2=>?_) fun S2 hv X2=>?_
 ·have hS2:=X2 _ _ hS
  refine hN _ _ (aw fun N hN=>?_)
  walk_at "y"
  rw[hS2]
  walk_at "y"
  cases t with
  |nil=>
   rw[Qh (by simp)]
   walk_at "y"
   exact k1 v 1 _ (by dsimp only;rw[hv]) (X1.trans X2)
  |cons b t=>
   rw[P0 (by simp;omega)]
   walk_at "y"
   refine hN _ _ (aw fun N hN=>?_)
   walk_at "y"
   rw[hS2]
   walk_at "y"
   cases t with
   |cons c t=>
    rw[Qh (by simp;omega)]
    walk_at "y"
    exact k2 _ rfl (X1.trans X2)
   |nil=>
    rw[P0 (by simp)]
    walk_at "y"
    refine hN _ _ (aw fun N hN=>?_)
    walk_at "y"
    rw[hS2]
    walk_at "y"
    refine Mv (Lj b (by simp)) (fun u S3 hu X3=>?_) fun S3 hu X3=>k2 _ (by dsimp only;rw[hv,hu]) (X1.trans (X2.trans X3))
    refine hN _ _ (aw fun N hN=>?_)
    dsimp only at k1 k2
    rw[hv,hu]at k1 k2
    dsimp only at k1 k2
    have X4:=X1.trans (X2.trans X3)
    have raise:(u < 2\/Nat.gcd v u≠1)->E bt [] S3:=fun h=>k2 _ (if_pos h) X4
    have go:¬(u < 2\/Nat.gcd v u≠1)->Q (.tup [.int (v:Int),.int (u:Int)]) S3:=fun h=>k1 v u _ (if_neg h) X4
    walk_at "y"
    by_cases h2:(u:Int) < 2
    ·rw[Qh h2]
     walk_at "y"
     exact raise (.inl (by omega))
    ·rw[P0 h2]
     walk_at "y"
     refine JF (by omega) (by omega) ?_
     walk_at "y"
     rw[show Int.gcd (v:Int) (u:Int)=Nat.gcd v u from rfl]
     by_cases hg:((Nat.gcd v u:Nat):Int)=1
     ·rw[Qh hg]
      walk_at "y"
      refine hN _ _ ?_
      walk_at "y"
      exact go (by omega)
     ·rw[P0 hg]
      walk_at "y"
      exact raise (.inr (by omega))
 ·refine k2 _ ?_ (X1.trans X2)
  match t with
  |[]=>dsimp only;rw[hv]
  |[b]=>dsimp only;rw[hv]
  |_::_::_=>rfl
end G09
namespace G09
open PySem L2 L3 Wd
open C CX T5 T7 T9 PySem.NumText
noncomputable def Vd(l:List Nat):Bool:=l.all fun c=>decide (c < 256)
def Iz{l:List Nat}:Vd l=true↔∀c∈l,c < 256:=by unfold Vd;rw[QG];simp
def mi{l:List Nat}(h:Vd l=true)(hl:l.length<=20000):PyData.strOk (ai l)=true:=by
 show(l.toArray.all fun x=>decide (x < 0x110000))=true
 rw[<-Array.all_toList,QG]
 intro c hc
 have:=Iz.mp h c hc
 simp;omega
noncomputable def sK(c:Nat):Bool:=decide (97<=c)&&decide (c<=122)
def vt{c:Nat}:(false != !(Builtin.Str.occurrences (PySem.Str.ofString "abcdefghijklmnopqrstuvwxyz") (sgn c) 0 (PySem.Str.ofString "abcdefghijklmnopqrstuvwxyz").length 1).isEmpty)=sK c:=by
 rw[Qn,RN,show(PySem.Str.ofString "abcdefghijklmnopqrstuvwxyz").cps.toList=List.range' 97 26 from by decide +kernel]
 unfold sK
 rw[<-Bool.decide_and]
 congr 1
 rw[R5]
 simp only[eq_iff_iff]
 omega
def nA{te:aK}{D:fZ}{σ:bM}{S:ap}(h:te σ S D.rt D.ex):aC te D σ S:=h
abbrev DV(w:aG):Prop:=∀{S:ap} {l:List Nat} {Q:bQ} {E:b8},l.length<=1000->Vd l=true->(∀S',Ext S S'->Q (.bl (dR l)) S')->w [.str (ai l)] S Q E
def yq:DV (bO 1 h_):=by
 intro S l Q E hl hv k
 unfold h_
 refine j9 ?_
 rw[show aA 1 [PV.str (ai l)]=[some (.str (ai l))] from rfl]
 refine aw fun N hN=>?_
 walk_at "x"
 rw[GF]
 by_cases h1:l=[]
 ·subst h1
  walk_at "y"
  refine⟨ln (m:=60) (by simp),?_⟩
  exact k S .refl
 have h1':l.length≠0:=fun e=>h1 (QF.mp e)
 rw[P0 (by omega)]
 walk_at "y"
 rcases Nat.lt_or_ge 6 l.length with h2|h2
 ·rw[Qh (by omega)]
  walk_at "y"
  refine⟨ln (m:=1000) hl,ln (m:=1000) hl,?_⟩
  have:dR l=false:=by unfold dR;rw[P0 (Nat.not_le.mpr h2)];simp
  rw[<-this];exact k S .refl
 rw[P0 (by omega)]
 walk_at "y"
 refine⟨ln (m:=1000) hl,ln (m:=1000) hl,hN _ _ (nA ?_)⟩
 simp only[kH,am,v3,lk,c3]
 refine u4 (zs:=GW) (mi hv (by omega)) lS ?_
 by_cases hk:ai l∈GW
 ·rw[Qh hk]
  walk_at "y"
  have:dR l=false:=by unfold dR;rw[P0 (not_not_intro hk)];simp
  rw[<-this];exact k S .refl
 rw[P0 hk]
 walk_at "y"
 refine hJ (fun c=>PV.str (sgn c)) (fun c=>PV.bl (sK c)) trivial l [] (fun c hc=>⟨_,rfl,fun Q q=>?_⟩) (ln (m:=60) (by rw[RA];omega)) ?_
 ·show Q (.bl (false != !(Builtin.Str.occurrences (PySem.Str.ofString "abcdefghijklmnopqrstuvwxyz") (sgn c) 0 (PySem.Str.ofString "abcdefghijklmnopqrstuvwxyz").length 1).isEmpty)) S
  rw[vt];exact q
 intro p hp
 simp only[rM,aa,List.nil_append,im]
 have:dR l=(l.map sK).all id:=by
  unfold dR
  rw[Qh h2,Qh hk,List.all_map,show l.isEmpty=false from by cases l with|nil=>exact absurd rfl h1|cons=>rfl]
  simp only[Ub,Bool.true_and,Bool.and_true]
  rfl
 rw[<-this]
 exact k _ (.new hp)
abbrev oX(w:aG):Prop:=∀{S:ap} {l:List Nat} {Q:bQ} {E:b8},l.length<=1000->Vd l=true->(∀S',Ext S S'->dR l=true->Q (.str (ai l)) S')->(∀S',Ext S S'->dR l=false->E bt [] S')->w [.str (ai l)] S Q E
def sy{x:aG}(Nz:DV x):oX (ei 1 (eF x)):=by
 intro S l Q E hl hv k1 k2
 unfold eF
 refine oO ?_
 rw[show aA 1 [PV.str (ai l)]=[some (.str (ai l))] from rfl]
 refine aw fun N hN=>?_
 walk_at "x"
 refine Nz hl hv fun S' X=>?_
 cases e:dR l with
 |false=>
  walk_at "y"
  exact k2 _ X e
 |true=>
  walk_at "y"
  refine hN _ _ ?_
  walk_at "y"
  exact k1 _ X e
abbrev vv(w:aG):Prop:=∀{S:ap} {l:List Nat} {Q:bQ} {E:b8},l.length<=1000->(∀p,j_ .things l=some p->Q p.pv S)->(j_ .things l=none->E bt [] S)->w [.str (ai l)] S Q E
def sA:vv (ei 1 dh):=by
 intro S l Q E hl k1 k2
 unfold dh
 refine oO ?_
 rw[show aA 1 [PV.str (ai l)]=[some (.str (ai l))] from rfl]
 refine aw fun N hN=>?_
 walk_at "x"
 rw[GF]
 by_cases h1:l.length=1
 ·obtain⟨c,rfl⟩:∃c,l=[c]:=SS.mp h1
  rw[show decide ((([c]:List Nat).length:Int)=1)=true from rfl]
  walk_at "y"
  simp only[jp]
  rw[show ai [c]=sgn c from rfl,RN,show(PySem.Str.ofString "123456789").cps.toList=List.range' 49 9 from by decide +kernel]
  refine⟨ln (m:=1) (by simp),?_⟩
  by_cases hc:49<=c/\c<=57
  ·rw[Qh (by rw[R5];omega)]
   walk_at "y"
   refine hN _ _ ?_
   walk_at "y"
   simp only[bN]
   have e:intText? (sgn c)=some ((c - 48:Nat):Int):=by
    have:=intText_digits (x:=ai [c]) (by rw[toL];intro d hd;rw[P1.mp hd];omega) (by rw[toL];simp) (by rw[GF];show 1<=_;decide)
    rw[toL]at this
    rw[show sgn c=ai [c] from rfl,this]
    simp[NumText.digitsVal]
   rw[e]
   exact⟨by show 1<=640;decide,k1 (.m (c - 48)) (if_pos hc)⟩
  ·rw[P0 (by rw[R5];omega)]
   walk_at "y"
   exact k2 (if_neg hc)
 ·rw[P0 (by omega)]
  walk_at "y"
  refine⟨ln (m:=1000) hl,k2 ?_⟩
  show(match l with|[c]=>if 49<=c/\c<=57 then some (Pt.m (c - 48)) else none|_=>none)=none
  split
  ·exact absurd rfl h1
  ·rfl
noncomputable def Kd.s:Kd->Str
 | .cost=>"cost" | .things=>"things" | .name=>"name" | .body=>"body"
def nQ(l:List Nat):Prop:=Ps l/\Vd l=true
def BS:nQ []:=⟨⟨by simp,fun p hp=>by rw[show sp []=[[]] from rfl]at hp;rw[P1.mp hp];simp⟩,rfl⟩
abbrev vx(w:aG):Prop:=∀{S:ap} {k:Kd} {l:List Nat} {Q:bQ} {E:b8},k ≠ .body->nQ l->(∀p S',j_ k l=some p->Ext S S'->Q p.pv S')->(∀S',j_ k l=none->Ext S S'->E bt [] S')->w [.str (Kd.s k),.str (ai l)] S Q E
def vy{x0 x1 x2:aG}(Kl:vp x0)(LK:vv x1)(NA:oX x2):vx (ei 2 (eI x0 x1 x2)):=by
 intro S k l Q E hk hp k1 k2
 unfold eI
 refine oO ?_
 rw[show aA 2 [PV.str (Kd.s k),PV.str (ai l)]=[some (.str (Kd.s k)),some (.str (ai l))] from rfl]
 refine aw fun N hN=>?_
 cases k with
 |body=>exact absurd rfl hk
 |cost=>
  simp only[Kd.s]
  walk_at "y"
  refine Kl hp.1 (fun t u S' e X=>?_) fun S' e X=>?_
  ·exact k1 (.c t u) S' (by show(rn l).map _=_;rw[e];rfl) X
  ·exact k2 S' (by show(rn l).map _=_;rw[e];rfl) X
 |things=>
  simp only[Kd.s]
  walk_at "y"
  refine hN _ _ (aw fun N hN=>?_)
  walk_at "y"
  exact LK hp.1.1 (fun p e=>k1 p S e .refl) fun e=>k2 S e .refl
 |name=>
  simp only[Kd.s]
  walk_at "y"
  refine hN _ _ (aw fun N hN=>?_)
  walk_at "y"
  refine hN _ _ ?_
  walk_at "y"
  refine NA hp.1.1 hp.2 (fun S' X e=>?_) fun S' X e=>?_
  ·exact k1 (.n l) S' (if_pos e) X
  ·exact k2 S' (if_neg (by rw[e];simp)) X
abbrev F4(w:aG):Prop:=∀{S:ap} {p:Addr} {W:List (List Nat)} {i:Nat} {Q:bQ} {E:b8},S p=some (.lst ((W.map ai).map PV.str))->Q (.str (ai ((W.drop i).headD []))) S->w [.ref p,.int (i:Int)] S Q E
def BU:F4 (bO 2 ic):=by
 intro S p W i Q E hp k
 unfold ic
 refine j9 ?_
 rw[show aA 2 [PV.ref p,PV.int (i:Int)]=[some (.ref p),some (.int (i:Int))] from rfl]
 refine aw fun N hN=>?_
 walk_at "x"
 rw[hp]
 dsimp only
 by_cases hi:i < W.length
 ·rw[Qh (by simp only[PY];omega)]
  walk_at "y"
  rw[show He ((W.map ai).map PV.str) (i:Int)=some (.str (ai ((W.drop i).headD [])))from dC (j:=i) (by rw[Rx hi];simp[hi])]
  exact k
 ·rw[P0 (by simp only[PY];omega)]
  walk_at "y"
  refine hN _ _ ?_
  walk_at "y"
  rw[Tc (by omega)]at k
  exact k
theorem nB{r:Ws->Option (Bd×Ws)}(k:Kd)(ks:List Kd)(W:Ws):gM r (k::ks) W=match (if k = .body then (r W).map (fun q=>(Pt.b q.1,q.2)) else (j_ k (W.headD [])).map fun p=>(p,W.tail))with
  |none=>none
  |some (p,W1)=>match gM r ks W1 with
   |none=>none
   |some (ps,W2)=>some (p::ps,W2):=by rw[gM];try rfl
theorem mj{r:Ws->Option (Bd×Ws)}:∀(ks ks':List Kd) (W:Ws),gM r (ks++ks') W=match gM r ks W with
  |none=>none
  |some (ps,W1)=>match gM r ks' W1 with
   |none=>none
   |some (ps',W2)=>some (ps++ps',W2)
 |[],ks',W=>by
  show gM r ks' W=match gM r ks' W with|none=>none|some (ps',W2)=>some ([]++ps',W2)
  cases gM r ks' W<;>rfl
 |k::ks,ks',W=>by
  rw[Rh,nB,nB]
  cases (if k = .body then (r W).map (fun q=>(Pt.b q.1,q.2)) else (j_ k (W.headD [])).map fun p=>(p,W.tail))with
  |none=>rfl
  |some q=>
   obtain⟨p,W1⟩:=q
   dsimp only
   rw[mj ks ks' W1]
   cases gM r ks W1 with
   |none=>rfl
   |some q=>
    obtain⟨ps,W2⟩:=q
    dsimp only
    cases gM r ks' W2<;>rfl
theorem vA:∀(T:List (Str×List Kd)) (h:Str),fJ (T.map fun q=>(q.1,q.2.map Kd.s)) h=(T.lookup h).map fun ks=>ks.map Kd.s
 |[],_=>rfl
 |(k,v)::T,h=>by
  show(if k=h then some (v.map Kd.s) else fJ (T.map fun q=>(q.1,q.2.map Kd.s)) h)=_
  rw[vA T h,Sg]
  by_cases e:k=h
  ·subst e;rw[if_pos rfl,Sj];rfl
  ·rw[if_neg e,show(h == k)=false from beq_false_of_ne (QK e)]
def nC(h:Str):fJ [("pay",["cost"]),("put",["name","things"]),("then",["body","body"]),("either",["body","body"]),("take",["name","things","body","body"]),("often",["body"]),("use",["name"])] h=(tab.lookup h).map fun ks=>ks.map Kd.s:=vA tab h
def yr{h:Str}{ks:List Kd}(e:tab.lookup h=some ks):ks.length<=4:=by
 have hm:=i6 e
 simp only[tab,PM,Uh,P7,Qx]at hm
 rcases hm with⟨-,rfl⟩|⟨-,rfl⟩|⟨-,rfl⟩|⟨-,rfl⟩|⟨-,rfl⟩|⟨-,rfl⟩|⟨-,rfl⟩<;>decide
def K9{k:Kd}:Kd.s k = "body" ↔ k = .body:=by cases k<;>simp[Kd.s,bi]
def DW{W:Ws}(h:∀l∈W,nQ l):nQ (W.headD []):=by
 cases W with
 |nil=>exact BS
 |cons w W=>exact h w (by simp)
def yt{ks:List Kd}{ps:List Pt}(h:sJ ks ps):ps.length=ks.length:=by induction h with|nil=>rfl|cons _ _ ih=>simp[ih]
def FN(z:Str):ai (sg z)=z:=df z
def vB{a b:List Nat}(h:a≠b):ai a≠ai b:=fun e=>h (Qu (fun z:Str=>z.cps.toList) e)
abbrev qg(n:Nat)(w:aG):Prop:=∀{S:ap} {W:Ws} {i:Nat} {p:Addr} {Q:bQ} {E:b8},S p=some (.lst ((W.map ai).map PV.str))->(∀l∈W,nQ l)->(W.drop i).count [40] < n->
 (∀t j S',lW n (W.drop i)=some (t,W.drop j)->j<=W.length->Ext S S'->Q (.tup [t.pv,.int (j:Int)]) S')->(∀S',lW n (W.drop i)=none->Ext S S'->E bt [] S')->w [.ref p,.int (i:Int)] S Q E
def vC{xa xw s0:aG}(KI:F4 xa)(NB:vx xw)(n:Nat)(ih:qg n s0):qg (n+1) (ei 6 (eK xa xw s0)):=by
 intro S W i p Q E hp hW hc k1 k2
 have hlt:∀{j:Nat} {l:List Nat},(W.drop j).headD []=l->l≠[]->j < W.length:=fun{j l} h1 h2=>by
  rcases Nat.lt_or_ge j W.length with h|h
  ·exact h
  ·rw[Tc h]at h1;exact absurd h1.symm h2
 have Pk:∀j,nQ ((W.drop j).headD []):=fun j=>DW fun l hl=>hW l (R9 hl)
 unfold eK
 refine oO ?_
 rw[show aA 6 [PV.ref p,PV.int (i:Int)]=[some (.ref p),some (.int (i:Int)),none,none,none,none] from rfl]
 refine aw fun N hN=>?_
 simp only[bg,aL,am,al,au,v3,lk,c3]
 refine KI hp ?_
 simp only[bE,Qn,Qf]
 by_cases hr:(W.drop i).headD []=sg "rest"
 ·rw[hr,if_pos (FN _)]
  have hl:=hlt hr (by decide)
  have e:lW (n+1) (W.drop i)=some (.rest,W.drop (i+1)):=by
   unfold lW
   rw[if_pos hr,Rv]
  walk_at "y"
  have:=k1 .rest (i+1) S e hl .refl
  rw[show((i+1:Nat):Int)=(i:Int)+1 from by omega]at this
  exact this
 rw[if_neg (fun z=>hr (by rw[<-z];rfl))]
 simp only[aQ]
 refine hN _ _ (aw fun N hN=>?_)
 simp only[av,am,al,au,v3,lk,c3,aH]
 rw[show(i:Int)+1=((i+1:Nat):Int)from by omega]
 refine KI hp ?_
 simp only[List.set_cons_zero,List.set_cons_succ]
 refine hN _ _ (aw fun N hN=>?_)
 simp only[bg,gK,aL,am,al,au,v3,lk,c3]
 refine KI hp ?_
 have h0:lW (n+1) (W.drop i)=if (W.drop i).headD []=[40] then
   (match tab.lookup (ai ((W.drop (i+1)).headD []))with
   |none=>none
   |some ks=>match gM (lW n) ks (W.drop (i+2))with
    |none=>none
    |some (ps,W1)=>if W1.headD []=[41] then some (gw (ai ((W.drop (i+1)).headD [])) ps,W1.tail) else none) else none:=by
  conv=>lhs;unfold lW
  rw[if_neg hr,Rv,Rv];try rfl
 generalize (W.drop (i+1)).headD []=hd at h0
 rcases Decidable.em ((W.drop i).headD []=[40])with hb|hb
 case inr=>
  simp only[bE,P0 (show ¬ai ((W.drop i).headD [])=Str.ofString "(" from vB (b:=[40]) hb)]
  walk_at "y"
  exact k2 S (by rw[h0,if_neg hb]) .refl
 rw[if_pos hb]at h0
 rw[hb,show ai [40]=Str.ofString "(" from rfl]
 have NC:(W.drop (i+2)).count [40] < n:=by
  rw[i7 hb (by decide),QZ,Rv]at hc
  have:(W.drop (i+2)).count [40]<=(W.drop (i+1)).count [40]:=by
   rw[show W.drop (i+2)=(W.drop (i+1)).drop 1 from by rw[List.drop_drop]]
   exact(List.drop_sublist _ _).count_le _
  omega
 simp only[bE,uN,v3,lk,nC]
 cases ht:tab.lookup (ai hd)with
 |none=>
  rw[ht]at h0
  simp only[Option.map_none,Option.isSome_none]
  walk_at "y"
  exact k2 S h0 .refl
 |some ks=>
  rw[ht]at h0
  dsimp only at h0
  simp only[Option.map_some,Option.isSome_some]
  walk_at "y"
  have hkl:=yr ht
  refine hN _ _ (aw fun N hN=>?_)
  simp only[av,aS,au,v3,lk,List.set_cons_zero,List.set_cons_succ]
  intro q hq
  have f1:(GC S q (.lst [.str (ai hd)])) q=some (.lst (.str (ai hd)::([]:List Pt).map Pt.pv)):=aa
  have X1:Ext S (GC S q (.lst [.str (ai hd)])):=.new hq
  generalize GC S q (.lst [.str (ai hd)])=S1 at f1 X1
  refine hN _ _ (aw fun N hN=>?_)
  walk_at "x"
  refine hN _ _ (aw fun N hN=>?_)
  simp only[dy,bJ,uM,v3,lk,nC,ht,Option.map_some,fx]
  refine cM (fun done σ S'=>Ext S S'/\∃(ps:List Pt) (j:Nat) (x4 x5:Option PV),σ=[some (.ref p),some (.int (j:Int)),some (.str (ai hd)),some (.ref q),x4,x5]/\S' q=some (.lst (.str (ai hd)::ps.map Pt.pv))/\gM (lW n) (ks.take done.length) (W.drop (i+2))=some (ps,W.drop j)) ⟨X1,[],i+2,_,_,by rw[show((i+2:Nat):Int)=(i:Int)+2 from by omega],f1,rfl⟩ (fun _ _ _ _=>trivial) ?_ ?_
  ·rintro done x rest σ S2 K e ⟨X2,ps,j,x4,x5,rfl,f2,hrd⟩ hK
   have hget:((ks.map Kd.s).map PV.str)[done.length]?=some x:=by rw[e];simp
   obtain⟨k,hk1,rfl⟩:∃k,ks[done.length]?=some k/\PV.str (Kd.s k)=x:=by
    rw[QH,Ql]at hget
    exact Qz.mp hget
   have LL:=(Qg.mp hk1).1
   have hp2:=X2 _ _ hp
   have hks:ks=ks.take done.length++(k::ks.drop (done.length+1)):=by
    conv=>lhs;rw[<-Rf done.length ks]
    rw[Rx LL,<-(Qg.mp hk1).2]
   have ND:ks.take (done.length+1)=ks.take done.length++[k]:=by rw[List.take_succ,hk1];rfl
   obtain⟨hs1,hs2⟩:=lY (lZ n) _ _ _ _ hrd
   have hpl:ps.length<=4:=by
    rw[yt hs2,RK];omega
   have Pl:(W.drop j).count [40] < n:=by
    rw[hs1,Qq]at NC;omega
   have bad:gM (lW n) (k::ks.drop (done.length+1)) (W.drop j)=none->lW (n+1) (W.drop i)=none:=by
    intro hbad
    rw[h0,hks,mj,hrd]
    dsimp only
    rw[hbad]
   have fin:∀(S3:ap) (y5:Option PV) (pt:Pt) (m:Nat),Ext S2 S3->gM (lW n) [k] (W.drop j)=some ([pt],W.drop m)->K [some (.ref p),some (.int (m:Int)),some (.str (ai hd)),some (.ref q),some (.str (Kd.s k)),y5] (GC S3 q (.lst ((.str (ai hd)::ps.map Pt.pv)++[pt.pv]))):=by
    intro S3 y5 pt m X3 hm'
    refine hK _ _ ⟨?_,ps++[pt],m,some (.str (Kd.s k)),y5,rfl,?_,?_⟩
    ·intro a o ha
     rw[ag (fun e=>by rw[e,hq]at ha;cases ha)]
     exact X3 _ _ (X2 _ _ ha)
    ·rw[aa];simp
    ·rw[PX,Rc,ND,mj,hrd]
     dsimp only
     rw[hm']
   simp only[Tg.put,List.set_cons_zero,List.set_cons_succ,bg,aL,am,v3,lk,c3,bE,Qn,Qf]
   by_cases hkb:k = .body
   ·subst hkb
    rw[if_pos (show Kd.s .body = "body" from rfl)]
    refine aw fun N2 KJ=>?_
    simp only[av,bo,au,v3,lk]
    refine ih hp2 hW Pl (fun t m S3 et hm X3=>?_) fun S3 et X3=>?_
    ·simp only[List.set_cons_zero,List.set_cons_succ]
     refine KJ _ _ (aw fun N3 NE=>?_)
     have f3:=X3 _ _ f2
     simp only[bd,cz,kl,v3,lk,f3,au,am,c3,aD,uZ,aI,Ro]
     refine⟨P6 (show _ < 1000 by simp;omega) (by decide),NE _ _ ?_⟩
     simp only[av,am,v3,lk,c3,aD,FG,List.set_cons_zero,List.set_cons_succ]
     refine fin S3 _ (.b t) m X3 ?_
     unfold gM
     rw[if_pos rfl,et]
     rfl
    ·refine k2 S3 (bad ?_) (X2.trans X3)
     unfold gM
     rw[if_pos rfl,et]
     rfl
   ·rw[if_neg (fun z=>hkb (K9.mp z))]
    refine aw fun N2 KJ=>?_
    simp only[bd,cz,kl,v3,lk,f2,au,al,bo,Ro]
    refine KI hp2 ?_
    refine NB hkb (Pk j) (fun pt S3 et X3=>?_) fun S3 et X3=>?_
    ·have f3:=X3 _ _ f2
     simp only[aI,f3]
     refine⟨P6 (show _ < 1000 by simp;omega) (by decide),KJ _ _ ?_⟩
     simp only[av,am,v3,lk,c3,aH,List.set_cons_zero,List.set_cons_succ]
     have:=fin S3 x5 pt (j+1) X3 (by
      unfold gM
      rw[if_neg hkb,et,Rv]
      rfl)
     rw[show((j+1:Nat):Int)=(j:Int)+1 from by omega]at this
     exact this
    ·refine k2 S3 (bad ?_) (X2.trans X3)
     unfold gM
     rw[if_neg hkb,et]
     rfl
  ·rintro σ S2 ⟨X2,ps,j,x4,x5,rfl,f2,hrd⟩
   rw[PY,PY,Tq]at hrd
   rw[hrd]at h0
   dsimp only at h0
   have NF:=(lY (lZ n) _ _ _ _ hrd).2
   refine hN _ _ (aw fun N hN=>?_)
   have hp2:=X2 _ _ hp
   simp only[bg,aL,am,al,au,v3,lk,c3]
   refine KI hp2 ?_
   by_cases KS:(W.drop j).headD []=[41]
   ·rw[if_pos KS,Rv]at h0
    rw[KS,show ai [41]=Str.ofString ")" from rfl]
    walk_at "y"
    refine hN _ _ ?_
    have:=k1 _ (j+1) S2 h0 (hlt KS (by decide)) X2
    rw[(jN ht NF).2.2,show((j+1:Nat):Int)=(j:Int)+1 from by omega]at this
    walk_at "y"
    rw[f2]
    walk_at "y"
    exact this
   ·rw[if_neg KS]at h0
    simp only[bE,P0 (show ¬ai ((W.drop j).headD [])=Str.ofString ")" from vB (b:=[41]) KS)]
    walk_at "y"
    exact k2 S2 h0 X2
theorem j1(c:Nat)(d:List Nat)(hd:d.length<=3):∀l:List Nat,(rp c d l).length<=3 * l.length
 |[]=>by simp[rp]
 |x::l=>by
  have:=j1 c d hd l
  have e:rp c d (x::l)=(if x=c then d else [x])++rp c d l:=by simp[rp]
  rw[e,PX,Qa]
  split
  ·omega
  ·simp;omega
def qh(c:Nat):∀l,(GL c l).length<=l.length+1:=fun l=>by
 induction l with
 |nil=>simp[GL]
 |cons x l ih=>
  unfold GL
  split
  ·simp;omega
  ·split
   ·simp
   ·rename_i p q e
    rw[e]at ih
    simp at ih ⊢;omega
def qi{l:List Nat}{c:Nat}{S:ap}{Q:bQ}(hl:l.length<=90000)(k:∀p,S p=none->Q (.ref p) (GC S p (.lst (((GL c l).map ai).map PV.str)))):de (.str (ai l)) [.str ⟨#[c]⟩] S Q:=by
 have:=qh c l
 simp only[de,nq]
 exact⟨rfl,ln (m:=90000) hl,ln (m:=90001) (by rw[PY];omega),k⟩
abbrev vD(w:aG):Prop:=∀{S:ap} {l:List Nat} {Q:bQ} {E:b8},l.length<=10000->(∀p,S p=none->Q (.ref p) (GC S p (.lst (((JL l).map ai).map PV.str))))->w [.str (ai l)] S Q E
def sB:vD (bO 1 di):=by
 intro S l Q E hl k
 unfold di
 refine j9 (nA ?_)
 rw[show aA 1 [PV.str (ai l)]=[some (.str (ai l))] from rfl]
 have e1:("(":Str)=⟨#[40]⟩:=rfl
 have e2:("( ":Str)=ai [40,32]:=rfl
 have e3:(")":Str)=⟨#[41]⟩:=rfl
 have e4:(" )":Str)=ai [32,41]:=rfl
 have l1:=j1 40 [40,32] (by decide) l
 have l2:=j1 41 [32,41] (by decide) (rp 40 [40,32] l)
 simp only[cz,kl,jG,v3,lk,au,c3]
 rw[e1,e2,lU,e3,e4,lU]
 simp only[GF,List.length_cons,List.length_nil,Ro]
 refine⟨by omega,by omega,?_⟩
 rw[show((" ":String):Str)=⟨#[32]⟩from rfl]
 refine qi (by omega) ?_
 exact k
structure BV (l:List Nat):Prop where
 len:l.length<=10000
 vd:Vd l=true
 ps:∀w∈JL l,nQ w
 cnt:(JL l).count [40] < 36
abbrev vE(w:aG):Prop:=∀{S:ap} {l:List Nat} {Q:bQ} {E:b8},BV l->(∀t S',sv 36 l=some t->Ext S S'->Q t.pv S')->(∀S',sv 36 l=none->Ext S S'->E bt [] S')->w [.str (ai l)] S Q E
def vF{x0 x1:aG}(LN:vD x0)(NG:qg 36 x1):vE (ei 3 (eL x0 x1)):=by
 intro S l Q E hl k1 k2
 unfold eL
 refine oO ?_
 rw[show aA 3 [PV.str (ai l)]=[some (.str (ai l)),none,none] from rfl]
 refine aw fun N hN=>?_
 simp only[av,al,au,v3,lk]
 refine LN hl.len fun p hp=>?_
 have f1:(GC S p (.lst (((JL l).map ai).map PV.str))) p=some (.lst (((JL l).map ai).map PV.str)):=aa
 have X1:Ext S (GC S p (.lst (((JL l).map ai).map PV.str))):=.new hp
 generalize GC S p (.lst (((JL l).map ai).map PV.str))=S1 at f1 X1
 simp only[List.set_cons_zero,List.set_cons_succ]
 refine hN _ _ (aw fun N hN=>?_)
 simp only[av,bo,au,v3,lk,c3]
 refine NG (i:=0) f1 hl.ps (by rw[R8];exact hl.cnt) (fun t j S2 e hj X2=>?_) fun S2 e X2=>?_
 ·rw[R8]at e
  simp only[List.set_cons_zero,List.set_cons_succ]
  refine hN _ _ (aw fun N hN=>?_)
  have f2:=X2 _ _ f1
  walk_at "y"
  rw[f2]
  dsimp only
  simp only[PY]
  by_cases h:j=(JL l).length
  ·rw[Qh (by omega)]
   walk_at "y"
   refine hN _ _ ?_
   walk_at "y"
   refine k1 t S2 ?_ (X1.trans X2)
   unfold sv
   rw[e,Tc (by omega)]
  ·rw[P0 (by omega)]
   walk_at "y"
   refine k2 S2 ?_ (X1.trans X2)
   unfold sv
   rw[e]
   cases e2:(JL l).drop j with
   |nil=>rw[List.drop_eq_nil_iff]at e2;omega
   |cons=>rfl
 ·rw[R8]at e
  refine k2 S2 ?_ (X1.trans X2)
  unfold sv
  rw[e]
abbrev vG(w:aG):Prop:=∀{S:ap} {Q:bQ} {E:b8},Q (.int 0) S->w [bt] S Q E
def vH:vG (bO 2 dP):=by
 intro S Q E k
 unfold dP
 refine j9 ?_
 rw[show aA 2 [bt]=[some bt,none] from rfl]
 refine aw fun N hN=>?_
 have el:List.lookup (Str.ofString "row") ([Str.ofString "row"].zip [PV.int 0])=some (PV.int 0):=rfl
 walk_at "y"
 simp only[jB,rR,jA,Jw,bi,String.reduceEq,and_true,and_false,QN,Rj,List.any,Sj,Bool.true_or,Ro]
 refine hN _ _ (aw fun N hN=>?_)
 walk_at "y"
 simp only[jB,rR,jA,Jw,bi,String.reduceEq,and_true,and_false,QN,Rj,List.any,Sj,Bool.true_or,Ro,RH,Qd]
 rw[el]
 refine⟨by decide,?_⟩
 show cN "bool" = true/\_
 refine⟨by decide,?_⟩
 rw[show cY "int" "bool" = false from by decide]
 simp only[Qd,QN]
 refine hN _ _ ?_
 walk_at "y"
 rw[el]
 exact⟨by decide,k⟩
noncomputable def FO:Option Bd->PV
 |some t=>.tup [.str "told",t.pv]
 |none=>.tup [.str "refused"]
abbrev oY(w:aG):Prop:=∀{S:ap} {l:List Nat} {Q:bQ} {E:b8},BV l->(∀S',Ext S S'->Q (FO (sv 36 l)) S')->w [.str (ai l)] S Q E
def vI{x0 x1:aG}(LP:vE x0)(NH:vG x1):oY (bO 3 (eS x0 x1)):=by
 intro S l Q E hl k
 unfold eS
 refine j9 ?_
 rw[show aA 3 [PV.str (ai l)]=[some (.str (ai l)),none,none] from rfl]
 refine aw fun N hN=>?_
 simp only[xQ,av,bR,bo,au,v3,c3,lk]
 refine LP hl (fun t S1 hf X1=>?_) fun S1 hf X1=>⟨by decide,?_⟩
 ·have:=k S1 X1
  rw[hf]at this
  walk_at "y"
  refine hN _ _ ?_
  walk_at "y"
  exact this
 ·walk_at "x"
  intro p4 LQ
  refine NH ?_
  have:=k _ (X1.trans (Ext.new (o:=.lst [PV.tup [PV.str (Str.ofString "refused")],PV.tup [PV.str (Str.ofString "other")]]) LQ))
  rw[hf]at this
  simp only[decide_true,bN,fv,RH,Tu,Qd,QN,aa]
  rw[show He [PV.tup [PV.str (Str.ofString "refused")],PV.tup [PV.str (Str.ofString "other")]] 0=some (.tup [.str (Str.ofString "refused")])from rfl]
  simp only[uw]
  refine hN _ _ ?_
  walk_at "y"
  exact this
mutual
noncomputable def RT(O:List Addr)(S:ap):Tr->PV->Prop
 | .w l,v=>v = .str (ai l)
 | .n ts,v=>∃a vs,v = .ref a/\a ∉ O/\S a=some (.lst vs)/\Hd O S ts vs
noncomputable def Hd(O:List Addr)(S:ap):List Tr->List PV->Prop
 |[],vs=>vs=[]
 |t::ts,vs=>∃v r,vs=v::r/\RT O S t v/\Hd O S ts r
end
section
variable {O O':List Addr} {S S':ap} (h:∀a vs,a ∉ O->S a=some (.lst vs)->a ∉ O'/\S' a=some (.lst vs))
include h
mutual
theorem RT.map:∀(T:Tr) (v:PV),RT O S T v->RT O' S' T v
 | .w l,v,r=>by rw[RT]at r ⊢;exact r
 | .n ts,v,r=>by
  rw[RT]at r ⊢
  obtain⟨a,vs,h1,h2,h3,h4⟩:=r
  obtain⟨g1,g2⟩:=h a vs h2 h3
  exact⟨a,vs,h1,g1,g2,Hd.map ts vs h4⟩
theorem Hd.map:∀(ts:List Tr) (vs:List PV),Hd O S ts vs->Hd O' S' ts vs
 |[],vs,r=>by rw[Hd]at r ⊢;exact r
 |t::ts,vs,r=>by
  rw[Hd]at r ⊢
  obtain⟨v,w,h1,h2,h3⟩:=r
  exact⟨v,w,h1,RT.map t v h2,Hd.map ts w h3⟩
end
end
theorem Hd.snoc{O:List Addr}{S:ap}{t:Tr}{v:PV}(h:RT O S t v):∀{ts:List Tr} {vs:List PV},Hd O S ts vs->Hd O S (ts++[t]) (vs++[v])
 |[],vs,r=>by rw[Hd]at r;subst r;rw[Q0,Hd];exact⟨v,[],rfl,h,by rw[Hd]⟩
 |u::ts,vs,r=>by
  rw[Hd]at r
  obtain⟨x,w,rfl,h2,h3⟩:=r
  rw[Rh,Hd]
  exact⟨x,w++[v],rfl,h2,Hd.snoc h h3⟩
theorem Hd.len{O:List Addr}{S:ap}:∀{ts:List Tr} {vs:List PV},Hd O S ts vs->vs.length=ts.length
 |[],vs,r=>by rw[Hd]at r;subst r;rfl
 |u::ts,vs,r=>by
  rw[Hd]at r
  obtain⟨x,w,rfl,h2,h3⟩:=r
  rw[Qa,Qa,Hd.len h3]
noncomputable def JG(O:List Addr)(S:ap)(m:Nat):List Addr->List (List Tr)->Prop
 |[],[]=>True
 |o::os,ts::st=>(∃vs,S o=some (.lst vs)/\vs.length<=m/\Hd O S ts vs)/\JG O S m os st
 |_,_=>False
theorem JG.map{O O':List Addr}{S S':ap}{m m':Nat}(hm:m<=m')(h:∀a vs,a ∉ O->S a=some (.lst vs)->a ∉ O'/\S' a=some (.lst vs)):∀{os:List Addr} {st:List (List Tr)},(∀o∈os,S' o=S o)->JG O S m os st->JG O' S' m' os st
 |[],[],_,_=>trivial
 |o::os,ts::st,e,⟨⟨vs,h1,h2,h3⟩,h4⟩=>⟨⟨vs,by rw[e o (by simp)];exact h1,by omega,Hd.map h ts vs h3⟩,JG.map hm h (fun x hx=>e x (by simp[hx])) h4⟩
 |[],_::_,_,r=>r
 |_::_,[],_,r=>r
theorem JG.len{O:List Addr}{S:ap}{m:Nat}:∀{os:List Addr} {st:List (List Tr)},JG O S m os st->os.length=st.length
 |[],[],_=>rfl
 |o::os,ts::st,⟨_,h⟩=>by rw[Qa,Qa,JG.len h]
 |[],_::_,r=>r.elim
 |_::_,[],r=>r.elim
theorem JG.get{O:List Addr}{S:ap}{m:Nat}:∀{os:List Addr} {st:List (List Tr)},JG O S m os st->∀o∈os,∃vs,S o=some (.lst vs)
 |[],[],_,_,h=>by cases h
 |o::os,ts::st,⟨⟨vs,h1,_⟩,h⟩,x,hx=>by
  rcases PM.mp hx with rfl|hx
  ·exact⟨vs,h1⟩
  ·exact JG.get h x hx
 |[],_::_,r,_,_=>r.elim
 |_::_,[],r,_,_=>r.elim
noncomputable def Gs(S:ap):Option Tr->PV->Prop
 |none,v=>v = .non
 |some t,v=>RT [] S t v
def k4(o:Addr)(os:List Addr):He ((o::os).reverse.map PV.ref) (-1)=some (.ref o):=by
 rw[Rl,QC];exact tt _ _
abbrev zv(w:aG):Prop:=∀{S:ap} {l:List Nat} {Q:bQ} {E:b8},l.length<=10000->(∀v S',Ext S S'->Gs S' (tree l) v->Q v S')->w [.str (ai l)] S Q E
theorem i8:∀(l run:List Nat),(HP run l).length<=l.length+1
 |[],run=>by rw[HP];split<;>simp
 |c::l,run=>by
  rw[HP]
  split
  ·split
   ·have:=i8 l [];simp;omega
   ·have:=i8 l [];simp;omega
  ·have:=i8 l (run++[c]);simp;omega
def yu:zv (bO 4 eQ):=by
 intro S l Q E hl k
 unfold eQ
 refine j9 ?_
 rw[show aA 4 [PV.str (ai l)]=[some (.str (ai l)),none,none,none] from rfl]
 refine aw fun N hN=>?_
 simp only[av,aS,au,v3,lk]
 intro o0 Om s0 hs0
 have hne:s0≠o0:=fun e=>by rw[e,aa]at hs0;cases hs0
 have Mw:S s0=none:=by rw[ag hne]at hs0;exact hs0
 have X0:Ext S (GC (GC S o0 (.lst [])) s0 (.lst [.ref o0])):=(Ext.new Om).trans (Ext.new hs0)
 have f0:(GC (GC S o0 (.lst [])) s0 (.lst [.ref o0])) s0=some (.lst [.ref o0]):=aa
 have f1:(GC (GC S o0 (.lst [])) s0 (.lst [.ref o0])) o0=some (.lst []):=by rw[ag (QK hne),aa]
 generalize GC (GC S o0 (.lst [])) s0 (.lst [.ref o0])=S1 at X0 f0 f1
 simp only[List.set_cons_zero,List.set_cons_succ]
 refine hN _ _ (aw fun N hN=>?_)
 have e1:("(":Str)=⟨#[40]⟩:=rfl
 have e2:(" ( ":Str)=ai [32,40,32]:=rfl
 have e3:(")":Str)=⟨#[41]⟩:=rfl
 have e4:(" ) ":Str)=ai [32,41,32]:=rfl
 have l1:=j1 40 [32,40,32] (by decide) l
 have l2:=j1 41 [32,41,32] (by decide) (rp 40 [32,40,32] l)
 simp only[dy,bJ,cz,kl,jG,v3,lk,au,c3]
 rw[e1,e2,lU,e3,e4,lU]
 simp only[GF,List.length_cons,List.length_nil,Ro,lQ]
 refine⟨by omega,by omega,ln (m:=95000) (by omega),?_⟩
 intro pW LU
 rw[sw,show HP [] (rp 41 [32,41,32] (rp 40 [32,40,32] l))=toks l from rfl]
 have NI:pW≠s0:=fun e=>by rw[e,f0]at LU;cases LU
 have NJ:pW≠o0:=fun e=>by rw[e,f1]at LU;cases LU
 have hWS:S pW=none:=by
  cases e:S pW with
  |none=>rfl
  |some u=>rw[X0 _ _ e]at LU;cases LU
 have fW:(GC S1 pW (.lst (((toks l).map ai).map PV.str))) pW=some (.lst (((toks l).map ai).map PV.str)):=aa
 have X1:Ext S (GC S1 pW (.lst (((toks l).map ai).map PV.str))):=X0.trans (.new LU)
 have g0:(GC S1 pW (.lst (((toks l).map ai).map PV.str))) s0=some (.lst [.ref o0]):=by rw[ag (QK NI)];exact f0
 have g1:(GC S1 pW (.lst (((toks l).map ai).map PV.str))) o0=some (.lst []):=by rw[ag (QK NJ)];exact f1
 generalize GC S1 pW (.lst (((toks l).map ai).map PV.str))=S2 at fW X1 g0 g1
 have hn:(toks l).length<=95000:=by
  have:=i8 (rr l) []
  unfold rr at this
  unfold toks rr
  omega
 simp only[fx,fW]
 refine cM (fun done σ S'=>Ext S S'/\S' pW=some (.lst (((toks l).map ai).map PV.str))/\∃(os:List Addr) (st:List (List Tr)) (x2 x3:Option PV),σ=[some (.str (ai l)),some (.ref s0),x2,x3]/\S' s0=some (.lst (os.reverse.map PV.ref))/\(s0::os).Nodup/\(∀o∈os,S o=none/\o≠pW)/\JG (s0::os) S' done.length os st/\os≠[]/\os.length<=done.length+1/\fo ((toks l).drop done.length) st=fo (toks l) [[]])
  ⟨X1,fW,[o0],[[]],none,none,rfl,g0,by simp[hne],by intro o ho;rw[P1.mp ho];exact⟨Om,QK NJ⟩,⟨⟨[],g1,PN _,by rw[Hd]⟩,trivial⟩,by simp,by simp,rfl⟩ (fun _ _ _ h=>h.2.1) ?_ ?_
 ·rintro done x rest σ S3 K e ⟨X3,Mx,os,st,x2,x3,rfl,fs,hnd,hos,hst,LV,hol,IA⟩ hK
  have hget:(((toks l).map ai).map PV.str)[done.length]?=some x:=by rw[e];simp
  obtain⟨w,hw1,rfl⟩:∃w,(toks l)[done.length]?=some w/\PV.str (ai w)=x:=by
   rw[QH,Ql]at hget
   exact Qz.mp hget
  have LL:=(Qg.mp hw1).1
  have My:(toks l).drop done.length=w::(toks l).drop (done.length+1):=by
   rw[Rx LL,(Qg.mp hw1).2]
  rw[My,fo]at IA
  have hd1:∀y:PV,(done++[y]).length=done.length+1:=fun y=>by simp
  have L4:s0 ∉ os:=(Qw.mp hnd).1
  have Km:=(Qw.mp hnd).2
  obtain⟨o,os,rfl⟩:=List.exists_cons_of_ne_nil LV
  cases st with
  |nil=>exact hst.elim
  |cons ts st=>
   simp only[Tg.put,List.set_cons_zero,List.set_cons_succ,bg,aL,am,v3,lk,c3,bE,Qn,Qf]
   by_cases NK:w=[40]
   ·subst NK
    rw[if_pos (show ai [40]=(⟨#[40]⟩:Str)from rfl)]
    simp only[bd,cz,kl,v3,lk,fs,au,aS,Ro]
    intro p hp
    have n0:p≠s0:=fun z=>by rw[z,fs]at hp;cases hp
    have n1:∀x∈o::os,p≠x:=fun x hx z=>by
     obtain⟨vs,hv⟩:=JG.get hst x hx
     rw[z,hv]at hp;cases hp
    have n2:p≠pW:=fun z=>by rw[z,Mx]at hp;cases hp
    have nS:S p=none:=by
     cases e:S p with
     |none=>rfl
     |some u=>rw[X3 _ _ e]at hp;cases hp
    simp only[aI,ag (QK n0),fs]
    refine⟨P6 (show _ < 100000 by simp at hol ⊢;omega) (by decide),hK _ _ ⟨?_,?_,p::o::os,[]::ts::st,_,_,rfl,?_,?_,?_,⟨⟨[],?_,Qc _,by rw[Hd]⟩,?_⟩,by simp,?_,?_⟩⟩
    ·intro a u ha
     rw[ag (fun z=>by rw[z,Mw]at ha;cases ha),ag (fun z=>by rw[z,nS]at ha;cases ha)]
     exact X3 _ _ ha
    ·rw[ag NI,ag (QK n2)];exact Mx
    ·rw[aa];simp
    ·rw[Qw,Qw]
     refine⟨fun z=>?_,fun z=>n1 p z rfl,Km⟩
     rcases PM.mp z with z|z
     ·exact n0 z.symm
     ·exact L4 z
    ·intro x hx
     rcases PM.mp hx with rfl|hx
     ·exact⟨nS,n2⟩
     ·exact hos x hx
    ·rw[ag n0,aa]
    ·refine JG.map (by simp) (fun a vs h1 h2=>?_) (fun x hx=>?_) hst
     ·have a0:a≠s0:=fun z=>h1 (by rw[z];simp)
      have a1:a≠p:=fun z=>by rw[z,hp]at h2;cases h2
      refine⟨fun z=>?_,by rw[ag a0,ag a1];exact h2⟩
      rcases PM.mp z with z|z
      ·exact a0 z
      ·rcases PM.mp z with z|z
       ·exact a1 z
       ·exact h1 (P4 _ z)
     ·rw[ag (fun z=>L4 (by rw[<-z];exact hx)),ag (QK (n1 x hx))]
    ·simp at hol ⊢;omega
    ·rw[hd1];exact IA
   ·rw[if_neg (fun z=>NK (Qu (fun z:Str=>z.cps.toList) z))]
    obtain⟨⟨vs,hv1,hv2,L5⟩,Kn⟩:=hst
    have NL:o≠s0:=fun z=>L4 (by rw[<-z];simp)
    have oW:=(hos o (by simp)).2
    by_cases KS:w=[41]
    ·subst KS
     cases os with
     |nil=>
      cases st with
      |cons=>exact Kn.elim
      |nil=>
       walk_at "x"
       rw[fs]
       dsimp only
       rw[show decide (ai [41]=(⟨#[41]⟩:Str))=true from rfl,P0 (show ¬(1:Int) < ((([o].reverse.map PV.ref).length:Nat):Int)from by simp)]
       walk_at "y"
       refine k .non S3 X3 ?_
       unfold tree
       rw[<-IA]
       rfl
     |cons o2 os=>
      cases st with
      |nil=>exact Kn.elim
      |cons MX st=>
       obtain⟨⟨Jp,hw1,NM,MY⟩,NN⟩:=Kn
       have On:o2≠s0:=fun z=>L4 (by rw[<-z];simp)
       have Pm:=(hos o2 (by simp)).2
       have Pn:o≠o2:=fun z=>(Qw.mp Km).1 (by rw[z];simp)
       have Mz:((o::o2::os).reverse.map PV.ref)[((o::o2::os).reverse.map PV.ref).length - 1]?=some (.ref o):=by
        rw[Rl,QC];simp
       have hdl:((o::o2::os).reverse.map PV.ref).dropLast=(o2::os).reverse.map PV.ref:=by
        rw[Rl,QC,PL,Qm,List.dropLast_concat]
       walk_at "x"
       rw[fs]
       dsimp only
       rw[show decide (ai [41]=(⟨#[41]⟩:Str))=true from rfl,Qh (show(1:Int) < ((((o::o2::os).reverse.map PV.ref).length:Nat):Int)from by simp;omega)]
       walk_at "y"
       rw[Mz]
       dsimp only
       rw[aa,hdl]
       dsimp only
       rw[k4]
       dsimp only
       rw[ag On,hw1]
       dsimp only
       refine⟨trivial,trivial,P6 (show _ < 100000 by omega) (by decide),hK _ _ ⟨?_,?_,o2::os,(MX++[.n ts])::st,_,_,rfl,?_,?_,?_,⟨⟨Jp++[.ref o],aa,?_,?_⟩,?_⟩,by simp,?_,?_⟩⟩
       ·intro a u ha
        rw[ag (fun z=>by rw[z,(hos o2 (by simp)).1]at ha;cases ha),ag (fun z=>by rw[z,Mw]at ha;cases ha)]
        exact X3 _ _ ha
       ·rw[ag (QK Pm),ag NI];exact Mx
       ·rw[ag (QK On),aa]
       ·exact Qw.mpr ⟨fun z=>L4 (P4 _ z),(Qw.mp Km).2⟩
       ·exact fun x hx=>hos x (P4 _ hx)
       ·simp;omega
       ·have mp:∀a vs,a ∉ s0::o::o2::os->S3 a=some (.lst vs)->a ∉ s0::o2::os/\GC (GC S3 s0 (.lst ((o2::os).reverse.map PV.ref))) o2 (.lst (Jp++[.ref o])) a=some (.lst vs):=fun a vs h1 h2=>by
         simp only[PM,not_or]at h1 ⊢
         exact⟨⟨h1.1,h1.2.2⟩,by rw[ag h1.2.2.1,ag h1.1];exact h2⟩
        refine Hd.snoc ?_ (Hd.map mp MX Jp MY)
        rw[RT]
        refine⟨o,vs,rfl,?_,by rw[ag Pn,ag NL];exact hv1,Hd.map mp ts vs L5⟩
        exact fun z=>by
         rcases PM.mp z with z|z
         ·exact NL z
         ·exact(Qw.mp Km).1 z
       ·refine JG.map (by simp) (fun a vs h1 h2=>?_) (fun x hx=>?_) NN
        ·simp only[PM,not_or]at h1 ⊢
         exact⟨⟨h1.1,h1.2.2⟩,by rw[ag h1.2.2.1,ag h1.1];exact h2⟩
        ·rw[ag (fun z=>(Qw.mp (Qw.mp Km).2).1 (by rw[<-z];exact hx)),ag (fun z=>L4 (by rw[<-z];simp[hx]))]
       ·simp at hol ⊢;omega
       ·rw[hd1];exact IA
    ·walk_at "x"
     rw[show decide (ai w=(⟨#[41]⟩:Str))=false from P0 (fun z=>KS (Qu (fun z:Str=>z.cps.toList) z))]
     walk_at "y"
     rw[fs]
     dsimp only
     rw[k4]
     dsimp only
     rw[hv1]
     dsimp only
     rw[if_neg (fun z=>KS (Qu (fun z:Str=>z.cps.toList) z))]
     have et:oU w (ts::st)=some ((ts++[.w w])::st):=by unfold oU;rw[if_neg NK,if_neg KS]
     rw[et]at IA
     refine⟨trivial,P6 (show _ < 100000 by omega) (by decide),hK _ _ ⟨?_,?_,o::os,(ts++[.w w])::st,_,_,rfl,?_,hnd,hos,⟨⟨vs++[.str (ai w)],aa,?_,?_⟩,?_⟩,by simp,?_,?_⟩⟩
     ·intro a u ha
      rw[ag (fun z=>by rw[z,(hos o (by simp)).1]at ha;cases ha)]
      exact X3 _ _ ha
     ·rw[ag (QK oW)];exact Mx
     ·rw[ag (QK NL)];exact fs
     ·simp;omega
     ·refine Hd.snoc (by rw[RT]) (Hd.map (fun a vs h1 h2=>⟨h1,?_⟩) ts vs L5)
      rw[ag (fun z=>h1 (by rw[z];simp))];exact h2
     ·refine JG.map (by simp) (fun a vs h1 h2=>⟨h1,?_⟩) (fun x hx=>?_) Kn
      ·rw[ag (fun z=>h1 (by rw[z];simp))];exact h2
      ·rw[ag (fun z=>(Qw.mp Km).1 (by rw[<-z];exact hx))]
     ·simp at hol ⊢;omega
     ·rw[hd1];exact IA
 ·rintro σ S3 ⟨X3,Mx,os,st,x2,x3,rfl,fs,hnd,hos,hst,LV,hol,IA⟩
  rw[PY,PY,List.drop_length]at IA
  change some st=_ at IA
  refine hN _ _ (aw fun N hN=>?_)
  obtain⟨o,os,rfl⟩:=List.exists_cons_of_ne_nil LV
  cases st with
  |nil=>exact hst.elim
  |cons ts st=>
   obtain⟨⟨vs,hv1,hv2,L5⟩,Kn⟩:=hst
   walk_at "x"
   rw[fs]
   dsimp only
   have hlen:=JG.len Kn
   cases os with
   |nil=>
    cases st with
    |cons=>simp at hlen
    |nil=>
     rw[P0 (by simp)]
     walk_at "y"
     rw[show He ([o].reverse.map PV.ref) 0=some (.ref o)from rfl]
     dsimp only
     rw[hv1]
     dsimp only
     have hl2:=Hd.len L5
     cases ts with
     |nil=>
      have hv0:vs=[]:=QF.mp hl2
      subst hv0
      rw[P0 (by simp)]
      walk_at "y"
      refine k .non S3 X3 ?_
      unfold tree
      rw[<-IA]
      rfl
     |cons t ts=>
      rw[Hd]at L5
      obtain⟨v,r,rfl,Po,Oo⟩:=L5
      cases ts with
      |nil=>
       rw[Hd]at Oo
       subst Oo
       rw[Qh (by simp)]
       walk_at "y"
       refine hN _ _ ?_
       walk_at "y"
       rw[fs]
       dsimp only
       rw[show He ([o].reverse.map PV.ref) 0=some (.ref o)from rfl]
       dsimp only
       rw[hv1]
       walk_at "y"
       refine k v S3 X3 ?_
       unfold tree
       rw[<-IA]
       exact RT.map (fun a vs _ h=>⟨by simp,h⟩) t v Po
      |cons u ts=>
       rw[P0 (by simp at hl2 ⊢;omega)]
       walk_at "y"
       refine k .non S3 X3 ?_
       unfold tree
       rw[<-IA]
       rfl
   |cons o2 os=>
    cases st with
    |nil=>simp at hlen
    |cons MX st=>
     rw[Qh (by simp;omega)]
     walk_at "y"
     refine k .non S3 X3 ?_
     unfold tree
     rw[<-IA,show BM (some (ts::MX::st))=none from by cases ts with|nil=>rfl|cons a b=>cases b<;>rfl]
     rfl
noncomputable def qj:Option Pt->PV
 |none=>.non
 |some p=>p.pv
theorem fe{α:Type}{g:Tg}{tc:iz}{te:aK}{σ':bM}{keep:ap->Prop}{fin:List PV->ap->Prop}{S:ap}(enc f:α->PV)(b:α->Bool)(hk:keep S):∀(xs:List α) (ys:List PV),
  (∀x∈xs,∃σ2,g.put (enc x) σ'=some σ2/\(∀K:Bool->ap->Prop,K (b x) S->tc σ2 S K fF)/\∀Q:bQ,Q (f x) S->te σ2 S Q fF)->ys.length+xs.length<=sizeLine->fin (ys++(xs.filter b).map f) S->cC g tc te σ' keep fin (xs.map enc) ys S
 |[],ys,_,hl,hf=>⟨hk,by simpa using hl,by simpa using hf⟩
 |x::r,ys,h,hl,hf=>by
  obtain⟨σ2,e,h1,h2⟩:=h x (by simp)
  refine⟨hk,by simp at hl;omega,?_⟩
  rw[e]
  refine h1 _ ?_
  cases hb:b x with
  |true=>
   rw[if_pos rfl]
   refine h2 _ (fe enc f b hk r _ (fun y hy=>h y (by simp[hy])) (by simp at hl ⊢;omega) ?_)
   rw[List.filter_cons_of_pos hb]at hf
   simpa using hf
  |false=>
   rw[if_neg (by decide)]
   refine fe enc f b hk r _ (fun y hy=>h y (by simp[hy])) (by simp at hl ⊢;omega) ?_
   rw[List.filter_cons_of_neg (by rw[hb];decide)]at hf
   exact hf
theorem vJ:∀(l:List Nat),∀p∈sp l,∀c∈p,c∈l
 |[],p,h,c,hc=>by rw[P1.mp h]at hc;exact hc
 |a::r,p,h,c,hc=>by
  have ih:=vJ r
  unfold sp at h
  split at h
  ·rcases PM.mp h with rfl|h
   ·simp at hc
   ·exact P4 _ (ih p h c hc)
  ·split at h
   ·rw[P1.mp h]at hc;rw[P1.mp hc];simp
   ·rename_i x y e
    rw[e]at ih
    rcases PM.mp h with rfl|h
    ·rcases PM.mp hc with rfl|hc
     ·simp
     ·exact P4 _ (ih x Qj c hc)
    ·exact P4 _ (ih p (P4 _ h) c hc)
theorem qk:∀{zs:Vs},(∀z∈zs,PyData.strOk z=true)->PyData.canLayAll0 (zs.map PyData.str)=true
 |[],_=>rfl
 |z::r,h=>by
  show(PyData.canLay0 (.str z)&&PyData.canLayAll0 (r.map PyData.str))=true
  rw[qk fun y hy=>h y (by simp[hy])]
  show(PyData.strOk z&&true)=true
  rw[h z (by simp)];rfl
def vK{zs:Vs}(h:∀z∈zs,PyData.strOk z=true):(PyData.list (zs.map PyData.str)).canLay0=true:=qk h
def yv(zs:Vs):(PyData.list (zs.map PyData.str)).eqv (.list [])=zs.isEmpty:=by
 cases zs with
 |nil=>rfl
 |cons a b=>rfl
def k6{f:List Nat}{b:Nat->Bool}{S:ap}{p4 p5:Addr}(hv:∀c∈f,c < 256)(h4:S p4=some (.lst ((f.filter b).map fun c=>PV.str (sgn c))))(h5:S p5=some (.lst [])):∃d d':PyData,Dat S (.ref p4) d/\Dat S (.ref p5) d'/\d.canLay0=true/\d'.canLay0=true/\min d.depth d'.depth<=150/\d.eqv d'=(f.filter b).isEmpty:=by
 have Pp:List.map (fun c=>PV.str (sgn c)) (f.filter b)=((f.filter b).map sgn).map PV.str:=by rw[QH];rfl
 rw[Pp]at h4
 have vz:∀z∈(f.filter b).map sgn,PyData.strOk z=true:=by
  intro z hz
  obtain⟨c,hc,rfl⟩:=Qt.mp hz
  have:=hv c (TJ.mp hc).1
  show(#[c].all fun x=>decide (x < 0x110000))=true
  simp;omega
 refine⟨.list (((f.filter b).map sgn).map PyData.str),.list [],.ref h4 (gq S _),.ref h5 .nil,vK vz,rfl,PZ (Ui _ _) (by decide),?_⟩
 rw[yv,List.isEmpty_map]
def BW:∀(k:Nat) (h:List Nat),h.length=k->NumText.AllDigits h->NumText.digitsVal h < 10 ^ k:=by
 intro k
 induction k with
 |zero=>intro h hl _;rw[QF.mp hl];decide
 |succ k ih=>
  intro h hl hd
  have hn:h≠[]:=fun e=>by rw[e]at hl;cases hl
  obtain⟨p,c,rfl⟩:∃p c,h=p++[c]:=⟨h.dropLast,h.getLast hn,(RW hn).symm⟩
  rw[NumText.digitsVal_snoc,Nat.pow_succ]
  have:=ih p (by simpa using hl) fun x hx=>hd x (QW _ hx)
  have:=hd c (by simp)
  omega
def ml{h:List Nat}(o:sI h)(hl:h.length<=60):NumText.digitsVal h < 10 ^ 60:=P6 (BW _ h rfl o.2) (Nat.pow_le_pow_right (by decide) hl)
def ql(v b:Nat)(h:0 < b):M3.ji (v:Int) (b:Int)=((v / Nat.gcd v b:Nat):Int)/\M3.ki (v:Int) (b:Int)=((b / Nat.gcd v b:Nat):Int):=by
 unfold M3.ji M3.ki
 rw[if_neg (by omega),if_neg (by omega)]
 simp[Int.gcd]
def j2{f:List Nat}(o:sI f)(hl:f.length<=60):intText? (ai f)=some ((digitsVal f:Nat):Int):=by
 have:=intText_digits (x:=ai f) o.2 o.1 (PZ hl (by decide))
 rw[toL]at this
 exact this
abbrev qm(w:aG):Prop:=∀{S:ap} {l:List Nat} {Q:bQ} {E:b8},nQ l->(∀S',Ext S S'->Q (qj (fz l)) S')->w [.str (ai l)] S Q E
def yw{xl:aG}(Ix:lR xl):qm (bO 3 (cI xl)):=by
 intro S l Q E hp k
 have Lj:=hp.1.2
 have hlen:=uF l
 have hl1:=hp.1.1
 have NO:=Iz.mp hp.2
 unfold cI
 refine j9 ?_
 rw[show aA 3 [PV.str (ai l)]=[some (.str (ai l)),none,none] from rfl]
 refine aw fun N hN=>?_
 walk_at "x"
 simp only[de]
 rw[m_,toL]
 refine⟨trivial,by decide,ln (m:=1000) hl1,ln (m:=1001) (by rw[PY];omega),fun p hpp=>hN _ _ (aw fun N hN=>?_)⟩
 have X1:Ext S (GC S p (.lst (((sp l).map ai).map PV.str))):=.new hpp
 have f1:(GC S p (.lst (((sp l).map ai).map PV.str))) p=some (.lst (((sp l).map ai).map PV.str)):=aa
 generalize GC S p (.lst (((sp l).map ai).map PV.str))=S1 at X1 f1
 simp only[dy,bJ,v3,lk,fx,f1]
 refine cM (fun done σ S'=>Ext S S'/\S' p=some (.lst (((sp l).map ai).map PV.str))/\(∃x2,σ=[some (.str (ai l)),some (.ref p),x2])/\∀f∈(sp l).take done.length,sI f) ⟨X1,f1,⟨_,rfl⟩,by simp⟩ (fun _ _ _ h=>h.2.1) ?_ ?_
 ·rintro done x rest σ S3 K e ⟨X3,f3,⟨x2,rfl⟩,hok⟩ hK
  have hget:(((sp l).map ai).map PV.str)[done.length]?=some x:=by rw[e];simp
  obtain⟨f,hf1,rfl⟩:∃f,(sp l)[done.length]?=some f/\PV.str (ai f)=x:=by
   rw[QH,Ql]at hget
   exact Qz.mp hget
  have hfm:f∈sp l:=QY hf1
  have vf:=Lj f hfm
  have Pq:∀c∈f,c < 256:=fun c hc=>NO c (vJ l f hfm c hc)
  have none_of:¬sI f->∀S',Ext S S'->Q .non S':=fun no S' X'=>by
   have:=k S' X'
   unfold fz at this
   rw[if_neg fun z=>no (z f hfm)]at this
   exact this
  by_cases hfe:f=[]
  ·subst hfe
   walk_at "x"
   rw[show decide (ai []=Str.ofString "")=true from by decide]
   walk_at "y"
   exact none_of (fun z=>z.1 rfl) S3 X3
  walk_at "x"
  rw[show decide (ai f=Str.ofString "")=false from P0 fun e=>hfe (Qu (fun z:Str=>z.cps.toList) e)]
  walk_at "y"
  rw[toL]
  refine fe (fun c=>PV.str (sgn c)) (fun c=>PV.str (sgn c)) (fun c=>!kZ c) trivial f [] (fun c _=>⟨_,rfl,fun K q=>?_,fun Q q=>q⟩) (ln (m:=60) (by simpa using vf)) ?_
  ·show K (true != !(Builtin.Str.occurrences (PySem.Str.ofString "0123456789") (sgn c) 0 (PySem.Str.ofString "0123456789").length 1).isEmpty) S3
   have e1:=vn (c:=c)
   rw[Qn]at e1
   rw[e1]
   simpa using q
  intro p4 LQ p5 KU
  rw[Q0]at KU ⊢
  have NP:p4≠p5:=fun e=>by rw[e,aa]at KU;cases KU
  have X4:=(Ext.new (o:=.lst ((f.filter fun c=>!kZ c).map fun c=>PV.str (sgn c))) LQ).trans (.new (o:=.lst []) KU)
  have h4:(GC (GC S3 p4 (.lst ((f.filter fun c=>!kZ c).map fun c=>PV.str (sgn c)))) p5 (.lst [])) p4=some (.lst ((f.filter fun c=>!kZ c).map fun c=>PV.str (sgn c))):=by rw[ag NP,aa]
  have h5:(GC (GC S3 p4 (.lst ((f.filter fun c=>!kZ c).map fun c=>PV.str (sgn c)))) p5 (.lst [])) p5=some (.lst []):=aa
  generalize GC (GC S3 p4 (.lst ((f.filter fun c=>!kZ c).map fun c=>PV.str (sgn c)))) p5 (.lst [])=S4 at X4 h4 h5
  have MA:(f.filter fun c=>!kZ c)=[]↔NumText.AllDigits f:=by
   rw[List.filter_eq_nil_iff]
   exact⟨fun h c hc=>IP.mp (by simpa using h c hc),fun h c hc=>by rw[IP.mpr (h c hc)];decide⟩
  obtain⟨d,d',q1,q2,q3,q4,q5,q6⟩:=k6 Pq h4 h5
  refine⟨d,d',q1,q2,q3,q4,q5,?_⟩
  rw[q6]
  by_cases hz:(f.filter fun c=>!kZ c)=[]
  ·rw[hz]
   walk_at "y"
   simp only[List.isEmpty_nil,RH,Qd,QN]
   refine hK _ _ ⟨X3.trans X4,X4 _ _ f3,⟨_,rfl⟩,?_⟩
   rw[PX,Rc,List.take_add_one,hf1]
   intro g hg
   rcases Qe.mp hg with hg|hg
   ·exact hok g hg
   ·rw[P1.mp hg];exact⟨hfe,MA.mp hz⟩
  ·rw[show(f.filter fun c=>!kZ c).isEmpty=false from List.isEmpty_eq_false_iff.mpr hz]
   walk_at "y"
   try simp only[Ub,Rj]
   exact none_of (fun z=>hz (MA.mpr z.2)) _ (X3.trans X4)
 ·rintro σ S3 ⟨X3,f3,⟨x2,rfl⟩,hok⟩
  rw[PY,PY,Tq]at hok
  have kk:=k
  unfold fz at kk
  rw[if_pos hok]at kk
  refine hN _ _ (aw fun N hN=>?_)
  walk_at "x"
  rw[f3]
  dsimp only
  rw[PY,PY]
  cases es:sp l with
  |nil=>exact absurd es (pT l)
  |cons h t=>
   rw[es]at hok kk f3 Lj
   have oh:=hok h (by simp)
   have lh:=Lj h (by simp)
   have last:∀(P:List PV) (b:Nat) (u':List Nat),S3 p=some (.lst P)->P.length<=2->He P 0=some (.str (ai h))->He (P++[.str "1"]) 1=some (.str (ai u'))->intText? (ai u')=some (b:Int)->u'.length<=60->0 < b->b < 10 ^ 60->(∀S',Ext S S'->Q (.tup [.int ((digitsVal h / Nat.gcd (digitsVal h) b:Nat):Int),.int ((b / Nat.gcd (digitsVal h) b:Nat):Int)]) S')->N [some (.str (ai l)),some (.ref p),x2] S3:=by
    intro P b u' hP hPl a0 a1 iu hu hb hb2 kq
    refine hN _ _ ?_
    walk_at "x"
    rw[hP]
    dsimp only
    rw[a0]
    dsimp only
    simp only[bN,j2 oh lh]
    refine⟨PZ lh (by decide),?_⟩
    intro p6 MZ
    have h6:(GC S3 p6 (.lst [.str "1"])) p=some (.lst P):=Ext.new MZ _ _ hP
    have Op:(GC S3 p6 (.lst [.str "1"])) p6=some (.lst [.str "1"]):=aa
    have X6:Ext S (GC S3 p6 (.lst [.str "1"])):=X3.trans (.new MZ)
    generalize GC S3 p6 (.lst [.str "1"])=S6 at h6 Op X6
    rw[h6,Op]
    refine⟨ln (m:=10) (by simp;omega),fun p7 NQ=>?_⟩
    rw[aa]
    dsimp only
    rw[a1]
    dsimp only
    simp only[iu]
    refine⟨PZ hu (by decide),?_⟩
    have X7:Ext S (GC S6 p7 (.lst (P++[.str "1"]))):=X6.trans (.new NQ)
    have:=kq _ X7
    refine Ix (by omega) ?_ ?_
    ·exact P6 (show(b:Int).natAbs < 10 ^ 60 by simpa using hb2) (PZ (show 10 ^ 60<=2 ^ 200 by decide) (Nat.pow_le_pow_right (by decide) (by decide)))
    ·rw[(ql _ b hb).1,(ql _ b hb).2]
     exact this
   cases t with
   |nil=>
    walk_at "y"
    simp only[List.length_cons,List.length_nil,SW]
    refine last _ 1 [49] f3 (by simp) rfl rfl (j2 ⟨by simp,by intro c hc;rw[P1.mp hc];omega⟩ (by simp)) (by simp) (by decide) (by decide) fun S' X'=>?_
    have:=kk S' X'
    rw[Ug,Nat.div_one]
    exact this
   |cons u t=>
    cases t with
    |nil=>
     have ou:=hok u (by simp)
     have lu:=Lj u (by simp)
     walk_at "y"
     simp only[List.length_cons,List.length_nil,SW,bN,j2 ou lu]
     by_cases hu:digitsVal u=0
     ·dsimp only at kk
      rw[if_pos hu]at kk
      rw[hu]
      walk_at "y"
      exact⟨PZ lu (by decide),kk S3 X3⟩
     ·dsimp only at kk
      rw[if_neg hu]at kk
      rw[P0 (show ¬((digitsVal u:Nat):Int)=0 from by omega)]
      walk_at "y"
      refine⟨PZ lu (by decide),?_⟩
      exact last _ (digitsVal u) u f3 (by simp) rfl rfl (j2 ou lu) lu (by omega) (ml ou lu) kk
    |cons a t=>
     rw[Qh (by simp;omega)]
     walk_at "y"
     exact kk S3 X3
end G09
namespace G09
open PySem L2 L3 Wd
open C
noncomputable def _root_.C.Bd.g9(ws:Vs):Bd->Prop
 | .rest=>True
 | .pay x y=>M3.Fh x y/\0<=x/\x<=999/\y<=9
 | .put z m=>z∈ws/\1<=m/\m<=9
 | .use z=>z∈ws
 | .HN a=>a.g9 ws
 | .GG a b=>a.g9 ws/\b.g9 ws
 | .HG a b=>a.g9 ws/\b.g9 ws
 | .HJ z m a b=>z∈ws/\1<=m/\m<=9/\a.g9 ws/\b.g9 ws
noncomputable def yx(z:Str):Bool:=!z.cps.toList.isEmpty&&decide (z.cps.toList.length<=6)&&z.cps.toList.all fun c=>decide (97<=c)&&decide (c<=122)
def vL{z:Str}(h:yx z=true):Co z:=by
 unfold yx at h
 simp only[Qs,Qf,QG,Ue,List.isEmpty_eq_false_iff]at h
 exact⟨h.1.1,h.1.2,h.2⟩
def BX:∀z∈GW,(yx (Txt.slice z none (some (-1)) ++ "z")=true/\Txt.slice z none (some (-1)) ++ "z" ∉ GW)/\(Txt.slice z none (some (-1))).length+(("z":String):Str).length<=100/\z.length<=100:=by decide +kernel
noncomputable def JZ:List Str:=["jar","deeds","rests","pays","putt","the","eithe","taken","ofte","user","a"]
def BY:∀z∈JZ,yx z=true:=by decide +kernel
abbrev j3(w:aG):Prop:=∀{S:ap} {Q:bQ} {E:b8},(∀p,S p=none->Q (.ref p) (GC S p (.lst (GW.map PV.str))))->w [] S Q E
def IQ:j3 (bO 0 eN):=by
 intro S Q E k
 unfold eN
 refine j9 ?_
 walk_at "x"
 exact k
abbrev nE(w:aG):Prop:=∀{S:ap} {d l:Addr} {Q:bQ} {E:b8},GV S d l->(∀z S',Co z/\z ∉ GW->GV S' d l->G9 d l S S'->Q (.str z) S')->w [.ref d] S Q E
def Jn{x0 x1:aG}(GE:b9 x0)(IQ:j3 x1):nE (bO 4 (eP x0 x1)):=by
 intro S d l Q E D k
 unfold eP
 refine j9 ?_
 rw[show aA 4 [PV.ref d]=[some (.ref d),none,none,none] from rfl]
 refine aw fun N hN=>?_
 walk_at "x"
 refine hN _ _ (aw fun N hN=>?_)
 walk_at "x"
 refine⟨trivial,GE D (by decide) (by decide) fun n S1 n0 n1 D1 O1=>⟨by omega,by omega,?_⟩⟩
 refine oN GE D1 (by omega) rfl rfl ⟨_,rfl⟩ fun cs S2 hl hc D2 O2 pj hj=>?_
 simp only[fw,aa,fb]
 refine⟨si (by omega),?_⟩
 rw[show Txt.join (Str.ofString "") (cs.map sgn)=⟨cs.toArray⟩from ol cs]
 have wz:Co (⟨cs.toArray⟩:Str):=⟨fun e=>by have e':cs=[]:=e;rw[e']at hl;simp at hl;omega,by show cs.length<=6;omega,hc⟩
 generalize (⟨cs.toArray⟩:Str)=z at wz
 have OB:G9 d l S (GC S2 pj (.lst ((cs.map sgn).map PV.str))):=O1.trans (O2.trans (.new hj))
 have DB:=D2.new (o:=.lst ((cs.map sgn).map PV.str)) hj
 generalize GC S2 pj (.lst ((cs.map sgn).map PV.str))=S3 at OB DB
 refine hN _ _ (aw fun N hN=>?_)
 -- what comes behind
 have tail:∀(z:Str) (S':ap) (x3:Option PV),Co z->GV S' d l->G9 d l S S'->N [some (.ref d),some (.str abc),some (.str z),x3] S':=by
  intro z S' x3 wz D' O'
  refine hN _ _ (aw fun N hN=>?_)
  simp only[bg,aL,am,v3,lk,al,au]
  refine IQ fun p hp=>?_
  refine p0 aa (BF wz) lS ?_
  have O2:G9 d l S (GC S' p (.lst (GW.map PV.str))):=O'.trans (.new hp)
  have D2:=D'.new (o:=.lst (GW.map PV.str)) hp
  generalize GC S' p (.lst (GW.map PV.str))=S4 at O2 D2
  by_cases h:z∈GW
  ·simp only[h,decide_true,Qn,Rj]
   obtain⟨h1,h2,h3⟩:=BX z h
   simp only[aC,am,aU,v3,lk,kj,gY,sG,iN,c3,gZ,aH]
   exact⟨gm (by omega),gm (by omega),k _ _ ⟨vL h1.1,h1.2⟩ D2 O2⟩
  ·simp only[h,decide_false,Qn,Qd,QN]
   refine hN _ _ ?_
   walk_at "x"
   exact k _ _ ⟨wz,h⟩ D2 O2
 simp only[bg,aL,am,v3,lk,al,au,c3]
 refine GE DB (by decide) (by decide) fun r S4 r0 r1 D4 O4=>?_
 simp only[bE,Qn,Qf]
 split
 ·refine aw fun N2 KJ=>?_
  walk_at "x"
  intro p hp
  have dp:=D4.free hp
  refine KJ _ _ ?_
  walk_at "x"
  refine GE (D4.new hp) (by decide) (by decide) fun r2 S5 a0 a1 D5 O5=>?_
  have e5:=O5 _ _ (aa (S:=S4) (o:=.lst (JZ.map PV.str))) dp.1 dp.2
  simp only[e5]
  obtain⟨v,hv,Lk⟩:=i0 (xs:=JZ.map PV.str) a0 (by simpa [JZ]using a1)
  rw[hv]
  obtain⟨y,hy,rfl⟩:=Qt.mp Lk
  exact tail y S5 _ (vL (BY y hy)) D5 (OB.trans (O4.trans ((G9.new hp).trans O5)))
 ·exact tail z S4 _ wz D4 (OB.trans O4)
abbrev k7(w:aG):Prop:=∀{S:ap} {d l pw:Addr} {ws:Vs} {Q:bQ} {E:b8},GV S d l->S pw=some (.lst (ws.map PV.str))->pw≠d->pw≠l->1<=ws.length->ws.length<=100->(∀(t:Bd) S',t.g9 ws->t.dep=1->t.size=1->GV S' d l->G9 d l S S'->Q t.pv S')->w [.ref d,.ref pw] S Q E
def qo{ws:Vs}{r:Int}(h0:0<=r)(h1:r < (ws.length:Int)):∃z∈ws,He (ws.map PV.str) r=some (.str z):=by
 obtain⟨v,hv,Lk⟩:=i0 (xs:=ws.map PV.str) h0 (by simpa using h1)
 obtain⟨y,hy,rfl⟩:=Qt.mp Lk
 exact⟨y,hy,hv⟩
def vM{x0 x1:aG}(GE:b9 x0)(Ix:lR x1):k7 (bO 4 (ck x0 x1)):=by
 intro S d l pw ws Q E D hw wd wl h1 h2 k
 unfold ck
 refine j9 ?_
 rw[show aA 4 [PV.ref d,PV.ref pw]=[some (.ref d),some (.ref pw),none,none] from rfl]
 refine aw fun N hN=>?_
 walk_at "x"
 simp only[hw,PY]
 refine GE D (by omega) (by omega) fun r S1 r0 r1 D1 O1=>?_
 have hw1:=O1 _ _ hw wd wl
 obtain⟨z,hz,ez⟩:=qo r0 r1
 simp only[hw1,ez]
 refine hN _ _ (aw fun N hN=>?_)
 walk_at "x"
 refine GE D1 (by decide) (by decide) fun f S2 f0 f1 D2 O2=>?_
 have MB:=O1.trans O2
 refine hN _ _ (aw fun N hN=>?_)
 walk_at "x"
 simp only[Qn,Qf]
 split
 ·exact k .rest S2 trivial rfl rfl D2 MB
 refine hN _ _ (aw fun N hN=>?_)
 walk_at "x"
 simp only[Qn,Qf]
 split
 ·intro p hp
  have dp:=D2.free hp
  refine GE (D2.new hp) (by decide) (by decide) fun a S3 a0 a1 D3 O3=>?_
  have e3:=O3 _ _ (aa (S:=S2) (o:=.lst [.int 4,.int 1000])) dp.1 dp.2
  simp only[e3]
  obtain⟨v,hv,Lk⟩:=i0 (xs:=[PV.int 4,.int 1000]) a0 (by simpa using a1)
  rw[hv]
  obtain⟨g,rfl,Oq,Mf⟩:∃g:Int,v = .int g/\0 < g/\g<=1000:=by
   simp only[PM,P7,Qx]at Lk
   rcases Lk with rfl|rfl
   ·exact⟨4,rfl,by omega,by omega⟩
   ·exact⟨1000,rfl,by omega,by omega⟩
  refine GE D3 Oq (by omega) fun r2 S4 b0 b1 D4 O4=>?_
  refine GE D4 (by decide) (by decide) fun r3 S5 c0 c1 D5 O5=>?_
  dsimp only
  refine Ix (by omega) (sd (by omega)) ?_
  have zz:=M3.tT (t:=r2) (b:=1+r3) (T:=999) (B:=9) (by omega) (by omega) (by omega) (by omega) (by omega) (by decide) (by decide)
  refine k (.pay _ _) S5 ⟨M3.pJ (by omega),?_,zz.2.1,zz.2.2.2⟩ rfl rfl D5 (MB.trans ((G9.new hp).trans (O3.trans (O4.trans O5))))
  unfold M3.ji
  rw[if_neg (by omega)]
  exact Int.ediv_nonneg b0 (by omega)
 refine hN _ _ ?_
 walk_at "x"
 refine GE D2 (by decide) (by decide) fun m S3 m0 m1 D3 O3=>?_
 intro p hp
 have e3:(GC S3 p (.lst [.tup [.str "put",.str z,.int (1+m)],.tup [.str "use",.str z]])) p=_:=aa
 simp only[e3]
 have O4:=MB.trans (O3.trans (G9.new (o:=.lst [.tup [.str "put",.str z,.int (1+m)],.tup [.str "use",.str z]]) hp))
 have D4:=D3.new (o:=.lst [.tup [.str "put",.str z,.int (1+m)],.tup [.str "use",.str z]]) hp
 obtain rfl|rfl:f=2\/f=3:=by omega
 ·exact k (.put z (1+m)) _ ⟨hz,by omega,by omega⟩ rfl rfl D4 O4
 ·exact k (.use z) _ hz rfl rfl D4 O4
abbrev fg(n:Nat)(w:aG):Prop:=∀{S:ap} {d l pw:Addr} {ws:Vs} {room down:Int} {Q:bQ} {E:b8},GV S d l->S pw=some (.lst (ws.map PV.str))->pw≠d->pw≠l->1<=ws.length->ws.length<=100->1<=room->room<=1000->1<=down->down<=n->(∀(t:Bd) S',t.g9 ws->(t.dep:Int)<=down->(t.size:Int)<=room->GV S' d l->G9 d l S S'->Q t.pv S')->w [.ref d,.ref pw,.int room,.int down] S Q E
def vN{x0 x1 s0:aG}(GE:b9 x0)(K_:k7 x1)(n:Nat)(ih:fg n s0):fg (n+1) (bO 8 (cp x0 x1 s0)):=by
 intro S d l pw ws room down Q E D hw wd wl h1 h2 r1 r2 d1 d2 k
 unfold cp
 refine j9 ?_
 rw[show aA 8 [PV.ref d,PV.ref pw,PV.int room,PV.int down]=[some (.ref d),some (.ref pw),some (.int room),some (.int down),none,none,none,none] from rfl]
 refine aw fun N hN=>?_
 walk_at "x"
 refine GE D (by decide) (by decide) fun f S1 f0 f1 D1 O1=>?_
 have hw1:=O1 _ _ hw wd wl
 refine hN _ _ (aw fun N hN=>?_)
 walk_at "x"
 simp only[Qn,Qf]
 have lf:x1 [.ref d,.ref pw] S1 Q fF:=K_ D1 hw1 wd wl h1 h2 fun t S2 g t1 t2 D2 O2=>k t S2 g (by omega) (by omega) D2 (O1.trans O2)
 split
 ·rw[if_pos trivial];exact lf
 split
 ·rw[if_pos trivial];exact lf
 split
 ·exact lf
 refine hN _ _ (aw fun N hN=>?_)
 walk_at "x"
 simp only[Qn,Qf]
 have of:s0 [.ref d,.ref pw,.int (room - 1),.int (down - 1)] S1 (fun v S'=>Q (.tup [.str "often",v]) S') fF:=ih D1 hw1 wd wl h1 h2 (by omega) (by omega) (by omega) (by omega) fun t S2 g t1 t2 D2 O2=>k (.HN t) S2 g (by simp only[Bd.dep];omega) (by simp only[Bd.size];omega) D2 (O1.trans O2)
 split
 ·rw[if_pos trivial];exact of
 split
 ·exact of
 refine hN _ _ (aw fun N hN=>?_)
 walk_at "x"
 refine GE D1 (by omega) (by omega) fun a S2 a0 a1 D2 O2=>?_
 have NM:=O2 _ _ hw1 wd wl
 refine hN _ _ (aw fun N hN=>?_)
 walk_at "x"
 refine ih D2 NM wd wl h1 h2 (by omega) (by omega) (by omega) (by omega) fun ta S3 ga da sa D3 O3=>?_
 have MY:=O3 _ _ NM wd wl
 refine hN _ _ (aw fun N hN=>?_)
 walk_at "x"
 refine ih D3 MY wd wl h1 h2 (by omega) (by omega) (by omega) (by omega) fun tb S4 gb db sb D4 O4=>?_
 have Os:=O4 _ _ MY wd wl
 have L6:=O1.trans (O2.trans (O3.trans O4))
 refine hN _ _ (aw fun N hN=>?_)
 walk_at "x"
 simp only[Qf]
 split
 ·intro p hp
  have e3:(GC S4 p (.lst [.str "then",.str "then",.str "either"])) p=_:=aa
  simp only[e3]
  have O5:=L6.trans (G9.new (o:=.lst [.str "then",.str "then",.str "either"]) hp)
  have D5:=D4.new (o:=.lst [.str "then",.str "then",.str "either"]) hp
  obtain rfl|rfl|rfl:f=3\/f=4\/f=5:=by omega
  ·exact k (.GG ta tb) _ ⟨ga,gb⟩ (by simp only[Bd.dep];omega) (by simp only[Bd.size];omega) D5 O5
  ·exact k (.GG ta tb) _ ⟨ga,gb⟩ (by simp only[Bd.dep];omega) (by simp only[Bd.size];omega) D5 O5
  ·exact k (.HG ta tb) _ ⟨ga,gb⟩ (by simp only[Bd.dep];omega) (by simp only[Bd.size];omega) D5 O5
 refine hN _ _ ?_
 walk_at "x"
 simp only[Os,PY]
 refine GE D4 (by omega) (by omega) fun r S5 q0 q1 D5 O5=>?_
 have Pr:=O5 _ _ Os wd wl
 obtain⟨z,hz,ez⟩:=qo q0 q1
 simp only[Pr,ez]
 refine GE D5 (by decide) (by decide) fun m S6 m0 m1 D6 O6=>?_
 exact k (.HJ z (1+m) ta tb) S6 ⟨hz,by omega,by omega,ga,gb⟩ (by simp only[Bd.dep];omega) (by simp only[Bd.size];omega) D6 (L6.trans (O5.trans O6))
end G09
namespace G09
open PySem L2 L3 Wd
open C CX T5 T7 T9 PySem.NumText
noncomputable def _root_.C.Bd.gb(ws:Vs):Bd->Prop
 | .rest=>True
 | .pay x y=>x.natAbs < 10 ^ 60/\y.natAbs < 10 ^ 60
 | .put z m=>(sg z).length<=6/\1<=m/\m<=9
 | .use z=>(sg z).length<=6
 | .HN a=>a.gb ws
 | .GG a b=>a.gb ws/\b.gb ws
 | .HG a b=>a.gb ws/\b.gb ws
 | .HJ z m a b=>(sg z).length<=6/\1<=m/\m<=9/\a.gb ws/\b.gb ws
abbrev zw(w:aG):Prop:=∀{S:ap} {n d:Int} {Q:bQ} {E:b8},n.natAbs < 10 ^ 60->d.natAbs < 10 ^ 60->Q (.str (ai (txt (n,d)))) S->w [.tup [.int n,.int d]] S Q E
def vO:zw (bO 1 bY):=by
 intro S n d Q E hn hd k
 unfold bY
 refine j9 ?_
 rw[show aA 1 [PV.tup [PV.int n,PV.int d]]=[some (.tup [.int n,.int d])] from rfl]
 refine aw fun N hN=>?_
 walk_at "y"
 unfold txt at k
 by_cases h1:d=1
 ·subst h1
  rw[if_pos rfl]at k
  walk_at "y"
  simp only[f_]
  refine⟨il hn,?_⟩
  rw[toS]
  exact k
 ·rw[if_neg h1]at k
  rw[P0 h1]
  walk_at "y"
  refine hN _ _ ?_
  walk_at "y"
  simp only[f_,toS]
  have l2:=cS (n:=n) (k:=59) (by omega)
  have l3:=cS (n:=d) (k:=59) (by omega)
  rw[BR]
  refine⟨il hn,ln (m:=62) (by rw[GF];show _+1<=_;omega),il hd,ln (m:=1000) (by rw[GF,GF];simp;omega),?_⟩
  rw[gF]
  simpa using k
noncomputable def its:Bd->List (PV×List Nat)
 | .rest=>[]
 | .pay x y=>[(.tup [.int x,.int y],txt (x,y))]
 | .put z m=>[(.str z,sg z),(.int m,num m)]
 | .use z=>[(.str z,sg z)]
 | .HN a=>[(a.pv,tx a)]
 | .GG a b=>[(a.pv,tx a),(b.pv,tx b)]
 | .HG a b=>[(a.pv,tx a),(b.pv,tx b)]
 | .HJ z m a b=>[(.str z,sg z),(.int m,num m),(a.pv,tx a),(b.pv,tx b)]
def BZ(t:Bd):t.tl=(its t).map Prod.fst:=by cases t<;>rfl
def B1{t:Bd}(h:t.hd ≠ "rest"):tx t=[40]++gl [32] (sg t.hd::(its t).map Prod.snd)++[41]:=by
 cases t with
 |rest=>exact absurd rfl h
 |_=>rfl
def yy(t:Bd):(its t).length<=4:=by cases t<;>simp[its]
def vP(ws:Vs):Prop:=True
def w6{ws:Vs}(h:vP ws){z:Str}(hz:(sg z).length<=6):(sg z).length<=6:=hz
def qp{x y:Int}(h:x.natAbs < 10 ^ 60/\y.natAbs < 10 ^ 60):(txt (x,y)).length<=130:=by
 have a:=cS (n:=x) (k:=59) (by omega)
 have b:=cS (n:=y) (k:=59) (by omega)
 unfold txt
 split
 ·show(num x).length<=_;omega
 ·show(num x++47::num y).length<=_;rw[PX,Qa];omega
theorem bH(s:List Nat):∀P:List (List Nat),(gl s P).length<=(P.map List.length).sum+P.length * s.length
 |[]=>by simp[gl]
 |[p]=>by rw[bp];simp
 |p::a::q=>by
  have:=bH s (a::q)
  rw[aX s p (q:=a::q) (by simp)]
  simp only[PX,PL,List.sum_cons,List.length_cons,Nat.add_mul,Nat.one_mul]at *
  omega
theorem eV{ws:Vs}(hw:vP ws):∀t:Bd,t.gb ws->(tx t).length<=200 * t.size
 | .rest,_=>by decide +kernel
 | .pay x y,g=>by
  have:=qp g
  have:=bH [32] [sg "pay",txt (x,y)]
  have e:(sg "pay").length=3:=by decide +kernel
  simp only[tx,Bd.size,PX,List.length_singleton,PL,Qm,List.sum_cons,List.sum_nil,List.length_cons,List.length_nil]at *
  omega
 | .put z m,g=>by
  have:=w6 hw g.1
  have:=cS (n:=m) (k:=1) (by have:=g.2;omega)
  have:=bH [32] [sg "put",sg z,num m]
  have e:(sg "put").length=3:=by decide +kernel
  simp only[tx,Bd.size,PX,List.length_singleton,PL,Qm,List.sum_cons,List.sum_nil,List.length_cons,List.length_nil]at *
  omega
 | .use z,g=>by
  have:=w6 hw g
  have:=bH [32] [sg "use",sg z]
  have e:(sg "use").length=3:=by decide +kernel
  simp only[tx,Bd.size,PX,List.length_singleton,PL,Qm,List.sum_cons,List.sum_nil,List.length_cons,List.length_nil]at *
  omega
 | .HN a,g=>by
  have:=eV hw a g
  have:=bH [32] [sg "often",tx a]
  have e:(sg "often").length=5:=by decide +kernel
  simp only[tx,Bd.size,PX,List.length_singleton,PL,Qm,List.sum_cons,List.sum_nil,List.length_cons,List.length_nil]at *
  omega
 | .GG a b,g=>by
  have:=eV hw a g.1
  have:=eV hw b g.2
  have:=bH [32] [sg "then",tx a,tx b]
  have e:(sg "then").length=4:=by decide +kernel
  simp only[tx,Bd.size,PX,List.length_singleton,PL,Qm,List.sum_cons,List.sum_nil,List.length_cons,List.length_nil]at *
  omega
 | .HG a b,g=>by
  have:=eV hw a g.1
  have:=eV hw b g.2
  have:=bH [32] [sg "either",tx a,tx b]
  have e:(sg "either").length=6:=by decide +kernel
  simp only[tx,Bd.size,PX,List.length_singleton,PL,Qm,List.sum_cons,List.sum_nil,List.length_cons,List.length_nil]at *
  omega
 | .HJ z m a b,g=>by
  have:=w6 hw g.1
  have:=cS (n:=m) (k:=1) (by have:=g.2;omega)
  have:=eV hw a g.2.2.2.1
  have:=eV hw b g.2.2.2.2
  have:=bH [32] [sg "take",sg z,num m,tx a,tx b]
  have e:(sg "take").length=4:=by decide +kernel
  simp only[tx,Bd.size,PX,List.length_singleton,PL,Qm,List.sum_cons,List.sum_nil,List.length_cons,List.length_nil]at *
  omega
inductive IT (n:Nat) (ws:Vs) (sz:Nat):PV×List Nat->Prop
 |str (z:Str) (h:(sg z).length<=6):IT n ws sz (.str z,sg z)
 |int (m:Int) (h1:1<=m) (h2:m<=9):IT n ws sz (.int m,num m)
 |body (u:Bd) (h1:u.dep<=n) (h2:u.gb ws) (h3:u.size<=sz):IT n ws sz (u.pv,tx u)
 |cost (x y:Int) (h:x.natAbs < 10 ^ 60/\y.natAbs < 10 ^ 60):IT n ws sz (.tup [.int x,.int y],txt (x,y))
def B2{n sz:Nat}{ws:Vs}{t:Bd}(hd:t.dep<=n+1)(hs:t.size<=sz)(g:t.gb ws):∀p∈its t,IT n ws sz p:=by
 intro p hp
 cases t with
 |rest=>cases hp
 |pay x y=>rw[P1.mp hp];exact .cost x y g
 |put z m=>
  simp only[its,PM,P7,Qx]at hp
  rcases hp with rfl|rfl
  ·exact .str z g.1
  ·exact .int m g.2.1 g.2.2
 |use z=>rw[P1.mp hp];exact .str z g
 |HN a=>
  simp only[Bd.dep]at hd
  simp only[Bd.size]at hs
  rw[P1.mp hp];exact .body a (by omega) g (by omega)
 |GG a b=>
  simp only[Bd.dep]at hd
  simp only[Bd.size]at hs
  simp only[its,PM,P7,Qx]at hp
  rcases hp with rfl|rfl
  ·exact .body a (by omega) g.1 (by omega)
  ·exact .body b (by omega) g.2 (by omega)
 |HG a b=>
  simp only[Bd.dep]at hd
  simp only[Bd.size]at hs
  simp only[its,PM,P7,Qx]at hp
  rcases hp with rfl|rfl
  ·exact .body a (by omega) g.1 (by omega)
  ·exact .body b (by omega) g.2 (by omega)
 |HJ z m a b=>
  simp only[Bd.dep]at hd
  simp only[Bd.size]at hs
  simp only[its,PM,P7,Qx]at hp
  rcases hp with rfl|rfl|rfl|rfl
  ·exact .str z g.1
  ·exact .int m g.2.1 g.2.2.1
  ·exact .body a (by omega) g.2.2.2.1 (by omega)
  ·exact .body b (by omega) g.2.2.2.2 (by omega)
def B3{n sz:Nat}{ws:Vs}(hw:vP ws){p:PV×List Nat}(h:IT n ws sz p)(hs:sz<=1100):p.2.length<=220000:=by
 cases h with
 |str z h=>have:=w6 hw h;show(sg z).length<=_;omega
 |int m h1 h2=>have:=cS (n:=m) (k:=1) (by omega);show(num m).length<=_;omega
 |body u h1 h2 h3=>have:=eV hw u h2;show(tx u).length<=_;omega
 |cost x y h=>have:=qp h;show(txt (x,y)).length<=_;omega
def qq(P:List (List Nat)):Txt.join " " (P.map ai)=ai (gl [32] P):=by
 show Builtin.Str.glued (ai [32]) (P.map ai)=_
 rw[PySem.StrLaws.glued_eq_join]
 have:=i5 [32] (P.map ai)
 rw[QH]at this
 have e:(P.map ((fun z:Str=>z.cps.toList) ∘ ai))=P:=by(conv=>rhs;rw[<-List.map_id P]);rfl
 rw[e]at this
 rw[<-this,df]
def zx(z:Str):ai (sg z)=z:=df z
abbrev j4(n:Nat)(w:aG):Prop:=∀{S:ap} {t:Bd} {ws:Vs} {Q:bQ} {E:b8},vP ws->t.dep<=n->t.gb ws->t.size<=1100->(∀S',Ext S S'->Q (.str (ai (tx t))) S')->w [t.pv] S Q E
def vQ(P:List (List Nat)):P.map (fun l=>PV.str (ai l))=(P.map ai).map PV.str:=by rw[QH];rfl
def yz{S:ap}{P:List (List Nat)}{p:Addr}{i:Nat}{σ:bM}{Q:bQ}{E:b8}(hi:lk σ i=some (.ref p))(hp:S p=some (.lst ((P.map ai).map PV.str)))(hl:(P.map List.length).sum+P.length<=900000)(k:Q (.str (ai ([40]++gl [32] P++[41]))) S) :
  am aH (am aH (c3 (.str "(")) (cz "str" fw (c3 (.str " ")) [v3 i])) (c3 (.str ")")) σ S Q E:=by
 have g:=bH [32] P
 simp only[am,cz,au,c3,v3,hi,kl,fw,hp,fb,qq]
 have e1:(("(":String):Str)=ai [40]:=rfl
 have e2:((")":String):Str)=ai [41]:=rfl
 have e3:((P.map ai).map (·.length)).sum=(P.map List.length).sum:=by rw[QH];rfl
 refine⟨trivial,?_,?_⟩
 ·rw[e3,PY]
  show _+_ * 1<=_
  omega
 ·rw[e1,e2]
  simp only[aH,gF,GF]
  simp only[List.length_cons,List.length_nil,PX,SW,Nat.mul_one]at g ⊢
  exact⟨PZ (show _<=8000000 by omega) (by decide),PZ (show _<=8000000 by omega) (by decide),k⟩
theorem qr{n sz:Nat}{ws:Vs}(hw:vP ws)(hs:sz<=1100):∀{ps:List (PV×List Nat)},(∀p∈ps,IT n ws sz p)->((ps.map Prod.snd).map List.length).sum<=220000 * ps.length
 |[],_=>by simp
 |p::r,h=>by
  have a:=B3 hw (h p (by simp)) hs
  have b:=qr hw hs (ps:=r) fun x hx=>h x (by simp[hx])
  simp only[PL,List.sum_cons,List.length_cons]
  omega
def B4(t:Bd):(sg t.hd).length<=6:=by cases t<;>simp only[Bd.hd]<;>decide +kernel
def sC{xc s0:aG}(JF:zw xc)(n:Nat)(ih:j4 n s0):j4 (n+1) (bO 3 (bZ xc s0)):=by
 intro S t ws Q E hw hd g hs k
 unfold bZ
 refine j9 ?_
 rw[show aA 3 [t.pv]=[some t.pv,none,none] from rfl,Bd.Jc]
 refine aw fun N hN=>?_
 simp only[bg,aL,am,aD,v3,lk,c3,uZ,bE,Qn]
 by_cases hr:t.hd = "rest"
 ·rw[Qh hr]
  simp only[Rj,aC,c3]
  have e:t = .rest:=by cases t<;>simp[Bd.hd,bi]at hr<;>rfl
  subst e
  have:=k S .refl
  exact this
 rw[P0 hr]
 simp only[Qd,QN,aQ]
 refine hN _ _ (aw fun N hN=>?_)
 simp only[av,aS,au,am,aD,v3,lk,c3,uZ,List.set_cons_zero,List.set_cons_succ]
 intro p hp
 have f1:(GC S p (.lst [.str t.hd])) p=some (.lst ([(sg t.hd:List Nat)].map fun l=>PV.str (ai l))):=by rw[aa,PL,Qm,zx]
 have X1:Ext S (GC S p (.lst [.str t.hd])):=.new hp
 generalize GC S p (.lst [.str t.hd])=S1 at f1 X1
 refine hN _ _ (aw fun N hN=>?_)
 have ec:ci (PV.str t.hd::t.tl) (some 1) none=(its t).map Prod.fst:=by
  rw[<-BZ]
  unfold ci
  rw[HT.jc,show(1:Int)=((1:Nat):Int)from rfl,HT.fU,Su (by simp)]
  simp
 simp only[dy,bJ,aU,kj,gY,v3,lk,c3,gZ,fx,ec]
 have hit:=B2 hd hs g
 have hl4:=yy t
 have hll:=qr hw (PN 1100) hit
 have h6:=B4 t
 refine cM (fun done σ S'=>Ext S S'/\done.length<=(its t).length/\∃x2,σ=[some (.tup (PV.str t.hd::t.tl)),some (.ref p),x2]/\S' p=some (.lst ((sg t.hd::((its t).take done.length).map Prod.snd).map fun l=>PV.str (ai l)))) ⟨X1,Qc _,_,rfl,f1⟩ (fun _ _ _ _=>trivial) ?_ ?_
 ·rintro done x rest σ S2 K e ⟨X2,hdl,x2,rfl,f2⟩ hK
  have hget:((its t).map Prod.fst)[done.length]?=some x:=by rw[e];simp
  obtain⟨q,hq,rfl⟩:∃q,(its t)[done.length]?=some q/\Prod.fst q=x:=by rw[Ql]at hget;exact Qz.mp hget
  have hlt:=(Qg.mp hq).1
  have app:∀S3,Ext S2 S3->K [some (.tup (PV.str t.hd::t.tl)),some (.ref p),some q.1] (GC S3 p (.lst ((sg t.hd::((its t).take done.length).map Prod.snd).map (fun l=>PV.str (ai l))++[.str (ai q.2)]))):=by
   intro S3 X3
   refine hK _ _ ⟨?_,by rw[PX,Rc];omega,_,rfl,?_⟩
   ·intro a o ha
    rw[ag (fun e=>by rw[e,hp]at ha;cases ha)]
    exact X3 _ _ (X2 _ _ ha)
   ·rw[aa,PX,Rc,List.take_succ,hq]
    simp
  have small:∀xs:List PV,xs=(sg t.hd::((its t).take done.length).map Prod.snd).map (fun l=>PV.str (ai l))->xs.length < sizeLine:=fun xs e=>by
   rw[e]
   refine P6 (show _ < 1000 from ?_) (by decide)
   simp
   omega
  simp only[Tg.put,List.set_cons_zero,List.set_cons_succ]
  have hI:=hit q (QY hq)
  obtain⟨v,w⟩:=q
  simp only[bg,aL,aj,au,v3,lk,c3]
  cases hI with
  |str z hz=>
   refine⟨by decide,?_⟩
   rw[show cY "str" "str" = true by decide]
   simp only[Rj,bd,cz,kl,v3,lk,au,f2,aI,Ro]
   refine⟨small _ rfl,?_⟩
   have:=app S2 .refl
   rw[zx]at this
   exact this
  |int m m1 m9=>
   refine⟨by decide,?_⟩
   rw[show cY "int" "str" = false by decide]
   simp only[Qd,QN]
   refine⟨by decide,?_⟩
   rw[show cY "int" "int" = true by decide]
   simp only[Rj,bd,cz,kl,v3,lk,au,f2,aj,f_,Ro]
   refine⟨il (by omega),?_⟩
   simp only[aI,f2]
   refine⟨small _ rfl,?_⟩
   rw[toS]
   exact app S2 .refl
  |body u u1 u2 u3=>
   have ety:∀S:ap,ow S u.pv=some "tuple":=fun S=>by rw[Bd.Jc];rfl
   simp only[fm,ety]
   refine⟨by decide,?_⟩
   rw[show cY "tuple" "str" = false by decide]
   simp only[Qd,QN]
   refine⟨by decide,?_⟩
   rw[show cY "tuple" "int" = false by decide]
   simp only[Qd,QN,am,v3,lk,c3]
   rw[Bd.Jc]
   simp only[aD,uZ,ow]
   refine⟨by decide,?_⟩
   rw[show cY "str" "str" = true by decide]
   simp only[Rj,bd,cz,kl,v3,lk,au,f2,al,Ro]
   rw[<-Bd.Jc]
   refine ih hw u1 u2 u3 fun S3 X3=>?_
   have f3:=X3 _ _ f2
   simp only[aI,f3]
   exact⟨small _ rfl,app S3 X3⟩
  |cost a b h=>
   refine⟨by decide,?_⟩
   rw[show cY "tuple" "str" = false by decide]
   simp only[Qd,QN]
   refine⟨by decide,?_⟩
   rw[show cY "tuple" "int" = false by decide]
   simp only[Qd,QN,am,v3,lk,c3,aD,uZ,fm,ow]
   refine⟨by decide,?_⟩
   rw[show cY "int" "str" = false by decide]
   simp only[Qd,QN,bd,cz,kl,v3,lk,au,f2,al,Ro]
   refine JF h.1 h.2 ?_
   simp only[aI,f2]
   exact⟨small _ rfl,app S2 .refl⟩
 ·rintro σ S2 ⟨X2,hdl,x2,rfl,f2⟩
  refine hN _ _ (nA ?_)
  rw[PY,Tq]at f2
  rw[vQ]at f2
  refine yz rfl f2 ?_ ?_
  ·simp only[PL,List.sum_cons,List.length_cons,PY]
   omega
  ·rw[<-B1 hr]
   exact k S2 X2
abbrev qt(w:aG):Prop:=∀{S:ap} {l:List Nat} {Q:bQ} {E:b8},l.length<=1000->Vd l=true->(∀S',Ext S S'->Q (.bl (dR l)) S')->w [.str (ai l)] S Q E
def vR{x:aG}(NR:j3 x):qt (bO 1 (cG x)):=by
 intro S l Q E hl hv k
 have NO:=Iz.mp hv
 unfold cG
 refine j9 ?_
 rw[show aA 1 [PV.str (ai l)]=[some (.str (ai l))] from rfl]
 refine aw fun N hN=>?_
 simp only[bg,gK,aL,am,al,au,v3,lk,c3]
 refine NR fun p hp=>?_
 have X1:Ext S (GC S p (.lst (GW.map PV.str))):=.new hp
 have f1:(GC S p (.lst (GW.map PV.str))) p=some (.lst (GW.map PV.str)):=aa
 generalize GC S p (.lst (GW.map PV.str))=S1 at X1 f1
 refine p0 (zs:=GW) f1 (mi hv (by omega)) lS ?_
 by_cases hk:ai l∈GW
 ·rw[Qh hk]
  walk_at "y"
  have:dR l=false:=by unfold dR;rw[P0 (not_not_intro hk)];simp
  rw[<-this];exact k S1 X1
 rw[P0 hk]
 walk_at "y"
 simp only[lI]
 walk_at "y"
 rw[GF]
 refine⟨ln (m:=1000) hl,?_⟩
 by_cases h1:l=[]
 ·subst h1
  walk_at "y"
  exact k S1 X1
 have h1':l.length≠0:=fun e=>h1 (QF.mp e)
 rw[Qh (show(0:Int) < ((l.length:Nat):Int)from by omega)]
 walk_at "y"
 rcases Nat.lt_or_ge 6 l.length with h2|h2
 ·rw[P0 (show ¬((l.length:Nat):Int) < 7 from by omega)]
  walk_at "y"
  have:dR l=false:=by unfold dR;rw[P0 (Nat.not_le.mpr h2)];simp
  rw[<-this];exact k S1 X1
 rw[Qh (show((l.length:Nat):Int) < 7 from by omega)]
 walk_at "y"
 refine hN _ _ (nA ?_)
 walk_at "x"
 rw[toL]
 refine fe (fun c=>PV.str (sgn c)) (fun c=>PV.str (sgn c)) (fun c=>!sK c) trivial l [] (fun c _=>⟨_,rfl,fun K q=>?_,fun Q q=>q⟩) (ln (m:=60) (by rw[RA];omega)) ?_
 ·show K (true != !(Builtin.Str.occurrences (PySem.Str.ofString "abcdefghijklmnopqrstuvwxyz") (sgn c) 0 (PySem.Str.ofString "abcdefghijklmnopqrstuvwxyz").length 1).isEmpty) S1
  have e1:=vt (c:=c)
  rw[Qn]at e1
  rw[e1]
  simpa using q
 intro p4 LQ p5 KU
 rw[Q0]at KU ⊢
 have NP:p4≠p5:=fun e=>by rw[e,aa]at KU;cases KU
 have X4:=(Ext.new (o:=.lst ((l.filter fun c=>!sK c).map fun c=>PV.str (sgn c))) LQ).trans (.new (o:=.lst []) KU)
 have h4:(GC (GC S1 p4 (.lst ((l.filter fun c=>!sK c).map fun c=>PV.str (sgn c)))) p5 (.lst [])) p4=some (.lst ((l.filter fun c=>!sK c).map fun c=>PV.str (sgn c))):=by rw[ag NP,aa]
 have h5:(GC (GC S1 p4 (.lst ((l.filter fun c=>!sK c).map fun c=>PV.str (sgn c)))) p5 (.lst [])) p5=some (.lst []):=aa
 generalize GC (GC S1 p4 (.lst ((l.filter fun c=>!sK c).map fun c=>PV.str (sgn c)))) p5 (.lst [])=S4 at X4 h4 h5
 obtain⟨d,d',q1,q2,q3,q4,q5,q6⟩:=k6 NO h4 h5
 refine⟨d,d',q1,q2,q3,q4,q5,?_⟩
 rw[q6]
 have:dR l=(false != (l.filter fun c=>!sK c).isEmpty):=by
  unfold dR
  rw[Qh h2,Qh hk,show l.isEmpty=false from by cases l with|nil=>exact absurd rfl h1|cons=>rfl]
  simp only[Ub,Bool.true_and,Bool.and_true,Qn]
  rw[Rz,QG,List.isEmpty_iff,List.filter_eq_nil_iff]
  simp[sK]
 rw[<-this]
 exact k S4 (X1.trans X4)
mutual
noncomputable def dp:Tr->Nat
 | .w _=>1
 | .n ts=>KK ts+1
noncomputable def KK:List Tr->Nat
 |[]=>0
 |t::ts=>max (dp t) (KK ts)
end
mutual
noncomputable def AW:Tr->Prop
 | .w l=>nQ l
 | .n ts=>IE ts
noncomputable def IE:List Tr->Prop
 |[]=>True
 |t::ts=>AW t/\IE ts
end
noncomputable def Kd.ls:Kd->Str
 | .cost=>"cost" | .things=>"many" | .name=>"name" | .body=>"body"
noncomputable def qu:Option Bd->PV
 |none=>.non
 |some t=>t.pv
def DX(o:Option Bd):qj (o.map .b)=qu o:=by cases o<;>rfl
abbrev qv(n:Nat)(w:aG):Prop:=∀{S:ap} {T:Tr} {v:PV} {Q:bQ} {E:b8},RT [] S T v->AW T->2 * dp T<=n->(∀S',Ext S S'->Q (qu (cJ T)) S')->w [v] S Q E
abbrev oZ(n:Nat)(w:aG):Prop:=∀{S:ap} {T:Tr} {v:PV} {k:Kd} {Q:bQ} {E:b8},RT [] S T v->AW T->2 * dp T+1<=n->(∀S',Ext S S'->Q (qj (mG k (T,cJ T))) S')->w [v,.str (Kd.ls k)] S Q E
def B5(l:List Nat):qj (j_ .name l)=if dR l=true then .str (ai l) else .non:=by
 show qj (if dR l=true then some (.n l) else none)=_
 split<;>rfl
def vS{xc xn s0 s1:aG}(JF:qm xc)(Kl:qt xn)(n:Nat)(ih:qv n s1):oZ (n+1) (bO 2 (bL xc xn s0 s1)):=by
 intro S T v kd Q E hT hA hd k
 unfold bL
 refine j9 ?_
 rw[show aA 2 [v,PV.str (Kd.ls kd)]=[some v,some (.str (Kd.ls kd))] from rfl]
 refine aw fun N hN=>?_
 simp only[bg,aL,am,v3,lk,c3,bE,Qn,Qf]
 by_cases hb:kd = .body
 ·subst hb
  rw[if_pos (show Kd.ls .body = "body" from rfl)]
  simp only[aC,al,au,v3,lk]
  refine ih hT hA (by omega) fun S' X'=>?_
  have:=k S' X'
  rw[show mG .body (T,cJ T)=(cJ T).map .b from rfl,DX]at this
  exact this
 rw[if_neg (show ¬Kd.ls kd = "body" from by cases kd<;>first|exact absurd rfl hb|simp[Kd.ls,bi])]
 simp only[aQ]
 refine hN _ _ (aw fun N hN=>?_)
 cases T with
 |n ts=>
  rw[RT]at hT
  obtain⟨a,vs,rfl,-,h1,h2⟩:=hT
  have e:mG kd (.n ts,cJ (.n ts))=none:=by cases kd<;>first|rfl|exact absurd rfl hb
  rw[e]at k
  simp only[bg,f7,aL,aj,au,v3,lk,c3,fm,ow,h1]
  refine⟨by decide,?_⟩
  rw[show cY "list" "str" = false by decide]
  walk_at "y"
  exact k S .refl
 |w l=>
  rw[RT]at hT
  subst hT
  have hA':nQ l:=hA
  simp only[bg,f7,aL,aj,au,v3,lk,c3,fm,ow]
  refine⟨by decide,?_⟩
  rw[show cY "str" "str" = true by decide]
  walk_at "y"
  refine hN _ _ (aw fun N hN=>?_)
  cases kd with
  |body=>exact absurd rfl hb
  |cost=>
   simp only[Kd.ls]
   walk_at "y"
   exact JF hA' fun S' X'=>k S' X'
  |things=>
   have e:mG .things (.w l,cJ (.w l))=j_ .things l:=rfl
   rw[e]at k
   simp only[Kd.ls]
   walk_at "y"
   refine hN _ _ (aw fun N hN=>?_)
   walk_at "y"
   rw[GF]
   by_cases h1:l.length=1
   ·obtain⟨c,rfl⟩:∃c,l=[c]:=SS.mp h1
    rw[show decide ((([c]:List Nat).length:Int)=1)=true from rfl]
    walk_at "y"
    simp only[jp]
    rw[show ai [c]=sgn c from rfl,RN,show(PySem.Str.ofString "123456789").cps.toList=List.range' 49 9 from by decide +kernel]
    refine⟨ln (m:=1) (by simp),?_⟩
    by_cases hc:49<=c/\c<=57
    ·rw[Qh (by rw[R5];omega)]
     walk_at "y"
     simp only[bN]
     have e:intText? (sgn c)=some ((c - 48:Nat):Int):=by
      have:=j2 (f:=[c]) ⟨by simp,by intro d hd;rw[P1.mp hd];omega⟩ (by simp)
      rw[show sgn c=ai [c] from rfl,this]
      simp[NumText.digitsVal]
     rw[e]
     have:=k S .refl
     rw[show j_ .things [c]=some (.m (c - 48))from if_pos hc]at this
     exact⟨by show 1<=640;decide,this⟩
    ·rw[P0 (by rw[R5];omega)]
     walk_at "y"
     have:=k S .refl
     rw[show j_ .things [c]=none from if_neg hc]at this
     exact this
   ·rw[P0 (show ¬((l.length:Nat):Int)=1 from by omega)]
    walk_at "y"
    have e2:j_ .things l=none:=by
     show(match l with|[c]=>if 49<=c/\c<=57 then some (Pt.m (c - 48)) else none|_=>none)=none
     split
     ·exact absurd rfl h1
     ·rfl
    have:=k S .refl
    rw[e2]at this
    exact⟨ln (m:=1000) hA'.1.1,this⟩
  |name=>
   have e:mG .name (.w l,cJ (.w l))=j_ .name l:=rfl
   rw[e]at k
   simp only[Kd.ls]
   walk_at "y"
   refine hN _ _ (aw fun N hN=>?_)
   walk_at "y"
   refine hN _ _ ?_
   walk_at "y"
   refine Kl hA'.1.1 hA'.2 fun S' X'=>?_
   have:=k S' X'
   rw[B5]at this
   cases hb2:dR l with
   |true=>rw[hb2,if_pos rfl]at this;walk_at "y"; exact this
   |false=>rw[hb2,if_neg (by simp)]at this;walk_at "y"; exact this
mutual
theorem vT{O:List Addr}{S:ap}:∀(T:Tr) (v:PV),RT O S T v->AW T->∃d,Dat S v d/\d.canLay0=true
 | .w l,v,r,a=>by
  rw[RT]at r
  subst r
  rw[AW]at a
  exact⟨.str _,.str _,mi a.2 (by have:=a.1.1;omega)⟩
 | .n ts,v,r,a=>by
  rw[RT]at r
  rw[AW]at a
  obtain⟨b,vs,rfl,-,h1,h2⟩:=r
  obtain⟨ds,h3,h4⟩:=J3 ts vs h2 a
  exact⟨.list ds,.ref h1 h3,h4⟩
theorem J3{O:List Addr}{S:ap}:∀(ts:List Tr) (vs:List PV),Hd O S ts vs->IE ts->∃ds,Hz S vs ds/\PyData.canLayAll0 ds=true
 |[],vs,r,a=>by
  rw[Hd]at r
  subst r
  exact⟨[],.nil,rfl⟩
 |t::ts,vs,r,a=>by
  rw[Hd]at r
  rw[IE]at a
  obtain⟨v,w,rfl,h1,h2⟩:=r
  obtain⟨d,h3,h4⟩:=vT t v h1 a.1
  obtain⟨ds,h5,h6⟩:=J3 ts w h2 a.2
  refine⟨d::ds,.cons h3 h5,?_⟩
  show(d.canLay0&&PyData.canLayAll0 ds)=true
  rw[h4,h6];rfl
end
noncomputable def PR(S:ap):List (Str×List Str)->List (aZ×PV)->Prop
 |[],kvs=>kvs=[]
 |(k,zs)::M,kvs=>∃q r,kvs=(.inr k,.ref q)::r/\S q=some (.lst (zs.map PV.str))/\PR S M r
theorem PR.mono{S S':ap}(X:Ext S S'):∀{M:List (Str×List Str)} {kvs:List (aZ×PV)},PR S M kvs->PR S' M kvs
 |[],_,h=>h
 |(k,zs)::M,_,⟨q,r,e,h1,h2⟩=>⟨q,r,e,X _ _ h1,PR.mono X h2⟩
theorem PR.app{S:ap}:∀{M M':List (Str×List Str)} {a b:List (aZ×PV)},PR S M a->PR S M' b->PR S (M++M') (a++b)
 |[],_,_,_,h,h'=>by rw[PR]at h;subst h;exact h'
 |(k,zs)::M,M',_,b,⟨q,r,e,h1,h2⟩,h'=>⟨q,r++b,by rw[e];rfl,h1,PR.app h2 h'⟩
theorem PR.at_{S:ap}{h:Str}:∀{M:List (Str×List Str)} {kvs:List (aZ×PV)},PR S M kvs->match fJ M h with
  |some zs=>∃q,gX kvs (.inr h)=some (.ref q)/\S q=some (.lst (zs.map PV.str))/\(kvs.any fun kv=>decide (kv.1=Sum.inr h))=true
  |none=>(kvs.any fun kv=>decide (kv.1=Sum.inr h))=false
 |[],_,e=>by rw[PR]at e;subst e;rfl
 |(k,zs)::M,_,⟨q,r,e,h1,h2⟩=>by
  subst e
  have ih:=PR.at_ (h:=h) h2
  unfold fJ
  by_cases hk:k=h
  ·subst hk
   rw[if_pos rfl]
   exact⟨q,by rw[gX,if_pos rfl],h1,by simp⟩
  ·rw[if_neg hk]
   have hk':¬((Sum.inr k:aZ)=Sum.inr h):=fun z=>hk (by injection z)
   cases e:fJ M h with
   |none=>rw[e]at ih;simp only[List.any_cons,P0 hk',Bool.false_or];exact ih
   |some zs'=>
    rw[e]at ih
    obtain⟨q',g1,g2,g3⟩:=ih
    exact⟨q',by rw[gX,if_neg hk'];exact g1,g2,by rw[RX,g3];simp⟩
def vU{zs:Vs}:∀{σ:bM} {S:ap} {Q:List PV->ap->Prop} {E:b8},Q (zs.map PV.str) S->au (zs.map fun z=>c3 (.str z)) σ S Q E:=by
 induction zs with
 |nil=>intro σ S Q E h;exact h
 |cons z zs ih=>intro σ S Q E h;exact ih h
theorem qw:∀(M:List (Str×List Str)) {σ:bM} {S:ap} {Q:List (PV×PV)->ap->Prop} {E:b8},(∀ps S',Ext S S'->(∃kvs,jw ps=some kvs/\PR S' M kvs)->Q ps S')->d5 (M.map fun m=>(c3 (.str m.1),aS (m.2.map fun z=>c3 (.str z)))) σ S Q E
 |[],σ,S,Q,E,k=>k [] S .refl ⟨[],rfl,rfl⟩
 |(z,zs)::M,σ,S,Q,E,k=>by
  show aS (zs.map fun z=>c3 (.str z)) σ S (fun y S2=>d5 (M.map fun m=>(c3 (.str m.1),aS (m.2.map fun z=>c3 (.str z)))) σ S2 (fun ps S3=>Q ((.str z,y)::ps) S3) E) E
  unfold aS
  refine vU fun q hq=>?_
  refine qw M fun ps S' X' ⟨kvs,h1,h2⟩=>?_
  refine k _ S' ((Ext.new hq).trans X') ⟨(.inr z,.ref q)::kvs,?_,q,kvs,rfl,X' _ _ aa,h2⟩
  show(match lB (.str z),jw ps with|some k,some l=>some ((k,PV.ref q)::l)|_,_=>none)=_
  rw[h1];rfl
def yA{k:aZ}{v:PV}{kvs:List (aZ×PV)}(h:∀kv∈kvs,kv.1≠k):iP kvs k v=kvs++[(k,v)]:=by
 unfold iP
 exact if_neg (by rw[List.any_eq_true];rintro⟨kv,h1,h2⟩;exact h kv h1 (of_decide_eq_true h2))
theorem io:∀{more kvs:List (aZ×PV)},(∀kv∈kvs,∀kw∈more,kv.1≠kw.1)->(more.map Prod.fst).Nodup->c_ kvs more=kvs++more
 |[],kvs,_,_=>by simp[c_]
 |kw::more,kvs,h,hn=>by
  rw[PL,Qw]at hn
  show c_ (iP kvs kw.1 kw.2) more=_
  rw[yA (fun kv hkv=>h kv hkv kw (by simp)),io (more:=more) ?_ hn.2]
  ·simp
  ·intro kv hkv kx hkx
   rcases Qe.mp hkv with hkv|hkv
   ·exact h kv hkv kx (by simp[hkx])
   ·rw[P1.mp hkv]
    exact fun z=>hn.1 (Qt.mpr ⟨kx,hkx,z.symm⟩)
theorem PR.keys{S:ap}:∀{M:List (Str×List Str)} {kvs:List (aZ×PV)},PR S M kvs->kvs.map Prod.fst=M.map fun m=>(Sum.inr m.1:aZ)
 |[],_,h=>by rw[PR]at h;subst h;rfl
 |(k,zs)::M,_,⟨q,r,e,h1,h2⟩=>by rw[e,PL,PL,PR.keys h2]
theorem PR.upd{S:ap}{p:Addr}{o:SO}{d:List (aZ×PV)}(hp:S p=some (.dct d)):∀{M:List (Str×List Str)} {kvs:List (aZ×PV)},PR S M kvs->PR (GC S p o) M kvs
 |[],_,h=>h
 |(k,zs)::M,_,⟨q,r,e,h1,h2⟩=>⟨q,r,e,by rw[ag (fun z=>by rw[z,hp]at h1;cases h1)];exact h1,PR.upd hp h2⟩
def vV(M:List (Str×List Str))(hn:(M.map fun m=>(Sum.inr m.1:aZ)).Nodup){σ:bM}{S:ap}{Q:bQ}{E:b8}(k:∀p S' kvs,S p=none->Ext S S'->S' p=some (.dct kvs)->PR S' M kvs->Q (.ref p) S'):d6 (M.map fun m=>(c3 (.str m.1),aS (m.2.map fun z=>c3 (.str z)))) σ S Q E:=by
 unfold d6
 intro p hp
 refine qw M fun ps S' X' ⟨kvs,h1,h2⟩=>?_
 have hp':S' p=some (.dct []):=X' _ _ aa
 refine⟨hp',?_⟩
 rw[h1]
 dsimp only
 have em:c_ [] kvs=kvs:=by rw[io (by simp) (by rw[PR.keys h2];exact hn),Q0]
 rw[em]
 refine k p _ kvs hp (fun a u ha=>?_) aa (PR.upd hp' h2)
 rw[ag (fun z=>by rw[z,hp]at ha;cases ha)]
 exact X' _ _ (by rw[ag (fun z=>by rw[z,hp]at ha;cases ha)];exact ha)
noncomputable def MC:List (Str×List Str):=[("pay",["cost"]),("put",["name","many"]),("then",["body","body"]),("either",["body","body"])]
noncomputable def MD:List (Str×List Str):=[("take",["name","many","body","body"]),("often",["body"]),("use",["name"])]
def Gu(h:Str):fJ (MC++MD) h=(tab.lookup h).map fun ks=>ks.map Kd.ls:=by
 have:∀(T:List (Str×List Kd)) (h:Str),fJ (T.map fun q=>(q.1,q.2.map Kd.ls)) h=(T.lookup h).map fun ks=>ks.map Kd.ls:=by
  intro T h
  induction T with
  |nil=>rfl
  |cons q T ih=>
   obtain⟨k,v⟩:=q
   show(if k=h then some (v.map Kd.ls) else fJ (T.map fun q=>(q.1,q.2.map Kd.ls)) h)=_
   rw[ih,Sg]
   by_cases e:k=h
   ·subst e;rw[if_pos rfl,Sj];rfl
   ·rw[if_neg e,show(h == k)=false from beq_false_of_ne (QK e)]
 exact this tab h
def B6:∀m∈MC,∀m'∈MD,m.1≠m'.1:=by decide +kernel
def nF{σ:bM}{S:ap}{v:PV}{D:fZ}{N:bM->ap->Prop}{x2 x3:Option PV}(hσ:σ=[some v,none,x2,x3])
  (k:∀p S' kvs,Ext S S'->S' p=some (.dct kvs)->PR S' (MC++MD) kvs->N [some v,some (.ref p),x2,x3] S') :
  av 1 (d6 (MC.map fun m=>(c3 (.str m.1),aS (m.2.map fun z=>c3 (.str z))))) { D with nx:=fun σ' S'=>bd (cz "dict" gk (v3 1) [d6 (MD.map fun m=>(c3 (.str m.1),aS (m.2.map fun z=>c3 (.str z))))]) { D with nx:=N } σ' S' } σ S:=by
 subst hσ
 unfold av
 refine vV MC (by decide +kernel) fun p S1 kvs hp X1 f1 r1=>?_
 simp only[List.set_cons_zero,List.set_cons_succ,bd,cz,v3,lk,kl,f1,au,Ro]
 refine vV MD (by decide +kernel) fun p2 S2 LW hp2 X2 f2 r2=>?_
 have NS:=X2 _ _ f1
 have np:p≠p2:=fun z=>by rw[z,hp2]at f1;cases f1
 simp only[gk,NS,f2]
 have l1:=Qu List.length (PR.keys r1)
 have l2:=Qu List.length (PR.keys r2)
 rw[PY,PY]at l1 l2
 have em:c_ kvs LW=kvs++LW:=by
  refine io (fun kv hkv kw hkw z=>?_) (by rw[PR.keys r2];decide +kernel)
  have m1:kv.1∈kvs.map Prod.fst:=Qt.mpr ⟨kv,hkv,rfl⟩
  have m2:kw.1∈LW.map Prod.fst:=Qt.mpr ⟨kw,hkw,rfl⟩
  rw[PR.keys r1]at m1
  rw[PR.keys r2]at m2
  obtain⟨a,ha,ea⟩:=Qt.mp m1
  obtain⟨b,hb,eb⟩:=Qt.mp m2
  rw[z,<-eb]at ea
  exact B6 a ha b hb (by injection ea)
 refine⟨np,PZ (show _<=100 by rw[l1,l2];decide) (by decide),?_⟩
 rw[em]
 refine k p _ _ (fun a u ha=>?_) aa (PR.app (PR.upd NS (PR.mono X2 r1)) (PR.upd NS r2))
 rw[ag (fun z=>by rw[z,hp]at ha;cases ha)]
 exact X2 _ _ (X1 _ _ ha)
def zy{l:List Nat}(h:dR l=true):PyData.strOk (ai l)=true:=by
 have:=vb h
 refine mi (Iz.mpr fun c hc=>by have:=this c hc;omega) ?_
 unfold dR at h
 simp only[Qs,Qf]at h
 omega
def qx{z:Str}(h:dR (sg z)=true):PyData.strOk z=true:=by have:=zy h;rwa [show ai (sg z)=z from df z]at this
theorem mo{S:ap}:∀(vs:List PV),(∀v∈vs,∃d,Dat S v d/\d.canLay0=true)->∃ds,Hz S vs ds/\PyData.canLayAll0 ds=true
 |[],_=>⟨[],.nil,rfl⟩
 |v::vs,h=>by
  obtain⟨d,h1,h2⟩:=h v (by simp)
  obtain⟨ds,h3,h4⟩:=mo vs fun x hx=>h x (by simp[hx])
  refine⟨d::ds,.cons h1 h3,?_⟩
  show(d.canLay0&&PyData.canLayAll0 ds)=true
  rw[h2,h4];rfl
def b7{S:ap}{vs:List PV}(h:∀v∈vs,∃d,Dat S v d/\d.canLay0=true):∃d,Dat S (.tup vs) d/\d.canLay0=true:=by
 obtain⟨ds,h1,h2⟩:=mo vs h
 exact⟨.tuple ds,.tup h1,h2⟩
def GS{S:ap}{z:Str}(h:PyData.strOk z=true):∃d,Dat S (.str z) d/\d.canLay0=true:=⟨.str z,.str z,h⟩
def Ir{S:ap}(i:Int):∃d,Dat S (.int i) d/\d.canLay0=true:=⟨.int i,.int i,rfl⟩
theorem eX{S:ap}:∀t:Bd,VB t->∃d,Dat S t.pv d/\d.canLay0=true
 | .rest,_=>b7 (by intro v hv;rw[P1.mp hv];exact GS (by decide +kernel))
 | .pay x y,_=>b7 (by
   intro v hv
   simp only[PM,P7,Qx]at hv
   rcases hv with rfl|rfl
   ·exact GS (by decide +kernel)
   ·exact b7 (by intro v hv;simp only[PM,P7,Qx]at hv;rcases hv with rfl|rfl<;>exact Ir _))
 | .put z m,g=>b7 (by
   intro v hv
   simp only[PM,P7,Qx]at hv
   rcases hv with rfl|rfl|rfl
   ·exact GS (by decide +kernel)
   ·exact GS (qx g.1)
   ·exact Ir _)
 | .use z,g=>b7 (by
   intro v hv
   simp only[PM,P7,Qx]at hv
   rcases hv with rfl|rfl
   ·exact GS (by decide +kernel)
   ·exact GS (qx g))
 | .HN a,g=>b7 (by
   intro v hv
   simp only[PM,P7,Qx]at hv
   rcases hv with rfl|rfl
   ·exact GS (by decide +kernel)
   ·exact eX a g)
 | .GG a b,g=>b7 (by
   intro v hv
   simp only[PM,P7,Qx]at hv
   rcases hv with rfl|rfl|rfl
   ·exact GS (by decide +kernel)
   ·exact eX a g.1
   ·exact eX b g.2)
 | .HG a b,g=>b7 (by
   intro v hv
   simp only[PM,P7,Qx]at hv
   rcases hv with rfl|rfl|rfl
   ·exact GS (by decide +kernel)
   ·exact eX a g.1
   ·exact eX b g.2)
 | .HJ z m a b,g=>b7 (by
   intro v hv
   simp only[PM,P7,Qx]at hv
   rcases hv with rfl|rfl|rfl|rfl|rfl
   ·exact GS (by decide +kernel)
   ·exact GS (qx g.1)
   ·exact Ir _
   ·exact eX a g.2.2.2.1
   ·exact eX b g.2.2.2.2)
def B7{S:ap}{k:Kd}{p:Pt}(h:p.ok k):∃d,Dat S p.pv d/\d.canLay0=true:=by
 cases p with
 |b t=>cases k with
  |body=>exact eX t h
  |_=>exact h.elim
 |c x y=>exact b7 (by intro v hv;simp only[PM,P7,Qx]at hv;rcases hv with rfl|rfl<;>exact Ir _)
 |m k=>exact Ir _
 |n z=>cases k with
  |name=>exact GS (zy h)
  |_=>exact h.elim
def yB{S:ap}{k:Kd}{o:Option Pt}(h:∀p,o=some p->p.ok k):∃d,Dat S (qj o) d/\d.canLay0=true:=by
 cases o with
 |none=>exact⟨.none,.non,rfl⟩
 |some p=>exact B7 (h p rfl)
noncomputable def B8:PV->Bool
 | .non=>true
 |_=>false
def yC{S:ap}{v:PV}{d:PyData}(h:Dat S v d):d.eqv .none=B8 v:=by cases h<;>rfl
theorem vW{S:ap}:∀{vs:List PV} {ds:List PyData},Hz S vs ds->fu .none ds=vs.any B8
 |_,_,.nil=>rfl
 |_,_,.cons h hs=>by
  show(PyData.eqv _ .none || fu .none _)=_
  rw[yC h,vW hs];rfl
def B9(p:Pt):B8 p.pv=false:=by
 cases p with
 |b t=>cases t<;>rfl
 |_=>rfl
noncomputable def HV(ks:List Kd)(ts:List Tr):List PV:=(ks.zip ts).map fun q=>qj (mG q.1 (q.2,cJ q.2))
theorem nG:∀(ks:List Kd) (ts:List Tr),ts.length=ks.length->match kW ks (bofs ts)with
  |none=>(HV ks ts).any B8=true
  |some ps=>(HV ks ts).any B8=false/\ps.map Pt.pv=HV ks ts
 |[],ts,h=>by
  rw[kW]
  exact⟨rfl,rfl⟩
 |k::ks,[],h=>by simp at h
 |k::ks,t::ts,h=>by
  have ih:=nG ks ts (by simpa using h)
  rw[bofs,kW]
  have e:HV (k::ks) (t::ts)=qj (mG k (t,cJ t))::HV ks ts:=rfl
  rw[e]
  cases e1:mG k (t,cJ t)with
  |none=>simp[qj,B8]
  |some p=>
   cases e2:kW ks (bofs ts)with
   |none=>rw[e2]at ih;simp only[qj,List.any_cons,ih,Bool.or_true]
   |some ps=>
    rw[e2]at ih
    simp only[qj,List.any_cons,PL,B9,ih.1,Bool.or_false,Ro]
    rw[ih.2]
theorem k8{α:Type}{g:Tg}{te:aK}{σ':bM}{keep:ap->Prop}{fin:List PV->ap->Prop}(enc f:α->PV){S0:ap}(hk:∀S,Ext S0 S->keep S):∀(xs:List α) (ys:List PV) (S:ap),Ext S0 S->ys.length+xs.length<=1000->
  (∀x∈xs,∀S,Ext S0 S->∃σ2,g.put (enc x) σ'=some σ2/\∀K:bQ,(∀S',Ext S S'->K (f x) S')->te σ2 S K fF)->
  (∀S',Ext S0 S'->fin (ys++xs.map f) S')->cC g fG te σ' keep fin (xs.map enc) ys S
 |[],ys,S,X,hl,_,hf=>⟨hk S X,ln (m:=1000) (by simpa using hl),by simpa using hf S X⟩
 |x::r,ys,S,X,hl,h,hf=>by
  obtain⟨σ2,e,h1⟩:=h x (by simp) S X
  refine⟨hk S X,ln (m:=1000) (by simp at hl ⊢;omega),?_⟩
  rw[e]
  simp only[fG,Rj]
  refine h1 _ fun S' X'=>?_
  exact k8 enc f hk r (ys++[f x]) S' (X.trans X') (by simp at hl ⊢;omega) (fun y hy=>h y (by simp[hy])) fun S2 X2=>by simpa using hf S2 X2
abbrev Zz:=Kd×Tr×PV
noncomputable def DY(z:Zz):PV:=.tup [z.2.2,.str (Kd.ls z.1)]
noncomputable def zf(z:Zz):PV:=qj (mG z.1 (z.2.1,cJ z.2.1))
theorem zz{O:List Addr}{S:ap}:∀(ks:List Kd) (ts:List Tr) (vs:List PV),Hd O S ts vs->IE ts->ts.length=ks.length->∃zs:List Zz,dL vs ((ks.map Kd.ls).map PV.str)=zs.map DY/\zs.map zf=HV ks ts/\zs.length=ks.length/\∀z∈zs,RT O S z.2.1 z.2.2/\AW z.2.1/\dp z.2.1<=KK ts
 |[],ts,vs,h,_,hl=>by
  have:ts=[]:=QF.mp hl
  subst this
  rw[Hd]at h
  subst h
  exact⟨[],rfl,rfl,rfl,by simp⟩
 |k::ks,[],vs,h,_,hl=>by simp at hl
 |k::ks,t::ts,vs,h,a,hl=>by
  rw[Hd]at h
  rw[IE]at a
  obtain⟨v,w,rfl,h1,h2⟩:=h
  obtain⟨zs,e1,e2,e3,e4⟩:=zz ks ts w h2 a.2 (by simpa using hl)
  refine⟨(k,t,v)::zs,?_,?_,by simp[e3],?_⟩
  ·rw[PL,PL,PL,<-e1];rfl
  ·rw[PL,e2];rfl
  ·intro z hz
   rw[KK]
   rcases PM.mp hz with rfl|hz
   ·exact⟨h1,a.1,TX _ _⟩
   ·obtain⟨g1,g2,g3⟩:=e4 z hz
    exact⟨g1,g2,PZ g3 (Tt _ _)⟩
def RT.ext{S S':ap}(X:Ext S S'){T:Tr}{v:PV}(h:RT [] S T v):RT [] S' T v:=RT.map (fun a vs _ e=>⟨by simp,X _ _ e⟩) T v h
def Hd.ext{S S':ap}(X:Ext S S'){ts:List Tr}{vs:List PV}(h:Hd [] S ts vs):Hd [] S' ts vs:=Hd.map (fun a vs _ e=>⟨by simp,X _ _ e⟩) ts vs h
def DZ(v:PV)(vs:List PV):ci (v::vs) (some 1) none=vs:=by
 unfold ci
 simp[HT.GQ]
def D0(v:PV)(vs:List PV):ci (v::vs) none (some 1)=[v]:=by
 unfold ci
 simp[HT.GQ]
def FP{h:Str}{ks:List Kd}(e:tab.lookup h=some ks):ks.length<=4:=by
 have hm:=i6 e
 simp only[tab,PM,Uh,P7,Qx]at hm
 rcases hm with⟨rfl,rfl⟩|⟨rfl,rfl⟩|⟨rfl,rfl⟩|⟨rfl,rfl⟩|⟨rfl,rfl⟩|⟨rfl,rfl⟩|⟨rfl,rfl⟩<;>decide
def D_{l:List Nat}(h:l≠sg "rest"):cJ (.w l)=none:=by rw[cJ,if_neg h]
def vX:cJ (.n [])=none:=by rw[cJ,bofs];rfl
def vY(us ts:List Tr):cJ (.n (.n us::ts))=none:=by rw[cJ,bofs];rfl
theorem vZ(l:List Nat)(ts:List Tr):cJ (.n (.w l::ts))=match tab.lookup (ai l)with
  |some ks=>if ts.length=ks.length then (kW ks (bofs ts)).map (gw (ai l)) else none
  |none=>none:=by
 rw[cJ,bofs,vg]
 cases tab.lookup (ai l)with
 |none=>rfl
 |some ks=>dsimp only;rw[show(bofs ts).length=ts.length from by rw[eC,PY]]
def o6{ks:List Kd}{ts:List Tr}:∀v∈HV ks ts,∃k t,v=qj (mG k (t,cJ t)):=by
 intro v hv
 obtain⟨q,-,rfl⟩:=Qt.mp hv
 exact⟨_,_,rfl⟩
def yD{S:ap}(k:Kd)(t:Tr):∃d,Dat S (qj (mG k (t,cJ t))) d/\d.canLay0=true:=yB fun p hp=>vk (q:=(t,cJ t)) (fun u hu=>jV t u hu) hp
def yE{s0 s1:aG}(n:Nat)(ih:oZ n s0):qv (n+1) (bO 4 (bU s0 s1)):=by
 intro S T v Q E hT hA hd k
 unfold bU
 refine j9 ?_
 rw[show aA 4 [v]=[some v,none,none,none] from rfl]
 refine aw fun N hN=>?_
 cases T with
 |w l=>
  rw[RT]at hT
  subst hT
  have hA':nQ l:=hA
  simp only[bg,aL,am,v3,lk,c3,bE,Qn,Qf]
  by_cases h:l=sg "rest"
  ·subst h
   rw[if_pos (nu _)]
   have:=k S .refl
   rw[show cJ (.w (sg "rest"))=some .rest from by rw[cJ,if_pos rfl]]at this
   simp only[aC,bR,au,c3]
   exact this
  ·rw[if_neg (show ¬ai l = "rest" from fun e=>h (Qu sg e))]
   simp only[aQ]
   refine hN _ _ (nF (N:=af _ _ _) rfl fun p S1 kvs X1 f1 r1=>?_)
   refine aw fun N hN=>?_
   simp only[bg,gK,aL,aj,au,v3,lk,c3,fm,ow]
   refine⟨by decide,?_⟩
   rw[show cY "str" "str" = true by decide]
   walk_at "y"
   have:=k S1 X1
   rw[D_ h]at this
   exact this
 |n ts=>
  rw[AW]at hA
  obtain⟨dd,hd1,hd2⟩:=vT (.n ts) v hT (by rw[AW];exact hA)
  rw[RT]at hT
  obtain⟨a,vs,rfl,-,h1,h2⟩:=hT
  rw[dp]at hd
  have hl:=Hd.len h2
  simp only[bg,aL,am,v3,lk,c3,bE]
  refine⟨dd,.str _,hd1,.str _,hd2,by decide +kernel,PZ (Ui _ _) (by decide),?_⟩
  rw[show dd.eqv (.str "rest")=false from by cases hd1;rfl]
  walk_at "y"
  refine hN _ _ (nF (N:=af _ _ _) rfl fun p S1 kvs X1 f1 r1=>?_)
  have g1:=X1 _ _ h1
  have g2:=Hd.ext X1 h2
  refine aw fun N hN=>?_
  simp only[bg,gK,f7,aL,aj,au,v3,lk,c3,fm,ow,g1]
  refine⟨by decide,?_⟩
  rw[show cY "list" "str" = false by decide]
  simp only[bn,jo,g1,am,au,aj,v3,lk,c3,bE]
  cases ts with
  |nil=>
   rw[Hd]at g2
   subst g2
   walk_at "y"
   have:=k S1 X1
   rw[vX]at this
   have this:Q .non S1:=this
   simpa using this
  |cons t ts=>
   rw[Hd]at g2
   obtain⟨x,r,rfl,g3,g4⟩:=g2
   have hr:=Hd.len g4
   rw[show decide (((x::r).length:Int)=0)=false from P0 (by simp;omega)]
   walk_at "y"
   simp only[g1,uZ,fm]
   cases t with
   |n us=>
    rw[RT]at g3
    obtain⟨b,ws,rfl,-,g5,g6⟩:=g3
    simp only[ow,g5]
    refine⟨by decide,?_⟩
    rw[show cY "list" "str" = false by decide]
    walk_at "y"
    have:=k S1 X1
    rw[vY]at this
    exact this
   |w l=>
    rw[RT]at g3
    subst g3
    simp only[ow]
    refine⟨by decide,?_⟩
    rw[show cY "str" "str" = true by decide]
    walk_at "y"
    simp only[g1,uZ,jp,f1]
    have r2:=r1.at_ (h:=ai l)
    rw[Gu]at r2
    rw[vZ]at k
    cases e:tab.lookup (ai l)with
    |none=>
     rw[e]at r2 k
     rw[show(kvs.any fun kv=>decide (kv.1=Sum.inr (ai l)))=false from r2]
     walk_at "y"
     exact k S1 X1
    |some ks=>
     rw[e]at r2 k
     obtain⟨q,e1,e2,e3⟩:=r2
     have t4:=FP e
     rw[e3]
     walk_at "y"
     refine hN _ _ (aw fun N hN=>?_)
     simp only[av,am,v3,lk,c3,aD,g1,f1,uZ,lB,e1,List.set_cons_zero,List.set_cons_succ]
     refine hN _ _ (aw fun N hN=>?_)
     simp only[bg,aL,am,aj,au,v3,lk,c3,bn,jo,g1,e2,aH,bE]
     dsimp only at k
     by_cases hk:ts.length=ks.length
     ·rw[if_pos hk]at k
      rw[show decide (((PV.str (ai l)::r).length:Int)=((List.map PV.str (List.map Kd.ls ks)).length:Int)+1)=true from Qh (by simp;omega)]
      walk_at "y"
      refine hN _ _ (aw fun N hN=>?_)
      simp only[av,bS,uv,aU,gY,kj,v3,lk,c3,gZ,g1]
      intro p2 hp2
      have X2:=Ext.new (o:=.lst (ci (PV.str (ai l)::r) (some 1) none)) hp2
      have e2':=X2 _ _ e2
      rw[aa,e2']
      dsimp only
      rw[DZ]at X2 e2' ⊢
      rw[IE]at hA
      obtain⟨zs,z1,z2,z3,z4⟩:=zz ks ts r g4 hA.2 hk
      rw[z1]
      refine k8 (S0:=GC S1 p2 (.lst r)) DY zf (fun S' X'=>⟨X' _ _ aa,X' _ _ e2'⟩) zs [] _ .refl (by simp;omega) (fun z hz S3 X3=>⟨_,rfl,fun K kk=>?_⟩) fun S3 X3 p3 hp3=>?_
      ·obtain⟨y1,y2,y3⟩:=z4 z hz
       simp only[al,au,v3,lk]
       exact ih (RT.ext (X2.trans X3) y1) y2 (by rw[KK]at hd;omega) fun S4 X4=>kk S4 X4
      ·rw[Q0,z2]
       have X5:Ext S1 (GC S3 p3 (.lst (HV ks ts))):=(X2.trans X3).trans (Ext.new hp3)
       have f5:GC S3 p3 (.lst (HV ks ts)) p3=some (.lst (HV ks ts)):=aa
       have g5:=X5 _ _ g1
       generalize GC S3 p3 (.lst (HV ks ts))=S5 at X5 f5 g5 ⊢
       simp only[List.set_cons_zero,List.set_cons_succ]
       refine hN _ _ (aw fun N hN=>?_)
       obtain⟨ds,d1,d2⟩:=mo (S:=S5) (HV ks ts) fun v hv=>by obtain⟨k',t',rfl⟩:=o6 v hv;exact yD k' t'
       simp only[bg,aL,am,v3,lk,c3,jp,f5]
       refine⟨.none,ds,.non,d1,rfl,d2,by decide,?_⟩
       rw[vW d1]
       have ht:=nG ks ts hk
       cases e5:kW ks (bofs ts)with
       |none=>
        rw[e5]at ht k
        rw[show(HV ks ts).any B8=true from ht]
        walk_at "y"
        exact k S5 (X1.trans X5)
       |some ps=>
        rw[e5]at ht k
        rw[ht.1]
        walk_at "y"
        refine hN _ _ ?_
        simp only[aC,aj,au,am,aU,gY,kj,v3,lk,c3,gZ,g5]
        intro p6 MZ
        rw[D0]
        have X6:=Ext.new (o:=.lst [PV.str (ai l)]) MZ
        have f6:=X6 _ _ f5
        simp only[aH,aa,f6]
        have hl5:(HV ks ts).length<=4:=by rw[<-ht.2,PY];unfold HV at ht;have:=Qu List.length ht.2;simp at this;omega
        refine⟨ln (m:=1000) (by simp;omega),fun p7 NQ=>?_⟩
        simp only[cL,jo,aa]
        have:=k _ ((X1.trans X5).trans (X6.trans (Ext.new (o:=.lst ([PV.str (ai l)]++HV ks ts)) NQ)))
        have hv:=(jN e (l7 (by rw[eC,PY];exact hk) (IN ts) e5)).2.2
        have e8:qu ((some ps).map (gw (ai l))) = .tup ([PV.str (ai l)]++HV ks ts):=by show(gw (ai l) ps).pv=_;rw[hv,ht.2];rfl
        rw[e8]at this
        exact this
     ·rw[if_neg hk]at k
      rw[show decide (((PV.str (ai l)::r).length:Int)=((List.map PV.str (List.map Kd.ls ks)).length:Int)+1)=false from P0 (by simp;omega)]
      walk_at "y"
      exact k S1 X1
def B_(T:Tr):1<=dp T:=by cases T<;>rw[dp]<;>omega
theorem zA(JF:qm bA)(Kl:qt bz):∀n,oZ n (cq n)/\qv n (bV n)
 |0=>⟨fun _ _ h=>by omega,fun{_ T} _ _ _ _ _ h=>by have:=B_ T;omega⟩
 |n+1=>let ⟨h0,h1⟩:=zA JF Kl n;⟨fun{_ _ _ _ _ E}=>vS (s0:=cq n) (E:=E) JF Kl n h1,fun{_ _ _ _ E}=>yE (s1:=bV n) (E:=E) n h0⟩
end G09
namespace T9
open PySem PySem.NumText T5 T7 C Wd L3
noncomputable def Rn(se cn:Nat->Bool)(m:Nat):Nat->List Nat->Prop
 |_,[]=>True
 |k,c::l=>if se c then Rn se cn m 0 l else if cn c then k+1<=m/\Rn se cn m (k+1) l else Rn se cn m k l
noncomputable def fi(se cn:Nat->Bool):Nat->List Nat->Nat
 |k,[]=>k
 |k,c::l=>if se c then fi se cn 0 l else if cn c then fi se cn (k+1) l else fi se cn k l
section
variable {se cn:Nat->Bool} {m:Nat}
theorem HW:∀{k:Nat} {x y:List Nat},Rn se cn m k (x++y)↔Rn se cn m k x/\Rn se cn m (fi se cn k x) y
 |k,[],y=>by simp[Rn,fi]
 |k,c::x,y=>by
  rw[Rh,Rn,Rn,fi]
  by_cases h:se c=true
  ·rw[if_pos h,if_pos h,if_pos h];exact HW
  ·rw[if_neg h,if_neg h,if_neg h]
   by_cases h2:cn c=true
   ·rw[if_pos h2,if_pos h2,if_pos h2,HW,and_assoc]
   ·rw[if_neg h2,if_neg h2,if_neg h2];exact HW
theorem bb{m':Nat}:∀{k k':Nat} {x:List Nat},Rn se cn m k x->m<=m'->k'+m<=k+m'->Rn se cn m' k' x
 |k,k',[],_,_,_=>by rw[Rn];trivial
 |k,k',c::x,h,hm,hk=>by
  rw[Rn]at h ⊢
  by_cases hs:se c=true
  ·rw[if_pos hs]at h ⊢;exact bb h hm (by omega)
  ·rw[if_neg hs]at h ⊢
   by_cases hc:cn c=true
   ·rw[if_pos hc]at h ⊢;exact⟨by omega,bb h.2 hm (by omega)⟩
   ·rw[if_neg hc]at h ⊢;exact bb h hm hk
theorem qy:∀{k:Nat} {x:List Nat},Rn se cn m k x->k<=m->fi se cn k x<=m
 |k,[],_,hk=>by rw[fi];exact hk
 |k,c::x,h,hk=>by
  rw[Rn]at h
  rw[fi]
  by_cases hs:se c=true
  ·rw[if_pos hs]at h ⊢;exact qy h (Qc _)
  ·rw[if_neg hs]at h ⊢
   by_cases hc:cn c=true
   ·rw[if_pos hc]at h ⊢;exact qy h.2 h.1
   ·rw[if_neg hc]at h ⊢;exact qy h hk
def mq{a b:Nat}{x y:List Nat}(h1:Rn se cn a 0 x)(h2:Rn se cn b 0 y)(hm:a+b<=m):Rn se cn m 0 (x++y):=HW.mpr ⟨bb h1 (by omega) (by omega),bb h2 (by omega) (by have:=qy h1 (Qc _);omega)⟩
def mr{c:Nat}{x y:List Nat}(hc:se c=true):Rn se cn m 0 (x++c::y)↔Rn se cn m 0 x/\Rn se cn m 0 y:=by
 rw[HW,show Rn se cn m (fi se cn 0 x) (c::y)=Rn se cn m 0 y from by rw[Rn,if_pos hc]]
def v5{x y:List Nat}(h:Rn se cn m 0 (x++y)):Rn se cn m 0 y:=bb (HW.mp h).2 (PN _) (by omega)
def qz{x:List Nat}(n:Nat)(h:Rn se cn m 0 x):Rn se cn m 0 (x.take n):=by rw[<-Rf n x]at h;exact(HW.mp h).1
def qA{x:List Nat}(n:Nat)(h:Rn se cn m 0 x):Rn se cn m 0 (x.drop n):=by rw[<-Rf n x]at h;exact v5 h
def Ca{c:Nat}(h:1<=m):Rn se cn m 0 [c]:=by
 rw[Rn];split
 ·trivial
 ·split
  ·exact⟨h,trivial⟩
  ·trivial
theorem iI{c:Nat}(hc:se c=true):∀W:List (List Nat),Rn se cn m 0 (gl [c] W)↔∀w∈W,Rn se cn m 0 w
 |[]=>by simp[gl,Rn]
 |[p]=>by rw[bp];simp
 |p::q::W=>by
  rw[aX [c] p (by simp),Qp,QU,mr hc,iI hc (q::W)]
  simp
end
noncomputable def v7(c:Nat):Bool:=c == 32 || c == 40 || c == 41
noncomputable def cy(_:Nat):Bool:=true
noncomputable def ip(c:Nat):Bool:=c == 32
noncomputable def o7(c:Nat):Bool:=c == 40
structure TM (n m b B:Nat) (l:List Nat):Prop where
 len:l.length<=n
 vd:∀c∈l,c < 256
 ru:Rn v7 cy m 0 l
 br:Rn ip o7 b 0 l
 ct:l.count 40<=B
def TM.mono{n m b B n' m' b' B':Nat}{l:List Nat}(h:TM n m b B l)(h1:n<=n')(h2:m<=m')(h3:b<=b')(h4:B<=B'):TM n' m' b' B' l:=
 ⟨PZ h.len h1,h.vd,bb h.ru h2 (by omega),bb h.br h3 (by omega),PZ h.ct h4⟩
def TM.sign{n m b B i j:Nat}{l s:List Nat}(h:TM n m b B l)(hs:s.length<=1)(hv:∀c∈s,c < 256)(hij:i<=j):TM (n+1) (2 * m+1) (2 * b+1) (B+1) (l.take i++s++l.drop j):=by
 have rs:∀{se cn:Nat->Bool},Rn se cn 1 0 s:=by
  intro se cn
  match s,hs with
  |[],_=>rw[Rn];trivial
  |[c],_=>exact Ca (PN _)
 have e:(l.drop j).length<=(l.drop i).length:=by simp;omega
 have el:(l.take i).length+(l.drop i).length=l.length:=by rw[<-PX,Rf]
 have hl:=h.len
 refine⟨by simp only[PX];omega,?_,mq (mq (qz i h.ru) rs (PN _)) (qA j h.ru) (by omega),mq (mq (qz i h.br) rs (PN _)) (qA j h.br) (by omega),?_⟩
 ·intro c hc
  rcases Qe.mp hc with hc|hc
  ·rcases Qe.mp hc with hc|hc
   ·exact h.vd c (TH hc)
   ·exact hv c hc
  ·exact h.vd c (R9 hc)
 ·have e1:l.count 40=(l.take i).count 40+(l.drop i).count 40:=by rw[<-Qq,Rf]
  have e2:(l.drop j).count 40<=(l.drop i).count 40:=by
   obtain⟨k,rfl⟩:=Nat.le.dest hij
   rw[<-List.drop_drop]
   exact(List.drop_sublist _ _).count_le _
  have e3:s.count 40<=1:=PZ List.count_le_length hs
  have:=h.ct
  rw[Qq,Qq]
  omega
theorem bH(c:Nat):∀W:List (List Nat),W≠[]->(gl [c] W).length+1=(W.map fun w=>w.length+1).sum
 |[],h=>absurd rfl h
 |[p],_=>by rw[bp];simp
 |p::q::W,_=>by
  have:=bH c (q::W) (by simp)
  rw[aX [c] p (by simp),PL,RY,<-this]
  simp only[PX,List.length_singleton]
  omega
theorem j5:∀W:List (List Nat),(gl [32] W).count 40=(W.map fun w=>w.count 40).sum
 |[]=>rfl
 |[p]=>by rw[bp];simp
 |p::q::W=>by
  have:=j5 (q::W)
  rw[aX [32] p (by simp),PL,RY,<-this]
  simp only[Qq]
  rw[show[32].count 40=0 from by decide]
  omega
theorem o8{c x:Nat}:∀{W:List (List Nat)},x∈gl [c] W->x=c\/∃w∈W,x∈w
 |[],h=>by cases h
 |[p],h=>by rw[bp]at h;exact .inr ⟨p,by simp,h⟩
 |p::q::W,h=>by
  rw[aX [c] p (by simp),Qp]at h
  rcases Qe.mp h with h|h
  ·exact .inr ⟨p,by simp,h⟩
  ·rcases PM.mp h with h|h
   ·exact .inl h
   ·rcases o8 h with h|⟨w,h1,h2⟩
    ·exact .inl h
    ·exact .inr ⟨w,P4 _ h1,h2⟩
theorem o9{c x:Nat}{w:List Nat}:∀{W:List (List Nat)},w∈W->x∈w->x∈gl [c] W
 |[p],h1,h2=>by rw[bp];rw[P1.mp h1]at h2;exact h2
 |p::q::W,h1,h2=>by
  rw[aX [c] p (by simp),Qp]
  rcases PM.mp h1 with rfl|h1
  ·exact QW _ h2
  ·exact QD _ (P4 _ (o9 h1 h2))
theorem o_{b:Nat}:∀{k:Nat} {w:List Nat},32 ∉ w->Rn ip o7 b k w->k<=b->k+w.count 40<=b
 |k,[],_,_,h=>by simpa using h
 |k,c::w,h1,h2,h3=>by
  rw[Rn]at h2
  have hc:¬ip c=true:=fun e=>by
   have:c=32:=by simpa [ip]using e
   exact h1 (by rw[this];simp)
  rw[if_neg hc]at h2
  by_cases h4:o7 c=true
  ·rw[if_pos h4]at h2
   have e:c=40:=by simpa [o7]using h4
   have:=o_ (fun h=>h1 (P4 _ h)) h2.2 h2.1
   rw[e,QZ]
   omega
  ·rw[if_neg h4]at h2
   have e:c≠40:=by simpa [o7]using h4
   rw[Ti e]
   exact o_ (fun h=>h1 (P4 _ h)) h2 h3
theorem pf(c:Nat):∀(l:List Nat),∀w∈GL c l,c ∉ w
 |[],w,h=>by rw[GL]at h;rw[P1.mp h];simp
 |d::l,w,h=>by
  have ih:=pf c l
  rw[GL]at h
  split at h
  ·rcases PM.mp h with rfl|h
   ·simp
   ·exact ih w h
  ·rename_i hd
   split at h
   ·rw[P1.mp h];simp[QK hd]
   ·rename_i p q e
    rw[e]at ih
    rcases PM.mp h with rfl|h
    ·have:=ih p (by simp)
     simp[QK hd,this]
    ·exact ih w (by simp[h])
end T9
namespace G09
open PySem PySem.NumText C CX T5 T7 T9 Wd L3
def fc(c:Nat)(l:List Nat):rq (c::l)=(if c=40 then [40,32] else if c=41 then [32,41] else [c])++rq l:=by
 have:=lV [c] l
 rw[QU]at this
 rw[this]
 congr 1
 by_cases h:c=40
 ·subst h;rfl
 ·by_cases h2:c=41
  ·subst h2;rfl
  ·rw[if_neg h,if_neg h2]
   simp[rq,rp,h,h2]
def ms(c:Nat)(l:List Nat):rr (c::l)=(if c=40 then [32,40,32] else if c=41 then [32,41,32] else [c])++rr l:=by
 have:=jU [c] l
 rw[QU]at this
 rw[this]
 congr 1
 by_cases h:c=40
 ·subst h;rfl
 ·by_cases h2:c=41
  ·subst h2;rfl
  ·rw[if_neg h,if_neg h2]
   simp[rr,rp,h,h2]
def s3{c:Nat}:v7 c=true↔c=32\/c=40\/c=41:=by simp[v7,or_assoc]
def s1{c:Nat}:ip c=true↔c=32:=by simp[ip]
def a1(c:Nat):cy c=true:=rfl
theorem nH{m:Nat}:∀{k:Nat} {l:List Nat},Rn v7 cy m k l->k<=m->Rn ip cy (m+2) (k+1) (rq l)
 |k,[],_,_=>by show Rn ip cy (m+2) (k+1) [];rw[Rn];trivial
 |k,c::l,h,hk=>by
  rw[fc]
  rw[Rn]at h
  by_cases h4:c=40
  ·rw[if_pos (s3.mpr (by omega))]at h
   rw[if_pos h4]
   show Rn ip cy (m+2) (k+1) (40::32::rq l)
   rw[Rn,if_neg (by decide),if_pos (a1 _),Rn,if_pos (by decide)]
   exact⟨by omega,bb (nH h (Qc _)) (PN _) (by omega)⟩
  ·rw[if_neg h4]
   by_cases h5:c=41
   ·rw[if_pos (s3.mpr (by omega))]at h
    rw[if_pos h5]
    show Rn ip cy (m+2) (k+1) (32::41::rq l)
    rw[Rn,if_pos (by decide),Rn,if_neg (by decide),if_pos (a1 _)]
    exact⟨by omega,nH h (Qc _)⟩
   ·rw[if_neg h5]
    show Rn ip cy (m+2) (k+1) (c::rq l)
    by_cases h6:c=32
    ·rw[if_pos (s3.mpr (by omega))]at h
     rw[Rn,if_pos (s1.mpr h6)]
     exact bb (nH h (Qc _)) (PN _) (by omega)
    ·rw[if_neg (fun e=>by rcases s3.mp e with e|e|e<;>omega),if_pos (a1 _)]at h
     rw[Rn,if_neg (fun e=>h6 (s1.mp e)),if_pos (a1 _)]
     exact⟨by omega,nH h.2 h.1⟩
theorem nI{m:Nat}(h1:1<=m):∀{k:Nat} {l:List Nat},Rn v7 cy m k l->Rn ip cy m k (rr l)
 |k,[],_=>by show Rn ip cy m k [];rw[Rn];trivial
 |k,c::l,h=>by
  rw[ms]
  rw[Rn]at h
  by_cases h4:c=40
  ·rw[if_pos (s3.mpr (by omega))]at h
   rw[if_pos h4]
   show Rn ip cy m k (32::40::32::rr l)
   rw[Rn,if_pos (by decide),Rn,if_neg (by decide),if_pos (a1 _),Rn,if_pos (by decide)]
   exact⟨by omega,nI h1 h⟩
  ·rw[if_neg h4]
   by_cases h5:c=41
   ·rw[if_pos (s3.mpr (by omega))]at h
    rw[if_pos h5]
    show Rn ip cy m k (32::41::32::rr l)
    rw[Rn,if_pos (by decide),Rn,if_neg (by decide),if_pos (a1 _),Rn,if_pos (by decide)]
    exact⟨by omega,nI h1 h⟩
   ·rw[if_neg h5]
    show Rn ip cy m k (c::rr l)
    by_cases h6:c=32
    ·rw[if_pos (s3.mpr (by omega))]at h
     rw[Rn,if_pos (s1.mpr h6)]
     exact nI h1 h
    ·rw[if_neg (fun e=>by rcases s3.mp e with e|e|e<;>omega),if_pos (a1 _)]at h
     rw[Rn,if_neg (fun e=>h6 (s1.mp e)),if_pos (a1 _)]
     exact⟨h.1,nI h1 h.2⟩
theorem v8{m:Nat}:∀{k:Nat} {w:List Nat},32 ∉ w->Rn ip cy m k w->k<=m->k+w.length<=m
 |k,[],_,_,h=>by simpa using h
 |k,c::w,h1,h2,h3=>by
  rw[Rn,if_neg (fun e=>h1 (by rw[s1.mp e];simp)),if_pos (a1 _)]at h2
  have:=v8 (fun h=>h1 (P4 _ h)) h2.2 h2.1
  rw[Qa]
  omega
def Cb{m:Nat}{l:List Nat}(h:Rn ip cy m 0 l):∀w∈GL 32 l,w.length<=m:=fun w hw=>by
 rw[<-hV 32 l]at h
 have:=v8 (pf 32 l w hw) ((iI (by decide) _).mp h w hw) (Qc _)
 omega
theorem mv{m:Nat}:∀{run l:List Nat},run.length<=m->Rn ip cy m run.length l->∀w∈HP run l,w.length<=m
 |run,[],hr,_,w,hw=>by
  rw[HP]at hw
  split at hw
  ·cases hw
  ·rw[P1.mp hw];exact hr
 |run,c::l,hr,h,w,hw=>by
  have h0:Unicode.isSpace c=true->Rn ip cy m 0 l:=fun _=>by
   rw[Rn]at h
   split at h
   ·exact h
   ·rw[if_pos (a1 _)]at h;exact bb h.2 (PN _) (by omega)
  rw[HP]at hw
  split at hw
  ·rename_i hs
   split at hw
   ·exact mv (run:=[]) (Qc _) (h0 hs) w hw
   ·rcases PM.mp hw with rfl|hw
    ·exact hr
    ·exact mv (run:=[]) (Qc _) (h0 hs) w hw
  ·rename_i hs
   have hc:c≠32:=fun e=>hs (by rw[e];rfl)
   rw[Rn,if_neg (fun e=>hc (s1.mp e)),if_pos (a1 _)]at h
   exact mv (run:=run++[c]) (by simp;exact h.1) (by simpa using h.2) w hw
theorem i9{x:Nat}:∀{run l:List Nat} {w:List Nat},w∈HP run l->x∈w->x∈run\/x∈l
 |run,[],w,hw,hx=>by
  rw[HP]at hw
  split at hw
  ·cases hw
  ·rw[P1.mp hw]at hx;exact .inl hx
 |run,c::l,w,hw,hx=>by
  rw[HP]at hw
  split at hw
  ·split at hw
   ·rcases i9 hw hx with h|h
    ·cases h
    ·exact .inr (P4 _ h)
   ·rcases PM.mp hw with rfl|hw
    ·exact .inl hx
    ·rcases i9 hw hx with h|h
     ·cases h
     ·exact .inr (P4 _ h)
  ·rcases i9 hw hx with h|h
   ·rcases Qe.mp h with h|h
    ·exact .inl h
    ·exact .inr (by rw[P1.mp h];simp)
   ·exact .inr (P4 _ h)
def Cc(W:List (List Nat)):W.count [40]<=(W.map fun w=>w.count 40).sum:=by
 induction W with
 |nil=>simp
 |cons w W ih=>
  rw[PL,RY]
  by_cases h:w=[40]
  ·subst h
   rw[QZ,show[40].count 40=1 from by decide]
   omega
  ·rw[Ti h];omega
def yF(l:List Nat):(GL 32 l).count [40]<=l.count 40:=by
 have:=Cc (GL 32 l)
 rw[<-j5,hV]at this
 exact this
theorem mw:∀(run l:List Nat),(HP run l).count [40]<=(run++l).count 40
 |run,[]=>by
  rw[HP,Qv]
  split
  ·simp
  ·have:=Cc [run];simpa using this
 |run,c::l=>by
  rw[HP]
  have h1:=mw [] l
  have h2:=mw (run++[c]) l
  have h3:=Cc [run]
  rw[PL,Qm,RY,List.sum_nil,Nat.add_zero]at h3
  rw[Q0]at h1
  rw[Qp,QU]at h2
  have h4:l.count 40<=(c::l).count 40:=(List.sublist_cons_self _ _).count_le _
  rw[Qq]at h2 ⊢
  split
  ·split
   ·omega
   ·have:(run::HP [] l).count [40]=[run].count [40]+(HP [] l).count [40]:=by rw[<-Qq];rfl
    rw[this]
    omega
  ·exact h2
theorem v9:∀l:List Nat,(rq l).count 40=l.count 40
 |[]=>rfl
 |c::l=>by
  rw[fc,Qq,v9 l,show(c::l).count 40=[c].count 40+l.count 40 from by rw[<-Qq];rfl]
  congr 1
  by_cases h:c=40
  ·subst h;rfl
  ·rw[if_neg h]
   by_cases h2:c=41
   ·subst h2;rfl
   ·rw[if_neg h2]
theorem v_:∀l:List Nat,(rr l).count 40=l.count 40
 |[]=>rfl
 |c::l=>by
  rw[ms,Qq,v_ l,show(c::l).count 40=[c].count 40+l.count 40 from by rw[<-Qq];rfl]
  congr 1
  by_cases h:c=40
  ·subst h;rfl
  ·rw[if_neg h]
   by_cases h2:c=41
   ·subst h2;rfl
   ·rw[if_neg h2]
theorem zB:∀{l:List Nat},(∀c∈l,c < 256)->∀c∈rq l,c < 256
 |[],_,c,hc=>by cases hc
 |d::l,h,c,hc=>by
  rw[fc]at hc
  rcases Qe.mp hc with hc|hc
  ·split at hc
   ·simp at hc;omega
   ·split at hc
    ·simp at hc;omega
    ·rw[P1.mp hc];exact h d (by simp)
  ·exact zB (fun x hx=>h x (by simp[hx])) c hc
theorem zC:∀{l:List Nat},(∀c∈l,c < 256)->∀c∈rr l,c < 256
 |[],_,c,hc=>by cases hc
 |d::l,h,c,hc=>by
  rw[ms]at hc
  rcases Qe.mp hc with hc|hc
  ·split at hc
   ·simp at hc;omega
   ·split at hc
    ·simp at hc;omega
    ·rw[P1.mp hc];exact h d (by simp)
  ·exact zC (fun x hx=>h x (by simp[hx])) c hc
theorem zD:∀(l:List Nat),∀p∈sp l,p.length<=l.length
 |[],p,h=>by rw[sp]at h;rw[P1.mp h];simp
 |c::l,p,h=>by
  have ih:=zD l
  rw[sp]at h
  split at h
  ·rcases PM.mp h with rfl|h
   ·simp
   ·have:=ih p h;simp;omega
  ·split at h
   ·rw[P1.mp h];simp
   ·rename_i q r e
    rw[e]at ih
    rcases PM.mp h with rfl|h
    ·have:=ih q (by simp);simp;omega
    ·have:=ih p (by simp[h]);simp;omega
def F5{w:List Nat}(h:w.length<=60)(hv:∀c∈w,c < 256):nQ w:=⟨⟨by omega,fun p hp=>PZ (zD w p hp) h⟩,Iz.mpr hv⟩
abbrev TF(l:List Nat):Prop:=TM 10000 55 15 35 l
def TF.ok{l:List Nat}(h:TF l):BV l:=by
 refine⟨h.len,Iz.mpr h.vd,fun w hw=>?_,?_⟩
 ·refine F5 (PZ (Cb (bb (nH h.ru (Qc _)) (PN _) (by omega)) w hw) (by decide)) fun c hc=>?_
  have:c∈rq l:=by rw[<-hV 32 (rq l)];exact o9 hw hc
  exact zB h.vd c this
 ·have:=yF (rq l)
  rw[v9]at this
  have h2:=h.ct
  show(GL 32 (rq l)).count [40] < 36
  omega
theorem TF.toks{l:List Nat}(h:TF l):(∀w∈toks l,nQ w)/\(T9.toks l).count [40]<=35:=by
 refine⟨fun w hw=>?_,?_⟩
 ·refine F5 (PZ (mv (run:=[]) (Qc _) (nI (by decide) h.ru) w hw) (by decide)) fun c hc=>?_
  rcases i9 hw hc with h'|h'
  ·cases h'
  ·exact zC h.vd c h'
 ·have:=mw [] (rr l)
  rw[Q0,v_]at this
  exact PZ this h.ct
mutual
noncomputable def nb:Tr->Nat
 | .w _=>0
 | .n ts=>nbs ts+1
noncomputable def nbs:List Tr->Nat
 |[]=>0
 |t::ts=>nb t+nbs ts
end
theorem mx:∀(a b:List Tr),nbs (a++b)=nbs a+nbs b
 |[],b=>by rw[Q0,nbs,SW]
 |t::a,b=>by rw[Rh,nbs,nbs,mx a b];omega
theorem my:∀{a b:List Tr},IE a->IE b->IE (a++b)
 |[],b,_,h=>h
 |t::a,b,h,h'=>by rw[IE]at h;rw[Rh,IE];exact⟨h.1,my h.2 h'⟩
noncomputable def mu(st:List (List Tr)):Nat:=(st.map nbs).sum+st.length
def cU(ts:List Tr)(st:List (List Tr)):mu (ts::st)=nbs ts+1+mu st:=by simp[mu];omega
def Cd{w:List Nat}{st st':List (List Tr)}(h:oU w st=some st')(hw:nQ w):mu st'=mu st+(if w=[40] then 1 else 0)/\((∀ts∈st,IE ts)->∀ts∈st',IE ts):=by
 unfold oU at h
 split at h
 ·cases h
  rw[if_pos ‹_›,cU,nbs]
  exact⟨by omega,fun g ts hts=>by
   rcases PM.mp hts with rfl|hts
   ·rw[IE];trivial
   ·exact g ts hts⟩
 ·rw[if_neg ‹_›]
  split at h
  ·split at h
   ·cases h
    rw[cU,cU,cU,mx,nbs,nbs,nb]
    exact⟨by omega,fun g ts hts=>by
     rcases PM.mp hts with rfl|hts
     ·exact my (g _ (by simp)) (by rw[IE,IE,AW];exact⟨g _ (by simp),trivial⟩)
     ·exact g ts (by simp[hts])⟩
   ·cases h
  ·split at h
   ·cases h
    rw[cU,cU,mx,nbs,nbs,nb]
    exact⟨by omega,fun g ts hts=>by
     rcases PM.mp hts with rfl|hts
     ·exact my (g _ (by simp)) (by rw[IE,IE,AW];exact⟨hw,trivial⟩)
     ·exact g ts (by simp[hts])⟩
   ·cases h
theorem qB:∀{W:Ws} {st st':List (List Tr)},fo W st=some st'->(∀w∈W,nQ w)->mu st'=mu st+W.count [40]/\((∀ts∈st,IE ts)->∀ts∈st',IE ts)
 |[],st,st',h,_=>by rw[fo]at h;cases h;exact⟨by simp,fun g=>g⟩
 |w::W,st,st',h,hW=>by
  rw[fo]at h
  split at h
  ·rename_i st1 e
   obtain⟨a1,a2⟩:=Cd e (hW w (by simp))
   obtain⟨b1,b2⟩:=qB h fun x hx=>hW x (by simp[hx])
   refine⟨?_,fun g=>b2 (a2 g)⟩
   rw[b1,a1]
   by_cases hw:w=[40]
   ·subst hw;rw[if_pos rfl,QZ];omega
   ·rw[if_neg hw,Ti hw];omega
  ·cases h
theorem TF.tree{l:List Nat}{T:Tr}(h:TF l)(e:tree l=some T):AW T/\nb T<=35:=by
 obtain⟨h1,h2⟩:=h.toks
 unfold T9.tree BM at e
 split at e
 ·rename_i e1
  cases e
  obtain⟨b1,b2⟩:=qB e1 h1
  have:=b2 (by intro ts hts;rw[P1.mp hts,IE];trivial) [T] (by simp)
  rw[IE]at this
  refine⟨this.1,?_⟩
  rw[cU,cU,nbs,nbs,nbs]at b1
  omega
 ·cases e
mutual
theorem wa:∀T:Tr,dp T<=nb T+1
 | .w _=>by rw[dp,nb];omega
 | .n ts=>by rw[dp,nb];have:=KL ts;omega
theorem KL:∀ts:List Tr,KK ts<=nbs ts+1
 |[]=>by rw[KK,nbs];omega
 |t::ts=>by rw[KK,nbs];have:=wa t;have:=KL ts;omega
end
end G09
namespace G09
open PySem L2 L3 Wd
open C CX T5 T7 T9 PySem.NumText
noncomputable def CB:Bd->Prop
 | .pay x y=>x.natAbs < 10 ^ 60/\y.natAbs < 10 ^ 60
 | .HN a=>CB a
 | .GG a b=>CB a/\CB b
 | .HG a b=>CB a/\CB b
 | .HJ _ _ a b=>CB a/\CB b
 |_=>True
def EG{z:Str}(h:dR (sg z)=true):(sg z).length<=6:=by
 unfold dR at h
 simp only[Qs,Qf]at h
 omega
theorem iJ{ws:Vs}:∀{t:Bd},VB t->CB t->t.gb ws
 | .rest,_,_=>trivial
 | .pay x y,_,h=>h
 | .put z m,g,_=>⟨EG g.1,g.2⟩
 | .use z,g,_=>EG g
 | .HN a,g,h=>iJ (t:=a) g h
 | .GG a b,g,h=>⟨iJ g.1 h.1,iJ g.2 h.2⟩
 | .HG a b,g,h=>⟨iJ g.1 h.1,iJ g.2 h.2⟩
 | .HJ z m a b,g,h=>⟨EG g.1,g.2.1,g.2.2.1,iJ g.2.2.2.1 h.1,iJ g.2.2.2.2 h.2⟩
noncomputable def wC:Pt->Nat
 | .b t=>t.size
 |_=>0
noncomputable def zE:Pt->Nat
 | .b _=>1
 |_=>0
noncomputable def yG:Pt->Nat
 | .b t=>t.dep
 |_=>0
noncomputable def Cu:Pt->Prop
 | .b t=>CB t
 | .c x y=>x < 10 ^ 60/\y < 10 ^ 60
 |_=>True
noncomputable def Ce(ps:List Pt):Nat:=(ps.map wC).sum
noncomputable def yH(ps:List Pt):Nat:=(ps.map zE).sum
noncomputable def zF:List Pt->Nat
 |[]=>0
 |p::ps=>max (yG p) (zF ps)
structure FQ (t:Bd) (ps:List Pt):Prop where
 sz:t.size=Ce ps+1
 no:yH ps<=2
 dp:t.dep<=zF ps+1
 cb:(∀p∈ps,Cu p)->CB t
def Ea{h:Str}{ks:List Kd}{ps:List Pt}(e:tab.lookup h=some ks)(g:sJ ks ps):FQ (gw h ps) ps:=by
 have hm:=i6 e
 simp only[tab,PM,Uh,P7,Qx]at hm
 rcases hm with⟨rfl,rfl⟩|⟨rfl,rfl⟩|⟨rfl,rfl⟩|⟨rfl,rfl⟩|⟨rfl,rfl⟩|⟨rfl,rfl⟩|⟨rfl,rfl⟩
 ·cases g with
  |@cons _ p _ _ h1 g=>cases g;cases p with
   |c x y=>exact⟨rfl,Qc _,PN _,fun k=>by have:=k _ (P1.mpr rfl);exact⟨this.1,this.2⟩⟩
   |_=>exact h1.elim
 ·cases g with
  |@cons _ p _ _ h1 g=>cases g with
   |@cons _ q _ _ h2 g=>cases g;cases p with
    |n z=>cases q with
     |m k=>exact⟨rfl,Qc _,PN _,fun _=>trivial⟩
     |_=>exact h2.elim
    |_=>exact h1.elim
 ·cases g with
  |@cons _ p _ _ h1 g=>cases g with
   |@cons _ q _ _ h2 g=>cases g;cases p with
    |b a=>cases q with
     |b c=>exact⟨by simp[gw,Bd.size,Ce,wC],by simp[yH,zE],by simp[gw,Bd.dep,zF,yG],fun k=>⟨k (.b a) (by simp),k (.b c) (by simp)⟩⟩
     |_=>exact h2.elim
    |_=>exact h1.elim
 ·cases g with
  |@cons _ p _ _ h1 g=>cases g with
   |@cons _ q _ _ h2 g=>cases g;cases p with
    |b a=>cases q with
     |b c=>
      have:gw "either" [.b a,.b c] = .HG a c:=by rw[gw,if_neg (by simp[bi])]
      rw[this]
      exact⟨by simp[Bd.size,Ce,wC],by simp[yH,zE],by simp[Bd.dep,zF,yG],fun k=>⟨k (.b a) (by simp),k (.b c) (by simp)⟩⟩
     |_=>exact h2.elim
    |_=>exact h1.elim
 ·cases g with
  |@cons _ p _ _ h1 g=>cases g with
   |@cons _ q _ _ h2 g=>cases g with
    |@cons _ r _ _ h3 g=>cases g with
     |@cons _ s _ _ h4 g=>cases g;cases p with
      |n z=>cases q with
       |m k=>cases r with
        |b a=>cases s with
         |b c=>exact⟨by simp[gw,Bd.size,Ce,wC],by simp[yH,zE],by simp[gw,Bd.dep,zF,yG],fun k=>⟨k (.b a) (by simp),k (.b c) (by simp)⟩⟩
         |_=>exact h4.elim
        |_=>exact h3.elim
       |_=>exact h2.elim
      |_=>exact h1.elim
 ·cases g with
  |@cons _ p _ _ h1 g=>cases g;cases p with
   |b a=>exact⟨by simp[gw,Bd.size,Ce,wC],by simp[yH,zE],by simp[gw,Bd.dep,zF,yG],fun k=>k (.b a) (by simp)⟩
   |_=>exact h1.elim
 ·cases g with
  |@cons _ p _ _ h1 g=>cases g;cases p with
   |n z=>exact⟨rfl,Qc _,PN _,fun _=>trivial⟩
   |_=>exact h1.elim
def yI{l:List Nat}{p:Pt}(hl:nQ l)(h:fz l=some p):Cu p/\wC p=0/\yG p=0:=by
 unfold fz at h
 split at h
 ·rename_i ok
  split at h
  ·rename_i a e
   cases h
   exact⟨⟨ml (ok a (by rw[e];simp)) (hl.1.2 a (by rw[e];simp)),by decide⟩,rfl,rfl⟩
  ·rename_i a u e
   split at h
   ·cases h
   ·cases h
    exact⟨⟨Sz (Nat.div_le_self _ _) (ml (ok a (by rw[e];simp)) (hl.1.2 a (by rw[e];simp))),Sz (Nat.div_le_self _ _) (ml (ok u (by rw[e];simp)) (hl.1.2 u (by rw[e];simp)))⟩,rfl,rfl⟩
  ·cases h
 ·cases h
structure Eb (T:Tr) (t:Bd):Prop where
 sz:t.size<=2 * nb T+1
 dp:t.dep<=G09.dp T
 cb:CB t
def pg{l:List Nat}{p:Pt}(h:j_ .things l=some p):∃k,p = .m k:=by
 have:=(lX (k:=.things) (l:=l) h).1
 cases p with
 |m k=>exact⟨k,rfl⟩
 |_=>exact this.elim
def Ec{k:Kd}{T:Tr}{p:Pt}(hA:AW T)(hb:∀t,cJ T=some t->Eb T t)(h:mG k (T,cJ T)=some p):Cu p/\wC p<=2 * nb T+zE p/\yG p<=dp T:=by
 have zero:∀{q:Pt},Cu q->wC q=0->yG q=0->Cu q/\wC q<=2 * nb T+zE q/\yG q<=dp T:=fun a b c=>⟨a,by rw[b];exact Qc _,by rw[c];exact Qc _⟩
 cases k with
 |body=>
  change (cJ T).map Pt.b=some p at h
  cases e:cJ T with
  |none=>rw[e]at h;cases h
  |some t=>rw[e]at h;cases h;obtain⟨a,b,c⟩:=hb t e;exact⟨c,a,b⟩
 |cost=>cases T with
  |w l=>obtain⟨a,b,c⟩:=yI (l:=l) hA h;exact zero a b c
  |n ts=>cases h
 |things=>cases T with
  |w l=>
   obtain⟨k,rfl⟩:=pg (l:=l) h
   exact zero trivial rfl rfl
  |n ts=>cases h
 |name=>cases T with
  |w l=>
   change (if dR l=true then some (Pt.n l) else none)=some p at h
   split at h
   ·cases h;exact zero trivial rfl rfl
   ·cases h
  |n ts=>cases h
mutual
theorem wb:∀(T:Tr) (t:Bd),AW T->cJ T=some t->Eb T t
 | .w l,t,_,h=>by
  rw[cJ]at h
  split at h
  ·cases h;exact⟨by rw[nb];exact PN _,by rw[G09.dp];exact PN _,trivial⟩
  ·cases h
 | .n [],t,_,h=>by rw[vX]at h;cases h
 | .n (.n us::ts),t,_,h=>by rw[vY]at h;cases h
 | .n (.w l::ts),t,a,h=>by
  rw[vZ]at h
  rw[AW,IE]at a
  split at h
  ·rename_i ks e
   split at h
   ·rename_i hl
    cases e2:kW ks (bofs ts)with
    |none=>rw[e2]at h;cases h
    |some ps=>
     rw[e2]at h
     cases h
     obtain⟨m1,m2,m3⟩:=KM ts ks ps a.2 e2
     obtain⟨q1,q2,q3,q4⟩:=Ea e (l7 (by rw[eC,PY];exact hl) (IN ts) e2)
     refine⟨?_,?_,q4 m1⟩
     ·rw[nb,nbs,nb,q1];omega
     ·rw[G09.dp,KK,G09.dp];omega
   ·cases h
  ·cases h
theorem KM:∀(ts:List Tr) (ks:List Kd) (ps:List Pt),IE ts->kW ks (bofs ts)=some ps->(∀p∈ps,Cu p)/\Ce ps<=2 * nbs ts+yH ps/\zF ps<=KK ts
 |[],ks,ps,_,h=>by
  cases ks with
  |nil=>rw[kW]at h;cases h;exact⟨by simp,Qc _,Qc _⟩
  |cons k ks=>have h':some ([]:List Pt)=some ps:=h;cases h';exact⟨by simp,Qc _,Qc _⟩
 |t::ts,[],ps,_,h=>by rw[kW]at h;cases h;exact⟨by simp,Qc _,Qc _⟩
 |t::ts,k::ks,ps,a,h=>by
  rw[IE]at a
  rw[bofs,kW]at h
  split at h
  ·rename_i p ps' e1 e2
   cases h
   obtain⟨a1,a2,a3⟩:=Ec a.1 (fun u hu=>wb t u a.1 hu) e1
   obtain⟨b1,b2,b3⟩:=KM ts ks ps' a.2 e2
   refine⟨fun q hq=>?_,?_,?_⟩
   ·rcases PM.mp hq with rfl|hq
    ·exact a1
    ·exact b1 q hq
   ·show wC p+Ce ps'<=_
    rw[nbs,show yH (p::ps')=zE p+yH ps' from by simp[yH]]
    omega
   ·rw[zF,KK];omega
  ·cases h
end
abbrev wc(w:aG):Prop:=∀{S:ap} {l:List Nat} {Q:bQ} {E:b8},TF l->(∀S',Ext S S'->Q (qu (nP l)) S')->w [.str (ai l)] S Q E
def Cf{x0 x1 x2:aG}(LK:zv x0)(LP:qv 72 x1)(NT:j4 36 x2):wc (bO 3 (cr x0 x1 x2)):=by
 intro S l Q E hl k
 unfold cr
 refine j9 ?_
 rw[show aA 3 [PV.str (ai l)]=[some (.str (ai l)),none,none] from rfl]
 refine aw fun N hN=>?_
 simp only[av,al,au,v3,lk]
 refine LK hl.len fun v S1 X1 hv=>?_
 simp only[List.set_cons_zero,List.set_cons_succ]
 refine hN _ _ (aw fun N hN=>?_)
 simp only[av,c3,List.set_cons_zero,List.set_cons_succ]
 refine hN _ _ (aw fun N hN=>?_)
 unfold nP at k
 cases e:tree l with
 |none=>
  rw[e]at hv k
  rw[show v = .non from hv]
  walk_at "y"
  refine hN _ _ (aw fun N hN=>?_)
  walk_at "y"
  exact k S1 X1
 |some T=>
  rw[e]at hv k
  obtain⟨h1,h2⟩:=hl.tree e
  have h3:=wa T
  have hv':RT [] S1 T v:=hv
  have nv:oq true v .non S1=fun Q=>Q (.bl true) S1:=by
   cases T with
   |w l=>rw[RT]at hv';rw[hv'];rfl
   |n ts=>rw[RT]at hv';obtain⟨a,vs,rfl,-⟩:=hv';rfl
  simp only[bg,aL,am,v3,lk,c3]
  rw[nv]
  dsimp only
  simp only[Rj,av,al,au,v3,lk]
  refine LP hv' h1 (by omega) fun S2 X2=>?_
  simp only[List.set_cons_zero,List.set_cons_succ]
  refine hN _ _ (aw fun N hN=>?_)
  rw[show(some T).bind cJ=cJ T from rfl]at k
  cases e2:cJ T with
  |none=>
   rw[e2]at k
   rw[show qu none = .non from rfl]
   walk_at "y"
   exact k S2 (X1.trans X2)
  |some t=>
   rw[e2]at k
   obtain⟨m1,m2,m3⟩:=wb T t h1 e2
   rw[show qu (some t)=t.pv from rfl]
   have Pv:oq false t.pv .non S2=fun Q=>Q (.bl false) S2:=by rw[Bd.Jc];rfl
   simp only[bg,gK,aL,am,v3,lk,c3]
   rw[Pv]
   dsimp only
   simp only[Qd,QN,al,au,v3,lk]
   refine NT (ws:=[]) trivial (by omega) (iJ (jV T t e2) m3) (by omega) fun S3 X3=>?_
   simp only[bE,Tu]
   dsimp only at k
   by_cases ht:tx t=l
   ·rw[if_pos ht]at k
    rw[ht]
    walk_at "y"
    refine hN _ _ ?_
    walk_at "y"
    exact k S3 (X1.trans (X2.trans X3))
   ·rw[if_neg ht]at k
    rw[P0 (show ¬ai (tx t)=ai l from fun e=>ht (Qu sg e))]
    walk_at "y"
    exact k S3 (X1.trans (X2.trans X3))
noncomputable def rb(se cn:Nat->Bool)(m:Nat):Nat->List Nat->Bool
 |_,[]=>true
 |k,c::l=>if se c then rb se cn m 0 l else if cn c then decide (k+1<=m)&&rb se cn m (k+1) l else rb se cn m k l
theorem nJ{se cn:Nat->Bool}{m:Nat}:∀{k:Nat} {l:List Nat},rb se cn m k l=true->Rn se cn m k l
 |_,[],_=>by rw[Rn];trivial
 |k,c::l,h=>by
  rw[rb]at h
  rw[Rn]
  by_cases h1:se c=true
  ·rw[if_pos h1]at h ⊢;exact nJ h
  ·rw[if_neg h1]at h ⊢
   by_cases h2:cn c=true
   ·rw[if_pos h2]at h ⊢
    simp only[Qs,Qf]at h
    exact⟨h.1,nJ h.2⟩
   ·rw[if_neg h2]at h ⊢;exact nJ h
noncomputable def EH(n m b B:Nat)(l:List Nat):Bool:=decide (l.length<=n)&&l.all (fun c=>decide (c < 256))&&rb v7 cy m 0 l&&rb ip o7 b 0 l&&decide (l.count 40<=B)
def we{n m b B:Nat}{l:List Nat}(h:EH n m b B l=true):TM n m b B l:=by
 unfold EH at h
 simp only[Qs,Qf,QG]at h
 exact⟨h.1.1.1.1,h.1.1.1.2,nJ h.1.1.2,nJ h.1.2,h.2⟩
noncomputable def lits:List Str:=["rest","(rest)","0","10","01","2/4","5/1","-1","1/0","deed","jars",":","abcdefg","(use a)"]
def qC:∀z∈lits,EH 7 7 1 1 (sg z)=true:=by decide +kernel
noncomputable def f1(w:List Nat):Nat:=w.length+1
noncomputable def f4(w:List Nat):Nat:=w.count 40
theorem qD{f:List Nat->Nat}:∀{W:Ws} {w:List Nat},w∈W->f w<=(W.map f).sum
 |v::W,w,h=>by
  rw[PL,RY]
  rcases PM.mp h with rfl|h
  ·omega
  ·have:=qD (f:=f) h;omega
def wf{n m b B:Nat}{l:List Nat}(h:TM n m b B l){w:List Nat}(hw:w∈GL 32 l):w.length<=n/\(∀c∈w,c < 256)/\Rn v7 cy m 0 w/\Rn ip o7 b 0 w/\f4 w<=b:=by
 have e:=hV 32 l
 have h1:=h.ru
 have h2:=h.br
 rw[<-e]at h1 h2
 have r1:=(iI (by decide) _).mp h1 w hw
 have r2:=(iI (by decide) _).mp h2 w hw
 refine⟨?_,fun c hc=>h.vd c (by rw[<-e];exact o9 hw hc),r1,r2,?_⟩
 ·have:=T9.bH 32 (GL 32 l) (oP 32 l)
  rw[e]at this
  have s:=qD (f:=fun w=>w.length+1) hw
  have:=h.len
  omega
 ·have:=o_ (pf 32 l w hw) r2 (Qc _)
  show w.count 40<=b
  omega
def gG{n m b B:Nat}{l:List Nat}(h:TM n m b B l)(hn:7<=n)(hm:3<=m){W:Ws}(hw:∀w∈W,w∈GL 32 l\/ai w∈lits)(h1:(W.map f1).sum<=((GL 32 l).map f1).sum+(n+1))(h2:(W.map f4).sum<=((GL 32 l).map f4).sum+(b+1)):TM (2 * n+1) (2 * m+1) (2 * b+1) (B+b+1) (gl [32] W):=by
 have e:=hV 32 l
 have el:=T9.bH 32 (GL 32 l) (oP 32 l)
 have ec:=j5 (GL 32 l)
 rw[e]at el ec
 have hl:=h.len
 have hc:=h.ct
 have all:∀w∈W,(∀c∈w,c < 256)/\Rn v7 cy (2 * m+1) 0 w/\Rn ip o7 (2 * b+1) 0 w:=by
  intro w hw'
  rcases hw w hw' with hw'|hw'
  ·obtain⟨a1,a2,a3,a4,a5⟩:=wf h hw'
   exact⟨a2,bb a3 (by omega) (by omega),bb a4 (by omega) (by omega)⟩
  ·obtain⟨a1,a2,a3,a4,a5⟩:=we (qC _ hw')
   exact⟨a2,bb a3 (by omega) (by omega),bb a4 (by omega) (by omega)⟩
 refine⟨?_,fun c hc=>?_,(iI (by decide) W).mpr fun w hw'=>(all w hw').2.1,(iI (by decide) W).mpr fun w hw'=>(all w hw').2.2,?_⟩
 ·by_cases hW:W=[]
  ·subst hW;exact Qc _
  ·have:=T9.bH 32 W hW
   change _=(W.map f1).sum at this
   change _=((GL 32 l).map f1).sum at el
   omega
 ·rcases o8 hc with rfl|⟨w,a,b⟩
  ·decide
  ·exact(all w a).1 c b
 ·rw[j5 W]
  change (W.map f4).sum<=_
  change _=((GL 32 l).map f4).sum at ec
  omega
theorem gH{f:List Nat->Nat}:∀{W:Ws} {i:Nat} {x:List Nat} {v:List Nat},W[i]?=some v->((W.set i x).map f).sum+f v=(W.map f).sum+f x
 |[],i,x,v,h=>by simp at h
 |w::W,0,x,v,h=>by simp at h;subst h;simp;omega
 |w::W,i+1,x,v,h=>by
  have:=gH (f:=f) (W:=W) (i:=i) (x:=x) (v:=v) (by simpa using h)
  simp only[List.set_cons_succ,PL,List.sum_cons]
  omega
def fh{f:List Nat->Nat}(W:Ws)(i:Nat):((W.take i).map f).sum+((W.drop i).map f).sum=(W.map f).sum:=by
 rw[<-Sv,<-QC,Rf]
def j6{W:Ws}{i:Nat}{x w:List Nat}(h:w∈W.set i x):w∈W\/w=x:=List.mem_or_eq_of_mem_set h
section
variable {n m b B:Nat} {l:List Nat}
def Ed(h:TM n m b B l)(hn:7<=n)(hm:3<=m)(i:Nat):TM (2 * n+1) (2 * m+1) (2 * b+1) (B+b+1) (gl [32] ((GL 32 l).take i++(GL 32 l).drop (i+1))):=by
 have d:∀f:List Nat->Nat,(((GL 32 l).drop (i+1)).map f).sum<=(((GL 32 l).drop i).map f).sum:=by
  intro f
  rw[show(GL 32 l).drop (i+1)=((GL 32 l).drop i).drop 1 from by rw[List.drop_drop]]
  cases (GL 32 l).drop i with
  |nil=>simp
  |cons a W=>simp
 refine gG h hn hm (fun w hw=>?_) ?_ ?_
 ·rcases Qe.mp hw with hw|hw
  ·exact .inl (TH hw)
  ·exact .inl (R9 hw)
 ·rw[QC,Sv];have:=d f1;have:=fh (f:=f1) (GL 32 l) i;omega
 ·rw[QC,Sv];have:=d f4;have:=fh (f:=f4) (GL 32 l) i;omega
def Ee(h:TM n m b B l)(hn:7<=n)(hm:3<=m){i:Nat}{w:List Nat}(hi:(GL 32 l)[i]?=some w):TM (2 * n+1) (2 * m+1) (2 * b+1) (B+b+1) (gl [32] ((GL 32 l).take i++[w]++(GL 32 l).drop i)):=by
 have hw:=QY hi
 obtain⟨a1,a2,a3,a4,a5⟩:=wf h hw
 refine gG h hn hm (fun x hx=>?_) ?_ ?_
 ·rcases Qe.mp hx with hx|hx
  ·rcases Qe.mp hx with hx|hx
   ·exact .inl (TH hx)
   ·rw[P1.mp hx];exact .inl hw
  ·exact .inl (R9 hx)
 ·simp only[QC,Sv,PL,Qm,List.sum_cons,List.sum_nil];have:=fh (f:=f1) (GL 32 l) i;have:f1 w=w.length+1:=rfl;omega
 ·simp only[QC,Sv,PL,Qm,List.sum_cons,List.sum_nil];have:=fh (f:=f4) (GL 32 l) i;omega
def Ef(h:TM n m b B l)(hn:7<=n)(hm:3<=m){i j:Nat}{v w:List Nat}(hi:(GL 32 l)[i]?=some v)(hj:(GL 32 l)[j]?=some w):TM (2 * n+1) (2 * m+1) (2 * b+1) (B+b+1) (gl [32] (((GL 32 l).set i w).set j v)):=by
 have hj':((GL 32 l).set i w)[j]?=some w:=by
  rw[SV]
  have:=(Qg.mp hi).1
  split
  ·simp[this]
  ·exact hj
 have s:∀f:List Nat->Nat,((((GL 32 l).set i w).set j v).map f).sum=((GL 32 l).map f).sum:=fun f=>by
  have:=gH (f:=f) (x:=w) hi
  have:=gH (f:=f) (x:=v) hj'
  omega
 refine gG h hn hm (fun x hx=>?_) (by rw[s];omega) (by rw[s];omega)
 rcases j6 hx with hx|rfl
 ·rcases j6 hx with hx|rfl
  ·exact .inl hx
  ·exact .inl (QY hj)
 ·exact .inl (QY hi)
def Eg(h:TM n m b B l)(hn:7<=n)(hm:3<=m){i:Nat}{v:List Nat}{z:Str}(hi:(GL 32 l)[i]?=some v)(hz:z∈lits):TM (2 * n+1) (2 * m+1) (2 * b+1) (B+b+1) (gl [32] ((GL 32 l).set i (sg z))):=by
 obtain⟨a1,a2,a3,a4,a5⟩:=we (qC z hz)
 have c1:=gH (f:=f1) (x:=sg z) hi
 have c4:=gH (f:=f4) (x:=sg z) hi
 refine gG h hn hm (fun x hx=>?_) ?_ ?_
 ·rcases j6 hx with hx|rfl
  ·exact .inl hx
  ·exact .inr (by rw[nu];exact hz)
 ·have:f1 (sg z)=(sg z).length+1:=rfl;omega
 ·have:f4 (sg z)=(sg z).count 40:=rfl;omega
end
noncomputable def sgs:List Nat:=sg (" !\"#$&'()*+,-./0123456789:;<=>?@ABCDEFGHIJKLMNOPQRSTUVWXYZ":String)++sg ("[\\]^_`abcdefghijklmnopqrstuvwxyz{|}~\n":String)
noncomputable def M0:List Nat:=sg ("() /0:9":String)
def qE:sgs.length=95:=by decide +kernel
def qF:M0.length=7:=by decide +kernel
def wg:∀c∈sgs++M0,c < 256:=by decide +kernel
abbrev wj(w:aG):Prop:=∀{S:ap} {Q:bQ} {E:b8},Q (.str (ai sgs)) S->w [] S Q E
def wk:wj (bO 1 dO):=by
 intro S Q E k
 unfold dO
 refine j9 ?_
 rw[show aA 1 []=[none] from rfl]
 refine aw fun N hN=>?_
 walk_at "x"
 refine hN _ _ ?_
 walk_at "x"
 refine⟨ln (m:=1000) (by decide +kernel),?_⟩
 exact k
def zG(W:Ws):(W.map ai).map PV.str=W.map fun w=>PV.str (ai w):=by rw[QH];rfl
def F6{W:Ws}{i:Nat}{w:List Nat}(h:W[i]?=some w):He (W.map fun w=>PV.str (ai w)) (i:Int)=some (.str (ai w)):=dC (by rw[Ql,h];rfl)
def wm{n i:Nat}(h:i < n):pD n (i:Int)=some i:=by
 unfold pD
 rw[if_pos (by omega),if_pos (by omega),SM]
def wn{α:Type}(xs:List α)(i:Nat):ci xs none (some (i:Int))=xs.take i:=by
 unfold ci
 rw[HT.jc,HT.fU,R8,Nat.sub_zero]
 rcases Nat.le_total i xs.length with h|h
 ·rw[Su h]
 ·rw[Nat.min_eq_right h,Ra h,Tq]
def nK{α:Type}(xs:List α)(i:Nat):ci xs (some (i:Int)) none=xs.drop i:=by
 unfold ci
 rw[HT.jc,HT.fU]
 rcases Nat.le_total i xs.length with h|h
 ·rw[Su h];exact Ra (by simp)
 ·rw[Nat.min_eq_right h,SY h];simp
def yJ{α:Type}(xs:List α){i:Nat}{x:α}(h:xs[i]?=some x):ci xs (some (i:Int)) (some ((i:Int)+1))=[x]:=by
 have hi:=(Qg.mp h).1
 unfold ci
 rw[show((i:Int)+1)=((i+1:Nat):Int)from rfl,HT.fU,HT.fU,Su (by omega),Su (by omega),show i+1 - i=1 from by omega]
 rw[Rx hi,List.take_succ_cons,List.take_zero]
 rw[QB hi]at h
 cases h;rfl
def Gv(W:Ws):texts (W.map fun w=>PV.str (ai w))=some (W.map ai):=by rw[<-zG,fb]
def FR(W:Ws):((W.map ai).map (·.length)).sum+(W.map ai).length * (Str.ofString " ").length=(W.map f1).sum:=by
 induction W with
 |nil=>rfl
 |cons w W ih=>
  simp only[PL,List.sum_cons,List.length_cons]at ih ⊢
  rw[show(Str.ofString " ").length=1 from rfl]at ih ⊢
  rw[show f1 w=w.length+1 from rfl,show(ai w).length=w.length from GF w]
  omega
def wo{W:Ws}{a:Addr}{S:ap}{Q:bQ}(hS:S a=some (.lst (W.map fun w=>PV.str (ai w))))(hl:(W.map f1).sum<=100000)(k:Q (.str (ai (gl [32] W))) S):fw (.str (Str.ofString " ")) [.ref a] S Q:=by
 simp only[fw,hS,Gv,FR]
 refine⟨by omega,?_⟩
 have:=qq W
 rw[show(Str.ofString " ")=((" ":String):Str)from rfl,this]
 exact k
def Eh{W:Ws}{n:Nat}(h:(gl [32] W).length<=n):(W.map f1).sum<=n+1:=by
 by_cases hW:W=[]
 ·subst hW;exact Qc _
 ·have:=T9.bH 32 W hW
  change _=(W.map f1).sum at this
  omega
def mz{d l p:Addr}{S S':ap}{o:SO}(O:G9 d l S S')(h:S p=none):G9 d l S (GC S' p o):=fun a u ha h1 h2=>by rw[ag (fun e=>by rw[e,h]at ha;cases ha)];exact O a u ha h1 h2
def wq(a b:Int)(S:ap)(Q:bQ):aH (.int a) (.int b) S Q=Q (.int (a+b)) S:=rfl
abbrev mC(w:aG):Prop:=∀{S:ap} {d l:Addr} {t:List Nat} {n m b B:Nat} {Q:bQ} {E:b8},GV S d l->TM n m b B t->7<=n->n<=5000->3<=m->(∀t' S',TM (2 * n+1) (2 * m+1) (2 * b+1) (B+b+1) t'->GV S' d l->G9 d l S S'->Q (.str (ai t')) S')->w [.ref d,.str (ai t)] S Q E
def sD{x0 x1:aG}(GE:b9 x0)(LN:wj x1):mC (bO 10 (dj x0 x1)):=by
 intro S d l t n m b B Q E D ht hn hn2 hm k
 have hl:=ht.len
 unfold dj
 refine j9 ?_
 rw[show aA 10 [PV.ref d,PV.str (ai t)]=[some (.ref d),some (.str (ai t)),none,none,none,none,none,none,none,none] from rfl]
 refine aw fun N hN=>?_
 walk_at "x"
 rw[GF]
 refine⟨ln (m:=10000) (by omega),GE D (by omega) (by omega) fun at_ S1 a0 a1 D1 O1=>?_⟩
 obtain⟨i,rfl⟩:=QJ a0
 refine hN _ _ (aw fun N hN=>?_)
 walk_at "x"
 refine GE D1 (by decide) (by decide) fun f S2 f0 f9 D2 O2=>?_
 have MB:=O1.trans O2
 refine hN _ _ (aw fun N hN=>?_)
 simp only[av,am,aS,au,al,c3,v3,lk]
 refine LN fun p hp=>?_
 have dp:=D2.free hp
 refine GE (D2.new hp) (by decide) (by decide) fun r S3 r0 r1 D3 O3=>?_
 have e3:=O3 _ _ aa dp.1 dp.2
 have Pw:=MB.trans ((G9.new hp).trans O3)
 simp only[aD,e3]
 obtain⟨gs,hgs,hat,Oq,Mf⟩:∃gs:List Nat,(∀c∈gs,c < 256)/\He [PV.str (ai sgs),PV.str (Str.ofString "() /0:9")] r=some (.str (ai gs))/\0 < gs.length/\gs.length<=100:=by
  obtain rfl|rfl:r=0\/r=1:=by omega
  ·exact⟨sgs,fun c hc=>wg c (by simp[hc]),rfl,by rw[qE];decide,by rw[qE];decide⟩
  ·exact⟨M0,fun c hc=>wg c (by simp[hc]),by rw[show ai M0=Str.ofString "() /0:9" from df _];rfl,by rw[qF];decide,by rw[qF];decide⟩
 rw[hat]
 simp only[List.set_cons_zero,List.set_cons_succ]
 refine hN _ _ (aw fun N hN=>?_)
 simp only[av,am,al,aj,au,v3,lk,bn,aD]
 rw[GF]
 refine⟨ln (m:=1000) (by omega),GE D3 (by omega) (by omega) fun q S4 q0 q1 D4 O4=>?_⟩
 have L6:=Pw.trans O4
 obtain⟨j,rfl⟩:=QJ q0
 have hj:j < gs.length:=by omega
 refine⟨ln (m:=1000) (by omega),?_⟩
 have hc:=QB hj
 rw[show He (ai gs).cps.toList (j:Int)=some gs[j] from dC (by exact hc)]
 have hc2:gs[j] < 256:=hgs _ (Uj hj)
 generalize gs[j]=c at hc2
 simp only[List.set_cons_zero,List.set_cons_succ]
 refine hN _ _ (aw fun N hN=>?_)
 simp only[bg,aL,am,v3,lk,c3,mF,fk,Qf]
 by_cases h3:f < 3
 ·rw[if_pos h3]
  simp only[aC,am,aU,kj,gY,aS,au,v3,lk,c3,gZ]
  refine⟨ln (m:=10000) (by rw[GF];omega),fun p2 hp2=>?_⟩
  simp only[aD,aa]
  have O5:=L6.trans (G9.new (o:=.lst [.str ⟨#[c]⟩,.str (Str.ofString ""),.str ⟨#[c]⟩]) hp2)
  have D5:=D4.new (o:=.lst [.str ⟨#[c]⟩,.str (Str.ofString ""),.str ⟨#[c]⟩]) hp2
  generalize GC S4 p2 (.lst [.str ⟨#[c]⟩,.str (Str.ofString ""),.str ⟨#[c]⟩])=S5 at O5 D5
  obtain⟨s,hs1,hs2,Px⟩:∃s:List Nat,s.length<=1/\(∀x∈s,x < 256)/\He [PV.str ⟨#[c]⟩,PV.str (Str.ofString ""),PV.str ⟨#[c]⟩] f=some (.str (ai s)):=by
   obtain rfl|rfl|rfl:f=0\/f=1\/f=2:=by omega
   ·exact⟨[c],by simp,by simpa using hc2,rfl⟩
   ·exact⟨[],by simp,by simp,rfl⟩
   ·exact⟨[c],by simp,by simpa using hc2,rfl⟩
  rw[Px]
  dsimp only
  obtain⟨j,hj,hj2⟩:∃j:Nat,i<=j/\(i:Int)+(if decide (f > 0)=true then 1 else 0)=(j:Int):=by
   by_cases h0:f > 0
   ·exact⟨i+1,by omega,by rw[if_pos (Qh h0)];rfl⟩
   ·exact⟨i,by omega,by rw[if_neg (by simpa using h0)];omega⟩
  rw[Dx]
  simp only[aH,GF,aj,au,am,v3,lk,c3,pS,fk,bN,fv]
  have l1:(t.take i).length<=t.length:=by simp;omega
  refine⟨ln (m:=10001) (by omega),ln (m:=10000) (by omega),?_⟩
  rw[hj2,xZ,gF]
  simp only[GF]
  have l2:(t.drop j).length<=t.length:=by simp
  refine⟨ln (m:=30000) (by rw[PX];omega),?_⟩
  rw[gF]
  exact k _ _ ((ht.sign hs1 hs2 hj).mono (by omega) (by omega) (by omega) (by omega)) D5 O5
 ·rw[if_neg h3]
  simp only[aQ]
  refine hN _ _ (aw fun N hN=>?_)
  simp only[av,cz,v3,lk,kl,au,c3,Ro]
  rw[show(Str.ofString " ")=⟨#[32]⟩from rfl]
  refine qi (by omega) fun pw Ll=>?_
  rw[zG]
  have dw:=D4.free Ll
  have NU:S pw=none:=L6.free Ll dw.1 dw.2
  have O5:=L6.trans (G9.new (o:=.lst ((GL 32 t).map fun w=>PV.str (ai w))) Ll)
  have D5:=D4.new (o:=.lst ((GL 32 t).map fun w=>PV.str (ai w))) Ll
  have e5:GC S4 pw (.lst ((GL 32 t).map fun w=>PV.str (ai w))) pw=some (.lst ((GL 32 t).map fun w=>PV.str (ai w))):=aa
  generalize GC S4 pw (.lst ((GL 32 t).map fun w=>PV.str (ai w)))=S5 at O5 D5 e5
  simp only[List.set_cons_zero,List.set_cons_succ]
  have NJ:0 < (GL 32 t).length:=List.length_pos_iff.mpr (oP 32 t)
  have hW2:=qh 32 t
  refine hN _ _ (aw fun N hN=>?_)
  simp only[av,al,aj,au,v3,lk,bn,jo,e5,PY]
  refine GE D5 (by omega) (by omega) fun s S6 s0 s1 D6 O6=>?_
  have e6:=O6 _ _ e5 dw.1 dw.2
  obtain⟨i1,rfl⟩:=QJ s0
  simp only[List.set_cons_zero,List.set_cons_succ]
  refine hN _ _ (aw fun N hN=>?_)
  simp only[av,al,aj,au,v3,lk,bn,jo,e6,PY]
  refine GE D6 (by omega) (by omega) fun s' S7 s0' s1' D7 O7=>?_
  have e7:=O7 _ _ e6 dw.1 dw.2
  obtain⟨i2,rfl⟩:=QJ s0'
  have O8:=O5.trans (O6.trans O7)
  simp only[List.set_cons_zero,List.set_cons_succ]
  refine hN _ _ (aw fun N hN=>?_)
  have hi1:=QB (l:=GL 32 t) (i:=i1) (by omega)
  have hi2:=QB (l:=GL 32 t) (i:=i2) (by omega)
  generalize (GL 32 t)[i1]=w1 at hi1
  generalize (GL 32 t)[i2]=w2 at hi2
  have tail:∀(W:Ws) (pa:Addr) (S':ap) (x9:Option PV),TM (2 * n+1) (2 * m+1) (2 * b+1) (B+b+1) (gl [32] W)->S' pa=some (.lst (W.map fun w=>PV.str (ai w)))->GV S' d l->G9 d l S S'->N [some (.ref d),some (.str (ai t)),some (.int i),some (.int f),some (.str (ai gs)),some (.str ⟨#[c]⟩),some (.ref pa),some (.int i1),some (.int i2),x9] S':=by
   intro W pa S' x9 hW hS' D' O'
   refine hN _ _ ?_
   simp only[aC,cz,kl,c3,au,v3,lk,Ro]
   have:=Eh hW.len
   exact wo hS' (by omega) (k _ _ hW D' O')
  clear hN
  simp only[bg,aL,am,v3,lk,c3,bE,Qn,Qf]
  by_cases h3:f=3
  ·rw[if_pos h3]
   simp only[av,am,aU,kj,gY,v3,lk,c3,gZ,e7]
   intro pa hpa
   rw[wn,<-List.map_take]
   have ea:GC S7 pa (.lst (((GL 32 t).take i1).map fun w=>PV.str (ai w))) pw=_:=(Ext.new hpa) _ _ e7
   simp only[wq,ea]
   intro pb Lm
   rw[show((i1:Int)+1)=((i1+1:Nat):Int)from rfl,nK,<-List.map_drop]
   have eb:=(Ext.new (o:=.lst (((GL 32 t).drop (i1+1)).map fun w=>PV.str (ai w))) Lm) _ _ (aa (S:=S7) (a:=pa) (o:=.lst (((GL 32 t).take i1).map fun w=>PV.str (ai w))))
   simp only[aH,aa,eb]
   refine⟨ln (m:=30000) (by simp;omega),fun pc Lg=>?_⟩
   rw[<-QC]
   simp only[List.set_cons_zero,List.set_cons_succ]
   exact tail _ pc _ _ (Ed ht hn hm i1) aa (((D7.new hpa).new Lm).new Lg) (O8.trans ((G9.new hpa).trans ((G9.new Lm).trans (G9.new Lg))))
  ·rw[if_neg h3]
   by_cases h4:f=4
   ·rw[if_pos h4]
    simp only[av,am,aU,kj,gY,v3,lk,c3,gZ,e7]
    intro pa hpa
    rw[wn,<-List.map_take]
    have ea:GC S7 pa (.lst (((GL 32 t).take i1).map fun w=>PV.str (ai w))) pw=_:=(Ext.new hpa) _ _ e7
    have D8:=D7.new (o:=.lst (((GL 32 t).take i1).map fun w=>PV.str (ai w))) hpa
    have O9:=O8.trans (G9.new (o:=.lst (((GL 32 t).take i1).map fun w=>PV.str (ai w))) hpa)
    have ga:GC S7 pa (.lst (((GL 32 t).take i1).map fun w=>PV.str (ai w))) pa=_:=aa
    generalize GC S7 pa (.lst (((GL 32 t).take i1).map fun w=>PV.str (ai w)))=Sa at ea D8 O9 ga
    simp only[wq,ea]
    intro pb Lm
    rw[yJ (x:=.str (ai w1)) _ (by rw[Ql,hi1];rfl)]
    have eb:=(Ext.new (o:=.lst [.str (ai w1)]) Lm) _ _ ga
    have ec:=(Ext.new (o:=.lst [.str (ai w1)]) Lm) _ _ ea
    have D9:=D8.new (o:=.lst [.str (ai w1)]) Lm
    have Ot:=O9.trans (G9.new (o:=.lst [.str (ai w1)]) Lm)
    have gb:GC Sa pb (.lst [.str (ai w1)]) pb=_:=aa
    generalize GC Sa pb (.lst [.str (ai w1)])=Sb at eb ec D9 Ot gb
    simp only[aH,gb,eb]
    refine⟨ln (m:=30000) (by simp;omega),fun pc Lg=>?_⟩
    have ed:=(Ext.new (o:=.lst ((((GL 32 t).take i1).map fun w=>PV.str (ai w))++[.str (ai w1)])) Lg) _ _ ec
    have Ou:=D9.new (o:=.lst ((((GL 32 t).take i1).map fun w=>PV.str (ai w))++[.str (ai w1)])) Lg
    have Ov:=Ot.trans (G9.new (o:=.lst ((((GL 32 t).take i1).map fun w=>PV.str (ai w))++[.str (ai w1)])) Lg)
    have gc:GC Sb pc (.lst ((((GL 32 t).take i1).map fun w=>PV.str (ai w))++[.str (ai w1)])) pc=_:=aa
    generalize GC Sb pc (.lst ((((GL 32 t).take i1).map fun w=>PV.str (ai w))++[.str (ai w1)]))=Sc at ed Ou Ov gc
    simp only[ed]
    intro pd NV
    rw[nK,<-List.map_drop]
    have ee:=(Ext.new (o:=.lst (((GL 32 t).drop i1).map fun w=>PV.str (ai w))) NV) _ _ gc
    simp only[aa,ee]
    refine⟨ln (m:=30000) (by simp;omega),fun pe Mq=>?_⟩
    simp only[List.set_cons_zero,List.set_cons_succ]
    exact tail ((GL 32 t).take i1++[w1]++(GL 32 t).drop i1) pe _ _ (Ee ht hn hm hi1) (by rw[aa,QC,QC];rfl) ((Ou.new NV).new Mq) (Ov.trans ((G9.new NV).trans (G9.new Mq)))
   ·rw[if_neg h4]
    simp only[mF,fk,Qf]
    by_cases h7:f < 7
    ·rw[if_pos h7]
     have L1:i1 < (GL 32 t).length:=(Qg.mp hi1).1
     have L2:i2 < (GL 32 t).length:=(Qg.mp hi2).1
     simp only[uT,bR,au,am,v3,lk,aD,e7,F6 hi1,F6 hi2,cZ,PY,wm L1,aa,RV,wm L2]
     exact tail (((GL 32 t).set i1 w2).set i2 w1) pw _ _ (Ef ht hn hm hi1 hi2) (by rw[aa,List.map_set,List.map_set]) ((D7.upd dw.1 dw.2).upd dw.1 dw.2) (mz (mz O8 NU) NU)
    ·rw[if_neg h7]
     have L1:i1 < (GL 32 t).length:=(Qg.mp hi1).1
     refine aw fun N2 KJ=>?_
     walk_at "x"
     intro pa hpa
     have da:=D7.free hpa
     have ea:=(Ext.new (o:=.lst (lits.map PV.str)) hpa) _ _ e7
     refine KJ _ _ ?_
     simp only[lC,am,al,au,v3,lk,c3]
     refine GE (D7.new hpa) (by decide) (by decide) fun r2 S9 u0 u1 D9 O9=>?_
     have eb:=O9 _ _ (aa (S:=S7) (o:=.lst (lits.map PV.str))) da.1 da.2
     have ec:=O9 _ _ ea dw.1 dw.2
     simp only[aD,eb]
     obtain⟨v,hv,Lk⟩:=i0 (xs:=lits.map PV.str) u0 (by simpa [lits]using u1)
     rw[hv]
     obtain⟨y,hy,rfl⟩:=Qt.mp Lk
     simp only[cZ,ec,PY,wm L1]
     exact tail ((GL 32 t).set i1 (sg y)) pw _ _ (Eg ht hn hm hi1 hy) (by rw[aa,List.map_set,nu]) (D9.upd dw.1 dw.2) (mz (O8.trans ((G9.new hpa).trans O9)) NU)
theorem nL{se cn:Nat->Bool}{m:Nat}:∀{k:Nat} {w:List Nat},(∀c∈w,cn c=false)->Rn se cn m k w
 |_,[],_=>by rw[Rn];trivial
 |k,c::w,h=>by
  rw[Rn]
  split
  ·exact nL fun x hx=>h x (by simp[hx])
  ·rw[if_neg (by rw[h c (by simp)];decide)];exact nL fun x hx=>h x (by simp[hx])
theorem wt{m:Nat}:∀{k:Nat} {w:List Nat},k+w.length<=m->Rn v7 cy m k w
 |_,[],_=>by rw[Rn];trivial
 |k,c::w,h=>by
  rw[Qa]at h
  rw[Rn]
  split
  ·exact wt (by omega)
  ·rw[if_pos (a1 _)];exact⟨by omega,wt (by omega)⟩
structure W6 (n b:Nat) (w:List Nat):Prop where
 len:w.length<=n
 vd:∀c∈w,c < 256
 ru:Rn v7 cy 6 0 w
 br:Rn ip o7 1 0 w
 ct:w.count 40<=b
def gJ{w:List Nat}(h:w.length<=6)(hc:∀c∈w,45<=c/\c<=126):W6 6 0 w:=by
 have n4:∀c∈w,c≠40:=fun c hx e=>by have:=hc c hx;omega
 refine⟨h,fun c hx=>by have:=hc c hx;omega,wt (by omega),nL fun c hx=>by simp[o7,n4 c hx],?_⟩
 rw[List.count_eq_zero_of_not_mem (fun hx=>n4 40 hx rfl)]
 exact PN _
def Cg{m k:Nat}{x:List Nat}(h:Rn ip o7 m k x):Rn ip o7 m k (x++[41]):=HW.mpr ⟨h,nL (by simp[o7])⟩
def j7{h:List Nat}{P:List (Nat×Nat×List Nat)}(hP:P≠[])(hh:h.length<=6)(hc:∀c∈h,45<=c/\c<=126)(all:∀q∈P,W6 q.1 q.2.1 q.2.2):W6 (8+(P.map fun q=>q.1+1).sum) (1+(P.map fun q=>q.2.1).sum) ([40]++gl [32] (h::P.map fun q=>q.2.2)++[41]):=by
 have hw:=gJ hh hc
 have all':∀w∈h::P.map (fun q=>q.2.2),(∀c∈w,c < 256)/\Rn v7 cy 6 0 w/\Rn ip o7 1 0 w:=by
  intro w hw'
  rcases PM.mp hw' with rfl|hw'
  ·exact⟨hw.vd,hw.ru,hw.br⟩
  ·obtain⟨q,hq,rfl⟩:=Qt.mp hw'
   exact⟨(all q hq).vd,(all q hq).ru,(all q hq).br⟩
 have s1:∀P:List (Nat×Nat×List Nat),(∀q∈P,W6 q.1 q.2.1 q.2.2)->((P.map fun q=>q.2.2).map f1).sum<=(P.map fun q=>q.1+1).sum/\((P.map fun q=>q.2.2).map f4).sum<=(P.map fun q=>q.2.1).sum:=by
  intro P
  induction P with
  |nil=>intro _;exact⟨PN _,PN _⟩
  |cons q P ih=>
   intro h
   obtain⟨a,b⟩:=ih fun x hx=>h x (by simp[hx])
   have l:=(h q (by simp)).len
   have c:=(h q (by simp)).ct
   simp only[PL,List.sum_cons]
   have e1:f1 q.2.2=q.2.2.length+1:=rfl
   have e2:f4 q.2.2=q.2.2.count 40:=rfl
   omega
 obtain⟨t1,t2⟩:=s1 P all
 have Py:(P.map fun q=>q.2.2)≠[]:=by simpa using hP
 refine⟨?_,?_,?_,?_,?_⟩
 ·have:=T9.bH 32 (h::P.map fun q=>q.2.2) (by simp)
  change _=((h::P.map fun q=>q.2.2).map f1).sum at this
  simp only[PL,List.sum_cons]at this
  have e1:f1 h=h.length+1:=rfl
  simp only[PX,List.length_cons,List.length_nil]
  omega
 ·intro c hc
  simp only[Qe,P1]at hc
  rcases hc with(rfl|hc)|rfl
  ·decide
  ·rcases o8 hc with rfl|⟨w,a,b⟩
   ·decide
   ·exact(all' w a).1 c b
  ·decide
 ·rw[Qp,show([40]++(gl [32] (h::P.map fun q=>q.2.2)++[41]))=[]++40::(gl [32] (h::P.map fun q=>q.2.2)++41::[])from rfl,mr (by decide),mr (by decide)]
  exact⟨by rw[Rn];trivial,(iI (by decide) _).mpr fun w hw'=>(all' w hw').2.1,by rw[Rn];trivial⟩
 ·rw[aX [32] h Py]
  refine Cg ?_
  rw[show[40]++(h++[32]++gl [32] (P.map fun q=>q.2.2))=(40::h)++32::gl [32] (P.map fun q=>q.2.2)from by simp,mr (by decide)]
  refine⟨?_,(iI (by decide) _).mpr fun w hw'=>(all' w (P4 _ hw')).2.2⟩
  rw[Rn,if_neg (by decide),if_pos (by decide)]
  exact⟨PN _,nL fun c hx=>by have:=hc c hx;simp[o7];omega⟩
 ·rw[Qq,Qq,j5]
  change [40].count 40+((h::P.map fun q=>q.2.2).map f4).sum+[41].count 40<=_
  rw[show[40].count 40=1 from by decide,show[41].count 40=0 from by decide,PL,RY]
  have:=hw.ct
  have e2:f4 h=h.count 40:=rfl
  omega
abbrev Ei(ws:Vs):Prop:=∀z∈ws,Co z/\z ∉ GW
def Ch{ws:Vs}(h:Ei ws){z:Str}(hz:z∈ws):W6 6 0 (sg z):=gJ (h z hz).1.le fun c hc=>by have:=(h z hz).1.sm c hc;omega
def Ej{m:Int}(h:1<=m/\m<=9):W6 6 0 (num m):=gJ (PZ (cS (k:=0) (by omega)) (by decide)) (hZ (by omega)).1
def FS{x y:Int}(h:M3.Fh x y/\0<=x/\x<=999/\y<=9):W6 6 0 (txt (x,y)):=by
 have hp:=h.1.pos
 obtain⟨v,rfl⟩:=QJ h.2.1
 obtain⟨b,rfl⟩:=QJ (show 0<=y by omega)
 refine gJ ?_ (l5 v b).1
 have h1:(num (v:Int)).length<=3:=by rw[ba];exact lO (k:=2) (by have:=h.2.2.1;omega)
 have h2:(num (b:Int)).length<=1:=by rw[ba];exact lO (k:=0) (by have:=h.2.2.2;omega)
 unfold txt
 split
 ·dsimp only;omega
 ·simp only[PX,List.length_cons];omega
theorem iK{ws:Vs}(hw:Ei ws):∀t:Bd,t.g9 ws->W6 (40 * t.size) t.size (tx t)
 | .rest,_=>by
  have:=gJ (w:=sg "rest") (by decide +kernel) (by decide +kernel)
  exact⟨PZ this.len (by decide),this.vd,this.ru,this.br,PZ this.ct (Qc _)⟩
 | .pay x y,g=>by
  have:=j7 (h:=sg "pay") (P:=[(6,0,txt (x,y))]) (by simp) (by decide +kernel) (by decide +kernel) (by simp;exact FS g)
  exact⟨PZ this.len (by simp[Bd.size]),this.vd,this.ru,this.br,this.ct⟩
 | .put z m,g=>by
  have:=j7 (h:=sg "put") (P:=[(6,0,sg z),(6,0,num m)]) (by simp) (by decide +kernel) (by decide +kernel) (by simp;exact⟨Ch hw g.1,Ej g.2⟩)
  exact⟨PZ this.len (by simp[Bd.size]),this.vd,this.ru,this.br,this.ct⟩
 | .use z,g=>by
  have:=j7 (h:=sg "use") (P:=[(6,0,sg z)]) (by simp) (by decide +kernel) (by decide +kernel) (by simp;exact Ch hw g)
  exact⟨PZ this.len (by simp[Bd.size]),this.vd,this.ru,this.br,this.ct⟩
 | .HN a,g=>by
  have:=j7 (h:=sg "often") (P:=[(40 * a.size,a.size,tx a)]) (by simp) (by decide +kernel) (by decide +kernel) (by simp;exact iK hw a g)
  exact⟨PZ this.len (by simp[Bd.size];omega),this.vd,this.ru,this.br,PZ this.ct (by simp[Bd.size];omega)⟩
 | .GG a b,g=>by
  have:=j7 (h:=sg "then") (P:=[(40 * a.size,a.size,tx a),(40 * b.size,b.size,tx b)]) (by simp) (by decide +kernel) (by decide +kernel) (by simp;exact⟨iK hw a g.1,iK hw b g.2⟩)
  exact⟨PZ this.len (by simp[Bd.size];omega),this.vd,this.ru,this.br,PZ this.ct (by simp[Bd.size];omega)⟩
 | .HG a b,g=>by
  have:=j7 (h:=sg "either") (P:=[(40 * a.size,a.size,tx a),(40 * b.size,b.size,tx b)]) (by simp) (by decide +kernel) (by decide +kernel) (by simp;exact⟨iK hw a g.1,iK hw b g.2⟩)
  exact⟨PZ this.len (by simp[Bd.size];omega),this.vd,this.ru,this.br,PZ this.ct (by simp[Bd.size];omega)⟩
 | .HJ z m a b,g=>by
  have:=j7 (h:=sg "take") (P:=[(6,0,sg z),(6,0,num m),(40 * a.size,a.size,tx a),(40 * b.size,b.size,tx b)]) (by simp) (by decide +kernel) (by decide +kernel) (by simp;exact⟨Ch hw g.1,Ej ⟨g.2.1,g.2.2.1⟩,iK hw a g.2.2.2.1,iK hw b g.2.2.2.2⟩)
  exact⟨PZ this.len (by simp[Bd.size];omega),this.vd,this.ru,this.br,PZ this.ct (by simp[Bd.size];omega)⟩
def Ek{ws:Vs}(hw:Ei ws){t:Bd}(g:t.g9 ws)(hs:t.size<=20):TM 800 6 1 20 (tx t):=by
 have:=iK hw t g
 exact⟨PZ this.len (by omega),this.vd,this.ru,this.br,PZ this.ct hs⟩
theorem iL{ws:Vs}(hw:Ei ws):∀{t:Bd},t.g9 ws->t.gb ws
 | .rest,_=>trivial
 | .pay x y,g=>by
  have hp:=g.1.pos
  have e:(1000:Nat) < 10 ^ 60:=by decide
  exact⟨Sf (show x.natAbs < 1000 by have:=g.2.1;have:=g.2.2.1;omega) e,Sf (show y.natAbs < 1000 by have:=g.2.2.2;omega) e⟩
 | .put z m,g=>⟨(hw z g.1).1.le,g.2⟩
 | .use z,g=>(hw z g).1.le
 | .HN a,g=>iL (t:=a) hw g
 | .GG a b,g=>⟨iL hw g.1,iL hw g.2⟩
 | .HG a b,g=>⟨iL hw g.1,iL hw g.2⟩
 | .HJ z m a b,g=>⟨(hw z g.1).1.le,g.2.1,g.2.2.1,iL hw g.2.2.2.1,iL hw g.2.2.2.2⟩
def zH{m:Int}(h:1<=m/\m<=9):m.natAbs < 2 ^ 64:=by omega
def FT{S:ap}{z:Str}(h:dR (sg z)=true):Sh S (.str z) (.str z) 62 0:=(Sh.str (qx h)).le (by have:=EG h;show 10 * (sg z).length+2<=62;omega) (PN _)
theorem zI{S:ap}:∀t:Bd,VB t->CB t->Sh S t.pv t.dt (t.size * 4200) (t.dep+1)
 | .rest,_,_=>(Sh.tup ((Sh.s "rest" 0 (by decide +kernel) (by decide +kernel)).cons .nil)).le (by decide) (by decide)
 | .pay x y,_,h=>(Sh.tup ((Sh.s "pay" 1 (by decide +kernel) (by decide +kernel)).cons ((Sh.tup ((Sh.int (il h.1)).cons ((Sh.int (il h.2)).cons .nil))).cons (.Ka 1)))).le (by simp only[Bd.size];omega) (by simp only[Bd.dep];omega)
 | .put z m,h,_=>(Sh.tup ((Sh.s "put" 0 (by decide +kernel) (by decide +kernel)).cons ((FT h.1).cons ((Sh.i (zH h.2)).cons .nil)))).le (by simp only[Bd.size];omega) (by simp only[Bd.dep];omega)
 | .use z,h,_=>(Sh.tup ((Sh.s "use" 0 (by decide +kernel) (by decide +kernel)).cons ((FT h).cons .nil))).le (by simp only[Bd.size];omega) (by simp only[Bd.dep];omega)
 | .HN a,h,c=>(Sh.tup ((Sh.s "often" _ (by decide +kernel) (by decide +kernel)).cons ((zI a h c).cons (.Ka _)))).le (by simp only[Bd.size];omega) (by simp only[Bd.dep];omega)
 | .GG a b,h,c=>(Sh.tup ((Sh.s "then" (max a.dep b.dep+1) (by decide +kernel) (by decide +kernel)).cons (((zI a h.1 c.1).le (PN _) (QO (TX a.dep b.dep))).cons (((zI b h.2 c.2).le (PN _) (QO (Tt a.dep b.dep))).cons (.Ka _))))).le (by simp only[Bd.size];omega) (by simp only[Bd.dep];omega)
 | .HG a b,h,c=>(Sh.tup ((Sh.s "either" (max a.dep b.dep+1) (by decide +kernel) (by decide +kernel)).cons (((zI a h.1 c.1).le (PN _) (QO (TX a.dep b.dep))).cons (((zI b h.2 c.2).le (PN _) (QO (Tt a.dep b.dep))).cons (.Ka _))))).le (by simp only[Bd.size];omega) (by simp only[Bd.dep];omega)
 | .HJ z m a b,h,c=>(Sh.tup ((Sh.s "take" (max a.dep b.dep+1) (by decide +kernel) (by decide +kernel)).cons (((FT h.1).le (PN _) (Qc _)).cons (((Sh.i (zH ⟨h.2.1,h.2.2.1⟩)).le (PN _) (Qc _)).cons (((zI a h.2.2.2.1 c.1).le (PN _) (QO (TX a.dep b.dep))).cons (((zI b h.2.2.2.2 c.2).le (PN _) (QO (Tt a.dep b.dep))).cons (.Ka _))))))).le (by simp only[Bd.size];omega) (by simp only[Bd.dep];omega)
def yK{l:List Nat}(h:TF l):∃z:Str,∀{S:ap} {Q:bQ},Q (.str z) S->kR [FO (nP l)] S Q:=by
 cases e:nP l with
 |none=>exact⟨_,fun q=>nl (Sh.tup ((Sh.str (z:=("refused":String)) (by decide +kernel)).cons .nil)) (by decide +kernel) (by decide) q⟩
 |some t=>
  unfold nP at e
  split at e
  ·rename_i u e1
   split at e
   ·cases e
    obtain⟨T,hT,hb⟩:=SH.mp e1
    obtain⟨h1,h2⟩:=h.tree hT
    obtain⟨m1,m2,m3⟩:=wb T t h1 hb
    have:=wa T
    have s:=fun S=>zI (S:=S) t (jV T t hb) m3
    refine⟨_,fun{S} {_} q=>nl (Sh.tup ((Sh.s "told" (t.dep+1) (by decide +kernel) (by decide +kernel)).cons ((s S).cons (.Ka _)))) ?_ ?_ q⟩
    ·exact PZ (show _<=400000 by omega) (by decide)
    ·omega
   ·cases e
  ·cases e
noncomputable def Jo:List Str:=[""," ","()","rest "," rest","(rest)","(pay)","(pay 1 2)","(pay -1)","(pay 0)","(put a)","(put a 0)","(put a 10)","(then rest)","(then rest rest rest)","(often rest rest)","(use)","(use a 1)","(take a 1 rest)","(take 1 a rest rest)","(pay 2/2)","((pay 1))","(pay (pay 1))","(Pay 1)","pay"]
def yL:∀z∈Jo,EH 10000 55 15 35 (sg z)=true:=by decide +kernel
abbrev El(w:aG):Prop:=∀{S:ap} {Q:bQ} {E:b8},(∀p S',S p=none->Ext S S'->S' p=some (.lst (Jo.map PV.str))->Q (.ref p) S')->w [] S Q E
def qG{σ:bM}{i:Nat}{S:ap}{Q:bQ}{E:b8}{a:Addr}{xs:List PV}{zs:Vs}(hi:lk σ i=some (.ref a))(ha:S a=some (.lst xs))(hl:xs.length+zs.length<=1000)(k:∀p S',S p=none->Ext S S'->S' p=some (.lst (xs++zs.map PV.str))->Q (.ref p) S'):am aH (v3 i) (aS (zs.map fun z=>c3 (.str z))) σ S Q E:=by
 unfold am
 simp only[v3,hi,aS]
 refine vU fun p hp=>?_
 have h1:=(Ext.new (o:=.lst (zs.map PV.str)) hp) _ _ ha
 simp only[aH,h1,aa]
 refine⟨ln (m:=1000) (by simpa using hl),fun q hq=>?_⟩
 exact k q _ ((Ext.new hp).free hq) ((Ext.new hp).trans (Ext.new hq)) aa
def JP:El (bO 1 fL):=by
 intro S Q E k
 unfold fL
 refine j9 ?_
 rw[show aA 1 []=[none] from rfl]
 refine aw fun N hN=>?_
 unfold av aS
 refine vU (zs:=Jo.take 11) fun p hp=>?_
 simp only[List.set_cons_zero]
 refine hN _ _ (aw fun N hN=>?_)
 unfold av
 refine qG (zs:=(Jo.drop 11).take 6) rfl aa (by decide) fun p2 S2 h2 X2 f2=>?_
 simp only[List.set_cons_zero]
 refine hN _ _ (aw fun N hN=>?_)
 unfold av
 refine qG (zs:=(Jo.drop 17).take 1) rfl f2 (by decide) fun p3 S3 h3 X3 f3=>?_
 simp only[List.set_cons_zero]
 refine hN _ _ (aw fun N hN=>?_)
 unfold av
 refine qG (zs:=(Jo.drop 18).take 4) rfl f3 (by decide) fun p4 S4 h4 X4 f4=>?_
 simp only[List.set_cons_zero]
 refine hN _ _ (nA ?_)
 refine qG (zs:=Jo.drop 22) rfl f4 (by decide) fun p5 S5 h5 X5 f5=>?_
 have X:=(Ext.new (o:=.lst ((Jo.take 11).map PV.str)) hp).trans (X2.trans (X3.trans X4))
 exact k p5 S5 (X.free h5) (X.trans X5) f5
structure TL (S:ap) (pt:Addr) (n:Nat) (Ts:List (List Nat)):Prop where
 at_:S pt=some (.lst (Ts.map fun t=>PV.str (ai t)))
 tf:∀t∈Ts,TF t
 len:Ts.length<=n
def TL.app{S:ap}{pt:Addr}{n:Nat}{Ts:List (List Nat)}(h:TL S pt n Ts){t:List Nat}(ht:TF t):TL (GC S pt (.lst (Ts.map (fun t=>PV.str (ai t))++[.str (ai t)]))) pt (n+1) (Ts++[t]):=by
 refine⟨by rw[aa,QC];rfl,fun x hx=>?_,by rw[PX];have:=h.len;simp;omega⟩
 rcases Qe.mp hx with hx|hx
 ·exact h.tf x hx
 ·rw[P1.mp hx];exact ht
def TL.Lb{S S':ap}{d l pt:Addr}{n:Nat}{Ts:List (List Nat)}(h:TL S pt n Ts)(O:G9 d l S S')(h1:pt≠d)(h2:pt≠l):TL S' pt n Ts:=⟨O _ _ h.at_ h1 h2,h.tf,h.len⟩
def TL.mono{S:ap}{pt:Addr}{n m:Nat}{Ts:List (List Nat)}(h:TL S pt n Ts)(hm:n<=m):TL S pt m Ts:=⟨h.at_,h.tf,PZ h.len hm⟩
noncomputable def mn:Nat->Nat|0=>800|k+1=>2 * mn k+1
noncomputable def mm:Nat->Nat|0=>6|k+1=>2 * mm k+1
noncomputable def mb:Nat->Nat|0=>1|k+1=>2 * mb k+1
noncomputable def mB:Nat->Nat|0=>20|k+1=>mB k+mb k+1
abbrev TK(k:Nat)(t:List Nat):Prop:=TM (mn k) (mm k) (mb k) (mB k) t
def zJ:∀{k:Nat} {t:List Nat},TK k t->k<=3->TF t:=by
 intro k t h hk
 have:k=0\/k=1\/k=2\/k=3:=by omega
 rcases this with rfl|rfl|rfl|rfl<;>exact h.mono (by decide) (by decide) (by decide) (by decide)
def F7{n:Nat}(h:n < 1000):n < sizeLine:=P6 h (by decide)
abbrev yM(w:aG):Prop:=∀{ns:Vu} {S:ap} {Q:bQ} {E:b8},ns.length<=63->(∀S',Q (.bl true) S')->w [.cl (ns.map PV.int)] S Q E
def Ci{x0 x1 x2 x3 x4 x5 x6 x7 x8:aG}(Ji:nk x0)(JP:El x1)(GE:b9 x2)(Jn:nE x3)(ME:j4 36 x4)(MF:fg 12 x5)(MG:mC x6)(MH:wc x7)(MI:oY x8):yM (bO 8 (vm x0 x1 x2 x3 x4 x5 x6 x7 x8)):=by
 intro ns S Q E hn k
 unfold vm
 refine j9 ?_
 rw[show aA 8 [PV.cl (ns.map PV.int)]=[some (.cl (ns.map PV.int)),none,none,none,none,none,none,none] from rfl]
 refine aw fun N hN=>?_
 simp only[av,al,au,v3,lk,c3]
 refine Ji hn (by decide) (by decide) fun d l S1 hd hl D1 X1=>?_
 simp only[List.set_cons_zero,List.set_cons_succ]
 generalize PV.cl (ns.map PV.int)=v0
 refine hN _ _ (aw fun N hN=>?_)
 simp only[av,al,au]
 refine JP fun pt S2 Pz X2 f2=>?_
 have dt:=D1.free Pz
 have D2:=D1.ext X2
 simp only[List.set_cons_zero,List.set_cons_succ]
 refine hN _ _ (aw fun N hN=>?_)
 simp only[dy,jv,c3]
 refine⟨by decide,by decide,?_⟩
 refine cM (fun done σ S'=>∃Ts,TL S' pt (25+4 * done.length) Ts/\done.length<=6/\GV S' d l/\∃x3 x4 x5 x6,σ=[some v0,some (.ref d),some (.ref pt),x3,x4,x5,x6,none]) ⟨Jo.map sg,⟨by rw[f2,QH];rfl,fun t ht=>?_,by decide⟩,Qc _,D2,_,_,_,_,rfl⟩ (fun _ _ _ _=>trivial) ?_ ?_
 ·obtain⟨z,hz,rfl⟩:=Qt.mp ht
  exact we (yL z hz)
 ·rintro done x rest σ S3 K e ⟨Ts,hT,hdl,D3,x3,x4,x5,x6,rfl⟩ hK
  have hlen:done.length+1<=6:=by
   have:=Qu List.length e
   rw[b_,PX,Qa]at this
   simp at this
   omega
  simp only[Tg.put,List.set_cons_zero,List.set_cons_succ]
  refine aw fun N2 KJ=>?_
  simp only[av,bS,jv,am,c3,al,au,v3,lk,wq]
  refine GE D3 (by decide) (by decide) fun n S4 n0 n1 D4 O4=>⟨by omega,by omega,?_⟩
  refine nj (fun done ys S'=>∃ws:List Str,ys=ws.map PV.str/\ws.length=done.length/\done.length<=(2+n).toNat/\Ei ws/\GV S' d l/\G9 d l S3 S') ⟨[],rfl,rfl,Qc _,(by intro z hz;cases hz),D4,O4⟩ ?_ ?_ ?_
  ·rintro done ys S' ⟨ws,rfl,e,hd,_⟩
   exact⟨trivial,ln (m:=100) (by rw[PY,e];omega)⟩
  ·rintro done x rest ys S' K e ⟨ws,rfl,e2,hd,hw,D',O'⟩ hK
   have hlen:done.length+1<=(2+n).toNat:=by
    have:=Qu List.length e
    rw[b_,PX,Qa]at this
    omega
   simp only[Tg.put,km,fG,Rj,List.set_cons_zero,List.set_cons_succ,al,au,v3]
   refine Jn D' fun z S2 hz D2 O2=>?_
   refine hK _ _ ⟨ws++[z],by simp,by simp[e2],by simpa using hlen,fun y hy=>?_,D2,O'.trans O2⟩
   rcases Qe.mp hy with hy|hy
   ·exact hw y hy
   ·rw[P1.mp hy];exact hz
  rintro ys S5 ⟨ws,rfl,ew,-,hw,D5,O5⟩ pw Ll
  rw[b_]at ew
  have fp:=D5.free Ll
  have O6:=O5.trans (G9.new (o:=.lst (ws.map PV.str)) Ll)
  have D6:=D5.new (o:=.lst (ws.map PV.str)) Ll
  have w6:(GC S5 pw (.lst (ws.map PV.str))) pw=some (.lst (ws.map PV.str)):=aa
  generalize GC S5 pw (.lst (ws.map PV.str))=S6 at O6 D6 w6
  simp only[List.set_cons_zero,List.set_cons_succ]
  refine KJ _ _ (aw fun N3 NE=>?_)
  simp only[av,am,c3,al,au,v3,lk,wq]
  refine GE D6 (by decide) (by decide) fun r S7 r0 r1 D7 O7=>?_
  have w7:=O7 _ _ w6 fp.1 fp.2
  refine MF D7 w7 fp.1 fp.2 (by omega) (by omega) (by omega) (by omega) (by omega) (by omega) fun t S8 g8 d8 s8 D8 O8=>?_
  refine ME (ws:=ws) trivial (by omega) (iL hw g8) (by omega) fun S9 X9=>?_
  have D9:=D8.ext X9
  have T9:=hT.Lb (O6.trans (O7.trans (O8.trans X9.Lb))) dt.1 dt.2
  have k0:TK 0 (tx t):=Ek hw g8 (by omega)
  simp only[List.set_cons_zero,List.set_cons_succ]
  refine NE _ _ (aw fun N4 PB=>?_)
  simp only[bd,cz,v3,lk,kl,T9.at_,au,aI,Ro]
  refine⟨F7 (by rw[PY];have:=T9.len;omega),?_⟩
  have Ta:=T9.app (zJ k0 (by decide))
  have Da:=D9.upd (o:=.lst (Ts.map (fun t=>PV.str (ai t))++[.str (ai (tx t))])) dt.1 dt.2
  generalize GC S9 pt (.lst (Ts.map (fun t=>PV.str (ai t))++[.str (ai (tx t))]))=Sa at Ta Da
  refine PB _ _ ?_
  simp only[dy,jv,am,c3,al,au,v3,lk,wq]
  refine GE Da (by decide) (by decide) fun q Sb q0 q1 Db Ob=>⟨by omega,by omega,?_⟩
  have Tb:=Ta.Lb Ob dt.1 dt.2
  refine cM (fun dn σ S'=>∃Ts u,TL S' pt (25+4 * done.length+1+dn.length) Ts/\TK dn.length u/\dn.length<=(1+q).toNat/\GV S' d l/\∃x6,σ=[some v0,some (.ref d),some (.ref pt),some x,some (.ref pw),some (.str (ai u)),x6,none]) ⟨_,_,Tb,k0,Qc _,Db,_,rfl⟩ (fun _ _ _ _=>trivial) ?_ ?_
  ·rintro dn y rst σ Sc K2 e2 ⟨Ts,u,hT2,hk2,hdn,Dc,y6,rfl⟩ PC
   have hl2:dn.length+1<=(1+q).toNat:=by
    have:=Qu List.length e2
    rw[b_,PX,Qa]at this
    omega
   simp only[Tg.put,List.set_cons_zero,List.set_cons_succ]
   refine aw fun N5 PD=>?_
   simp only[av,al,au,v3,lk]
   have b:7<=mn dn.length/\mn dn.length<=5000/\3<=mm dn.length:=by
    have:dn.length=0\/dn.length=1\/dn.length=2:=by omega
    rcases this with h|h|h<;>rw[h]<;>decide
   refine MG Dc hk2 b.1 b.2.1 b.2.2 fun u' Sd hu Dd Od=>?_
   have Td:=hT2.Lb Od dt.1 dt.2
   simp only[List.set_cons_zero,List.set_cons_succ]
   refine PD _ _ ?_
   have Ow:TK (dn.length+1) u':=hu
   simp only[bd,cz,v3,lk,kl,Td.at_,au,aI,Ro]
   refine⟨F7 (by rw[PY];have:=Td.len;omega),?_⟩
   refine PC _ _ ⟨_,u',(Td.app (zJ Ow (by omega))).mono (by rw[PX];simp;omega),by rw[PX];exact Ow,by rw[PX];simpa using hl2,Dd.upd dt.1 dt.2,_,rfl⟩
  ·rintro σ Sc ⟨Ts,u,hT2,hk2,hdn,Dc,y6,rfl⟩
   rw[b_]at hT2
   exact hK _ _ ⟨Ts,hT2.mono (by rw[PX];simp;omega),by rw[PX];simpa using hlen,Dc,_,_,_,_,rfl⟩
 ·rintro σ S3 ⟨Ts,hT,-,D3,x3,x4,x5,x6,rfl⟩
  rw[b_]at hT
  have hl3:=hT.len
  refine hN _ _ (aw fun N hN=>?_)
  simp only[dy,bJ,am,uU,v3,lk,sG,iN,c3,hT.at_]
  refine⟨by decide,fun p4 LQ=>?_⟩
  have h4:=(Ext.new (o:=.lst (Ts.map fun t=>PV.str (ai t)).reverse) LQ) _ _ hT.at_
  simp only[aH,h4,aa]
  refine⟨ln (m:=1000) (by simp;omega),fun p5 KU=>?_⟩
  rw[<-List.map_reverse,<-QC]
  have PH:∀t∈Ts++Ts.reverse,TF t:=fun t ht=>by
   rcases Qe.mp ht with ht|ht
   ·exact hT.tf t ht
   ·exact hT.tf t (List.mem_reverse.mp ht)
  simp only[fx,aa]
  have f5:GC (GC S3 p4 (.lst (Ts.reverse.map fun t=>PV.str (ai t)))) p5 (.lst ((Ts++Ts.reverse).map fun t=>PV.str (ai t))) p5=some (.lst ((Ts++Ts.reverse).map fun t=>PV.str (ai t))):=aa
  generalize GC (GC S3 p4 (.lst (Ts.reverse.map fun t=>PV.str (ai t)))) p5 (.lst ((Ts++Ts.reverse).map fun t=>PV.str (ai t)))=S5 at f5
  refine cM (fun dn σ S'=>Ext S5 S'/\∃x5 x7,σ=[some v0,some (.ref d),some (.ref pt),x3,x4,x5,x6,x7]) ⟨.refl,_,_,rfl⟩ (fun _ _ _ h=>h.1 _ _ f5) ?_ ?_
  ·rintro dn y rst σ S6 K e ⟨X6,y5,y7,rfl⟩ hK
   obtain⟨t,ht,rfl⟩:∃t∈Ts++Ts.reverse,PV.str (ai t)=y:=Qt.mp (by rw[e];simp)
   have tf:=PH t ht
   obtain⟨z,hz⟩:=yK tf
   simp only[Tg.put,List.set_cons_zero,List.set_cons_succ]
   refine aw fun N2 KJ=>?_
   simp only[av,al,au,v3,lk]
   refine MH tf fun S7 X7=>?_
   simp only[List.set_cons_zero,List.set_cons_succ]
   refine KJ _ _ ?_
   simp only[bg,aL,am,aj,al,au,v3,lk]
   refine MI tf.ok fun S8 X8=>?_
   rw[<-BP tf.ok.cnt]
   refine hz ?_
   simp only[aS,bR,au,c3,v3,lk]
   intro p9 hp9
   have X9:=X8.trans (Ext.new (o:=.lst [.tup [.str (Str.ofString "told"),qu (nP t)],.tup [.str (Str.ofString "refused")]]) hp9)
   have f9:GC S8 p9 (.lst [.tup [.str (Str.ofString "told"),qu (nP t)],.tup [.str (Str.ofString "refused")]]) p9=_:=aa
   generalize GC S8 p9 (.lst [.tup [.str (Str.ofString "told"),qu (nP t)],.tup [.str (Str.ofString "refused")]])=S9 at X9 f9
   have fin:K [some v0,some (.ref d),some (.ref pt),x3,x4,some (.str (ai t)),x6,some (qu (nP t))] S9:=hK _ _ ⟨X6.trans (X7.trans X9),_,_,rfl⟩
   have last:∀v,FO (nP t)=v->kR [v] S9 fun v S'=>bE true (.str z) v S' fun v S'=>match v with
     | .bl b=>if b=true then aC (c3 (.bl false)) { nx:=K,ct:=K,bk:=N,rt:=Q,ex:=fF } [some v0,some (.ref d),some (.ref pt),x3,x4,some (.str (ai t)),x6,some (qu (nP t))] S' else aQ { nx:=K,ct:=K,bk:=N,rt:=Q,ex:=fF } [some v0,some (.ref d),some (.ref pt),x3,x4,some (.str (ai t)),x6,some (qu (nP t))] S'
     |_=>False:=by
    rintro v rfl
    refine hz ?_
    simp only[bE,decide_true,Tu,RH,Qd,QN,aQ]
    exact fin
   cases e2:nP t with
   |none=>
    rw[e2]at f9 last
    simp only[oq,qu,Qn,bN,fv,aD,f9,FG,Rj,uZ]
    exact last _ rfl
   |some b=>
    rw[e2]at f9 last
    have nv:oq false (qu (some b)) .non S9=fun Q=>Q (.bl false) S9:=by show oq false b.pv .non S9=_;rw[Bd.Jc];rfl
    rw[nv]
    simp only[bN,fv,aD,f9,uZ,Qd,QN]
    exact last _ rfl
  ·rintro σ S6 ⟨X6,y5,y7,rfl⟩
   refine hN _ _ ?_
   simp only[aC,c3]
   exact k S6
def j8:b9 w__law_draw:=GE
theorem qH:∀n,fg n (bK n)
 |0=>fun _ _ _ _ _ _ _ _ h0 h1 _=>by omega
 |n+1=>vN j8 (vM j8 Ix) n (qH n)
def Cj{t:Bd}(h:t.dep<=0):False:=by have:=t.K6;omega
theorem mD:∀n,j4 n (bD n)
 |0=>fun _ h _ _ _=>(Cj h).elim
 |n+1=>sC vO n (mD n)
def wu:oX eG:=sy yq
def yN:vp bu:=vq vo sr
def yO:vx eJ:=vy yN sA wu
theorem qI:∀n,qg n (cP n)
 |0=>fun _ _ h=>absurd h (Nat.not_lt_zero _)
 |n+1=>vC BU yO n (qI n)
def yP:vE eM:=vF sB (qI 36)
def yQ:oY eU:=vI yP vH
def Ck:qm bA:=yw Ix
def yR:qt bz:=vR IQ
def Em:wc cu:=Cf yu (zA Ck yR 72).2 (mD 36)
def wv:mC dk:=sD j8 wk
def ww:∀ns:List Int,ns.length<=63->nz [.cl (ns.map PV.int)] (fun _=>none) (fun v _=>v = .bl true) fF:=fun ns h=>Ci Ji JP j8 (Jn j8 IQ) (mD 36) (qH 12) wv Em yQ h fun _=>rfl
end G09
namespace L3
open PySem L2 Xc
def mH{P:List Value->Prop}(h:∀a,P [a])(us:Vv)(hl:us.length=1):P us:=match us,hl with|[_],_=>h _
def wx{P:List Value->Prop}(h:∀a b,P [a,b])(us:Vv)(hl:us.length=2):P us:=match us,hl with|[_,_],_=>h _ _
def Gw{P:List Value->Prop}(h:∀a b c d,P [a,b,c,d])(us:Vv)(hl:us.length=4):P us:=match us,hl with|[_,_,_,_],_=>h _ _ _ _
section
variable {K:Vo} {h:Heap} {mg:Vr} {x c m q:Str} {st:Stmt} {ps fl:Vs}
noncomputable def sE:Option (Option Value)->Bool
 |some none=>true
 |_=>false
def qJ{o:Option (Option Value)}(h:sE o=true):o=some none:=by
 unfold sE at h;split at h
 ·rfl
 ·cases h
def FnAt(K:Vo)(f:Addr)(m q:Str)(st:Stmt):Prop:=∃(oc kV doc pm cdv ct:Value) (od an:Option Addr) (osl:Array (Option Value)),
 K.lookup f=some ⟨oc,od,.func (PySem.W.fnOf m q (cx st) (aT st) (ax st) .none kV doc pm an cdv ct),osl⟩/\PySem.W.codeIn K cdv q=true/\PySem.W.keepIn K (.ref f)=true
abbrev qK(m q:Str)(st:Stmt)(ps:Vs):Prop:=∀(kV doc pm:Value) (an:Option Addr) (cdv ct:Value) (us:Vv),us.length=ps.length->bindArgs (PySem.W.fnOf m q (cx st) (aT st) (ax st) .none kV doc pm an cdv ct) ⟨us,[]⟩=pure (ps.zip us)
def FnAt.mk{f:Addr}(a:FnAt K f m q st)(hb:qK m q st ps):∃fd,Kp K m q st f fd/\Binds K fd ps []/\PySem.W.keepIn K (.ref f)=true:=by
 obtain⟨oc,kV,doc,pm,cdv,ct,od,an,osl,l,cc,k⟩:=a
 exact⟨_,lq l cc k,(lq l cc k).binds hb,k⟩
def HL(K:Vo)(x:Str)(st:Stmt):Prop:=∃f,PySem.W.nsIn K mainGlobals x=some (some (.ref f))/\FnAt K f x x st
def HL.own(X:K.In h)(G:h.Ns mainGlobals mg)(a:HL K x st)(hb:qK x x st ps):bh K mg x st ps:=by
 obtain⟨f,n,a⟩:=a
 obtain⟨fd,F,b,k⟩:=a.mk hb
 exact⟨f,fd,F,b,k,RI X G n⟩
def HL.law{fa:Addr}(X:K.In h)(G:h.Ns mainGlobals mg)(a:HL K x st)(hfa:mg x=some (.ref fa))(hb:qK x x st ps):∃kV doc pm an cdv ct,EC K mg x st ps fa (PySem.W.fnOf x x (cx st) (aT st) (ax st) .none kV doc pm an cdv ct):=by
 obtain⟨f,n,oc,kV,doc,pm,cdv,ct,od,an,osl,l,cc,k⟩:=a
 cases hfa.symm.trans (RI X G n)
 exact⟨kV,doc,pm,an,cdv,ct,lq l cc k,(lq l cc k).binds hb,k,hfa⟩
def zK{z:Str}(X:K.In h)(G:h.Ns mainGlobals mg)(a:∃t,PySem.W.nsIn K mainGlobals x=some (some (.str z t))):∃t,mg x=some (.str z t):=let ⟨t,e⟩:=a;⟨t,RI X G e⟩
def Ln(K:Vo)(c q:Str)(st:Stmt)(fl:Vs):Prop:=∃C f,PySem.W.nsIn K mainGlobals c=some (some (.ref C))/\PySem.W.findIn K (.ref C) "__init__" = some (some (.ref f))/\PySem.W.isFn K (.ref f)=true/\FnAt K f "__init__" q st/\PySem.W.keepIn K (.ref C)=true/\
 PySem.W.findIn K (.ref C) "__setattr__" = some (some (.builtin "object.__setattr__"))/\PySem.W.findIn K (.ref C) "__getattribute__" = some (some (.builtin "BaseException.__getattribute__"))/\PySem.W.findIn K (.ref C) "__getattr__" = some none/\
 PySem.W.mroIn K C (.type "BaseException")=some true/\PySem.W.mroIn K C (.type "object")=some true/\PySem.W.findIn K (.ref C) "__class__" = some (some (.builtin "object.__class__"))/\
 PySem.W.specialIn K (.builtin "object.__class__") "__get__" = some (some (.builtin "getset_descriptor.__get__"))/\PySem.W.takesIn K (.builtin "object.__class__")=some true/\
 (iy K C&&(PySem.W.kitOne K (.ref C) (.type "ValueError") == some true)&&fl.all fun f=>sE (PySem.W.findIn K (.ref C) f))=true
def Ln.ek(a:Ln K c q st fl):∃C,G8 K c C/\ExcK K C/\PySem.W.kitOne K (.ref C) (.type "ValueError")=some true/\∀f∈fl,NoAttr K C f:=by
 obtain⟨C,f,n,i1,i2,i3,i4,e1,e2,e3,e4,e5,e6,e7,e8,r⟩:=a
 simp only[Qs,QG]at r
 obtain⟨⟨r1,r2⟩,r3⟩:=r
 exact⟨C,n,⟨r1,e1,e2,e3,e4,e5,e6,e7,e8⟩,eq_of_beq r2,fun f hf=>qJ (r3 f hf)⟩
def Ln.xc(X:K.In h)(G:h.Ns mainGlobals mg)(a:Ln K c q st fl)(hb:qK "__init__" q st ps):Fw K mg c q st ps fl:=by
 obtain⟨C',n',ek,_,na⟩:=a.ek
 obtain⟨C,f,n,i1,i2,i3,i4,_⟩:=a
 have e:=G8.inj (c:=c) n' n;subst e
 obtain⟨fd,F,b,kp⟩:=i3.mk hb
 exact⟨_,f,fd,F,b,n,RI X G n,ek,na,i1,i2,i4⟩
def nM(X:K.In h)(G:h.Ns mainGlobals mg)(a:∃C,PySem.W.nsIn K mainGlobals c=some (some (.ref C))):wB K mg c:=let ⟨C,e⟩:=a;⟨C,RI X G e,e⟩
def M1(K:Vo)(D:Str)(cs:Vs):Prop:=∃C,PySem.W.nsIn K mainGlobals D=some (some (.ref C))/\PySem.W.typeIn K (.ref C)=some (.type "type")/\PySem.W.hasDictIn K C=true/\PySem.W.mroIn K C (.type "BaseException")=some true/\
 (cs.all fun c=>match PySem.W.nsIn K mainGlobals c with|some (some (.ref B))=>PySem.W.mroIn K B (.ref C) == some true|_=>false)=true
theorem qL{C:Addr}:∀{cs:Vs},(cs.all fun c=>match PySem.W.nsIn K mainGlobals c with|some (some (.ref B))=>PySem.W.mroIn K B (.ref C) == some true|_=>false)=true->JK K C cs
 |[],_=>trivial
 |d::cs,e=>by
  rw[List.all_cons,Qs]at e
  obtain⟨e1,e2⟩:=e
  refine⟨?_,qL e2⟩
  split at e1
  ·rename_i B hB;exact⟨B,hB,eq_of_beq e1⟩
  ·cases e1
def M1.xe(X:K.In h)(G:h.Ns mainGlobals mg){cs:Vs}(a:M1 K x cs):Fx K mg x cs:=by
 obtain⟨C,n,t,d,b,r⟩:=a
 exact⟨C,RI X G n,⟨t,(by obtain⟨cd,hc,_⟩:=PySem.W.any_some d;rw[hc];rfl),b⟩,qL r⟩
def wy{l:List (Str×Str)}(r:∀p∈l,∃q st fl,Ln K p.1 q st fl/\p.2∈fl):IR K l:=by
 induction l with
 |nil=>trivial
 |cons p l ih=>
  obtain⟨q,st,fl,a,hf⟩:=r p (by simp)
  obtain⟨C,n,ek,_,na⟩:=a.ek
  exact⟨⟨C,n,ek,na _ hf⟩,ih fun p' hp=>r p' (by simp[hp])⟩
def yS(K:Vo)(l:List (Str×Str×Bool)):Prop:=(l.all fun t=>match PySem.W.nsIn K mainGlobals t.1,PySem.W.nsIn K mainGlobals t.2.1 with|some (some (.ref C)),some (some (.ref D))=>PySem.W.kitOne K (.ref C) (.ref D) == some t.2.2|_,_=>false)=true
def yT{l:List (Str×Str×Bool)}(e:yS K l)(r:∀p∈l,∃q st fl,Ln K p.1 q st fl):XTab K l:=by
 induction l with
 |nil=>trivial
 |cons p l ih=>
  unfold yS at e
  rw[List.all_cons,Qs]at e
  obtain⟨e1,e2⟩:=e
  obtain⟨c,d,b⟩:=p
  refine⟨?_,ih e2 fun p' hp=>r p' (by simp[hp])⟩
  obtain⟨q,st,fl,a⟩:=r (c,d,b) (by simp)
  obtain⟨C',n',ek,kv,_⟩:=a.ek
  split at e1
  ·rename_i C D h1 h2
   have e:=G8.inj (c:=c) n' h1;subst e
   exact⟨_,D,h1,h2,ek,eq_of_beq e1,kv⟩
  ·cases e1
def fM(X:K.In h)(G:h.Ns mainGlobals mg){l:Vs}(a:(l.all fun x=>sE (PySem.W.nsIn K mainGlobals x))=true)(hx:x∈l:=by decide):mg x=none:=PySem.W.mg_none_of X G (qJ (QG.mp a x hx))
section
variable {f C:Addr} {oc kV doc pm cdv ct:Value} {od an:Option Addr} {osl:Array (Option Value)}
def Gx(n:PySem.W.nsIn K mainGlobals x=some (some (.ref f)))(l:K.lookup f=some ⟨oc,od,.func (PySem.W.fnOf x x (cx st) (aT st) (ax st) .none kV doc pm an cdv ct),osl⟩)(cc:PySem.W.codeIn K cdv x=true)(k:PySem.W.keepIn K (.ref f)=true):HL K x st:=⟨f,n,oc,kV,doc,pm,cdv,ct,od,an,osl,l,cc,k⟩
def Gy(n:PySem.W.nsIn K mainGlobals c=some (some (.ref C)))(e:PySem.W.findIn K (.ref C) "__init__" = some (some (.ref f)))(i:PySem.W.isFn K (.ref f)=true)(l:K.lookup f=some ⟨oc,od,.func (PySem.W.fnOf "__init__" q (cx st) (aT st) (ax st) .none kV doc pm an cdv ct),osl⟩)(cc:PySem.W.codeIn K cdv q=true)(k:PySem.W.keepIn K (.ref f)=true)(kc:PySem.W.keepIn K (.ref C)=true)
  (e1:PySem.W.findIn K (.ref C) "__setattr__" = some (some (.builtin "object.__setattr__"))) (e2:PySem.W.findIn K (.ref C) "__getattribute__" = some (some (.builtin "BaseException.__getattribute__"))) (e3:PySem.W.findIn K (.ref C) "__getattr__" = some none)
  (e4:PySem.W.mroIn K C (.type "BaseException")=some true) (e5:PySem.W.mroIn K C (.type "object")=some true) (e6:PySem.W.findIn K (.ref C) "__class__" = some (some (.builtin "object.__class__")))
  (e7:PySem.W.specialIn K (.builtin "object.__class__") "__get__" = some (some (.builtin "getset_descriptor.__get__"))) (e8:PySem.W.takesIn K (.builtin "object.__class__")=some true)
  (r:(iy K C&&(PySem.W.kitOne K (.ref C) (.type "ValueError") == some true)&&fl.all fun f=>sE (PySem.W.findIn K (.ref C) f))=true):Ln K c q st fl:=⟨C,f,n,e,i,⟨oc,kV,doc,pm,cdv,ct,od,an,osl,l,cc,k⟩,kc,e1,e2,e3,e4,e5,e6,e7,e8,r⟩
def Gz{cs:Vs}(n:PySem.W.nsIn K mainGlobals x=some (some (.ref C)))(t:PySem.W.typeIn K (.ref C)=some (.type "type"))(d:PySem.W.hasDictIn K C=true)(b:PySem.W.mroIn K C (.type "BaseException")=some true)
  (r:(cs.all fun c=>match PySem.W.nsIn K mainGlobals c with|some (some (.ref B))=>PySem.W.mroIn K B (.ref C) == some true|_=>false)=true):M1 K x cs:=⟨C,n,t,d,b,r⟩
def zL(n:PySem.W.nsIn K mainGlobals x=some (some (.ref C))):∃C,PySem.W.nsIn K mainGlobals x=some (some (.ref C)):=⟨C,n⟩
def sk{z:Str}{t:Tok}(n:PySem.W.nsIn K mainGlobals x=some (some (.str z t))):∃t,PySem.W.nsIn K mainGlobals x=some (some (.str z t)):=⟨t,n⟩
end
end
end L3
namespace L2
open PySem PySem.Spec PyProof.Rows
noncomputable def iq:List Value->List Str->Bool
 |[],[]=>true
 | .str z _::r,y::q=>z == y&&iq r q
 |_,_=>false
theorem qM:∀{zs:Vs} {vs:Vv},iq vs zs=true->Vals (zs.map V.str) vs
 |[],[],_=>.nil
 |y::q,v::r,h=>by
  cases v<;>simp only[iq,Qd,Qs,SA]at h
  obtain⟨rfl,h⟩:=h
  exact .cons ⟨_,rfl⟩ (qM h)
 |[],v::r,h=>by cases v<;>simp[iq]at h
 |y::q,[],h=>by simp[iq]at h
noncomputable def yU(o:Obj)(zs:Vs):Bool:=(match o.cls with | .type n=>n == "tuple" | _=>false)&&o.dict.isNone&&(match o.data with | .seq its _=>decide (its.size<=100)&&iq its.toList zs|_=>false)
def zM{K:Vo}{a:Addr}{o:Obj}{zs:Vs}(l:K.lookup a=some o)(h:yU o zs=true):Bn K a zs:=by
 unfold yU at h
 simp only[Qs]at h
 obtain⟨⟨h1,h2⟩,h3⟩:=h
 split at h1
 ·rename_i e1
  split at h3
  ·rename_i its n e3
   simp only[Qs,Qf]at h3
   refine⟨o,its,n,l,?_,by simpa using h2,e3,PZ h3.1 (by decide),qM h3.2⟩
   rw[e1,eq_of_beq h1]
  ·cases h3
 ·cases h1
noncomputable abbrev EI(w:World)(x:Str×Addr×Tok):DictEntry:=⟨PyData.keyHash w.params x.1,.str x.1 x.2.2,.ref x.2.1⟩
noncomputable def sF(K:Vo):List (Str×Addr×Tok)->List (Str×List Str)->Bool
 |[],[]=>true
 |(z,b,_)::r,(y,zs)::q=>z == y&&(match K.lookup b with|some o=>yU o zs|none=>false)&&sF K r q
 |_,_=>false
theorem zN{K:Vo}:∀{xs:List (Str×Addr×Tok)} {fs:List (Str×List Str)},sF K xs fs=true->K5 K (xs.map fun x=>((Sum.inr x.1:aZ),V.ref x.2.1)) fs
 |[],[],_=>.nil
 |(z,b,t)::r,(y,zs)::q,h=>by
  simp only[sF,Qs,SA]at h
  obtain⟨⟨rfl,h1⟩,h2⟩:=h
  split at h1
  ·rename_i o e
   exact .cons (zM e h1) (zN h2)
  ·cases h1
 |[],_::_,h=>by simp[sF]at h
 |_::_,[],h=>by simp[sF]at h
def Cl(P:Program)(w:World){K:Vo}{fs:List (Str×List Str)}(xs:List (Str×Addr×Tok))(ep:Nat)(nd:(xs.map (·.1)).Nodup)(hk:sF K xs fs=true) :
  ∃kvs vs,KV kvs vs/\Obj.IsDictOf (aP P w) { cls:=.type "dict",data:=.dict (xs.map (EI w)).toArray ep } vs/\K5 K kvs fs:=by
 refine⟨_,xs.map fun x=>((Sum.inr x.1:aZ),Value.ref x.2.1),?_,⟨(xs.map (EI w)).toArray,ep,⟨rfl,rfl,rfl⟩,rfl,?_,?_,?_⟩,zN hk⟩
 ·clear hk nd
  induction xs with
  |nil=>exact .nil
  |cons x xs ih=>exact .cons ⟨rfl,rfl⟩ ih
 ·intro e he
  have he':e∈xs.map (EI w):=by simpa using he
  obtain⟨x,_,rfl⟩:=Qt.mp he'
  exact⟨Sum.inr x.1,gN x.1 x.2.2,tQ w x.1⟩
 ·have key:∀ys:List (Str×Addr×Tok),Pairs (aP P w) (ys.map (EI w)) (ys.map fun x=>((Sum.inr x.1:aZ),Value.ref x.2.1)):=by
   intro ys
   induction ys with
   |nil=>exact .nil
   |cons y ys ih=>exact .cons (gN y.1 y.2.2) rfl ih
  exact key xs
 ·rw[QH]
  have key:∀ys:List (Str×Addr×Tok),(ys.map (·.1)).Nodup->(ys.map fun x=>(Sum.inr x.1:aZ)).Nodup:=by
   intro ys
   induction ys with
   |nil=>intro _;exact List.nodup_nil
   |cons y ys ih=>
    intro h
    rw[PL,Qw]at h ⊢
    refine⟨fun hm=>h.1 ?_,ih h.2⟩
    obtain⟨z,hz,e⟩:=Qt.mp hm
    have e':z.1=y.1:=Sum.inr.inj e
    exact Qt.mpr ⟨z,hz,e'⟩
  exact key xs nd
end L2
namespace L3
open PySem L2
section
variable {K:Vo} {h:Heap} {mg:Vr} {x:Str} {f:Addr} {o:Obj} {zs:Vs} {P:Program} {w:World} {fs:List (Str×List Str)}
def M2(K:Vo)(x:Str)(zs:Vs):Prop:=∃a,PySem.W.nsIn K mainGlobals x=some (some (.ref a))/\Bn K a zs
def M2.ts(X:K.In h)(G:h.Ns mainGlobals mg)(a:M2 K x zs):∃a,mg x=some (.ref a)/\Bn K a zs:=let ⟨a,n,k⟩:=a;⟨a,RI X G n,k⟩
def GA(n:PySem.W.nsIn K mainGlobals x=some (some (.ref f)))(l:K.lookup f=some o)(b:yU o zs=true):M2 K x zs:=⟨f,n,zM l b⟩
def M4(P:Program)(w:World)(K:Vo)(x:Str)(fs:List (Str×List Str)):Prop:=∃a,PySem.W.nsIn K mainGlobals x=some (some (.ref a))/\KF P w K a fs
def M4.kf(X:K.In h)(G:h.Ns mainGlobals mg)(a:M4 P w K x fs):∃a,mg x=some (.ref a)/\KF P w K a fs:=let ⟨a,n,k⟩:=a;⟨a,RI X G n,k⟩
def GB(n:PySem.W.nsIn K mainGlobals x=some (some (.ref f)))(l:K.lookup f=some o)(s:(f == sysModules)=false)(v:∃kvs vs,KV kvs vs/\Obj.IsDictOf (aP P w) o vs/\K5 K kvs fs):M4 P w K x fs:=
 let ⟨kvs,vs,a,b,c⟩:=v
 ⟨f,n,kvs,⟨s,o,vs,l,a,b⟩,c⟩
end
end L3
namespace G09
open PySem L2 L3
def Cm{l:PySem.W.OpenLaw}{w:World}{K:Vo}{h:Heap}{mg:Vr}{fa:Addr}(X:K.In h)(G:h.Ns mainGlobals mg)(hfa:mg "law" = some (.ref fa))
  (Il:HL K "common" (top 11))
  (G2:HL K "read_figures" (top 12))
  (GO:HL K "read_from_nought_on" (top 13))
  (HX:HL K "is_name" (top 17))
  (Hk:HL K "read_name" (top 20))
  (G_:HL K "read_things" (top 21))
  (Hl:HL K "read_word" (top 22))
  (Ha:HL K "split_words" (top 23))
  (HY:HL K "word_at" (top 24))
  (Hm:HL K "read_part" (top 25))
  (Hn:HL K "read_body" (top 26))
  (Ho:HL K "_law_deal" (top 28))
  (Hq:HL K "_law_draw" (top 29))
  (Hg:HL K "_law_signs" (top 30))
  (HA:HL K "_law_low" (top 31))
  (Hr:HL K "_law_kept" (top 32))
  (Hs:HL K "_law_name" (top 33))
  (GX:HL K "_law_any_leaf" (top 34))
  (GY:HL K "_law_any_body" (top 35))
  (GT:HL K "_law_cost_text" (top 36))
  (GU:HL K "_law_body_text" (top 37))
  (G3:HL K "_law_is_name" (top 38))
  (Ht:HL K "_law_tree" (top 39))
  (G4:HL K "_law_cost_of" (top 40))
  (GZ:HL K "_law_thing_of" (top 41))
  (G5:HL K "_law_body_of" (top 42))
  (G0:HL K "_law_body_due" (top 43))
  (Hb:HL K "_law_spoilt" (top 44))
  (Hh:HL K "_law_heard" (top 45))
  (Hu:HL K "_law_read" (top 46))
  (HB:HL K "_law_odd" (top 47))
  (HZ:∃t,PySem.W.nsIn K mainGlobals "FIGURES" = some (some (.str "0123456789" t)))
  (IB:M4 l.prog w K "FORMS" [("pay",["cost"]),("put",["name","things"]),("then",["body","body"]),("either",["body","body"]),("take",["name","things","body","body"]),("often",["body"]),("use",["name"])])
  (Hi:M2 K "KEPT_WORDS" ["jars","deed","rest","pay","put","then","either","take","often","use"])
  (H_:∃t,PySem.W.nsIn K mainGlobals "LETTERS" = some (some (.str "abcdefghijklmnopqrstuvwxyz" t)))
  (HC:∃C,PySem.W.nsIn K mainGlobals "DueError" = some (some (.ref C)))
  (Ia:∃C,PySem.W.nsIn K mainGlobals "BadText" = some (some (.ref C)))
  (Ib:∃C,PySem.W.nsIn K mainGlobals "NoHouse" = some (some (.ref C)))
  (IC:∃C,PySem.W.nsIn K mainGlobals "Stuck" = some (some (.ref C)))
  (Ic:∃C,PySem.W.nsIn K mainGlobals "TooLong" = some (some (.ref C)))
  (Ie:∃C,PySem.W.nsIn K mainGlobals "NoStory" = some (some (.ref C)))
  (Ig:∃C,PySem.W.nsIn K mainGlobals "TooMany" = some (some (.ref C)))
  (ID:∃C,PySem.W.nsIn K mainGlobals "NoRow" = some (some (.ref C)))
  (GJ:Ln K "BadText" "BadText.__init__" (mt 2 0) ["row"])
  (HD:M1 K "DueError" ["BadText"])
  (KN:yS K Jw)
  (JH:((["ValueError","abs","all","bool","int","isinstance","len","list","max","range","repr","reversed","str","tuple","zip"]:Vs).all fun x=>sE (PySem.W.nsIn K mainGlobals x))=true)
  (KO:HL K "law" (top 48))
  : ∃fd:FuncData,FL fd ["_law_script"]/\(∀(s:Shared) (v:Value),BindsTo s fd ⟨[v],[]⟩ [("_law_script",v)])/\∀base:Heap,K.In base->base.Ns mainGlobals mg->dY l.prog w K mg base nO 76 fa fd ["_law_script"] (Cs K 1 nz):=by
 obtain⟨kV,doc,pm,an,cdv,ct,O⟩:=KO.law X G hfa (ps:=["_law_script"]) (fun _ _ _ _ _ _=>mH fun _=>rfl)
 exact⟨_,by rfl,fun s v=>.of_eq rfl,fun base _ _=>(BQ (P:=l.prog) (w:=w) (base:=base) ⟨Il.own X G (fun _ _ _ _ _ _=>wx fun _ _=>rfl),
  G2.own X G (fun _ _ _ _ _ _=>mH fun _=>rfl),
  GO.own X G (fun _ _ _ _ _ _=>mH fun _=>rfl),
  HX.own X G (fun _ _ _ _ _ _=>mH fun _=>rfl),
  Hk.own X G (fun _ _ _ _ _ _=>mH fun _=>rfl),
  G_.own X G (fun _ _ _ _ _ _=>mH fun _=>rfl),
  Hl.own X G (fun _ _ _ _ _ _=>wx fun _ _=>rfl),
  Ha.own X G (fun _ _ _ _ _ _=>mH fun _=>rfl),
  HY.own X G (fun _ _ _ _ _ _=>wx fun _ _=>rfl),
  Hm.own X G (fun _ _ _ _ _ _=>wx fun _ _=>rfl),
  Hn.own X G (fun _ _ _ _ _ _=>mH fun _=>rfl),
  Ho.own X G (fun _ _ _ _ _ _=>wx fun _ _=>rfl),
  Hq.own X G (fun _ _ _ _ _ _=>wx fun _ _=>rfl),
  Hg.own X G (fun _ _ _ _ _ _ us hl=>match us,hl with|[],_=>rfl),
  HA.own X G (fun _ _ _ _ _ _=>wx fun _ _=>rfl),
  Hr.own X G (fun _ _ _ _ _ _ us hl=>match us,hl with|[],_=>rfl),
  Hs.own X G (fun _ _ _ _ _ _=>mH fun _=>rfl),
  GX.own X G (fun _ _ _ _ _ _=>wx fun _ _=>rfl),
  GY.own X G (fun _ _ _ _ _ _=>Gw fun _ _ _ _=>rfl),
  GT.own X G (fun _ _ _ _ _ _=>mH fun _=>rfl),
  GU.own X G (fun _ _ _ _ _ _=>mH fun _=>rfl),
  G3.own X G (fun _ _ _ _ _ _=>mH fun _=>rfl),
  Ht.own X G (fun _ _ _ _ _ _=>mH fun _=>rfl),
  G4.own X G (fun _ _ _ _ _ _=>mH fun _=>rfl),
  GZ.own X G (fun _ _ _ _ _ _=>wx fun _ _=>rfl),
  G5.own X G (fun _ _ _ _ _ _=>mH fun _=>rfl),
  G0.own X G (fun _ _ _ _ _ _=>mH fun _=>rfl),
  Hb.own X G (fun _ _ _ _ _ _=>wx fun _ _=>rfl),
  Hh.own X G (fun _ _ _ _ _ _=>mH fun _=>rfl),
  Hu.own X G (fun _ _ _ _ _ _=>mH fun _=>rfl),
  HB.own X G (fun _ _ _ _ _ _ us hl=>match us,hl with|[],_=>rfl),
  fM (x:="ValueError") X G JH,
  fM (x:="abs") X G JH,
  fM (x:="all") X G JH,
  fM (x:="bool") X G JH,
  fM (x:="int") X G JH,
  fM (x:="isinstance") X G JH,
  fM (x:="len") X G JH,
  fM (x:="list") X G JH,
  fM (x:="max") X G JH,
  fM (x:="range") X G JH,
  fM (x:="repr") X G JH,
  fM (x:="reversed") X G JH,
  fM (x:="str") X G JH,
  fM (x:="tuple") X G JH,
  fM (x:="zip") X G JH,
  zK X G HZ,
  IB.kf X G,
  Hi.ts X G,
  zK X G H_,
  nM X G HC,
  nM X G Ia,
  nM X G Ib,
  nM X G IC,
  nM X G Ic,
  nM X G Ie,
  nM X G Ig,
  nM X G ID,
  GJ.xc X G (fun _ _ _ _ _ _=>wx fun _ _=>rfl),
  HD.xe X G,
  wy (by intro p hp;simp only[MW,PM,P7,Qx]at hp;rcases hp with rfl;exact⟨_,_,_,GJ,by decide⟩),
  yT KN (by intro p hp;simp only[Jw,PM,P7,Qx]at hp;rcases hp with rfl|rfl|rfl|rfl|rfl|rfl|rfl;exact⟨_,_,_,GJ⟩;exact⟨_,_,_,GJ⟩;exact⟨_,_,_,GJ⟩;exact⟨_,_,_,GJ⟩;exact⟨_,_,_,GJ⟩;exact⟨_,_,_,GJ⟩;exact⟨_,_,_,GJ⟩)⟩ O).ok⟩
def FU{l:PySem.W.OpenLaw}{q:Program}{loose:Vs}{XP:(Vr)->Heap->Prop}{YP:World->Heap->Prop}{d:DefRec}{K:Params->PySem.W.Frag}(hn:l.most=some 63)(hdf:d.params.defaults=[])
  (hY:∀(w:World) (h:Heap),YP w h->(K w.params).In h)
  (F:∀(w:World) (mg:Vr) (fa:Addr) (h:Heap),(K w.params).In h->h.Ns mainGlobals mg->mg d.name=some (.ref fa)->
   ∃fd:FuncData,FL fd ["_law_script"]/\(∀(s:Shared) (u:Value),BindsTo s fd ⟨[u],[]⟩ [("_law_script",u)])/\∀base:Heap,(K w.params).In base->base.Ns mainGlobals mg->dY l.prog w (K w.params) mg base nO 76 fa fd ["_law_script"] (Cs (K w.params) 1 nz)) :
  PySem.W.WalkO q loose XP YP l.row.toRowW d [] (fun f vs=>PySem.call f vs):=
 L2.xb (n:=63) (k:=76) (x:="_law_script") (CX:=fun _=>nO) (sp:=fun w=>Cs (K w.params) 1 nz) hn (by decide) hdf ⟨rfl,by decide,by decide,rfl⟩ hY F (fun _ _ a ns hl hO hS=>Fq hO hS (ww ns hl)) fun _ _ _ _ _ z=>z
end G09
local macro_rules | `(tactic| walk_at "k")=>`(tactic| (apply L3.Gx; k_is; k_is; k_is; k_is))
local macro_rules | `(tactic| walk_at "e")=>`(tactic| (apply L3.Gy; k_is; k_is; k_is; k_is; k_is; k_is; k_is; k_is; k_is; k_is; k_is; k_is; k_is; k_is; k_is; kernel_rfl))
local macro_rules | `(tactic| walk_at "t")=>`(tactic| (apply L3.Gz; k_is; k_is; k_is; k_is; kernel_rfl))
open PySem PySem.W PyProof.Rows
set_option maxRecDepth 100000 in
set_option maxHeartbeats 0 in
theorem PySem.Challenge.cw_dueworth_k09_texts_of_no_body_holds : PySem.Challenge.rw_dueworth_k09_texts_of_no_body.Holds := by
 w_on; refine holds_law E09.said fun said => ?_
 refine holds_open (q := E09.vw) (loose := ["FORMS"]) (Xt := fun s => (xlAt E09.vw [] s && recOk (RowW.records E09.rr) s)) (XP := XL E09.vw []) (N := 6084)
  (Yf := Hook.obs E09.hk) (Ya := Hook.val E09.hk) (YP := Hook.says (kHook E09.early.heap_1 E09.as E09.FV)) E09.left (Hook.of E09.hk) (Hook.keeps E09.hk) (fun s e => xl_of s (R6.mp e).1)
  XL.keeps rfl rfl rfl (fun s e => recFacts_of (R6.mp e).2) rfl (by assumption)
  (by decide +kernel) ⟨rfl, rfl, rfl, rfl, rfl, by decide +kernel⟩ ?hw ?hc
 (case hw => w_witness2)
 k_fill
 refine G09.FU (l := PySem.Challenge.rw_dueworth_k09_texts_of_no_body) rfl rfl (fun w h Y => PySem.W.kIn_of Y) ?F
 case F =>
  intro w mg fa h KX G hmg
  refine' G09.Cm KX G hmg ?Il ?G2 ?GO ?HX ?Hk ?G_ ?Hl ?Ha ?HY ?Hm ?Hn ?Ho ?Hq ?Hg ?HA ?Hr ?Hs ?GX ?GY ?GT ?GU ?G3 ?Ht ?G4 ?GZ ?G5 ?G0 ?Hb ?Hh ?Hu ?HB ?HZ ?IB ?Hi ?H_ ?HC ?Ia ?Ib ?IC ?Ic ?Ie ?Ig ?ID ?GJ ?HD ?KN ?JH ?KO
  (case Il => walk_at "k")
  (case G2 => walk_at "k")
  (case GO => walk_at "k")
  (case HX => walk_at "k")
  (case Hk => walk_at "k")
  (case G_ => walk_at "k")
  (case Hl => walk_at "k")
  (case Ha => walk_at "k")
  (case HY => walk_at "k")
  (case Hm => walk_at "k")
  (case Hn => walk_at "k")
  (case Ho => walk_at "k")
  (case Hq => walk_at "k")
  (case Hg => walk_at "k")
  (case HA => walk_at "k")
  (case Hr => walk_at "k")
  (case Hs => walk_at "k")
  (case GX => walk_at "k")
  (case GY => walk_at "k")
  (case GT => walk_at "k")
  (case GU => walk_at "k")
  (case G3 => walk_at "k")
  (case Ht => walk_at "k")
  (case G4 => walk_at "k")
  (case GZ => walk_at "k")
  (case G5 => walk_at "k")
  (case G0 => walk_at "k")
  (case Hb => walk_at "k")
  (case Hh => walk_at "k")
  (case Hu => walk_at "k")
  (case HB => walk_at "k")
  (case HZ => apply L3.sk; k_is)
  (case IB => apply L3.GB; k_is; k_is; rfl; exact L2.Cl _ w [("pay", _, _), ("put", _, _), ("then", _, _), ("either", _, _), ("take", _, _), ("often", _, _), ("use", _, _)] _ (by decide +kernel) (by kernel_rfl))
  (case Hi => apply L3.GA; k_is; k_is; kernel_rfl)
  (case H_ => apply L3.sk; k_is)
  (case HC => apply L3.zL; k_is)
  (case Ia => apply L3.zL; k_is)
  (case Ib => apply L3.zL; k_is)
  (case IC => apply L3.zL; k_is)
  (case Ic => apply L3.zL; k_is)
  (case Ie => apply L3.zL; k_is)
  (case Ig => apply L3.zL; k_is)
  (case ID => apply L3.zL; k_is)
  (case GJ => walk_at "e")
  (case HD => walk_at "t")
  (case KN => unfold L3.yS; kernel_rfl)
  (case JH => kernel_rfl)
  (case KO => walk_at "k")
#print axioms PySem.Challenge.cw_dueworth_k09_texts_of_no_body_holds
