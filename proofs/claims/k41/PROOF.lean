import PyProof.Rows.All
import Wide.All
import OpenK.AllK
import Wide.FinOn
import Lean
import PyProof.EqAt
import PyProof.EqKinds
import PyProof.TupleCall
import PySem.Challenge.RW_dueworth_k41_what_shares_show
import Open.Tree
import Open.Head
section
set_option Elab.async false
set_option linter.all false
set_option maxRecDepth 100000
set_option maxHeartbeats 0
abbrev Sl:=@PySem.wpAny_bind
abbrev Sm:=@List.length_map
abbrev Sn:=@List.length_append
abbrev So:=@PySem.Heap.get?_push_of_some
abbrev Ss:=@Nat.le_refl
abbrev Su:=@Nat.le_trans
abbrev Sv:=@List.mem_cons
abbrev Sw:=@PySem.Heap.lt_size
abbrev Sx:=@PySem.wpAny_pure
abbrev Sy:=@List.size_toArray
abbrev SA:=@List.getElem?_map
abbrev SD:=@Bool.false_eq_true
abbrev SE:=@decide_eq_true_eq
abbrev SG:=@PySem.Heap.get?_push_size
abbrev SH:=@List.map_cons
abbrev SI:=@List.mem_append
abbrev SJ:=@Bool.false_bne
abbrev SK:=@List.length_singleton
abbrev SM:=@List.mem_singleton
abbrev SN:=@List.length_cons
abbrev SQ:=@List.mem_map
abbrev SR:=@List.getElem?_eq_getElem
abbrev SS:=@List.not_mem_nil
abbrev SV:=@List.map_map
abbrev SW:=@Nat.lt_of_lt_of_le
abbrev SX:=@PySem.PassesOwn.never
abbrev SY:=@List.mem_of_getElem?
abbrev Tc:=@decide_eq_false
abbrev Td:=@List.getElem?_eq_some_iff
abbrev Te:=@List.map_append
abbrev Tf:=@Nat.lt_of_le_of_lt
abbrev Th:=@Nat.ne_of_lt
abbrev Ti:=@List.append_nil
abbrev Tj:=@List.length_nil
abbrev Tn:=@Bool.false_ne_true
abbrev To:=@Option.map_eq_some_iff
abbrev Tp:=@decide_eq_true
abbrev Tq:=@List.nil_append
abbrev Tr:=@Nat.zero_le
abbrev Tt:=@if_false
abbrev Tu:=@List.map_nil
abbrev Tv:=@PySem.wpAny_pyIter_tuple
abbrev Tw:=@List.replicate_succ
abbrev Tz:=@Option.some.inj
abbrev TF:=@Bool.true_bne
abbrev TH:=@if_true
abbrev TJ:=@Nat.zero_add
abbrev TL:=@List.mem_append_right
abbrev TM:=@PySem.wpAny_field
abbrev TN:=@PySem.wpAny_seqItems
abbrev TQ:=@Nat.le_add_right
abbrev TR:=@PySem.wpAny_pyIter_list
abbrev TU:=@List.length_replicate
abbrev TV:=@List.map_congr_left
abbrev TX:=@List.getElem?_append_left
abbrev TY:=@List.length_take
abbrev TZ:=@PySem.wpAny_loadPart'
abbrev T3:=@List.take_length
abbrev T4:=@PySem.wpAny_setField_rec
abbrev T5:=@PyProof.Rows.callWith_type1
abbrev T6:=@congrArg
abbrev T7:=@PyProof.Rows.slot_tuple_getitem
abbrev T9:=@or_false
abbrev Ua:=@List.getElem?_eq_none
abbrev Ub:=@List.flatMap_append
abbrev Uc:=@List.nodup_cons
abbrev Ud:=@List.getElem?_append_right
abbrev Ue:=@PySem.wpAny_callSpecial?_slot
abbrev Ug:=@List.mem_filter
abbrev Uh:=@PySem.Heap.size_push
abbrev Ui:=@Bool.not_false
abbrev Uj:=@List.take_succ
abbrev Uk:=@List.fst_mem_of_mem_zipIdx
abbrev Ul:=@Nat.lt_irrefl
abbrev Um:=@List.length_zip
abbrev Uo:=@List.mem_flatMap
abbrev Up:=@List.getElem?_range
abbrev Uq:=@PySem.wpAny_newObj_type
abbrev Ur:=@List.flatMap_cons
abbrev Us:=@Int.mul_nonneg
abbrev Ut:=@List.length_drop
abbrev Uu:=@Nat.pow_lt_pow_right
abbrev Uv:=@Bool.not_true
abbrev Uw:=@List.mem_range
abbrev Ux:=@PySem.wpAny_truthy_bool
abbrev Uy:=@PySem.Heap.get?_update_other
abbrev Uz:=@List.append_assoc
abbrev UA:=@PySem.Heap.IsTuple.push
abbrev UB:=@List.length_range
abbrev UC:=@Array.length_toList
abbrev UD:=@List.of_mem_zip
abbrev UE:=@List.getElem?_zip_eq_some
abbrev UG:=@List.length_filter_le
abbrev UH:=@List.mem_cons_self
abbrev UI:=@PySem.wpAny_call_entry
abbrev UJ:=@PySem.Heap.IsList.push
abbrev UK:=@List.mem_cons_of_mem
abbrev UL:=@List.mem_of_mem_take
abbrev UM:=@decide_true
abbrev UN:=@Nat.pow_le_pow_right
abbrev UO:=@Ne.symm
abbrev UP:=@List.getElem?_replicate
abbrev UQ:=@List.flatten_cons
abbrev UR:=@Int.eq_ofNat_of_zero_le
abbrev US:=@PySem.F.slot_zip_next
abbrev UT:=@Nat.not_le
abbrev UU:=@PySem.mem_of_lookup
abbrev UW:=@Nat.ne_of_gt
abbrev UX:=@PySem.wpAny_letGo
abbrev UY:=@Int.mul_pos
abbrev UZ:=@Bool.and_true
abbrev U0:=@List.all_eq_true
abbrev U1:=@List.any_eq_true
abbrev U3:=@PyProof.Rows.assignInOrder_cons
abbrev U4:=@PySem.Calls.spliced_cons
abbrev U5:=@PySem.wpAny_Call_Name_kw
abbrev U6:=@PySem.call_meets
abbrev U7:=@PySem.F.slot_tuple_iterator_next
abbrev U8:=@List.filter_append
abbrev U9:=@PySem.Heap.get?_update_self
abbrev Vb:=@List.take_append_drop
abbrev Vc:=@PySem.wpAny_passesOwn
abbrev Vd:=@Bool.eq_iff_iff
abbrev Ve:=@List.mem_append_left
abbrev Vf:=@Int.toNat_natCast
abbrev Vg:=@Int.le_of_lt
abbrev Vh:=@Int.mul_comm
abbrev Vi:=@decide_false
abbrev Vj:=@PySem.wpAny_mono
abbrev Vk:=@PySem.wpAny_holding
abbrev Vl:=@PySem.wpAny_onRaise
abbrev Vm:=@Int.mul_ediv_cancel_left
abbrev Vn:=@PySem.F.slot_tuple_index
abbrev Vp:=@Int.fdiv_eq_ediv_of_dvd
abbrev Vt:=@PySem.F.plainAttrs_list
abbrev Vx:=@PySem.F.plain_min_loop
abbrev Vy:=@decide_eq_false_iff_not
abbrev Vz:=@true_and
abbrev VA:=@Nat.le_of_lt
abbrev VB:=@PySem.wpAny_rule
abbrev VC:=@PySem.Calls.callWith_builtin
abbrev VD:=@Array.getElem?_eq_none
abbrev VE:=@Int.emod_lt_of_pos
abbrev VF:=@Int.natCast_pos
abbrev VG:=@Int.ediv_nonneg
abbrev VH:=@List.any_cons
abbrev VI:=@PySem.Calls.spliced_nil
abbrev VJ:=@Bool.and_eq_true_iff
abbrev VL:=@Int.natAbs_mul
abbrev VM:=@List.getElem?_mapIdx
abbrev VN:=@Nat.mul_le_mul
abbrev VO:=@Nat.mul_le_mul_right
abbrev VP:=@List.getD_eq_getElem?_getD
abbrev VQ:=@Nat.lt_trans
abbrev VR:=@PySem.F.slot_tuple_mul
abbrev VS:=@List.map_flatMap
abbrev VT:=@Array.getElem?_eq_getElem
abbrev VU:=@List.length_flatMap
abbrev VW:=@PySem.F.args_tuple_add_2
abbrev VX:=@Int.mul_assoc
abbrev VY:=@PySem.F.plainAttrs_tuple
abbrev VZ:=@PySem.F.type_tuple_index
abbrev V0:=@List.length_set
abbrev V1:=@PySem.wpAny_updateSeq
abbrev V2:=@List.forIn_cons
abbrev V3:=@Int.emod_nonneg
abbrev V4:=@PySem.tupleKind_room_in1
abbrev V5:=@List.length_mapIdx
abbrev V6:=@List.length_zipIdx
abbrev V7:=@Int.mul_right_comm
abbrev V8:=@PySem.F.entry_tuple_add
abbrev V9:=@PySem.wpAny_bindName
abbrev Wa:=@PySem.F.slot_tuple_add
abbrev Wb:=@List.reverse_cons
abbrev Wc:=@PySem.F.args_zip_next_1
abbrev We:=@PySem.wpAny_pyIter_enum
abbrev Wf:=@List.take_of_length_le
abbrev Wh:=@List.zip_map
abbrev Wi:=@Nat.le_mul_of_pos_left
abbrev Wj:=@List.eraseIdxIfInBounds_toArray
abbrev Wk:=@Nat.le_of_ble_eq_true
abbrev Wl:=@Bool.and_eq_true
abbrev Wm:=@List.getElem_mem
abbrev Wn:=@PySem.F.entry_zip_next
abbrev Wo:=@PySem.wpAny_pyIter_zip
abbrev Wq:=@List.filter_cons
abbrev Wr:=@Int.ediv_le_self
abbrev Ws:=@PySem.wpAny_standAt
abbrev Wt:=@PySem.plainId_quiet
abbrev Wu:=@List.sum_cons
abbrev Ww:=@PySem.Calls.evalArgs_plain
abbrev Wx:=@PySem.wpAny_updateSeq_pair
abbrev Wy:=@List.mem_of_mem_drop
abbrev Wz:=@Int.le_refl
abbrev WA:=@PySem.wpAny_execs_nil
abbrev WB:=@PySem.F.slot_int_rmul
abbrev WC:=@Option.map_some
abbrev WD:=@beq_eq_false_iff_ne
abbrev WE:=@List.filterMap_cons
abbrev WG:=@PySem.Heap.SameBut.update
abbrev WH:=@List.sum_append_nat
abbrev WI:=@Nat.succ_mul
abbrev WJ:=@List.getElem?_drop
abbrev WK:=@List.nodup_nil
abbrev WL:=@Int.gcd_zero_right
abbrev WM:=@Int.mul_le_mul
abbrev WN:=@List.mem_replicate
abbrev WO:=@List.take_sublist
abbrev WQ:=@Option.isSome_map
abbrev WR:=@Option.some.injEq
abbrev WS:=@Nat.lt_succ_of_lt
abbrev WT:=@List.ext_getElem?
abbrev WU:=@of_decide_eq_true
abbrev WV:=@Bool.not_eq_true'
abbrev WW:=@PySem.W.mg_of
abbrev WX:=@decide_eq_decide
abbrev WY:=@Nat.le_of_eq
abbrev WZ:=@Nat.succ.inj
namespace ET
open PySem PySem.W PyProof.Rows
def jj(tb:String→Option Builtin)(p:Program)(w:World)(n₀:Nat)(ann:Option Value):Nat→SharedT→Thread→Option SharedT
 |0,_,_=>none
 |n+1,s,t=>match through t with
  |true=>some s
  |false=>match stepOk n₀ ann t with
   |false=>none
   |true=>match stepT (denote tb) p w s t with
    |some x=>jj tb p w n₀ ann n x.1 x.2
    |none=>none
theorem nG{tb:String→Option Builtin}{p:Program}{w:World}{n₀:Nat}{ann:Option Value}:∀{n:Nat} {s s':SharedT} {t:Thread},jj tb p w n₀ ann n s t=some s'→topRun tb p w n₀ ann n s.abs t=some s'.abs
 |0,_,_,_,h=>by cases h
 |n+1,s,s',t,h=>by
  unfold jj at h
  unfold topRun
  cases he:through t with
  |true=>rw[he]at h;cases h;rfl
  |false=>
   rw[he]at h
   cases hk:stepOk n₀ ann t with
   |false=>rw[hk]at h;cases h
   |true=>
    rw[hk]at h
    cases hs:stepT (denote tb) p w s t with
    |none=>rw[hs]at h;cases h
    |some r=>rw[hs]at h;rw[stepT_spec hs];exact nG h
def DF:List Obj→BT→Nat→Option (BT×Nat)
 |[],t,n=>some (t,n)
 |o::os,t,n=>match ((t.ins n o).get n).isSome with
  |true=>DF os (t.ins n o) (n+1)
  |false=>none
theorem sM{life:Life}:∀{os:List Obj} {t t':BT} {n n':Nat},DF os t n=some (t',n')→absHeap t' n' life=⟨(absHeap t n life).objs++os.toArray,life⟩
 |[],t,t',n,n',h=>by cases h;simp[absHeap]
 |o::os,t,t',n,n',h=>by
  unfold DF at h
  cases g:((t.ins n o).get n).isSome with
  |false=>rw[g]at h;cases h
  |true=>
   rw[g]at h
   rw[sM h,absHeap_ins g]
   simp[Heap.push]
def jm(tb:String→Option Builtin)(p:Program)(w:World)(N:Nat)(s₀:Shared):Option Shared:=
 match s₀.heap.isNs mainGlobals&&s₀.gens.size == 0 with
 |true=>match DF s₀.heap.objs.toList .nil 0 with
  |some x=>match jj tb p w x.2 (s₀.heap.nsMap mainGlobals "__annotations__") N ⟨x.1,x.2,s₀.heap.life,s₀.gens,s₀.drawn,s₀.toks,s₀.os⟩ (topStub p)with
   |some s=>match staticsOk (importedModules p.main.body) s₀.heap s.abs.heap&&namesBound p s.abs.heap&&gensDone s.abs&&laidKept s₀.heap s.abs.heap with
    |true=>some s.abs
    |false=>none
   |none=>none
  |none=>none
 |false=>none
theorem rD{tb:String→Option Builtin}{p:Program}{w:World}{N:Nat}{s₀ s:Shared}(h:jm tb p w N s₀=some s):topFrom tb p w N s₀=some s:=by
 unfold jm at h
 unfold topFrom
 cases h1:s₀.heap.isNs mainGlobals&&s₀.gens.size == 0 with
 |false=>rw[h1]at h;cases h
 |true=>
  rw[h1]at h
  dsimp only at h ⊢
  cases h2:DF s₀.heap.objs.toList .nil 0 with
  |none=>rw[h2]at h;cases h
  |some x=>
   rw[h2]at h
   dsimp only at h
   have e:=sM (life:=s₀.heap.life) h2
   have e':absHeap x.1 x.2 s₀.heap.life=s₀.heap:=by
    rw[e]
    simp[absHeap,BT.list]
   have n':x.2=s₀.heap.objs.size:=by rw[←e',absHeap_size]
   cases h3:jj tb p w x.2 (s₀.heap.nsMap mainGlobals "__annotations__") N ⟨x.1,x.2,s₀.heap.life,s₀.gens,s₀.drawn,s₀.toks,s₀.os⟩ (topStub p)with
   |none=>rw[h3]at h;cases h
   |some r=>
    rw[h3]at h
    dsimp only at h
    have ea:SharedT.abs ⟨x.1,x.2,s₀.heap.life,s₀.gens,s₀.drawn,s₀.toks,s₀.os⟩=s₀:=by
     unfold SharedT.abs
     rw[e']
    have:=nG h3
    rw[ea,n']at this
    rw[this]
    exact h
theorem rE{tb:String→Option Builtin}{p:Program}{w:World}{N:Nat}{s₀:Shared}{α:Type}{f:Shared→α}{a:α}(h:Option.map f (jm tb p w N s₀)=some a):Option.map f (topFrom tb p w N s₀)=some a:=by
 obtain⟨s,h1,h2⟩:=To.mp h
 rw[rD h1]
 exact T6 some h2
def seenT(p q:Program)(loose:List Str)(Xt:Shared→Bool){α:Type}(Yf:Shared→α)(N:Nat)(u u':World):=
 Option.map (fun c=>Option.map (fun s=>(openSeen q loose (importedModules p.main.body) Xt true s,Yf s)) (jm treeTable p u' N c)) (fencedOpening treeTable p u N)
lay_quick seenT
theorem sN{p q:Program}{loose:List Str}{Xt:Shared→Bool}{α:Type}{Yf:Shared→α}{N:Nat}{u u':World}{r}(h:PySem.W.Fast.tw2787559817927863336 p q loose Xt Yf N u u'=r):seenT p q loose Xt Yf N u u'=r:=by
 rw[PySem.W.Fast.te2787559817927863336]
 exact h
theorem Fu{p q:Program}{loose:List Str}{Xt:Shared→Bool}{α:Type}{Yf:Shared→α}{Ya:World→α}{N:Nat}
  (h:∀u:World,seenT p q loose Xt Yf N u u=some (some (openGood q loose,Ya u))):LeftO p q loose Xt Yf Ya N:=fun u=>by
 obtain⟨c,a,b⟩:=To.mp (h u)
 unfold openEnds
 rw[a]
 exact rE b
theorem vt{p q:Program}{loose:List Str}{Xt:Shared→Bool}{α:Type}{Yf:Shared→α}{Ya:World→α}{N:Nat}(row:String)
  (h0:∀u:World,seenT p q loose Xt Yf N u (u.withFollow row false)=some (some (openGood q loose,Ya (u.withFollow row false))))
  (h1:∀u:World,seenT p q loose Xt Yf N u (u.withFollow row true)=some (some (openGood q loose,Ya (u.withFollow row true)))):LeftO p q loose Xt Yf Ya N:=fun u=>by
 obtain⟨c,a,b⟩:=To.mp (h0 u)
 obtain⟨c',a',b'⟩:=To.mp (h1 u)
 have hc:c'=c:=by rw[a]at a';cases a';rfl
 subst hc
 have b:=rE b
 have b':=rE b'
 have hu:=World.withFollow_self u row
 unfold openEnds
 rw[a]
 cases hb:u.params.followText row<;>rw[hb]at hu
 ·rw[hu]at b
  exact b
 ·rw[hu]at b'
  exact b'
end ET
namespace E41
open PySem PySem.W PyProof.Rows
abbrev tp(i:Nat):Stmt:=PySem.Challenge.pw_dueworth_k41_what_shares_show.main.body.getD i (.Pass ⟨0,0,0,0⟩)
/-- the text without what says nothing -/
def vw:Program:={ PySem.Challenge.pw_dueworth_k41_what_shares_show with main:={ PySem.Challenge.pw_dueworth_k41_what_shares_show.main with body:=[tp 1,tp 2,tp 3,tp 4,tp 5,tp 6,tp 7,tp 9,tp 10,tp 11,tp 12,tp 14,tp 15,tp 16,tp 19,tp 20,tp 21,tp 23,tp 24,tp 25,tp 27,tp 28,tp 29,tp 30,tp 31,tp 32,tp 33,tp 34,tp 35,tp 37,tp 38,tp 40,tp 41,tp 43,tp 44,tp 45,tp 46,tp 47,tp 48,tp 49,tp 50,tp 51,tp 52,tp 53,tp 54,tp 55,tp 56,tp 57,tp 58,tp 59,tp 60,tp 61,tp 62,tp 63,tp 64,tp 65,tp 66,tp 67,tp 68,tp 69] } }
abbrev rr:RowW:=OpenRow.toRowW (OpenLaw.row PySem.Challenge.rw_dueworth_k41_what_shares_show)
local macro_rules | `(tactic| o_head $H)=>`(tactic|
 refine holds_open (q:=vw) (loose:=["SIDES_FROM","parts_reached"]) (Xt:=fun s=>(xlAt vw [] s&&recOk (RowW.records rr) s)) (XP:=XL vw []) (N:=3998)
  (Yf:=Hook.obs $H) (Ya:=Hook.val $H) (YP:=Hook.says $H) ?hl (Hook.of $H) (Hook.keeps $H) (fun s e=>xl_of s (VJ.mp e).1)
  XL.keeps rfl rfl rfl (fun s e=>recFacts_of (VJ.mp e).2) rfl (by assumption)
  (by decide +kernel) ⟨rfl,rfl,rfl,rfl,rfl,by decide +kernel⟩ ?hw ?hc)
/-- the law is well said: by the quick twin of the look,with no twin of the program -/
theorem said:OpenLaw.wellSaid PySem.Challenge.rw_dueworth_k41_what_shares_show=true:=(congrFun PySem.W.Fast.te9446332074065402090 _).trans (by kernel_rfl)
/-- says nothing; what lies in the heap is written down by the way -/
theorem early(h:∀P:Prop,P):PySem.Challenge.rw_dueworth_k41_what_shares_show.Holds:=by
 w_on;refine holds_law said fun said=>?_;k_head
 all_goals exact h _
abbrev as:List Addr:=[2,3,15,17,18,20,21,22,24,25,27,28,29,31,32,34,35,36,38,39,41,42,43,45,46,48,49,50,52,53,55,56,57,60,61,62,63,65,66,68,69,70,72,73,75,76,77,79,80,82,83,84,86,87,89,90,91,93,94,96,97,98,100,101,103,104,105,106,108,109,111,112,113,115,116,118,119,120,122,123,125,126,127,130,131,132,135,136,137,140,141,142,145,146,147,150,151,152,155,156,157,160,161,162,164,165,167,168,169,172,173,174,177,178,179,181,182,184,185,186,188,189,191,192,193,195,196,198,199,200,202,203,205,206,207,209,210,212,213,214,217,218,219,222,223,224,227,228,229,231,232,234,235,236,239,240,241,243,244,246,247,248,250,251,253,254,255,257,258,260,261,262,264,265,267,268,269,271,272,274,275,276,278,279,281,282,283,285,286,288,289,290,292,293,295,296,297,299,300,302,303,304,307,308,309,311,312,314,315,316,318,319,321,322,323,326,327,328,330,331,333,334,335,338,339,340,343,344,345,348,349,350,353,354,355,358,359,360,362,363,365,366,367,369,370,372,373,374,376,377,379,380,381,383,384,386,387,388,390,391,393,394]
theorem GG(P:Params):as=(early.heap_1 P).map (·.1):=by kernel_rfl
noncomputable abbrev hk:Hook:=kHook early.heap_1 as GG
theorem DG(u:World):ET.seenT (OpenLaw.row PySem.Challenge.rw_dueworth_k41_what_shares_show).prog vw ["SIDES_FROM","parts_reached"] (fun s=>(xlAt vw [] s&&recOk (RowW.records rr) s)) (Hook.obs hk) 3998 u (u.withFollow "special-get-raises" false)=some (some (openGood vw ["SIDES_FROM","parts_reached"],Hook.val hk (u.withFollow "special-get-raises" false))):=ET.sN (by kernel_rfl)
theorem DH(u:World):ET.seenT (OpenLaw.row PySem.Challenge.rw_dueworth_k41_what_shares_show).prog vw ["SIDES_FROM","parts_reached"] (fun s=>(xlAt vw [] s&&recOk (RowW.records rr) s)) (Hook.obs hk) 3998 u (u.withFollow "special-get-raises" true)=some (some (openGood vw ["SIDES_FROM","parts_reached"],Hook.val hk (u.withFollow "special-get-raises" true))):=ET.sN (by kernel_rfl)
theorem left:LeftO (OpenLaw.row PySem.Challenge.rw_dueworth_k41_what_shares_show).prog vw ["SIDES_FROM","parts_reached"] (fun s=>(xlAt vw [] s&&recOk (RowW.records rr) s)) (Hook.obs hk) (Hook.val hk) 3998:=ET.vt "special-get-raises" DG DH
end E41
end
open PySem in
abbrev Vq:=Value->Shared->Prop
open PySem in
abbrev Va:=List (Addr×Obj)
open PySem in
abbrev Vo:=PySem.W.Frag
open PySem in
abbrev Vr:=Str->Option Value
open PySem in
abbrev Vs:=List Str
open PySem in
abbrev Vu:=List Int
open PySem in
abbrev Vv:=List Value
open PySem in
abbrev Vw:=Array Value
set_option Elab.async false
set_option linter.all false
set_option maxRecDepth 100000
namespace L2
open PySem PySem.Spec PyProof.Rows
abbrev bI:=Sum Int Str
noncomputable def nH:bI->Value->Bool
 | .inl k,v=>Value.isInt k v
 | .inr x,v=>Value.isStrOf x v
noncomputable def FK(w:World):bI->Int
 | .inl k=>hashInt k
 | .inr x=>hashStr w x
theorem bD:∀{k:bI} {v:Value},nH k v=true->(∃i t,k=Sum.inl i/\v=Value.int i t)\/(∃x t,k=Sum.inr x/\v=Value.str x t)
 | .inl i,v,h=>by
  obtain⟨t,e⟩:=Value.isInt_shape (k:=i) (v:=v) h
  exact .inl ⟨i,t,rfl,e⟩
 | .inr x,v,h=>by
  obtain⟨t,e⟩:=Value.isStrOf_shape (x:=x) (v:=v) h
  exact .inr ⟨x,t,rfl,e⟩
def t_(i:Int)(t:Tok):nH (.inl i) (.int i t)=true:=by simp[nH,Value.isInt]
def j4(x:Str)(t:Tok):nH (.inr x) (.str x t)=true:=by simp[nH,Value.isStrOf]
def A8(a b:Int):decide ((Sum.inl a:bI)=Sum.inl b)=(a == b):=by
 by_cases e:a=b
 ·subst e;simp
 ·have h:¬(Sum.inl a:bI)=Sum.inl b:=fun q=>e (Sum.inl.inj q)
  rw[Tc h]
  exact(WD.mpr e).symm
def A9(a b:Str):decide ((Sum.inr a:bI)=Sum.inr b)=decide (a=b):=by
 by_cases e:a=b
 ·subst e;simp
 ·have h:¬(Sum.inr a:bI)=Sum.inr b:=fun q=>e (Sum.inr.inj q)
  rw[Tc h,Tc e]
def A_(a:Int)(b:Str):decide ((Sum.inl a:bI)=Sum.inr b)=false:=Tc (fun q=>nomatch q)
def Ba(a:Str)(b:Int):decide ((Sum.inr a:bI)=Sum.inl b)=false:=Tc (fun q=>nomatch q)
noncomputable def bd(prog:Program)(w:World):PySem.KeyKind prog w bI where
 is:=nH
 hash:=FK w
 inj:=fun v a b ha hb=>by
  rcases bD ha with⟨i,t,rfl,rfl⟩|⟨x,t,rfl,rfl⟩
  ·rcases bD hb with⟨j,u,rfl,e⟩|⟨y,u,rfl,e⟩
   ·injection e with e1 _;rw[e1]
   ·exact nomatch e
  ·rcases bD hb with⟨j,u,rfl,e⟩|⟨y,u,rfl,e⟩
   ·exact nomatch e
   ·injection e with e1 _;rw[e1]
 byValue:=fun k v h=>by
  rcases bD h with⟨i,t,rfl,rfl⟩|⟨x,t,rfl,rfl⟩<;>rfl
 pyHash:=fun hv h=>by
  rcases bD hv with⟨i,t,rfl,rfl⟩|⟨x,t,rfl,rfl⟩
  ·exact wpAny_pyHash_int h
  ·exact wpAny_pyHash_str h
 eqBool:=fun hu hv h=>by
  rcases bD hu with⟨i,t,rfl,rfl⟩|⟨x,t,rfl,rfl⟩
  ·rcases bD hv with⟨j,u,rfl,rfl⟩|⟨y,u,rfl,rfl⟩
   ·rw[A8]at h;exact wpAny_eqBool_int h
   ·rw[A_]at h;exact SeqAt.EqAt.int_str i t y u _ _ _ _ h
  ·rcases bD hv with⟨j,u,rfl,rfl⟩|⟨y,u,rfl,rfl⟩
   ·rw[Ba]at h;exact SeqAt.EqAt.str_int x t j u _ _ _ _ h
   ·rw[A9]at h;exact wpAny_eqBool_str h
 «strs»:=fun k x t v h=>by
  rcases bD h with⟨i,u,rfl,e⟩|⟨y,u,rfl,e⟩
  ·exact nomatch e
  ·injection e with e1 _
   subst e1
   cases v<;>rfl
def p8(prog:Program)(w:World)(i:Int)(t:Tok):(bd prog w).is (.inl i) (.int i t)=true:=t_ i t
def p9(prog:Program)(w:World)(x:Str)(t:Tok):(bd prog w).is (.inr x) (.str x t)=true:=j4 x t
inductive V where
 |non|bl (b:Bool)|int (i:Int)|str (x:Str)|Mn (b:Array UInt8)|OT (b:UInt64)|ref (a:Addr)|ty (n:String)
 deriving DecidableEq
noncomputable def RelV:V->Value->Prop
 | .non,u=>u=Value.none
 | .bl b,u=>u=Value.bool b
 | .int i,u=>∃t,u=Value.int i t
 | .str x,u=>∃t,u=Value.str x t
 | .Mn b,u=>∃t,u=Value.bytes b t
 | .OT b,u=>∃t,u=Value.float b t
 | .ref a,u=>u=Value.ref a
 | .ty n,u=>u=Value.type n
noncomputable abbrev Vals:List V->List Value->Prop:=Paired RelV
theorem Vals.length{xs:List V}{us:Vv}(r:Vals xs us):xs.length=us.length:=Paired.length r
theorem Vals.get:∀{xs:List V} {us:Vv} {i:Nat} {x:V},Vals xs us->xs[i]?=some x->∃u,us[i]?=some u/\RelV x u
 |_,_,_,_,.nil,e=>by simp at e
 |_,_,0,_,.cons r _,e=>by simp at e;subst e;exact⟨_,rfl,r⟩
 |_,_,i+1,x,.cons _ t,e=>by
  obtain⟨u,h1,h2⟩:=Vals.get (i:=i) (x:=x) t (by simpa using e)
  exact⟨u,by simpa using h1,h2⟩
theorem Vals.set{x:V}{u:Value}(r:RelV x u):∀{xs:List V} {us:Vv} (i:Nat),Vals xs us->Vals (xs.set i x) (us.set i u)
 |_,_,_,.nil=>.nil
 |_,_,0,.cons _ t=>.cons r t
 |_,_,i+1,.cons q t=>.cons q (Vals.set r i t)
theorem Vals.append:∀{xs ys:List V} {us ws:Vv},Vals xs us->Vals ys ws->Vals (xs++ys) (us++ws)
 |_,_,_,_,.nil,s=>s
 |_,_,_,_,.cons r t,s=>.cons r (Vals.append t s)
theorem Vals.take:∀{xs:List V} {us:Vv} (n:Nat),Vals xs us->Vals (xs.take n) (us.take n)
 |_,_,0,_=>.nil
 |_,_,_+1,.nil=>.nil
 |_,_,n+1,.cons r t=>.cons r (Vals.take n t)
theorem Vals.drop:∀{xs:List V} {us:Vv} (n:Nat),Vals xs us->Vals (xs.drop n) (us.drop n)
 |_,_,0,r=>r
 |_,_,_+1,.nil=>.nil
 |_,_,n+1,.cons _ t=>Vals.drop n t
noncomputable def RelO:Option V->Option Value->Prop
 |some v,some u=>RelV v u
 |none,none=>True
 |_,_=>False
noncomputable def KV{κ:Type}:List (κ×V)->List (κ×Value)->Prop:=Paired fun(p:κ×V) (q:κ×Value)=>p.1=q.1/\RelV p.2 q.2
noncomputable def kV:bI->V
 | .inl i=>.int i
 | .inr x=>.str x
inductive HO where
 /-- a list -/
 |lst (xs:List V)
 /-- a tuple (never changes) -/
 |tup (xs:List V)
 /-- a dict whose keys are ints and texts; one whose keys are tuples of ints and texts (the empty one is both) -/
 |dK (kvs:List (bI×V))|dT (kvs:List (List bI×V))
 /-- a set of ints: its members,its size -/
 |set (S:Int->Bool) (n:Nat)
 /-- an instance of the class at C,its dict at dx,its attributes -/
 |ins (C dx:Addr) (fs:List (Str×V))
 /-- the dict of the instance at x -/
 |own (x:Addr)
 /-- the dict of an exception -/
 |xd (fs:List (Str×V))
 /-- a bound method,f of x -/
 |met (f x:Addr)
 /-- a range object lo,lo + 1,.. below hi -/
 |OU (lo hi:Int)
 /-- a thing that is known to the object (the script; a dict while a loop walks it): read,never written while it is so -/
 |frz (o:Obj) (u:HO)
 /-- a code object's table -/
 |Nk (ps:Vw)
 /-- any other thing,by what is true of its one object (a def of Qf own: QZ a S n:=HO.ext fun h=>..) -/
 |ext (φ:Heap->Prop)
abbrev Hp:=Addr->Option HO
noncomputable def upd(H:Hp)(a:Addr)(o:HO):Hp:=fun b=>if b=a then some o else H b
def aD{H:Hp}{a:Addr}{o:HO}:upd H a o a=some o:=by unfold upd;rw[if_pos rfl]
def aI{H:Hp}{a b:Addr}{o:HO}(h:b≠a):upd H a o b=H b:=by unfold upd;rw[if_neg h]
def DI{H:Hp}{a b:Addr}{o u:HO}(h:H a=some o)(h':H b=some u)(d:o≠u):a≠b:=by
 intro e;subst e;rw[h]at h';exact d (Tz h')
def bp{H:Hp}{a b:Addr}{o:HO}(h:H a=some o)(h':H b=none):a≠b:=by
 intro e;subst e;rw[h]at h';cases h'
def Ia(h:Heap)(a:Addr)(its:Vw):Prop:=∃o,h.get? a=some o/\o.dict=none/\o.cls = .type "tuple"/\∃n,o.data = .seq its n
def Ia.tup{h:Heap}{a:Addr}{its:Vw}(x:Ia h a its):IsTup h a its:=let ⟨o,e,_,c,d⟩:=x;⟨o,e,c,d⟩
def Ia.new(h:Heap)(its:Vw):Ia (h.push { cls:=.type "tuple",data:=.seq its }) h.objs.size its:=⟨_,SG _ rfl,rfl,rfl,_,rfl⟩
section
variable (P:Program) (w:World)
noncomputable def HH(H:Hp)(h:Heap)(a:Addr):HO->Prop
 | .lst xs=>xs.length<=sizeLine/\∃(its:Vv) (n:Nat),Vals xs its/\h.get? a=some { cls:=.type "list",data:=.seq its.toArray n }
 | .tup xs=>xs.length<=sizeLine/\∃its:List Value,Vals xs its/\Ia h a its.toArray
 | .dK kvs=>kvs.length<=sizeLine/\(a == sysModules)=false/\∃vs,KV kvs vs/\h.DictOf (bd P w) a vs
 | .dT kvs=>kvs.length<=sizeLine/\(a == sysModules)=false/\∃xs:List (List bI×Addr×Value),
   Paired (fun(p:List bI×V) (q:List bI×Addr×Value)=>p.1=q.1/\H q.2.1=some (.tup (p.1.map kV))/\RelV p.2 q.2.2) kvs xs/\
   ∃o es ep,h.get? a=some o/\o.ExactDict/\o.data = .dict es ep/\es.toList=xs.map (entryOfKey (tupleKind (bd P w)))/\(xs.map (·.1)).Nodup
 | .set S n=>h.SetOf (intKind P w) a S n
 | .ins C dx fs=>H dx=some (.own a)/\fs.length<=1000/\dx≠a/\h.get? a=some (PySem.W.instObj C dx)/\
   ∃mA,h.Ns1 dx mA/\(∀f,RelO (fs.lookup f) (mA f))/\PySem.Within mA (fs.map (·.1))
 | .own _=>∃o,h.get? a=some o
 | .xd fs=>∃mA,h.Ns1 a mA/\∀f,RelO (fs.lookup f) (mA f)
 | .OU lo hi=>∃t u v,h.get? a=some { cls:=.type "range",data:=.fields #[.int lo t,.int hi u,.int 1 v] }
 | .frz o u=>h.get? a=some o/\HH H h a u
 | .Nk ps=>h.get? a=some { cls:=.none,data:=.fields ps }
 | .met f x=>h.get? a=some (PySem.W.methodObj (.ref f) (.ref x))
 | .ext φ=>φ h/\(∃o,h.get? a=some o)/\∀h1 h2:Heap,φ h1->(∀o,h1.get? a=some o->h2.get? a=some o)->φ h2
def JI(H:Hp)(h:Heap):Prop:=∀a o,H a=some o->HH P w H h a o
end
section
variable {P:Program} {w:World} {H H':Hp} {h h':Heap} {a:Addr} {o:HO}
theorem HH.lt(x:HH P w H h a o):a < h.objs.size:=by
 cases o with
 |lst xs=>obtain⟨_,_,_,_,e⟩:=x;exact Sw e
 |tup xs=>obtain⟨_,_,_,p⟩:=x;exact p.tup.lt
 |dK kvs=>obtain⟨_,_,_,_,o,_,_,e,_⟩:=x;exact Sw e
 |dT kvs=>obtain⟨_,_,_,_,o,_,_,e,_⟩:=x;exact Sw e
 |set S n=>obtain⟨o,_,_,_,e,_⟩:=x;exact Sw e
 |ins C dx fs=>obtain⟨_,_,_,e,_⟩:=x;exact Sw e
 |own y=>obtain⟨_,e⟩:=x;exact Sw e
 |xd fs=>obtain⟨_,⟨_,_,_,e,_⟩,_⟩:=x;exact Sw e
 |OU lo hi=>obtain⟨_,_,_,e⟩:=x;exact Sw e
 |frz ob u=>obtain⟨e,_⟩:=x;exact Sw e
 |Nk ps=>exact Sw (show h.get? a=some _ from x)
 |met f y=>exact Sw (show h.get? a=some _ from x)
 |ext φ=>obtain⟨_,⟨_,e⟩,_⟩:=x;exact Sw e
theorem Paired.Nl{α β:Type}{F G:α->β->Prop}:∀{l₁:List α} {l₂:List β},Paired F l₁ l₂->(∀a b,F a b->G a b)->Paired G l₁ l₂
 |_,_,.nil,_=>.nil
 |_,_,.cons r t,f=>.cons (f _ _ r) (Paired.Nl t f)
def HH.stay(x:HH P w H h a o)(k:∀b u,(b=a\/H b=some (.own a))->h.get? b=some u->h'.get? b=some u)
  (ho:∀b,H b=some (.own a)->H' b=some (.own a)) (ht:∀b xs,H b=some (.tup xs)->H' b=some (.tup xs)):HH P w H' h' a o:=by
 induction o with
 |lst xs=>obtain⟨z,its,n,r,e⟩:=x;exact⟨z,its,n,r,k _ _ (.inl rfl) e⟩
 |tup xs=>obtain⟨z,its,r,ob,e,c⟩:=x;exact⟨z,its,r,ob,k _ _ (.inl rfl) e,c⟩
 |dK kvs=>obtain⟨z,y,vs,r,ob,es,ep,e,c⟩:=x;exact⟨z,y,vs,r,ob,es,ep,k _ _ (.inl rfl) e,c⟩
 |dT kvs=>
  obtain⟨z,y,xs,r,ob,es,ep,e,c⟩:=x
  exact⟨z,y,xs,Paired.Nl r fun p q z=>⟨z.1,ht _ _ z.2.1,z.2.2⟩,ob,es,ep,k _ _ (.inl rfl) e,c⟩
 |set S n=>obtain⟨ob,es,ep,t,e,c⟩:=x;exact⟨ob,es,ep,t,k _ _ (.inl rfl) e,c⟩
 |ins C dx fs=>
  obtain⟨d,z,ne,e,mA,⟨od,es,ep,e2,c⟩,r⟩:=x
  exact⟨ho _ d,z,ne,k _ _ (.inl rfl) e,mA,⟨od,es,ep,k _ _ (.inr d) e2,c⟩,r⟩
 |own y=>obtain⟨ob,e⟩:=x;exact⟨ob,k _ _ (.inl rfl) e⟩
 |xd fs=>obtain⟨mA,⟨od,es,ep,e,c⟩,r⟩:=x;exact⟨mA,⟨od,es,ep,k _ _ (.inl rfl) e,c⟩,r⟩
 |OU lo hi=>obtain⟨t,u,v,e⟩:=x;exact⟨t,u,v,k _ _ (.inl rfl) e⟩
 |frz ob u ih=>obtain⟨e,q⟩:=x;exact⟨k _ _ (.inl rfl) e,ih q⟩
 |Nk ps=>
  have e:h.get? a=some { cls:=.none,data:=.fields ps }:=x
  show h'.get? a=some { cls:=.none,data:=.fields ps }
  exact k a _ (.inl rfl) e
 |met f y=>
  have e:h.get? a=some (PySem.W.methodObj (.ref f) (.ref y)):=x
  show h'.get? a=some (PySem.W.methodObj (.ref f) (.ref y))
  exact k a _ (.inl rfl) e
 |ext φ=>obtain⟨p,⟨o,e⟩,st⟩:=x;exact⟨st _ _ p fun o q=>k _ _ (.inl rfl) q,⟨o,k _ _ (.inl rfl) e⟩,st⟩
theorem JI.lt(x:JI P w H h)(e:H a=some o):a < h.objs.size:=(x a o e).lt
def JI.fresh(x:JI P w H h)(e:h.objs.size<=a):H a=none:=by
 cases q:H a with
 |none=>rfl
 |some u=>exact absurd (SW (x.lt q) e) (Ul _)
def JI.kept(x:JI P w H h)(k:∀b u,h.get? b=some u->h'.get? b=some u):JI P w H h':=fun a o e=>
 (x a o e).stay (fun b u _ q=>k b u q) (fun _ q=>q) fun _ _ q=>q
def JI.laid(x:JI P w H h)(k:∀b u,h.get? b=some u->h'.get? b=some u)(hp:h.objs.size<=a)(new:HH P w (upd H a o) h' a o):JI P w (upd H a o) h':=fun b u e=>by
 have hn:=x.fresh hp
 by_cases hb:b=a
 ·subst hb;rw[aD]at e;cases e;exact new
 ·rw[aI hb]at e
  exact(x b u e).stay (fun c v _ q=>k c v q) (fun c q=>by rw[aI (bp q hn)];exact q) fun c xs q=>by rw[aI (bp q hn)];exact q
end
def Rd(H:Hp)(a:Addr)(u:HO):Prop:=H a=some u\/∃o,H a=some (.frz o u)
def Rd.ok{P:Program}{w:World}{H:Hp}{h:Heap}{a:Addr}{u:HO}(r:Rd H a u)(x:JI P w H h):HH P w H h a u:=by
 rcases r with r|⟨o,r⟩
 ·exact x a u r
 ·obtain⟨_,q⟩:=x a _ r
  exact q
noncomputable def DJ:Option HO->Prop
 |some (.lst _)=>True
 |some (.dK _)=>True
 |some (.dT _)=>True
 |some (.set _ _)=>True
 |some (.ins _ _ _)=>True
 |some (.ext _)=>True
 |_=>False
section
variable {P:Program} {w:World} {H:Hp} {h h':Heap} {x e:Addr} {o':HO}
def JI.write(ok:JI P w H h)(mu:DJ (H x))(he:e=x\/H e=some (.own x))(k:∀b u,b≠e->h.get? b=some u->h'.get? b=some u)(NI:∃u,h'.get? e=some u)
  (new:HH P w (upd H x o') h' x o'):JI P w (upd H x o') h':=fun b u q=>by
 have NQ:∀c y,H c=some (.own y)->c≠x:=fun c y r z=>by subst z;rw[r]at mu;exact mu
 have OV:∀c xs,H c=some (.tup xs)->c≠x:=fun c xs r z=>by subst z;rw[r]at mu;exact mu
 by_cases hb:b=x
 ·subst hb;rw[aD]at q;cases q;exact new
 ·rw[aI hb]at q
  by_cases Nm:b=e
  ·have q':H b=some (.own x):=by
    rcases he with z|z
    ·exact absurd (Nm.trans z) hb
    ·rw[Nm];exact z
   rw[q]at q';cases q'
   obtain⟨v,hv⟩:=NI
   exact⟨v,by rw[Nm];exact hv⟩
  ·refine(ok b u q).stay (fun c v hc r=>k c v ?_ r) (fun c r=>by rw[aI (NQ c b r)];exact r) fun c xs r=>by rw[aI (OV c xs r)];exact r
   rcases hc with rfl|hc
   ·exact Nm
   ·rintro rfl
    rcases he with z|z
    ·exact NQ c b hc z
    ·rw[hc]at z;cases z;exact hb rfl
end
structure Un (fs ex:List Addr) (H H':Hp) (h h':Heap):Prop where
 keep:∀b o,h.get? b=some o->H b=none->b ∉ fs->b ∉ ex->h'.get? b=some o
 slot:∀b o,h.get? b=some o->H b=none->b∈fs->b ∉ ex->∃sl,h'.get? b=some { o with slots:=sl }
 free:∀b o,h.get? b=some o->H b=none->b ∉ ex->H' b=none
 there:∀b o,h.get? b=some o->b ∉ ex->∃o',h'.get? b=some o'
 tups:∀b xs,H b=some (.tup xs)->H' b=some (.tup xs)
 KP:∀b o u,H b=some (.frz o u)->H' b=some (.frz o u)
 Lo:∀b ps,H b=some (.Nk ps)->∃more,H' b=some (.Nk (ps++more))
section
variable {fs fs' ex ex':List Addr} {H H1 H2:Hp} {h h1 h2 h':Heap} {a x e:Addr} {o:HO}
def Un.any(u:Un fs ex H H1 h h1){b:Addr}{ob:Obj}(q:h.get? b=some ob)(n:H b=none)(hx:b ∉ ex):∃sl,h1.get? b=some { ob with slots:=sl }:=by
 by_cases hb:b∈fs
 ·exact u.slot b ob q n hb hx
 ·exact⟨ob.slots,u.keep b ob q n hb hx⟩
def Un.kept(k:∀b u,h.get? b=some u->h'.get? b=some u):Un fs ex H H h h':=
 ⟨fun b ob q _ _ _=>k b ob q,fun b ob q _ _ _=>⟨ob.slots,k b ob q⟩,fun _ _ _ n _=>n,fun b ob q _=>⟨ob,k b ob q⟩,fun _ _ q=>q,fun _ _ _ q=>q,fun _ ps q=>⟨#[],by rw[q];simp⟩⟩
def Un.refl:Un fs ex H H h h:=Un.kept fun _ _ q=>q
def Un.laid(k:∀b u,h.get? b=some u->h'.get? b=some u)(hp:h.objs.size<=a)(hn:H a=none):Un fs ex H (upd H a o) h h' where
 keep:=fun b u q _ _ _=>k b u q
 slot:=fun b u q _ _ _=>⟨u.slots,k b u q⟩
 free:=fun b u q n _=>by rw[aI (Th (SW (Sw q) hp))];exact n
 there:=fun b u q _=>⟨u,k b u q⟩
 tups:=fun b xs q=>by rw[aI (bp q hn)];exact q
 KP:=fun b u xs q=>by rw[aI (bp q hn)];exact q
 Lo:=fun b ps q=>⟨#[],by rw[aI (bp q hn),q];simp⟩
def Un.write(mu:DJ (H x))(he:e=x\/H e=some (.own x))(k:∀b u,b≠e->h.get? b=some u->h'.get? b=some u)(NI:∃u,h'.get? e=some u):Un fs ex H (upd H x o) h h':=by
 have hx:∀b,H b=none->b≠x:=fun b n z=>by subst z;rw[n]at mu;exact mu
 have hb:∀b,H b=none->b≠e:=fun b n z=>by
  subst z
  rcases he with r|r
  ·exact hx b n r
  ·rw[n]at r;cases r
 have hm:∀b u,H b=some u->¬DJ (some u)->b≠x:=fun b u q nm z=>by subst z;rw[q]at mu;exact nm mu
 refine⟨fun b u q n _ _=>k b u (hb b n) q,fun b u q n _ _=>⟨u.slots,k b u (hb b n) q⟩,fun b u q n _=>by rw[aI (hx b n)];exact n,fun b u q _=>?_,
  fun b xs q=>by rw[aI (hm b _ q fun z=>z)];exact q,fun b u xs q=>by rw[aI (hm b _ q fun z=>z)];exact q,fun b ps q=>⟨#[],by rw[aI (hm b _ q fun z=>z),q];simp⟩⟩
 by_cases Nm:b=e
 ·subst Nm;exact NI
 ·exact⟨u,k b u Nm q⟩
end
noncomputable def Fv(h:Heap)(H:Hp):List Addr:=(List.range h.objs.size).filter fun a=>(H a).isSome
noncomputable def ow(h:Heap)(H:Hp):Heap:=PySem.W.hideAll h (Fv h H)
def ua(h:Heap)(H:Hp):(ow h H).objs.size=h.objs.size:=PySem.W.hideAll_size _ _
def vv{h:Heap}{H:Hp}{b:Addr}{o:Obj}(e:h.get? b=some o)(n:H b=none):(ow h H).get? b=some o:=
 PySem.W.hideAll_get _ e fun hm=>by
  have q:(H b).isSome=true:=(Ug.mp hm).2
  rw[n]at q;simp at q
def yB{h:Heap}{H:Hp}{b:Addr}{o:Obj}(e:(ow h H).get? b=some o):h.get? b=some o/\H b=none:=by
 have e':h.get? b=some o:=PySem.W.of_hideAll (Fv h H) e
 refine⟨e',?_⟩
 cases q:H b with
 |none=>rfl
 |some x=>
  have hm:b∈Fv h H:=Ug.mpr ⟨Uw.mpr (Sw e'),by simp[q]⟩
  have z:(ow h H).get? b=none:=PySem.W.hideAll_none (Fv h H) hm
  rw[z]at e;cases e
structure Mod (K:Vo) (mg:Vr) (base:Heap):Prop where
 OW:K.In base
 glob:base.Ns mainGlobals mg
 blt:∃mb,base.Ns builtinsNs mb/\∀x:Str,x ≠ "__name__"->mb x=bootBuiltins x
 nolimit:base.NoLimit
structure Cx where
 prog:Program
 w:World
 K:Vo
 mg:Vr
 base:Heap
 A:Around
 N:List Str
 s₀:Shared
 H₀:Hp
 env:Env
 outer:List Env
 stack:List Env
 ex:List Addr
 fn:Str->Bool
 calm:Bool
 pn:Va
 xe:Value->Shared->Prop
noncomputable def frs(l:List Env):List Addr:=l.filterMap (·.frame)
noncomputable abbrev Cx.fs(X:Cx):List Addr:=frs X.outer
def Fw(sc:Scope)(x:Str):Prop:=sc.names.lookup x=some .local\/sc.names.lookup x=some .cell\/sc.names.lookup x=some .free
def AB(sc:Scope)(x:Str):Prop:=sc.names.lookup x=some .local\/sc.names.lookup x=some .cell
def FL(env:Env)(h:Heap)(m:Vr)(x:Str)(u:Value):Prop:=
 (env.kindOf x=some .local/\m x=some u)\/((env.kindOf x=some .cell\/env.kindOf x=some .free)/\∃c,env.cells.lookup x=some c/\h.IsCell c (some u))
structure Cx.Ok (X:Cx):Prop where
 mod:Mod X.K X.mg X.base
 kind:X.env.scope.kind = .function
 glob:X.env.globals=mainGlobals
 blt:X.env.builtins=builtinsNs
 above:X.s₀.heap.objs.size<=X.env.locals
 inj:∀x y c,X.env.cells.lookup x=some c->X.env.cells.lookup y=some c->x=y
 has:∀x,(X.env.kindOf x=some .cell\/X.env.kindOf x=some .free)->∃c,X.env.cells.lookup x=some c
 NJ:∀x c,X.fn x=true->X.env.cells.lookup x=some c->X.s₀.heap.objs.size<=c
 hd:X.calm=true->X.A.handled=none
 frames:X.A.frames=some X.stack
 stk:X.stack=X.outer\/(X.stack=X.env::X.outer/\X.env.frame=some X.env.locals)
 OX:∀b∈X.ex,b≠X.env.locals/\∀x c,X.env.cells.lookup x=some c->c≠b
 bs:∀b o,X.base.get? b=some o->X.s₀.heap.get? b=some o/\X.H₀ b=none
 MR:X.base.objs.size<=X.s₀.heap.objs.size
 Mg:∀b o,X.base.get? b=some o->b ∉ X.ex
 Mo:∀b∈X.ex,b ∉ X.fs
 Kq:X.s₀.heap.FunFrames X.base X.outer
 Nn:∀b∈X.fs,X.H₀ b=none
structure Inv (X:Cx) (pins:Va) (σ:List (Option V)) (H:Hp) (s:Shared):Prop where
 ok:X.Ok
 os:s.os=X.s₀.os
 bare:AllBare s.gens
 base:Un X.fs X.ex X.H₀ H X.s₀.heap s.heap
 loc:∃m,s.heap.Ns X.env.locals m/\∀(i:Nat) (x:Str) (v:V),X.N[i]?=some x->σ[i]?=some (some v)->Fw X.env.scope x->∃u,RelV v u/\FL X.env s.heap m x u
 cell:∀x c,X.env.cells.lookup x=some c->∃v,s.heap.IsCell c v
 free:H X.env.locals=none
 JA:∀x c,X.env.cells.lookup x=some c->H c=none
 pin:∀p∈X.pn++pins,s.heap.get? p.1=some p.2/\H p.1=none/\p.1≠X.env.locals/\p.1 ∉ X.fs/\∀v,p.2.data ≠ .cell v
 hok:JI X.prog X.w H s.heap
 len:σ.length=X.N.length
section
variable {X:Cx} {pins:Va} {σ:List (Option V)} {H H':Hp} {s:Shared} {h':Heap}
def Cx.Ok.OY(ok:X.Ok){b:Addr}{o:Obj}(e:X.base.get? b=some o):b ∉ X.fs:=fun hb=>by
 have:=(ok.Kq.mem hb).1
 rw[e]at this;cases this
theorem Inv.bs(I:Inv X pins σ H s):∀b o,X.base.get? b=some o->s.heap.get? b=some o/\H b=none:=fun b o e=>
 ⟨I.base.keep b o (I.ok.bs b o e).1 (I.ok.bs b o e).2 (I.ok.OY e) (I.ok.Mg b o e),I.base.free b o (I.ok.bs b o e).1 (I.ok.bs b o e).2 (I.ok.Mg b o e)⟩
def Inv.bk(I:Inv X pins σ H s):∀b o,X.base.get? b=some o->s.heap.get? b=some o:=fun b o e=>(I.bs b o e).1
theorem Inv.mod(I:Inv X pins σ H s):Mod X.K X.mg X.base:=I.ok.mod
def Inv.Mp(I:Inv X pins σ H s):X.K.In s.heap:=I.ok.mod.OW.keeps I.bk
theorem Inv.lt(I:Inv X pins σ H s):X.env.locals < s.heap.objs.size:=let ⟨_,hn,_⟩:=I.loc;hn.lt
def Inv.sz(I:Inv X pins σ H s):X.s₀.heap.objs.size<=s.heap.objs.size:=Su I.ok.above (VA I.lt)
def Inv.NR(I:Inv X pins σ H s){a:Addr}(h:s.heap.objs.size<=a):a ∉ X.fs:=fun hb=>by
 obtain⟨_,o,ho,_⟩:=I.ok.Kq.mem hb
 exact absurd (SW (Sw ho) (Su I.sz h)) (Ul _)
def Inv.No(I:Inv X pins σ H s):∀x c,X.env.cells.lookup x=some c->c≠X.env.locals:=fun x c e z=>by
 obtain⟨v,o,ho,hd⟩:=I.cell x c e
 obtain⟨m,⟨o',es,ep,ho',hd',_⟩,_⟩:=I.loc
 rw[z,ho']at ho;cases ho;rw[hd']at hd;cases hd
theorem Inv.Kq(I:Inv X pins σ H s):s.heap.FunFrames X.base X.outer:=by
 have all:∀(l:List Env),(∀b∈frs l,b∈X.fs)->X.s₀.heap.FunFrames X.base l->s.heap.FunFrames X.base l:=by
  intro l
  induction l with
  |nil=>intro _ _;trivial
  |cons env r ih=>
   intro hs hl
   obtain⟨hk,⟨L,o,hf,hn,ho,hd⟩,hr⟩:=hl
   have hL:L∈X.fs:=hs L (by unfold frs;rw[WE,hf];exact UH)
   obtain⟨sl,e⟩:=I.base.slot L o ho (I.ok.Nn L hL) hL fun z=>I.ok.Mo L z hL
   exact⟨hk,⟨L,_,hf,hn,e,hd⟩,ih (fun b hb=>hs b (by unfold frs;rw[WE,hf];exact UK _ hb)) hr⟩
 exact all X.outer (fun _ hb=>hb) I.ok.Kq
theorem Inv.stack(I:Inv X pins σ H s):s.heap.FunFrames X.base X.stack:=by
 rcases I.ok.stk with e|⟨e,hf⟩
 ·rw[e];exact I.Kq
 ·rw[e]
  obtain⟨m,hn,_⟩:=I.loc
  refine .cons (by rw[I.ok.kind];decide) hf hn ?_ I.Kq
  exact Heap.get?_none_of_le (Su I.ok.MR I.ok.above)
def Inv.Kc(I:Inv X pins σ H s):∀b∈frs X.stack,b∈X.env.locals::X.fs:=fun b hb=>by
 rcases I.ok.stk with e|⟨e,hf⟩
 ·rw[e]at hb;exact UK _ hb
 ·rw[e]at hb
  unfold frs at hb
  rw[WE,hf]at hb
  exact hb
def Inv.L5(I:Inv X pins σ H s):∀b∈frs X.stack,H b=none:=fun b hb=>by
 rcases Sv.mp (I.Kc b hb)with e|hb
 ·rw[e];exact I.free
 ·obtain⟨_,o,ho,_⟩:=I.ok.Kq.mem hb
  exact I.base.free b o ho (I.ok.Nn b hb) fun z=>I.ok.Mo b z hb
def Inv.step{g':Array GenState}{t':Nat}{d':Drawn}{ch:List Addr}(I:Inv X pins σ H s)
  (hch:∀b∈ch,(b∈X.ex\/X.s₀.heap.objs.size<=b)/\b≠X.env.locals/\(∀x c,X.env.cells.lookup x=some c->c≠b)/\∀p∈X.pn++pins,p.1≠b)
  (keep:∀b o,b≠X.env.locals->b ∉ X.fs->b ∉ ch->s.heap.get? b=some o->H b=none->h'.get? b=some o)
  (slot:∀b o,b≠X.env.locals->b∈X.fs->b ∉ ch->s.heap.get? b=some o->H b=none->∃sl,h'.get? b=some { o with slots:=sl }) (free:∀b o,b ∉ ch->s.heap.get? b=some o->H b=none->H' b=none)
  (there:∀b o,b ∉ ch->s.heap.get? b=some o->∃o',h'.get? b=some o')
  (tups:∀b xs,H b=some (.tup xs)->H' b=some (.tup xs)) (KP:∀b o u,H b=some (.frz o u)->H' b=some (.frz o u)) (Lo:∀b ps,H b=some (.Nk ps)->∃more,H' b=some (.Nk (ps++more)))
  (ns:∀m,s.heap.Ns X.env.locals m->h'.Ns X.env.locals m) (hok:JI X.prog X.w H' h') (hg:AllBare g') :
  Inv X pins σ H' { s with heap:=h',gens:=g',drawn:=d',toks:=t' }:=by
 have Qg:∀b o,X.s₀.heap.get? b=some o->b≠X.env.locals:=fun b o e=>Th (SW (Sw e) I.ok.above)
 have Op:∀b o,X.s₀.heap.get? b=some o->b ∉ X.ex->b ∉ ch:=fun b o e hx hb=>by
  rcases(hch b hb).1 with z|z
  ·exact hx z
  ·exact absurd (SW (Sw e) z) (Ul _)
 have cellK:∀x c,X.env.cells.lookup x=some c->∀v,s.heap.IsCell c v->h'.IsCell c v:=fun x c e v ⟨o,ho,hd⟩=>by
  have NS:c ∉ ch:=fun z=>(hch c z).2.2.1 x c e rfl
  by_cases hc:c∈X.fs
  ·obtain⟨sl,q⟩:=slot c o (I.No x c e) hc NS ho (I.JA x c e)
   exact⟨_,q,hd⟩
  ·exact⟨o,keep c o (I.No x c e) hc NS ho (I.JA x c e),hd⟩
 refine⟨I.ok,I.os,hg,⟨fun b o e n hb hx=>?_,fun b o e n hb hx=>?_,fun b o e n hx=>?_,fun b o e hx=>?_,fun b xs e=>tups b xs (I.base.tups b xs e),fun b o xs e=>KP b o xs (I.base.KP b o xs e),fun b ps e=>?_⟩,?_,fun x c e=>?_,?_,fun x c e=>?_,fun p hp=>?_,hok,I.len⟩
 ·exact keep b o (Qg b o e) hb (Op b o e hx) (I.base.keep b o e n hb hx) (I.base.free b o e n hx)
 ·obtain⟨sl,e1⟩:=I.base.slot b o e n hb hx
  obtain⟨sl',e2⟩:=slot b _ (Qg b o e) hb (Op b o e hx) e1 (I.base.free b o e n hx)
  exact⟨sl',e2⟩
 ·obtain⟨o',e1⟩:=I.base.there b o e hx
  exact free b o' (Op b o e hx) e1 (I.base.free b o e n hx)
 ·obtain⟨o',e1⟩:=I.base.there b o e hx
  exact there b o' (Op b o e hx) e1
 ·obtain⟨m1,e1⟩:=I.base.Lo b ps e
  obtain⟨m2,e2⟩:=Lo b _ e1
  exact⟨m1++m2,by rw[e2,Array.append_assoc]⟩
 ·obtain⟨m,hn,hl⟩:=I.loc
  refine⟨m,ns m hn,fun i x v e1 e2 e3=>?_⟩
  obtain⟨u,r,l⟩:=hl i x v e1 e2 e3
  refine⟨u,r,?_⟩
  rcases l with l|⟨k,c,e,z⟩
  ·exact .inl l
  ·exact .inr ⟨k,c,e,cellK x c e _ z⟩
 ·obtain⟨v,z⟩:=I.cell x c e
  exact⟨v,cellK x c e v z⟩
 ·obtain⟨m,⟨o,_,_,ho,_⟩,_⟩:=I.loc
  exact free _ o (fun z=>(hch _ z).2.1 rfl) ho I.free
 ·obtain⟨v,o,ho,hd⟩:=I.cell x c e
  exact free c o (fun z=>(hch c z).2.2.1 x c e rfl) ho (I.JA x c e)
 ·obtain⟨e,n,ne,nf,d⟩:=I.pin p hp
  have NS:p.1 ∉ ch:=fun z=>(hch p.1 z).2.2.2 p hp rfl
  exact⟨keep p.1 p.2 ne nf NS e n,free p.1 p.2 NS e n,ne,nf,d⟩
def Inv.un{t':Nat}(I:Inv X pins σ H s)(u:Un X.fs [] H H' s.heap h')(hok:JI X.prog X.w H' h'):Inv X pins σ H' { s with heap:=h',toks:=t' }:=by
 obtain⟨m,⟨o,es,ep,ho,r⟩,_⟩:=id I.loc
 obtain⟨sl,hL⟩:=u.any ho I.free (by simp)
 exact I.step (g':=s.gens) (d':=s.drawn) (ch:=[]) (fun _ z=>nomatch z) (fun b o _ hb _ e n=>u.keep b o e n hb (by simp)) (fun b o _ hb _ e n=>u.slot b o e n hb (by simp)) (fun b o _ e n=>u.free b o e n (by simp)) (fun b o _ e=>u.there b o e (by simp)) u.tups u.KP u.Lo (fun m' hm=>by
  obtain⟨o',es',OZ,ho',r'⟩:=hm
  rw[ho]at ho';cases ho'
  exact⟨_,es',OZ,hL,r'⟩) hok I.bare
def Inv.call{g':Array GenState}{t':Nat}{d':Drawn}{ch:List Addr}(I:Inv X pins σ H s)(u:Un (frs X.stack) ch H H' s.heap h')(hok:JI X.prog X.w H' h')(hg:AllBare g')
  (hch:∀b∈ch,(b∈X.ex\/X.s₀.heap.objs.size<=b)/\b≠X.env.locals/\(∀x c,X.env.cells.lookup x=some c->c≠b)/\∀p∈X.pn++pins,p.1≠b) :
  Inv X pins σ H' { s with heap:=h',gens:=g',drawn:=d',toks:=t' }:=by
 obtain⟨m,⟨o,es,ep,ho,r⟩,_⟩:=id I.loc
 obtain⟨sl,hL⟩:=u.any ho I.free fun z=>(hch _ z).2.1 rfl
 exact I.step (ch:=ch) hch (fun b o hL hb hc e n=>u.keep b o e n (fun z=>(Sv.mp (I.Kc b z)).elim hL hb) hc) (fun b o _ _ hc e n=>u.any e n hc) (fun b o hc e n=>u.free b o e n hc) (fun b o hc e=>u.there b o e hc) u.tups u.KP u.Lo (fun m' hm=>by
  obtain⟨o',es',OZ,ho',r'⟩:=hm
  rw[ho]at ho';cases ho'
  exact⟨_,es',OZ,hL,r'⟩) hok hg
def Inv.turned{t':Nat}{it:Addr}(I:Inv X pins σ H s)(k:∀b o,b≠it->s.heap.get? b=some o->h'.get? b=some o)(hn:H it=none)(hL:it≠X.env.locals)
  (h1:it∈X.ex\/X.s₀.heap.objs.size<=it) (h2:∀x c,X.env.cells.lookup x=some c->c≠it) (h3:∀p∈X.pn++pins,p.1≠it):Inv X pins σ H { s with heap:=h',toks:=t' }:=by
 have NT:∀b u,H b=some u->b≠it:=fun b u e z=>by rw[z,hn]at e;cases e
 refine I.step (g':=s.gens) (d':=s.drawn) (ch:=[it]) (fun b hb=>?_) (fun b o _ _ hc e _=>k b o (fun z=>hc (by simp[z])) e) (fun b o _ _ hc e _=>⟨o.slots,k b o (fun z=>hc (by simp[z])) e⟩) (fun _ _ _ _ n=>n)
  (fun b o hc e=>⟨o,k b o (fun z=>hc (by simp[z])) e⟩) (fun _ _ e=>e) (fun _ _ _ e=>e) (fun b ps e=>⟨#[],by rw[e];simp⟩) (fun m hm=>?_) (fun b u e=>?_) I.bare
 ·have e:b=it:=by simpa using hb
  subst e
  exact⟨h1,hL,h2,h3⟩
 ·obtain⟨o,es,ep,ho,r⟩:=hm
  exact⟨o,es,ep,k _ o (UO hL) ho,r⟩
 ·refine(I.hok b u e).stay (fun c v hc q=>k c v ?_ q) (fun _ q=>q) fun _ _ q=>q
  rcases hc with z|z
  ·rw[z];exact NT b u e
  ·exact NT c _ z
def Inv.tok(I:Inv X pins σ H s)(t:Nat):Inv X pins σ H { s with toks:=t }:=I.un (h':=s.heap) (t':=t) Un.refl I.hok
theorem Inv.kept{t':Nat}(I:Inv X pins σ H s)(k:∀b u,s.heap.get? b=some u->h'.get? b=some u):Inv X pins σ H { s with heap:=h',toks:=t' }:=I.un (Un.kept k) (I.hok.kept k)
theorem Inv.laid{a:Addr}{o:HO}{t':Nat}(I:Inv X pins σ H s)(k:∀b u,s.heap.get? b=some u->h'.get? b=some u)(hp:s.heap.objs.size<=a)(new:HH X.prog X.w (upd H a o) h' a o) :
  Inv X pins σ (upd H a o) { s with heap:=h',toks:=t' }:=I.un (Un.laid k hp (I.hok.fresh hp)) (I.hok.laid k hp new)
theorem Inv.write{x e:Addr}{o:HO}{t':Nat}(I:Inv X pins σ H s)(mu:DJ (H x))(he:e=x\/H e=some (.own x))(k:∀b u,b≠e->s.heap.get? b=some u->h'.get? b=some u)(NI:∃u,h'.get? e=some u)
  (new:HH X.prog X.w (upd H x o) h' x o):Inv X pins σ (upd H x o) { s with heap:=h',toks:=t' }:=I.un (Un.write mu he k NI) (I.hok.write mu he k NI new)
def Inv.weak{σ':List (Option V)}(I:Inv X pins σ H s)(hl:σ'.length=σ.length)(w:∀(i:Nat) v,σ'[i]?=some (some v)->σ[i]?=some (some v)):Inv X pins σ' H s:=
 ⟨I.ok,I.os,I.bare,I.base,let ⟨m,hn,hl'⟩:=I.loc;⟨m,hn,fun i x v e1 e2 e3=>hl' i x v e1 (w i v e2) e3⟩,I.cell,I.free,I.JA,I.pin,I.hok,hl.trans I.len⟩
def Inv.Ku{M7:Va}(I:Inv X pins σ H s)(h:∀p∈M7,s.heap.get? p.1=some p.2/\H p.1=none/\p.1≠X.env.locals/\p.1 ∉ X.fs/\∀v,p.2.data ≠ .cell v):Inv X M7 σ H s:=
 ⟨I.ok,I.os,I.bare,I.base,I.loc,I.cell,I.free,I.JA,fun p hp=>(SI.mp hp).elim (fun z=>I.pin p (Ve _ z)) (h p),I.hok,I.len⟩
def p_{N:Vs}(hN:N.Nodup){i j:Nat}{x:Str}(a:N[i]?=some x)(b:N[j]?=some x):i=j:=by
 obtain⟨h1,e1⟩:=Td.mp a
 obtain⟨h2,e2⟩:=Td.mp b
 exact(List.getElem_inj hN).mp (e1.trans e2.symm)
def nI {M : Model} {A : Around} {E : Value -> Shared -> Prop} {i : Nat} {x : Str} {v : V} {u : Value} {Q : Unit -> Shared -> Prop} (I : Inv X pins σ H s) (hN : X.N.Nodup) (hi : X.N[i]? = some x) (hx : AB X.env.scope x) (r : RelV v u)
  (h : ∀ s', Inv X pins (σ.set i (some v)) H s' -> (∃ a, Heap.SameBut a s.heap s'.heap /\ (a = X.env.locals \/ X.env.cells.lookup x = some a)) -> Q () s') (hf : X.fn x = true \/ X.env.scope.names.lookup x = some .local := by first | exact .inl rfl | exact .inr rfl | assumption) : wpAny M A (storeName X.env x u) Q E s := by
 obtain ⟨m, hn, hl⟩ := id I.loc
 have hcls : (X.env.scope.kind == .class || (X.env.scope.kind == .module && X.env.locals != X.env.globals)) = false := by rw [I.ok.kind]; rfl
 have Qh : i < σ.length := by rw [I.len]; exact (Td.mp hi).1
 have No := I.No
 have tracked : ∀ {a : Addr} {h' : Heap}, (∃ o, s.heap.get? a = some o /\ H a = none) -> Heap.SameBut a s.heap h' -> JI X.prog X.w H h' := fun {a h'} ha hs b ob e => by
  obtain ⟨_, _, hfree⟩ := ha
  refine (I.hok b ob e).stay (fun c w' hc q => (hs.2 c ?_).trans q) (fun _ q => q) fun _ _ q => q
  rintro rfl
  rcases hc with rfl | hc
  ·rw [hfree] at e; cases e
  ·rw [hfree] at hc; cases hc
 rcases hx with hk | hk
 ·refine wpAny_storeName_local hk hn (fun h' hn' hs => ?_) hcls
  obtain ⟨oL, _, _, Q0, _⟩ := id hn
  refine h _ ⟨I.ok, I.os, I.bare, ⟨fun b o e n hb hx => ?_, fun b o e n hb hx => ?_, I.base.free, fun b o e hx => ?_, I.base.tups, I.base.KP, I.base.Lo⟩, ⟨_, hn', fun j y v' e1 e2 e3 => ?_⟩, fun y c e => ?_, I.free, I.JA, fun p hp => ?_, tracked ⟨oL, Q0, I.free⟩ hs, by simpa using I.len⟩ ⟨_, hs, .inl rfl⟩
  ·exact (hs.2 b (Th (SW (Sw e) I.ok.above))).trans (I.base.keep b o e n hb hx)
  ·obtain ⟨sl, e1⟩ := I.base.slot b o e n hb hx
   exact ⟨sl, (hs.2 b (Th (SW (Sw e) I.ok.above))).trans e1⟩
  ·obtain ⟨o', e1⟩ := I.base.there b o e hx
   exact ⟨o', (hs.2 b (Th (SW (Sw e) I.ok.above))).trans e1⟩
  ·by_cases hj : j = i
   ·subst hj
    rw [hi] at e1; cases e1
    rw [List.getElem?_set_self Qh] at e2
    cases e2
    exact ⟨u, r, .inl ⟨hk, by simp⟩⟩
   ·rw [List.getElem?_set_ne (UO hj)] at e2
    obtain ⟨u', r', q⟩ := hl j y v' e1 e2 e3
    refine ⟨u', r', ?_⟩
    rcases q with ⟨k, e⟩ | ⟨k, c, e, z⟩
    ·refine .inl ⟨k, ?_⟩
     have : y ≠ x := fun e => hj (p_ hN e1 (e ▸ hi))
     simp [this, e]
    ·exact .inr ⟨k, c, e, z.sameBut hs (No y c e)⟩
  ·obtain ⟨w', z⟩ := I.cell y c e
   exact ⟨w', z.sameBut hs (No y c e)⟩
  ·obtain ⟨e, n, ne, nf, d⟩ := I.pin p hp
   exact ⟨(hs.2 p.1 ne).trans e, n, ne, nf, d⟩
 ·have hfn : X.fn x = true := by
   rcases hf with z | z
   ·exact z
   ·rw [z] at hk; cases hk
  obtain ⟨c, hc⟩ := I.ok.has x (.inl hk)
  obtain ⟨w', z⟩ := I.cell x c hc
  refine wpAny_storeName_cell I.ok.kind hk hc z (fun h' hc' hs => ?_)
  obtain ⟨oc, hoc, O8⟩ := id z
  refine h { s with heap := h' } ⟨I.ok, I.os, I.bare, ⟨fun b o e n hb hx => ?_, fun b o e n hb hx => ?_, I.base.free, fun b o e hx => ?_, I.base.tups, I.base.KP, I.base.Lo⟩, ⟨m, hn.sameBut hs (UO (No x c hc)), fun j y v' e1 e2 e3 => ?_⟩, fun y c' e => ?_, I.free, I.JA, fun p hp => ?_, tracked ⟨oc, hoc, I.JA x c hc⟩ hs, by simpa using I.len⟩ ⟨c, hs, .inr hc⟩
  ·exact (hs.2 b (Th (SW (Sw e) (I.ok.NJ x c hfn hc)))).trans (I.base.keep b o e n hb hx)
  ·obtain ⟨sl, e1⟩ := I.base.slot b o e n hb hx
   exact ⟨sl, (hs.2 b (Th (SW (Sw e) (I.ok.NJ x c hfn hc)))).trans e1⟩
  ·obtain ⟨o', e1⟩ := I.base.there b o e hx
   exact ⟨o', (hs.2 b (Th (SW (Sw e) (I.ok.NJ x c hfn hc)))).trans e1⟩
  ·by_cases hj : j = i
   ·subst hj
    rw [hi] at e1; cases e1
    rw [List.getElem?_set_self Qh] at e2
    cases e2
    exact ⟨u, r, .inr ⟨.inl hk, c, hc, hc'⟩⟩
   ·rw [List.getElem?_set_ne (UO hj)] at e2
    obtain ⟨u', r', q⟩ := hl j y v' e1 e2 e3
    refine ⟨u', r', ?_⟩
    rcases q with q | ⟨k, c', e, z'⟩
    ·exact .inl q
    ·refine .inr ⟨k, c', e, z'.sameBut hs ?_⟩
     rintro rfl
     exact hj (p_ hN e1 (I.ok.inj _ _ _ e hc ▸ hi))
  ·by_cases hcc : c' = c
   ·subst hcc; exact ⟨_, hc'⟩
   ·obtain ⟨w2, z2⟩ := I.cell y c' e
    exact ⟨w2, z2.sameBut hs hcc⟩
  ·obtain ⟨e, n, ne, nf, d⟩ := I.pin p hp
   refine ⟨(hs.2 p.1 ?_).trans e, n, ne, nf, d⟩
   intro q
   rw [q, hoc] at e
   have q' : oc = p.2 := Tz e
   exact d w' (by rw [<- q']; exact O8)
def dQ{M:Model}{A:Around}{E:Vq}{i:Nat}{x:Str}{v:V}{u:Value}{Q:Unit->Shared->Prop}(I:Inv X pins σ H s)(hN:X.N.Nodup)(hi:X.N[i]?=some x)(hx:AB X.env.scope x)(r:RelV v u)
  (h:∀s',Inv X pins (σ.set i (some v)) H s'->Q () s') (hf:X.fn x=true\/X.env.scope.names.lookup x=some .local:=by first|exact .inl rfl|exact .inr rfl|assumption):wpAny M A (storeName X.env x u) Q E s:=
 nI I hN hi hx r (fun s' I' _=>h s' I') hf
def Inv.NU{s':Shared}{ch:List Addr}(I:Inv X pins σ H s)(ho:s'.os=s.os)(u:Un (frs X.stack) ch H H' s.heap s'.heap)(hok:JI X.prog X.w H' s'.heap)(hg:AllBare s'.gens)
  (hch:∀b∈ch,(b∈X.ex\/X.s₀.heap.objs.size<=b)/\b≠X.env.locals/\(∀x c,X.env.cells.lookup x=some c->c≠b)/\∀p∈X.pn++pins,p.1≠b):Inv X pins σ H' s':=by
 obtain⟨h',g',d',t',o'⟩:=s'
 have e:o'=s.os:=ho
 subst e
 exact I.call (g':=g') (t':=t') (d':=d') u hok hg hch
end
abbrev XK:=Value->Option Addr->Hp->Prop
abbrev St:=List (Option V)
abbrev VK:=V->Hp->Prop
abbrev TE:=St->Hp->VK->Prop
abbrev TT:=St->Hp->(Bool->Hp->Prop)->Prop
abbrev TA:=St->Hp->(List V->Hp->Prop)->Prop
structure m7 where
 nx:St->Hp->Prop
 rt:VK
 bk:St->Hp->Prop:=fun _ _=>False
 ct:St->Hp->Prop:=fun _ _=>False
abbrev TS:=m7->St->Hp->Prop
def EP(X:Cx)(pins:Va)(σ:St)(Q:VK)(u:Value)(s':Shared):Prop:=∃v H',Inv X pins σ H' s'/\RelV v u/\Q v H'
def TP(X:Cx)(pins:Va)(σ:St)(Q:Bool->Hp->Prop)(b:Bool)(s':Shared):Prop:=∃H',Inv X pins σ H' s'/\Q b H'
def AP(X:Cx)(pins:Va)(σ:St)(Q:List V->Hp->Prop)(us:Vv)(s':Shared):Prop:=∃vs H',Inv X pins σ H' s'/\Vals vs us/\Q vs H'
def SP(X:Cx)(pins:Va)(D:m7)(f:Flow)(s':Shared):Prop:=
 match f with
 | .next=>∃σ' H',Inv X pins σ' H' s'/\D.nx σ' H'
 | .brk=>∃σ' H',Inv X pins σ' H' s'/\D.bk σ' H'
 | .cont=>∃σ' H',Inv X pins σ' H' s'/\D.ct σ' H'
 | .ret u=>∃v σ' H',Inv X pins σ' H' s'/\RelV v u/\D.rt v H'
def PE(X:Cx)(e:Expr)(t:TE):Prop:=
 ∀(pins:Va) (s:Shared) (σ:St) (H:Hp) (Q:VK),Inv X pins σ H s->t σ H Q->wpAny (model X.prog X.w) X.A (eval e X.env) (EP X pins σ Q) X.xe s
def PT(X:Cx)(e:Expr)(t:TT):Prop:=
 ∀(pins:Va) (s:Shared) (σ:St) (H:Hp) (Q:Bool->Hp->Prop),Inv X pins σ H s->t σ H Q->wpAny (model X.prog X.w) X.A (isTrue e X.env (eval e X.env)) (TP X pins σ Q) X.xe s
def PW(X:Cx)(e:Expr)(t:TT):Prop:=
 ∀(whole:Sem Value) (pins:Va) (s:Shared) (σ:St) (H:Hp) (Q:Bool->Hp->Prop),Inv X pins σ H s->t σ H Q->wpAny (model X.prog X.w) X.A (isTrue e X.env whole) (TP X pins σ Q) X.xe s
def PW.pt{X:Cx}{e:Expr}{t:TT}(h:PW X e t):PT X e t:=h _
def PA(X:Cx)(es:List Expr)(t:TA):Prop:=
 ∀(pos:Pos) (pins:Va) (s:Shared) (σ:St) (H:Hp) (Q:List V->Hp->Prop),Inv X pins σ H s->t σ H Q->wpAny (model X.prog X.w) X.A (spliced (backTo pos (starEach es X.env))) (AP X pins σ Q) X.xe s
def PS(X:Cx)(st:Stmt)(t:TS):Prop:=
 ∀(pins:Va) (s:Shared) (σ:St) (H:Hp) (D:m7),Inv X pins σ H s->t D σ H->wpAny (model X.prog X.w) X.A (exec st X.env) (SP X pins D) X.xe s
def Lp(X:Cx)(st:List Stmt)(t:TS):Prop:=
 ∀(pins:Va) (s:Shared) (σ:St) (H:Hp) (D:m7),Inv X pins σ H s->t D σ H->wpAny (model X.prog X.w) X.A (execs st X.env) (SP X pins D) X.xe s
def Hj{α:Type}{t:Sem α}{Q Q':α->Shared->Prop}{M:Model}{A:Around}{E:Vq}{s:Shared}(h:wpAny M A t Q E s)(hQ:∀a s,Q a s->Q' a s):wpAny M A t Q' E s:=Vj h hQ fun _ _ x=>x
section
variable {X:Cx}
def FM(i:Nat):TE:=fun σ H Q=>∃v,σ[i]?=some (some v)/\Q v H
def tC(v:V):TE:=fun _ H Q=>Q v H
def Bb{i:Nat}{x:Str}{pos:Pos}(hN:X.N[i]?=some x)(hv:Fw X.env.scope x)(hd:(x == ("__debug__":Str))=false:=by decide)(hcd:(x == ("__classdict__":Str))=false:=by decide):PE X (.Name x pos) (FM i):=by
 intro pins s σ H Q I h
 obtain⟨v,e,h⟩:=h
 obtain⟨m,hn,hl⟩:=I.loc
 obtain⟨u,r,l⟩:=hl i x v hN e hv
 have fin:EP X pins σ Q u s:=⟨v,H,I,r,h⟩
 rcases l with⟨hk,hm⟩|⟨hk,c,hc,hcell⟩
 ·exact wpAny_Name (wpAny_loadName_local I.ok.kind hk hn hm fin) hd
 ·rcases hk with hk|hk
  ·exact wpAny_Name (wpAny_loadName_cell I.ok.kind hk hc hcell fin) hd
  ·exact wpAny_Name (wpAny_loadName_free I.ok.kind hk hc hcell fin hcd) hd
def Bc{i j pos}:PE X (.Constant (.int i) j pos) (tC (.int i)):=fun _ _ _ H _ I h=>wpAny_Constant_int ⟨.int i,H,I.tok _,⟨_,rfl⟩,h⟩
def DK{b j pos}:PE X (.Constant (.bool b) j pos) (tC (.bl b)):=fun _ _ _ H _ I h=>Constant_bool ⟨.bl b,H,I,rfl,h⟩
def Be{j pos}:PE X (.Constant .none j pos) (tC .non):=fun _ _ _ H _ I h=>Constant_none ⟨.non,H,I,rfl,h⟩
def Bf{x j pos}:PE X (.Constant (.str x) j pos) (tC (.str x)):=fun _ _ _ H _ I h=>Calls.Constant_str ⟨.str x,H,I.tok _,⟨_,rfl⟩,h⟩
def Gl(X:Cx)(x:Str):Prop:=X.env.kindOf x=some .globalImplicit
def sO{E:Vq}{pins:Va}{s:Shared}{σ:St}{H:Hp}{x:Str}{u:Value}{pos:Pos}{Q:Vq}(I:Inv X pins σ H s)(hg:Gl X x)(hm:X.mg x=some u)(h:Q u s)
  (hd:(x == ("__debug__":Str))=false:=by decide):wpAny (model X.prog X.w) X.A (eval (.Name x pos) X.env) Q E s:=
 Calls.Name_function_global I.ok.kind hg (Calls.loadGlobal_global (by rw[I.ok.glob];exact I.mod.glob.keeps I.bk) hm h) hd
def eO{E:Vq}{pins:Va}{s:Shared}{σ:St}{H:Hp}{x:Str}{u:Value}{pos:Pos}{Q:Vq}(I:Inv X pins σ H s)(hg:Gl X x)(hm:X.mg x=none)(hv:bootBuiltins x=some u)(h:Q u s)
  (hn:x ≠ "__name__":=by decide) (hd:(x == ("__debug__":Str))=false:=by decide):wpAny (model X.prog X.w) X.A (eval (.Name x pos) X.env) Q E s:=by
 obtain⟨mb,h1,h2⟩:=I.mod.blt
 exact Calls.Name_function_global I.ok.kind hg (Calls.loadGlobal_builtin (by rw[I.ok.glob];exact I.mod.glob.keeps I.bk) hm (by rw[I.ok.blt];exact h1.keeps I.bk) ((h2 x hn).trans hv) h) hd
def yC{x:Str}{v:V}{u:Value}{pos:Pos}(hg:Gl X x)(hm:X.mg x=none)(hv:bootBuiltins x=some u)(r:RelV v u)(hn:x ≠ "__name__":=by decide)(hd:(x == ("__debug__":Str))=false:=by decide):PE X (.Name x pos) (tC v):=
 fun _ _ _ H _ I h=>eO I hg hm hv ⟨v,H,I,r,h⟩ hn hd
variable {a b:Expr} {ta tb:TE} {pos:Pos}
def tB(t:TE):TT:=fun σ H Q=>t σ H fun x H1=>∃c,x = .bl c/\Q c H1
def Bg{e:Expr}{t:TE}(h:PE X e t)(he:∀whole,isTrue e X.env whole=(do let v <-whole;standAt e.pos;holding [v] (truthy v)):=by intro _;rfl):PT X e (tB t):=by
 intro pins s σ H Q I hw
 refine isTrue_plain (Hj (h pins s σ H _ I hw) fun v s1 ⟨x,H1,I1,r1,q1⟩=>?_) (he _)
 obtain⟨d,rfl,q⟩:=q1
 cases r1
 exact Ux ⟨H1,I1,q⟩
variable {tA Oq:TT} {rest:List Expr}
def FN(t u:TT):TT:=fun σ H Q=>t σ H fun c H1=>if c=true then u σ H1 Q else Q false H1
def GO(t u:TT):TT:=fun σ H Q=>t σ H fun c H1=>if c=true then Q true H1 else u σ H1 Q
def FO(t:TT):TT:=fun σ H Q=>t σ H fun c H1=>Q (!c) H1
def yD(ha:PT X a tA):PW X (.BoolOp .And [a] pos) tA:=by
 intro wh pins s σ H Q I h
 refine isTrue_and (Hj (ha pins s σ H Q I h) fun c s1 e=>?_)
 cases c with
 |true=>exact isTrue_and_nil e
 |false=>exact e
def Bh(ha:PT X a tA):PW X (.BoolOp .Or [a] pos) tA:=by
 intro wh pins s σ H Q I h
 refine isTrue_or (Hj (ha pins s σ H Q I h) fun c s1 e=>?_)
 cases c with
 |false=>exact isTrue_or_nil e
 |true=>exact e
def Bi(ha:PT X a tA)(hb:PW X (.BoolOp .And (b::rest) pos) Oq):PW X (.BoolOp .And (a::b::rest) pos) (FN tA Oq):=by
 intro wh pins s σ H Q I h
 refine isTrue_and (Hj (ha pins s σ H _ I h) fun c s1 ⟨H1,I1,q1⟩=>?_)
 cases c with
 |true=>exact hb wh pins s1 σ H1 Q I1 q1
 |false=>exact⟨H1,I1,q1⟩
def DL(ha:PT X a tA)(hb:PW X (.BoolOp .Or (b::rest) pos) Oq):PW X (.BoolOp .Or (a::b::rest) pos) (GO tA Oq):=by
 intro wh pins s σ H Q I h
 refine isTrue_or (Hj (ha pins s σ H _ I h) fun c s1 ⟨H1,I1,q1⟩=>?_)
 cases c with
 |true=>exact⟨H1,I1,q1⟩
 |false=>exact hb wh pins s1 σ H1 Q I1 q1
def Bj(ha:PT X a tA):PT X (.UnaryOp .Not a pos) (FO tA):=by
 intro pins s σ H Q I h
 exact isTrue_not (ha pins s σ H (fun c H1=>Q (!c) H1) I h)
def DM(ta tb:TE):TE:=fun σ H Q=>ta σ H fun x H1=>∃c,x = .bl c/\if c=true then tb σ H1 Q else Q (.bl false) H1
def FP(ta tb:TE):TE:=fun σ H Q=>ta σ H fun x H1=>∃c,x = .bl c/\if c=true then Q (.bl true) H1 else tb σ H1 Q
def DN(ta:TE):TE:=fun σ H Q=>ta σ H fun x H1=>∃c,x = .bl c/\Q (.bl (!c)) H1
def Bl{op}{t:TE}(h:PE X a t):PE X (.BoolOp op [a] pos) t:=fun pins s σ H Q I hw=>BoolOp_one (h pins s σ H Q I hw)
def Bm(ha:PE X a ta)(hb:PE X (.BoolOp .And (b::rest) pos) tb):PE X (.BoolOp .And (a::b::rest) pos) (DM ta tb):=by
 intro pins s σ H Q I h
 refine BoolOp_and (Hj (ha pins s σ H _ I h) fun v s1 ⟨x,H1,I1,r1,q1⟩=>?_)
 obtain⟨c,rfl,q1⟩:=q1
 cases r1
 refine Ux ?_
 cases c with
 |true=>exact hb pins s1 σ H1 Q I1 q1
 |false=>exact⟨.bl false,H1,I1,rfl,q1⟩
def DO(ha:PE X a ta)(hb:PE X (.BoolOp .Or (b::rest) pos) tb):PE X (.BoolOp .Or (a::b::rest) pos) (FP ta tb):=by
 intro pins s σ H Q I h
 refine BoolOp_or (Hj (ha pins s σ H _ I h) fun v s1 ⟨x,H1,I1,r1,q1⟩=>?_)
 obtain⟨c,rfl,q1⟩:=q1
 cases r1
 refine Ux ?_
 cases c with
 |false=>exact hb pins s1 σ H1 Q I1 q1
 |true=>exact⟨.bl true,H1,I1,rfl,q1⟩
def Bn(ha:PE X a ta):PE X (.UnaryOp .Not a pos) (DN ta):=by
 intro pins s σ H Q I h
 refine UnaryOp_ (Hj (ha pins s σ H _ I h) fun v s1 ⟨x,H1,I1,r1,q1⟩=>?_)
 obtain⟨c,rfl,q1⟩:=q1
 cases r1
 exact not_of (Ux ⟨.bl (!c),H1,I1,rfl,q1⟩)
def GP(t:TT)(ta tb:TE):TE:=fun σ H Q=>t σ H fun c H1=>if c=true then ta σ H1 Q else tb σ H1 Q
def vx{c:Expr}(hc:PT X c tA)(ha:PE X a ta)(hb:PE X b tb):PE X (.IfExp c a b pos) (GP tA ta tb):=by
 intro pins s σ H Q I h
 refine wpAny_IfExp (Hj (hc pins s σ H _ I h) fun d s1 ⟨H1,I1,q1⟩=>?_)
 cases d with
 |true=>exact ha pins s1 σ H1 Q I1 q1
 |false=>exact hb pins s1 σ H1 Q I1 q1
end
def SqL(K:Vo)(H:Hp)(a:Addr)(xs:List V):Prop:=
 Rd H a (.lst xs) \/
  ∃(o:Obj) (its:Vw) (n:Nat),K.lookup a=some o/\o.cls = .type "list"/\o.dict=none/\o.data = .seq its n/\its.size<=sizeLine/\Vals xs its.toList
def SqT(K:Vo)(H:Hp)(a:Addr)(xs:List V):Prop:=
 Rd H a (.tup xs) \/
  ∃(o:Obj) (its:Vw) (n:Nat),K.lookup a=some o/\o.cls = .type "tuple"/\o.dict=none/\o.data = .seq its n/\its.size<=sizeLine/\Vals xs its.toList
noncomputable def FQ:Value->Option V
 | .none=>some .non
 | .bool b=>some (.bl b)
 | .int i _=>some (.int i)
 | .str x _=>some (.str x)
 | .bytes b _=>some (.Mn b)
 | .float b _=>some (.OT b)
 | .ref a=>some (.ref a)
 | .type n=>some (.ty n)
 |_=>none
def RelV.abs{x:V}{u:Value}(r:RelV x u):FQ u=some x:=by
 cases x with
 |non=>cases r;rfl
 |bl _=>cases r;rfl
 |int _=>obtain⟨t,rfl⟩:=r;rfl
 |str _=>obtain⟨t,rfl⟩:=r;rfl
 |Mn _=>obtain⟨t,rfl⟩:=r;rfl
 |OT _=>obtain⟨t,rfl⟩:=r;rfl
 |ref _=>cases r;rfl
 |ty _=>cases r;rfl
theorem RelV.inj{x y:V}{u:Value}(r:RelV x u)(q:RelV y u):x=y:=Tz (r.abs.symm.trans q.abs)
theorem Vals.inj:∀{xs ys:List V} {us:Vv},Vals xs us->Vals ys us->xs=ys
 |_,_,_,.nil,.nil=>rfl
 |_,_,_,.cons r t,.cons r' t'=>by rw[r.inj r',Vals.inj t t']
section
variable {X:Cx} {pins:Va} {σ:St} {H:Hp} {s:Shared} {a:Addr} {xs ys:List V}
def SqL.of{K:Vo}(h:H a=some (.lst xs)):SqL K H a xs:=.inl (.inl h)
def SqT.of{K:Vo}(h:H a=some (.tup xs)):SqT K H a xs:=.inl (.inl h)
def Inv.list(I:Inv X pins σ H s)(h:SqL X.K H a xs):∃its:List Value,Vals xs its/\PlainL s.heap a its.toArray/\xs.length<=sizeLine:=by
 rcases h with h|⟨o,its,n,hk,hc,hd,hs,hz,r⟩
 ·obtain⟨z,its,n,r,e⟩:=h.ok I.hok
  exact⟨its,r,⟨_,n,e,rfl,rfl,rfl⟩,z⟩
 ·refine⟨its.toList,r,⟨o,n,I.Mp a o hk,hc,hd,by simpa using hs⟩,?_⟩
  have e:=r.length
  simp only[Array.length_toList]at e
  omega
def Inv.tuple(I:Inv X pins σ H s)(h:SqT X.K H a xs):∃its:List Value,Vals xs its/\IsTup s.heap a its.toArray/\xs.length<=sizeLine:=by
 rcases h with h|⟨o,its,n,hk,hc,_,hs,hz,r⟩
 ·obtain⟨z,its,r,p⟩:=h.ok I.hok
  exact⟨its,r,p.tup,z⟩
 ·refine⟨its.toList,r,⟨o,I.Mp a o hk,hc,n,by simpa using hs⟩,?_⟩
  have e:=r.length
  simp only[Array.length_toList]at e
  omega
def Inv.Kw(I:Inv X pins σ H s)(h:SqL X.K H a xs)(h':SqL X.K H a ys):xs=ys:=by
 obtain⟨its,r,⟨o,n,e,_,_,d⟩,_⟩:=I.list h
 obtain⟨its',r',⟨o',n',e',_,_,d'⟩,_⟩:=I.list h'
 rw[e]at e';cases e'
 rw[d]at d'
 injection d' with d1 _
 have:its=its':=by simpa using T6 Array.toList d1
 subst this
 exact r.inj r'
def Inv.Kd(I:Inv X pins σ H s)(h:SqT X.K H a xs)(h':SqT X.K H a ys):xs=ys:=by
 obtain⟨its,r,⟨o,e,_,n,d⟩,_⟩:=I.tuple h
 obtain⟨its',r',⟨o',e',_,n',d'⟩,_⟩:=I.tuple h'
 rw[e]at e';cases e'
 rw[d]at d'
 injection d' with d1 _
 have:its=its':=by simpa using T6 Array.toList d1
 subst this
 exact r.inj r'
end
noncomputable abbrev Cx.wish(X:Cx)(E:Vq):Cx:={ X with xe:=E }
noncomputable abbrev Cx.Np(X:Cx):Cx:=X.wish fun _ _=>False
theorem Cx.Ok.wish{X:Cx}(ok:X.Ok)(E:Vq):(X.wish E).Ok:=
 ⟨ok.mod,ok.kind,ok.glob,ok.blt,ok.above,ok.inj,ok.has,ok.NJ,ok.hd,ok.frames,ok.stk,ok.OX,ok.bs,ok.MR,ok.Mg,ok.Mo,ok.Kq,ok.Nn⟩
def Cx.Ok.JB{X:Cx}{E:Vq}(ok:(X.wish E).Ok):X.Ok:=
 ⟨ok.mod,ok.kind,ok.glob,ok.blt,ok.above,ok.inj,ok.has,ok.NJ,ok.hd,ok.frames,ok.stk,ok.OX,ok.bs,ok.MR,ok.Mg,ok.Mo,ok.Kq,ok.Nn⟩
section
variable {X:Cx} {pins:Va} {σ:St} {H:Hp} {s:Shared} {E:Vq}
theorem Inv.wish(I:Inv X pins σ H s)(E:Vq):Inv (X.wish E) pins σ H s:=⟨I.ok.wish E,I.os,I.bare,I.base,I.loc,I.cell,I.free,I.JA,I.pin,I.hok,I.len⟩
theorem Inv.JB(I:Inv (X.wish E) pins σ H s):Inv X pins σ H s:=⟨I.ok.JB,I.os,I.bare,I.base,I.loc,I.cell,I.free,I.JA,I.pin,I.hok,I.len⟩
theorem SP.JB{D:m7}{f:Flow}{s':Shared}(h:SP (X.wish E) pins D f s'):SP X pins D f s':=by
 cases f with
 |next=>obtain⟨σ',H',I,q⟩:=h;exact⟨σ',H',I.JB,q⟩
 |brk=>obtain⟨σ',H',I,q⟩:=h;exact⟨σ',H',I.JB,q⟩
 |cont=>obtain⟨σ',H',I,q⟩:=h;exact⟨σ',H',I.JB,q⟩
 |ret u=>obtain⟨v,σ',H',I,r,q⟩:=h;exact⟨v,σ',H',I.JB,r,q⟩
theorem Lp.Np{st:List Stmt}{t:TS}(h:Lp X.Np st t):Lp X st t:=fun pins s σ H D I hw=>
 Vj (h pins s σ H D (I.wish _) hw) (fun _ _ q=>q.JB) fun _ _ z=>False.elim z
end
section
variable {X:Cx} {st:Stmt} {rest:List Stmt} {t u:TS} {e:Expr} {te:TE} {pos:Pos}
def DP:TS:=fun D σ H=>D.nx σ H
def FR(t u:TS):TS:=fun D σ H=>t { D with nx:=u D } σ H
def yE:Lp X [] DP:=fun _ _ σ H _ I h=>WA ⟨σ,H,I,h⟩
def vy(h1:PS X st t)(h2:Lp X rest u):Lp X (st::rest) (FR t u):=by
 intro pins s σ H D I h
 refine wpAny_execs_cons (Hj (h1 pins s σ H { D with nx:=u D } I h) fun f s1 q=>?_)
 cases f with
 |next=>
  obtain⟨σ',H',I',q⟩:=q
  exact h2 pins s1 σ' H' D I' q
 |ret v=>exact q
 |brk=>exact q
 |cont=>exact q
def yF(h1:PS X st t):Lp X [st] t:=by
 intro pins s σ H D I h
 refine wpAny_execs_cons (Hj (h1 pins s σ H D I h) fun f s1 q=>?_)
 cases f with
 |next=>exact WA q
 |ret v=>exact q
 |brk=>exact q
 |cont=>exact q
def Inv.quiet{pins:Va}{σ:St}{H:Hp}{s:Shared}(I:Inv X pins σ H s):interactive X.env=false:=by simp[interactive,I.ok.kind]
def DQ(te:TE):TS:=fun D σ H=>te σ H fun _ H1=>D.nx σ H1
def yG(he:PE X e te)(hs:swapsWith e none pos.line X.env=pure false:=by rfl):PS X (.Expr e pos) (DQ te):=by
 intro pins s σ H D I h
 exact wpAny_Expr_any (Hj (he pins s σ H _ I h) fun v s1 ⟨x,H1,I1,r1,q1⟩=>⟨σ,H1,I1,q1⟩) I.quiet hs
def FS(te:TE):TS:=fun D σ H=>te σ H D.rt
def Bo(he:PE X e te):PS X (.Return (some e) pos) (FS te):=by
 intro pins s σ H D I h
 exact wpAny_Return_some (Hj (he pins s σ H _ I h) fun v s1 ⟨x,H1,I1,r1,q1⟩=>⟨x,σ,H1,I1,r1,q1⟩)
def FT(c:TT)(t u:TS):TS:=fun D σ H=>c σ H fun b H1=>if b=true then t D σ H1 else u D σ H1
def DR{c:Expr}{a b:List Stmt}{tc:TT}(hc:PT X c tc)(ha:Lp X a t)(hb:Lp X b u):PS X (.If c a b pos) (FT tc t u):=by
 intro pins s σ H D I h
 refine wpAny_If (Hj (hc pins s σ H _ I h) fun d s1 ⟨H1,I1,q1⟩=>?_)
 cases d with
 |true=>exact ha pins s1 σ H1 D I1 q1
 |false=>exact hb pins s1 σ H1 D I1 q1
end
abbrev TG:=V->St->Hp->(St->Hp->Prop)->Prop
abbrev AC:=List V->St->Hp->(St->Hp->Prop)->Prop
def PG(X:Cx)(target:Expr)(t:TG):Prop:=
 ∀(pins:Va) (s:Shared) (σ:St) (H:Hp) (v:V) (u:Value) (Q:St->Hp->Prop),Inv X pins σ H s->RelV v u->t v σ H Q->
  wpAny (model X.prog X.w) X.A (assign target X.env u) (fun _ s'=>∃σ' H',Inv X pins σ' H' s'/\Q σ' H') X.xe s
def DS(X:Cx)(ts:List Expr)(t:AC):Prop:=
 ∀(pins:Va) (s:Shared) (σ:St) (H:Hp) (vs:List V) (us:Vv) (Q:St->Hp->Prop),Inv X pins σ H s->Vals vs us->t vs σ H Q->
  wpAny (model X.prog X.w) X.A (assignInOrder ((assignEach ts X.env).map (·.2)) us) (fun _ s'=>∃σ' H',Inv X pins σ' H' s'/\Q σ' H') X.xe s
abbrev Bp:=V->V->V->Hp->(Hp->Prop)->Prop
def yH(X:Cx)(t:Bp):Prop:=
 ∀(pins:Va) (s:Shared) (σ:St) (H:Hp) (o i v:V) (ov iv u:Value) (Q:Hp->Prop),Inv X pins σ H s->RelV o ov->RelV i iv->RelV v u->t o i v H Q->
  wpAny (model X.prog X.w) X.A (setItem ov iv u) (fun _ s'=>∃H',Inv X pins σ H' s'/\Q H') X.xe s
section
variable {X:Cx} {pos:Pos}
def qd(i:Nat):TG:=fun v σ H Q=>Q (σ.set i (some v)) H
def yI{i:Nat}{x:Str}(hN:X.N.Nodup)(hi:X.N[i]?=some x)(hx:AB X.env.scope x)(hf:X.fn x=true\/X.env.scope.names.lookup x=some .local:=by first|exact .inl rfl|exact .inr rfl|assumption):PG X (.Name x pos) (qd i):=by
 intro pins s σ H v u Q I r h
 exact wpAny_assign_Name (dQ I hN hi hx r (fun s' I'=>⟨_,H,I',h⟩) hf)
noncomputable def DT:AC:=fun vs σ H Q=>vs=[]/\Q σ H
noncomputable def AD(t:TG)(u:AC):AC:=fun vs σ H Q=>∃v r,vs=v::r/\t v σ H fun σ' H'=>u r σ' H' Q
def yJ:DS X [] DT:=by
 intro pins s σ H vs us Q I r h
 obtain⟨e,h⟩:=h
 subst e
 cases r
 exact assignInOrder_nil ⟨σ,H,I,h⟩
def vz{e:Expr}{es:List Expr}{t:TG}{u:AC}(h1:PG X e t)(h2:DS X es u)
  (hs:(assignEach (e::es) X.env).map (·.2)=assign e X.env::(assignEach es X.env).map (·.2):=by rfl):DS X (e::es) (AD t u):=by
 intro pins s σ H vs us Q I r h
 obtain⟨v,vr,e1,h⟩:=h
 subst e1
 cases r with
 |cons r rr=>
  rw[hs]
  refine U3 (Hj (h1 pins s σ H _ _ _ I r h) fun _ s1 ⟨σ1,H1,I1,q1⟩=>?_)
  exact h2 pins s1 σ1 H1 _ _ Q I1 rr q1
def DU(K:Vo)(n:Nat)(t:AC):TG:=fun v σ H Q=>∃a xs,v = .ref a/\SqT K H a xs/\xs.length=n/\t xs σ H Q
def Bq{es:List Expr}{k:Nat}{t:AC}{n:Nat}(hc:X.calm=true)(h:DS X es t)
  (hn:(assignEach es X.env).length=n:=by rfl) (hst:(assignEach es X.env).findIdx? (·.1)=none:=by rfl):PG X (.Tuple es k pos) (DU X.K n t):=by
 intro pins s σ H v u Q I r hw
 obtain⟨a,xs,e1,hq,hl,hw⟩:=hw
 subst e1
 cases r
 obtain⟨its,rv,ht,hz⟩:=I.tuple hq
 refine assign_Tuple_tuple (I.ok.hd hc) ht (by simp[hn,<-hl,rv.length]) hst fun h' hx=>?_
 have I1:Inv X pins σ H { s with heap:=h' }:=I.kept (t':=s.toks) fun b o e=>hx b o (Th (Sw e)) e
 exact h pins _ σ H xs _ Q I1 (by simpa using rv) hw
def FU(to ti:TE)(t:Bp):TG:=fun v σ H Q=>to σ H fun o H1=>ti σ H1 fun i H2=>t o i v H2 fun H3=>Q σ H3
def Br{o i:Expr}{to ti:TE}{t:Bp}(ho:PE X o to)(hi:PE X i ti)(hs:yH X t)
  (ha:∀v,assign (.Subscript o i pos) X.env v=(do
   let ov <-holding [v] (eval o X.env)
   let iv <-holding [v,ov] (eval i X.env)
   standAt pos
   holding [v,ov,iv] (setItem ov iv v)
   release [v,ov,iv] []):=by intro _;rfl):PG X (.Subscript o i pos) (FU to ti t):=by
 intro pins s σ H v u Q I r h
 rw[ha]
 refine Sl (Vk (Hj (ho pins s σ H _ I h) fun ov s1 ⟨x,H1,I1,r1,q1⟩=>?_))
 refine Sl (Vk (Hj (hi pins s1 σ H1 _ I1 q1) fun iv s2 ⟨y,H2,I2,r2,q2⟩=>?_))
 refine Sl (Ws (Sl (Vk (Hj (hs pins s2 σ H2 x y v ov iv u _ I2 r1 r2 r q2) fun _ s3 ⟨H3,I3,q3⟩=>?_))))
 exact wpAny_release ⟨σ,H3,I3,q3⟩
def yK(te:TE)(g:TG):TS:=fun D σ H=>te σ H fun x H1=>g x σ H1 D.nx
def Bs{tg e:Expr}{te:TE}{g:TG}(he:PE X e te)(hg:PG X tg g)(hs:swapsWithSole [tg] e pos.line X.env=pure false:=by rfl)(hw:swappedStores [tg] e X.env=pure none:=by rfl)
  (h1:(assignEach [tg] X.env).map (·.2)=[assign tg X.env]:=by rfl):PS X (.Assign [tg] e pos) (yK te g):=by
 intro pins s σ H D I h
 refine wpAny_Assign_stores (Hj (he pins s σ H _ I h) fun v s1 ⟨x,H1,I1,r1,q1⟩=>?_) hs hw
 rw[h1]
 exact Hj (hg pins s1 σ H1 x v _ I1 r1 q1) fun _ s2 q=>q
def Bt{i:Nat}{x:Str}{e:Expr}{te:TE}{pos':Pos}(hN:X.N.Nodup)(hi:X.N[i]?=some x)(hx:AB X.env.scope x)(he:PE X e te)(hs:swapsWith e (some (.Name x pos')) pos.line X.env=pure false:=by rfl)(hf:X.fn x=true\/X.env.scope.names.lookup x=some .local:=by first|exact .inl rfl|exact .inr rfl|assumption) :
  PS X (.Assign [.Name x pos'] e pos) (yK te (qd i)):=by
 intro pins s σ H D I h
 refine wpAny_Assign_Name (Hj (he pins s σ H _ I h) fun v s1 ⟨y,H1,I1,r1,q1⟩=>?_) hs
 exact dQ I1 hN hi hx r1 (fun s2 I2=>⟨_,H1,I2,q1⟩) hf
def FV(i j:Nat)(ta:TA):TS:=fun D σ H=>ta σ H fun vs H1=>∃v w,vs=[v,w]/\D.nx ((σ.set i (some v)).set j (some w)) H1
def Bu{i j:Nat}{x y:Str}{a b:Expr}{ta:TA}{px py pt:Pos}{kt k2 Nq}(hc:X.calm=true)(hN:X.N.Nodup)(hi:X.N[i]?=some x)(hj:X.N[j]?=some y)(hij:i≠j)
  (hx:X.env.scope.names.lookup x=some .local) (hy:X.env.scope.names.lookup y=some .local) (ha:PA X [a,b] ta)
  (hw:swappedStores [.Tuple [.Name x px,.Name y py] kt pt] (.Tuple [a,b] k2 Nq) X.env=pure (some [x,y]))
  (hs:swapsWithSole [.Tuple [.Name x px,.Name y py] kt pt] (.Tuple [a,b] k2 Nq) pos.line X.env=pure false:=by rfl) :
  PS X (.Assign [.Tuple [.Name x px,.Name y py] kt pt] (.Tuple [a,b] k2 Nq) pos) (FV i j ta):=by
 intro pins s σ H D I h
 rw[exec_Assign_arm]
 refine Sl (Ws ?_)
 rw[hs]
 refine Sl (Sx ?_)
 rw[if_neg (by decide)]
 refine Sl (Tuple_ (Hj (ha _ pins s σ H _ I h) fun us s1 ⟨vs,H1,I1,r1,q1⟩=>?_))
 obtain⟨v,w,e1,q1⟩:=q1
 subst e1
 obtain⟨u1,u2,rfl,rv,rw'⟩:∃u1 u2,us=[u1,u2]/\RelV v u1/\RelV w u2:=by
  cases r1 with
  |cons p q=>
   cases q with
   |cons p' q'=>
    cases q'
    exact⟨_,_,rfl,p,p'⟩
 refine Uq ?_ (by show 2<=sizeLine;decide)
 have I2:Inv X pins σ H1 { s1 with heap:=s1.heap.push { cls:=.type "tuple",data:=.seq [u1,u2].toArray } }:=I1.kept (t':=s1.toks) fun b o e=>So _ e
 rw[hw]
 refine Sl (Sx ?_)
 show wpAny (model X.prog X.w) X.A (do rule "assign.swapped-stores"; let items <-unpackItems (.ref s1.heap.objs.size) 2 none;assignInOrder [fun v=>bindName X.env y v,fun v=>bindName X.env x v] items.reverse;pure Flow.next) _ _ _
 refine Sl (VB (Sl (unpackItems_tuple (items:=#[u1,u2]) (I.ok.hd hc) (IsTup.new s1.heap _) fun h' hx'=>?_)))
 have I3:=I2.kept (h':=h') (t':=s1.toks) fun b o e=>hx' b o (Th (Sw e)) e
 show wpAny _ _ (assignInOrder [fun v=>bindName X.env y v,fun v=>bindName X.env x v] [u2,u1] >>= fun _=>pure Flow.next) _ _ _
 refine Sl (U3 (V9 (dQ I3 hN hj (.inl hy) rw' (fun s2 I4=>?_) (.inr hy))))
 refine U3 (V9 (dQ I4 hN hi (.inl hx) rv (fun s3 I5=>assignInOrder_nil (Sx ?_)) (.inr hx)))
 rw[List.set_comm _ _ (UO hij)]at I5
 exact⟨_,H1,I5,q1⟩
end
section
variable {X:Cx} {pos:Pos}
def Bv(c:TT)(tb:TS):TS:=fun D σ H=>∃W:Nat->St->Hp->Prop,(∃m,W m σ H)/\∀m σ H,W m σ H->
 c σ H fun b H1=>if b=true then ∃N:St->Hp->Prop,(∀σ' H',N σ' H'->∃m',m' < m/\W m' σ' H')/\tb { D with nx:=N,ct:=N,bk:=D.nx } σ H1 else D.nx σ H1
def vA{c:Expr}{body:List Stmt}{tc:TT}{tb:TS}(hp:PassesOwn (model X.prog X.w) X.A X.env X.xe)(hc:PT X c tc)(hb:Lp X body tb):PS X (.While c body [] pos) (Bv tc tb):=by
 intro pins s σ H D I h
 obtain⟨W,⟨m0,w0⟩,turn⟩:=h
 refine wpAny_While (codeAny_whileLoop (fun n s'=>∃σ' H',Inv X pins σ' H' s'/\W n σ' H') ?_ m0 ⟨σ,H,I,w0⟩)
 rintro n s1 ⟨σ1,H1,I1,w1⟩
 refine Vc hp (Hj (hc pins s1 σ1 H1 _ I1 (turn n σ1 H1 w1)) fun b s2 ⟨H2,I2,q2⟩=>?_)
 cases b with
 |true=>
  obtain⟨N,hN,q2⟩:=q2
  rw[if_pos rfl]
  refine Vc hp (Hj (hb pins s2 σ1 H2 _ I2 q2) fun f s3 q3=>?_)
  cases f with
  |next=>
   obtain⟨σ3,H3,I3,n3⟩:=q3
   obtain⟨m',hm,w3⟩:=hN σ3 H3 n3
   exact⟨m',hm,σ3,H3,I3,w3⟩
  |cont=>
   obtain⟨σ3,H3,I3,n3⟩:=q3
   obtain⟨m',hm,w3⟩:=hN σ3 H3 n3
   exact⟨m',hm,σ3,H3,I3,w3⟩
  |brk=>exact q3
  |ret v=>exact q3
 |false=>
  rw[if_neg Tn]
  exact WA ⟨σ1,H2,I2,q2⟩
end
structure It where
 go:Nat->Hp->Prop
 Os:Nat->Hp->V->Hp->Prop
 stop:Nat->Hp->Prop
def fD(X:Cx)(pins:Va)(H:Hp)(b:Addr):Prop:=
 H b=none/\b≠X.env.locals/\b ∉ X.fs/\(b∈X.ex\/X.s₀.heap.objs.size<=b)/\(∀x c,X.env.cells.lookup x=some c->c≠b)/\∀p∈X.pn++pins,p.1≠b
def Inv.J5{X:Cx}{pins:Va}{σ:St}{H H':Hp}{s:Shared}{b:Addr}(I:Inv X pins σ H s)(hb:s.heap.objs.size<=b)(hn:H' b=none):fD X pins H' b:=by
 refine⟨hn,UW (SW I.lt hb),I.NR hb,.inr (Su I.sz hb),fun x c e z=>?_,fun p hp z=>?_⟩
 ·obtain⟨v,q⟩:=I.cell x c e
  exact absurd (SW q.lt (by rw[z];exact hb)) (Ul _)
 ·exact absurd (SW (Sw (I.pin p hp).1) (by rw[z];exact hb)) (Ul _)
structure m8 (P:Program) (w:World) (K:Vo) (tg:Expr) (J:It) (fp:List Addr) (it:Addr) (tn:Nat->Heap->Prop):Prop where
 mem:it∈fp
 obj:∀i h,tn i h->∀b∈fp,∃o,h.get? b=some o/\∀v,o.data ≠ .cell v
 keep:∀i h h',tn i h->(∀b∈fp,∀o,h.get? b=some o->h'.get? b=some o)->tn i h'
 item:∀(X:Cx),X.prog=P->X.w=w->X.K=K->X.calm=true->∀(i:Nat) (pins:Va) (s:Shared) (σ:St) (H:Hp) (E:Vq),Inv X pins σ H s->(∀b∈fp,fD X pins H b)->tn i s.heap->J.go i H->
  wpAny (model P w) X.A (pyNext (.ref it)) (fun r s1=>∃u,r=some u/\
   wpAny (model P w) X.A (letOwnedTupleGo tg (.ref it) u) (fun _ s2=>∃x H',Inv X pins σ H' s2/\RelV x u/\J.Os i H x H'/\tn (i+1) s2.heap/\∀b∈fp,H' b=none) E s1) E s
 done:∀(X:Cx),X.prog=P->X.w=w->X.K=K->X.calm=true->∀(i:Nat) (pins:Va) (s:Shared) (σ:St) (H:Hp) (E:Vq),Inv X pins σ H s->(∀b∈fp,fD X pins H b)->tn i s.heap->J.stop i H->
  wpAny (model P w) X.A (pyNext (.ref it)) (fun r s1=>r=none/\Inv X pins σ H s1) E s
 self:∀(A:Around) (i:Nat) (s:Shared) (Q:Vq) (E:Vq),tn i s.heap->Q (.ref it) s->wpAny (model P w) A (pyIter (.ref it)) Q E s
abbrev TI:=St->Hp->(It->Hp->Prop)->Prop
def FW(X:Cx)(pins:Va)(σ:St)(tg:Expr)(R:It->Hp->Prop)(itv:Value)(s2:Shared):Prop:=
 ∃(it:Addr) (fp:List Addr) (tn:Nat->Heap->Prop) (J:It) (H':Hp),itv = .ref it/\Inv X pins σ H' s2/\m8 X.prog X.w X.K tg J fp it tn/\tn 0 s2.heap/\(∀b∈fp,fD X pins H' b)/\R J H'
def PI(X:Cx)(tg iter:Expr)(wi:TI):Prop:=
 ∀(pins:Va) (s:Shared) (σ:St) (H:Hp) (R:It->Hp->Prop),Inv X pins σ H s->wi σ H R->
  wpAny (model X.prog X.w) X.A (eval iter X.env) (fun v s1=>wpAny (model X.prog X.w) X.A (pyIter v) (FW X pins σ tg R) X.xe s1) X.xe s
def kR {M : Model} {A : Around} {E : Value -> Shared -> Prop} {s : Shared} {tg : Expr} {it : Addr} {u : Value} {o : Obj} {n : String} {vs : Array Value} {Q : Unit -> Shared -> Prop} (ho : s.heap.get? it = some o) (hc : o.cls = .type n) (hd : o.data = .fields vs)
    (hn : ["enumerate", "zip", "dict_itemiterator", "dict_reverseitemiterator", "odict_iterator", "itertools.zip_longest", "itertools.pairwise"].contains n = false) (hQ : Q () s) : wpAny M A (letOwnedTupleGo tg (.ref it) u) Q E s := by
  unfold letOwnedTupleGo
  cases tg <;> first
    | exact Sx hQ
    | (cases u <;> first
        | exact Sx hQ
        | (refine Sl (wpAny_load ho ?_)
           rw [hc, hd]
           show wpAny M A (if (["enumerate", "zip", "dict_itemiterator", "dict_reverseitemiterator", "odict_iterator", "itertools.zip_longest", "itertools.pairwise"].contains n && vs[0]? == some (rawInt _)) = true then _ else _) Q E s
           rw [if_neg (by intro h; rw [hn, Bool.false_and] at h; cases h)]
           exact Sx hQ))
noncomputable def Fx(K:Vo)(a:Addr):It:=
 ⟨fun i H=>∃xs x,SqL K H a xs/\xs[i]?=some x,fun i H x H'=>H'=H/\∀xs,SqL K H a xs->xs[i]?=some x,fun i H=>∃xs,SqL K H a xs/\xs.length<=i⟩
noncomputable def FX(K:Vo)(a:Addr):It:=
 ⟨fun i H=>∃xs x,SqT K H a xs/\xs[i]?=some x,fun i H x H'=>H'=H/\∀xs,SqT K H a xs->xs[i]?=some x,fun i H=>∃xs,SqT K H a xs/\xs.length<=i⟩
noncomputable def Fy(lo:Int)(n:Nat):It:=⟨fun i _=>i < n,fun i H x H'=>H'=H/\x = .int (lo+i),fun i _=>n<=i⟩
def ub{P:Program}{w:World}{K:Vo}{tg:Expr}(a it:Addr):m8 P w K tg (Fx K a) [it] it (fun i h=>h.IsListIter it a i) where
 mem:=by simp
 obj:=fun i h st b hb=>by
  have e:b=it:=by simpa using hb
  subst e
  obtain⟨o,e,c,d⟩:=st
  exact⟨o,e,fun v z=>by rw[d]at z;cases z⟩
 keep:=fun i h h' st k=>st.at fun o e=>k it (by simp) o e
 item:=by
  intro X hP hw hK hc i pins s σ H E I hf st hg
  subst hP hw hK
  obtain⟨xs,x,hq,hx⟩:=hg
  obtain⟨its,rv,p,hz⟩:=I.list hq
  obtain⟨u,hu,ru⟩:=rv.get hx
  obtain⟨f0,f1,f2,f3,f4,f5⟩:=hf it (by simp)
  refine wpAny_pyNext_list_item st p.isList (x:=u) (by simpa using hu) fun h' st' sb=>?_
  have I1:Inv X pins σ H { s with heap:=h' }:=I.turned (t':=s.toks) (fun b o hb e=>(sb.2 b hb).trans e) f0 f1 f3 f4 f5
  obtain⟨o,e,c,d⟩:=id st'
  exact⟨u,rfl,kR (s:={ s with heap:=h' }) e c d (by decide) ⟨x,H,I1,ru,⟨rfl,fun ys hy=>by rw[I.Kw hy hq];exact hx⟩,st',fun b hb=>(hf b hb).1⟩⟩
 done:=by
  intro X hP hw hK hc i pins s σ H E I hf st hg
  subst hP hw hK
  obtain⟨xs,hq,hx⟩:=hg
  obtain⟨its,rv,p,hz⟩:=I.list hq
  obtain⟨f0,f1,f2,f3,f4,f5⟩:=hf it (by simp)
  have hl:=rv.length
  exact wpAny_pyNext_list_end (I.ok.hd hc) st p.isList (by simp;omega) fun h' eb=>⟨rfl,I.turned (t':=s.toks) (fun b o hb e=>eb b o hb e) f0 f1 f3 f4 f5⟩
 self:=fun _ _ _ _ _ st h=>wpAny_pyIter_listiter st h
def rF{P:Program}{w:World}{K:Vo}{tg:Expr}(a it:Addr):m8 P w K tg (FX K a) [it] it (fun i h=>h.IsTupleIter it a i) where
 mem:=by simp
 obj:=fun i h st b hb=>by
  have e:b=it:=by simpa using hb
  subst e
  obtain⟨o,e,c,d⟩:=st
  exact⟨o,e,fun v z=>by rw[d]at z;cases z⟩
 keep:=fun i h h' st k=>st.at fun o e=>k it (by simp) o e
 item:=by
  intro X hP hw hK hc i pins s σ H E I hf st hg
  subst hP hw hK
  obtain⟨xs,x,hq,hx⟩:=hg
  obtain⟨its,rv,p,hz⟩:=I.tuple hq
  obtain⟨u,hu,ru⟩:=rv.get hx
  obtain⟨f0,f1,f2,f3,f4,f5⟩:=hf it (by simp)
  refine wpAny_pyNext_tuple_item st (show s.heap.IsTuple a its.toArray from p) (x:=u) (by simpa using hu) fun h' st' sb=>?_
  have I1:Inv X pins σ H { s with heap:=h' }:=I.turned (t':=s.toks) (fun b o hb e=>(sb.2 b hb).trans e) f0 f1 f3 f4 f5
  obtain⟨o,e,c,d⟩:=id st'
  exact⟨u,rfl,kR (s:={ s with heap:=h' }) e c d (by decide) ⟨x,H,I1,ru,⟨rfl,fun ys hy=>by rw[I.Kd hy hq];exact hx⟩,st',fun b hb=>(hf b hb).1⟩⟩
 done:=by
  intro X hP hw hK hc i pins s σ H E I hf st hg
  subst hP hw hK
  obtain⟨xs,hq,hx⟩:=hg
  obtain⟨its,rv,p,hz⟩:=I.tuple hq
  obtain⟨f0,f1,f2,f3,f4,f5⟩:=hf it (by simp)
  have hl:=rv.length
  exact wpAny_pyNext_tuple_end (I.ok.hd hc) st (show s.heap.IsTuple a its.toArray from p) (by simp;omega) fun h' eb=>⟨rfl,I.turned (t':=s.toks) (fun b o hb e=>eb b o hb e) f0 f1 f3 f4 f5⟩
 self:=fun _ _ _ _ _ st h=>wpAny_pyIter_tupleiter st h
def rG{P:Program}{w:World}{K:Vo}{tg:Expr}(it:Addr)(lo:Int)(n:Nat):m8 P w K tg (Fy lo n) [it] it (fun i h=>IsRangeIter h it (lo+(i:Nat) * 1) ((n:Int) - (i:Nat)) 1) where
 mem:=by simp
 obj:=fun i h st b hb=>by
  have e:b=it:=by simpa using hb
  subst e
  exact⟨_,st,fun v z=>by
   have z':Data.fields _=Data.cell v:=z
   cases z'⟩
 keep:=fun i h h' st k=>k it (by simp) _ st
 item:=by
  intro X hP hw hK hc i pins s σ H E I hf st hg
  subst hP hw hK
  obtain⟨f0,f1,f2,f3,f4,f5⟩:=hf it (by simp)
  have W:=Walks.range (prog:=X.prog) (w:=X.w) (I.ok.hd hc) it lo 1 n
  refine W.item i s _ _ hg st fun v h' tk hv st' kk=>?_
  obtain⟨t,rfl⟩:=hv
  have I1:Inv X pins σ H { s with heap:=h',toks:=tk }:=I.turned (fun b o hb e=>kk b o (by simpa using hb) e) f0 f1 f3 f4 f5
  refine⟨_,rfl,kR (s:={ s with heap:=h',toks:=tk }) (n:="range_iterator") st' rfl rfl (by decide) ⟨.int (lo+i),H,I1,⟨t,?_⟩,⟨rfl,rfl⟩,st',fun b hb=>(hf b hb).1⟩⟩
  rw[Int.mul_one]
 done:=by
  intro X hP hw hK hc i pins s σ H E I hf st hg
  subst hP hw hK
  obtain⟨f0,f1,f2,f3,f4,f5⟩:=hf it (by simp)
  exact wpAny_pyNext_range_end (I.ok.hd hc) st (by have:n<=i:=hg;omega) fun h' eb=>⟨rfl,I.turned (t':=s.toks) (fun b o hb e=>eb b o hb e) f0 f1 f3 f4 f5⟩
 self:=fun _ _ _ _ _ st h=>wpAny_pyIter_rangeiter st h
section
variable {X:Cx} {tg:Expr}
def vB{pins:Va}{σ:St}{H:Hp}{s:Shared}{R:It->Hp->Prop}{E:Vq}{lo hi:Int}{t u v:Tok}{tk:Nat}(I:Inv X pins σ H s)(h1:-(2 ^ 62)<=lo)(h2:lo < 2 ^ 62)(h3:-(2 ^ 62)<=hi)(h4:hi < 2 ^ 62)
  (q:R (Fy lo (hi - lo).toNat) H):wpAny (model X.prog X.w) X.A (pyIter (.ref s.heap.objs.size)) (FW X pins σ tg R) E { s with heap:=s.heap.push { cls:=.type "range",data:=.fields #[.int lo t,.int hi u,.int 1 v] },toks:=tk }:=by
 refine wpAny_pyIter_range (IsRange.new ..) (small_one h1 h2 h3 h4) ?_
 have I1:Inv X pins σ H { s with heap:=s.heap.push { cls:=.type "range",data:=.fields #[.int lo t,.int hi u,.int 1 v] },toks:=tk }:=I.kept fun b o e=>So _ e
 refine⟨(s.heap.push { cls:=.type "range",data:=.fields #[.int lo t,.int hi u,.int 1 v] }).objs.size,[(s.heap.push { cls:=.type "range",data:=.fields #[.int lo t,.int hi u,.int 1 v] }).objs.size],_,_,H,rfl,
  I1.kept (t':=tk) fun b o e=>So _ e,rG _ lo (hi - lo).toNat,?_,fun b hb=>?_,q⟩
 ·have e1:lo+((0:Nat):Int) * 1=lo:=by simp
  have e2:(((hi - lo).toNat:Nat):Int) - ((0:Nat):Int)=Builtin.Range.rangeSize lo hi 1:=by rw[rangeSize_one];split<;>omega
  show IsRangeIter _ _ (lo+((0:Nat):Int) * 1) ((((hi - lo).toNat:Nat):Int) - ((0:Nat):Int)) 1
  rw[e1,e2]
  exact SG _ rfl
 ·have e:b=(s.heap.push { cls:=.type "range",data:=.fields #[.int lo t,.int hi u,.int 1 v] }).objs.size:=by simpa using hb
  subst e
  exact I1.J5 (Ss _) (I1.hok.fresh (Ss _))
def DV(ta:TA):TI:=fun σ H R=>ta σ H fun vs H1=>∃j:Int,vs=[.int j]/\-(2 ^ 62)<=j/\j < 2 ^ 62/\R (Fy 0 j.toNat) H1
def uc{a:Expr}{ta:TA}{p pos:Pos}(hg:Gl X "range")(hm:X.mg "range" = none)(ha:PA X [a] ta)(hs:starEach [a] X.env=[(false,eval a X.env)]:=by rfl):PI X tg (.Call (.Name "range" p) [a] [] pos) (DV ta):=by
 intro pins s σ H R I h
 refine Call_ (eO I hg hm boot_range (T5 (Hj (ha pos pins s σ H _ I h) fun us s1 ⟨vs,H1,I1,r1,q1⟩=>?_) hs rfl))
 obtain⟨j,e,q1,q2,q⟩:=q1
 subst e
 cases r1 with
 |cons r rr=>
  cases rr
  obtain⟨t,rfl⟩:=r
  exact call_range_1 (vB I1 (by omega) (by omega) q1 q2 (by simpa using q))
def FY(wi:TI)(g:TG)(tb:TS):TS:=fun D σ H=>wi σ H fun J H1=>∃W:Nat->Nat->St->Hp->Prop,(∃m,W 0 m σ H1)/\∀i m σ H,W i m σ H->
 (J.stop i H/\D.nx σ H)\/(J.go i H/\∃N:St->Hp->Prop,(∀σ' H',N σ' H'->∃m',m' < m/\W (i+1) m' σ' H')/\∀x H',J.Os i H x H'->g x σ H' fun σ2 H2=>tb { D with nx:=N,ct:=N,bk:=D.nx } σ2 H2)
noncomputable def lH(fp:List Addr)(h:Heap):List (Addr×Obj):=fp.filterMap fun b=>(h.get? b).map fun o=>(b,o)
def iM{fp:List Addr}{h:Heap}{b:Addr}{o:Obj}(hb:b∈fp)(e:h.get? b=some o):(b,o)∈lH fp h:=List.mem_filterMap.mpr ⟨b,hb,by rw[e];rfl⟩
def ud{fp:List Addr}{h:Heap}{p:Addr×Obj}(hp:p∈lH fp h):p.1∈fp/\h.get? p.1=some p.2:=by
 obtain⟨b,hb,e⟩:=List.mem_filterMap.mp hp
 cases q:h.get? b with
 |none=>rw[q]at e;cases e
 |some o=>
  rw[q]at e
  have e':(b,o)=p:=Tz e
  subst e'
  exact⟨hb,q⟩
def Inv.pinned{pins:Va}{σ:St}{H:Hp}{s:Shared}{fp:List Addr}(I:Inv X pins σ H s)(hf:∀b∈fp,fD X pins H b)(ho:∀b∈fp,∃o,s.heap.get? b=some o/\∀v,o.data ≠ .cell v):Inv X (pins++lH fp s.heap) σ H s:=
 I.Ku fun p hp=>(SI.mp hp).elim (fun z=>I.pin p (TL _ z)) fun z=>by
  obtain⟨hb,e⟩:=ud z
  obtain⟨f0,f1,f2,_⟩:=hf p.1 hb
  obtain⟨o,e',d⟩:=ho p.1 hb
  rw[e]at e';cases e'
  exact⟨e,f0,f1,f2,d⟩
def Inv.J6{pins pl:Va}{σ:St}{H:Hp}{s:Shared}(I:Inv X (pins++pl) σ H s):Inv X pins σ H s:=I.Ku fun p hp=>I.pin p (TL _ (Ve _ hp))
def Bw{iter:Expr}{body:List Stmt}{wi:TI}{g:TG}{tb:TS}{pos:Pos}(hp:PassesOwn (model X.prog X.w) X.A X.env X.xe)(hc:X.calm=true)(hi:PI X tg iter wi)(hg:PG X tg g)(hb:Lp X body tb)
  (hs:∀x,foldedSetIterable iter X.env x=pure x:=by intro _;rfl):PS X (.For tg iter body [] pos) (FY wi g tb):=by
 intro pins s σ H D I h
 refine wpAny_For (Hj (hi pins s σ H _ I h) fun v s1 h1=>Hj h1 fun itv s2 h2=>?_) hs
 obtain⟨it,fp,tn,J,H2,e,I2,T,st2,f2,W,⟨m0,w0⟩,turn⟩:=h2
 subst e
 -- what stays true of the iterator's objects through the loop
 have stat:∀{H':Hp},(∀b∈fp,H' b=none)->∀b∈fp,fD X pins H' b:=fun hn b hb=>⟨hn b hb,(f2 b hb).2⟩
 refine codeAny_forLoop_any (fun n s'=>∃i σ' H',Inv X pins σ' H' s'/\tn i s'.heap/\(∀b∈fp,H' b=none)/\W i n σ' H') ?_ m0 ⟨0,σ,H2,I2,st2,fun b hb=>(f2 b hb).1,w0⟩
 rintro n s3 ⟨i,σ3,H3,I3,st3,Qi,w3⟩
 rcases turn i n σ3 H3 w3 with⟨stop,qn⟩|⟨go,N,hN,step⟩
 ·refine Vc hp (Hj (T.done X rfl rfl rfl hc i pins s3 σ3 H3 X.xe I3 (stat Qi) st3 stop) fun r s4 ⟨hr,I4⟩=>?_)
  subst hr
  exact WA ⟨σ3,H3,I4,qn⟩
 ·refine Vc hp (Hj (T.item X rfl rfl rfl hc i pins s3 σ3 H3 X.xe I3 (stat Qi) st3 go) fun r s4 ⟨u,hr,h4⟩=>?_)
  subst hr
  refine Vc hp (Hj h4 fun _ s5 ⟨x,H5,I5,r5,y5,MS,O9⟩=>?_)
  have O_:=I5.pinned (stat O9) (T.obj _ _ MS)
  refine Vc hp (Hj (hg _ s5 σ3 H5 x u _ O_ r5 (step x H5 y5)) fun _ s6 ⟨σ6,H6,I6,q6⟩=>?_)
  refine Vc hp (Hj (hb _ s6 σ6 H6 _ I6 q6) fun f s7 q7=>?_)
  have again:∀{σ7:St} {H7:Hp},Inv X (pins++lH fp s5.heap) σ7 H7 s7->N σ7 H7->∃m,m < n/\∃i σ' H',Inv X pins σ' H' s7/\tn i s7.heap/\(∀b∈fp,H' b=none)/\W i m σ' H':=fun{σ7 H7} I7 n7=>by
   obtain⟨m',hm,w7⟩:=hN σ7 H7 n7
   refine⟨m',hm,i+1,σ7,H7,I7.J6,T.keep _ _ _ MS fun b hb o e=>(I7.pin (b,o) (TL _ (TL _ (iM hb e)))).1,fun b hb=>?_,w7⟩
   obtain⟨o,e,d⟩:=T.obj _ _ MS b hb
   exact(I7.pin (b,o) (TL _ (TL _ (iM hb e)))).2.1
  cases f with
  |next=>obtain⟨σ7,H7,I7,n7⟩:=q7;exact again I7 n7
  |cont=>obtain⟨σ7,H7,I7,n7⟩:=q7;exact again I7 n7
  |brk=>obtain⟨σ7,H7,I7,q7⟩:=q7;exact⟨σ7,H7,I7.J6,q7⟩
  |ret v=>obtain⟨x7,σ7,H7,I7,r7,q7⟩:=q7;exact⟨x7,σ7,H7,I7.J6,r7,q7⟩
end
abbrev R2:=V->V->Hp->VK->Prop
def im(X:Cx)(f:Value->Value->Sem Value)(r:R2):Prop:=
 ∀(pins:Va) (s:Shared) (σ:St) (H:Hp) (x y:V) (v u:Value) (Q:VK),Inv X pins σ H s->RelV x v->RelV y u->r x y H Q->
  wpAny (model X.prog X.w) X.A (f v u) (EP X pins σ Q) X.xe s
def Fz(X:Cx)(f:Value->Sem Value)(r:V->Hp->VK->Prop):Prop:=
 ∀(pins:Va) (s:Shared) (σ:St) (H:Hp) (x:V) (v:Value) (Q:VK),Inv X pins σ H s->RelV x v->r x H Q->
  wpAny (model X.prog X.w) X.A (f v) (EP X pins σ Q) X.xe s
def er(X:Cx)(f:Value)(r:List V->Hp->VK->Prop):Prop:=
 ∀(pins:Va) (s:Shared) (σ:St) (H:Hp) (xs:List V) (us:Vv) (Q:VK),Inv X pins σ H s->Vals xs us->r xs H Q->
  wpAny (model X.prog X.w) X.A (call f us) (EP X pins σ Q) X.xe s
def Du(r:R2)(ta tb:TE):TE:=fun σ H Q=>ta σ H fun x H1=>tb σ H1 fun y H2=>r x y H2 Q
def GQ(r:V->Hp->VK->Prop)(ta:TE):TE:=fun σ H Q=>ta σ H fun x H1=>r x H1 Q
def rI(C:Int->Int->Prop)(g:Int->Int->V):R2:=fun x y H Q=>∃i j,x = .int i/\y = .int j/\C i j/\Q (g i j) H
def yL(g:Int->Int->V):R2:=fun x y H Q=>∃i j,x = .int i/\y = .int j/\Q (g i j) H
noncomputable def rU(g:Int->V):V->Hp->VK->Prop:=fun x H Q=>∃i,x = .int i/\Q (g i) H
section
variable {X:Cx} {a b c:Expr} {ta tb tc:TE} {pos:Pos}
def Bx(ha:PE X a ta)(hb:PE X b tb){pins:Va}{s:Shared}{σ:St}{H:Hp}{R:V->V->Hp->Prop}(I:Inv X pins σ H s)
  (h:ta σ H fun x H1=>tb σ H1 fun y H2=>R x y H2) {Q:Vq} {f:Value->Value->Sem Value}
  (hf:∀v u s2 x y H2,Inv X pins σ H2 s2->RelV x v->RelV y u->R x y H2->wpAny (model X.prog X.w) X.A (f v u) Q X.xe s2) :
  wpAny (model X.prog X.w) X.A (eval a X.env) (fun v s₁=>wpAny (model X.prog X.w) X.A (eval b X.env) (fun u s₂=>wpAny (model X.prog X.w) X.A (f v u) Q X.xe s₂) X.xe s₁) X.xe s:=by
 refine Hj (ha pins s σ H _ I h) fun v s1 ⟨x,H1,I1,r1,q1⟩=>?_
 refine Hj (hb pins s1 σ H1 _ I1 q1) fun u s2 ⟨y,H2,I2,r2,q2⟩=>?_
 exact hf v u s2 x y H2 I2 r1 r2 q2
def DW{op:Operator}{r:R2}(ho:im X (binaryOp op) r)(ha:PE X a ta)(hb:PE X b tb):PE X (.BinOp a op b pos) (Du r ta tb):=by
 intro pins s σ H Q I h
 exact wpAny_BinOp (Bx ha hb I h fun v u s2 x y H2 I2 rx ry q=>ho pins s2 σ H2 x y v u Q I2 rx ry q)
def DX{op:UnaryOp}{r:V->Hp->VK->Prop}(ho:Fz X (unaryOp op) r)(ha:PE X a ta):PE X (.UnaryOp op a pos) (GQ r ta):=by
 intro pins s σ H Q I h
 exact UnaryOp_ (Hj (ha pins s σ H _ I h) fun v s1 ⟨x,H1,I1,r1,q1⟩=>ho pins s1 σ H1 x v Q I1 r1 q1)
def FA{f:Value->Value->Sem Value}{C:Int->Int->Prop}{g:Int->Int->Int}
  (rule:∀(i j:Int) (t u:Tok) (s:Shared) (Q:Vq) (E:Vq),C i j->Q (.int (g i j) s.toks) { s with toks:=s.toks+1 }->wpAny (model X.prog X.w) X.A (f (.int i t) (.int j u)) Q E s) :
  im X f (rI C fun i j=>.int (g i j)):=by
 intro pins s σ H x y v u Q I rx ry h
 obtain⟨i,j,rfl,rfl,hc,q⟩:=h
 obtain⟨t,rfl⟩:=rx
 obtain⟨t',rfl⟩:=ry
 exact rule i j t t' s _ _ hc ⟨.int (g i j),H,I.tok _,⟨_,rfl⟩,q⟩
def DY{f:Value->Value->Sem Value}{g:Int->Int->Int}
  (rule:∀(i j:Int) (t u:Tok) (s:Shared) (Q:Vq) (E:Vq),Q (.int (g i j) s.toks) { s with toks:=s.toks+1 }->wpAny (model X.prog X.w) X.A (f (.int i t) (.int j u)) Q E s) :
  im X f (yL fun i j=>.int (g i j)):=by
 intro pins s σ H x y v u Q I rx ry h
 obtain⟨i,j,rfl,rfl,q⟩:=h
 obtain⟨t,rfl⟩:=rx
 obtain⟨t',rfl⟩:=ry
 exact rule i j t t' s _ _ ⟨.int (g i j),H,I.tok _,⟨_,rfl⟩,q⟩
def By{f:Value->Value->Sem Value}{g:Int->Int->Bool}
  (rule:∀(i j:Int) (t u:Tok) (s:Shared) (Q:Vq) (E:Vq),Q (.bool (g i j)) s->wpAny (model X.prog X.w) X.A (f (.int i t) (.int j u)) Q E s) :
  im X f (yL fun i j=>.bl (g i j)):=by
 intro pins s σ H x y v u Q I rx ry h
 obtain⟨i,j,rfl,rfl,q⟩:=h
 obtain⟨t,rfl⟩:=rx
 obtain⟨t',rfl⟩:=ry
 exact rule i j t t' s _ _ ⟨.bl (g i j),H,I,rfl,q⟩
def Bz(i j:Int):Prop:=0<=j/\j<=1000000/\i.natAbs < 2 ^ 64
def MT(i j:Int):Prop:=(-(2 ^ 64) < i/\i < 2 ^ 64)\/(-(2 ^ 64) < j/\j < 2 ^ 64)
def MT.ok{i j:Int}(h:MT i j):IntMulOk i j:=by
 rcases h with⟨h1,h2⟩|⟨h1,h2⟩
 ·exact .of_left (intBits_le_64 h1 h2)
 ·exact .of_right (intBits_le_64 h1 h2)
def BA:im X (binaryOp .Add) (yL fun i j=>.int (i+j)):=DY fun _ _ _ _ _ _ _ q=>add_int q
def BC:im X (binaryOp .Sub) (yL fun i j=>.int (i - j)):=DY fun _ _ _ _ _ _ _ q=>sub_int q
def yM:im X (binaryOp .Mod) (rI (fun _ j=>j≠0) fun i j=>.int (i.fmod j)):=FA fun _ _ _ _ _ _ _ hc q=>mod_int' hc q
def BD:im X (binaryOp .Pow) (rI Bz fun i j=>.int (i ^ j.toNat)):=FA fun _ _ _ _ _ _ _ hc q=>pow_int_small hc.1 hc.2.1 hc.2.2 q
def GR{f:Value->Sem Value}{g:Int->Int}
  (rule:∀(i:Int) (t:Tok) (s:Shared) (Q:Vq) (E:Vq),Q (.int (g i) s.toks) { s with toks:=s.toks+1 }->wpAny (model X.prog X.w) X.A (f (.int i t)) Q E s) :
  Fz X f (rU fun i=>.int (g i)):=by
 intro pins s σ H x v Q I rx h
 obtain⟨i,rfl,q⟩:=h
 obtain⟨t,rfl⟩:=rx
 exact rule i t s _ _ ⟨.int (g i),H,I.tok _,⟨_,rfl⟩,q⟩
def BE:Fz X (unaryOp .USub) (rU fun i=>.int (-i)):=GR fun _ _ _ _ _ q=>neg_int q
end
noncomputable def DZ:V->V->Bool
 | .non,.non=>true | .non,.int _=>true | .int _,.non=>true | .non,.bl _=>true | .bl _,.non=>true | .non,.str _=>true | .str _,.non=>true
 | .int _,.int _=>true | .bl _,.bl _=>true | .str _,.str _=>true | .Mn _,.Mn _=>true
 | .int _,.str _=>true | .str _,.int _=>true | .bl _,.str _=>true | .str _,.bl _=>true
 |_,_=>false
def GS:R2:=fun x y H Q=>DZ x y=true/\Q (.bl (decide (x=y))) H
def GT:R2:=fun x y H Q=>DZ x y=true/\Q (.bl (!decide (x=y))) H
def sP{i j:Int}:decide (V.int i=V.int j)=(i == j):=by
 rw[Vd]
 simp
def vC{i j:Bool}:decide (V.bl i=V.bl j)=(i == j):=by
 rw[Vd]
 simp
def sQ{i j:Str}:decide (V.str i=V.str j)=(i == j):=by
 rw[Vd]
 simp
def sR{i j:Array UInt8}:decide (V.Mn i=V.Mn j)=(i.toList == j.toList):=by
 rw[Vd]
 cases i
 cases j
 simp
section
variable {X:Cx} {a b c:Expr} {ta tb tc:TE} {pos:Pos}
def aT{pins:Va}{σ:St}{H:Hp}{s:Shared}{Q:VK}{k k':Bool}(I:Inv X pins σ H s)(q:Q (.bl k) H)(e:k=k'):EP X pins σ Q (.bool k') s:=by
 subst e
 exact⟨.bl k,H,I,rfl,q⟩
def vD:im X (compareOp .Eq) GS:=by
 intro pins s σ H x y v u Q I rx ry h
 obtain⟨hs,q⟩:=h
 cases x with
 |non=>
  cases rx
  cases y with
  |non=>cases ry;exact PySem.EqNone.eq_none_none (aT I q (by simp))
  |bl j=>cases ry;exact PySem.EqNone.eq_none_bool (aT I q (by simp))
  |int j=>obtain⟨t',rfl⟩:=ry;exact PySem.EqNone.eq_none_int (aT I q (by simp))
  |str j=>obtain⟨t',rfl⟩:=ry;exact PySem.EqNone.eq_none_str (aT I q (by simp))
  |_=>exact absurd (show false=true from hs) Tn
 |bl i=>
  cases rx
  cases y with
  |non=>cases ry;exact PySem.EqNone.eq_bool_none (aT I q (by simp))
  |bl j=>cases ry;exact eq_bool (aT I q vC)
  |str j=>obtain⟨t',rfl⟩:=ry;exact PySem.EqMixed.eq_bool_str (aT I q (by simp))
  |_=>exact absurd (show false=true from hs) Tn
 |int i=>
  obtain⟨t,rfl⟩:=rx
  cases y with
  |non=>cases ry;exact PySem.EqNone.eq_int_none (aT I q (by simp))
  |int j=>obtain⟨t',rfl⟩:=ry;exact eq_int (aT I q sP)
  |str j=>obtain⟨t',rfl⟩:=ry;exact PySem.EqMixed.eq_int_str (aT I q (by simp))
  |_=>exact absurd (show false=true from hs) Tn
 |str i=>
  obtain⟨t,rfl⟩:=rx
  cases y with
  |non=>cases ry;exact PySem.EqNone.eq_str_none (aT I q (by simp))
  |bl j=>cases ry;exact PySem.EqMixed.eq_str_bool (aT I q (by simp))
  |int j=>obtain⟨t',rfl⟩:=ry;exact PySem.EqMixed.eq_str_int (aT I q (by simp))
  |str j=>obtain⟨t',rfl⟩:=ry;exact eq_str (aT I q sQ)
  |_=>exact absurd (show false=true from hs) Tn
 |Mn i=>
  obtain⟨t,rfl⟩:=rx
  cases y with
  |Mn j=>obtain⟨t',rfl⟩:=ry;exact PySem.W.eq_bytes (aT I q sR)
  |_=>exact absurd (show false=true from hs) Tn
 |_=>cases y<;>exact absurd (show false=true from hs) Tn
def vE:im X (compareOp .NotEq) GT:=by
 intro pins s σ H x y v u Q I rx ry h
 obtain⟨hs,q⟩:=h
 cases x with
 |non=>
  cases rx
  cases y with
  |non=>cases ry;exact PySem.EqNone.ne_none_none (aT I q (by simp))
  |bl j=>cases ry;exact PySem.EqNone.ne_none_bool (aT I q (by simp))
  |int j=>obtain⟨t',rfl⟩:=ry;exact PySem.EqNone.ne_none_int (aT I q (by simp))
  |str j=>obtain⟨t',rfl⟩:=ry;exact PySem.EqNone.ne_none_str (aT I q (by simp))
  |_=>exact absurd (show false=true from hs) Tn
 |bl i=>
  cases rx
  cases y with
  |non=>cases ry;exact PySem.EqNone.ne_bool_none (aT I q (by simp))
  |bl j=>cases ry;exact ne_bool (aT I q (T6 not vC))
  |str j=>obtain⟨t',rfl⟩:=ry;exact PySem.EqMixed.ne_bool_str (aT I q (by simp))
  |_=>exact absurd (show false=true from hs) Tn
 |int i=>
  obtain⟨t,rfl⟩:=rx
  cases y with
  |non=>cases ry;exact PySem.EqNone.ne_int_none (aT I q (by simp))
  |int j=>obtain⟨t',rfl⟩:=ry;exact ne_int (aT I q (T6 not sP))
  |str j=>obtain⟨t',rfl⟩:=ry;exact PySem.EqMixed.ne_int_str (aT I q (by simp))
  |_=>exact absurd (show false=true from hs) Tn
 |str i=>
  obtain⟨t,rfl⟩:=rx
  cases y with
  |non=>cases ry;exact PySem.EqNone.ne_str_none (aT I q (by simp))
  |bl j=>cases ry;exact PySem.EqMixed.ne_str_bool (aT I q (by simp))
  |int j=>obtain⟨t',rfl⟩:=ry;exact PySem.EqMixed.ne_str_int (aT I q (by simp))
  |str j=>obtain⟨t',rfl⟩:=ry;exact ne_str (aT I q (T6 not sQ))
  |_=>exact absurd (show false=true from hs) Tn
 |Mn i=>
  obtain⟨t,rfl⟩:=rx
  cases y with
  |Mn j=>obtain⟨t',rfl⟩:=ry;exact PySem.W.ne_bytes (aT I q (T6 not sR))
  |_=>exact absurd (show false=true from hs) Tn
 |_=>cases y<;>exact absurd (show false=true from hs) Tn
def D8:im X (compareOp .Lt) (yL fun i j=>.bl (decide (i < j))):=By fun _ _ _ _ _ _ _ q=>lt_int q
def D9:im X (compareOp .Gt) (yL fun i j=>.bl (decide (j < i))):=By fun _ _ _ _ _ _ _ q=>gt_int q
def D_:im X (compareOp .GtE) (yL fun i j=>.bl (decide (j<=i))):=By fun _ _ _ _ _ _ _ q=>ge_int q
def ue:im X (compareOp .In) (fun x y H Q=>∃i j,x = .str i/\y = .str j/\Q (.bl (!(Builtin.Str.occurrences j i 0 j.length 1).isEmpty)) H):=by
 intro pins s σ H x y v u Q I rx ry h
 obtain⟨i,j,rfl,rfl,q⟩:=h
 obtain⟨t,rfl⟩:=rx
 obtain⟨t',rfl⟩:=ry
 exact in_str (aT I q rfl)
def BF:im X (compareOp .Is) (fun x y H Q=>y = .non/\Q (.bl (decide (x = .non))) H):=by
 intro pins s σ H x y v u Q I rx ry h
 obtain⟨rfl,q⟩:=h
 cases ry
 refine is_none_gen (aT I q ?_)
 cases x<;>first
  |(cases rx;rfl)
  |(obtain⟨t,rfl⟩:=rx;rfl)
def yN:im X (compareOp .IsNot) (fun x y H Q=>y = .non/\Q (.bl (!decide (x = .non))) H):=by
 intro pins s σ H x y v u Q I rx ry h
 obtain⟨rfl,q⟩:=h
 cases ry
 refine isnot_none_gen (aT I q ?_)
 cases x<;>first
  |(cases rx;rfl)
  |(obtain⟨t,rfl⟩:=rx;rfl)
def aV(b:Expr){op:CmpOp}(h:op ≠ .In:=by decide)(h2:op ≠ .NotIn:=by decide):behindInMarks op b=false:=by
 have e1:(op == CmpOp.In)=false:=by cases op<;>first|rfl|exact absurd rfl h
 have e2:(op == CmpOp.NotIn)=false:=by cases op<;>first|rfl|exact absurd rfl h2
 cases b<;>simp[behindInMarks,e1,e2]
def yO{op:CmpOp}{r:R2}(ho:im X (compareOp op) r)(ha:PE X a ta)(hb:PE X b tb)(hm:behindInMarks op b=false):PE X (.Compare a [op] [b] pos) (Du r ta tb):=by
 intro pins s σ H Q I h
 exact wpAny_Compare1 (Bx ha hb I h fun v u s2 x y H2 I2 rx ry q=>ho pins s2 σ H2 x y v u Q I2 rx ry q) hm
def Ea(t:TE):TT:=fun σ H Q=>t σ H fun x H'=>∃k,x = .bl k/\Q k H'
def yP{op:CmpOp}{r:R2}(ho:im X (compareOp op) r)(ha:PE X a ta)(hb:PE X b tb)(hm:behindInMarks op b=false):PT X (.Compare a [op] [b] pos) (Ea (Du r ta tb)):=by
 intro pins s σ H Q I h
 refine wpAny_isTrue_Compare1 (Hj (ha pins s σ H _ I h) fun v s1 ⟨x,H1,I1,r1,q1⟩=>Hj (hb pins s1 σ H1 _ I1 q1) fun u s2 ⟨y,H2,I2,r2,q2⟩=>
  Hj (ho pins s2 σ H2 x y v u _ I2 r1 r2 q2) fun c s3 ⟨z,H3,I3,r3,k,e,q3⟩=>?_) hm
 subst e
 cases r3
 exact Ux ⟨H3,I3,q3⟩
def j5:(sizeLine:Nat) < 2 ^ 63:=by rw[sizeLine_eq];decide
def rH:im X (binaryOp .Add) (fun x y H Q=>∃i j,x = .str i/\y = .str j/\i.length+j.length<=sizeLine/\Q (.str (i++j)) H):=by
 intro pins s σ H x y v u Q I rx ry h
 obtain⟨i,j,rfl,rfl,hz,q⟩:=h
 obtain⟨t,rfl⟩:=rx
 obtain⟨t',rfl⟩:=ry
 exact add_str (fun t' tk=>⟨.str (i++j),H,I.tok _,⟨_,rfl⟩,q⟩) hz
def dR{x:V}{us:Vv}(r:Vals [x] us):∃u,us=[u]/\RelV x u:=by
 cases r with
 |cons r1 r2=>cases r2;exact⟨_,rfl,r1⟩
def vF{x y:V}{us:Vv}(r:Vals [x,y] us):∃u w',us=[u,w']/\RelV x u/\RelV y w':=by
 cases r with
 |cons r1 r2=>
  cases r2 with
  |cons r3 r4=>cases r4;exact⟨_,_,rfl,r1,r3⟩
def vG:er X (.builtin "abs") (fun xs H Q=>∃i,xs=[.int i]/\Q (.int (if i < 0 then -i else i)) H):=by
 intro pins s σ H xs us Q I r h
 obtain⟨i,rfl,q⟩:=h
 obtain⟨u,rfl,t,rfl⟩:=dR r
 exact call_abs_int fun u tk=>⟨.int (if i < 0 then -i else i),H,I.tok _,⟨_,rfl⟩,q⟩
def uf(hc:X.calm=true):er X (.builtin "max") (fun xs H Q=>∃i j,xs=[.int i,.int j]/\Q (.int (if j > i then j else i)) H):=by
 intro pins s σ H xs us Q I r h
 obtain⟨i,j,rfl,q⟩:=h
 obtain⟨u,w',rfl,⟨t,rfl⟩,⟨t',rfl⟩⟩:=vF r
 refine max_two_ints (I.ok.hd hc) fun h' tk k=>⟨_,H,I.kept k,?_,q⟩
 by_cases hj:j > i
 ·rw[if_pos hj,if_pos hj];exact⟨_,rfl⟩
 ·rw[if_neg hj,if_neg hj];exact⟨_,rfl⟩
def nJ:er X (.type "int") (fun xs H Q=>(∃i,xs=[.int i]/\Q (.int i) H)\/∃k,xs=[.bl k]/\Q (.int (if k then 1 else 0)) H):=by
 intro pins s σ H xs us Q I r h
 rcases h with⟨i,rfl,q⟩|⟨k,rfl,q⟩
 ·obtain⟨u,rfl,t,rfl⟩:=dR r
  exact call_int_int ⟨.int i,H,I,⟨_,rfl⟩,q⟩
 ·obtain⟨u,rfl,r1⟩:=dR r
  cases r1
  exact call_int_bool ⟨.int (if k then 1 else 0),H,I.tok _,⟨_,rfl⟩,q⟩
end
def RelO.some_of{v:V}{o:Option Value}(r:RelO (some v) o):∃u,o=some u/\RelV v u:=by
 cases o with
 |none=>exact(show False from r).elim
 |some u=>exact⟨u,rfl,r⟩
structure Room (k:Nat) (A:Around):Prop where
 hd:A.handled=none
 dp:A.depth+3 * k+5 < recursionLimit
 un:A.units+16 * k+200 < cLine
 gd:A.guards=some []
def Room.mono{j k:Nat}{A:Around}(r:Room k A)(h:j<=k):Room j A:=⟨r.hd,by have:=r.dp;omega,by have:=r.un;omega,r.gd⟩
theorem Room.deeper{k:Nat}{A:Around}(r:Room (k+1) A)(env:Env):Room k (A.deeper env):=
 ⟨r.hd,by have:=r.dp;show A.depth+1+3 * k+5 < _;omega,by have:=r.un;show A.units+3+16 * k+200 < _;omega,r.gd⟩
theorem Room.depth{k:Nat}{A:Around}(r:Room k A):A.depth < recursionLimit:=by have:=r.dp;omega
def BG:TA:=fun _ H Q=>Q [] H
def vH(ta:TE)(tr:TA):TA:=fun σ H Q=>ta σ H fun x H1=>tr σ H1 fun xs H2=>Q (x::xs) H2
section
variable {X:Cx} {e:Expr} {es:List Expr} {te:TE} {t:TA} {pos:Pos}
def BH:PA X [] BG:=fun _ _ _ _ H Q I h=>VI ⟨[],H,I,.nil,h⟩
def yQ(ha:PE X e te)(hr:PA X es t)(hs:starEach (e::es) X.env=(false,eval e X.env)::starEach es X.env:=by rfl):PA X (e::es) (vH te t):=by
 intro pos pins s σ H Q I h
 rw[hs]
 show wpAny _ _ (spliced ((false,eval e X.env)::backTo pos (starEach es X.env))) _ _ s
 refine U4 (Hj (ha pins s σ H _ I h) fun u s1 ⟨x,H1,I1,r1,q1⟩=>?_)
 exact Hj (hr pos pins s1 σ H1 _ I1 q1) fun us s2 ⟨xs,H2,I2,r2,q2⟩=>⟨x::xs,H2,I2,.cons r1 r2,q2⟩
def FZ(t:TA):TE:=fun σ H Q=>t σ H fun xs H1=>xs.length<=sizeLine/\∀p,H1 p=none->Q (.ref p) (upd H1 p (.tup xs))
def F1(t:TA):TE:=fun σ H Q=>t σ H fun xs H1=>xs.length<=sizeLine/\∀p,H1 p=none->Q (.ref p) (upd H1 p (.lst xs))
def BI{x1}(h:PA X es t):PE X (.Tuple es x1 pos) (FZ t):=by
 intro pins s σ H Q I hq
 refine wpAny_Tuple_spliced (Hj (h pos pins s σ H _ I hq) fun us s1 ⟨xs,H1,I1,r,z,q⟩=>⟨by rw[<-r.length];exact z,?_⟩)
 have hf:H1 s1.heap.objs.size=none:=I1.hok.fresh (Ss _)
 refine⟨.ref s1.heap.objs.size,upd H1 s1.heap.objs.size (.tup xs),I1.laid (t':=s1.toks) (fun b u e=>So _ e) (Ss _) ?_,rfl,q _ hf⟩
 exact⟨z,us,r,⟨_,SG _ rfl,rfl,rfl,_,rfl⟩⟩
def BJ(h:PA X es t):PE X (.List es pos) (F1 t):=by
 intro pins s σ H Q I hq
 refine wpAny_List_spliced (Hj (h pos pins s σ H _ I hq) fun us s1 ⟨xs,H1,I1,r,z,q⟩=>⟨by rw[<-r.length];exact z,?_⟩)
 have hf:H1 s1.heap.objs.size=none:=I1.hok.fresh (Ss _)
 refine⟨.ref s1.heap.objs.size,upd H1 s1.heap.objs.size (.lst xs),I1.laid (t':=s1.toks) (fun b u e=>So _ e) (Ss _) ?_,rfl,q _ hf⟩
 exact⟨z,us,0,r,SG _ rfl⟩
end
abbrev Sp:=List V->Hp->VK->XK->Prop
abbrev vI:=List Env->Hp->Shared->XK->Value->Shared->Prop
structure yR (P:Program) (w:World) (K:Vo) (mg:Vr) (base:Heap) (A:Around) (outer:List Env) (s:Shared) (H:Hp):Prop where
 frames:A.frames=some outer
 mod:Mod K mg base
 bs:∀b o,base.get? b=some o->s.heap.get? b=some o/\H b=none
 MR:base.objs.size<=s.heap.objs.size
 Kq:s.heap.FunFrames base outer
 Nn:∀b∈frs outer,H b=none
 hok:JI P w H s.heap
 bare:AllBare s.gens
def CE(outer:List Env)(P:Program)(w:World)(H:Hp)(s:Shared)(Q:VK)(u:Value)(s':Shared):Prop:=
 ∃v H',s'.os=s.os/\AllBare s'.gens/\Un (frs outer) [] H H' s.heap s'.heap/\JI P w H' s'.heap/\RelV v u/\Q v H'
def CR(CX:vI)(outer:List Env)(P:Program)(w:World)(H:Hp)(s:Shared)(Q:VK)(E:XK)(r:Result)(s':Shared):Prop:=
 match r with
 | .ok (.ret u)=>CE outer P w H s Q u s'
 | .ok _=>False
 | .error e=>CX outer H s E e s'
structure m9 (P:Program) (w:World) (K:Vo) (mg:Vr) (base:Heap) (CX:vI) (k:Nat) (f:Addr) (fd:FuncData) (ps:Vs) (sp:Sp):Prop where
 len:∀vs H Q E,sp vs H Q E->vs.length=ps.length
 run:∀(A:Around) (outer:List Env) (s:Shared) (H:Hp) (args:Args) (us:Vv) (vs:List V) (Q:VK) (E:XK),Room k A->yR P w K mg base A outer s H->BindsTo s fd args (ps.zip us)->Vals vs us->sp vs H Q E->
  codeAny (model P w) A (.call (.ref f) args) (CR CX outer P w H s Q E) s
section
variable {X:Cx} {pins:Va} {σ:St} {H:Hp} {s s':Shared}
def Inv.Pa(I:Inv X pins σ H s):yR X.prog X.w X.K X.mg X.base X.A X.stack s H:=
 ⟨I.ok.frames,I.ok.mod,I.bs,Su I.ok.MR I.sz,I.stack,I.L5,I.hok,I.bare⟩
def Inv.after{Q:VK}{u:Value}(I:Inv X pins σ H s)(h:CE X.stack X.prog X.w H s Q u s'):EP X pins σ Q u s':=by
 obtain⟨v,H',os,bare,un,hok,r,q⟩:=h
 obtain⟨hh,g,d,t,os'⟩:=s'
 obtain rfl:os'=s.os:=os
 exact⟨v,H',I.call (h':=hh) (g':=g) (d':=d) (t':=t) (ch:=[]) un hok bare (fun b z=>absurd z (by simp)),r,q⟩
end
def Eb(sp:Sp)(dvs:List V)(E:XK)(t:TA):TE:=fun σ H Q=>t σ H fun vs H1=>sp (vs++dvs) H1 Q E
def Binds(K:Vo)(fd:FuncData)(ps:Vs)(ds:Vv):Prop:=
 ∀(s:Shared) (us:Vv),K.In s.heap->(us++ds).length=ps.length->BindsTo s fd ⟨us,[]⟩ (ps.zip (us++ds))
def Binds.all{K:Vo}{fd:FuncData}{ps:Vs}(h:∀us:List Value,us.length=ps.length->bindArgs fd ⟨us,[]⟩=pure (ps.zip us)):Binds K fd ps []:=fun s us _ hl=>by
 rw[Ti]at hl ⊢
 exact .of_eq (h us hl)
def rJ(CX:vI)(X:Cx)(E:XK):Prop:=∀(pins:Va) (σ:St) (H:Hp) (s:Shared) (e:Value) (s':Shared),Inv X pins σ H s->CX X.stack H s E e s'->X.xe e s'
section
variable {X:Cx} {CX:vI} {k:Nat} {f C:Addr} {fd:FuncData} {ps:Vs} {sp:Sp} {dvs:List V} {ds:Vv} {E:XK} {x m:Str} {p pos apos:Pos} {e o:Expr} {es:List Expr} {ta:TE} {t:TA}
def BK{pins:Va}{σ:St}{H:Hp}{s:Shared}{Q:VK}{us:Vv}{vs:List V}(F:m9 X.prog X.w X.K X.mg X.base CX k f fd ps sp)(hr:Room k X.A)(hb:Binds X.K fd ps ds)(hd:Vals dvs ds)(hx:rJ CX X E)
  (I:Inv X pins σ H s) (r:Vals vs us) (h:sp (vs++dvs) H Q E):wpAny (model X.prog X.w) X.A (call (.ref f) us) (EP X pins σ Q) X.xe s:=by
 have r2:Vals (vs++dvs) (us++ds):=r.append hd
 have hl:(us++ds).length=ps.length:=by rw[<-r2.length];exact F.len _ _ _ _ h
 refine wpAny_call (codeAny_mono (F.run X.A X.stack s H ⟨us,[]⟩ (us++ds) (vs++dvs) Q E hr I.Pa (hb s us I.Mp hl) r2 h) fun r s' hq=>?_)
 cases r with
 |error e=>exact hx pins σ H s e s' I hq
 |ok fl=>
  cases fl with
  |ret u=>exact I.after hq
  |next=>exact False.elim hq
  |brk=>exact False.elim hq
  |cont=>exact False.elim hq
def sU(F:m9 X.prog X.w X.K X.mg X.base CX k f fd ps sp)(hr:Room k X.A)(hg:Gl X x)(hm:X.mg x=some (.ref f))(hk:PySem.W.keepIn X.K (.ref f)=true)(hb:Binds X.K fd ps ds)(hd:Vals dvs ds)(hx:rJ CX X E)
  (ha:PA X (e::es) t) (hdb:(x == ("__debug__":Str))=false:=by decide) (he:starEach (e::es) X.env=(false,eval e X.env)::starEach es X.env:=by rfl) (hpl:(backTo pos (starEach es X.env)).any (·.1)=false:=by rfl) :
  PE X (.Call (.Name x p) (e::es) [] pos) (Eb sp dvs E t):=by
 intro pins s σ H Q I h
 refine U5 (sO I hg hm ?_ hdb)
 refine PySem.W.callWith_K (h₀:=X.base) I.ok.mod.OW hk (Hj (ha pos pins s σ H _ I h) fun us s1 ⟨vs,H1,I1,r,q⟩=>⟨I1.Mp,?_⟩) he hpl
 exact BK F hr hb hd hx I1 r q
end
def PK(X:Cx)(kws:List Keyword)(t:TA):Prop:=
 ∀(pos:Pos) (pins:Va) (s:Shared) (σ:St) (H:Hp) (Q:List V->Hp->Prop),Inv X pins σ H s->t σ H Q->wpAny (model X.prog X.w) X.A (evalAll ((backToKw pos (keywordEach kws X.env)).map (·.2))) (AP X pins σ Q) X.xe s
section
variable {X:Cx} {CX:vI} {k:Nat} {f C:Addr} {fd:FuncData} {ps ks:Vs} {sp:Sp} {E:XK} {x m:Str} {p pos apos kpos:Pos} {e o:Expr} {es:List Expr} {kws:List Keyword} {te ta:TE} {t tk:TA} {nm:Option Str}
def BL:PK X [] BG:=fun _ _ _ _ H Q I h=>wpAny_evalAll_nil ⟨[],H,I,.nil,h⟩
def yS(ha:PE X e te)(hr:PK X kws t):PK X (⟨nm,e,kpos⟩::kws) (vH te t):=by
 intro pos pins s σ H Q I h
 show wpAny _ _ (evalAll ((do let v <-eval e X.env;standAt pos;pure v)::(backToKw pos (keywordEach kws X.env)).map (·.2))) _ _ s
 refine wpAny_evalAll_cons (Sl (Hj (ha pins s σ H _ I h) fun u s1 ⟨x,H1,I1,r1,q1⟩=>Sl (Ws (Sx ?_))))
 exact Hj (hr pos pins s1 σ H1 _ I1 q1) fun us s2 ⟨xs,H2,I2,r2,q2⟩=>⟨x::xs,H2,I2,.cons r1 r2,q2⟩
variable {g:List Value->List Value->List Value} {gV:List V->List V->List V}
end
structure dL (N P:Vs) (sc:Scope):Prop where
 kind:sc.kind = .function
 co:sc.isCoroutine=false
 gen:sc.isGenerator=false
 nd:N.Nodup
 pre:N.take P.length=P
 par:∀x∈P,sc.names.lookup x=some .local\/sc.names.lookup x=some .cell
 Nr:∀y∈sc.names,y.2 ≠ .free
theorem nK{kindOf:Str->Option NameKind}{x:Str}:∀{binds:List (Str×Value)} {m:Vr},(∀v,(x,v) ∉ binds)->bindL kindOf binds m x=m x
 |[],_,_=>rfl
 |(n,v)::r,m,h=>by
  unfold bindL
  rw[nK fun w hw=>h w (UK _ hw)]
  split
  ·have:x≠n:=by rintro rfl;exact h v UH
   simp[this]
  ·rfl
theorem nL{kindOf:Str->Option NameKind}{x:Str}:∀{binds:List (Str×Value)} {m:Vr},(∀v,(x,v) ∉ binds)->bindC kindOf binds m x=m x
 |[],_,_=>rfl
 |(n,v)::r,m,h=>by
  unfold bindC
  rw[nL fun w hw=>h w (UK _ hw)]
  split
  ·rfl
  ·have:x≠n:=by rintro rfl;exact h v UH
   simp[this]
theorem nM{kindOf:Str->Option NameKind}{x:Str}{v:Value}:∀{P:Vs} {vs:Vv} {i:Nat} {m:Vr},P.Nodup->P[i]?=some x->vs[i]?=some v->kindOf x=some .local->
  bindL kindOf (P.zip vs) m x=some v
 |[],_,_,_,_,h,_,_=>by simp at h
 |_::_,[],_,_,_,_,h,_=>by simp at h
 |p::P,w::vs,0,m,nd,h1,h2,hk=>by
  simp at h1 h2;subst h1;subst h2
  show bindL kindOf ((p,w)::P.zip vs) m p=_
  unfold bindL
  rw[nK fun v hv=>(Uc.mp nd).1 (UD hv).1,if_pos hk]
  simp
 |p::P,w::vs,i+1,m,nd,h1,h2,hk=>by
  show bindL kindOf ((p,w)::P.zip vs) m x=_
  unfold bindL
  exact nM (i:=i) (Uc.mp nd).2 (by simpa using h1) (by simpa using h2) hk
theorem nN{kindOf:Str->Option NameKind}{x:Str}{v:Value}:∀{P:Vs} {vs:Vv} {i:Nat} {m:Vr},P.Nodup->P[i]?=some x->vs[i]?=some v->kindOf x≠some .local->
  bindC kindOf (P.zip vs) m x=some v
 |[],_,_,_,_,h,_,_=>by simp at h
 |_::_,[],_,_,_,_,h,_=>by simp at h
 |p::P,w::vs,0,m,nd,h1,h2,hk=>by
  simp at h1 h2;subst h1;subst h2
  show bindC kindOf ((p,w)::P.zip vs) m p=_
  unfold bindC
  rw[nL fun v hv=>(Uc.mp nd).1 (UD hv).1,if_neg hk]
  simp
 |p::P,w::vs,i+1,m,nd,h1,h2,hk=>by
  show bindC kindOf ((p,w)::P.zip vs) m x=_
  unfold bindC
  exact nN (i:=i) (Uc.mp nd).2 (by simpa using h1) (by simpa using h2) hk
noncomputable def gy(N:Vs)(vs:List V):St:=vs.map some++List.replicate (N.length - vs.length) none
noncomputable def qe(CX:vI)(P:Program)(w:World)(K:Vo)(mg:Vr)(base:Heap)(N:Vs)(qual:Str)(scope:Scope)(f:Addr)(cd:Value)(A:Around)(outer:List Env)(s:Shared)(H:Hp)(E:XK):Cx where
 prog:=P
 w:=w
 K:=K
 mg:=mg
 base:=base
 A:=A.deeper (envOfC qual scope s.heap.objs.size f cd)
 N:=N
 s₀:=s
 H₀:=H
 env:=envOfC qual scope s.heap.objs.size f cd
 outer:=outer
 stack:=envOfC qual scope s.heap.objs.size f cd::outer
 ex:=[]
 calm:=true
 fn:=fun _=>true
 pn:=[]
 xe:=fun e s'=>wpAny (model P w) (A.deeper (envOfC qual scope s.heap.objs.size f cd)) (leaving (envOfC qual scope s.heap.objs.size f cd) e) (fun _ s''=>CX outer H s E e s'') (fun e' s''=>CX outer H s E e' s'') s'
def qf{sc:Scope}{n:Nat}{x:Str}(h:sc.names.lookup x=some .cell):∃c,(cellsFrom n sc.names []).lookup x=some c:=by
 have q:=PySem.W.cellsFrom_some sc.names n [] (.inl h)
 exact Option.isSome_iff_exists.mp q
def ug{CX:vI}{P:Program}{w:World}{K:Vo}{mg:Vr}{base:Heap}{N ps:Vs}{qual:Str}{scope:Scope}{f:Addr}{cd:Value}{A:Around}{outer:List Env}{s s1:Shared}{H:Hp}{E:XK}{us:Vv}{vs:List V}
  (S:dL N ps scope) (hd:A.handled=none) (e0:yR P w K mg base A outer s H) (hl:vs.length=ps.length) (r:Vals vs us)
  (x:InCallC s s.heap.objs.size (bindL (envOfC qual scope s.heap.objs.size f cd).kindOf (ps.zip us) fun _=>none) (cellsFrom (s.heap.objs.size+1) scope.names []) (bindC (envOfC qual scope s.heap.objs.size f cd).kindOf (ps.zip us) fun _=>none) s1) :
  Inv (qe CX P w K mg base N qual scope f cd A outer s H E) [] (gy N vs) H s1:=by
 have hpl:ps.length<=N.length:=by have:=T6 List.length S.pre;rw[TY]at this;omega
 obtain⟨h1,tk,rfl,hk⟩:=x.done
 have NV:∀b:Addr,b ∉ (qe CX P w K mg base N qual scope f cd A outer s H E).ex:=fun b z=>absurd (show b∈([]:List Addr)from z) (by simp)
 refine⟨⟨e0.mod,S.kind,rfl,rfl,Ss _,fun y z c h1 h2=>?_,fun y hy=>?_,fun y c _ h=>?_,fun _=>hd,Around.frames_deeper e0.frames,.inr ⟨rfl,rfl⟩,fun b z=>absurd z (NV b),e0.bs,e0.MR,fun b _ _=>NV b,fun b z=>absurd z (NV b),e0.Kq,e0.Nn⟩,
  rfl,e0.bare,Un.kept hk,⟨_,x.toInCall.ns,fun i y v h1 h2 h3=>?_⟩,fun y c h=>⟨_,x.cell y c h⟩,e0.hok.fresh (Ss _),fun y c h=>?_,fun p hp=>absurd (show p∈([]:Va)from hp) (by simp),e0.hok.kept hk,?_⟩
 ·exact name_of_addr x.apart (UU h1) (UU h2)
 ·have hy:scope.names.lookup y=some .cell\/scope.names.lookup y=some .free:=hy
  rcases hy with hy|hy
  ·exact qf hy
  ·exact absurd rfl (S.Nr _ (UU hy))
 ·exact VA (x.above y c (UU h))
 ·have hi:i < vs.length:=by
   unfold gy at h2
   by_cases hi:i < vs.length
   ·exact hi
   ·rw[Ud (by simpa using hi)]at h2
    rw[UP]at h2
    split at h2<;>cases h2
  have ha:vs[i]?=some v:=by
   unfold gy at h2
   rw[TX (by simpa using hi),SA]at h2
   cases e:vs[i]? with
   |none=>rw[e]at h2;cases h2
   |some a=>rw[e]at h2;cases h2;rfl
  obtain⟨u,hu,rv⟩:=r.get ha
  have hp:ps[i]?=some y:=by
   rw[<-S.pre,List.getElem?_take_of_lt (by omega)];exact h1
  have Qj:ps.Nodup:=by rw[<-S.pre];exact S.nd.sublist (WO _ _)
  refine⟨u,rv,?_⟩
  rcases S.par y (SY hp)with k|k
  ·exact .inl ⟨k,nM Qj hp hu k⟩
  ·obtain⟨c,e⟩:=qf (n:=s.heap.objs.size+1) k
   refine .inr ⟨.inl k,c,e,?_⟩
   have q:=x.cell y c e
   rw[nN Qj hp hu (by show scope.names.lookup y≠_;rw[k];decide)]at q
   exact q
 ·exact e0.hok.fresh (VA (x.above y c (UU h)))
 ·unfold gy
  show _=N.length
  rw[Sn,Sm,TU]
  omega
def AE{CX:vI}{P:Program}{w:World}{K:Vo}{mg:Vr}{base:Heap}{k:Nat}{f:Addr}{name qual:Str}{params:Arguments}{body:List Stmt}{scope:Scope}{dV kV doc pm cdv ct oc:Value}{an od:Option Addr}
  {osl:Array (Option Value)} {N ps:Vs} {sp:Sp} (lk:K.lookup f=some ⟨oc,od,.func (PySem.W.fnOf name qual params body scope dV kV doc pm an cdv ct),osl⟩) (hcd:PySem.W.codeIn K cdv qual=true) (S:dL N ps scope)
  (len:∀vs H Q E,sp vs H Q E->vs.length=ps.length)
  (hbody:∀(A:Around) (outer:List Env) (s:Shared) (H:Hp) (vs:List V) (Q:VK) (E:XK),Room k (A.deeper (envOfC qual scope s.heap.objs.size f cdv))->sp vs H Q E->
   ∃t,Lp (qe CX P w K mg base N qual scope f cdv A outer s H E) body t/\t { nx:=fun _ H'=>Q .non H',rt:=Q } (gy N vs) H) :
  m9 P w K mg base CX (k+1) f (PySem.W.fnOf name qual params body scope dV kV doc pm an cdv ct) ps sp:=by
 refine⟨len,fun A outer s H args us vs Q E hr e0 hb r ML=>?_⟩
 have hl:=len _ _ _ _ ML
 have KX:K.In s.heap:=e0.mod.OW.keeps fun b o e=>(e0.bs b o e).1
 have lim:s.heap.NoLimit:=e0.mod.nolimit.keeps fun b o e=>(e0.bs b o e).1
 have hkind:∀y∈ps.zip us,scope.names.lookup y.1=some .local\/(scope.names.lookup y.1=some .cell/\((cellsFrom (s.heap.objs.size+1) scope.names []).lookup y.1).isSome=true):=fun⟨n,v⟩ hy=>by
  rcases S.par n (UD hy).1 with q|q
  ·exact .inl q
  ·exact .inr ⟨q,PySem.W.cellsFrom_some _ _ _ (.inl q)⟩
 refine codeAny_call_function hr.depth (KX _ _ lk) rfl S.co S.gen rfl (PySem.W.codeRec_of KX hcd) (hb _ _ _ _ ?_)
 refine wpAny_newFunctionEnv_cells S.kind hkind fun env he s1 x=>?_
 subst he
 refine⟨lim.keeps x.toInCall.keep,codeAny_func ?_⟩
 obtain⟨t,ht,hq⟩:=hbody A outer s H vs Q E (hr.deeper _) ML
 have I:Inv (qe CX P w K mg base N qual scope f cdv A outer s H E) [] (gy N vs) H s1:=ug S hr.hd e0 hl r x
 refine Vj (ht [] s1 (gy N vs) H _ I hq) (fun fl s' hs=>?_) fun e s' hs=>hs
 have fin:∀{σ':St} {H':Hp} {v:V} {u:Value},Inv (qe CX P w K mg base N qual scope f cdv A outer s H E) [] σ' H' s'->RelV v u->Q v H'->CE outer P w H s Q u s':=
  fun{σ' H' v u} J rv q=>⟨v,H',J.os,J.bare,J.base,J.hok,rv,q⟩
 cases fl with
 |ret u=>
  obtain⟨v,σ',H',J,rv,q⟩:=hs
  exact fin J rv q
 |next=>
  obtain⟨σ',H',J,q⟩:=hs
  exact fin (v:=V.non) (u:=Value.none) J rfl q
 |brk=>
  obtain⟨_,_,_,q⟩:=hs
  exact False.elim q
 |cont=>
  obtain⟨_,_,_,q⟩:=hs
  exact False.elim q
section
variable {X:Cx} {x:Str} {p pos:Pos} {e:Expr} {es:List Expr} {t:TA} {id T:String} {r:List V->Hp->VK->Prop}
def GH(r:List V->Hp->VK->Prop)(t:TA):TE:=fun σ H Q=>t σ H fun vs H1=>r vs H1 Q
def vJ(hc:er X (.builtin id) r)(hg:Gl X x)(hm:X.mg x=none)(hv:bootBuiltins x=some (.builtin id))(ha:PA X (e::es) t)(hn:x ≠ "__name__":=by decide)(hdb:(x == ("__debug__":Str))=false:=by decide)
  (he:starEach (e::es) X.env=(false,eval e X.env)::starEach es X.env:=by rfl) (hpl:(backTo pos (starEach es X.env)).any (·.1)=false:=by rfl):PE X (.Call (.Name x p) (e::es) [] pos) (GH r t):=by
 intro pins s σ H Q I h
 refine U5 (eO I hg hm hv ?_ hn hdb)
 exact PyProof.Rows.callWith_builtin1 (Hj (ha pos pins s σ H _ I h) fun us s1 ⟨vs,H1,I1,r1,q1⟩=>hc pins s1 σ H1 vs us Q I1 r1 q1) he hpl
def uh(hc:er X (.type T) r)(hg:Gl X x)(hm:X.mg x=none)(hv:bootBuiltins x=some (.type T))(ha:PA X (e::es) t)(hn:x ≠ "__name__":=by decide)(hdb:(x == ("__debug__":Str))=false:=by decide)
  (he:starEach (e::es) X.env=(false,eval e X.env)::starEach es X.env:=by rfl) (hpl:(backTo pos (starEach es X.env)).any (·.1)=false:=by rfl):PE X (.Call (.Name x p) (e::es) [] pos) (GH r t):=by
 intro pins s σ H Q I h
 refine U5 (eO I hg hm hv ?_ hn hdb)
 exact T5 (Hj (ha pos pins s σ H _ I h) fun us s1 ⟨vs,H1,I1,r1,q1⟩=>hc pins s1 σ H1 vs us Q I1 r1 q1) he hpl
end
end L2
namespace HT
open PySem PyProof.Rows
section
open PySem.SeqAt
open PySem.AutoSeq1 (wpAny_loadPart')
open PySem.MeetsSeq PySem.MeetsSeq2 PySem.MeetsSeq3
end
section
variable {prog:Program} {w:World} {A:Around} {E:Vq} {s:Shared}
def yT{t b:Addr}{vs ws:Vv}{Q:Vq}(ht:IsTup s.heap t vs.toArray)(hb:IsTup s.heap b ws.toArray)(hv:vs≠[])
  (h1:ws=[]->Q (.ref t) s) (h2:ws≠[]->Q (.ref s.heap.objs.size) { s with heap:=s.heap.push { cls:=.type "tuple",data:=.seq (vs++ws).toArray } })
  (hsz:vs.length+ws.length<=sizeLine):wpAny (model prog w) A (binaryOp .Add (.ref t) (.ref b)) Q E s:=by
 obtain⟨⟨cls,dd,data,sl⟩,ho,hc,n,hd⟩:=id ht
 obtain⟨⟨Pb,dd2,data2,sl2⟩,ho2,hc2,n2,hd2⟩:=id hb
 simp only at hc hd hc2 hd2
 subst hc hd hc2 hd2
 have e:vs.toArray++ws.toArray=(vs++ws).toArray:=by simp
 by_cases hw:ws=[]
 ·exact concat_meets ⟨_,ho,rfl⟩ ⟨_,ho2,rfl⟩ noFill_tuple_add seq_tuple_add Wa V8 (VW _ _)
   (tuple_addW1 t b vs.toArray ws.toArray n n2 dd dd2 sl sl2 (by simpa using hv) (by simp[hw])) ⟨ho,ho2,h1 hw⟩
 ·refine concat_meets ⟨_,ho,rfl⟩ ⟨_,ho2,rfl⟩ noFill_tuple_add seq_tuple_add Wa V8 (VW _ _)
   (tuple_addW2 t b vs.toArray ws.toArray n n2 dd dd2 sl sl2 (by simpa using hv) (by simpa using hw) (by rw[Sy,Sy];exact hsz)) ⟨ho,ho2,?_⟩
  rw[e]
  exact h2 hw
noncomputable def HL(n d:Nat):Option Int->Nat
 |none=>d
 |some v=>if v < 0 then (v+(n:Int)).toNat else min v.toNat n
def vK(n d:Nat):HL n d none=d:=rfl
def yU(n d k:Nat):HL n d (some (k:Int))=min k n:=by
 show(if (k:Int) < 0 then ((k:Int)+(n:Int)).toNat else min (k:Int).toNat n)=min k n
 rw[if_neg (by omega),Vf]
def BM(n d:Nat)(hd:d<=n)(o:Option Int):HL n d o<=n:=by
 cases o with
 |none=>exact hd
 |some v=>
  show(if v < 0 then (v+(n:Int)).toNat else min v.toNat n)<=n
  by_cases hv:v < 0
  ·rw[if_pos hv];omega
  ·rw[if_neg hv];exact Nat.min_le_right _ _
def sV(v:Int)(n d:Nat):(if v < 0 then max (v+(n:Int)) 0 else min v (n:Int))=((HL n d (some v):Nat):Int):=by
 show(if v < 0 then max (v+(n:Int)) 0 else min v (n:Int))=(((if v < 0 then (v+(n:Int)).toNat else min v.toNat n):Nat):Int)
 by_cases hv:v < 0
 ·simp only[if_pos hv];omega
 ·simp only[if_neg hv];omega
def rK(lo hi:Option Int)(n:Nat):Builtin.Slice.sliceAdjust lo hi 1 (n:Int)=(((HL n 0 lo:Nat):Int),((HL n n hi:Nat):Int)):=by
 have h1:¬((1:Int) < 0):=by omega
 unfold Builtin.Slice.sliceAdjust
 simp only[h1,Tt]
 refine Prod.ext ?_ ?_
 ·cases lo with
  |none=>rfl
  |some v=>exact sV v n 0
 ·cases hi with
  |none=>rfl
  |some v=>exact sV v n n
def rL(i j:Nat):Builtin.Slice.slicePlaces (i:Int) (j:Int) 1=j - i:=by
 unfold Builtin.Slice.slicePlaces
 have h1:(1:Int) > 0:=by omega
 simp only[h1,TH,Int.ediv_one]
 split<;>omega
def lI{v:Value}{o:Option Int}{Q:Option Int->Shared->Prop}(p:IsPart v o)(h:Q o s):wpAny (model prog w) A (Builtin.Slice.slicePartIndex v) Q E s:=by
 cases p with
 |none=>exact slicePart_none h
 |int i t=>exact slicePart_int h
def e_{sl:Addr}{vl vu:Value}{lo hi:Option Int}{n:Nat}{Q:Int×Int×Nat->Shared->Prop}(hs:s.heap.IsSliceOf sl vl vu .none)(pl:IsPart vl lo)(pu:IsPart vu hi)
  (h:Q (((HL n 0 lo:Nat):Int),1,HL n n hi - HL n 0 lo) s):wpAny (model prog w) A (Builtin.Slice.sliceApplied (.ref sl) (pure (n:Int))) Q E s:=by
 obtain⟨os,hos,hcs,hds⟩:=id hs
 unfold Builtin.Slice.sliceApplied Builtin.Slice.sliceFields
 refine Sl (Sl (TM hos hds (x:=vl) rfl (Sl (TM hos hds (x:=vu) rfl (Sl (TM hos hds (x:=.none) rfl (Sx ?_)))))))
 refine Sl (slicePart_none ?_)
 show wpAny _ _ (if ((1:Int) == 0)=true then _ else _) _ _ s
 rw[if_neg (by decide)]
 refine Sl (lI pl (Sl (lI pu (Sl (Sx ?_)))))
 show wpAny _ _ (match Builtin.Slice.sliceAdjust lo hi 1 (n:Int)with|(lo,hi)=>pure (lo,(1:Int),Builtin.Slice.slicePlaces lo hi 1)) _ _ s
 rw[rK lo hi n]
 show wpAny _ _ (pure (((HL n 0 lo:Nat):Int),(1:Int),Builtin.Slice.slicePlaces ((HL n 0 lo:Nat):Int) ((HL n n hi:Nat):Int) 1)) _ _ s
 rw[rL]
 exact Sx h
def vL(xs:Vw)(i k:Nat):((List.range k).filterMap fun(m:Nat)=>xs[((i:Int)+(m:Int) * 1).toNat]?).toArray=((xs.toList.drop i).take k).toArray:=by
 have e:(fun(m:Nat)=>xs[((i:Int)+(m:Int) * 1).toNat]?)=fun m=>xs[i+m]?:=by
  funext m
  have:((i:Int)+(m:Int) * 1).toNat=i+m:=by omega
  rw[this]
 rw[e]
 have:=pick_run xs i k
 rw[List.filterMap_map]at this
 have e2:((fun x=>xs[x]?) ∘ fun x=>i+x)=fun m=>xs[i+m]?:=rfl
 rw[e2]at this
 rw[this]
def jo{t sl:Addr}{items:Vw}{vl vu:Value}{lo hi:Option Int}{Q:Vq}(ht:IsTup s.heap t items)(hs:s.heap.IsSliceOf sl vl vu .none)(pl:IsPart vl lo)(pu:IsPart vu hi)
  (hw:¬(HL items.size 0 lo=0/\HL items.size items.size hi=items.size))
  (h:Q (.ref s.heap.objs.size) { s with heap:=s.heap.push { cls:=.type "tuple",data:=.seq ((items.toList.drop (HL items.size 0 lo)).take (HL items.size items.size hi - HL items.size 0 lo)).toArray } })
  (hsz:items.size<=sizeLine):wpAny (model prog w) A (getItem (.ref t) (.ref sl)) Q E s:=by
 have L6:sizeOk (.seq ((items.toList.drop (HL items.size 0 lo)).take (HL items.size items.size hi - HL items.size 0 lo)).toArray):=by
  show((items.toList.drop (HL items.size 0 lo)).take (HL items.size items.size hi - HL items.size 0 lo)).toArray.size<=sizeLine
  rw[Sy,TY,Ut,UC]
  omega
 have hj:HL items.size items.size hi<=items.size:=BM _ _ (Ss _) hi
 obtain⟨os,hos,hcs,hds⟩:=id hs
 have Pc:s.TypeIs (.ref sl) "slice":=⟨os,hos,hcs⟩
 unfold getItem
 try with_reducible refine Vk ?_
 first|refine Sl (Sx ?_)|skip
 refine Sl (wpAny_sequenceKey ht.typeIs (by decide) ?_)
 refine Sl (Ue (name:=Str.ofString "__getitem__") ht.typeIs T7
  (UI T7 ht.typeIs entry_tuple_getitem ?_ (args_tuple_getitem _ _)))
 show wpAny _ _ (Builtin.Tuple.tupleItemsOf (.ref t) >>= _) _ _ s
 refine Sl (tupleItemsOf_ ht ?_)
 refine Sl (wpAny_typeOf Pc ?_)
 rw[if_pos (by decide)]
 refine Sl (e_ hs pl pu ?_)
 have hno:¬((((HL items.size 0 lo:Nat):Int) == 0&&(1:Int) == 1&&(HL items.size items.size hi - HL items.size 0 lo) == items.size)=true):=by
  intro q
  rw[Wl,Wl]at q
  have q1:((HL items.size 0 lo:Nat):Int)=0:=eq_of_beq q.1.1
  have q2:HL items.size items.size hi - HL items.size 0 lo=items.size:=eq_of_beq q.2
  exact hw ⟨by omega,by omega⟩
 show wpAny _ _ (if (((HL items.size 0 lo:Nat):Int) == 0&&(1:Int) == 1&&(HL items.size items.size hi - HL items.size 0 lo) == items.size)=true then _ else _) _ _ s
 rw[if_neg hno,vL]
 first
  |exact Sl (m:=Builtin.Tuple.tupleExact _) (Uq (Sx ⟨_,rfl,Sx h⟩) L6)
  |exact Sl (m:=Builtin.Tuple.tupleExact _) (Uq (Sl (Sx (Sx ⟨_,rfl,Sx h⟩))) L6)
  |exact Sl (Sl (m:=Builtin.Tuple.tupleExact _) (Uq (Sx (Sx ⟨_,rfl,Sx h⟩)) L6))
  |exact Sl (Sl (m:=Builtin.Tuple.tupleExact _) (Uq (Sx ⟨_,rfl,Sx h⟩) L6))
end
end HT
namespace L2
open PySem PySem.Spec PyProof.Rows
abbrev TO:=St->Hp->(Option Int->Hp->Prop)->Prop
def PO(X:Cx)(e:Option Expr)(t:TO):Prop:=
 ∀(pins:Va) (s:Shared) (σ:St) (H:Hp) (Q:Option Int->Hp->Prop),Inv X pins σ H s->t σ H Q->
  wpAny (model X.prog X.w) X.A (evalPart e X.env) (fun u s'=>∃o H',Inv X pins σ H' s'/\IsPart u o/\Q o H') X.xe s
noncomputable def yV:TO:=fun _ H Q=>Q none H
noncomputable def Ec(t:TE):TO:=fun σ H Q=>t σ H fun x H1=>∃i,x = .int i/\Q (some i) H1
def rM{ns:Vu}:∀{us:Vv},Vals (ns.map V.int) us->IntsAre us ns:=by
 induction ns with
 |nil=>intro us r;rw[Tu]at r;cases r;exact .nil
 |cons n ns ih=>
  intro us r
  rw[SH]at r
  cases r with
  |cons r1 r2=>
   obtain⟨t,e⟩:=r1
   subst e
   exact .cons n t (ih r2)
section
variable {X:Cx} {e:Expr} {te:TE} {lo hi:Option Expr} {tl th:TO} {pos p2:Pos}
def yW:PO X none yV:=by
 intro pins s σ H Q I h
 rw[evalPart_none]
 exact Sx ⟨none,H,I,.none,h⟩
def yX(h:PE X e te):PO X (some e) (Ec te):=by
 intro pins s σ H Q I hw
 rw[evalPart_some]
 refine Hj (h pins s σ H _ I hw) fun u s1 ⟨x,H1,I1,r1,q1⟩=>?_
 obtain⟨i,rfl,q⟩:=q1
 obtain⟨t,rfl⟩:=r1
 exact⟨some i,H1,I1,.int i t,q⟩
def Dv(X:Cx)(r:V->Option Int->Option Int->Hp->VK->Prop):Prop:=
 ∀(pins:Va) (s:Shared) (σ:St) (H:Hp) (x:V) (v vl vu:Value) (lo hi:Option Int) (sl:Addr) (Q:VK),Inv X pins σ H s->RelV x v->s.heap.IsSliceOf sl vl vu .none->IsPart vl lo->IsPart vu hi->r x lo hi H Q->
  ∃T id,typeLookup (.type T) "__getitem__" = pure (some (.builtin id))/\s.TypeIs v T/\wpAny (model X.prog X.w) X.A (getItem v (.ref sl)) (EP X pins σ Q) X.xe s
def GU(r:V->Option Int->Option Int->Hp->VK->Prop)(te:TE)(tl th:TO):TE:=fun σ H Q=>te σ H fun x H1=>tl σ H1 fun l H2=>th σ H2 fun u H3=>r x l u H3 Q
def vM{r:V->Option Int->Option Int->Hp->VK->Prop}(hr:Dv X r)(he:PE X e te)(hl:PO X lo tl)(hu:PO X hi th):PE X (.Subscript e (.Slice lo hi none p2) pos) (GU r te tl th):=by
 intro pins s σ H Q I h
 refine Subscript_ (Hj (he pins s σ H _ I h) fun v s1 ⟨x,H1,I1,r1,q1⟩=>?_)
 refine wpAny_Slice (Hj (hl pins s1 σ H1 _ I1 q1) fun vl s2 ⟨l,H2,I2,pl,q2⟩=>Hj (hu pins s2 σ H2 _ I2 q2) fun vu s3 ⟨u,H3,I3,pu,q3⟩=>?_)
 rw[evalPart_none]
 refine Sx ?_
 have I4:Inv X pins σ H3 { s3 with heap:=s3.heap.push { cls:=.type "slice",data:=.fields #[vl,vu,.none] } }:=I3.kept (t':=s3.toks) fun b ob q=>So _ q
 obtain⟨T,id,hT,ht,hg⟩:=hr pins { s3 with heap:=s3.heap.push { cls:=.type "slice",data:=.fields #[vl,vu,.none] } } σ H3 x v vl vu l u s3.heap.objs.size Q I4 r1 (Heap.IsSliceOf.new ..) pl pu q3
 show wpAny (model X.prog X.w) X.A (subscriptTail e (.Slice lo hi none p2) v (.ref s3.heap.objs.size)) (EP X pins σ Q) X.xe { s3 with heap:=s3.heap.push { cls:=.type "slice",data:=.fields #[vl,vu,.none] } }
 exact tail_any (ops:=[.ref s3.heap.objs.size,v]) ht hT hg (by with_unfolding_all rfl)
noncomputable def lJ(xs:List V)(lo hi:Option Int):List V:=(xs.drop (HT.HL xs.length 0 lo)).take (HT.HL xs.length xs.length hi - HT.HL xs.length 0 lo)
def kS(xs:List V)(lo hi:Option Int):(lJ xs lo hi).length<=xs.length:=by
 unfold lJ
 rw[TY,Ut]
 omega
noncomputable def F2(K:Vo):V->Option Int->Option Int->Hp->VK->Prop:=fun x lo hi H Q=>∃a xs,x = .ref a/\SqT K H a xs/\
 ¬(HT.HL xs.length 0 lo=0/\HT.HL xs.length xs.length hi=xs.length)/\∀p,H p=none->Q (.ref p) (upd H p (.tup (lJ xs lo hi)))
def BN:Dv X (F2 X.K):=by
 intro pins s σ H x v vl vu lo hi sl Q I rx hs pl pu h
 obtain⟨a,xs,rfl,hx,hw,q⟩:=h
 cases rx
 obtain⟨its,r,ht,hz⟩:=I.tuple hx
 have hlen:its.toArray.size=xs.length:=by rw[Sy];exact r.length.symm
 refine⟨"tuple",_,T7.lookup,ht.typeIs,?_⟩
 refine HT.jo ht hs pl pu (by rw[hlen];exact hw) ?_ (by rw[hlen];exact hz)
 rw[hlen]
 refine⟨.ref s.heap.objs.size,_,I.laid (t':=s.toks) (o:=.tup (lJ xs lo hi)) (fun b ob q=>So _ q) (Ss _) ?_,rfl,q _ (I.hok.fresh (Ss _))⟩
 exact⟨Su (kS xs lo hi) hz,_,(r.drop (HT.HL xs.length 0 lo)).take (HT.HL xs.length xs.length hi - HT.HL xs.length 0 lo),Ia.new _ _⟩
def Ed(K:Vo):R2:=fun x y H Q=>∃a b xs ys,x = .ref a/\y = .ref b/\SqT K H a xs/\SqT K H b ys/\xs≠[]/\xs.length+ys.length<=sizeLine/\
 (ys=[]->Q (.ref a) H)/\(ys≠[]->∀p,H p=none->Q (.ref p) (upd H p (.tup (xs++ys))))
def Vals.KQ{xs:List V}{us:Vv}(r:Vals xs us):us=[]↔xs=[]:=by
 cases r with
 |nil=>simp
 |cons _ _=>simp
def yY:im X (binaryOp .Add) (Ed X.K):=by
 intro pins s σ H x y v u Q I rx ry h
 obtain⟨a,b,xs,ys,rfl,rfl,ha,hb,hx,hz,q1,q2⟩:=h
 cases rx
 cases ry
 obtain⟨its,r1,p1,_⟩:=I.tuple ha
 obtain⟨its2,r2,p2,_⟩:=I.tuple hb
 refine HT.yT p1 p2 (fun z=>hx (r1.KQ.mp z)) (fun z=>⟨.ref a,H,I,rfl,q1 (r2.KQ.mp z)⟩) (fun z=>?_) (by rw[<-r1.length,<-r2.length];exact hz)
 refine⟨.ref s.heap.objs.size,_,I.laid (t':=s.toks) (o:=.tup (xs++ys)) (fun b ob q=>So _ q) (Ss _) ?_,rfl,q2 (fun w=>z (r2.KQ.mpr w)) _ (I.hok.fresh (Ss _))⟩
 exact⟨by rw[Sn];exact hz,_,r1.append r2,Ia.new _ _⟩
end
noncomputable def rA(n:Nat)(i:Int):Option Nat:=if 0<=i then (if i < n then some i.toNat else none) else if -(n:Int)<=i then some (i+n).toNat else none
noncomputable def Ii{α:Type}(xs:List α)(i:Int):Option α:=(rA xs.length i).bind fun j=>xs[j]?
def sW{n:Nat}{i:Int}{j:Nat}(h:rA n i=some j):seqIndex? i n=some j/\j < n/\-(n:Int)<=i/\i < n:=by
 unfold rA at h
 by_cases h0:0<=i
 ·rw[if_pos h0]at h
  by_cases h1:i < n
  ·rw[if_pos h1]at h
   have e:i.toNat=j:=Tz h
   exact⟨by rw[seqIndex_of h0 h1,e],by omega,by omega,h1⟩
  ·rw[if_neg h1]at h;cases h
 ·rw[if_neg h0]at h
  by_cases h1:-(n:Int)<=i
  ·rw[if_pos h1]at h
   have e:(i+n).toNat=j:=Tz h
   exact⟨by rw[seqIndex_neg (by omega) h1,e],by omega,h1,by omega⟩
  ·rw[if_neg h1]at h;cases h
def ox{α:Type}{xs:List α}{i:Int}{v:α}(h:Ii xs i=some v):∃j,seqIndex? i xs.length=some j/\xs[j]?=some v/\j < xs.length/\-(xs.length:Int)<=i/\i < xs.length:=by
 unfold Ii at h
 cases e:rA xs.length i with
 |none=>rw[e]at h;cases h
 |some j=>
  rw[e]at h
  obtain⟨h1,h2,h3,h4⟩:=sW e
  exact⟨j,h1,h,h2,h3,h4⟩
def b9{α:Type}{xs:List α}{j:Nat}{v:α}(h:xs[j]?=some v):Ii xs (j:Int)=some v:=by
 have hj:j < xs.length:=(Td.mp h).1
 have e:rA xs.length (j:Int)=some j:=by
  unfold rA
  rw[if_pos (by omega),if_pos (by omega)];simp
 unfold Ii;rw[e];exact h
def lz(b:Expr):Prop:=∀o i,subscripted b false o i=operate [o,i] (getItem o i)
def Dw(X:Cx)(r:R2):Prop:=
 ∀(value slice:Expr) (pins:Va) (s:Shared) (σ:St) (H:Hp) (x y:V) (v u:Value) (Q:VK),Inv X pins σ H s->RelV x v->RelV y u->r x y H Q->
  subscripted slice false v u=operate [v,u] (getItem v u)->wpAny (model X.prog X.w) X.A (subscriptTail value slice v u) (EP X pins σ Q) X.xe s
def BO(X:Cx)(id:String)(r:V->List V->Hp->VK->Prop):Prop:=
 ∀(pins:Va) (s:Shared) (σ:St) (H:Hp) (x:V) (xs:List V) (v:Value) (us:Vv) (Q:VK),Inv X pins σ H s->RelV x v->Vals xs us->r x xs H Q->
  wpAny (model X.prog X.w) X.A (call (.builtin id) (v::us)) (EP X pins σ Q) X.xe s
section
variable {X:Cx} {a b:Expr} {ta tb:TE} {pos:Pos}
def Ee{r:R2}(hr:Dw X r)(ha:PE X a ta)(hb:PE X b tb)(hs:lz b):PE X (.Subscript a b pos) (Du r ta tb):=by
 intro pins s σ H Q I h
 exact Subscript_ (Bx ha hb I h fun v u s2 x y H2 I2 rx ry q=>hr a b pins s2 σ H2 x y v u Q I2 rx ry q (hs _ _))
def F3(K:Vo):R2:=fun x y H Q=>∃p xs i v,x = .ref p/\y = .int i/\SqL K H p xs/\Ii xs i=some v/\Q v H
def F4(K:Vo):R2:=fun x y H Q=>∃p xs i v,x = .ref p/\y = .int i/\SqT K H p xs/\Ii xs i=some v/\Q v H
def F5:R2:=fun x y H Q=>∃z i c,x = .str z/\y = .int i/\z.length<=sizeLine/\Ii z.cps.toList i=some c/\Q (.str ⟨#[c]⟩) H
def sX:Dw X (F3 X.K):=by
 intro value slice pins s σ H x y v u Q I rx ry h hs
 obtain⟨p,xs,i,z,rfl,rfl,hq,he,q⟩:=h
 cases rx
 obtain⟨t,rfl⟩:=ry
 obtain⟨its,r,pl,hz⟩:=I.list hq
 obtain⟨j,h1,h2,h3,h4,h5⟩:=ox he
 obtain⟨w,ew,rw'⟩:=r.get h2
 have hl:=r.length
 have hn:=j5
 have fin:EP X pins σ Q w s:=⟨z,H,I,rw',q⟩
 by_cases h0:0<=i
 ·have hj:i.toNat=j:=by
   rw[seqIndex_of h0 h5]at h1
   exact Tz h1
  exact item_listR pl.isList h0 (by omega) (by rw[hj];simpa using ew) fin hs
 ·have hj:(i+(its.toArray.size:Int)).toNat=j:=by
   rw[seqIndex_neg (by omega) h4]at h1
   rw[Sy,<-hl]
   exact Tz h1
  exact subscriptTail_builtinR (x:=w) pl.isList.typeIs slot_list_getitem.lookup
   (wpAny_getItem_list_neg (Q:=fun r s'=>r=w/\EP X pins σ Q r s') pl.isList (by omega) (by rw[Sy]<;>omega) (by omega) (by rw[hj];simpa using ew) ⟨rfl,fin⟩) hs
def BP:Dw X (F4 X.K):=by
 intro value slice pins s σ H x y v u Q I rx ry h hs
 obtain⟨p,xs,i,z,rfl,rfl,hq,he,q⟩:=h
 cases rx
 obtain⟨t,rfl⟩:=ry
 obtain⟨its,r,pl,hz⟩:=I.tuple hq
 obtain⟨j,h1,h2,h3,h4,h5⟩:=ox he
 obtain⟨w,ew,rw'⟩:=r.get h2
 have hl:=r.length
 have hn:=j5
 have fin:EP X pins σ Q w s:=⟨z,H,I,rw',q⟩
 exact subscriptTail_builtinR (x:=w) pl.typeIs slot_tuple_getitem.lookup
  (getItem_tuple (j:=j) (Q:=fun r s'=>r=w/\EP X pins σ Q r s') pl (by omega) (by omega) (by rw[Sy,<-hl];exact h1) (by simpa using ew) ⟨rfl,fin⟩) hs
def BQ:Dw X F5:=by
 intro value slice pins s σ H x y v u Q I rx ry h hs
 obtain⟨z,i,c,rfl,rfl,hz,he,q⟩:=h
 obtain⟨t,rfl⟩:=rx
 obtain⟨t',rfl⟩:=ry
 obtain⟨j,h1,h2,h3,h4,h5⟩:=ox he
 have hl:z.cps.toList.length=z.length:=by simp[Str.length]
 rw[hl]at h1 h4 h5
 have hn:=j5
 exact tail_any (typeIs_str s z t) slot_str_getitem.lookup (getItem_str (c:=c) (by
  have e1:decide (i < -(2 ^ 63:Int))=false:=Tc (by omega)
  have e2:decide (i>=2 ^ 63)=false:=Tc (by omega)
  rw[e1,e2,Bool.or_false]) (by rw[h1];simpa using h2) ⟨.str ⟨#[c]⟩,H,I.tok _,⟨_,rfl⟩,q⟩) hs
def rN(its:Vv)(n j:Nat)(u:Value):Obj.mapSeq (·.setIfInBounds j u) { cls:=.type "list",data:=.seq its.toArray n }={ cls:=.type "list",data:=.seq (its.set j u).toArray n }:=by
 simp[Obj.mapSeq]
theorem Inv.lst{pins:Va}{σ:St}{H:Hp}{s:Shared}{p:Addr}{xs:List V}(I:Inv X pins σ H s)(h:H p=some (.lst xs)) :
  ∃(its:Vv) (n:Nat),Vals xs its/\s.heap.get? p=some { cls:=.type "list",data:=.seq its.toArray n }/\xs.length<=sizeLine:=by
 obtain⟨z,its,n,r,e⟩:=I.hok p _ h
 exact⟨its,n,r,e,z⟩
def Inv.Nt{pins:Va}{σ:St}{H:Hp}{s:Shared}{p:Addr}{xs ys:List V}{its its':Vv}{n n':Nat}{f:Obj->Obj}(I:Inv X pins σ H s)(h:H p=some (.lst xs))
  (ho:s.heap.get? p=some { cls:=.type "list",data:=.seq its.toArray n }) (hf:f { cls:=.type "list",data:=.seq its.toArray n }={ cls:=.type "list",data:=.seq its'.toArray n' }) (r:Vals ys its') (hz:ys.length<=sizeLine) (t:Nat) :
  Inv X pins σ (upd H p (.lst ys)) { s with heap:=s.heap.update p f,toks:=t }:=by
 have e:(s.heap.update p f).get? p=some { cls:=.type "list",data:=.seq its'.toArray n' }:=by
  rw[U9 f ho (by rw[hf]<;>rfl),hf]
 refine I.write (x:=p) (e:=p) (by rw[h];trivial) (.inl rfl) (fun b u hb q=>(Uy _ _ (UO hb)).trans q) ⟨_,e⟩ ?_
 exact⟨hz,its',n',r,e⟩
noncomputable def Ef:V->V->V->Hp->(Hp->Prop)->Prop:=fun o i v H Q=>∃p xs k j,o = .ref p/\i = .int k/\H p=some (.lst xs)/\rA xs.length k=some j/\Q (upd H p (.lst (xs.set j v)))
def vN:yH X Ef:=by
 intro pins s σ H o i v ov iv u Q I ro ri rv h
 obtain⟨p,xs,k,j,rfl,rfl,hp,hj,q⟩:=h
 cases ro
 obtain⟨t,rfl⟩:=ri
 obtain⟨its,n,r,ho,hz⟩:=I.lst hp
 obtain⟨h1,h2,h3,h4⟩:=sW hj
 have hl:=r.length
 have hn:=j5
 have I':Inv X pins σ (upd H p (.lst (xs.set j v))) { s with heap:=s.heap.update p (Obj.mapSeq (·.setIfInBounds j u)) }:=
  I.Nt hp ho (rN its n j u) (r.set rv j) (by rw[V0];exact hz) s.toks
 by_cases h0:0<=k
 ·have hk:k.toNat=j:=by
   rw[seqIndex_of h0 h4]at h1
   exact Tz h1
  exact PySem.W.ki_setAt ho h0 (by omega) (by rw[Sy,<-hl];exact h4) (by rw[hk];exact⟨_,I',q⟩)
 ·have hk:(k+(its.toArray.size:Int)).toNat=j:=by
   rw[seqIndex_neg (by omega) h3]at h1
   rw[Sy,<-hl]
   exact Tz h1
  exact PySem.W.ki_setBack ho (by omega) (by rw[Sy,<-hl];exact h3) (by omega) (by rw[hk];exact⟨_,I',q⟩)
def oy(lo hi:Option Int)(n:Nat):(sliceBounds lo hi none n).1=((HT.HL n 0 lo:Nat):Int)/\(sliceBounds lo hi none n).2.1=((HT.HL n n hi:Nat):Int)/\(sliceBounds lo hi none n).2.2=1:=by
 refine⟨?_,?_,rfl⟩
 ·cases lo with
  |none=>simp[sliceBounds,HT.HL]
  |some i=>
   simp only[sliceBounds,HT.HL,Option.getD_none,show(1:Int) > 0 by decide,TH]
   by_cases h:i < 0
   ·simp only[h,TH]<;>omega
   ·simp only[h,Tt]<;>omega
 ·cases hi with
  |none=>simp[sliceBounds,HT.HL]
  |some i=>
   simp only[sliceBounds,HT.HL,Option.getD_none,show(1:Int) > 0 by decide,TH]
   by_cases h:i < 0
   ·simp only[h,TH]<;>omega
   ·simp only[h,Tt]<;>omega
def m_(its:Vv)(lo hi:Option Int):slicePick its.toArray lo hi none=((its.drop (HT.HL its.length 0 lo)).take (HT.HL its.length its.length hi - HT.HL its.length 0 lo)).toArray:=by
 obtain⟨h1,h2,h3⟩:=oy lo hi its.toArray.size
 unfold slicePick
 rw[h1,h2,h3]
 simp only[sliceRange_one,pick_run,Sy]<;>rfl
noncomputable def F6(K:Vo):V->Option Int->Option Int->Hp->VK->Prop:=fun x lo hi H Q=>∃a xs,x = .ref a/\SqL K H a xs/\∀p,H p=none->Q (.ref p) (upd H p (.lst (lJ xs lo hi)))
def sY:Dv X (F6 X.K):=by
 intro pins s σ H x v vl vu lo hi sl Q I rx hs pl pu h
 obtain⟨a,xs,rfl,hx,q⟩:=h
 cases rx
 obtain⟨its,r,ht,hz⟩:=I.list hx
 have hlen:=r.length
 refine⟨"list",_,slot_list_getitem.lookup,ht.isList.typeIs,?_⟩
 refine wpAny_getItem_list_slice ht.isList hs pl pu .none (by simp) ?_ (by rw[Sy]<;>omega)
 rw[m_,<-hlen]
 refine⟨.ref s.heap.objs.size,_,I.laid (t':=s.toks) (o:=.lst (lJ xs lo hi)) (fun b ob q=>So _ q) (Ss _) ?_,rfl,q _ (I.hok.fresh (Ss _))⟩
 exact⟨Su (kS xs lo hi) hz,_,0,(r.drop (HT.HL xs.length 0 lo)).take (HT.HL xs.length xs.length hi - HT.HL xs.length 0 lo),SG _ rfl⟩
def oz:im X (compareOp .NotIn) (fun x y H Q=>∃i j,x = .str i/\y = .str j/\Q (.bl (!(!(Builtin.Str.occurrences j i 0 j.length 1).isEmpty))) H):=by
 intro pins s σ H x y v u Q I rx ry h
 obtain⟨i,j,rfl,rfl,q⟩:=h
 obtain⟨t,rfl⟩:=rx
 obtain⟨t',rfl⟩:=ry
 exact notIn_str ⟨.bl _,H,I,rfl,q⟩
def fE:er X (.builtin "len") (fun xs H Q=>∃p ys,xs=[.ref p]/\(SqL X.K H p ys\/SqT X.K H p ys)/\Q (.int ys.length) H):=by
 intro pins s σ H xs us Q I r h
 obtain⟨p,ys,rfl,hq,q⟩:=h
 obtain⟨u,rfl,rx⟩:=dR r
 cases rx
 have hn:=j5
 rcases hq with hq|hq
 ·obtain⟨its,r',pl,hz⟩:=I.list hq
  have hlen:=r'.length
  exact Calls.call_len_list pl.isList (by simp only[Sy]<;>omega) ⟨.int ys.length,H,I.tok _,⟨s.toks+1,by rw[Sy,hlen]⟩,q⟩
 ·obtain⟨its,r',pl,hz⟩:=I.tuple hq
  have hlen:=r'.length
  exact len_tuple pl (by simp only[Sy]<;>omega) ⟨.int ys.length,H,I.tok _,⟨s.toks+1,by rw[Sy,hlen]⟩,q⟩
def oA:er X (.builtin "len") (fun xs H Q=>∃z,xs=[.str z]/\z.length<=sizeLine/\Q (.int z.length) H):=by
 intro pins s σ H xs us Q I r h
 obtain⟨z,rfl,hz,q⟩:=h
 obtain⟨u,rfl,t,rfl⟩:=dR r
 have hn:=j5
 exact len_str (by omega) ⟨.int z.length,H,I.tok _,⟨_,rfl⟩,q⟩
def oB:er X (.type "list") (fun xs H Q=>∃p ys,xs=[.ref p]/\(SqL X.K H p ys\/SqT X.K H p ys)/\∀l,H l=none->Q (.ref l) (upd H l (.lst ys))):=by
 intro pins s σ H xs us Q I r h
 obtain⟨p,ys,rfl,hq,q⟩:=h
 obtain⟨u,rfl,rx⟩:=dR r
 cases rx
 have fin:∀(its:Vv),Vals ys its->ys.length<=sizeLine->∀(h':Heap) (c':Nat),(∀b o',s.heap.get? b=some o'->h'.get? b=some o')->
   h'.get? s.heap.objs.size=some { cls:=.type "list",dict:=none,data:=.seq its.toArray c',slots:=#[] }->EP X pins σ Q (.ref s.heap.objs.size) { s with heap:=h' }:=fun its r' hz h' c' kp e=>
  ⟨.ref s.heap.objs.size,_,I.laid (t':=s.toks) kp (Ss _) (show HH X.prog X.w _ h' _ (.lst ys)from ⟨hz,its,c',r',e⟩),rfl,q _ (I.hok.fresh (Ss _))⟩
 rcases hq with hq|hq
 ·obtain⟨its,r',pl,hz⟩:=I.list hq
  have hlen:=r'.length
  obtain⟨o,ho,hc,n,hd⟩:=pl.isList
  exact call_list_seq p (.inl rfl) ho hc hd (fun h' c' kp e=>fin its r' hz h' c' kp e) (by simp only[Sy]<;>omega)
 ·obtain⟨its,r',pl,hz⟩:=I.tuple hq
  have hlen:=r'.length
  obtain⟨o,ho,hc,n,hd⟩:=pl
  exact call_list_seq p (.inr rfl) ho hc hd (fun h' c' kp e=>fin its r' hz h' c' kp e) (by simp only[Sy]<;>omega)
def iA:er X (.type "tuple") (fun xs H Q=>∃p ys,xs=[.ref p]/\((SqL X.K H p ys/\∀l,H l=none->Q (.ref l) (upd H l (.tup ys)))\/(SqT X.K H p ys/\Q (.ref p) H))):=by
 intro pins s σ H xs us Q I r h
 obtain⟨p,ys,rfl,h⟩:=h
 obtain⟨u,rfl,rx⟩:=dR r
 cases rx
 rcases h with⟨hq,q⟩|⟨hq,q⟩
 ·obtain⟨its,r',pl,hz⟩:=I.list hq
  have hlen:=r'.length
  refine call_tuple_list pl.isList (fun h' kp=>?_) (by simp only[Sy]<;>omega)
  have I1:Inv X pins σ H { s with heap:=h' }:=I.kept (t':=s.toks) kp
  have I2:Inv X pins σ (upd H h'.objs.size (.tup ys)) { s with heap:=h'.push { cls:=.type "tuple",data:=.seq its.toArray } }:=
   I1.laid (t':=s.toks) (fun b o e=>So _ e) (Ss _) (show HH X.prog X.w _ _ _ (.tup ys)from ⟨hz,its,r',Ia.new _ _⟩)
  exact⟨.ref h'.objs.size,_,I2,rfl,q _ (I1.hok.fresh (Ss _))⟩
 ·obtain⟨its,r',pl,hz⟩:=I.tuple hq
  exact call_tuple_same pl ⟨.ref p,H,I,rfl,q⟩
def FB(K:Vo)(T:String)(x:V)(H:Hp):Prop:=match x with
 | .str _=>T = "str"
 | .int _=>T = "int"
 | .ref p=>(T = "list"/\∃xs,SqL K H p xs)\/(T = "tuple"/\∃o,K.lookup p=some o/\o.cls = .type "tuple"/\o.dict=none) \/
   (T = "dict"/\((∃kvs,H p=some (.dK kvs))\/∃kvs,H p=some (.dT kvs)))\/(T = "set"/\∃S n,H p=some (.set S n))
 |_=>False
def vO{pins:Va}{σ:St}{H:Hp}{s:Shared}{T:String}{x:V}{v:Value}(I:Inv X pins σ H s)(r:RelV x v)(ty:FB X.K T x H) :
  s.TypeIs v T/\∀a,v = .ref a->∃ob,s.heap.get? a=some ob/\ob.dict=none:=by
 cases x with
 |str z=>
  obtain⟨t,rfl⟩:=r
  cases (show T = "str" from ty)
  exact⟨typeIs_str s z t,fun _ e=>nomatch e⟩
 |int i=>
  obtain⟨t,rfl⟩:=r
  cases (show T = "int" from ty)
  exact⟨typeIs_int s i t,fun _ e=>nomatch e⟩
 |ref p=>
  cases r
  rcases ty with⟨rfl,xs,hq⟩|⟨rfl,o,hk,hc,hd⟩|⟨rfl,hk⟩|⟨rfl,S,n,hk⟩
  ·obtain⟨its,_,pl,_⟩:=I.list hq
   refine⟨pl.isList.typeIs,fun a e=>?_⟩
   cases e
   obtain⟨o,n,e,c,hd,_⟩:=pl
   exact⟨o,e,hd⟩
  ·refine⟨⟨o,I.Mp p o hk,hc⟩,fun a e=>?_⟩
   cases e
   exact⟨o,I.Mp _ o hk,hd⟩
  ·have z:∃o,s.heap.get? p=some o/\o.ExactDict:=by
    rcases hk with⟨kvs,hk⟩|⟨kvs,hk⟩
    ·obtain⟨_,_,_,_,o,_,_,e,ex,_⟩:=I.hok p _ hk
     exact⟨o,e,ex⟩
    ·obtain⟨_,_,_,_,o,_,_,e,ex,_⟩:=I.hok p _ hk
     exact⟨o,e,ex⟩
   obtain⟨o,e,ex⟩:=z
   refine⟨⟨o,e,ex.1⟩,fun a e2=>?_⟩
   cases e2
   exact⟨o,e,ex.2.1⟩
  ·obtain⟨o,_,_,_,e,ex,_⟩:=I.hok p _ hk
   refine⟨⟨o,e,ex.1⟩,fun a e2=>?_⟩
   cases e2
   exact⟨o,e,ex.2.1⟩
 |_=>exact False.elim ty
def F7(K:Vo)(T:String)(r:V->List V->Hp->VK->Prop)(to:TE):TE:=fun σ H Q=>to σ H fun x H1=>FB K T x H1/\r x [] H1 Q
def GV(K:Vo)(T:String)(r:V->List V->Hp->VK->Prop)(to:TE)(t:TA):TE:=fun σ H Q=>to σ H fun x H1=>FB K T x H1/\t σ H1 fun xs H2=>r x xs H2 Q
variable {o e:Expr} {es:List Expr} {to:TE} {t:TA} {name:Str} {apos cpos:Pos} {T id:String} {r:V->List V->Hp->VK->Prop}
def BR(pa:PlainAttrs T)(slot:Slot T name id)(hty:typeOf (.builtin id)=pure (.type "method_descriptor"))(hm:BO X id r)(ho:PE X o to)
  (hbase:attributeBase o name X.env (eval o X.env)=eval o X.env:=by rfl) (hline:(apos.endLine == cpos.line)=true:=by rfl):PE X (.Call (.Attribute o name apos) [] [] cpos) (F7 X.K T r to):=by
 intro pins s σ H Q I h
 refine wpAny_Call_method0_late hbase hline (Hj (ho pins s σ H _ I h) fun v s1 ⟨x,H1,I1,r1,ty,q1⟩=>?_)
 obtain⟨h1,h2⟩:=vO I1 r1 ty
 exact⟨T,id,pa,slot,hty,h1,h2,VC rfl (PySem.evalArgs_none (hm pins s1 σ H1 x [] v [] Q I1 r1 .nil q1))⟩
def Eg(pa:PlainAttrs T)(slot:Slot T name id)(hty:typeOf (.builtin id)=pure (.type "method_descriptor"))(hm:BO X id r)(ho:PE X o to)(ha:PA X (e::es) t)
  (hbase:attributeBase o name X.env (eval o X.env)=eval o X.env:=by rfl)
  (hfew:((backTo cpos (starEach (e::es) X.env)).all (fun x=>!x.1)&&(backToKw cpos (keywordEach [] X.env)).all (fun x=>x.1.isSome)
   && decide ((e::es).length+([]:List Keyword).length+(if ([]:List Keyword).isEmpty then 0 else 1) < 30))=true:=by rfl)
  (hline:(apos.endLine == cpos.line)=true:=by rfl) (hs:starEach (e::es) X.env=(false,eval e X.env)::starEach es X.env:=by rfl) (hplain:(backTo cpos (starEach es X.env)).any (·.1)=false:=by rfl) :
  PE X (.Call (.Attribute o name apos) (e::es) [] cpos) (GV X.K T r to t):=by
 intro pins s σ H Q I h
 refine wpAny_Call_method_late hbase hfew hline rfl (Hj (ho pins s σ H _ I h) fun v s1 ⟨x,H1,I1,r1,ty,q1⟩=>?_)
 obtain⟨h1,h2⟩:=vO I1 r1 ty
 refine⟨T,id,pa,slot,hty,h1,h2,?_⟩
 have hA:=ha cpos pins s1 σ H1 _ I1 q1
 rw[hs]at hA ⊢
 refine VC (by show(false || (backTo cpos (starEach es X.env)).any (·.1))=false;rw[hplain]<;>rfl) (Ww ?_)
 exact Hj hA fun us s2 ⟨vs,H2,I2,r2,q2⟩=>hm pins s2 σ H2 x vs v us Q I2 r1 r2 q2
end
def Eh(X:Cx)(id:String)(r:V->List V->Hp->VK->Prop):Prop:=
 ∀(pins:Va) (s:Shared) (σ:St) (H:Hp) (x:V) (xs:List V) (v:Value) (us:Vv) (Q:VK),Inv X pins σ H s->RelV x v->Vals xs us->r x xs H Q->
  wpAny (model X.prog X.w) X.A (call (.builtin id) (v::us)) (EP X pins σ Q) X.xe s
theorem Vals.one:∀{x:V} {us:Vv},Vals [x] us->∃u,us=[u]/\RelV x u
 |_,_,.cons r .nil=>⟨_,rfl,r⟩
theorem Vals.zero:∀{us:Vv},Vals [] us->us=[]
 |_,.nil=>rfl
theorem Vals.dropLast{xs:List V}{us:Vv}(h:Vals xs us):Vals xs.dropLast us.dropLast:=by
 induction h with
 |nil=>exact .nil
 |cons r t ih=>
  cases t with
  |nil=>exact .nil
  |cons q t'=>exact .cons r ih
theorem Vals.eraseIdx:∀{xs:List V} {us:Vv} (i:Nat),Vals xs us->Vals (xs.eraseIdx i) (us.eraseIdx i)
 |_,_,_,.nil=>.nil
 |_,_,0,.cons _ t=>t
 |_,_,i+1,.cons r t=>.cons r (Vals.eraseIdx i t)
theorem Vals.reverse{xs:List V}{us:Vv}(h:Vals xs us):Vals xs.reverse us.reverse:=by
 induction h with
 |nil=>exact .nil
 |cons r t ih=>rw[Wb,Wb];exact Vals.append ih (.cons r .nil)
theorem Vals.rep{xs:List V}{us:Vv}(h:Vals xs us):∀k:Nat,Vals (List.replicate k xs).flatten (List.replicate k us).flatten
 |0=>.nil
 |k+1=>by
  rw[Tw,Tw,UQ,UQ]
  exact Vals.append h (Vals.rep h k)
def rO{α:Type}(l:List α):l.eraseIdx (l.length - 1)=l.dropLast:=by
 induction l with
 |nil=>rfl
 |cons a r ih=>
  cases r with
  |nil=>rfl
  |cons b r=>
   have e:(a::b::r).length - 1=((b::r).length - 1)+1:=by
    have h1:(a::b::r).length=r.length+2:=rfl
    have h2:(b::r).length=r.length+1:=rfl
    omega
   rw[e,List.eraseIdx_cons_succ,ih]
   all_goals rfl
theorem nO{α:Type}:∀(l:List α) (i:Nat),(l.eraseIdx i).length<=l.length
 |[],_=>Ss _
 |_::_,0=>Nat.le_succ _
 |_::r,i+1=>Nat.succ_le_succ (nO r i)
theorem j6(its:Vv):∀(k:Nat) (acc:Vv),
  List.foldl (fun x1 x2=>x1++x2) acc.toArray (List.replicate k its.toArray)=(acc++(List.replicate k its).flatten).toArray
 |0,acc=>by simp
 |k+1,acc=>by
  have e:acc.toArray++its.toArray=(acc++its).toArray:=by simp
  have e2:(acc++its)++(List.replicate k its).flatten=acc++(List.replicate (k+1) its).flatten:=by
   rw[Tw,UQ,Uz]
  rw[<-e2,<-j6 its k (acc++its),<-e,Tw,List.foldl_cons]
section
variable {X:Cx} {pins:Va} {σ:St} {H:Hp} {s:Shared} {l b:Addr} {xs ys zs:List V}
def Inv.Mq{its its':Vv}{n:Nat}{f:Array Value->Array Value}{t':Nat}(I:Inv X pins σ H s)(hH:H l=some (.lst xs))
  (e:s.heap.get? l=some { cls:=.type "list",data:=.seq its.toArray n }) (hf:f its.toArray=its'.toArray) (hv:Vals ys its') (hz:ys.length<=sizeLine) :
  Inv X pins σ (upd H l (.lst ys)) { s with heap:=s.heap.update l (Obj.mapSeq f),toks:=t' }:=by
 have q:=PySem.IsL.update e f
 rw[hf]at q
 refine I.write (x:=l) (e:=l) (by rw[hH];exact trivial) (.inl rfl) (fun b' u hb hu=>(Uy s.heap (Obj.mapSeq f) (UO hb)).trans hu) ⟨_,q⟩ ?_
 exact⟨hz,its',_,hv,q⟩
def Inv.NW{its:Vv}{t':Nat}(I:Inv X pins σ H s)(hv:Vals ys its)(hz:ys.length<=sizeLine) :
  Inv X pins σ (upd H s.heap.objs.size (.lst ys)) { s with heap:=s.heap.push { cls:=.type "list",data:=.seq its.toArray },toks:=t' }:=
 I.laid (fun _ _ q=>So _ q) (Ss _) ⟨hz,its,0,hv,SG _ rfl⟩
theorem Inv.fresh(I:Inv X pins σ H s):H s.heap.objs.size=none:=I.hok.fresh (Ss _)
def Inv.KR(I:Inv X pins σ H s)(hH:H l=some (.lst xs)):xs.length<=sizeLine/\∃(its:Vv) (n:Nat),Vals xs its/\xs.length=its.length/\s.heap.get? l=some { cls:=.type "list",data:=.seq its.toArray n }:=by
 obtain⟨z,its,n,r,e⟩:=I.hok l _ hH
 exact⟨z,its,n,r,r.length,e⟩
def qg{n:Nat}(h:n<=sizeLine):Builtin.List.listTooLong n=false:=by
 unfold Builtin.List.listTooLong
 exact Tc (by omega)
end
section
variable {X:Cx}
noncomputable def yZ:V->List V->Hp->VK->Prop:=fun x vs H Q=>∃l xs y,x = .ref l/\vs=[y]/\H l=some (.lst xs)/\xs.length < sizeLine/\Q .non (upd H l (.lst (xs++[y])))
def uk:Eh X "list.append" yZ:=by
 intro pins s σ H x vs v us Q I rx rv h
 obtain⟨l,xs,y,rfl,rfl,hH,hz,q⟩:=h
 cases rx
 obtain⟨u,rfl,ru⟩:=rv.one
 obtain⟨z,its,n,r,hl,e⟩:=I.KR hH
 refine U6 F.slot_list_append ⟨_,e,rfl⟩ F.entry_list_append (F.args_list_append_2 _ _) (PySem.list_append l its.toArray n u (by rw[Sy];omega)) ⟨e,?_⟩
 refine⟨.non,_,I.Mq (its':=its++[u]) hH e (by simp) (r.append (.cons ru .nil)) ?_,rfl,q⟩
 rw[Sn,SK]
 omega
noncomputable def y3:V->List V->Hp->VK->Prop:=fun x vs H Q=>∃l b xs zs,x = .ref l/\vs=[.ref b]/\H l=some (.lst xs)/\H b=some (.lst zs)/\xs.length+zs.length<=sizeLine/\Q .non (upd H l (.lst (xs++zs)))
def ul:Eh X "list.extend" y3:=by
 intro pins s σ H x vs v us Q I rx rv h
 obtain⟨l,b,xs,zs,rfl,rfl,hH,hB,hz,q⟩:=h
 cases rx
 obtain⟨u,rfl,ru⟩:=rv.one
 cases ru
 obtain⟨z,its,n,r,hl,e⟩:=I.KR hH
 obtain⟨z2,its2,n2,r2,hl2,e2⟩:=I.KR hB
 have hsz:its.toArray.size+its2.toArray.size<=sizeLine:=by rw[Sy,Sy];omega
 have Mr:¬(!its.toArray.isEmpty&&Builtin.List.listTooLong (its.toArray.size+its2.toArray.size))=true:=by
  rw[qg hsz,Bool.and_false]
  exact Tn
 refine U6 F.slot_list_extend ⟨_,e,rfl⟩ F.entry_list_extend (F.args_list_extend_2 _ _)
  (AutoSeq1.list_extend_list_list_0 l its.toArray n b its2.toArray n2 Mr (by rw[Sy];omega) (by omega)) ⟨e,e2,?_⟩
 refine⟨.non,_,I.Mq (its':=its++its2) hH e (by simp) (r.append r2) ?_,rfl,q⟩
 rw[Sn]
 omega
noncomputable def F8:V->List V->Hp->VK->Prop:=fun x vs H Q=>∃l xs y,x = .ref l/\vs=[]/\H l=some (.lst xs)/\xs[xs.length - 1]?=some y/\Q y (upd H l (.lst xs.dropLast))
def BS:Eh X "list.pop" F8:=by
 intro pins s σ H x vs v us Q I rx rv h
 obtain⟨l,xs,y,rfl,rfl,hH,hy,q⟩:=h
 cases rx
 have Q4:=rv.zero
 subst Q4
 obtain⟨z,its,n,r,hl,e⟩:=I.KR hH
 obtain⟨u,hu,ru⟩:=r.get hy
 have hy':its.toArray[its.toArray.size - 1]?=some u:=by
  show its.toArray[its.length - 1]?=some u
  rw[<-Array.getElem?_toList,<-hl]
  exact hu
 refine U6 F.slot_list_pop ⟨_,e,rfl⟩ F.entry_list_pop (F.args_list_pop_1 _) (MeetsSeq.list_pop_last l its.toArray n u hy' (by rw[Sy];omega)) ⟨e,?_⟩
 refine⟨y,_,I.Mq (its':=its.dropLast) hH e ?_ r.dropLast ?_,ru,q⟩
 ·show its.toArray.eraseIdxIfInBounds (its.toArray.size - 1)=its.dropLast.toArray
  rw[Sy,Wj,rO]
 ·rw[List.length_dropLast]
  omega
noncomputable def BU:V->List V->Hp->VK->Prop:=fun x vs H Q=>∃l xs i k y,x = .ref l/\vs=[.int i]/\H l=some (.lst xs)/\-(2 ^ 63)<=i/\i < 2 ^ 63/\seqIndex? i xs.length=some k/\xs[k]?=some y/\Q y (upd H l (.lst (xs.eraseIdx k)))
def vP:Eh X "list.pop" BU:=by
 intro pins s σ H x vs v us Q I rx rv h
 obtain⟨l,xs,i,k,y,rfl,rfl,hH,h1,h2,hk,hy,q⟩:=h
 cases rx
 obtain⟨u,rfl,ru⟩:=rv.one
 obtain⟨t,rfl⟩:=ru
 obtain⟨z,its,n,r,hl,e⟩:=I.KR hH
 obtain⟨w,hw,rw'⟩:=r.get hy
 refine U6 F.slot_list_pop ⟨_,e,rfl⟩ F.entry_list_pop (F.args_list_pop_2 _ _)
  (MeetsSeq.list_pop_at l its.toArray n i t k w (fitsIndex_both h1 h2) (by rw[Sy,<-hl];exact hk) (by rw[<-Array.getElem?_toList];exact hw) (by rw[Sy];omega)) ⟨e,?_⟩
 refine⟨y,_,I.Mq (its':=its.eraseIdx k) hH e ?_ (r.eraseIdx k) ?_,rw',q⟩
 ·show its.toArray.eraseIdxIfInBounds k=(its.eraseIdx k).toArray
  rw[Wj]
 ·have:=nO xs k
  omega
def F9:R2:=fun x y H Q=>∃l b xs zs,x = .ref l/\y = .ref b/\H l=some (.lst xs)/\H b=some (.lst zs)/\xs.length+zs.length<=sizeLine/\∀p,H p=none->Q (.ref p) (upd H p (.lst (xs++zs)))
def BV:im X (binaryOp .Add) F9:=by
 intro pins s σ H x y v u Q I rx ry h
 obtain⟨l,b,xs,zs,rfl,rfl,hH,hB,hz,q⟩:=h
 cases rx
 cases ry
 obtain⟨z,its,n,r,hl,e⟩:=I.KR hH
 obtain⟨z2,its2,n2,r2,hl2,e2⟩:=I.KR hB
 refine PySem.P.add_list e e2 ?_ (by rw[Sy,Sy];omega)
 have ea:its.toArray++its2.toArray=(its++its2).toArray:=by simp
 rw[ea]
 exact⟨.ref _,_,I.NW (t':=s.toks) (r.append r2) (by rw[Sn];omega),rfl,q _ I.fresh⟩
def F_:R2:=fun x y H Q=>∃l k xs,x = .ref l/\y = .int k/\H l=some (.lst xs)/\-(2 ^ 63)<=k/\k < 2 ^ 63/\xs.length * k.toNat<=sizeLine/\
 ∀p,H p=none->Q (.ref p) (upd H p (.lst (List.replicate k.toNat xs).flatten))
def y7{α:Type}(xs:List α)(k:Nat):(List.replicate k xs).flatten.length=k * xs.length:=by
 induction k with
 |zero=>simp
 |succ k ih=>rw[Tw,UQ,Sn,ih,WI,Nat.add_comm]
def BW:im X (binaryOp .Mult) F_:=by
 intro pins s σ H x y v u Q I rx ry h
 obtain⟨l,k,xs,rfl,rfl,hH,h1,h2,hz,q⟩:=h
 cases rx
 obtain⟨t,rfl⟩:=ry
 obtain⟨z,its,n,r,hl,e⟩:=I.KR hH
 have hlen:its.toArray.size * k.toNat<=sizeLine:=by rw[Sy,<-hl];exact hz
 have hcap:¬its.toArray.size * k.toNat > (2 ^ 63 - 1) / 8:=by
  have:(sizeLine:Nat)<=(2 ^ 63 - 1) / 8:=by decide
  omega
 have hfit:¬(!Builtin.List.listFitsIndex k)=true:=by
  rw[fitsIndex_both h1 h2]
  exact Tn
 have Mr:¬Builtin.List.listTooLong (its.toArray.size * k.toNat)=true:=by
  rw[qg hlen]
  exact Tn
 have hnew:List.foldl (fun x1 x2=>x1++x2) #[] (List.replicate (if its.toArray.isEmpty=true then 0 else k.toNat) its.toArray)=(List.replicate k.toNat its).flatten.toArray:=by
  have f0:∀m:Nat,List.foldl (fun x1 x2=>x1++x2) #[] (List.replicate m its.toArray)=(List.replicate m its).flatten.toArray:=fun m=>by
   have:=j6 its m []
   rw[Tq]at this
   exact this
  rw[f0]
  cases its with
  |nil=>simp
  |cons a r'=>rw[if_neg (by simp)]
 refine wpAny_binaryOp_repeat_ref (T:="list") (U:="int") (by decide) ⟨_,e,rfl⟩ (fun s'=>typeIs_int s' k t) noFill_list_mul F.fills_int_mul WB repeat_list F.slot_int_index.lookup
  (U6 WB (typeIs_int s k t) F.entry_int_rmul (F.args_int_rmul_2 _ _) (int___rmul___int_list k t l its.toArray n)
   ⟨e,rfl,⟨_,e,rfl⟩,U6 F.slot_list_mul ⟨_,e,rfl⟩ F.entry_list_mul (F.args_list_mul_2 _ _) (AutoListH.list___mul___list_int_3 l its.toArray n k t hfit hcap Mr) ⟨e,?_⟩⟩)
 rw[hnew]
 exact⟨.ref _,_,I.NW (t':=s.toks) (r.rep k.toNat) (by rw[y7,Nat.mul_comm];exact hz),rfl,q _ I.fresh⟩
end
section
variable {κ:Type} [DecidableEq κ]
noncomputable def iN(kvs:List (κ×V))(k:κ):Option V:=(kvs.find? fun kv=>decide (kv.1=k)).map (·.2)
noncomputable def gE(kvs:List (κ×V))(k:κ)(v:V):List (κ×V):=
 if (kvs.any fun kv=>decide (kv.1=k))=true then kvs.map (fun kv=>if kv.1=k then (kv.1,v) else kv) else kvs++[(k,v)]
def Ji{p:κ×V}{r:List (κ×V)}{k:κ}(e:p.1=k):iN (p::r) k=some p.2:=by simp[iN,List.find?_cons,e]
def Jj{p:κ×V}{r:List (κ×V)}{k:κ}(e:¬p.1=k):iN (p::r) k=iN r k:=by simp[iN,List.find?_cons,e]
theorem lK(k:κ):∀kvs:List (κ×V),(kvs.any fun kv=>decide (kv.1=k))=(iN kvs k).isSome
 |[]=>rfl
 |p::r=>by
  rw[VH]
  by_cases e:p.1=k
  ·simp only[Ji e,Tp e,Bool.true_or,Option.isSome_some]
  ·rw[Jj e,Tc e,Bool.false_or];exact lK k r
def gF(kvs:List (κ×V))(k:κ)(v:V):(gE kvs k v).length<=kvs.length+1:=by
 unfold gE
 split
 ·rw[Sm];omega
 ·rw[Sn,SN,Tj];omega
def RelO.Jk{o:Option V}{u:Option Value}(r:RelO o u):o.isSome=u.isSome:=by
 cases o with
 |none=>cases u with
  |none=>rfl
  |some _=>exact(show False from r).elim
 |some _=>cases u with
  |none=>exact(show False from r).elim
  |some _=>rfl
theorem RelO.getD{o:Option V}{u:Option Value}{d:V}{d':Value}(r:RelO o u)(rd:RelV d d'):RelV (o.getD d) (u.getD d'):=by
 cases o with
 |none=>cases u with
  |none=>exact rd
  |some _=>exact(show False from r).elim
 |some _=>cases u with
  |none=>exact(show False from r).elim
  |some _=>exact r
def KV.val{kvs:List (κ×V)}{vs:List (κ×Value)}(r:KV kvs vs)(k:κ):RelO (iN kvs k) (valueAt vs k):=by
 unfold KV at r
 induction r with
 |nil=>exact True.intro
 |@cons p q ps qs h t ih=>
  obtain⟨h1,h2⟩:=h
  by_cases e:p.1=k
  ·have e':q.1=k:=h1.symm.trans e
   have b:valueAt (q::qs) k=some q.2:=by simp[valueAt,List.find?_cons,e']
   rw[Ji e,b];exact h2
  ·have e':¬q.1=k:=fun z=>e (h1.trans z)
   have b:valueAt (q::qs) k=valueAt qs k:=by simp[valueAt,List.find?_cons,e']
   rw[Jj e,b];exact ih
theorem KV.any{kvs:List (κ×V)}{vs:List (κ×Value)}(r:KV kvs vs)(k:κ):(kvs.any fun kv=>decide (kv.1=k))=vs.any fun kv=>decide (kv.1=k):=by
 unfold KV at r
 induction r with
 |nil=>rfl
 |cons h t ih=>rw[VH,VH,ih,h.1]
def KV.repl{kvs:List (κ×V)}{vs:List (κ×Value)}(r:KV kvs vs)(k:κ){y:V}{u:Value}(ry:RelV y u) :
  KV (kvs.map fun kv=>if kv.1=k then (kv.1,y) else kv) (vs.map fun kv=>if kv.1=k then (kv.1,u) else kv):=by
 unfold KV at r ⊢
 induction r with
 |nil=>exact .nil
 |@cons p q ps qs h t ih=>
  rw[SH,SH]
  refine .cons ?_ ih
  obtain⟨h1,h2⟩:=h
  by_cases e:p.1=k
  ·rw[if_pos e,if_pos (h1.symm.trans e)];exact⟨h1,ry⟩
  ·rw[if_neg e,if_neg (fun z=>e (h1.trans z))];exact⟨h1,h2⟩
def KV.put{kvs:List (κ×V)}{vs:List (κ×Value)}(r:KV kvs vs)(k:κ){y:V}{u:Value}(ry:RelV y u):KV (gE kvs k y) (stored vs k u):=by
 unfold gE stored
 rw[r.any k]
 by_cases e:(vs.any fun kv=>decide (kv.1=k))=true
 ·rw[if_pos e,if_pos e];exact r.repl k ry
 ·rw[if_neg e,if_neg e];exact Paired.snoc r ⟨rfl,ry⟩
theorem KV.length{kvs:List (κ×V)}{vs:List (κ×Value)}(r:KV kvs vs):kvs.length=vs.length:=Paired.length r
end
def lL{P:Program}{w:World}{k:bI}{u:Value}(r:RelV (kV k) u):(bd P w).is k u=true:=by
 cases k with
 |inl i=>obtain⟨t,e⟩:=(show ∃t,u=Value.int i t from r);subst e;exact p8 P w i t
 |inr x=>obtain⟨t,e⟩:=(show ∃t,u=Value.str x t from r);subst e;exact p9 P w x t
theorem nP{P:Program}{w:World}:∀{ks:List bI} {us:Vv},Vals (ks.map kV) us->ItemsAre (bd P w) ks us
 |[],_,r=>by rw[Tu]at r;cases r;exact .nil
 |k::ks,_,r=>by
  rw[SH]at r
  cases r with
  |cons h t=>exact .cons (lL h) (nP t)
noncomputable abbrev KT(H:Hp):List (List bI×V)->List (List bI×Addr×Value)->Prop:=Paired fun p q=>p.1=q.1/\H q.2.1=some (.tup (p.1.map kV))/\RelV p.2 q.2.2
def KT.val{H:Hp}{kvs:List (List bI×V)}{xs:List (List bI×Addr×Value)}(r:KT H kvs xs)(k:List bI):RelO (iN kvs k) ((atKey xs k).map (·.2)):=by
 induction r with
 |nil=>exact True.intro
 |@cons p q ps qs h t ih=>
  obtain⟨h1,_,h2⟩:=h
  by_cases e:p.1=k
  ·have e':q.1=k:=h1.symm.trans e
   have b:atKey (q::qs) k=some q.2:=by simp[atKey,List.find?_cons,e']
   rw[Ji e,b];exact h2
  ·have e':¬q.1=k:=fun z=>e (h1.trans z)
   have b:atKey (q::qs) k=atKey qs k:=by simp[atKey,List.find?_cons,e']
   rw[Jj e,b];exact ih
def KT.repl{H:Hp}{kvs:List (List bI×V)}{xs:List (List bI×Addr×Value)}(r:KT H kvs xs)(k:List bI){y:V}{u:Value}(ry:RelV y u) :
  KT H (kvs.map fun kv=>if kv.1=k then (kv.1,y) else kv) (xs.map (putAt k u)):=by
 induction r with
 |nil=>exact .nil
 |@cons p q ps qs h t ih=>
  rw[SH,SH]
  refine .cons ?_ ih
  obtain⟨h1,h2,h3⟩:=h
  unfold putAt
  by_cases e:p.1=k
  ·rw[if_pos e,if_pos (h1.symm.trans e)];exact⟨h1,h2,ry⟩
  ·rw[if_neg e,if_neg (fun z=>e (h1.trans z))];exact⟨h1,h2,h3⟩
def KT.put{H:Hp}{kvs:List (List bI×V)}{xs:List (List bI×Addr×Value)}(r:KT H kvs xs)(k:List bI){b:Addr}{y:V}{u:Value}(hb:H b=some (.tup (k.map kV)))(ry:RelV y u) :
  KT H (gE kvs k y) (storedH xs k b u):=by
 have e:(kvs.any fun kv=>decide (kv.1=k))=(atKey xs k).isSome:=by
  rw[lK,(r.val k).Jk,WQ]
 unfold gE storedH
 rw[e]
 by_cases q:(atKey xs k).isSome=true
 ·rw[if_pos q,if_pos q];exact r.repl k ry
 ·rw[if_neg q,if_neg q];exact Paired.snoc r ⟨rfl,hb,ry⟩
def KT.keeps{H H':Hp}{kvs:List (List bI×V)}{xs:List (List bI×Addr×Value)}(r:KT H kvs xs)(ht:∀b ys,H b=some (.tup ys)->H' b=some (.tup ys)):KT H' kvs xs:=
 Paired.Nl r fun _ _ z=>⟨z.1,ht _ _ z.2.1,z.2.2⟩
section
variable {P:Program} {w:World} {H:Hp} {h:Heap} {a:Addr}
def AF{u:HO}(ok:JI P w H h)(e:Rd H a u):HH P w H h a u:=e.ok ok
def nQ{kvs:List (bI×V)}(ok:JI P w H h)(e:Rd H a (.dK kvs)):kvs.length<=sizeLine/\(a == sysModules)=false/\∃vs,KV kvs vs/\h.DictOf (bd P w) a vs:=
 show HH P w H h a (.dK kvs)from AF ok e
def AG{kvs:List (bI×V)}(ok:JI P w H h)(e:H a=some (.dK kvs)):kvs.length<=sizeLine/\(a == sysModules)=false/\∃vs,KV kvs vs/\h.DictOf (bd P w) a vs:=nQ ok (.inl e)
def eP{ks:List bI}(ok:JI P w H h)(e:H a=some (.tup (ks.map kV))):(tupleKind (bd P w)).is h ks a:=by
 obtain⟨_,its,r,o,h1,_,h2,n,h3⟩:=(show HH P w H h a (.tup (ks.map kV))from ok a _ e)
 exact⟨o,its.toArray,n,h1,h2,h3,by simpa using nP r⟩
def qh{kvs:List (List bI×V)}(ok:JI P w H h)(e:Rd H a (.dT kvs)):kvs.length<=sizeLine/\(a == sysModules)=false/\
  ∃xs,KT H kvs xs/\h.DictOfH (tupleKind (bd P w)) a xs:=by
 obtain⟨z,y,xs,r,o,es,ep,h1,h2,h3,h4,h5⟩:=(show HH P w H h a (.dT kvs)from AF ok e)
 refine⟨z,y,xs,r,o,es,ep,h1,h2,h3,h4,fun x hx=>?_,h5⟩
 have all:∀{l:List (List bI×V)} {m:List (List bI×Addr×Value)},KT H l m->∀x∈m,(tupleKind (bd P w)).is h x.1 x.2.1:=by
  intro l m q
  induction q with
  |nil=>intro x hx;exact nomatch hx
  |@cons p q ps qs hq t ih=>
   intro x hx
   rcases Sv.mp hx with e|hx
   ·subst e
    exact eP ok (by rw[<-hq.1];exact hq.2.1)
   ·exact ih x hx
 exact all r x hx
def Ei{kvs:List (List bI×V)}(ok:JI P w H h)(e:H a=some (.dT kvs)):kvs.length<=sizeLine/\(a == sysModules)=false/\
  ∃xs,KT H kvs xs/\h.DictOfH (tupleKind (bd P w)) a xs:=qh ok (.inl e)
end
def DGet(H:Hp)(a:Addr)(y:V)(r:Option V):Prop:=
 (∃kvs k,Rd H a (.dK kvs)/\y=kV k/\r=iN kvs k)\/∃kvs k b,Rd H a (.dT kvs)/\y = .ref b/\H b=some (.tup (k.map kV))/\r=iN kvs k
def Ms(H:Hp)(a:Addr)(y v:V)(H':Hp):Prop:=
 (∃kvs k,H a=some (.dK kvs)/\y=kV k/\kvs.length < sizeLine/\H'=upd H a (.dK (gE kvs k v))) \/
 ∃kvs k b,H a=some (.dT kvs)/\y = .ref b/\H b=some (.tup (k.map kV))/\kvs.length < sizeLine/\H'=upd H a (.dT (gE kvs k v))
theorem DGet.k{H:Hp}{a:Addr}{kvs:List (bI×V)}{k:bI}(e:H a=some (.dK kvs)):DGet H a (kV k) (iN kvs k):=.inl ⟨kvs,k,.inl e,rfl,rfl⟩
theorem Ms.k{H:Hp}{a:Addr}{kvs:List (bI×V)}{k:bI}{v:V}(e:H a=some (.dK kvs))(hl:kvs.length < sizeLine):Ms H a (kV k) v (upd H a (.dK (gE kvs k v))):=.inl ⟨kvs,k,e,rfl,hl,rfl⟩
section
variable {X:Cx} {pins:Va} {σ:St} {H:Hp} {s:Shared} {a:Addr} {y v:V} {u r:Value} {o:Option V} {A:Around} {E:Vq}
def Inv.big(I:Inv X pins σ H s):sysModules < s.heap.objs.size:=by
 have h:mainGlobals < s.heap.objs.size:=(I.mod.glob.keeps I.bk).lt
 exact VQ (by decide) h
def um{Q:Vq}(hu:A.units+1 < cLine)(I:Inv X pins σ H s)(g:DGet H a y (some v))(ry:RelV y u)(h:∀w' s',Inv X pins σ H s'->RelV v w'->Q w' s') :
  wpAny (model X.prog X.w) A (getItem (.ref a) u) Q E s:=by
 rcases g with⟨kvs,k,e,ey,l⟩|⟨kvs,k,b,e,ey,eb,l⟩
 ·subst ey
  obtain⟨z,hd,vs,rel,dd⟩:=nQ I.hok e
  obtain⟨w',hw,rw'⟩:=RelO.some_of (v:=v) (o:=valueAt vs k) (by rw[l];exact rel.val k)
  exact wpAny_getItem_of (lL ry) dd.mapOf hw (h w' _ (I.tok _) rw')
 ·subst ey
  cases (show u=Value.ref b from ry)
  obtain⟨z,hd,xs,rel,dd⟩:=qh I.hok e
  obtain⟨w',hw,rw'⟩:=RelO.some_of (v:=v) (o:=(atKey xs k).map (·.2)) (by rw[l];exact rel.val k)
  obtain⟨p,hp,hp2⟩:=To.mp hw
  refine wpAny_getItem_heap (V4 hu) (eP I.hok eb) dd hp ?_
  rw[hp2]
  exact h w' _ (I.tok _) rw'
def Ej{Q:Vq}(hu:A.units+1 < cLine)(I:Inv X pins σ H s)(g:DGet H a y o)(ry:RelV y u)(h:∀s',Inv X pins σ H s'->Q (.bool o.isSome) s') :
  wpAny (model X.prog X.w) A (compareOp .In u (.ref a)) Q E s:=by
 rcases g with⟨kvs,k,e,ey,l⟩|⟨kvs,k,b,e,ey,eb,l⟩
 ·subst ey
  obtain⟨z,hd,vs,rel,dd⟩:=nQ I.hok e
  refine wpAny_in_of (lL ry) hd dd.mapOf ?_
  rw[<-(rel.val k).Jk,<-l]
  exact h _ (I.tok _)
 ·subst ey
  cases (show u=Value.ref b from ry)
  obtain⟨z,hd,xs,rel,dd⟩:=qh I.hok e
  refine wpAny_in_heap (V4 hu) (eP I.hok eb) hd dd ?_
  have q:=(rel.val k).Jk
  rw[WQ]at q
  rw[<-q,<-l]
  exact h _ (I.tok _)
def sZ{Q:Vq}(hu:A.units+1 < cLine)(I:Inv X pins σ H s)(g:DGet H a y o)(ry:RelV y u)(h:∀s',Inv X pins σ H s'->Q (.bool (!o.isSome)) s') :
  wpAny (model X.prog X.w) A (compareOp .NotIn u (.ref a)) Q E s:=by
 rcases g with⟨kvs,k,e,ey,l⟩|⟨kvs,k,b,e,ey,eb,l⟩
 ·subst ey
  obtain⟨z,hd,vs,rel,dd⟩:=nQ I.hok e
  refine wpAny_notIn_of (lL ry) hd dd.mapOf ?_
  rw[<-(rel.val k).Jk,<-l]
  exact h _ (I.tok _)
 ·subst ey
  cases (show u=Value.ref b from ry)
  obtain⟨z,hd,xs,rel,dd⟩:=qh I.hok e
  refine wpAny_notIn_heap (V4 hu) (eP I.hok eb) hd dd ?_
  have q:=(rel.val k).Jk
  rw[WQ]at q
  rw[<-q,<-l]
  exact h _ (I.tok _)
def oC{h':Heap}{t':Nat}{ob:HO}(I:Inv X pins σ H s)(mu:DJ (H a))(hs:Heap.SameBut a s.heap h')(he:∃q,h'.get? a=some q)(new:HH X.prog X.w (upd H a ob) h' a ob) :
  Inv X pins σ (upd H a ob) { s with heap:=h',toks:=t' }:=
 I.write (x:=a) (e:=a) mu (.inl rfl) (fun b q hb z=>(hs.2 b hb).trans z) he new
def vQ{P:Program}{w:World}{H':Hp}{h':Heap}{kvs:List (bI×V)}{vs:List (bI×Value)}(z:kvs.length<=sizeLine)(hd:(a == sysModules)=false)(rel:KV kvs vs)(dd:h'.DictOf (bd P w) a vs) :
  HH P w H' h' a (.dK kvs):=⟨z,hd,vs,rel,dd⟩
def uo{H':Hp}{Q:Unit->Shared->Prop}(hu:A.units+1 < cLine)(I:Inv X pins σ H s)(g:Ms H a y v H')(ry:RelV y u)(rv:RelV v r)(h:∀s',Inv X pins σ H' s'->Q () s') :
  wpAny (model X.prog X.w) A (setItem (.ref a) u r) Q E s:=by
 rcases g with⟨kvs,k,e,ey,l,eH⟩|⟨kvs,k,b,e,ey,eb,l,eH⟩
 ·subst ey eH
  obtain⟨z,hd,vs,rel,dd⟩:=AG I.hok e
  have hz:vs.length<=sizeLine:=by rw[<-rel.length];exact z
  have hl:(gE kvs k v).length<=sizeLine:=by have:=gF kvs k v;omega
  refine wpAny_setItem_pairs (hsz:=hz) (lL ry) dd fun h' Nu hs=>h _ ?_
  have he:∃q,h'.get? a=some q:=let ⟨q,_,_,hq,_⟩:=Nu;⟨q,hq⟩
  exact oC I (by rw[e];exact True.intro) hs he (vQ hl hd (rel.put k rv) Nu)
 ·subst ey eH
  cases (show u=Value.ref b from ry)
  obtain⟨z,hd,xs,rel,dd⟩:=Ei I.hok e
  have hz:xs.length<=sizeLine:=by rw[<-Paired.length rel];exact z
  have hl:(gE kvs k v).length<=sizeLine:=by have:=gF kvs k v;omega
  refine wpAny_setItem_heap (hsz:=hz) (V4 hu) (eP I.hok eb) dd fun h' Nu hs=>h _ ?_
  obtain⟨q,es,ep,hq,h2,h3,h4,_,h5⟩:=Nu
  refine oC I (by rw[e];exact True.intro) hs ⟨q,hq⟩ ⟨hl,hd,_,(rel.put k eb rv).keeps fun c ys ec=>?_,q,es,ep,hq,h2,h3,h4,h5⟩
  rw[aI (DI ec e (fun z=>nomatch z))]
  exact ec
end
section
variable {X:Cx} {pins:Va} {σ:St} {H:Hp} {s:Shared} {a:Addr} {kvs:List (bI×V)} {k:bI} {u:Value} {A:Around} {E:Vq}
def Ek{Q:Vq}(I:Inv X pins σ H s)(e:Rd H a (.dK kvs))(h:∀t s',Inv X pins σ H s'->Q (.int kvs.length t) s'):wpAny (model X.prog X.w) A (call (.builtin "len") [.ref a]) Q E s:=by
 obtain⟨z,hd,vs,rel,dd⟩:=nQ I.hok e
 refine call_len_dict hd dd (by rw[<-rel.length];rw[sizeLine_eq]at z;omega) ?_
 rw[<-rel.length]
 exact h _ _ (I.tok _)
end
def qi{X:Cx}{pins:Va}{σ:St}{H:Hp}{s:Shared}{a:Addr}{y:V}{o:Option V}(I:Inv X pins σ H s)(g:DGet H a y o):s.TypeIs (.ref a) "dict":=by
 rcases g with⟨kvs,k,e,_,_⟩|⟨kvs,k,b,e,_,_,_⟩
 ·obtain⟨_,_,vs,_,dd⟩:=nQ I.hok e
  exact dd.typeIs
 ·obtain⟨_,_,xs,_,dd⟩:=qh I.hok e
  exact dd.typeIs
def vR{P:Program}{w:World}{H:Hp}(h:Heap)(hb:sysModules < h.objs.size):HH P w H (h.push { cls:=.type "dict",data:=.dict #[] }) h.objs.size (.dK []):=
 ⟨Tr _,WD.mpr (UO (Th hb)),[],.nil,Heap.DictOf.new h⟩
noncomputable def oD:List (TE×TE)->St->Hp->(List (V×V)->Hp->Prop)->Prop
 |[],_,H,Q=>Q [] H
 |(tk,tv)::r,σ,H,Q=>tk σ H fun x H1=>tv σ H1 fun y H2=>oD r σ H2 fun ps H3=>Q ((x,y)::ps) H3
noncomputable abbrev VV:List (V×V)->List (Value×Value)->Prop:=Paired fun p q=>RelV p.1 q.1/\RelV p.2 q.2
def El(X:Cx)(pos:Pos)(keys:List (Option Expr))(values:List Expr)(Kv:List (TE×TE)):Prop:=
 ∀(pins:Va) (s:Shared) (σ:St) (H:Hp) (Q:List (V×V)->Hp->Prop),Inv X pins σ H s->oD Kv σ H Q->
  wpAny (model X.prog X.w) X.A (evalPairs (pairTrees keys values X.env pos)) (fun vs s'=>∃ps H',Inv X pins σ H' s'/\VV ps vs/\Q ps H') X.xe s
def y8{X:Cx}{pos:Pos}:El X pos [] [] []:=fun pins s σ H Q I h=>pairTrees_nil_walk ⟨[],H,I,.nil,h⟩
def vS{X:Cx}{pos:Pos}{k v:Expr}{ks:List (Option Expr)}{vs:List Expr}{tk tv:TE}{Kv:List (TE×TE)}(hk:PE X k tk)(hv:PE X v tv)(hr:El X pos ks vs Kv) :
  El X pos (some k::ks) (v::vs) ((tk,tv)::Kv):=fun pins s σ H Q I h=>
 pairTrees_cons_walk (Hj (hk pins s σ H _ I h) fun u s1 ⟨x,H1,I1,rx,q1⟩=>Hj (hv pins s1 σ H1 _ I1 q1) fun w2 s2 ⟨y,H2,I2,ry,q2⟩=>
  Hj (hr pins s2 σ H2 _ I2 q2) fun ws s3 ⟨ps,H3,I3,rel,q3⟩=>⟨(x,y)::ps,H3,I3,.cons ⟨rx,ry⟩ rel,q3⟩)
noncomputable def j7(kvs more:List (bI×V)):List (bI×V):=more.foldl (fun acc kv=>gE acc kv.1 kv.2) kvs
def KV.merge:∀{more:List (bI×V)} {rs:List (bI×Value)} {kvs:List (bI×V)} {vs:List (bI×Value)},KV more rs->KV kvs vs->KV (j7 kvs more) (merged vs rs):=by
 intro more rs kvs vs r
 unfold KV at r
 induction r generalizing kvs vs with
 |nil=>intro q;exact q
 |@cons p q ps qs h t ih=>
  intro r0
  have e:KV (gE kvs p.1 p.2) (stored vs q.1 q.2):=by
   have:=r0.put p.1 h.2
   rw[<-h.1];exact this
  exact ih e
theorem iB:∀(more kvs:List (bI×V)),(j7 kvs more).length<=kvs.length+more.length
 |[],kvs=>by show kvs.length<=kvs.length+0;omega
 |p::r,kvs=>by
  have h1:=iB r (gE kvs p.1 p.2)
  have h2:=gF kvs p.1 p.2
  show(j7 (gE kvs p.1 p.2) r).length<=_
  rw[SN];omega
theorem lM{P:Program}{w:World}:∀{kvs:List (bI×V)} {ws:List (Value×Value)},VV (kvs.map fun kv=>(kV kv.1,kv.2)) ws->∃rs,Carries (bd P w) ws rs/\KV kvs rs
 |[],_,r=>by rw[Tu]at r;cases r;exact⟨[],True.intro,.nil⟩
 |p::kvs,_,r=>by
  rw[SH]at r
  cases r with
  |@cons a b as bs h t=>
   obtain⟨rs,c,q⟩:=lM (P:=P) (w:=w) t
   obtain⟨b1,b2⟩:=b
   exact⟨(p.1,b2)::rs,⟨lL h.1,rfl,c⟩,.cons ⟨rfl,h.2⟩ q⟩
def Em(Kv:List (TE×TE)):TE:=fun σ H Q=>∀p,H p=none->oD Kv σ (upd H p (.dK [])) fun ps H2=>H2 p=some (.dK [])/\∃kvs:List (bI×V),ps=kvs.map (fun kv=>(kV kv.1,kv.2))/\kvs.length<=15/\Q (.ref p) (upd H2 p (.dK (j7 [] kvs)))
def y9{X:Cx}{pos:Pos}{keys:List (Option Expr)}{values:List Expr}{Kv:List (TE×TE)}(h:El X pos keys values Kv)(hall:keys.all (·.isSome)=true)(hl:keys.length=values.length)(h0:keys≠[])
  (Pd:keys.length<=15):PE X (.Dict keys values pos) (Em Kv):=by
 intro pins s σ H Q I q
 have hn:=I.hok.fresh (Ss s.heap.objs.size)
 have I1:=I.laid (a:=s.heap.objs.size) (o:=.dK []) (h':=s.heap.push { cls:=.type "dict",data:=.dict #[] }) (t':=s.toks) (fun _ _ q=>So _ q) (Ss _) (vR s.heap I.big)
 refine wpAny_Dict_walk (knd:=bd X.prog X.w) hall hl h0 Pd (Hj (h pins _ σ _ _ I1 (q _ hn)) fun ws s2 ⟨ps,H2,I2,rel,e,kvs,ep,lk,q2⟩=>?_)
 subst ep
 obtain⟨rs,c,rk⟩:=lM (P:=X.prog) (w:=X.w) rel
 obtain⟨z,hd,vs0,r0,dd⟩:=AG I2.hok e
 cases r0
 refine⟨rs,c,dd,fun h' Nu hs=>⟨.ref s.heap.objs.size,_,?_,rfl,q2⟩⟩
 have hz:(j7 [] kvs).length<=sizeLine:=by
  have h1:=iB kvs []
  rw[Tj]at h1
  rw[sizeLine_eq];omega
 have he:∃q,h'.get? s.heap.objs.size=some q:=let ⟨q,_,_,hq,_⟩:=Nu;⟨q,hq⟩
 exact oC I2 (by rw[e];exact True.intro) hs he (vQ hz hd (rk.merge .nil) Nu)
structure M2 (X:Cx) (o:Expr) (m:Str) (apos:Pos) (e f:Expr) (cpos:Pos):Prop where
 base:attributeBase o m X.env (eval o X.env)=eval o X.env
 few:((backTo cpos (starEach [e,f] X.env)).all (fun x=>!x.1)&&(backToKw cpos (keywordEach [] X.env)).all (fun x=>x.1.isSome)
  && decide (([e,f]:List Expr).length+([]:List Keyword).length+(if ([]:List Keyword).isEmpty then 0 else 1) < 30))=true
 line:(apos.endLine == cpos.line)=true
 trees:backTo cpos (starEach [e,f] X.env)=[(false,eval e X.env),(false,eval f X.env)]
end L2
namespace Att
open PySem PySem.W PySem.Calls PyProof.Rows
def lr{P:Params}{h:Heap}:∀(ns:Vu) (vs:Vv),WellAll P h vs (ns.map WData.int)->IntsAre vs ns:=by
 intro ns
 induction ns with
 |nil=>
  intro vs w
  rw[Tu]at w
  cases w
  exact .nil
 |cons n ns ih=>
  intro vs w
  rw[SH]at w
  cases w with
  |cons a b=>
   cases a
   exact .cons _ _ (ih _ b)
def uq{l:OpenLaw}{n:Nat}(hn:l.most=some n){P:Params}{h:Heap}{args:List WData}{vals:Vv}
  (hpre:l.row.toRowW.claim.pre args=true) (hwl:WellAll P h vals args) :
  ∃a vs ns,vals=[Value.ref a]/\args=[WData.list (ns.map WData.int)]/\h.get? a=some { cls:=.type "list",data:=.seq vs.toArray }/\IntsAre vs ns/\ns.length<=n:=by
 have hsh:WShape.hasAll [] args [.list .int]=true:=(pre_splitW hpre).1
 have hc:l.pre.holds [] { args:=args }=true:=(pre_splitW hpre).2
 obtain⟨d,r,rfl,h1,h2⟩:=hasAllW_cons hsh
 obtain rfl:=hasAllW_nil h2
 obtain⟨xs,rfl,h3⟩:=hasW_list h1
 obtain⟨ns,rfl⟩:=items_int h3
 have hlen:ns.length<=n:=by
  unfold OpenLaw.pre at hc
  have h4:(WTm.not (.lt (.lit (.int (n:Int))) (.len (.arg 0)))).holds [] { args:=[.list (ns.map .int)] }=true:=by
   have h4:=(holds_andW hc).1
   rw[hn]at h4
   exact h4
  have h5:=condW_of h4 (w_not (w_lt w_lit (w_len_list (w_arg rfl))))
  rw[Sm]at h5
  refine Nat.le_of_not_lt fun q=>?_
  have q':(n:Int) < ((ns.length:Nat):Int):=by omega
  first
   |(rw[Tp q']at h5;exact absurd h5 (by decide))
   |(simp at h5;omega)
 cases hwl with
 |cons w1 w2=>
  cases w2
  cases w1 with
  |list ho hall=>exact⟨_,_,ns,rfl,rfl,ho,lr ns _ hall,hlen⟩
def ur(l:OpenLaw)(args:List WData):l.row.toRowW.claim.post args (.bool true) args=true:=
 postW_of (r:=l.row.toRowW) (X:=(true == true))
  (show WShape.has [] (.bool true) .bool=true by first|rfl|decide|simp[WShape.has,WShape.arms,WShape.armsAll])
  (show(WTm.eq .res (.lit (.bool true))).value [] { args:=args,res:=some (.bool true),after:=args }=some (.bool (true == true))from w_eq_bool (w_res rfl) w_lit) rfl
def qj{l:OpenLaw}{n:Nat}{q:Program}{loose:Vs}{XP:(Vr)->Heap->Prop}{YP:World->Heap->Prop}{d:DefRec}
  (hn:l.most=some n) (hdf:d.params.defaults=[])
  (call:∀(w:World) (s₀ s₁:Shared) (mg mb:Vr) (fa:Addr) (o:Obj) (pm cd doc:Value) (a:Addr) (vs:Vv) (ns:Vu),
   Ground q loose [] XP w s₀ mg mb s₁.heap->YP w s₁.heap->
   s₁.heap.get? fa=some o->o.data = .func (docDef d.name d.params d.body d.scope pm cd doc)->s₁.heap.CodeRec cd d.name->mg d.name=some (.ref fa)->
   s₁.heap.get? a=some { cls:=.type "list",data:=.seq vs.toArray }->IntsAre vs ns->ns.length<=n->s₁.gens=#[]->
   codeAny (model l.prog w) callerA (.call (.ref fa) ⟨[.ref a],[]⟩) (fun r s'=>r = .ok (.ret (.bool true))/\OldK s₁.heap s'.heap/\s'.os=s₁.os/\AllBare s'.gens) s₁) :
  WalkO q loose XP YP l.row.toRowW d [] (fun f vs=>PySem.call f vs):=by
 intro w s₀ s₁ mg mb G Y fa o pm cd doc dV kV ho hd hcd hD hmg hg args vals as hpre hlay hrd hwl hlo
 obtain rfl:dV = .none:=Dflts.none hD hdf
 obtain rfl:kV = .none:=Dflts.noKw hD
 obtain⟨a,vs,ns,rfl,rfl,hobj,hints,hlen⟩:=uq hn hpre hwl
 refine enter_call (codeAny_mono (call w s₀ s₁ mg mb fa o pm cd doc a vs ns G Y ho (fd_plain hd) hcd hmg hobj hints hlen hg) fun r s' hq=>?_)
 obtain⟨rfl,h2,h3,h4⟩:=hq
 exact⟨.inl ⟨.bool true,.bool true,[],rfl,fun _=>rfl,.bool true,ur l _,fun _=>⟨List.Pairwise.nil,fun _ hm=>(nomatch hm)⟩⟩,h2,h3,h4⟩
end Att
namespace L2
open PySem PySem.Spec PyProof.Rows
theorem nR:∀{vs:Vv} {ns:Vu},IntsAre vs ns->Vals (ns.map V.int) vs
 |_,_,.nil=>.nil
 |_,_,.cons n t h=>.cons ⟨t,rfl⟩ (nR h)
def y_(H:Hp):Prop:=∀b,H b=none\/∃o xs,H b=some (.frz o (.lst xs))
def vT{P:Program}{w:World}{K:Vo}{mg mb:Vr}{CX:vI}{k:Nat}{fa a:Addr}{fd:FuncData}{x:Str}{sp:Sp}{s₁:Shared}{vs:Vv}{ns:Vu}
  (KX:K.In s₁.heap) (hns:s₁.heap.Ns mainGlobals mg) (hb:s₁.heap.Ns builtinsNs mb) (Q5:∀x:Str,x ≠ "__name__"->mb x=bootBuiltins x) (hlim:s₁.heap.NoLimit) (hg:s₁.gens=#[])
  (ha:s₁.heap.get? a=some { cls:=.type "list",data:=.seq vs.toArray }) (hi:IntsAre vs ns) (hl:ns.length<=sizeLine) (hr:Room k callerA)
  (F:∀base:Heap,K.In base->base.Ns mainGlobals mg->m9 P w K mg base CX k fa fd [x] sp) (hbind:∀(s:Shared) (u:Value),BindsTo s fd ⟨[u],[]⟩ [(x,u)])
  (ML:∀H:Hp,y_ H->SqL K H a (ns.map V.int)->sp [.ref a] H (fun v _=>v = .bl true) fun _ _ _=>False)
  (Pe:∀H e s',CX [] H s₁ (fun _ _ _=>False) e s'->False) :
  codeAny (model P w) callerA (.call (.ref fa) ⟨[.ref a],[]⟩) (fun r s'=>r = .ok (.ret (.bool true))/\OldK s₁.heap s'.heap/\s'.os=s₁.os/\AllBare s'.gens) s₁:=by
 have rv:=nR hi
 have Pf:=hi.length
 -- from an abstract heap in which nothing but the script may be tracked
 have core:∀H:Hp,y_ H->SqL K H a (ns.map V.int)->JI P w H s₁.heap->(∀b,H b≠none->b=a)->(H a≠none->K.lookup a=none)->
   codeAny (model P w) callerA (.call (.ref fa) ⟨[.ref a],[]⟩) (fun r s'=>r = .ok (.ret (.bool true))/\OldK s₁.heap s'.heap/\s'.os=s₁.os/\AllBare s'.gens) s₁:=by
  intro H hO hS hok hA hK
  have L7:∀{b:Addr} {o:Obj},s₁.heap.get? b=some o->H b=none->(ow s₁.heap H).get? b=some o:=fun e n=>vv e n
  have NV:∀{b:Addr} {o:Obj} {es:Array DictEntry} {ep:Nat},s₁.heap.get? b=some o->o.data = .dict es ep->H b=none:=fun{b o es ep} e d=>by
   cases q:H b with
   |none=>rfl
   |some u=>
    have e':b=a:=hA b (by rw[q];simp)
    subst e'
    rw[ha]at e;cases e
    have d':Data.seq vs.toArray _=Data.dict es ep:=d
    cases d'
  have Ot:∀{b:Addr} {m:Vr},s₁.heap.Ns b m->(ow s₁.heap H).Ns b m:=fun{b m} ⟨o,es,ep,e,d,r⟩=>⟨o,es,ep,L7 e (NV e d),d,r⟩
  have Qk:K.In (ow s₁.heap H):=fun b o e=>L7 (KX b o e) (by
   cases q:H b with
   |none=>rfl
   |some u=>
    have e':b=a:=hA b (by rw[q];simp)
    subst e'
    rw[hK (by rw[q];simp)]at e;cases e)
  have hM:Mod K mg (ow s₁.heap H):=⟨Qk,Ot hns,⟨mb,Ot hb,Q5⟩,let ⟨mc,h1,h2⟩:=hlim;⟨mc,Ot h1,h2⟩⟩
  have e0:yR P w K mg (ow s₁.heap H) callerA [] s₁ H:=⟨rfl,hM,fun b o e=>yB e,WY (ua _ _),trivial,fun b hb=>absurd (show b∈([]:List Addr)from hb) (by simp),hok,.of_eq hg⟩
  refine codeAny_mono ((F _ Qk (Ot hns)).run callerA [] s₁ H ⟨[.ref a],[]⟩ [.ref a] [.ref a] _ _ hr e0 (hbind s₁ (.ref a)) (.cons rfl .nil) (ML H hO hS)) fun r s' h=>?_
  cases r with
  |error e=>exact(Pe H e s' h).elim
  |ok fl=>
   cases fl with
   |next=>exact False.elim h
   |brk=>exact False.elim h
   |cont=>exact False.elim h
   |ret u=>
    obtain⟨v,H',os,bare,un,Pg,r',q⟩:=h
    have q':v = .bl true:=q
    subst q'
    obtain rfl:u=Value.bool true:=r'
    refine⟨rfl,OldK.of_keep fun b o e=>?_,os,bare⟩
    cases q:H b with
    |none=>exact un.keep b o e q (by intro z;exact absurd (show b∈([]:List Addr)from z) (by simp)) (by simp)
    |some u=>
     rcases hO b with z|⟨ob,xs,z⟩
     ·rw[q]at z;cases z
     ·have z2:=un.KP b ob _ z
      obtain⟨e1,_⟩:=hok b _ z
      obtain⟨e2,_⟩:=Pg b _ z2
      rw[e]at e1;cases e1
      exact e2
 cases hk:K.lookup a with
 |some o=>
  -- the script is one of the module's own objects
  have e:=KX a o hk
  rw[ha]at e
  cases e
  refine core (fun _=>none) (fun _=>.inl rfl) (.inr ⟨_,vs.toArray,_,hk,rfl,rfl,rfl,by rw[Sy,Pf];exact hl,by simpa using rv⟩) (fun b u z=>by have z':(none:Option HO)=some u:=z;cases z') (fun b z=>absurd rfl z) fun z=>absurd rfl z
 |none=>
  refine core (fun b=>if b=a then some (.frz { cls:=.type "list",data:=.seq vs.toArray } (.lst (ns.map V.int))) else none) (fun b=>?_) (.inl (.inr ⟨{ cls:=.type "list",data:=.seq vs.toArray },if_pos rfl⟩)) (fun b u z=>?_) (fun b z=>?_) fun _=>hk
  ·by_cases hb:b=a
   ·exact .inr ⟨_,_,if_pos hb⟩
   ·exact .inl (if_neg hb)
  ·by_cases hb:b=a
   ·have z':=(if_pos hb).symm.trans z
    cases z'
    subst hb
    exact⟨ha,by rw[Sm];exact hl,vs,_,rv,ha⟩
   ·have z':=(if_neg hb).symm.trans z
    cases z'
  ·by_cases hb:b=a
   ·exact hb
   ·exact absurd (if_neg hb) z
def zb{l:PySem.W.OpenLaw}{n k:Nat}{q:Program}{loose:Vs}{XP:(Vr)->Heap->Prop}{YP:World->Heap->Prop}{d:DefRec}{K:Params->PySem.W.Frag}{CX:World->vI}{sp:World->Sp}{x:Str}
  (hn:l.most=some n) (hn2:n<=sizeLine) (hdf:d.params.defaults=[]) (hr:Room k callerA)
  (hY:∀(w:World) (h:Heap),YP w h->(K w.params).In h)
  (F:∀(w:World) (mg:Vr) (fa:Addr) (h:Heap),(K w.params).In h->h.Ns mainGlobals mg->mg d.name=some (.ref fa)->
   ∃fd:FuncData,(∀(s:Shared) (u:Value),BindsTo s fd ⟨[u],[]⟩ [(x,u)])/\
    ∀base:Heap,(K w.params).In base->base.Ns mainGlobals mg->m9 l.prog w (K w.params) mg base (CX w) k fa fd [x] (sp w))
  (ML:∀(w:World) (H:Hp) (a:Addr) (ns:Vu),ns.length<=n->y_ H->SqL (K w.params) H a (ns.map V.int)->sp w [.ref a] H (fun v _=>v = .bl true) fun _ _ _=>False)
  (Pe:∀(w:World) (H:Hp) (s:Shared) (e:Value) (s':Shared),CX w [] H s (fun _ _ _=>False) e s'->False) :
  PySem.W.WalkO q loose XP YP l.row.toRowW d [] (fun f vs=>PySem.call f vs):=by
 refine Att.qj hn hdf fun w s₀ s₁ mg mb fa o pm cd doc a vs ns G Y ho hd hcd hmg hobj hints hlen hg=>?_
 have KX:=hY w _ Y
 obtain⟨fd,hb,hF⟩:=F w mg fa _ KX G.T.g hmg
 exact vT KX G.T.g G.T.b G.T.builtins G.T.nolimit hg hobj hints (Su hlen hn2) hr hF hb (fun H hO hS=>ML w H a ns hlen hO hS) fun H e s'=>Pe w H s₁ e s'
noncomputable def b_(s:Stmt):Arguments:=match s with
 | .FunctionDef _ a _ _ _ _ _ _ _ _=>a
 |_=>{ posonlyargs:=[],args:=[],vararg:=none,kwonlyargs:=[],kw_defaults:=[],kwarg:=none,defaults:=[] }
noncomputable def bi(s:Stmt):List Stmt:=match s with
 | .FunctionDef _ _ b _ _ _ _ _ _ _=>b
 |_=>[]
noncomputable def aG(s:Stmt):Scope:=match s with
 | .FunctionDef _ _ _ _ _ _ sc _ _ _=>sc
 |_=>{ kind:=.function,names:=[],isGenerator:=false,isCoroutine:=false }
noncomputable abbrev yz:vI:=fun _ _ _ _ _ _=>False
noncomputable abbrev E0:XK:=fun _ _ _=>False
def AH{X:Cx}:rJ yz X E0:=fun _ _ _ _ _ _ _ h=>h.elim
structure M8 (K:Vo) (x qual:Str) (st:Stmt) (f:Addr) (fd:FuncData):Prop where
 ex:∃(oc:Value) (od:Option Addr) (kV doc pm:Value) (an:Option Addr) (cdv ct:Value) (osl:Array (Option Value)),
  fd=PySem.W.fnOf x qual (b_ st) (bi st) (aG st) .none kV doc pm an cdv ct/\K.lookup f=some ⟨oc,od,.func fd,osl⟩/\PySem.W.codeIn K cdv qual=true
 kp:PySem.W.keepIn K (.ref f)=true
section
variable {P:Program} {w:World} {K:Vo} {mg:Vr} {base:Heap}
def M8.ok{x qual:Str}{st:Stmt}{f:Addr}{fd:FuncData}{N ps:Vs}{k:Nat}{sp:Sp}(F:M8 K x qual st f fd)(S:dL N ps (aG st))(len:∀vs H Q E,sp vs H Q E->vs.length=ps.length)
  (hbody:∀(cdv:Value) (A:Around) (outer:List Env) (s:Shared) (H:Hp) (vs:List V) (Q:VK) (E:XK),Room k (A.deeper (envOfC qual (aG st) s.heap.objs.size f cdv))->sp vs H Q E->
   ∃t,Lp (qe yz P w K mg base N qual (aG st) f cdv A outer s H E).Np (bi st) t/\t { nx:=fun _ H'=>Q .non H',rt:=Q } (gy N vs) H):m9 P w K mg base yz (k+1) f fd ps sp:=by
 obtain⟨oc,od,kV,doc,pm,an,cdv,ct,osl,rfl,lk,hcd⟩:=F.ex
 refine AE lk hcd S len fun A outer s H vs Q E hr ML=>?_
 obtain⟨t,h,q⟩:=hbody cdv A outer s H vs Q E hr ML
 exact⟨t,h.Np,q⟩
def M8.binds{x qual:Str}{st:Stmt}{f:Addr}{fd:FuncData}{ps:Vs}(F:M8 K x qual st f fd)
  (h:∀(kV doc pm:Value) (an:Option Addr) (cdv ct:Value) (us:Vv),us.length=ps.length->bindArgs (PySem.W.fnOf x qual (b_ st) (bi st) (aG st) .none kV doc pm an cdv ct) ⟨us,[]⟩=pure (ps.zip us)):Binds K fd ps []:=by
 obtain⟨oc,od,kV,doc,pm,an,cdv,ct,osl,rfl,lk,hcd⟩:=F.ex
 exact .all (h kV doc pm an cdv ct)
def oE{x qual:Str}{st:Stmt}{f:Addr}{oc:Value}{od an:Option Addr}{osl:Array (Option Value)}{kV doc pm cdv ct:Value}(l:K.lookup f=some ⟨oc,od,.func (PySem.W.fnOf x qual (b_ st) (bi st) (aG st) .none kV doc pm an cdv ct),osl⟩)
  (c:PySem.W.codeIn K cdv qual=true) (k:PySem.W.keepIn K (.ref f)=true):M8 K x qual st f (PySem.W.fnOf x qual (b_ st) (bi st) (aG st) .none kV doc pm an cdv ct):=⟨⟨oc,od,kV,doc,pm,an,cdv,ct,osl,rfl,l,c⟩,k⟩
end
def fc{n:Nat}(h:n<=1000):n < sizeLine:=Tf h (by decide)
section
variable {X:Cx}
def ut:er X (.builtin "len") (fun xs H Q=>∃a kvs,xs=[V.ref a]/\H a=some (.dK kvs)/\Q (.int kvs.length) H):=by
 intro pins s σ H xs us Q I r h
 obtain⟨a,kvs,rfl,ha,q⟩:=h
 obtain⟨u,rfl,ru⟩:=dR r
 cases ru
 exact Ek I (.inl ha) fun t s' I'=>⟨.int kvs.length,H,I',⟨t,rfl⟩,q⟩
end
end L2
set_option maxHeartbeats 4000000
namespace L2
open PySem PySem.Spec PyProof.Rows
def oF{prog:Program}{w:World}{A:Around}{R:Result->Shared->Prop}{s:Shared}{elt target iter:Expr}{ifs:List Expr}{scope:Scope}{pos:Pos}{it acc:Value}{env:Env}(I:Nat->Shared->Prop)
  (turn:∀n s,I n s->wpAny (model prog w) A (pyNext it) (fun r s₁=>match r with
   |none=>R (.ok .next) s₁
   |some v=>wpAny (model prog w) A (letOwnedTupleGo target it v) (fun _ s₁'=>wpAny (model prog w) A (assign target env v) (fun _ s₂=>
     wpAny (model prog w) A (forIn ifs true fun c r=>if r=true then do let ok <-isTrue c env (eval c env);pure (ForInStep.yield ok) else pure (ForInStep.yield r)) (fun ok s₃=>
      if ok=true then wpAny (model prog w) A (eval elt env) (fun x s₄=>
       wpAny (model prog w) A (call (.builtin "list.append") [acc,x]) (fun _ s₅=>∃m,m < n/\I m s₅) (fun _ _=>False) s₄) (fun _ _=>False) s₃
      else ∃m,m < n/\I m s₃) (fun _ _=>False) s₂) (fun _ _=>False) s₁') (fun _ _=>False) s₁) (fun _ _=>False) s)
  (n:Nat) (h:I n s) :
  codeAny (model prog w) A (.compLoop (.ListComp elt [⟨target,iter,ifs,0⟩] scope pos) 0 it acc env) R s:=by
 refine codeAny_loop rfl I (fun n s hI=>?_) n h
 show wpAny _ A ((compTurn (.ListComp elt [⟨target,iter,ifs,0⟩] scope pos) 0 it acc env).onRaise (fun x=>do noteFrame x env;theTreesLotGoes x)) _ _ s
 refine wpAny_noted ?_
 rw[compTurn_list]
 refine Sl (Ws (Sl (Vj (turn n s hI) (fun r s₁ h₁=>?_) fun _ _ h'=>h'.elim)))
 cases r with
 |none=>exact Sx h₁
 |some v=>
  refine Sl (Vj h₁ (fun _ s₁' h₁'=>?_) fun _ _ h'=>h'.elim)
  refine Sl (Vj h₁' (fun _ s₂ h₂=>Sl (Vj h₂ (fun ok s₃ h₃=>?_) fun _ _ h'=>h'.elim)) fun _ _ h'=>h'.elim)
  cases ok with
  |false=>exact Sx ⟨rfl,h₃⟩
  |true=>
   exact Sl (Sl (Vj h₃ (fun x s₄ h₄=>Sl (Vj h₄ (fun _ s₅ h₅=>Sx (Sx ⟨rfl,h₅⟩)) fun _ _ h'=>h'.elim)) fun _ _ h'=>h'.elim))
structure Bk where
 C:Addr
 s:Shared
 H:Hp
 fp:List Addr
 pn:Va
noncomputable def cU(env:Env)(fs:Vs):List (Str×Addr):=fs.map fun x=>(x,(env.cells.lookup x).getD 0)
noncomputable abbrev Cx.JJ(X:Cx)(N:Vs)(scope:Scope)(fs:Vs)(B:Bk):Cx:=
 { X with N:=N,s₀:=B.s,H₀:=B.H,env:=compEnvC scope (cU X.env fs) B.C X.env,outer:=X.stack,ex:=B.fp,fn:=fun _=>false,pn:=B.pn,xe:=fun _ _=>False }
noncomputable def cE(env:Env):List Str->Prop
 |[]=>True
 |x::r=>(∃c,env.cells.lookup x=some c)/\cE env r
theorem kT{env:Env}:∀{fs:Vs},cE env fs->∀{x:Str} {c:Addr},(cU env fs).lookup x=some c->env.cells.lookup x=some c
 |[],_,x,c,h=>by cases h
 |y::r,k,x,c,h=>by
  obtain⟨⟨d,hd⟩,k⟩:=k
  have h':List.lookup x ((y,(env.cells.lookup y).getD 0)::cU env r)=some c:=h
  rw[List.lookup_cons]at h'
  cases e:x == y with
  |true=>
   rw[e]at h'
   have e':x=y:=by simpa using e
   subst e'
   rw[hd]at h'
   rw[hd]
   exact h'
  |false=>
   rw[e]at h'
   exact kT k h'
noncomputable def oG(names:List (Str×NameKind))(cl:List (Str×Addr)):Bool:=names.all fun y=>(y.2 != .cell&&y.2 != .free) || (cl.lookup y.1).isSome
def vU{names:List (Str×NameKind)}{cl:List (Str×Addr)}{x:Str}{k:NameKind}(h:oG names cl=true)(e:names.lookup x=some k)(hk:k = .cell\/k = .free):∃c,cl.lookup x=some c:=by
 have hm:(x,k)∈names:=UU e
 have q:=U0.mp h _ hm
 have z:(cl.lookup x).isSome=true:=by
  rcases hk with rfl|rfl
  ·simpa using q
  ·simpa using q
 exact Option.isSome_iff_exists.mp z
noncomputable def Ir(env:Env)(scope:Scope)(cl:List (Str×Addr)):List Str->Prop
 |[]=>True
 |x::r=>((env.scope.names.lookup x=some .cell\/env.scope.names.lookup x=some .free)/\((relabel scope env).names.lookup x=some .cell\/(relabel scope env).names.lookup x=some .free)/\cl.lookup x=env.cells.lookup x)/\Ir env scope cl r
theorem Ir.mem{env:Env}{scope:Scope}{cl:List (Str×Addr)}:∀{l:Vs},Ir env scope cl l->∀x∈l,
  (env.scope.names.lookup x=some .cell\/env.scope.names.lookup x=some .free)/\((relabel scope env).names.lookup x=some .cell\/(relabel scope env).names.lookup x=some .free)/\cl.lookup x=env.cells.lookup x
 |[],_,x,h=>nomatch h
 |y::r,k,x,h=>by
  rcases Sv.mp h with rfl|h
  ·exact k.1
  ·exact Ir.mem k.2 x h
noncomputable def fg(own:Nat)(fr:List Nat)(σ:St):St:=List.replicate own none++fr.map fun j=>(σ[j]?).getD none
noncomputable abbrev j8(us:Vv):Obj:={ cls:=.type "list",data:=.seq us.toArray us.length }
def uu(us:Vv)(u:Value):({ cls:=.type "list",data:=.seq (us.toArray.push u) (us.length+1) }:Obj)=j8 (us++[u]):=by
 show({ cls:=.type "list",data:=.seq (us.toArray.push u) (us.length+1) }:Obj)={ cls:=.type "list",data:=.seq (us++[u]).toArray (us++[u]).length }
 rw[Sn,SK,List.push_toArray]
section
variable {X:Cx} {pins:Va} {σ:St} {H:Hp} {s:Shared}
def Inv.NX{D:Addr}{us:Vv}{n:Nat}{ys:List V}(I:Inv X pins σ H s)(f:fD X pins H D)(e:s.heap.get? D=some { cls:=.type "list",data:=.seq us.toArray n })(r:Vals ys us)(hz:ys.length<=sizeLine) :
  Inv X pins σ (upd H D (.lst ys)) s:=by
 obtain⟨f0,f1,f2,f3,f4,f5⟩:=f
 have nD:∀b u,H b=some u->b≠D:=fun b u q=>bp q f0
 have hok:JI X.prog X.w (upd H D (.lst ys)) s.heap:=fun b u q=>by
  by_cases hb:b=D
  ·subst hb
   rw[aD]at q
   cases q
   exact⟨hz,us,n,r,e⟩
  ·rw[aI hb]at q
   exact(I.hok b u q).stay (fun _ _ _ z=>z) (fun c z=>by rw[aI (nD c _ z)];exact z) fun c xs z=>by rw[aI (nD c _ z)];exact z
 exact I.step (H':=upd H D (.lst ys)) (h':=s.heap) (g':=s.gens) (t':=s.toks) (d':=s.drawn) (ch:=[D])
  (fun b hb=>by
   have z:b=D:=by simpa using hb
   subst z
   exact⟨f3,f1,f4,f5⟩)
  (fun _ _ _ _ _ q _=>q) (fun _ o _ _ _ q _=>⟨o.slots,q⟩)
  (fun b o hb _ n=>by rw[aI (fun z=>hb (by simp[z]))];exact n)
  (fun _ o _ q=>⟨o,q⟩) (fun b xs q=>by rw[aI (nD b _ q)];exact q) (fun b o u q=>by rw[aI (nD b _ q)];exact q)
  (fun b ps q=>⟨#[],by rw[aI (nD b _ q),q];simp⟩) (fun _ q=>q) hok I.bare
def BX{N:Vs}{scope:Scope}{fs:Vs}{C:Addr}{fp:List Addr}(I:Inv X pins σ H s)(hkind:scope.kind = .function)(hC:s.heap.objs.size<=C)(hcl:cE X.env fs)
  (hhas:oG (relabel scope X.env).names (cU X.env fs)=true) (hf:∀b∈fp,fD X pins H b) (hlt:∀b∈fp,b < s.heap.objs.size):(X.JJ N scope fs ⟨C,s,H,fp,X.pn++pins⟩).Ok where
 mod:=I.ok.mod
 kind:=hkind
 glob:=I.ok.glob
 blt:=I.ok.blt
 above:=hC
 inj:=fun x y c h1 h2=>I.ok.inj x y c (kT hcl h1) (kT hcl h2)
 has:=fun x hx=>by
  rcases hx with e|e
  ·exact vU hhas e (.inl rfl)
  ·exact vU hhas e (.inr rfl)
 NJ:=fun x c h=>by cases h
 hd:=I.ok.hd
 frames:=I.ok.frames
 stk:=.inl rfl
 OX:=fun b hb=>⟨Th (SW (hlt b hb) hC),fun x c e=>(hf b hb).2.2.2.2.1 x c (kT hcl e)⟩
 bs:=I.bs
 MR:=Su I.ok.MR I.sz
 Mg:=fun b o e hb=>(hf b hb).2.2.2.1.elim (fun z=>I.ok.Mg b o e z) fun z=>absurd (SW (Sw e) (Su I.ok.MR z)) (Ul _)
 Mo:=fun b hb z=>(Sv.mp (I.Kc b z)).elim (hf b hb).2.1 (hf b hb).2.2.1
 Kq:=I.stack
 Nn:=I.L5
def zc{N:Vs}{scope:Scope}{fs:Vs}{C D:Addr}{fp:List Addr}{own:Nat}{fr:List Nat}{h₁:Heap}{m0:Vr}{t':Nat}(I:Inv X pins σ H s)
  (ok:(X.JJ N scope fs ⟨C,s,H,fp,X.pn++pins⟩).Ok) (hC:s.heap.objs.size<=C) (hD:s.heap.objs.size<=D) (hDC:D≠C) (hcl:cE X.env fs)
  (old:∀b o,s.heap.get? b=some o->h₁.get? b=some o) (hns:h₁.Ns C m0) (hacc:h₁.get? D=some (j8 [])) (hlen:N.length=own+fr.length) (hN:(N.drop own).map some=fr.map fun j=>X.N[j]?)
  (hF:Ir X.env scope (cU X.env fs) (N.drop own)) :
  Inv (X.JJ N scope fs ⟨C,s,H,fp,X.pn++pins⟩) [(D,j8 [])] (fg own fr σ) H { s with heap:=h₁,toks:=t' }:=by
 refine⟨ok,rfl,I.bare,Un.kept old,⟨m0,hns,fun i x v e1 e2 e3=>?_⟩,fun x c e=>?_,I.hok.fresh hC,fun x c e=>I.JA x c (kT hcl e),fun p hp=>?_,I.hok.kept old,?_⟩
 ·have e1:N[i]?=some x:=e1
  by_cases hi:i < own
  ·unfold fg at e2
   rw[TX (by rw[TU];exact hi),UP,if_pos hi]at e2
   cases e2
  ·obtain⟨k,rfl⟩:∃k,i=own+k:=⟨i - own,by omega⟩
   have e1':(N.drop own)[k]?=some x:=by rw[WJ];exact e1
   have q:=T6 (fun l=>l[k]?) hN
   simp only[SA,e1',Option.map_some]at q
   unfold fg at e2
   rw[Ud (by rw[TU];omega),TU,Nat.add_sub_cancel_left,SA]at e2
   cases hj:fr[k]? with
   |none=>rw[hj]at e2;cases e2
   |some j=>
    rw[hj]at e2 q
    simp only[Option.map_some,WR]at e2 q
    have hσ:σ[j]?=some (some v):=by
     cases z:σ[j]? with
     |none=>rw[z]at e2;cases e2
     |some w=>rw[z]at e2;simp only[Option.getD_some]at e2;rw[e2]
    obtain⟨k1,k2,k3⟩:=hF.mem x (SY e1')
    obtain⟨m,hn,hl⟩:=I.loc
    have vis:Fw X.env.scope x:=by
     rcases k1 with z|z
     ·exact .inr (.inl z)
     ·exact .inr (.inr z)
    obtain⟨u,ru,l⟩:=hl j x v q.symm hσ vis
    rcases l with⟨hk,_⟩|⟨_,c,hc,o,ho,hd⟩
    ·have hk':X.env.scope.names.lookup x=some .local:=hk
     rcases k1 with z|z
     ·rw[z]at hk';cases hk'
     ·rw[z]at hk';cases hk'
    ·exact⟨u,ru,.inr ⟨k2,c,k3.trans hc,o,old _ _ ho,hd⟩⟩
 ·obtain⟨v,o,ho,hd⟩:=I.cell x c (kT hcl e)
  exact⟨v,o,old _ _ ho,hd⟩
 ·rcases SI.mp hp with z|z
  ·obtain⟨e,n,ne,nf,d⟩:=I.pin p z
   exact⟨old _ _ e,n,Th (SW (Sw e) hC),fun q=>(Sv.mp (I.Kc _ q)).elim ne nf,d⟩
  ·have z':p=(D,j8 []):=by simpa using z
   subst z'
   exact⟨hacc,I.hok.fresh hD,hDC,fun q=>(Sv.mp (I.Kc _ q)).elim (fun e=>absurd e (UW (SW I.lt hD))) (I.NR hD),fun v z=>by cases z⟩
 ·show(fg own fr σ).length=N.length
  unfold fg
  rw[Sn,TU,Sm,hlen]
end
def PF(X:Cx)(ifs:List Expr)(t:TT):Prop:=
 ∀(pins:Va) (s:Shared) (σ:St) (H:Hp) (Q:Bool->Hp->Prop),Inv X pins σ H s->t σ H Q->
  wpAny (model X.prog X.w) X.A (forIn ifs true fun c r=>if r=true then do let ok <-isTrue c X.env (eval c X.env);pure (ForInStep.yield ok) else pure (ForInStep.yield r)) (TP X pins σ Q) X.xe s
def Ga:TT:=fun _ H Q=>Q true H
def BY{X:Cx}:PF X [] Ga:=fun _ _ _ H _ I h=>wpAny_tests_nil ⟨H,I,h⟩
def BZ{X:Cx}{c:Expr}{t:TT}(h:PT X c t):PF X [c] t:=fun pins s σ H Q I q=>wpAny_tests_one (h pins s σ H Q I q)
def AI(J:It)(g:TG)(tc:TT)(te:TE)(own:Nat)(σ':St)(fin:List V->Hp->Prop)(H1:Hp):Prop:=
 ∃W:Nat->Nat->List V->Hp->Prop,(∃m,W 0 m [] H1)/\∀i m ys H,W i m ys H->
  (J.stop i H/\ys.length<=sizeLine/\fin ys H) \/
  (J.go i H/\ys.length<=sizeLine/\∃Nx:List V->Hp->Prop,(∀ys' H',Nx ys' H'->∃m',m' < m/\W (i+1) m' ys' H')/\∀x H',J.Os i H x H'->g x σ' H' fun σ2 H2=>σ2.drop own=σ'.drop own/\tc σ2 H2 fun b H3=>
   if b=true then te σ2 H3 fun y H4=>Nx (ys++[y]) H4 else Nx ys H3)
section
variable {X:Cx} {pins:Va} {σ:St} {H:Hp} {s:Shared}
variable {elt iter tg:Expr} {ifs:List Expr} {scope:Scope} {pos:Pos} {N:Vs} {own:Nat} {fr:List Nat} {fs:Vs} {g:TG} {tc:TT} {te:TE}
def lN{J:It}{fp:List Addr}{it:Addr}{tn:Nat->Heap->Prop}{fin:List V->Hp->Prop}{E:Vq}{RR:Value->Addr->Result->Shared->Prop}
  (hc:X.calm=true) (hcell:∀y∈scope.names,y.2 ≠ .cell) (hkind:scope.kind = .function) (hcl:cE X.env fs) (hhas:oG (relabel scope X.env).names (cU X.env fs)=true)
  (hlen:N.length=own+fr.length) (hN:(N.drop own).map some=fr.map fun j=>X.N[j]?) (hF:Ir X.env scope (cU X.env fs) (N.drop own))
  (hg:∀B,PG (X.JJ N scope fs B) tg g) (hf:∀B,PF (X.JJ N scope fs B) ifs tc) (he:∀B,PE (X.JJ N scope fs B) elt te)
  (I:Inv X pins σ H s) (T:m8 X.prog X.w X.K tg J fp it tn) (st:tn 0 s.heap) (f:∀b∈fp,fD X pins H b) (W:AI J g tc te own (fg own fr σ) fin H)
  (hRR:∀D C s' ys H' m',Inv X pins σ (upd H' D (.lst ys)) s'->H' D=none->s'.heap.Ns C m'->fD X pins (upd H' D (.lst ys)) C->fin ys H'->RR (.ref D) C (.ok .next) s') :
  wpAny (model X.prog X.w) X.A (newList []) (fun acc s₃=>wpAny (model X.prog X.w) X.A (newFunctionEnv scope X.env.globals (cU X.env fs) [] X.env.qual none .none (some X.env)) (fun cenv s₄=>
   codeAny (model X.prog X.w) X.A (.compStart (.ListComp elt [⟨tg,iter,ifs,0⟩] scope pos) 0 (.ref it) acc { cenv with scope:=relabel scope X.env }) (RR acc cenv.locals) s₄) E s₃) E s:=by
 refine Uq (wpAny_newFunctionEnv hcell (by intro y hy;simp at hy) (fun h₁ Nv MU=>?_) hkind)
 dsimp only at Nv MU ⊢
 generalize Ph:s.heap.push { cls:=.type "list",dict:=none,data:=.seq ([]:Vv).toArray }=H2 at Nv MU ⊢
 have hC:H2.objs.size=s.heap.objs.size+1:=by rw[<-Ph,Uh]
 have Nw:s.heap.objs.size<=H2.objs.size:=by rw[hC];exact Nat.le_succ _
 have hDC:s.heap.objs.size≠H2.objs.size:=by rw[hC];exact Th (Nat.lt_succ_self _)
 have below:∀b,b < s.heap.objs.size->b≠H2.objs.size/\b≠s.heap.objs.size:=fun b hb=>⟨by rw[hC];exact Th (WS hb),Th hb⟩
 have old:∀b o,s.heap.get? b=some o->h₁.get? b=some o:=fun b o e=>MU.extBut b o (below b (Sw e)).1 (So _ (Ph▸So _ e))
 have hacc:h₁.get? s.heap.objs.size=some (j8 []):=MU.extBut _ _ hDC (So _ (Ph▸SG _ rfl))
 have hlt:∀b∈fp,b < s.heap.objs.size:=fun b hb=>by
  obtain⟨o,e,_⟩:=T.obj 0 _ st b hb
  exact Sw e
 obtain⟨Wv,⟨m0,w0⟩,turn⟩:=W
 have ok:=BX (N:=N) I hkind Nw hcl hhas f hlt
 have loop:∀s₃:Shared,s₃={ s with heap:=h₁,toks:=s.toks+([]:List (Str×Value)).length }->
   codeAny (model X.prog X.w) X.A (.compLoop (.ListComp elt [⟨tg,iter,ifs,0⟩] scope pos) 0 (.ref it) (.ref s.heap.objs.size) (compEnvC scope (cU X.env fs) H2.objs.size X.env))
    (RR (.ref s.heap.objs.size) H2.objs.size) s₃:=by
  rintro s₃ rfl
  have I0:=zc (own:=own) (fr:=fr) (t':=s.toks+([]:List (Str×Value)).length) I ok Nw (Ss _) hDC hcl old Nv hacc hlen hN hF
  have Q6:tn 0 h₁:=T.keep 0 _ _ st fun b _ o e=>old b o e
  have stat:∀{us:Vv} {H':Hp},(∀b∈fp,H' b=none)->∀b∈fp,fD (X.JJ N scope fs ⟨H2.objs.size,s,H,fp,X.pn++pins⟩) [(s.heap.objs.size,j8 us)] H' b:=fun{us H'} hn b hb=>by
   obtain⟨f0,f1,f2,f3,f4,f5⟩:=f b hb
   refine⟨hn b hb,(below b (hlt b hb)).1,fun z=>(Sv.mp (I.Kc b z)).elim f1 f2,.inl hb,fun x c e=>f4 x c (kT hcl e),fun p hp=>?_⟩
   rcases SI.mp hp with z|z
   ·exact f5 p z
   ·have z':p=(s.heap.objs.size,j8 us):=by simpa using z
    subst z'
    exact UO (below b (hlt b hb)).2
  have Pi:∀p∈X.pn++pins,p.1 < s.heap.objs.size:=fun p hp=>Sw (I.pin p hp).1
  refine oF (fun k s'=>∃i ys us H',Inv (X.JJ N scope fs ⟨H2.objs.size,s,H,fp,X.pn++pins⟩) [(s.heap.objs.size,j8 us)] (fg own fr σ) H' s'/\Vals ys us/\tn i s'.heap/\(∀b∈fp,H' b=none)/\Wv i k ys H') ?_ m0
   ⟨0,[],[],H,I0,.nil,Q6,fun b hb=>(f b hb).1,w0⟩
  rintro n s' ⟨i,ys,us,H',I',rv,st',Ql,w'⟩
  rcases turn i n ys H' w' with⟨stop,hz,Pj⟩|⟨go,hz,Nx,Qm,step⟩
  ·refine Hj (T.done (X.JJ N scope fs ⟨H2.objs.size,s,H,fp,X.pn++pins⟩) rfl rfl rfl hc i _ s' _ H' (fun _ _=>False) I' (stat Ql) st' stop) (fun r s1 ⟨hr,I1⟩=>?_)
   subst hr
   show RR _ _ (.ok .next) s1
   have IX:Inv X pins σ H' s1:=I.NU I1.os I1.base I1.hok I1.bare fun b hb=>by
    obtain⟨f0,f1,f2,f3,f4,f5⟩:=f b hb
    exact⟨f3,f1,f4,f5⟩
   obtain⟨eD,nD,_⟩:=I1.pin (s.heap.objs.size,j8 us) (by simp)
   have IT:=IX.NX (I.J5 (H':=H') (Ss _) nD) eD rv hz
   obtain⟨m',hn',_⟩:=I1.loc
   exact hRR _ _ s1 ys H' m' IT nD hn' (I.J5 Nw (by rw[aI (UO hDC)];exact I1.free)) Pj
  ·refine Hj (T.item (X.JJ N scope fs ⟨H2.objs.size,s,H,fp,X.pn++pins⟩) rfl rfl rfl hc i _ s' _ H' (fun _ _=>False) I' (stat Ql) st' go) (fun r s1 ⟨u,hr,h1⟩=>?_)
   subst hr
   show wpAny _ _ (letOwnedTupleGo tg (.ref it) u) _ _ s1
   refine Hj h1 (fun _ s5 ⟨x,H5,I5,r5,y5,MS,O9⟩=>?_)
   have O_:=I5.pinned (stat O9) (T.obj _ _ MS)
   refine Hj (hg _ _ s5 _ H5 x u _ O_ r5 (step x H5 y5)) (fun _ s6 ⟨σ6,H6,I6,Q7,q6⟩=>?_)
   refine Hj (hf _ _ s6 σ6 H6 _ I6 q6) (fun b s7 ⟨H7,I7,q7⟩=>?_)
   -- Ny the turn's own names
   have forget:∀{H8:Hp} {s8:Shared} {pl:Va},Inv (X.JJ N scope fs ⟨H2.objs.size,s,H,fp,X.pn++pins⟩) pl σ6 H8 s8->Inv (X.JJ N scope fs ⟨H2.objs.size,s,H,fp,X.pn++pins⟩) pl (fg own fr σ) H8 s8:=fun{H8 s8 pl} I8=>by
    refine I8.weak (I0.len.trans I8.len.symm) fun j v e=>?_
    by_cases hj:j < own
    ·unfold fg at e
     rw[TX (by rw[TU];exact hj),UP,if_pos hj]at e
     cases e
    ·obtain⟨k,rfl⟩:∃k,j=own+k:=⟨j - own,by omega⟩
     rw[<-WJ]at e ⊢
     rw[Q7]
     exact e
   have Ou:∀{H8:Hp} {s8:Shared},Inv (X.JJ N scope fs ⟨H2.objs.size,s,H,fp,X.pn++pins⟩) ([(s.heap.objs.size,j8 us)]++lH fp s5.heap) σ6 H8 s8->∀b∈fp,∀o,s5.heap.get? b=some o->s8.heap.get? b=some o/\H8 b=none:=fun I8 b hb o e=>
    let z:=I8.pin (b,o) (TL _ (TL _ (iM hb e)))
    ⟨z.1,z.2.1⟩
   cases b with
   |false=>
    show ∃m,m < n/\_
    obtain⟨m',hm,w7⟩:=Qm _ _ (show Nx ys H7 from q7)
    refine⟨m',hm,i+1,ys,us,H7,(forget I7).J6,rv,T.keep _ _ _ MS fun b hb o e=>(Ou I7 b hb o e).1,fun b hb=>?_,w7⟩
    obtain⟨o,e,_⟩:=T.obj _ _ MS b hb
    exact(Ou I7 b hb o e).2
   |true=>
    show wpAny _ _ (eval elt _) _ _ s7
    have Q8:te σ6 H7 fun y H4=>Nx (ys++[y]) H4:=q7
    refine Hj (he _ _ s7 σ6 H7 _ I7 Q8) (fun v s8 ⟨y,H8,I8,r8,n8⟩=>?_)
    obtain⟨m',hm,w8⟩:=Qm _ _ n8
    obtain⟨eD,nD,Qn,Q9,_⟩:=I8.pin (s.heap.objs.size,j8 us) (TL _ (Ve _ (by simp)))
    refine append_at (hsz:=by show us.toArray.size<=sizeLine;rw[Sy,<-rv.length];exact hz) eD fun h9 Ov Q_=>?_
    have J0:Inv (X.JJ N scope fs ⟨H2.objs.size,s,H,fp,X.pn++pins⟩) [] σ6 H8 s8:=I8.Ku fun p hp=>nomatch hp
    have J1:Inv (X.JJ N scope fs ⟨H2.objs.size,s,H,fp,X.pn++pins⟩) [] σ6 H8 { s8 with heap:=h9 }:=J0.turned (t':=s8.toks) (it:=s.heap.objs.size) (fun b o hb e=>(Ov.2 b hb).trans e) nD Qn (.inr (Ss _))
     (fun x c e z=>by
      obtain⟨v',q⟩:=I.cell x c (kT hcl e)
      exact absurd (SW q.lt (by rw[z];exact Ss _)) (Ul _))
     (fun p hp=>by
      rw[Ti]at hp
      exact Th (Pi p hp))
    have J2:Inv (X.JJ N scope fs ⟨H2.objs.size,s,H,fp,X.pn++pins⟩) [(s.heap.objs.size,j8 (us++[v]))] σ6 H8 { s8 with heap:=h9 }:=J1.Ku fun p hp=>by
     have z':p=(s.heap.objs.size,j8 (us++[v])):=by simpa using hp
     subst z'
     exact⟨Q_.trans (T6 some (uu us v)),nD,Qn,Q9,fun v z=>by cases z⟩
    refine⟨m',hm,i+1,ys++[y],us++[v],H8,forget J2,Vals.append rv (.cons r8 .nil),T.keep _ _ _ MS fun b hb o e=>(Ov.2 b (below b (hlt b hb)).2).trans (Ou I8 b hb o e).1,fun b hb=>?_,w8⟩
    obtain⟨o,e,_⟩:=T.obj _ _ MS b hb
    exact(Ou I8 b hb o e).2
 exact codeAny_compStart_list (loop _ rfl) (T.self _ 0 _ _ _ (T.keep 0 _ _ st fun b _ o e=>old b o e) (loop _ rfl))
def vV(wi:TI)(g:TG)(tc:TT)(te:TE)(own:Nat)(fr:List Nat):TE:=fun σ H Q=>wi σ H fun J H1=>
 AI J g tc te own (fg own fr σ) (fun ys H2=>∀D,H2 D=none->Q (.ref D) (upd H2 D (.lst ys))) H1
def zd(fs:Vs)(own:Nat)(fr:List Nat)(N:Vs){wi:TI}(hc:X.calm=true)(hclos:closureFor scope X.env=pure (cU X.env fs))(hcell:∀y∈scope.names,y.2 ≠ .cell)(hkind:scope.kind = .function)
  (hnames:∀x∈scope.names,x.2 = .local->scope.names.lookup x.1=some .local) (hcl:cE X.env fs) (hhas:oG (relabel scope X.env).names (cU X.env fs)=true)
  (hlen:N.length=own+fr.length) (hN:(N.drop own).map some=fr.map fun j=>X.N[j]?) (hF:Ir X.env scope (cU X.env fs) (N.drop own))
  (hi:PI X tg iter wi) (hg:∀B,PG (X.JJ N scope fs B) tg g) (hf:∀B,PF (X.JJ N scope fs B) ifs tc) (he:∀B,PE (X.JJ N scope fs B) elt te)
  (hs:∀x,foldedSetIterable iter X.env x=pure x:=by intro _;rfl):PE X (.ListComp elt [⟨tg,iter,ifs,0⟩] scope pos) (vV wi g tc te own fr):=by
 intro pins s σ H Q I h
 rw[eval_ListComp]
 refine wpAny_comprehension_free (use:=none) (g:=⟨tg,iter,ifs,0⟩) (gs:=[]) rfl hs hclos hkind hnames (Hj (hi pins s σ H _ I h) fun v s1 h1=>Hj h1 fun itv s2 h2=>?_)
 obtain⟨it,fp,tn,J,H2,e,I2,T,st2,f2,W⟩:=h2
 subst e
 refine lN (RR:=fun acc C=>compPost (model X.prog X.w) X.A X.xe none (EP X pins σ Q) acc C) hc hcell hkind hcl hhas hlen hN hF hg hf he I2 T st2 f2 W ?_
 intro D C s' ys H' m' I' nD hn fC fin
 exact⟨m',hn,fun h' hs'=>⟨.ref D,_,I'.turned (t':=s'.toks) (fun b o hb e=>(hs'.2 b hb).trans e) fC.1 fC.2.1 fC.2.2.2.1 fC.2.2.2.2.1 fC.2.2.2.2.2,rfl,fin D nD⟩⟩
def ze(fs:Vs)(own:Nat)(fr:List Nat)(N:Vs){wi:TI}{i:Nat}{y:Str}{py spos:Pos}(hX:X.N.Nodup)(hix:X.N[i]?=some y)(hy:X.env.scope.names.lookup y=some .local)
  (hsw:swapsWith (.ListComp elt [⟨tg,iter,ifs,0⟩] scope pos) (some (.Name y py)) spos.line X.env=pure true)
  (hc:X.calm=true) (hclos:closureFor scope X.env=pure (cU X.env fs)) (hcell:∀y∈scope.names,y.2 ≠ .cell) (hkind:scope.kind = .function)
  (hnames:∀x∈scope.names,x.2 = .local->scope.names.lookup x.1=some .local) (hcl:cE X.env fs) (hhas:oG (relabel scope X.env).names (cU X.env fs)=true)
  (hlen:N.length=own+fr.length) (hN:(N.drop own).map some=fr.map fun j=>X.N[j]?) (hF:Ir X.env scope (cU X.env fs) (N.drop own))
  (hi:PI X tg iter wi) (hg:∀B,PG (X.JJ N scope fs B) tg g) (hf:∀B,PF (X.JJ N scope fs B) ifs tc) (he:∀B,PE (X.JJ N scope fs B) elt te)
  (hs:∀x,foldedSetIterable iter X.env x=pure x:=by intro _;rfl):PS X (.Assign [.Name y py] (.ListComp elt [⟨tg,iter,ifs,0⟩] scope pos) spos) (yK (vV wi g tc te own fr) (qd i)):=by
 intro pins s σ H D I h
 rw[exec_Assign_Name_used _ _ _ _ hsw]
 refine Sl (Ws (Sl ?_))
 show wpAny _ X.A (do let _ <-comprehension (.ListComp elt [⟨tg,iter,ifs,0⟩] scope pos) scope X.env _ (newList []) false (eval iter X.env) (some (assign (.Name y py) X.env))) _ _ s
 refine Sl (Vj (wpAny_comprehension_free (use:=some (assign (.Name y py) X.env)) (Q:=fun _ s'=>SP X pins D .next s') (g:=⟨tg,iter,ifs,0⟩) (gs:=[]) rfl hs hclos hkind hnames
  (Hj (hi pins s σ H _ I h) fun v s1 h1=>Hj h1 fun itv s2 h2=>?_)) (fun _ s' hq=>Sx (Sx hq)) fun _ _ e=>e)
 obtain⟨it,fp,tn,J,H2,e,I2,T,st2,f2,W⟩:=h2
 subst e
 refine lN (RR:=fun acc C=>compPost (model X.prog X.w) X.A X.xe (some (assign (.Name y py) X.env)) (fun _ s'=>SP X pins D .next s') acc C) hc hcell hkind hcl hhas hlen hN hF hg hf he I2 T st2 f2 W ?_
 intro Da C s' ys H' m' I' nD hn fC fin
 show wpAny _ X.A (assign (.Name y py) X.env (.ref Da)) _ _ s'
 refine wpAny_assign_Name (nI (v:=.ref Da) I' hX hix (.inl hy) rfl (fun s2 I3 ⟨a,sb,ha⟩=>?_) (.inr hy))
 have ca:C≠a:=by
  rcases ha with z|z
  ·rw[z];exact fC.2.1
  ·exact UO (fC.2.2.2.2.1 _ _ z)
 exact⟨m',hn.sameBut sb ca,fun h' hs'=>⟨_,_,I3.turned (t':=s2.toks) (fun b o hb e=>(hs'.2 b hb).trans e) fC.1 fC.2.1 fC.2.2.2.1 fC.2.2.2.2.1 fC.2.2.2.2.2,fin Da nD⟩⟩
end
end L2
namespace PySem
open Sem (wp)
namespace F
def uv:typeLookup (.type "list_reverseiterator") "__len__" = pure none:=by rw[typeLookup_type,builtinLookup_eq_fast];kernel_rfl
def vW:typeLookup (.type "list_reverseiterator") "__length_hint__" = pure (some (.builtin "list_reverseiterator.__length_hint__")):=by rw[typeLookup_type,builtinLookup_eq_fast];kernel_rfl
end F
section
variable {prog:Program} {w:World} {A:Around} {s:Shared} {R:Result->Shared->Prop}
variable {I:Addr} {fp wr:List Addr} {G:Array GenState->Array GenState->Prop} {n:Nat} {P:Nat->Value->Prop} {St:Nat->Shared->Prop}
def rP(W:WalksS prog w A.in1 I fp wr G n P St)(hT:∀i s,St i s->s.TypeIs (.ref I) "list_reverseiterator")(S:Addr)(res:Value)(c₀:Nat)(hst:St 0 s)(hSf:S ∉ fp)(hI:I∈fp)
  (hS:s.heap.get? S=some { cls:=.type "list",data:=.seq #[] c₀ })
  (hR:∀s' acc' c',Moved (S::wr) G s s'->s'.heap.get? S=some { cls:=.type "list",dict:=none,data:=.seq acc' c',slots:=#[] }->ItemsOf P acc' n->R (.ok (.ret res)) s') (hn:n<=sizeLine) :
  wpAny (model prog w) A.in1 (Builtin.List.listExtendWith (.ref S) (.ref I) res)
   (fun fin s'=>match fin with | .done f=>R (.ok f) s' | .again c'=>c'.quiet=true/\codeAny (model prog w) A c' R s') (fun e s'=>R (.error e) s') s:=by
 have hSI:S≠I:=fun e=>hSf (e▸hI)
 have h1:Builtin.List.listSameRef (.ref S) (.ref I)=false:=by simp[Builtin.List.listSameRef,hSI]
 unfold Builtin.List.listExtendWith
 refine Sl (wpAny_typeOf (hT 0 _ hst) ?_)
 rw[if_neg (by rw[h1];decide)]
 refine Sl (W.self 0 _ _ _ hst ?_)
 refine Sl (Vk ?_)
 unfold Builtin.List.listLengthHint
 refine Sl (wpAny_specialOf (hT 0 _ hst) F.uv ?_)
 show wpAny _ A.in1 (specialOf (Value.ref I) (Str.ofString "__length_hint__") >>= _) _ _ _
 refine Sl (wpAny_specialOf (hT 0 _ hst) F.vW ?_)
 (generalize hid:("list_reverseiterator.__length_hint__":String)=Ra;wp_delta;rw[show splitId Ra=some ("list_reverseiterator","__length_hint__")from by subst hid;decide +kernel];subst hid)
 refine Sl (wpAny_isInstance (b:=true) (hT 0 _ hst) (by rw[isSubtype_type];kernel_rfl) ?_)
 refine Sx ?_
 rw[if_neg (by decide)]
 exact Sx ⟨Wt F.plain_extend_loop _,codeAny_extend_loopS W hn _ hSf _ n 0 _ _ _ rfl (Tr _) hst hS (ItemsOf.nil P) fun s' acc' c' hm hS' hacc=>hR s' acc' c' hm hS' hacc⟩
def ng(W:WalksS prog w A.in1 I fp wr G n P St)(hT:∀i s,St i s->s.TypeIs (.ref I) "list_reverseiterator")(S:Addr)(hst:St 0 s)(hSf:S ∉ fp)(hI:I∈fp)
  (hS:s.heap.get? S=some { cls:=.type "list",data:=.seq #[] })
  (hR:∀s' acc' c',Moved (S::wr) G s s'->s'.heap.get? S=some { cls:=.type "list",dict:=none,data:=.seq acc' c',slots:=#[] }->ItemsOf P acc' n->R (.ok (.ret .none)) s') (hn:n<=sizeLine) :
  wpAny (model prog w) A.in1 (Builtin.«list.__init__» ⟨[.ref S,.ref I],[]⟩)
   (fun fin s'=>match fin with | .done f=>R (.ok f) s' | .again c'=>c'.quiet=true/\codeAny (model prog w) A c' R s') (fun e s'=>R (.error e) s') s:=by
 show wpAny _ A.in1 (do let old <-Builtin.List.listItems (.ref S);Builtin.List.listUpdate (.ref S) (fun _=>#[]);letGo old.toList.reverse;Builtin.List.listExtendWith (.ref S) (.ref I) .none) _ _ s
 refine Sl ?_
 unfold Builtin.List.listItems
 refine Sl (TN hS rfl (Sx ?_))
 show wpAny _ A.in1 (updateSeq S (fun _=>#[]) >>= fun _=>letGo (#[]:Vw).toList.reverse >>= fun _=>Builtin.List.listExtendWith (.ref S) (.ref I) .none) _ _ s
 refine Sl (V1 hS rfl ?_)
 have Rb:=U9 (Obj.mapSeq (fun _=>(#[]:Vw))) hS rfl
 have Qo:∀b o,b≠S->s.heap.get? b=some o->(s.heap.update S (Obj.mapSeq (fun _=>(#[]:Vw)))).get? b=some o:=
  fun b o hb e=>(Uy _ _ (UO hb)).trans e
 refine Sl (UX ?_)
 refine rP (hn:=hn) W hT S .none _ (W.frame 0 s _ s.toks hst (Ss _) fun b hb o e=>Qo b o (fun h=>hSf (h▸hb)) e) hSf hI Rb fun s' acc' c' hm hS' hacc=>?_
 exact hR s' acc' c' (Moved.trans W.gtrans ((Moved.refl W.grefl).then_heap (Ss _) fun b o hb e=>Qo b o (fun h=>hb (h▸UH)) e) hm) hS' hacc
end
section
variable {prog:Program} {w:World} {A:Around} {E:Vq} {s:Shared}
def nh{I l:Addr}{items:Vw}{Q:Vq}(hh:A.handled=none)(hl:s.heap.IsList l items)(hit:s.heap.IsRevIter I l ((items.size:Int) - 1))(hne:l≠I)(hn:items.size<=sizeLine)
  (hQ:∀h' tk acc' c',(∀b o,b≠I->s.heap.get? b=some o->h'.get? b=some o)->h'.get? s.heap.objs.size=some { cls:=.type "list",dict:=none,data:=.seq acc' c',slots:=#[] }->
   acc'.toList=items.toList.reverse->Q (.ref s.heap.objs.size) { s with heap:=h',toks:=tk }) :
  wpAny (model prog w) A (call (.type "list") [.ref I]) Q E s:=by
 have W:=(Walks.listRev (prog:=prog) (w:=w) (A:=A.in1.in1) hh I l hne items).toS
 have Pk:I < s.heap.objs.size:=by obtain⟨o,ho,_⟩:=hit;exact Sw ho
 have Pl:l < s.heap.objs.size:=by obtain⟨o,ho,_⟩:=hl;exact Sw ho
 have hfp:∀b∈[I,l],b < s.heap.objs.size:=fun b hb=>by
  rcases Sv.mp hb with rfl|hb
  ·exact Pk
  ·rw[SM.mp hb];exact Pl
 have hSf:s.heap.objs.size ∉ [I,l]:=fun hm=>Ul _ (hfp _ hm)
 have hst:(fun i (s:Shared)=>i<=items.size/\s.heap.IsRevIter I l ((items.size:Int) - 1 - (i:Int))/\s.heap.IsList l items) 0 s:=⟨Tr _,by simpa using hit,hl⟩
 refine callType_codes (Q₁:=fun obj s₁=>obj = .ref s.heap.objs.size/\s₁={ s with heap:=s.heap.push { cls:=.type "list",data:=.seq #[] } }) F.called_list (F.typeCall_list_1 _) F.entry_list_init
  (code_list_new _ ⟨rfl,rfl⟩) fun obj s₁ h₁=>?_
 obtain⟨rfl,rfl⟩:=h₁
 have hS:(s.heap.push { cls:=.type "list",data:=.seq #[] }).get? s.heap.objs.size=some { cls:=.type "list",data:=.seq #[] }:=SG _ rfl
 refine⟨⟨_,hS,rfl⟩,F.args_list_init_2 _ _,ng (hn:=hn) W (fun i s st=>st.2.1.typeIs) _ (W.frame 0 s _ s.toks hst (Ss _) fun b _ o e=>So _ e) hSf (UH ..) hS fun s' acc' c' hm hS' hacc=>?_⟩
 refine⟨rfl,?_⟩
 rw[hm.eq_with]
 refine hQ s'.heap s'.toks acc' c' (fun b o hb e=>hm.heap b o (fun z=>?_) (So _ e)) hS' ?_
 ·rcases Sv.mp z with z|z
  ·exact absurd (Sw e) (by rw[z];exact Ul _)
  ·exact hb (SM.mp z)
 ·obtain⟨hsz,hP⟩:=hacc
  apply WT
  intro j
  by_cases hj:j < items.size
  ·have hj':j < acc'.size:=by rw[hsz];exact hj
   have q:=hP j acc'[j] (by simp[hj'])
   have e1:acc'.toList[j]?=some acc'[j]:=by simp[hj']
   rw[e1,List.getElem?_reverse (by simpa using hj)]
   simpa using q.symm
  ·rw[Ua (by simpa [hsz]using hj),Ua (by simpa using hj)]
end
end PySem
namespace L2
open PySem PySem.Spec PyProof.Rows
section
variable {X:Cx}
def vX(K:Vo)(te:TE):TE:=fun σ H Q=>te σ H fun x H1=>∃a xs,x = .ref a/\SqL K H1 a xs/\∀q,H1 q=none->Q (.ref q) (upd H1 q (.lst xs.reverse))
def rQ{e:Expr}{te:TE}{p1 p2 q1 q2:Pos}(hc:X.calm=true)(he:PE X e te)(Pm:Gl X "list")(hm1:X.mg "list" = none)(NY:Gl X "reversed")(hm2:X.mg "reversed" = none)
  (hs:starEach [e] X.env=[(false,eval e X.env)]:=by rfl) (hs2:starEach [.Call (.Name "reversed" p2) [e] [] q2] X.env=[(false,eval (.Call (.Name "reversed" p2) [e] [] q2) X.env)]:=by rfl) :
  PE X (.Call (.Name "list" p1) [.Call (.Name "reversed" p2) [e] [] q2] [] q1) (vX X.K te):=by
 intro pins s σ H Q I h
 refine U5 (eO I Pm hm1 (u:=.type "list") (by decide +kernel) ?_)
 refine T5 ?_ hs2 rfl
 rw[hs2]
 show wpAny _ _ (spliced ((false,eval (.Call (.Name "reversed" p2) [e] [] q2) X.env)::backTo q1 [])) _ _ s
 refine U4 ?_
 refine U5 (eO I NY hm2 (u:=.type "reversed") boot_reversed ?_)
 refine T5 ?_ hs rfl
 rw[hs]
 show wpAny _ _ (spliced ((false,eval e X.env)::backTo q2 [])) _ _ s
 refine U4 (Hj (he pins s σ H _ I h) fun u s1 ⟨x,H1,I1,r1,a,xs,ex,hx,q⟩=>?_)
 subst ex
 cases r1
 obtain⟨its,rv,p,hz⟩:=I1.list hx
 have hl:=rv.length
 have hal:a < s1.heap.objs.size:=by obtain⟨o,ho,_⟩:=p.isList;exact Sw ho
 refine VI (call_reversed_list p.isList ?_)
 refine VI ?_
 refine nh (I.ok.hd hc) (p.isList.push _) ⟨_,SG _ rfl,rfl,rfl⟩ (Th hal) (by rw[Sy,<-hl];exact hz) fun h' tk acc c hk hS ha=>?_
 have hsz:(s1.heap.push (revObj a ((its.toArray.size:Int) - 1))).objs.size=s1.heap.objs.size+1:=Uh _ _
 have hle:s1.heap.objs.size<=(s1.heap.push (revObj a ((its.toArray.size:Int) - 1))).objs.size:=by rw[hsz];exact Nat.le_succ _
 refine⟨.ref _,_,I1.laid (a:=(s1.heap.push (revObj a ((its.toArray.size:Int) - 1))).objs.size) (o:=.lst xs.reverse) (h':=h') (t':=tk) (fun b u e=>hk b u (Th (Sw e)) (So _ e)) hle ?_,rfl,q _ (I1.hok.fresh hle)⟩
 refine⟨by rw[List.length_reverse];exact hz,its.reverse,c,Vals.reverse rv,?_⟩
 rw[hS]
 have e:acc=its.reverse.toArray:=by
  apply Array.toList_inj.mp
  rw[ha]
 rw[e]
end
section
variable {X:Cx}
noncomputable abbrev j9(c:Nat):Str:=⟨#[c]⟩
noncomputable def Gb(z:Str):It:=⟨fun i _=>i < z.cps.size,fun i H x H'=>H'=H/\∃c,z.cps[i]?=some c/\x = .str (j9 c),fun i _=>z.cps.size<=i⟩
def vY{P:Program}{w:World}{K:Vo}{tg:Expr}{ty:String}(hty:ty = "str_ascii_iterator" \/ ty = "str_iterator")(it:Addr)(z:Str)(t:Tok):m8 P w K tg (Gb z) [it] it (fun i h=>i<=z.cps.size/\h.IsStrIter it ty z t i):=by
 have W:∀A':Around,A'.handled=none->Walks P w A' it [it] [it] z.cps.size (SignAt z) (fun i h=>h.IsStrIter it ty z t i):=fun A' hA=>by
  rcases hty with rfl|rfl
  ·exact Walks.strAscii hA it z t
  ·exact Walks.strWide hA it z t
 have nt:(["enumerate","zip","dict_itemiterator","dict_reverseitemiterator","odict_iterator","itertools.zip_longest","itertools.pairwise"].contains ty)=false:=by
  rcases hty with rfl|rfl<;>decide
 refine⟨by simp,fun i h st b hb=>?_,fun i h h' st k=>?_,?_,?_,?_⟩
 ·have e:b=it:=by simpa using hb
  subst e
  obtain⟨_,o,e,c,d⟩:=st
  exact⟨o,e,fun v q=>by rw[d]at q;cases q⟩
 ·obtain⟨hi,o,e,r⟩:=st
  exact⟨hi,o,k it (by simp) o e,r⟩
 ·intro X hP hw hK hc i pins s σ H E I hf st hg
  subst hP hw hK
  obtain⟨f0,f1,f2,f3,f4,f5⟩:=hf it (by simp)
  refine(W X.A (I.ok.hd hc)).item i s _ _ hg st.2 fun v h' tk hv st' kk=>?_
  obtain⟨c,u,hcp,rfl⟩:=hv
  have I1:Inv X pins σ H { s with heap:=h',toks:=tk }:=I.turned (fun b o hb e=>kk b o (by simpa using hb) e) f0 f1 f3 f4 f5
  obtain⟨o,e,co,d⟩:=id st'
  exact⟨_,rfl,kR (s:={ s with heap:=h',toks:=tk }) e co d nt ⟨.str (j9 c),H,I1,⟨u,rfl⟩,⟨rfl,c,hcp,rfl⟩,⟨hg,st'⟩,fun b hb=>(hf b hb).1⟩⟩
 ·intro X hP hw hK hc i pins s σ H E I hf st hg
  subst hP hw hK
  obtain⟨f0,f1,f2,f3,f4,f5⟩:=hf it (by simp)
  have e:i=z.cps.size:=Nat.le_antisymm st.1 hg
  subst e
  exact(W X.A (I.ok.hd hc)).done s _ _ st.2 fun h' tk kk=>⟨rfl,I.turned (fun b o hb e=>kk b o (by simpa using hb) e) f0 f1 f3 f4 f5⟩
 ·intro A i s Q E st h
  rcases hty with rfl|rfl
  ·exact wpAny_pyIter_striter_ascii st.2 h
  ·exact wpAny_pyIter_striter_wide st.2 h
def zf{ys:Vs}:∀{us:Vv},Vals (ys.map V.str) us->StrsAre us ys:=by
 induction ys with
 |nil=>intro us r;rw[Tu]at r;cases r;exact .nil
 |cons n ns ih=>
  intro us r
  rw[SH]at r
  cases r with
  |cons r1 r2=>
   obtain⟨t,e⟩:=r1
   subst e
   exact .cons n t (ih r2)
noncomputable def En(K:Vo):V->List V->Hp->VK->Prop:=fun x vs H Q=>∃sep p ys,x = .str sep/\vs=[.ref p]/\SqL K H p (ys.map V.str)/\(ys.map (·.length)).sum+ys.length * sep.length<=1000000/\Q (.str (Txt.join sep ys)) H
def zg:BO X "str.join" (En X.K):=by
 intro pins s σ H x vs v us Q I rx rv h
 obtain⟨sep,p,ys,rfl,rfl,hp,hz,q⟩:=h
 obtain⟨t,rfl⟩:=rx
 obtain⟨u,rfl,ru⟩:=dR rv
 cases ru
 obtain⟨its,r,pl,_⟩:=I.list hp
 exact join_list pl.isList (by simpa using zf r) (by omega) fun t' k=>⟨.str _,H,I.tok k,⟨t',rfl⟩,q⟩
def rR{z:Str}{acc:Vw}(h:ItemsOf (SignAt z) acc z.cps.size):Vals (z.cps.toList.map fun c=>V.str (j9 c)) acc.toList:=by
 obtain⟨hs,hP⟩:=h
 have key:∀(cs:List Nat) (us:Vv),us.length=cs.length->(∀(j:Nat) (v:Value),us[j]?=some v->∃c u,cs[j]?=some c/\v = .str (j9 c) u)->Vals (cs.map fun c=>V.str (j9 c)) us:=by
  intro cs
  induction cs with
  |nil=>
   intro us hl _
   cases us with
   |nil=>exact .nil
   |cons u us=>cases hl
  |cons c cs ih=>
   intro us hl hu
   cases us with
   |nil=>cases hl
   |cons u us=>
    obtain⟨c',t,e1,e2⟩:=hu 0 u rfl
    have e1':c=c':=by simpa using e1
    subst e1'
    refine .cons ⟨t,e2⟩ (ih us (by simpa using hl) fun j v e=>?_)
    exact hu (j+1) v (by simpa using e)
 refine key z.cps.toList acc.toList (by simp[hs]) fun j v e=>?_
 obtain⟨c,u,e1,e2⟩:=hP j v (by simpa using e)
 exact⟨c,u,by simpa using e1,e2⟩
def j_(hc:X.calm=true):er X (.type "list") (fun xs H Q=>∃z,xs=[.str z]/\z.length<=sizeLine/\∀l,H l=none->Q (.ref l) (upd H l (.lst (z.cps.toList.map fun c=>V.str (j9 c))))):=by
 intro pins s σ H xs us Q I r h
 obtain⟨z,rfl,hz,q⟩:=h
 obtain⟨u,rfl,t,rfl⟩:=dR r
 refine call_list_str (I.ok.hd hc) z t (fun h' tk acc c hk hS ha=>?_) hz
 refine⟨.ref _,_,I.laid (a:=s.heap.objs.size) (o:=.lst (z.cps.toList.map fun c=>V.str (j9 c))) (h':=h') (t':=tk) hk (Ss _) ?_,rfl,q _ (I.hok.fresh (Ss _))⟩
 exact⟨by rw[Sm,UC];exact hz,acc.toList,c,rR ha,by rw[hS]⟩
def ux(hc:X.calm=true):er X (.builtin "all") (fun xs H Q=>∃(p:Addr) (bs:List Bool),xs=[.ref p]/\SqL X.K H p (bs.map V.bl)/\Q (.bl (bs.all id)) H):=by
 intro pins s σ H xs us Q I r h
 obtain⟨p,bs,rfl,hp,q⟩:=h
 obtain⟨u,rfl,rx⟩:=dR r
 cases rx
 obtain⟨its,rv,pl,hz⟩:=I.list hp
 have hl:=rv.length
 rw[Sm]at hl
 have hlt:p < s.heap.objs.size:=by obtain⟨o,ho,_⟩:=pl.isList;exact Sw ho
 refine call_all_walk (TR pl.isList ?_)
 have up:∀b o,s.heap.get? b=some o->(s.heap.push { cls:=.type "list_iterator",data:=.fields #[.ref p,.int 0 0] }).get? b=some o:=fun b o e=>So _ e
 refine⟨s.heap.objs.size,_,_,_,_,_,fun i=>(bs[i]?).getD true,rfl,Walks.list (A:=X.A.in1) (I.ok.hd hc) s.heap.objs.size p (Th hlt) its.toArray,⟨⟨_,SG _ rfl,rfl,rfl⟩,pl.isList.push _⟩,?_,fun h' tk hk=>?_⟩
 ·intro i v s' Q' E' hv hq
  have hi:i < its.length:=by
   by_cases z:i < its.length
   ·exact z
   ·rw[VD (by simpa using z)]at hv;cases hv
  obtain⟨u',e1,r1⟩:=rv.get (i:=i) (x:=.bl bs[i]) (by rw[SA,SR (by omega)];rfl)
  have e2:v=u':=by
   have z:its[i]?=some v:=by simpa using hv
   rw[z]at e1;exact Tz e1
  subst e2
  cases (show v=Value.bool bs[i] from r1)
  refine Ux ?_
  have hq':Q' ((bs[i]?).getD true) s':=hq
  rw[SR (show i < bs.length by omega)]at hq'
  exact hq'
 ·have e:(List.range its.toArray.size).all (fun i=>(bs[i]?).getD true)=bs.all id:=by
   rw[Sy,<-hl,Vd,U0,U0]
   constructor
   ·intro h1 x hx
    obtain⟨j,hj,e⟩:=List.getElem_of_mem hx
    have q1:=h1 j (Uw.mpr hj)
    rw[SR hj]at q1
    rw[<-e];exact q1
   ·intro h1 j hj
    have hj':=Uw.mp hj
    rw[SR hj']
    exact h1 _ (Wm hj')
  rw[e]
  exact⟨.bl _,H,(I.kept (t':=tk) (h':=h') fun b o eo=>hk b o (by
   intro hm
   have hb:b=s.heap.objs.size:=by simpa using hm
   exact absurd (Sw eo) (by rw[hb];exact Ul _)) (up b o eo)),rfl,q⟩
end
section
variable {X:Cx}
noncomputable def Gc:V->Option Int->Option Int->Hp->VK->Prop:=fun x lo hi H Q=>∃z,x = .str z/\z.length<=sizeLine/\Q (.str (Txt.slice z lo hi)) H
def B4:Dv X Gc:=by
 intro pins s σ H x v vl vu lo hi sl Q I rx hs pl pu h
 obtain⟨z,rfl,hz,q⟩:=h
 obtain⟨t,rfl⟩:=rx
 refine⟨"str",_,F.slot_str_getitem.lookup,typeIs_str _ _ _,?_⟩
 obtain⟨o,e,c,d⟩:=hs
 have fin:∀l u:Option (Int×Tok),(vl=partValue l/\lo=l.map (·.1))->(vu=partValue u/\hi=u.map (·.1))->wpAny (model X.prog X.w) X.A (getItem (.str z t) (.ref sl)) (EP X pins σ Q) X.xe s:=by
  rintro l u ⟨rfl,rfl⟩ ⟨rfl,rfl⟩
  exact wpAny_getItem_str_slice (l:=l) (u:=u) (st:=none) ⟨o,e,c,d⟩ rfl (post_val_or_str ⟨Su (Txt.slice_le z _ _) hz,fun t' k=>⟨.str _,H,I.tok k,⟨t',rfl⟩,q⟩⟩)
 cases pl with
 |none=>
  cases pu with
  |none=>exact fin none none ⟨rfl,rfl⟩ ⟨rfl,rfl⟩
  |int j uj=>exact fin none (some (j,uj)) ⟨rfl,rfl⟩ ⟨rfl,rfl⟩
 |int i ui=>
  cases pu with
  |none=>exact fin (some (i,ui)) none ⟨rfl,rfl⟩ ⟨rfl,rfl⟩
  |int j uj=>exact fin (some (i,ui)) (some (j,uj)) ⟨rfl,rfl⟩ ⟨rfl,rfl⟩
noncomputable def B8:V->List V->Hp->VK->Prop:=fun x vs H Q=>∃a b i rest,x = .str a/\vs=[.str b]/\Builtin.Str.occurrences a b 0 a.length 1=i::rest/\Q (.int i) H
def vZ:BO X "str.index" B8:=by
 intro pins s σ H x vs v us Q I rx rv h
 obtain⟨a,b,i,rest,rfl,rfl,ho,q⟩:=h
 obtain⟨t,rfl⟩:=rx
 obtain⟨w,rfl,u,rfl⟩:=dR rv
 exact call_gives F.slot_str_index (typeIs_str _ _ _) F.entry_str_index (F.args_str_index_2 _ _) (gives_str_index a b t u i rest ho) ⟨.int i,H,I.tok _,⟨_,rfl⟩,q⟩
def B9(K:Vo)(i j k:Nat)(te:TE):TS:=fun D σ H=>te σ H fun x H1=>∃p v w u,x = .ref p/\SqT K H1 p [v,w,u]/\D.nx (((σ.set k (some u)).set j (some w)).set i (some v)) H1
def v5{i j k:Nat}{x y z:Str}{e:Expr}{te:TE}{px py pz pt:Pos}{kt:Nat}{pos:Pos}(hc:X.calm=true)(hN:X.N.Nodup)(hi:X.N[i]?=some x)(hj:X.N[j]?=some y)(hk:X.N[k]?=some z)
  (hx:X.env.scope.names.lookup x=some .local) (hy:X.env.scope.names.lookup y=some .local) (hz:X.env.scope.names.lookup z=some .local) (he:PE X e te)
  (hw:swappedStores [.Tuple [.Name x px,.Name y py,.Name z pz] kt pt] e X.env=pure (some [x,y,z]))
  (hs:swapsWithSole [.Tuple [.Name x px,.Name y py,.Name z pz] kt pt] e pos.line X.env=pure false) :
  PS X (.Assign [.Tuple [.Name x px,.Name y py,.Name z pz] kt pt] e pos) (B9 X.K i j k te):=by
 intro pins s σ H D I h
 refine Assign_Tuple_swapped (names:=[x,y,z]) (Hj (he pins s σ H _ I h) fun r s1 ⟨xr,H1,I1,r1,p,v,w,u,ex,hp,q⟩=>?_) hs hw
 subst ex
 cases r1
 obtain⟨its,rv,tp,_⟩:=I1.tuple hp
 obtain⟨u1,u2,u3,ei,a1,a2,a3⟩:∃u1 u2 u3,its=[u1,u2,u3]/\RelV v u1/\RelV w u2/\RelV u u3:=by
  cases rv with
  |cons a1 rv=>
   cases rv with
   |cons a2 rv=>
    cases rv with
    |cons a3 rv=>
     cases rv
     exact⟨_,_,_,rfl,a1,a2,a3⟩
 subst ei
 refine unpackItems_tuple (items:=#[u1,u2,u3]) (I.ok.hd hc) tp fun h' kp=>?_
 have I2:=I1.kept (h':=h') (t':=s1.toks) fun b o eb=>kp b o (Th (Sw eb)) eb
 refine U3 (V9 (dQ I2 hN hk (.inl hz) a3 (fun s2 I3=>?_) (.inr hz)))
 refine U3 (V9 (dQ I3 hN hj (.inl hy) a2 (fun s3 I4=>?_) (.inr hy)))
 exact U3 (V9 (dQ I4 hN hi (.inl hx) a1 (fun s4 I5=>assignInOrder_nil ⟨_,H1,I5,q⟩) (.inr hx)))
end
end L2
namespace Zt
open PySem
open Sem (wp)
def Si(kd:Bool)(h:Heap)(a t:Addr)(i:Nat):Prop:=cond kd (h.IsListIter a t i) (h.IsTupleIter a t i)
def Sq(kd:Bool)(h:Heap)(a:Addr)(xs:Vw):Prop:=cond kd (h.IsList a xs) (h.IsTuple a xs)
theorem Si.at{kd:Bool}{h h':Heap}{a t:Addr}{i:Nat}(x:Si kd h a t i)(e:∀o,h.get? a=some o->h'.get? a=some o):Si kd h' a t i:=match kd,x with|true,x=>Heap.IsListIter.at x e|false,x=>Heap.IsTupleIter.at x e
theorem Sq.at{kd:Bool}{h h':Heap}{a:Addr}{xs:Vw}(x:Sq kd h a xs)(e:∀o,h.get? a=some o->h'.get? a=some o):Sq kd h' a xs:=match kd,x with|true,x=>Heap.IsList.at x e|false,x=>Heap.IsTuple.at x e
def Sq.lt{kd:Bool}{h:Heap}{a:Addr}{xs:Vw}(x:Sq kd h a xs):a < h.objs.size:=match kd,x with|true,⟨_,e,_⟩=>Sw e|false,⟨_,e,_⟩=>Sw e
def Si.ob{kd:Bool}{h:Heap}{a t:Addr}{i:Nat}(x:Si kd h a t i):∃o f,h.get? a=some o/\o.data = .fields f:=match kd,x with|true,⟨o,e,_,d⟩=>⟨o,_,e,d⟩|false,⟨o,e,_,d⟩=>⟨o,_,e,d⟩
def Si.extBut{kd:Bool}{h h':Heap}{a c t:Addr}{i:Nat}(x:Si kd h a t i)(e:Heap.ExtBut c h h')(n:a≠c):Si kd h' a t i:=x.at fun _ q=>e _ _ n q
def Sq.extBut{kd:Bool}{h h':Heap}{a c:Addr}{xs:Vw}(x:Sq kd h a xs)(e:Heap.ExtBut c h h')(n:a≠c):Sq kd h' a xs:=x.at fun _ q=>e _ _ n q
section
variable {prog:Program} {w:World} {A:Around} {E:Vq} {s:Shared}
def nx{j t:Addr}{i:Nat}{its:Vw}{x:Value}{Q:Vq}(hj:s.heap.IsTupleIter j t i)(ht:s.heap.IsTuple t its)(hx:its[i]?=some x)
  (k:∀g:Heap,g.IsTupleIter j t (i+1)->Heap.SameBut j s.heap g->Q x { s with heap:=g }):wpAny (model prog w) A (Builtin.SmallTypes.nextOf (.ref j)) Q E s:=by
 obtain⟨ob,eb,kb,db⟩:=id hj
 obtain⟨oc,ec,_,nc,dc⟩:=ht
 unfold Builtin.SmallTypes.nextOf
 refine Sl (Ue (name:=Str.ofString "__next__") hj.typeIs U7 (UI U7 hj.typeIs F.entry_tuple_iterator_next ?_ (F.args_tuple_iterator_next_1 _)))
 show wpAny _ _ (field (.ref j) 0 >>= _) _ _ s;refine Sl (TM eb db (x:=.ref t) rfl ?_)
 show wpAny _ _ (if (Value.ref t == Value.none)=true then _ else _) _ _ s;rw[if_neg (show ¬((Value.ref t == Value.none)=true)from Tn)]
 show wpAny _ _ (field (.ref j) 1 >>= _) _ _ s;refine Sl (TM eb db (x:=.int i 0) rfl ?_)
 show wpAny _ _ (seqItems? (.ref t) >>= _) _ _ s;refine Sl (TN ec dc ?_)
 simp only[Int.toNat_natCast,hx];refine Sl (wpAny_setField eb db (by simp) (Sx ⟨x,rfl,Sx (k _ ?_ (WG ..))⟩))
 exact⟨_,U9 _ eb (Obj.isFreed_of_fields (Obj.data_mapFields db _)),(Obj.cls_mapFields ..).trans kb,by rw[Obj.data_mapFields db];simp[rawInt]⟩
def GI{j t:Addr}{i:Nat}{its:Vw}{Q:Vq}(hh:A.handled=none)(hj:s.heap.IsTupleIter j t i)(ht:s.heap.IsTuple t its)(hx:its[i]?=none)
  (k:∀(g:Heap) (e:Addr),Heap.ExtBut j s.heap g->(∃o,g.get? e=some o/\o.cls = .type "StopIteration")->E (.ref e) { s with heap:=g }):wpAny (model prog w) A (Builtin.SmallTypes.nextOf (.ref j)) Q E s:=by
 obtain⟨ob,eb,kb,db⟩:=id hj
 obtain⟨oc,ec,_,nc,dc⟩:=ht
 unfold Builtin.SmallTypes.nextOf
 refine Sl (Ue (name:=Str.ofString "__next__") hj.typeIs U7 (UI U7 hj.typeIs F.entry_tuple_iterator_next ?_ (F.args_tuple_iterator_next_1 _)))
 show wpAny _ _ (field (.ref j) 0 >>= _) _ _ s;refine Sl (TM eb db (x:=.ref t) rfl ?_)
 show wpAny _ _ (if (Value.ref t == Value.none)=true then _ else _) _ _ s;rw[if_neg (show ¬((Value.ref t == Value.none)=true)from Tn)]
 show wpAny _ _ (field (.ref j) 1 >>= _) _ _ s;refine Sl (TM eb db (x:=.int i 0) rfl ?_)
 show wpAny _ _ (seqItems? (.ref t) >>= _) _ _ s;refine Sl (TN ec dc ?_)
 simp only[Int.toNat_natCast,hx];refine Sl (VB (Sl (wpAny_setField eb db (by simp) ?_)))
 show wpAny _ _ (newExc (.type "StopIteration") [] >>= _) _ _ _;refine Sl ?_
 simp only[newExc,newTuple];refine Sl (Uq ?_ (by size_fits))
 refine Sl (m:=firstArgMember _ _) (wpAny_of_eq (a:=Value.none) (by first|rfl|(simp only[firstArgMember];rfl)) ?_);refine Uq ?_ (by size_fits)
 simp only[raiseNew];refine Sl (wpAny_handled ?_)
 first|(rw[hh])|(rw[show A.in1.handled=none from hh])
 exact Sl (Sx (wpAny_throw (k _ _ (((WG ..).extBut.push _).push _) ⟨_,SG _ rfl,rfl⟩)))
def Dx{kd:Bool}{j t:Addr}{i:Nat}{its:Vw}{x:Value}{Q:Vq}(hj:Si kd s.heap j t i)(ht:Sq kd s.heap t its)(hx:its[i]?=some x)
  (k:∀g:Heap,Si kd g j t (i+1)->Heap.SameBut j s.heap g->Q x { s with heap:=g }):wpAny (model prog w) A (Builtin.SmallTypes.nextOf (.ref j)) Q E s:=by
 cases kd with
 |true=>exact wpAny_nextOf_list_item hj ht hx k
 |false=>exact nx hj ht hx k
def B_{kd:Bool}{j t:Addr}{i:Nat}{its:Vw}{Q:Vq}(hh:A.handled=none)(hj:Si kd s.heap j t i)(ht:Sq kd s.heap t its)(hx:its[i]?=none)
  (k:∀(g:Heap) (e:Addr),Heap.ExtBut j s.heap g->(∃o,g.get? e=some o/\o.cls = .type "StopIteration")->E (.ref e) { s with heap:=g }):wpAny (model prog w) A (Builtin.SmallTypes.nextOf (.ref j)) Q E s:=by
 cases kd with
 |true=>exact wpAny_nextOf_list_end hh hj ht hx k
 |false=>exact GI hh hj ht hx k
variable {ka kb:Bool} {z TI TO i1 i2 l1 l2:Addr} {k1 k2:Nat} {xs ys:Vw} {x y a b:Value}
def oH{Q:Vq}(D:ZipApart z TI TO i1 i2 l1 l2)(gz:IsZip s.heap z TI TO .none)(gI:IsPair s.heap TI (.ref i1) (.ref i2))(gO:IsPair s.heap TO a b)
  (g1:Si ka s.heap i1 l1 k1) (g2:Si kb s.heap i2 l2 k2) (t1:Sq ka s.heap l1 xs) (t2:Sq kb s.heap l2 ys) (hx:xs[k1]?=some x) (hy:ys[k2]?=some y)
  (k:∀g,IsZip g z TI TO (rawInt s.heap.objs.size)->IsPair g TO x y->Si ka g i1 l1 (k1+1)->Si kb g i2 l2 (k2+1)->IsPair g s.heap.objs.size x y->
   (∀c o,c≠z->c≠TO->c≠i1->c≠i2->s.heap.get? c=some o->g.get? c=some o)->Q (.ref s.heap.objs.size) { s with heap:=g }) :
  wpAny (model prog w) A (Builtin.«zip.__next__» ⟨[.ref z],[]⟩) (fun fin s'=>∃v,fin = .done (.ret v)/\Q v s') E s:=by
 show wpAny _ _ (field (.ref z) 2 >>= _) _ _ _;refine Sl (TM gz rfl (x:=.bool false) rfl ?_)
 show wpAny _ _ (field (.ref z) 3 >>= _) _ _ _;refine Sl (TM gz rfl (x:=.ref TI) rfl (Sl (TN gI rfl ?_)))
 show wpAny _ _ (Builtin.SmallTypes.ownedTupleIsFree (.ref z) >>= _) _ _ _;refine Sl ?_;unfold Builtin.SmallTypes.ownedTupleIsFree
 refine Sl (TM gz rfl (x:=.none) rfl (Sx ?_));simp only[TH]
 refine Sl (VB (Sl (TM gz rfl (x:=.ref TO) rfl (Sl (T4 gz (by simp) fun h₁ z1 q1=>?_)))))
 replace z1:IsZip h₁ z TI TO .ellipsis:=z1
 refine Sl ?_;simp only[List.zipIdx_cons,List.zipIdx_nil,V2,List.forIn_nil]
 refine Sl (Sl (Vl ?_));show wpAny _ _ (Builtin.SmallTypes.nextOf (.ref i1) >>= _) _ _ _
 refine Sl (Dx (g1.extBut q1.extBut D.i1z) (t1.extBut q1.extBut D.l1z) hx fun h₂ n1 q2=>Sx ?_)
 have o2:IsPair h₂ TO a b:=q2.extBut _ _ D.TOi1 (q1.extBut _ _ D.TOz gO)
 refine Sl (TN o2 rfl (Sl (Wx o2 fun h₃ o3 q3=>?_)))
 replace o3:IsPair h₃ TO x b:=o3
 refine Sl (UX (Sx ?_));refine Sl (Sl (Vl ?_));show wpAny _ _ (Builtin.SmallTypes.nextOf (.ref i2) >>= _) _ _ _
 refine Sl (Dx (((g2.extBut q1.extBut D.i2z).extBut q2.extBut D.i12.symm).extBut q3.extBut D.TOi2.symm) (((t2.extBut q1.extBut D.l2z).extBut q2.extBut D.l2i1).extBut q3.extBut D.l2TO) hy fun h₄ n2 q4=>Sx ?_)
 have o4:IsPair h₄ TO x b:=q4.extBut _ _ D.TOi2 o3
 refine Sl (TN o4 rfl (Sl (Wx o4 fun h₅ o5 q5=>?_)))
 replace o5:IsPair h₅ TO x y:=o5
 refine Sl (UX (Sx (Sx ?_)));refine Sl (TN o5 rfl (Sl (wpAny_newTuple ?_)))
 have sz:h₅.objs.size=s.heap.objs.size:=by rw[q5.1,q4.1,q3.1,q2.1,q1.1]
 have z5:IsZip h₅ z TI TO .ellipsis:=q5.extBut _ _ D.TOz.symm (q4.extBut _ _ D.i2z.symm (q3.extBut _ _ D.TOz.symm (q2.extBut _ _ D.i1z.symm z1)))
 have kk:∀c o,c≠z->c≠TO->c≠i1->c≠i2->s.heap.get? c=some o->h₅.get? c=some o:=fun c o c1 c2 c3 c4 e=>q5.extBut _ _ c2 (q4.extBut _ _ c4 (q3.extBut _ _ c2 (q2.extBut _ _ c3 (q1.extBut _ _ c1 e))))
 have m1:Si ka h₅ i1 l1 (k1+1):=((n1.extBut q3.extBut D.TOi1.symm).extBut q4.extBut D.i12).extBut q5.extBut D.TOi1.symm
 have m2:Si kb h₅ i2 l2 (k2+1):=n2.extBut q5.extBut D.TOi2.symm
 have zl:z < h₅.objs.size:=Sw z5
 show wpAny _ _ (Builtin.SmallTypes.ownedTupleHandOut (.ref z) (.ref h₅.objs.size) >>= _) _ _ _;refine Sl ?_;unfold Builtin.SmallTypes.ownedTupleHandOut
 have z6:IsZip (h₅.push { cls:=.type "tuple",data:=.seq #[x,y] }) z TI TO .ellipsis:=So _ z5
 refine Sl (T4 z6 (by simp) fun h₇ z7 q7=>?_)
 replace z7:IsZip h₇ z TI TO (rawInt h₅.objs.size):=z7
 refine T4 z7 (by simp) fun h₈ z8 q8=>?_
 replace z8:IsZip h₈ z TI TO (rawInt h₅.objs.size):=z8
 have up:∀c o,c≠z->h₅.get? c=some o->h₈.get? c=some o:=fun c o c1 e=>q8.extBut _ _ c1 (q7.extBut _ _ c1 (So _ e))
 have T8:IsPair h₈ h₅.objs.size x y:=q8.extBut _ _ (UW zl) (q7.extBut _ _ (UW zl) (SG _ rfl))
 rw[sz]at z8 T8
 refine Sx ⟨_,rfl,?_⟩
 show Q (.ref h₅.objs.size) _
 rw[sz]
 exact k h₈ z8 (up _ _ D.TOz o5) (m1.at fun o e=>up _ o D.i1z e) (m2.at fun o e=>up _ o D.i2z e) T8 fun c o c1 c2 c3 c4 e=>up c o c1 (kk c o c1 c2 c3 c4 e)
def rT{Q:Fin->Shared->Prop}(hh:A.handled=none)(D:ZipApart z TI TO i1 i2 l1 l2)(gz:IsZip s.heap z TI TO .none)(gI:IsPair s.heap TI (.ref i1) (.ref i2))(gO:IsPair s.heap TO a b)
  (g1:Si ka s.heap i1 l1 k1) (g2:Si kb s.heap i2 l2 k2) (t1:Sq ka s.heap l1 xs) (t2:Sq kb s.heap l2 ys) (he:xs[k1]?=none\/ys[k2]?=none)
  (k:∀(g:Heap) (e:Addr),(∀c o,c≠z->c≠TO->c≠i1->c≠i2->s.heap.get? c=some o->g.get? c=some o)->(∃o,g.get? e=some o/\o.cls = .type "StopIteration")->E (.ref e) { s with heap:=g }) :
  wpAny (model prog w) A (Builtin.«zip.__next__» ⟨[.ref z],[]⟩) Q E s:=by
 show wpAny _ _ (field (.ref z) 2 >>= _) _ _ _;refine Sl (TM gz rfl (x:=.bool false) rfl ?_)
 show wpAny _ _ (field (.ref z) 3 >>= _) _ _ _;refine Sl (TM gz rfl (x:=.ref TI) rfl (Sl (TN gI rfl ?_)))
 show wpAny _ _ (Builtin.SmallTypes.ownedTupleIsFree (.ref z) >>= _) _ _ _;refine Sl ?_;unfold Builtin.SmallTypes.ownedTupleIsFree
 refine Sl (TM gz rfl (x:=.none) rfl (Sx ?_));simp only[TH]
 refine Sl (VB (Sl (TM gz rfl (x:=.ref TO) rfl (Sl (T4 gz (by simp) fun h₁ z1 q1=>?_)))))
 replace z1:IsZip h₁ z TI TO .ellipsis:=z1
 refine Sl ?_;simp only[List.zipIdx_cons,List.zipIdx_nil,V2,List.forIn_nil]
 refine Sl (Sl (Vl ?_));show wpAny _ _ (Builtin.SmallTypes.nextOf (.ref i1) >>= _) _ _ _
 cases hx:xs[k1]? with
 |none=>
  refine Sl (B_ hh (g1.extBut q1.extBut D.i1z) (t1.extBut q1.extBut D.l1z) hx fun h₂ e q2 ⟨oe,ge,ce⟩=>?_)
  have z2:IsZip h₂ z TI TO .ellipsis:=q2 _ _ D.i1z.symm z1
  have ez:e≠z:=fun u=>by subst u;rw[z2]at ge;cases ge;simp at ce
  exact T4 z2 (by simp) fun h₃ _ q3=>k h₃ e (fun c o c1 _ c3 _ u=>q3.extBut _ _ c1 (q2 _ _ c3 (q1.extBut _ _ c1 u))) ⟨oe,q3.extBut _ _ ez ge,ce⟩
 |some x=>
  have hy:ys[k2]?=none:=he.elim (fun q=>by rw[hx]at q;cases q) id
  refine Sl (Dx (g1.extBut q1.extBut D.i1z) (t1.extBut q1.extBut D.l1z) hx fun h₂ n1 q2=>Sx ?_)
  have o2:IsPair h₂ TO a b:=q2.extBut _ _ D.TOi1 (q1.extBut _ _ D.TOz gO)
  refine Sl (TN o2 rfl (Sl (Wx o2 fun h₃ o3 q3=>?_)))
  refine Sl (UX (Sx ?_));refine Sl (Sl (Vl ?_));show wpAny _ _ (Builtin.SmallTypes.nextOf (.ref i2) >>= _) _ _ _
  refine Sl (B_ hh (((g2.extBut q1.extBut D.i2z).extBut q2.extBut D.i12.symm).extBut q3.extBut D.TOi2.symm) (((t2.extBut q1.extBut D.l2z).extBut q2.extBut D.l2i1).extBut q3.extBut D.l2TO) hy fun h₄ e q4 ⟨oe,ge,ce⟩=>?_)
  have z4:IsZip h₄ z TI TO .ellipsis:=q4 _ _ D.i2z.symm (q3.extBut _ _ D.TOz.symm (q2.extBut _ _ D.i1z.symm z1))
  have ez:e≠z:=fun u=>by subst u;rw[z4]at ge;cases ge;simp at ce
  exact T4 z4 (by simp) fun h₅ _ q5=>k h₅ e (fun c o c1 c2 c3 c4 u=>q5.extBut _ _ c1 (q4 _ _ c4 (q3.extBut _ _ c2 (q2.extBut _ _ c3 (q1.extBut _ _ c1 u))))) ⟨oe,q5.extBut _ _ ez ge,ce⟩
def ke{Q:Option Value->Shared->Prop}(D:ZipApart z TI TO i1 i2 l1 l2)(gz:IsZip s.heap z TI TO .none)(gI:IsPair s.heap TI (.ref i1) (.ref i2))(gO:IsPair s.heap TO a b)
  (g1:Si ka s.heap i1 l1 k1) (g2:Si kb s.heap i2 l2 k2) (t1:Sq ka s.heap l1 xs) (t2:Sq kb s.heap l2 ys) (hx:xs[k1]?=some x) (hy:ys[k2]?=some y)
  (k:∀g,IsZip g z TI TO (rawInt s.heap.objs.size)->IsPair g TO x y->Si ka g i1 l1 (k1+1)->Si kb g i2 l2 (k2+1)->IsPair g s.heap.objs.size x y->
   (∀c o,c≠z->c≠TO->c≠i1->c≠i2->s.heap.get? c=some o->g.get? c=some o)->Q (some (.ref s.heap.objs.size)) { s with heap:=g }):wpAny (model prog w) A (pyNext (.ref z)) Q E s:=by
 have ty:s.TypeIs (.ref z) "zip":=⟨_,gz,rfl⟩
 unfold pyNext
 exact Sl (wpAny_attempt (Ue (name:=Str.ofString "__next__") ty US (UI US ty Wn
  (oH D gz gI gO g1 g2 t1 t2 hx hy fun g a1 a2 a3 a4 a5 a6=>Sx (k g a1 a2 a3 a4 a5 a6)) (Wc _))))
def lO{Q:Option Value->Shared->Prop}(hh:A.handled=none)(D:ZipApart z TI TO i1 i2 l1 l2)(gz:IsZip s.heap z TI TO .none)(gI:IsPair s.heap TI (.ref i1) (.ref i2))(gO:IsPair s.heap TO a b)
  (g1:Si ka s.heap i1 l1 k1) (g2:Si kb s.heap i2 l2 k2) (t1:Sq ka s.heap l1 xs) (t2:Sq kb s.heap l2 ys) (he:xs[k1]?=none\/ys[k2]?=none)
  (k:∀g:Heap,(∀c o,c≠z->c≠TO->c≠i1->c≠i2->s.heap.get? c=some o->g.get? c=some o)->Q none { s with heap:=g }):wpAny (model prog w) A (pyNext (.ref z)) Q E s:=by
 have ty:s.TypeIs (.ref z) "zip":=⟨_,gz,rfl⟩
 unfold pyNext
 refine Sl (wpAny_attempt (Ue (name:=Str.ofString "__next__") ty US (UI US ty Wn (rT hh D gz gI gO g1 g2 t1 t2 he fun g e kk ⟨o,ho,hc⟩=>?_) (Wc _))))
 exact Sl (wpAny_isInstance (T:="StopIteration") (b:=true) ⟨o,ho,hc⟩ isSubtype_stop (Sx (k _ kk)))
end
noncomputable abbrev it(kd:Bool)(l:Addr):Obj:={ cls:=.type (cond kd "list_iterator" "tuple_iterator"),data:=.fields #[.ref l,.int 0 0] }
def Si.mk{kd:Bool}{h:Heap}{a l:Addr}(e:h.get? a=some (it kd l)):Si kd h a l 0:=match kd,e with|true,e=>⟨_,e,rfl,rfl⟩|false,e=>⟨_,e,rfl,rfl⟩
noncomputable abbrev H1(ka:Bool)(h:Heap)(l1:Addr):Heap:=h.push (it ka l1)
noncomputable abbrev H2(ka kb:Bool)(h:Heap)(l1 l2:Addr):Heap:=(H1 ka h l1).push (it kb l2)
noncomputable abbrev H3(ka kb:Bool)(h:Heap)(l1 l2:Addr):Heap:=(H2 ka kb h l1 l2).push { cls:=.type "tuple",data:=.seq #[.ref h.objs.size,.ref (H1 ka h l1).objs.size] }
noncomputable abbrev H4(ka kb:Bool)(h:Heap)(l1 l2:Addr):Heap:=(H3 ka kb h l1 l2).push { cls:=.type "tuple",data:=.seq #[.none,.none] }
noncomputable abbrev H5(ka kb:Bool)(h:Heap)(l1 l2:Addr):Heap:=(H4 ka kb h l1 l2).push { cls:=.type "zip",data:=.fields #[.none,.bool false,.bool false,.ref (H2 ka kb h l1 l2).objs.size,.ref (H3 ka kb h l1 l2).objs.size] }
def fh(ka kb:Bool)(l1 l2:Addr)(xs ys:Vw) :
  Meets (Builtin.«zip.__new__» ⟨[.type "zip",.ref l1,.ref l2],[]⟩) (fun _ R s=>Sq ka s.heap l1 xs/\Sq kb s.heap l2 ys/\R (.ok (.ret (.ref (H4 ka kb s.heap l1 l2).objs.size))) { s with heap:=H5 ka kb s.heap l1 l2 }):=
 .of_wp fun prog w A R s h=>by
  obtain⟨hp,g,d,tk,os⟩:=s;obtain⟨e1,e2,h⟩:=h
  have hsub:=sub_zip
  match ka,kb,e1,e2,h with
  |false,false,e1,e2,h=>
   have L1:Heap.IsTuple (Shared.heap ⟨hp,g,d,tk,os⟩) l1 xs:=e1
   have L2:Heap.IsTuple (Shared.heap ⟨hp.push { cls:=.type "tuple_iterator",data:=.fields #[.ref l1,.int 0 0] },g,d,tk,os⟩) l2 ys:=UA e2 _
   wp_walk using Tv L1,Tv L2
   exact⟨_,rfl,h⟩
  |false,true,e1,e2,h=>
   have L1:Heap.IsTuple (Shared.heap ⟨hp,g,d,tk,os⟩) l1 xs:=e1
   have L2:Heap.IsList (Shared.heap ⟨hp.push { cls:=.type "tuple_iterator",data:=.fields #[.ref l1,.int 0 0] },g,d,tk,os⟩) l2 ys:=UJ e2 _
   wp_walk using Tv L1,TR L2
   exact⟨_,rfl,h⟩
  |true,false,e1,e2,h=>
   have L1:Heap.IsList (Shared.heap ⟨hp,g,d,tk,os⟩) l1 xs:=e1
   have L2:Heap.IsTuple (Shared.heap ⟨hp.push { cls:=.type "list_iterator",data:=.fields #[.ref l1,.int 0 0] },g,d,tk,os⟩) l2 ys:=UA e2 _
   wp_walk using TR L1,Tv L2
   exact⟨_,rfl,h⟩
  |true,true,e1,e2,h=>
   have L1:Heap.IsList (Shared.heap ⟨hp,g,d,tk,os⟩) l1 xs:=e1
   have L2:Heap.IsList (Shared.heap ⟨hp.push { cls:=.type "list_iterator",data:=.fields #[.ref l1,.int 0 0] },g,d,tk,os⟩) l2 ys:=UJ e2 _
   wp_walk using TR L1,TR L2
   exact⟨_,rfl,h⟩
section
variable {ka kb:Bool} {prog:Program} {w:World} {A:Around} {E:Vq} {s:Shared}
def gG{l1 l2:Addr}{xs ys:Vw}{Q:Vq}(e1:Sq ka s.heap l1 xs)(e2:Sq kb s.heap l2 ys)
  (k:∀g,IsZip g (s.heap.objs.size+4) (s.heap.objs.size+2) (s.heap.objs.size+3) .none->IsPair g (s.heap.objs.size+2) (.ref s.heap.objs.size) (.ref (s.heap.objs.size+1))->
   IsPair g (s.heap.objs.size+3) .none .none->Si ka g s.heap.objs.size l1 0->Si kb g (s.heap.objs.size+1) l2 0->
   (∀c o,s.heap.get? c=some o->g.get? c=some o)->Q (.ref (s.heap.objs.size+4)) { s with heap:=g }) :
  wpAny (model prog w) A (call (.type "zip") [.ref l1,.ref l2]) Q E s:=by
 refine callType_new F.called_zip (by decide) (F.typeCall_zip_2 _ _) (F.newCall_zip_2 _ _) (fun obj=>F.args_object_init_3 obj _ _) F.entry_zip_new (fh ka kb l1 l2 xs ys) ⟨e1,e2,?_⟩
 have z1:(H1 ka s.heap l1).objs.size=s.heap.objs.size+1:=Uh ..
 have z2:(H2 ka kb s.heap l1 l2).objs.size=s.heap.objs.size+2:=by rw[Uh,z1]
 have z3:(H3 ka kb s.heap l1 l2).objs.size=s.heap.objs.size+3:=by rw[Uh,z2]
 have z4:(H4 ka kb s.heap l1 l2).objs.size=s.heap.objs.size+4:=by rw[Uh,z3]
 have g5:(H5 ka kb s.heap l1 l2).get? (H4 ka kb s.heap l1 l2).objs.size=some _:=SG _ rfl
 have g4:(H5 ka kb s.heap l1 l2).get? (H3 ka kb s.heap l1 l2).objs.size=some _:=So _ (SG _ rfl)
 have g3:(H5 ka kb s.heap l1 l2).get? (H2 ka kb s.heap l1 l2).objs.size=some _:=So _ (So _ (SG _ rfl))
 have g2:(H5 ka kb s.heap l1 l2).get? (H1 ka s.heap l1).objs.size=some _:=So _ (So _ (So _ (SG _ rfl)))
 have g1:(H5 ka kb s.heap l1 l2).get? s.heap.objs.size=some _:=So _ (So _ (So _ (So _ (SG _ rfl))))
 show _/\_
 rw[z2,z3,z4]at g5
 rw[z1,z2]at g3
 rw[z3]at g4
 rw[z1]at g2
 rw[z4]
 exact⟨⟨_,g5,rfl⟩,k _ g5 g3 g4 (.mk g1) (.mk g2) fun c o e=>So _ (So _ (So _ (So _ (So _ e))))⟩
end
end Zt
namespace L2
open PySem PySem.Spec PyProof.Rows
section
variable {X:Cx} {pins:Va} {σ:St} {H:Hp} {s:Shared} {h':Heap}
def Inv.IU{t':Nat}{fp:List Addr}(I:Inv X pins σ H s)(k:∀b o,b ∉ fp->s.heap.get? b=some o->h'.get? b=some o)(hf:∀b∈fp,fD X pins H b):Inv X pins σ H { s with heap:=h',toks:=t' }:=by
 have NT:∀b u,H b=some u->b ∉ fp:=fun b u e z=>by rw[(hf b z).1]at e;cases e
 refine I.step (g':=s.gens) (d':=s.drawn) (ch:=fp) (fun b hb=>?_) (fun b o _ _ hc e _=>k b o hc e) (fun b o _ _ hc e _=>⟨o.slots,k b o hc e⟩) (fun _ _ _ _ n=>n)
  (fun b o hc e=>⟨o,k b o hc e⟩) (fun _ _ e=>e) (fun _ _ _ e=>e) (fun b ps e=>⟨#[],by rw[e];simp⟩) (fun m hm=>?_) (fun b u e=>?_) I.bare
 ·obtain⟨f0,f1,f2,f3,f4,f5⟩:=hf b hb
  exact⟨f3,f1,f4,f5⟩
 ·obtain⟨o,es,ep,ho,r⟩:=hm
  exact⟨o,es,ep,k _ o (fun z=>(hf _ z).2.1 rfl) ho,r⟩
 ·refine(I.hok b u e).stay (fun c v hc q=>k c v ?_ q) (fun _ q=>q) fun _ _ q=>q
  rcases hc with z|z
  ·rw[z];exact NT b u e
  ·exact NT c _ z
def Inv.KS{D:Addr}{us:Vv}{ys:List V}(I:Inv X pins σ H s)(f:fD X pins H D)(e:Ia s.heap D us.toArray)(r:Vals ys us)(hz:ys.length<=sizeLine) :
  Inv X pins σ (upd H D (.tup ys)) s:=by
 obtain⟨f0,f1,f2,f3,f4,f5⟩:=f
 have nD:∀b u,H b=some u->b≠D:=fun b u q=>bp q f0
 have hok:JI X.prog X.w (upd H D (.tup ys)) s.heap:=fun b u q=>by
  by_cases hb:b=D
  ·subst hb
   rw[aD]at q
   cases q
   exact⟨hz,us,r,e⟩
  ·rw[aI hb]at q
   exact(I.hok b u q).stay (fun _ _ _ z=>z) (fun c z=>by rw[aI (nD c _ z)];exact z) fun c xs z=>by rw[aI (nD c _ z)];exact z
 exact I.step (H':=upd H D (.tup ys)) (h':=s.heap) (g':=s.gens) (t':=s.toks) (d':=s.drawn) (ch:=[D])
  (fun b hb=>by
   have z:b=D:=by simpa using hb
   subst z
   exact⟨f3,f1,f4,f5⟩)
  (fun _ _ _ _ _ q _=>q) (fun _ o _ _ _ q _=>⟨o.slots,q⟩)
  (fun b o hb _ n=>by rw[aI (fun z=>hb (by simp[z]))];exact n)
  (fun _ o _ q=>⟨o,q⟩) (fun b xs q=>by rw[aI (nD b _ q)];exact q) (fun b o u q=>by rw[aI (nD b _ q)];exact q)
  (fun b ps q=>⟨#[],by rw[aI (nD b _ q),q];simp⟩) (fun _ q=>q) hok I.bare
end
def lP(kd:Bool)(K:Vo)(H:Hp)(a:Addr)(xs:List V):Prop:=cond kd (SqL K H a xs) (SqT K H a xs)
def Inv.Ke{X:Cx}{pins:Va}{σ:St}{H:Hp}{s:Shared}{kd:Bool}{a:Addr}{xs:List V}(I:Inv X pins σ H s)(h:lP kd X.K H a xs):∃its:List Value,Vals xs its/\Zt.Sq kd s.heap a its.toArray:=by
 cases kd with
 |true=>obtain⟨i,r,p,z⟩:=I.list h;exact⟨i,r,p.isList⟩
 |false=>obtain⟨i,r,p,z⟩:=I.tuple h;exact⟨i,r,p⟩
def Inv.JC{X:Cx}{pins:Va}{σ:St}{H:Hp}{s:Shared}{kd:Bool}{a:Addr}{xs ys:List V}(I:Inv X pins σ H s)(h:lP kd X.K H a xs)(g:lP kd X.K H a ys):xs=ys:=by
 cases kd with
 |true=>exact I.Kw h g
 |false=>exact I.Kd h g
noncomputable def Gd(ka kb:Bool)(K:Vo)(a b:Addr):It:=
  ⟨fun i H=>∃xs ys x y,lP ka K H a xs/\lP kb K H b ys/\xs[i]?=some x/\ys[i]?=some y,
   fun i H v H'=>∃p x y,v = .ref p/\H p=none/\H'=upd H p (.tup [x,y])/\∀xs ys,lP ka K H a xs->lP kb K H b ys->xs[i]?=some x/\ys[i]?=some y,
   fun i H=>∃xs ys,lP ka K H a xs/\lP kb K H b ys/\(xs.length<=i\/ys.length<=i)⟩
def v6{ka kb:Bool}{P:Program}{w:World}{K:Vo}{elts:List Expr}{k0:Nat}{IY:Pos}{z TI TO i1 i2 a b:Addr}(D:ZipApart z TI TO i1 i2 a b) :
  m8 P w K (.Tuple elts k0 IY) (Gd ka kb K a b) [z,TI,TO,i1,i2] z (fun i h=>IsZip h z TI TO .none/\IsPair h TI (.ref i1) (.ref i2)/\(∃x y,IsPair h TO x y)/\Zt.Si ka h i1 a i/\Zt.Si kb h i2 b i) where
 mem:=by simp
 obj:=fun i h st c hc=>by
  obtain⟨gz,gI,⟨x,y,gO⟩,g1,g2⟩:=st
  obtain⟨o1,_,e1,d1⟩:=g1.ob;obtain⟨o2,_,e2,d2⟩:=g2.ob
  simp only[Sv,SS,T9]at hc
  rcases hc with rfl|rfl|rfl|rfl|rfl
  ·exact⟨_,gz,fun v q=>by cases q⟩
  ·exact⟨_,gI,fun v q=>by cases q⟩
  ·exact⟨_,gO,fun v q=>by cases q⟩
  ·exact⟨_,e1,fun v q=>by rw[d1]at q;cases q⟩
  ·exact⟨_,e2,fun v q=>by rw[d2]at q;cases q⟩
 keep:=fun i h h' st k=>by
  obtain⟨gz,gI,⟨x,y,gO⟩,g1,g2⟩:=st
  exact⟨k z (by simp) _ gz,k TI (by simp) _ gI,⟨x,y,k TO (by simp) _ gO⟩,g1.at fun o e=>k i1 (by simp) o e,g2.at fun o e=>k i2 (by simp) o e⟩
 item:=by
  intro X hP hw hK hc i pins s σ H E I hf st hg
  subst hP hw hK
  obtain⟨gz,gI,⟨ta,tb,gO⟩,g1,g2⟩:=st
  obtain⟨xs,ys,x,y,KU,Nz,hx,hy⟩:=hg
  obtain⟨ia,ra,pa⟩:=I.Ke KU
  obtain⟨ib,rb,pb⟩:=I.Ke Nz
  obtain⟨u,hu,ru⟩:=ra.get hx
  obtain⟨v,hv,rv⟩:=rb.get hy
  refine Zt.ke D gz gI gO g1 g2 pa pb (x:=u) (y:=v) (by simpa using hu) (by simpa using hv) fun g a1 a2 a3 a4 a5 a6=>?_
  refine⟨_,rfl,wpAny_letOwnedTupleGo_zip (s:={ s with heap:=g }) a1 fun g' z' q'=>?_⟩
  have kk:∀c o,c ∉ [z,TI,TO,i1,i2]->s.heap.get? c=some o->g'.get? c=some o:=fun c o hc e=>by
   simp only[Sv,SS,T9,not_or]at hc
   exact q'.extBut _ _ hc.1 (a6 c o hc.1 hc.2.2.1 hc.2.2.2.1 hc.2.2.2.2 e)
  have I1:Inv X pins σ H { s with heap:=g' }:=I.IU (t':=s.toks) kk hf
  have f0:fD X pins H s.heap.objs.size:=I.J5 (Ss _) (I.hok.fresh (Ss _))
  have eT:Ia g' s.heap.objs.size [u,v].toArray:=⟨_,q'.extBut _ _ (UW (Sw gz)) a5,rfl,rfl,_,rfl⟩
  have I2:=I1.KS f0 eT (.cons ru (.cons rv .nil)) (by show 2<=sizeLine;decide)
  refine⟨.ref s.heap.objs.size,_,I2,rfl,⟨s.heap.objs.size,x,y,rfl,f0.1,rfl,fun xs' ys' h1 h2=>by rw[I.JC h1 KU,I.JC h2 Nz];exact⟨hx,hy⟩⟩,
   ⟨z',q'.extBut _ _ D.TIz (a6 TI _ D.TIz D.TITO D.TIi1 D.TIi2 gI),⟨_,_,q'.extBut _ _ D.TOz a2⟩,a3.extBut q'.extBut D.i1z,a4.extBut q'.extBut D.i2z⟩,fun c hc=>?_⟩
  have hlt:c < s.heap.objs.size:=by
   obtain⟨_,_,e1,_⟩:=g1.ob
   obtain⟨_,_,e2,_⟩:=g2.ob
   simp only[Sv,SS,T9]at hc
   rcases hc with rfl|rfl|rfl|rfl|rfl
   ·exact Sw gz
   ·exact Sw gI
   ·exact Sw gO
   ·exact Sw e1
   ·exact Sw e2
  rw[aI (Th hlt)]
  exact(hf c hc).1
 done:=by
  intro X hP hw hK hc i pins s σ H E I hf st hg
  subst hP hw hK
  obtain⟨gz,gI,⟨ta,tb,gO⟩,g1,g2⟩:=st
  obtain⟨xs,ys,KU,Nz,hl⟩:=hg
  obtain⟨ia,ra,pa⟩:=I.Ke KU
  obtain⟨ib,rb,pb⟩:=I.Ke Nz
  have la:=ra.length
  have lb:=rb.length
  refine Zt.lO (I.ok.hd hc) D gz gI gO g1 g2 pa pb ?_ fun g kk=>⟨rfl,I.IU (t':=s.toks) (fun c o hc e=>?_) hf⟩
  ·rcases hl with q|q
   ·exact .inl (by simp;omega)
   ·exact .inr (by simp;omega)
  ·simp only[Sv,SS,T9,not_or]at hc
   exact kk c o hc.1 hc.2.2.1 hc.2.2.2.1 hc.2.2.2.2 e
 self:=fun _ _ _ _ _ st h=>Wo st.1 h
section
variable {X:Cx}
def Ge(K:Vo)(ta:TA):TI:=fun σ H R=>ta σ H fun vs H1=>∃ka kb a b,vs=[.ref a,.ref b]/\(∃xs,lP ka K H1 a xs)/\(∃ys,lP kb K H1 b ys)/\R (Gd ka kb K a b) H1
def v7{elts:List Expr}{k0:Nat}{IY:Pos}{a b:Expr}{ta:TA}{p pos:Pos}(hg:Gl X "zip")(hm:X.mg "zip" = none)(hv:bootBuiltins "zip" = some (.type "zip"))(ha:PA X [a,b] ta)
  (hs:starEach [a,b] X.env=[(false,eval a X.env),(false,eval b X.env)]:=by rfl) (hs2:starEach [b] X.env=[(false,eval b X.env)]:=by rfl):PI X (.Tuple elts k0 IY) (.Call (.Name "zip" p) [a,b] [] pos) (Ge X.K ta):=by
 intro pins s σ H R I h
 refine Call_ (eO I hg hm hv (T5 (Hj (ha pos pins s σ H _ I h) fun us s1 ⟨vs,H1,I1,r1,q1⟩=>?_) (by rw[hs,hs2]) (by rw[hs2];rfl)))
 obtain⟨ka,kb,a,b,e,⟨xs,qa⟩,⟨ys,qb⟩,q⟩:=q1
 subst e
 obtain⟨u,v,rfl,ru,rv⟩:=vF r1
 cases ru
 cases rv
 obtain⟨ia,ra,pa⟩:=I1.Ke qa
 obtain⟨ib,rb,pb⟩:=I1.Ke qb
 have la:a < s1.heap.objs.size:=pa.lt
 have lb:b < s1.heap.objs.size:=pb.lt
 refine Zt.gG pa pb fun g gz gI gO g1 g2 kk=>?_
 refine Wo (s:={ s1 with heap:=g }) gz ?_
 refine⟨_,[s1.heap.objs.size+4,s1.heap.objs.size+2,s1.heap.objs.size+3,s1.heap.objs.size,s1.heap.objs.size+1],_,_,H1,rfl,I1.kept (t':=s1.toks) kk,v6 (zipApart_new la lb),⟨gz,gI,⟨_,_,gO⟩,g1,g2⟩,fun c hc=>?_,q⟩
 have hle:s1.heap.objs.size<=c:=by
  simp only[Sv,SS,T9]at hc
  rcases hc with rfl|rfl|rfl|rfl|rfl
  ·exact TQ _ _
  ·exact TQ _ _
  ·exact TQ _ _
  ·exact Ss _
  ·exact TQ _ _
 exact I1.J5 hle (I1.hok.fresh hle)
def KD(P:Program)(w:World)(K:Vo)(a:Addr)(kvs:List (bI×V)):Prop:=(a == sysModules)=false/\∃o vs,K.lookup a=some o/\KV kvs vs/\Obj.IsDictOf (bd P w) o vs
def Eo(a:Addr)(kvs:List (bI×V))(ty tx:TE):TE:=fun σ H Q=>ty σ H fun y H2=>tx σ H2 fun z H3=>∃k,y=kV k/\Q ((iN kvs k).getD z) H3
def zh{x:Str}{e f:Expr}{px apos cpos:Pos}{ty tx:TE}{a:Addr}{kvs:List (bI×V)}(hu:X.A.units+1 < cLine)(hg:Gl X x)(hm:X.mg x=some (.ref a))(hD:KD X.prog X.w X.K a kvs)(he:PE X e ty)(hf:PE X f tx)(m:M2 X (.Name x px) "get" apos e f cpos)
  (hd:(x == ("__debug__":Str))=false:=by decide):PE X (.Call (.Attribute (.Name x px) "get" apos) [e,f] [] cpos) (Eo a kvs ty tx):=by
 intro pins s σ H Q I h
 obtain⟨hsys,o,vs,hk,rel,ii⟩:=hD
 have dd:∀{s1:Shared} {H1:Hp},Inv X pins σ H1 s1->s1.heap.DictOf (bd X.prog X.w) a vs:=fun I1=>Heap.dictOf_iff.mpr ⟨o,I1.Mp a o hk,ii⟩
 refine wpAny_Call_method m.base m.few m.line PySem.F.plainAttrs_dict PySem.F.slot_dict_get PySem.F.type_dict_get (sO I hg hm ?_ hd)
 refine⟨(dd I).typeIs,fun b q=>?_,?_⟩
 ·cases q
  obtain⟨ob,_,_,h1,h2,_⟩:=dd I
  exact⟨ob,h1,h2.2.1⟩
 rw[m.trees]
 refine VC rfl (Ww (U4 (Hj (he pins s σ H _ I h) fun iv s2 ⟨y,H2,I2,ry,q2⟩=>
  U4 (Hj (hf pins s2 σ H2 _ I2 q2) fun fv s3 ⟨z,H3,I3,rz,k,ey,q3⟩=>VI ?_))))
 subst ey
 refine call_meetsIn PySem.F.slot_dict_get (dd I3).typeIs PySem.F.entry_dict_get (PySem.F.args_dict_get_3 _ _ _) (meets_dict_get_default (bd X.prog X.w) a (lL ry) hsys fv) ⟨_,(dd I3).mapOf,⟨_,H3,I3.tok _,?_,q3⟩⟩
 exact(rel.val k).getD rz
end
section
variable {env:Env} {rest:List Expr} {pos:Pos}
def uy{a:Expr}{gs:List Comprehension}{sc:Scope}:starEach (.ListComp a gs sc pos::rest) env=(false,eval (.ListComp a gs sc pos) env)::starEach rest env:=rfl
end
noncomputable def Gf(K:Vo)(a:Addr):It:=
  ⟨fun i H=>∃xs x,SqL K H a xs/\xs[i]?=some x,
   fun i H v H'=>∃p x,v = .ref p/\H p=none/\H'=upd H p (.tup [.int (i:Nat),x])/\∀xs,SqL K H a xs->xs[i]?=some x,
   fun i H=>∃xs,SqL K H a xs/\xs.length<=i⟩
def uz{P:Program}{w:World}{K:Vo}{elts:List Expr}{k0:Nat}{IY:Pos}{e it a:Addr}(hei:e≠it) :
  m8 P w K (.Tuple elts k0 IY) (Gf K a) [e,it] e (fun i h=>(∃old,IsEnum h e it i old)/\h.IsListIter it a i) where
 mem:=by simp
 obj:=fun i h st c hc=>by
  obtain⟨⟨old,ge⟩,⟨o1,e1,_,d1⟩⟩:=st
  simp only[Sv,SS,T9]at hc
  rcases hc with rfl|rfl
  ·exact⟨_,ge,fun v q=>by cases q⟩
  ·exact⟨_,e1,fun v q=>by rw[d1]at q;cases q⟩
 keep:=fun i h h' st k=>by
  obtain⟨⟨old,ge⟩,g1⟩:=st
  exact⟨⟨old,k e (by simp) _ ge⟩,g1.at fun o q=>k it (by simp) o q⟩
 item:=by
  intro X hP hw hK hc i pins s σ H E I hf st hg
  subst hP hw hK
  obtain⟨⟨old,ge⟩,g1⟩:=st
  obtain⟨xs,x,KU,hx⟩:=hg
  obtain⟨ia,ra,pa,za⟩:=I.list KU
  obtain⟨u,hu,ru⟩:=ra.get hx
  refine wpAny_pyNext_enum_item ge g1 pa.isList (x:=u) (by simpa using hu) hei fun g a1 a2 a3 a4 a5=>?_
  refine⟨_,rfl,wpAny_letOwnedTupleGo_enum (s:={ s with heap:=g,toks:=s.toks+1 }) a1 fun g' z' q'=>?_⟩
  have kk:∀c o,c ∉ [e,it]->s.heap.get? c=some o->g'.get? c=some o:=fun c o hc q=>by
   simp only[Sv,SS,T9,not_or]at hc
   exact(q'.2 c hc.1).trans (a5 c o hc.1 hc.2 q)
  have I1:Inv X pins σ H { s with heap:=g',toks:=s.toks+1 }:=I.IU kk hf
  have f0:fD X pins H s.heap.objs.size:=I.J5 (Ss _) (I.hok.fresh (Ss _))
  have Pn:s.heap.objs.size≠e:=UW (Sw ge)
  have eT:Ia g' s.heap.objs.size [Value.int i s.toks,u].toArray:=⟨_,(q'.2 _ Pn).trans a3,rfl,rfl,_,rfl⟩
  have I2:=I1.KS (ys:=[.int i,x]) f0 eT (.cons ⟨_,rfl⟩ (.cons ru .nil)) (by show 2<=sizeLine;decide)
  refine⟨.ref s.heap.objs.size,_,I2,rfl,⟨s.heap.objs.size,x,rfl,f0.1,rfl,fun xs' h1=>by rw[I.Kw h1 KU];exact hx⟩,⟨⟨u,by simpa using z'⟩,a2.at fun o q=>(q'.2 it hei.symm).trans q⟩,fun c hc=>?_⟩
  have hlt:c < s.heap.objs.size:=by
   obtain⟨o1,e1,_⟩:=g1
   simp only[Sv,SS,T9]at hc
   rcases hc with rfl|rfl
   ·exact Sw ge
   ·exact Sw e1
  rw[aI (Th hlt)]
  exact(hf c hc).1
 done:=by
  intro X hP hw hK hc i pins s σ H E I hf st hg
  subst hP hw hK
  obtain⟨⟨old,ge⟩,g1⟩:=st
  obtain⟨xs,KU,hl⟩:=hg
  obtain⟨ia,ra,pa,za⟩:=I.list KU
  have la:=ra.length
  refine wpAny_pyNext_enum_end (I.ok.hd hc) ge g1 pa.isList (by simp;omega) fun g kk=>⟨rfl,I.IU (t':=s.toks) (fun c o hc q=>?_) hf⟩
  simp only[Sv,SS,T9,not_or]at hc
  exact kk c o hc.2 q
 self:=fun _ _ _ _ _ st h=>by
  obtain⟨⟨old,ge⟩,_⟩:=st
  exact We ge h
end L2
namespace Et
open PySem
open Sem (wp)
open AutoSeq1 (wpAny_loadPart')
def AJ{P:Program}{w:World}{A:Around}(hh:A.handled=none)(it t:Addr)(hne:t≠it)(its:Vw) :
  Draws P w A it [it,t] its.size (fun i v=>its[i]?=some v) (fun i h=>h.IsTupleIter it t i/\h.IsTuple t its) where
 live:=fun i h st=>let ⟨⟨o,e,_⟩,_⟩:=st;⟨o,e⟩
 frame:=fun i h h' st k=>⟨st.1.at fun o e=>k it (by simp) o e,let ⟨o,e,r⟩:=st.2;⟨o,k t (by simp) o e,r⟩⟩
 item:=fun i s Q E hi st hQ=>Zt.nx st.1 st.2 (VT hi) fun g a b=>hQ _ g s.toks (VT hi) ⟨a,st.2.extBut b.extBut hne⟩ b
 done:=fun s Q E st hE=>Zt.GI hh st.1 st.2 (VD (Ss _)) hE
noncomputable abbrev E1(h:Heap)(l:Addr):Heap:=h.push { cls:=.type "tuple_iterator",data:=.fields #[.ref l,.int 0 0] }
noncomputable abbrev E2(h:Heap)(l:Addr):Heap:=(E1 h l).push { cls:=.type "enumerate",data:=.fields #[.none,.bool false,.ref h.objs.size,rawInt 0,.none,.none] }
def fh(l:Addr)(its:Vw)(n:Nat)(dct:Option Addr)(sl:Array (Option Value)) :
  Meets (Builtin.«enumerate.__new__» ⟨[.type "enumerate",.ref l],[]⟩) (fun _ R s=>s.heap.get? l=some { cls:=.type "tuple",dict:=dct,data:=.seq its n,slots:=sl }/\R (.ok (.ret (.ref (E1 s.heap l).objs.size))) { s with heap:=E2 s.heap l }):=
 .of_wp fun prog w A R s h=>by
  obtain⟨hp,g,d,tk,os⟩:=s;obtain⟨hl,h⟩:=h
  have hsub:=sub_enumerate
  have T:Heap.IsTuple (Shared.heap ⟨hp,g,d,tk,os⟩) l its:=⟨_,hl,rfl,n,rfl⟩
  wp_walk using TZ hl
  refine wpAny_stack_any fun st=>Sx ?_
  split
  ·rename_i c _ _ _ _ _
   cases (c == Value.type "enumerate")
   ·wp_walk using TZ hl,Tv T
    exact⟨_,rfl,h⟩
   ·wp_walk using TZ hl,Tv T
    exact⟨_,rfl,h⟩
  ·wp_walk using TZ hl,Tv T
   exact⟨_,rfl,h⟩
def gG{P:Program}{w:World}{A:Around}{E:Vq}{s:Shared}{l:Addr}{its:Vw}{Q:Vq}(hT:s.heap.IsTuple l its)
  (k:∀g,IsEnum g (s.heap.objs.size+1) s.heap.objs.size 0 .none->g.IsTupleIter s.heap.objs.size l 0->(∀b o,s.heap.get? b=some o->g.get? b=some o)->Q (.ref (s.heap.objs.size+1)) { s with heap:=g }) :
  wpAny (model P w) A (call (.type "enumerate") [.ref l]) Q E s:=by
 obtain⟨⟨c,dct,dt,sl⟩,hl,hc,n,hd⟩:=hT
 replace hc:c = .type "tuple":=hc
 replace hd:dt = .seq its n:=hd
 subst hc hd
 refine callType_new F.called_enumerate (by decide) (F.typeCall_enumerate_1 _) (F.newCall_enumerate_1 _) (fun obj=>F.args_object_init_2 obj _) F.entry_enumerate_new (fh l its n dct sl) ⟨hl,?_⟩
 have hz:(E1 s.heap l).objs.size=s.heap.objs.size+1:=Uh ..
 show _/\_
 rw[hz]
 have he:IsEnum (E2 s.heap l) (s.heap.objs.size+1) s.heap.objs.size 0 .none:=by
  have q:=SG (E1 s.heap l) (o:={ cls:=.type "enumerate",data:=.fields #[.none,.bool false,.ref s.heap.objs.size,rawInt 0,.none,.none] }) rfl
  rw[hz]at q
  exact q
 exact⟨⟨_,he,rfl⟩,k _ he ⟨_,So _ (SG _ rfl),rfl,rfl⟩ fun b o x=>So _ (So _ x)⟩
end Et
namespace L2
open PySem PySem.Spec PyProof.Rows
noncomputable def Gg(K:Vo)(a:Addr):It:=
  ⟨fun i H=>∃xs x,SqT K H a xs/\xs[i]?=some x,
   fun i H v H'=>∃p x,v = .ref p/\H p=none/\H'=upd H p (.tup [.int (i:Nat),x])/\∀xs,SqT K H a xs->xs[i]?=some x,
   fun i H=>∃xs,SqT K H a xs/\xs.length=i⟩
def rV{P:Program}{w:World}{K:Vo}{elts:List Expr}{k0:Nat}{IY:Pos}{e it a:Addr}(hei:e≠it)(Rc:a≠e)(hai:a≠it) :
  m8 P w K (.Tuple elts k0 IY) (Gg K a) [e,it] e (fun i h=>(∃old,IsEnum h e it i old)/\h.IsTupleIter it a i) where
 mem:=by simp
 obj:=fun i h st c hc=>by
  obtain⟨⟨old,ge⟩,⟨o1,e1,_,d1⟩⟩:=st
  simp only[Sv,SS,T9]at hc
  rcases hc with rfl|rfl
  ·exact⟨_,ge,fun v q=>by cases q⟩
  ·exact⟨_,e1,fun v q=>by rw[d1]at q;cases q⟩
 keep:=fun i h h' st k=>by
  obtain⟨⟨old,ge⟩,g1⟩:=st
  exact⟨⟨old,k e (by simp) _ ge⟩,g1.at fun o q=>k it (by simp) o q⟩
 item:=by
  intro X hP hw hK hc i pins s σ H E I hf st hg
  subst hP hw hK
  obtain⟨⟨old,ge⟩,g1⟩:=st
  obtain⟨xs,x,KU,hx⟩:=hg
  obtain⟨ia,ra,pa,za⟩:=I.tuple KU
  obtain⟨u,hu,ru⟩:=ra.get hx
  have hil:i < ia.toArray.size:=by
   rcases Nat.lt_or_ge i ia.length with q|q
   ·simpa using q
   ·rw[Ua q]at hu;cases hu
  refine wpAny_pyNext_enum_itemD (Et.AJ (P:=X.prog) (w:=X.w) (A:=X.A.in1) (I.ok.hd hc) it a hai ia.toArray) ge ⟨g1,(show s.heap.IsTuple a ia.toArray from pa)⟩ hil hei (by simp[hei,UO Rc]) fun v g tk hv a1 a2 a3 a4 a5=>?_
  have ev:v=u:=by
   have q:ia[i]?=some v:=by simpa using hv
   rw[q]at hu
   exact Tz hu
  subst ev
  refine⟨_,rfl,wpAny_letOwnedTupleGo_enum (s:={ s with heap:=g,toks:=tk+1 }) a1 fun g' z' q'=>?_⟩
  have kk:∀c o,c ∉ [e,it]->s.heap.get? c=some o->g'.get? c=some o:=fun c o hc q=>by
   simp only[Sv,SS,T9,not_or]at hc
   exact(q'.2 c hc.1).trans (a5 c o hc.1 hc.2 q)
  have I1:Inv X pins σ H { s with heap:=g',toks:=tk+1 }:=I.IU kk hf
  have f0:fD X pins H s.heap.objs.size:=I.J5 (Ss _) (I.hok.fresh (Ss _))
  have Pn:s.heap.objs.size≠e:=UW (Sw ge)
  have eT:Ia g' s.heap.objs.size [Value.int i tk,v].toArray:=⟨_,(q'.2 _ Pn).trans a3,rfl,rfl,_,rfl⟩
  have I2:=I1.KS (ys:=[.int i,x]) f0 eT (.cons ⟨_,rfl⟩ (.cons ru .nil)) (by show 2<=sizeLine;decide)
  refine⟨.ref s.heap.objs.size,_,I2,rfl,⟨s.heap.objs.size,x,rfl,f0.1,rfl,fun xs' h1=>by rw[I.Kd h1 KU];exact hx⟩,⟨⟨v,by simpa using z'⟩,a2.1.at fun o q=>(q'.2 it hei.symm).trans q⟩,fun c hc=>?_⟩
  have hlt:c < s.heap.objs.size:=by
   obtain⟨o1,e1,_⟩:=g1
   simp only[Sv,SS,T9]at hc
   rcases hc with rfl|rfl
   ·exact Sw ge
   ·exact Sw e1
  rw[aI (Th hlt)]
  exact(hf c hc).1
 done:=by
  intro X hP hw hK hc i pins s σ H E I hf st hg
  subst hP hw hK
  obtain⟨⟨old,ge⟩,g1⟩:=st
  obtain⟨xs,KU,hl⟩:=hg
  obtain⟨ia,ra,pa,za⟩:=I.tuple KU
  have la:=ra.length
  have ei:i=ia.toArray.size:=by simp;omega
  subst ei
  refine wpAny_pyNext_enum_endD (Et.AJ (P:=X.prog) (w:=X.w) (A:=X.A.in1) (I.ok.hd hc) it a hai ia.toArray) ge ⟨g1,(show s.heap.IsTuple a ia.toArray from pa)⟩ fun g kk=>⟨rfl,I.IU (t':=s.toks) (fun c o hc q=>?_) hf⟩
  simp only[Sv,SS,T9,not_or]at hc
  exact kk c o hc.2 q
 self:=fun _ _ _ _ _ st h=>by
  obtain⟨⟨old,ge⟩,_⟩:=st
  exact We ge h
section
variable {X:Cx}
def Ca:im X (compareOp .Is) (fun x y H Q=>x = .bl true/\y = .bl true/\Q (.bl true) H):=by
 intro pins s σ H x y v u Q I rx ry h
 obtain⟨rfl,rfl,q⟩:=h
 cases (show v=Value.bool true from rx)
 cases (show u=Value.bool true from ry)
 exact wpAny_is_self rfl ⟨.bl true,H,I,rfl,q⟩
def uA:im X (compareOp .IsNot) (fun x y H Q=>x = .bl true/\y = .bl true/\Q (.bl false) H):=by
 intro pins s σ H x y v u Q I rx ry h
 obtain⟨rfl,rfl,q⟩:=h
 cases (show v=Value.bool true from rx)
 cases (show u=Value.bool true from ry)
 exact wpAny_isNot_self rfl ⟨.bl false,H,I,rfl,q⟩
end
def v8(w:World)(x:Str):PyData.keyHash w.params x=hashStr w x:=rfl
noncomputable abbrev FC(w:World)(x:Str×Int×Tok×Tok):DictEntry:=⟨PyData.keyHash w.params x.1,.str x.1 x.2.2.1,.int x.2.1 x.2.2.2⟩
def Cb(P:Program)(w:World)(xs:List (Str×Int×Tok×Tok))(ep:Nat)(nd:(xs.map (·.1)).Nodup) :
  ∃vs,KV (xs.map fun x=>((Sum.inr x.1:bI),V.int x.2.1)) vs/\Obj.IsDictOf (bd P w) { cls:=.type "dict",data:=.dict (xs.map (FC w)).toArray ep } vs:=by
 refine⟨xs.map fun x=>((Sum.inr x.1:bI),Value.int x.2.1 x.2.2.2),?_,(xs.map (FC w)).toArray,ep,⟨rfl,rfl,rfl⟩,rfl,?_,?_,?_⟩
 ·induction xs with
  |nil=>exact .nil
  |cons x xs ih=>exact .cons ⟨rfl,_,rfl⟩ (ih (by simpa using(Uc.mp (by simpa using nd)).2))
 ·intro e he
  have he':e∈xs.map (FC w):=by simpa using he
  obtain⟨x,_,rfl⟩:=SQ.mp he'
  exact⟨Sum.inr x.1,j4 x.1 x.2.2.1,v8 w x.1⟩
 ·have key:∀ys:List (Str×Int×Tok×Tok),Pairs (bd P w) (ys.map (FC w)) (ys.map fun x=>((Sum.inr x.1:bI),Value.int x.2.1 x.2.2.2)):=by
   intro ys
   induction ys with
   |nil=>exact .nil
   |cons y ys ih=>exact .cons (j4 y.1 y.2.2.1) rfl ih
  exact key xs
 ·rw[SV]
  have e:((fun x:bI×Value=>x.1) ∘ fun x:Str×Int×Tok×Tok=>((Sum.inr x.1:bI),Value.int x.2.1 x.2.2.2))=fun x=>Sum.inr x.1:=rfl
  have key:∀ys:List (Str×Int×Tok×Tok),(ys.map (·.1)).Nodup->(ys.map fun x=>(Sum.inr x.1:bI)).Nodup:=by
   intro ys
   induction ys with
   |nil=>intro _;exact WK
   |cons y ys ih=>
    intro h
    rw[SH,Uc]at h ⊢
    refine⟨fun hm=>h.1 ?_,ih h.2⟩
    obtain⟨z,hz,e⟩:=SQ.mp hm
    have e':z.1=y.1:=Sum.inr.inj e
    exact SQ.mpr ⟨z,hz,e'⟩
  exact key xs nd
end L2
namespace Wd
open PySem L2 PyProof.Rows
noncomputable def abc:Str:="abcdefghijklmnopqrstuvwxyz"
noncomputable def IF:List Str:=["jars","deed","rest","pay","put","then","either","take","often","use"]
def Cc:∀i,i < 26->abc.cps.toList[i]?=some (97+i):=by decide +kernel
def lA:abc.length<=sizeLine/\abc.cps.toList.length=26:=by decide +kernel
def v9:∀i,i < 26->Builtin.Str.occurrences abc (j9 (97+i)) 0 abc.length 1=[i]:=by decide +kernel
theorem s9{α:Type} [BEq α] [LawfulBEq α]:∀{xs ys:List α},xs.Nodup->(∀x∈xs,x∈ys)->xs.length<=ys.length
 |[],ys,_,_=>Tr _
 |x::xs,ys,nd,h=>by
  have hx:=h x (UH ..)
  have q:=s9 (xs:=xs) (ys:=ys.erase x) (Uc.mp nd).2 fun y hy=>by
   have ne:y≠x:=fun e=>(Uc.mp nd).1 (e▸hy)
   exact(List.mem_erase_of_ne ne).mpr (h y (UK _ hy))
  rw[List.length_erase_of_mem hx]at q
  have:=List.length_pos_of_mem hx
  rw[SN]
  omega
noncomputable def cand(r:List Nat)(i:Nat):Str:=⟨((97+i % 26)::r).toArray⟩
def v_{r:List Nat}{i j:Nat}(h:cand r i=cand r j):i % 26=j % 26:=by
 have e:(((97+i % 26)::r).toArray).toList=(((97+j % 26)::r).toArray).toList:=T6 (fun z:Str=>z.cps.toList) h
 simp only[List.cons.injEq]at e
 omega
def rW(r:List Nat)(c:Nat):((List.range 26).map fun i=>cand r (c+i)).Nodup:=by
 refine List.pairwise_map.mpr (List.Pairwise.imp_of_mem (R:=(·≠·)) ?_ List.nodup_range)
 intro a b ha hb ne e
 have h1:=Uw.mp ha
 have h2:=Uw.mp hb
 have h3:=v_ e
 omega
def uB(r:List Nat)(c:Nat)(bad:Vs)(h:bad.length < 26):∃j,j < 26/\cand r (c+j) ∉ bad:=by
 refine Classical.byContradiction fun no=>?_
 have q:=s9 (rW r c) (ys:=bad) fun x hx=>by
  obtain⟨j,hj,rfl⟩:=SQ.mp hx
  exact Classical.byContradiction fun z=>no ⟨j,Uw.mp hj,z⟩
 rw[Sm,UB]at q
 omega
structure Lq (z:Str):Prop where
 ne:z.cps.toList≠[]
 le:z.cps.toList.length<=6
 sm:∀c∈z.cps.toList,97<=c/\c<=122
theorem Lq.cand{z:Str}(h:Lq z):∃i r,z=Wd.cand r i/\i < 26/\r.length<=5/\∀c∈r,97<=c/\c<=122:=by
 obtain⟨⟨⟨l⟩⟩,ne,le,sm⟩:∃z',_/\_/\_:=⟨z,h.ne,h.le,h.sm⟩
 obtain⟨⟨l⟩⟩:=z
 cases l with
 |nil=>exact absurd rfl h.ne
 |cons c r=>
  have q:=h.sm c (UH ..)
  refine⟨c - 97,r,?_,by omega,by have:=h.le;simp at this;omega,fun d hd=>h.sm d (UK _ hd)⟩
  unfold Wd.cand
  rw[show 97+(c - 97) % 26=c by omega]
def wa{r:List Nat}(h:r.length<=5)(hs:∀c∈r,97<=c/\c<=122)(i:Nat):Lq (cand r i):=by
 refine⟨by simp[cand],by simp[cand];omega,fun c hc=>?_⟩
 have hc':c∈(97+i % 26)::r:=hc
 rcases Sv.mp hc' with e|e
 ·omega
 ·exact hs c e
def Lq.len{z:Str}(h:Lq z):z.length<=6:=by have q:=h.le;rw[UC]at q;exact q
def Lq.line{z:Str}(h:Lq z):z.length<=sizeLine:=Su h.len (by decide)
def nS(r:List Nat)(i:Nat):Ii (cand r i).cps.toList 0=some (97+i % 26):=b9 (j:=0) rfl
def io(r:List Nat)(i:Nat):Txt.slice (cand r i) (some 1) none=⟨r.toArray⟩:=by
 have e:Txt.slice (cand r i) (some 1) none=StrLaws.sliceText (cand r i) (some 1) none:=rfl
 rw[e,StrLaws.sliceText_from ⟨by decide,by simp[cand];omega⟩]
 simp[cand]
def nU(r:List Nat)(i:Nat):(j9 (97+(i+1) % 26):Str)++(⟨r.toArray⟩:Str)=cand r (i+1):=by
 refine Str.ext' ?_
 show #[97+(i+1) % 26]++r.toArray=_
 simp[cand]
def oI(i:Nat):Ii abc.cps.toList ((i % 26:Nat):Int)=some (97+i % 26):=b9 (Cc _ (Nat.mod_lt _ (by decide)))
def lQ(cs:List Nat):Txt.join "" (cs.map j9)=⟨cs.toArray⟩:=by
 have q:=join_nil_signs ⟨cs.toArray⟩
 have e:Txt.join "" (cs.map j9)=Str.join ⟨#[]⟩ (cs.map j9):=StrLaws.glued_eq_join _ _
 rw[e]
 exact q
def zi(cs:List Nat):((cs.map j9).map (·.length)).sum=cs.length:=by
 induction cs with
 |nil=>rfl
 |cons c r ih=>rw[SH,SH,Wu,ih,SN];show 1+r.length=_;omega
def zj{cs:List Nat}{a i:Nat}(h:cs.length<=5)(hs:∀c∈cs,97<=c/\c<=122)(ha:a<=cs.length)(hi:i < 26) :
  Lq (Txt.slice ⟨cs.toArray⟩ none (some (a:Int))++(j9 (97+i):Str)++Txt.slice ⟨cs.toArray⟩ (some (a:Int)) none)/\(Txt.slice ⟨cs.toArray⟩ none (some (a:Int))).length<=5/\(Txt.slice ⟨cs.toArray⟩ (some (a:Int)) none).length<=5:=by
 have e1:Txt.slice ⟨cs.toArray⟩ none (some (a:Int))=⟨(cs.take a).toArray⟩:=by
  have e:Txt.slice ⟨cs.toArray⟩ none (some (a:Int))=StrLaws.sliceText ⟨cs.toArray⟩ none (some (a:Int)):=rfl
  rw[e,StrLaws.sliceText_to ⟨by omega,by simp;omega⟩]
  simp
 have e2:Txt.slice ⟨cs.toArray⟩ (some (a:Int)) none=⟨(cs.drop a).toArray⟩:=by
  have e:Txt.slice ⟨cs.toArray⟩ (some (a:Int)) none=StrLaws.sliceText ⟨cs.toArray⟩ (some (a:Int)) none:=rfl
  rw[e,StrLaws.sliceText_from ⟨by omega,by simp;omega⟩]
  refine Str.ext' ?_
  show((cs.drop (a:Int).toNat).take ((cs.length:Int) - a).toNat).toArray=(cs.drop a).toArray
  rw[Vf,Wf (by rw[Ut];omega)]
 rw[e1,e2]
 have e3:((⟨(cs.take a).toArray⟩:Str)++(j9 (97+i):Str)++(⟨(cs.drop a).toArray⟩:Str)).cps.toList=cs.take a++[97+i]++cs.drop a:=by
  show((cs.take a).toArray++#[97+i]++(cs.drop a).toArray).toList=_
  simp
 refine⟨⟨by rw[e3];simp,by rw[e3];simp;omega,fun c hc=>?_⟩,?_,?_⟩
 ·rw[e3]at hc
  rcases SI.mp hc with hc|hc
  ·rcases SI.mp hc with hc|hc
   ·exact hs c (UL hc)
   ·rw[SM.mp hc];omega
  ·exact hs c (Wy hc)
 ·show(cs.take a).toArray.size<=5
  rw[Sy,TY];omega
 ·show(cs.drop a).toArray.size<=5
  rw[Sy,Ut];omega
end Wd
namespace M3
noncomputable def aO(t b:Int):Int:=(if b < 0 then -t else t) / (Int.gcd t b:Int)
noncomputable def aC(t b:Int):Int:=(if b < 0 then -b else b) / (Int.gcd t b:Int)
def fF{t b:Int}(h:b≠0):0 < Int.gcd t b:=Nat.gcd_pos_of_pos_right _ (by omega)
def rX{t b:Int}(h:b≠0):(Int.gcd t b:Int)<=b.natAbs:=by
 have q:Nat.gcd t.natAbs b.natAbs<=b.natAbs:=Nat.gcd_le_right _ (by omega)
 have e:Int.gcd t b=Nat.gcd t.natAbs b.natAbs:=rfl
 omega
def wb(t b:Int):Int.gcd (-t) (-b)=Int.gcd t b:=by rw[Int.gcd_neg,Int.neg_gcd]
def parts(t b:Int):∃x y:Int,t=(Int.gcd t b:Int) * x/\b=(Int.gcd t b:Int) * y:=by
 obtain⟨x,hx⟩:=Int.gcd_dvd_left t b
 obtain⟨y,hy⟩:=Int.gcd_dvd_right t b
 exact⟨x,y,hx,hy⟩
def rY{t b x y g:Int}(hg:g=(Int.gcd t b:Int))(h:b≠0)(ht:t=g * x)(hb:b=g * y):aO t b=(if y < 0 then -x else x)/\aC t b=(if y < 0 then -y else y):=by
 have gp:0 < g:=by rw[hg];exact VF.mpr (fF h)
 have hy:b < 0↔y < 0:=by
  rw[hb]
  constructor
  ·intro q
   by_cases z:y < 0
   ·exact z
   ·have:=Us (Vg gp) (Int.not_lt.mp z)
    omega
  ·intro q
   exact Int.mul_neg_of_pos_of_neg gp q
 unfold aO aC
 rw[<-hg]
 by_cases z:y < 0
 ·rw[if_pos (hy.mpr z),if_pos (hy.mpr z),if_pos z,if_pos z]
  constructor
  ·rw[ht,<-Int.mul_neg,Vm _ (by omega)]
  ·rw[hb,<-Int.mul_neg,Vm _ (by omega)]
 ·rw[if_neg (fun q=>z (hy.mp q)),if_neg (fun q=>z (hy.mp q)),if_neg z,if_neg z]
  constructor
  ·rw[ht,Vm _ (by omega)]
  ·rw[hb,Vm _ (by omega)]
def zk{t b x y:Int}(h:b≠0)(ht:t=(Int.gcd t b:Int) * x)(hb:b=(Int.gcd t b:Int) * y):Int.gcd x y=1:=by
 have gp:=fF (t:=t) h
 have q:Int.gcd ((Int.gcd t b:Int) * x) ((Int.gcd t b:Int) * y)=(Int.gcd t b:Int).natAbs * Int.gcd x y:=Int.gcd_mul_left _ _ _
 rw[<-ht,<-hb,Int.natAbs_natCast]at q
 have q2:Int.gcd t b * 1=Int.gcd t b * Int.gcd x y:=by omega
 exact(Nat.eq_of_mul_eq_mul_left gp q2).symm
structure Dy (a b:Int):Prop where
 pos:0 < b
 one:Int.gcd a b=1
def jp{t b:Int}(h:b≠0):Dy (aO t b) (aC t b):=by
 obtain⟨x,y,ht,hb⟩:=parts t b
 have c:=zk h ht hb
 obtain⟨e1,e2⟩:=rY rfl h ht hb
 have y0:y≠0:=fun z=>h (by rw[hb,z,Int.mul_zero])
 rw[e1,e2]
 by_cases z:y < 0
 ·rw[if_pos z,if_pos z]
  exact⟨by omega,by rw[wb];exact c⟩
 ·rw[if_neg z,if_neg z]
  exact⟨by omega,c⟩
def dS{a b x y:Int}(L:Dy a b)(hy:0 < y)(e:x * b=a * y):aO x y=a/\aC x y=b:=by
 have b0:=L.pos
 have d1:b.natAbs ∣ a.natAbs * y.natAbs:=by
  rw[<-VL,<-e,VL]
  exact Nat.dvd_mul_left _ _
 have c:Nat.Coprime b.natAbs a.natAbs:=by
  show Nat.gcd b.natAbs a.natAbs=1
  rw[Nat.gcd_comm]
  exact L.one
 obtain⟨k,hk⟩:=Int.natAbs_dvd_natAbs.mp (c.dvd_of_dvd_mul_left d1)
 have k0:0 < k:=by
  by_cases z:0 < k
  ·exact z
  ·have:=Us (Vg b0) (show 0 <= -k by omega)
   rw[Int.mul_neg]at this
   omega
 have hx:x=a * k:=by
  have q:x * b=a * k * b:=by rw[e,hk,VX,Vh k b]
  exact Int.eq_of_mul_eq_mul_right (by omega) q
 have g:(Int.gcd x y:Int)=k:=by
  rw[hx,hk,Int.gcd_mul_right,L.one,Nat.one_mul]
  omega
 have q:=rY (g:=k) (x:=a) (y:=b) (t:=x) (b:=y) g.symm (by omega) (by rw[hx,Vh]) (by rw[hk,Vh])
 rw[if_neg (by omega),if_neg (by omega)]at q
 exact q
def we{a b:Int}(L:Dy a b):aO a b=a/\aC a b=b:=dS L L.pos rfl
def bC{t b:Int}(h:b≠0):aO t b * b=t * aC t b:=by
 obtain⟨x,y,ht,hb⟩:=parts t b
 obtain⟨e1,e2⟩:=rY rfl h ht hb
 rw[e1,e2]
 have q:x * b=t * y:=by
  have e3:x * ((Int.gcd t b:Int) * y)=(Int.gcd t b:Int) * x * y:=by rw[<-VX,Vh x]
  rw[<-ht,<-hb]at e3
  exact e3
 by_cases z:y < 0
 ·rw[if_pos z,if_pos z,Int.neg_mul,Int.mul_neg,q]
 ·rw[if_neg z,if_neg z]
  exact q
def Cd{g x y:Int}(h:g≠0)(e:x * g=y * g):x=y:=Int.eq_of_mul_eq_mul_right h e
def lR{t b:Int}(h:b≠0):t.fdiv (if b < 0 then -(Int.gcd t b:Int) else (Int.gcd t b:Int))=aO t b/\b.fdiv (if b < 0 then -(Int.gcd t b:Int) else (Int.gcd t b:Int))=aC t b:=by
 have gp:(0:Int) < (Int.gcd t b:Int):=VF.mpr (fF h)
 have d1:=Int.gcd_dvd_left t b
 have d2:=Int.gcd_dvd_right t b
 unfold aO aC
 by_cases z:b < 0
 ·rw[if_pos z,if_pos z,if_pos z,Int.fdiv_neg (by omega),if_pos d1,Int.fdiv_neg (by omega),if_pos d2,Vp d1,Vp d2,Int.neg_ediv_of_dvd d1,Int.neg_ediv_of_dvd d2]
  exact⟨rfl,rfl⟩
 ·rw[if_neg z,if_neg z,if_neg z,Vp d1,Vp d2]
  exact⟨rfl,rfl⟩
def lS(x y:Int):Int.gcd y (x.fmod y)=Int.gcd x y:=by
 have q:=Int.mul_fdiv_add_fmod x y
 have e:Int.gcd y (x.fmod y+x.fdiv y * y)=Int.gcd y (x.fmod y):=Int.gcd_add_mul_right_right _ _ _
 rw[<-e,Vh (x.fdiv y) y,Int.add_comm,q,Int.gcd_comm]
def qk{t b T B:Int}(h:b≠0)(h1:-T<=t)(h2:t<=T)(h3:-B<=b)(h4:b<=B)(hT:0<=T)(hB:0<=B):-T<=aO t b/\aO t b<=T/\0 < aC t b/\aC t b<=B:=by
 have gp:(0:Int) < (Int.gcd t b:Int):=VF.mpr (fF h)
 have L:=(jp (t:=t) h).pos
 have key:∀z M:Int,0<=M->-M<=z->z<=M->-M<=z / (Int.gcd t b:Int)/\z / (Int.gcd t b:Int)<=M:=fun z M hM z1 z2=>by
  generalize (Int.gcd t b:Int)=g at gp
  have m2:M * 1<=M * g:=Int.mul_le_mul_of_nonneg_left (by omega) hM
  have m3:-M * g = -(M * g):=Int.neg_mul M g
  exact⟨Int.le_ediv_of_mul_le gp (by omega),Int.ediv_le_of_le_mul gp (by omega)⟩
 have k1:=key (if b < 0 then -t else t) T hT (by split<;>omega) (by split<;>omega)
 have k2:=key (if b < 0 then -b else b) B hB (by split<;>omega) (by split<;>omega)
 exact⟨k1.1,k1.2,L,k2.2⟩
end M3
namespace Xc
open PySem PySem.W PySem.Calls PyProof.Rows Builtin Builtin.ObjectAttr
structure Gh (h:Heap) (e:Addr) (oe:Obj) (vs:Vw):Prop where
 at_:h.get? e=some oe
 dat:oe.data = .fields vs
 tb:vs[1]?=some .none\/∃T oT ts,vs[1]?=some (.ref T)/\T≠e/\h.get? T=some oT/\oT.data = .fields ts/\ts[3]?=some .none
end Xc
namespace L2
open PySem PySem.Spec PyProof.Rows Xc
def GW(X:Cx)(pins:Va)(H:Hp)(h:Heap)(a C dx:Addr):Prop:=
 ∃oe vs,Gh h a oe vs/\oe.cls = .ref C/\oe.dict=some dx/\fD X pins H a/\∀T,vs[1]?=some (.ref T)->fD X pins H T
def XD(dx:Addr)(fs:List (Str×V))(h:Heap):Prop:=∃mA,h.Ns1 dx mA/\(∀f,RelO (fs.lookup f) (mA f))/\PySem.Within mA (fs.map (·.1))
end L2
namespace L3
open PySem L2
inductive PV where
 |non|bl (b:Bool)|int (i:Int)|str (x:Str)|tup (xs:List PV)|cl (xs:List PV)|ref (a:Addr)|ty (n:String)|exc (c:Str) (ks:Vs) (ps:List PV)|cls (c:Str)
def NK(K:Vo)(H:Hp)(a:Addr)(xs:List V):Prop:=
 (∃o,H a=some (.frz o (.lst xs))) \/
  ∃(o:Obj) (its:Vw) (n:Nat),K.lookup a=some o/\o.cls = .type "list"/\o.dict=none/\o.data = .seq its n/\its.size<=sizeLine/\Vals xs its.toList
def NK.sq{K:Vo}{H:Hp}{a:Addr}{xs:List V}(h:NK K H a xs):SqL K H a xs:=h.elim (fun z=>.inl (.inr z)) .inr
def Ow(H:Hp)(a C:Addr)(ks:Vs)(vs:List V):Prop:=
 ∃oe dx od,H a=some (.frz oe (.ext fun _=>True))/\oe.cls = .ref C/\oe.dict=some dx/\(∀c,oe.data ≠ .cls c)/\H dx=some (.frz od (.ext (XD dx (ks.zip vs))))
def zm(K:Vo)(c:Str)(C:Addr):Prop:=PySem.W.nsIn K mainGlobals c=some (some (.ref C))
mutual
inductive Rep (K:Vo) (H:Hp):V->PV->Prop
 |non:Rep K H .non .non
 |bl (b:Bool):Rep K H (.bl b) (.bl b)
 |int (i:Int):Rep K H (.int i) (.int i)
 |str (x:Str):Rep K H (.str x) (.str x)
 |ty (n:String):Rep K H (.ty n) (.ty n)
 |ref (a:Addr):Rep K H (.ref a) (.ref a)
 |tup {a:Addr} {vs:List V} {ps:List PV}:SqT K H a vs->Reps K H vs ps->Rep K H (.ref a) (.tup ps)
 |cl {a:Addr} {vs:List V} {ps:List PV}:NK K H a vs->Reps K H vs ps->Rep K H (.ref a) (.cl ps)
 |exc {a C:Addr} {c:Str} {ks:Vs} {vs:List V} {ps:List PV}:zm K c C->Ow H a C ks vs->Reps K H vs ps->Rep K H (.ref a) (.exc c ks ps)
 |cls {C:Addr} {c:Str}:zm K c C->Rep K H (.ref C) (.cls c)
inductive Reps (K:Vo) (H:Hp):List V->List PV->Prop
 |nil:Reps K H [] []
 |cons {v:V} {p:PV} {vs:List V} {ps:List PV}:Rep K H v p->Reps K H vs ps->Reps K H (v::vs) (p::ps)
end
structure Grow (K:Vo) (H H':Hp):Prop where
 t:∀a vs,SqT K H a vs->SqT K H' a vs
 c:∀a vs,NK K H a vs->NK K H' a vs
 x:∀a o u,H a=some (.frz o u)->H' a=some (.frz o u)
def Grow.refl{K:Vo}{H:Hp}:Grow K H H:=⟨fun _ _ h=>h,fun _ _ h=>h,fun _ _ _ h=>h⟩
def Grow.trans{K:Vo}{H H1 H2:Hp}(a:Grow K H H1)(b:Grow K H1 H2):Grow K H H2:=⟨fun x vs h=>b.t x vs (a.t x vs h),fun x vs h=>b.c x vs (a.c x vs h),fun x o u h=>b.x x o u (a.x x o u h)⟩
def Ow.mono{K:Vo}{H H':Hp}(g:Grow K H H'){a C:Addr}{ks:Vs}{vs:List V}(h:Ow H a C ks vs):Ow H' a C ks vs:=let ⟨oe,dx,od,h1,h2,h3,h4,h5⟩:=h;⟨oe,dx,od,g.x _ _ _ h1,h2,h3,h4,g.x _ _ _ h5⟩
def Grow.of{K:Vo}{H H':Hp}(h:∀a xs,H a=some (.tup xs)->H' a=some (.tup xs))(h2:∀a o u,H a=some (.frz o u)->H' a=some (.frz o u)):Grow K H H':=by
 refine⟨fun a vs q=>?_,fun a vs q=>?_,h2⟩
 ·rcases q with(q|⟨o,q⟩)|q
  ·exact .inl (.inl (h a vs q))
  ·exact .inl (.inr ⟨o,h2 a o _ q⟩)
  ·exact .inr q
 ·rcases q with⟨o,q⟩|q
  ·exact .inl ⟨o,h2 a o _ q⟩
  ·exact .inr q
def Grow.same{K:Vo}{H H':Hp}(h:∀c o,H c=some o->H' c=some o):Grow K H H':=.of (fun a _ q=>h a _ q) (fun a _ _ q=>h a _ q)
def Grow.new{K:Vo}{H:Hp}{p:Addr}{o:HO}(h:H p=none):Grow K H (upd H p o):=.same fun c u q=>by rw[aI (bp q h)];exact q
noncomputable def Mu:HO->Prop
 | .tup _=>False
 | .frz _ _=>False
 |_=>True
def Grow.mut{K:Vo}{H:Hp}{p:Addr}{o u:HO}(h:H p=some u)(m:Mu u):Grow K H (upd H p o):=
 .of (fun a xs q=>by rw[aI (fun e=>by subst e;rw[h]at q;cases q;exact m)];exact q) (fun a _ _ q=>by rw[aI (fun e=>by subst e;rw[h]at q;cases q;exact m)];exact q)
mutual
theorem Rep.mono{K:Vo}{H H':Hp}(g:Grow K H H'):∀{v:V} {p:PV},Rep K H v p->Rep K H' v p
 |_,_,.non=>.non
 |_,_,.bl b=>.bl b
 |_,_,.int i=>.int i
 |_,_,.str x=>.str x
 |_,_,.ty n=>.ty n
 |_,_,.ref a=>.ref a
 |_,_,.tup h r=>.tup (g.t _ _ h) (Reps.mono g r)
 |_,_,.cl h r=>.cl (g.c _ _ h) (Reps.mono g r)
 |_,_,.exc n h r=>.exc n (h.mono g) (Reps.mono g r)
 |_,_,.cls n=>.cls n
theorem Reps.mono{K:Vo}{H H':Hp}(g:Grow K H H'):∀{vs:List V} {ps:List PV},Reps K H vs ps->Reps K H' vs ps
 |_,_,.nil=>.nil
 |_,_,.cons a r=>.cons (Rep.mono g a) (Reps.mono g r)
end
theorem Reps.length{K:Vo}{H:Hp}:∀{vs:List V} {ps:List PV},Reps K H vs ps->vs.length=ps.length
 |_,_,.nil=>rfl
 |_,_,.cons _ r=>by rw[SN,SN,Reps.length r]
theorem Reps.append{K:Vo}{H:Hp}:∀{vs us:List V} {ps qs:List PV},Reps K H vs ps->Reps K H us qs->Reps K H (vs++us) (ps++qs)
 |_,_,_,_,.nil,s=>s
 |_,_,_,_,.cons a r,s=>.cons a (Reps.append r s)
theorem Reps.get{K:Vo}{H:Hp}:∀{vs:List V} {ps:List PV} {i:Nat} {p:PV},Reps K H vs ps->ps[i]?=some p->∃v,vs[i]?=some v/\Rep K H v p
 |_,_,_,_,.nil,e=>by simp at e
 |_,_,0,_,.cons a r,e=>by simp at e;subst e;exact⟨_,rfl,a⟩
 |_,_,i+1,p,.cons a r,e=>by
  obtain⟨v,h1,h2⟩:=Reps.get (i:=i) (p:=p) r (by simpa using e)
  exact⟨v,by simpa using h1,h2⟩
theorem Reps.take{K:Vo}{H:Hp}:∀{vs:List V} {ps:List PV} (n:Nat),Reps K H vs ps->Reps K H (vs.take n) (ps.take n)
 |_,_,0,_=>.nil
 |_,_,_+1,.nil=>.nil
 |_,_,n+1,.cons a r=>.cons a (Reps.take n r)
theorem Reps.drop{K:Vo}{H:Hp}:∀{vs:List V} {ps:List PV} (n:Nat),Reps K H vs ps->Reps K H (vs.drop n) (ps.drop n)
 |_,_,0,r=>r
 |_,_,_+1,.nil=>.nil
 |_,_,n+1,.cons _ r=>Reps.drop n r
theorem Reps.set{K:Vo}{H:Hp}{v:V}{p:PV}(q:Rep K H v p):∀{vs:List V} {ps:List PV} (n:Nat),Reps K H vs ps->Reps K H (vs.set n v) (ps.set n p)
 |_,_,_,.nil=>.nil
 |_,_,0,.cons _ r=>.cons q r
 |_,_,n+1,.cons a r=>.cons a (Reps.set q n r)
theorem Reps.eraseIdx{K:Vo}{H:Hp}:∀{vs:List V} {ps:List PV} (n:Nat),Reps K H vs ps->Reps K H (vs.eraseIdx n) (ps.eraseIdx n)
 |_,_,_,.nil=>.nil
 |_,_,0,.cons _ r=>r
 |_,_,n+1,.cons a r=>.cons a (Reps.eraseIdx n r)
theorem Reps.reverse{K:Vo}{H:Hp}:∀{vs:List V} {ps:List PV},Reps K H vs ps->Reps K H vs.reverse ps.reverse
 |_,_,.nil=>.nil
 |_,_,.cons a r=>by rw[Wb,Wb];exact(Reps.reverse r).append (.cons a .nil)
theorem Reps.dropLast{K:Vo}{H:Hp}{vs:List V}{ps:List PV}(r:Reps K H vs ps):Reps K H vs.dropLast ps.dropLast:=by
 rw[List.dropLast_eq_take,List.dropLast_eq_take,r.length]
 exact r.take _
inductive SO where
 |lst (xs:List PV)
 |dct (kvs:List (bI×PV))
 |ins (c:Str) (fs:List (Str×PV))
abbrev az:=Addr->Option SO
noncomputable def He(S:az)(a:Addr)(o:SO):az:=fun b=>if b=a then some o else S b
def aa{S:az}{a:Addr}{o:SO}:He S a o a=some o:=by unfold He;rw[if_pos rfl]
def au{S:az}{a b:Addr}{o:SO}(h:b≠a):He S a o b=S b:=by unfold He;rw[if_neg h]
inductive HQ (K:Vo) (H:Hp) {κ:Type}:List (κ×V)->List (κ×PV)->Prop
 |nil:HQ K H [] []
 |cons {k:κ} {v:V} {p:PV} {vs:List (κ×V)} {ps:List (κ×PV)}:Rep K H v p->HQ K H vs ps->HQ K H ((k,v)::vs) ((k,p)::ps)
theorem HQ.mono{K:Vo}{H H':Hp}(g:Grow K H H'){κ:Type}:∀{vs:List (κ×V)} {ps:List (κ×PV)},HQ K H vs ps->HQ K H' vs ps
 |_,_,.nil=>.nil
 |_,_,.cons a r=>.cons (a.mono g) (HQ.mono g r)
theorem HQ.length{K:Vo}{H:Hp}{κ:Type}:∀{vs:List (κ×V)} {ps:List (κ×PV)},HQ K H vs ps->vs.length=ps.length
 |_,_,.nil=>rfl
 |_,_,.cons _ r=>by rw[SN,SN,HQ.length r]
noncomputable def Lr(K:Vo)(H:Hp)(a:Addr):SO->Prop
 | .lst xs=>∃vs,H a=some (.lst vs)/\Reps K H vs xs
 | .dct kvs=>∃kv,H a=some (.dK kv)/\HQ K H kv kvs
 | .ins c fs=>∃C dx f',zm K c C/\H a=some (.ins C dx f')/\HQ K H f' fs
theorem Lr.stay{K:Vo}{H H':Hp}(g:Grow K H H'){a:Addr}(e:H' a=H a):∀{o:SO},Lr K H a o->Lr K H' a o
 | .lst _,⟨vs,h,r⟩=>⟨vs,e.trans h,r.mono g⟩
 | .dct _,⟨vs,h,r⟩=>⟨vs,e.trans h,r.mono g⟩
 | .ins _ _,⟨C,dx,vs,n,h,r⟩=>⟨C,dx,vs,n,e.trans h,r.mono g⟩
theorem Lr.some{K:Vo}{H:Hp}{a:Addr}:∀{o:SO},Lr K H a o->∃u,H a=Option.some u/\Mu u
 | .lst _,⟨_,h,_⟩=>⟨_,h,trivial⟩
 | .dct _,⟨_,h,_⟩=>⟨_,h,trivial⟩
 | .ins _ _,⟨_,_,_,_,h,_⟩=>⟨_,h,trivial⟩
def Hk(K:Vo)(H:Hp)(S:az):Prop:=∀a o,S a=some o->Lr K H a o
def Hk.free{K:Vo}{H:Hp}{S:az}(r:Hk K H S){p:Addr}(h:H p=none):S p=none:=by
 cases e:S p with
 |none=>rfl
 |some o=>
  obtain⟨u,q,_⟩:=(r p o e).some
  rw[h]at q;cases q
def Hk.grow{K:Vo}{H H':Hp}{S:az}(r:Hk K H S)(h:∀c o,H c=some o->H' c=some o):Hk K H' S:=fun a o e=>by
 obtain⟨u,q,_⟩:=(r a o e).some
 exact(r a o e).stay (.same h) ((h a u q).trans q.symm)
def Hk.other{K:Vo}{H:Hp}{S:az}(r:Hk K H S){p:Addr}{o:HO}(h:H p=none):Hk K (upd H p o) S:=r.grow fun c u q=>by rw[aI (bp q h)];exact q
theorem Hk.new{K:Vo}{H:Hp}{S:az}(r:Hk K H S){p:Addr}{u:HO}{o:SO}(h:H p=none)(q:Lr K (upd H p u) p o):Hk K (upd H p u) (He S p o):=fun a x e=>by
 by_cases z:a=p
 ·subst z;rw[aa]at e;cases e;exact q
 ·rw[au z]at e;exact(r a x e).stay (.new h) (aI z)
def Hk.put{K:Vo}{H:Hp}{S:az}(r:Hk K H S){p:Addr}{u0 u:HO}{o:SO}(h:H p=some u0)(m:Mu u0)(q:Lr K (upd H p u) p o):Hk K (upd H p u) (He S p o):=fun a x e=>by
 by_cases z:a=p
 ·subst z;rw[aa]at e;cases e;exact q
 ·rw[au z]at e;exact(r a x e).stay (.mut h m) (aI z)
abbrev cF:=List (Option PV)
noncomputable def lk:cF->Nat->Option PV
 |[],_=>none
 |x::_,0=>x
 |_::r,i+1=>lk r i
def wf{σ:cF}{i:Nat}{p:PV}(h:lk σ i=some p):σ[i]?=some (some p):=by
 induction σ generalizing i with
 |nil=>cases h
 |cons x r ih=>
  cases i with
  |zero=>exact T6 some h
  |succ i=>exact ih h
structure Hr (K:Vo) (H:Hp) (σ:St) (σ3:cF):Prop where
 len:σ.length=σ3.length
 at':∀(i:Nat) (p:PV),σ3[i]?=some (some p)->∃v,σ[i]?=some (some v)/\Rep K H v p
theorem Hr.mono{K:Vo}{H H':Hp}{σ:St}{σ3:cF}(r:Hr K H σ σ3)(g:Grow K H H'):Hr K H' σ σ3:=⟨r.len,fun i p e=>let ⟨v,h,q⟩:=r.at' i p e;⟨v,h,q.mono g⟩⟩
theorem Hr.set{K:Vo}{H:Hp}{σ:St}{σ3:cF}(r:Hr K H σ σ3){v:V}{p:PV}(q:Rep K H v p)(i:Nat):Hr K H (σ.set i (some v)) (σ3.set i (some p)):=by
 refine⟨by rw[V0,V0,r.len],fun j x e=>?_⟩
 rw[List.getElem?_set]at e ⊢
 split at e
 ·rename_i hij
  rw[if_pos hij]
  subst hij
  split at e
  ·rename_i hl
   cases e
   rw[if_pos (by rw[r.len];exact hl)]
   exact⟨v,rfl,q⟩
  ·cases e
 ·rename_i hij
  rw[if_neg hij]
  exact r.at' j x e
abbrev bj:=PV->az->Prop
abbrev bK:=PV->cF->az->Prop
abbrev bc:=cF->az->bj->bK->Prop
abbrev kU:=cF->az->(Bool->az->Prop)->bK->Prop
abbrev GX:=cF->az->(List PV->az->Prop)->bK->Prop
structure nV where
 nx:cF->az->Prop
 rt:bj
 ex:bK
 bk:cF->az->Prop:=fun _ _=>False
 ct:cF->az->Prop:=fun _ _=>False
abbrev bB:=nV->cF->az->Prop
def Ml(X:Cx)(H:Hp)(E:bK):Prop:=∀(c:Str) (ks:Vs) (ps:List PV) (σ3:cF) (S':az) (H':Hp) (pins:Va) (σ:St) (s':Shared) (a C dx:Addr) (od:Obj) (vs:List V),E (.exc c ks ps) σ3 S'->zm X.K c C->vs.length=ks.length->
 H' dx=some (.frz od (.ext (XD dx (ks.zip vs))))->Reps X.K H' vs ps->Hk X.K H' S'->Hr X.K H' σ σ3->Grow X.K H H'->Inv X pins σ H' s'->GW X pins H' s'.heap a C dx->X.xe (.ref a) s'
def Ml.mono{X:Cx}{H H':Hp}{E:bK}(x:Ml X H E)(g:Grow X.K H H'):Ml X H' E:=fun c ks ps σ3 S' H2 pins σ s' a C dx od vs h1 h2 h3 h4 h5 h6 h7 h8 h9 Re=>x c ks ps σ3 S' H2 pins σ s' a C dx od vs h1 h2 h3 h4 h5 h6 h7 (g.trans h8) h9 Re
def Mm(K:Vo)(H:Hp)(Q3:bj)(Q:VK):Prop:=∀p S' v H',Q3 p S'->Rep K H' v p->Hk K H' S'->Grow K H H'->Q v H'
def Mm.mono{K:Vo}{H H':Hp}{Q3:bj}{Q:VK}(r:Mm K H Q3 Q)(g:Grow K H H'):Mm K H' Q3 Q:=fun p S' v H2 h1 h2 h3 h4=>r p S' v H2 h1 h2 h3 (g.trans h4)
def NL(K:Vo)(H:Hp)(N3:cF->az->Prop)(N:St->Hp->Prop):Prop:=∀σ3 S' σ H',N3 σ3 S'->Hr K H' σ σ3->Hk K H' S'->Grow K H H'->N σ H'
def NL.mono{K:Vo}{H H':Hp}{Q3:cF->az->Prop}{Q:St->Hp->Prop}(r:NL K H Q3 Q)(g:Grow K H H'):NL K H' Q3 Q:=fun p S' v H2 h1 h2 h3 h4=>r p S' v H2 h1 h2 h3 (g.trans h4)
inductive LE (X:Cx) (t:bc) (σ:L2.St) (H:Hp) (Q:VK):Prop
 |mk (σ3 S Q3 E3) (rσ:Hr X.K H σ σ3) (rS:Hk X.K H S) (h:t σ3 S Q3 E3) (xo:Ml X H E3) (k:Mm X.K H Q3 Q):LE X t σ H Q
inductive LT (X:Cx) (t:kU) (σ:L2.St) (H:Hp) (Q:Bool->Hp->Prop):Prop
 |mk (σ3 S Q3 E3) (rσ:Hr X.K H σ σ3) (rS:Hk X.K H S) (h:t σ3 S Q3 E3) (xo:Ml X H E3) (k:∀b S' H',Q3 b S'->Hk X.K H' S'->Grow X.K H H'->Q b H'):LT X t σ H Q
inductive LS (X:Cx) (t:bB) (D:m7) (σ:L2.St) (H:Hp):Prop
 |mk (σ3 S D3) (rσ:Hr X.K H σ σ3) (rS:Hk X.K H S) (h:t D3 σ3 S) (xo:Ml X H D3.ex) (nx:NL X.K H D3.nx D.nx) (rt:Mm X.K H D3.rt D.rt) (bk:NL X.K H D3.bk D.bk) (ct:NL X.K H D3.ct D.ct):LS X t D σ H
structure bu (X:Cx) (e:Expr) (t:bc):Prop where
 ok:PE X e (LE X t)
structure rZ (X:Cx) (e:Expr) (t:kU):Prop where
 ok:PT X e (LT X t)
structure Ce (X:Cx) (e:Expr) (t:kU):Prop where
 ok:PW X e (LT X t)
structure s_ (X:Cx) (st:Stmt) (t:bB):Prop where
 ok:PS X st (LS X t)
structure kf (X:Cx) (st:List Stmt) (t:bB):Prop where
 ok:Lp X st (LS X t)
def aX{X:Cx}{e:Expr}{t t':TE}(h:PE X e t)(k:∀σ H Q,t' σ H Q->t σ H Q):PE X e t':=fun pins s σ H Q I q=>h pins s σ H Q I (k σ H Q q)
def r6{X:Cx}{e:Expr}{t t':TT}(h:PT X e t)(k:∀σ H Q,t' σ H Q->t σ H Q):PT X e t':=fun pins s σ H Q I q=>h pins s σ H Q I (k σ H Q q)
def wg{X:Cx}{e:Expr}{t t':TT}(h:PW X e t)(k:∀σ H Q,t' σ H Q->t σ H Q):PW X e t':=fun wh pins s σ H Q I q=>h wh pins s σ H Q I (k σ H Q q)
def eQ{X:Cx}{e:Stmt}{t t':TS}(h:PS X e t)(k:∀D σ H,t' D σ H->t D σ H):PS X e t':=fun pins s σ H D I q=>h pins s σ H D I (k D σ H q)
def tj{X:Cx}{e:List Stmt}{t t':TS}(h:Lp X e t)(k:∀D σ H,t' D σ H->t D σ H):Lp X e t':=fun pins s σ H D I q=>h pins s σ H D I (k D σ H q)
section
variable {X:Cx} {a b c e o:Expr} {es:List Expr} {ta tb tc te:bc} {pos:Pos}
def v3(i:Nat):bc:=fun σ S Q _=>match lk σ i with|some p=>Q p S|none=>False
def ac(i:Nat){x:Str}(hN:X.N[i]?=some x:=by rfl)(hv:Fw X.env.scope x:=by first|exact Or.inl rfl|exact Or.inr (Or.inl rfl)|exact Or.inr (Or.inr rfl))(hd:(x == ("__debug__":Str))=false:=by decide)
  (hcd:(x == ("__classdict__":Str))=false:=by decide):bu X (.Name x pos) (v3 i):=
 ⟨aX (Bb hN hv hd hcd) fun σ H Q ⟨σ3,S,Q3,E3,rσ,rS,h,xo,k⟩=>by
  unfold v3 at h
  split at h
  ·rename_i p e
   obtain⟨v,ev,rv⟩:=rσ.at' i p (wf e)
   exact⟨v,ev,k p S v H h rv rS .refl⟩
  ·exact h.elim⟩
def c3(p:PV):bc:=fun _ S Q _=>Q p S
def af{i:Int}{j:Nat}:bu X (.Constant (.int i) j pos) (c3 (.int i)):=⟨aX Bc fun σ H Q ⟨σ3,S,Q3,E3,rσ,rS,h,xo,k⟩=>k _ S _ H h (.int i) rS .refl⟩
def Cf{i:Bool}{j:Nat}:bu X (.Constant (.bool i) j pos) (c3 (.bl i)):=⟨aX DK fun σ H Q ⟨σ3,S,Q3,E3,rσ,rS,h,xo,k⟩=>k _ S _ H h (.bl i) rS .refl⟩
def aA{i:Str}{j:Nat}:bu X (.Constant (.str i) j pos) (c3 (.str i)):=⟨aX Bf fun σ H Q ⟨σ3,S,Q3,E3,rσ,rS,h,xo,k⟩=>k _ S _ H h (.str i) rS .refl⟩
def eu{j:Nat}:bu X (.Constant .none j pos) (c3 .non):=⟨aX Be fun σ H Q ⟨σ3,S,Q3,E3,rσ,rS,h,xo,k⟩=>k _ S _ H h .non rS .refl⟩
def Gi{x:Str}{n:String}(hg:Gl X x)(hm:X.mg x=none)(hv:bootBuiltins x=some (.type n))(hn:x ≠ "__name__":=by decide)(hd:(x == ("__debug__":Str))=false:=by decide):bu X (.Name x pos) (c3 (.ty n)):=
 ⟨aX (yC (v:=.ty n) hg hm hv rfl hn hd) fun σ H Q ⟨σ3,S,Q3,E3,rσ,rS,h,xo,k⟩=>k _ S _ H h (.ty n) rS .refl⟩
noncomputable def ak:List bc->GX
 |[],_,S,Q,_=>Q [] S
 |t::ts,σ,S,Q,E=>t σ S (fun x S1=>ak ts σ S1 (fun xs S2=>Q (x::xs) S2) E) E
noncomputable def FD:List TE->TA
 |[]=>BG
 |t::ts=>vH t (FD ts)
structure kW (X:Cx) (es:List Expr) (ts:List bc):Prop where
 ok:PA X es (FD (ts.map (LE X)))
def cG:kW X [] []:=⟨BH⟩
def wk{ts:List bc}(hs:starEach (e::es) X.env=(false,eval e X.env)::starEach es X.env)(ha:bu X e te)(hr:kW X es ts):kW X (e::es) (te::ts):=⟨yQ ha.ok hr.ok hs⟩
theorem cz:∀{ts:List bc} {σ:L2.St} {H:Hp} {Q:List V->Hp->Prop} {σ3:cF} {S:az} {Q3:List PV->az->Prop} {E3:bK},Hr X.K H σ σ3->Hk X.K H S->ak ts σ3 S Q3 E3->Ml X H E3->
  (∀ps S' vs H',ps.length=ts.length->Q3 ps S'->Reps X.K H' vs ps->Hk X.K H' S'->Grow X.K H H'->Q vs H')->FD (ts.map (LE X)) σ H Q
 |[],σ,H,Q,σ3,S,Q3,E3,rσ,rS,h,xo,k=>k [] S [] H rfl h .nil rS .refl
 |t::ts,σ,H,Q,σ3,S,Q3,E3,rσ,rS,h,xo,k=>
  ⟨σ3,S,_,E3,rσ,rS,h,xo,fun p S1 v H1 h1 rv Ht g1=>cz (rσ.mono g1) Ht h1 (xo.mono g1) fun ps S2 vs H2 hl h2 Po JD g2=>k (p::ps) S2 (v::vs) H2 (by rw[SN,SN,hl]) h2 (.cons (rv.mono g2) Po) JD (g1.trans g2)⟩
def ay(ts:List bc):bc:=fun σ S Q E=>ak ts σ S (fun xs S1=>Q (.tup xs) S1) E
def ax{ts:List bc}{x1:Nat}(h:kW X es ts)(hn:ts.length<=1000:=by exact Wk rfl):bu X (.Tuple es x1 pos) (ay ts):=
 ⟨aX (BI h.ok) fun σ H Q ⟨σ3,S,Q3,E3,rσ,rS,hq,xo,k⟩=>cz rσ rS hq xo fun ps S' vs H' hl q rv JN g=>
  ⟨VA (fc (by rw[rv.length,hl];exact hn)),fun p hp=>k _ S' _ _ q (.tup (SqT.of aD) (rv.mono (.new hp))) (JN.other hp) (g.trans (.new hp))⟩⟩
def bx(ts:List bc):bc:=fun σ S Q E=>ak ts σ S (fun xs S1=>∀p,S1 p=none->Q (.ref p) (He S1 p (.lst xs))) E
def bw{ts:List bc}(h:kW X es ts)(hn:ts.length<=1000:=by exact Wk rfl):bu X (.List es pos) (bx ts):=
 ⟨aX (BJ h.ok) fun σ H Q ⟨σ3,S,Q3,E3,rσ,rS,hq,xo,k⟩=>cz rσ rS hq xo fun ps S' vs H' hl q rv JN g=>
  ⟨VA (fc (by rw[rv.length,hl];exact hn)),fun p hp=>k _ _ _ _ (q p (JN.free hp)) (.ref p) (JN.new hp ⟨vs,aD,rv.mono (.new hp)⟩) (g.trans (.new hp))⟩⟩
abbrev R3:=PV->PV->az->bj->Prop
inductive LR (X:Cx) (r:R3) (x y:V) (H:Hp) (Q:VK):Prop
 |mk (px py S Q3) (rx:Rep X.K H x px) (ry:Rep X.K H y py) (rS:Hk X.K H S) (h:r px py S Q3) (k:Mm X.K H Q3 Q):LR X r x y H Q
structure iO (X:Cx) (f:Value->Value->Sem Value) (r:R3):Prop where
 ok:im X f (LR X r)
def ah(r:R3)(ta tb:bc):bc:=fun σ S Q E=>ta σ S (fun x S1=>tb σ S1 (fun y S2=>r x y S2 Q) E) E
def jq{r:R3}{σ:L2.St}{H:Hp}{Q:VK}:LE X (ah r ta tb) σ H Q->Du (LR X r) (LE X ta) (LE X tb) σ H Q:=fun⟨σ3,S,Q3,E3,rσ,rS,h,xo,k⟩=>
 ⟨σ3,S,_,E3,rσ,rS,h,xo,fun x S1 v H1 h1 rx Ht g1=>⟨σ3,S1,_,E3,rσ.mono g1,Ht,h1,xo.mono g1,fun y S2 u H2 h2 ry JD g2=>⟨x,y,S2,Q3,rx.mono g2,ry,JD,h2,k.mono (g1.trans g2)⟩⟩⟩
def aB{op:Operator}{r:R3}(ho:iO X (binaryOp op) r)(ha:bu X a ta)(hb:bu X b tb):bu X (.BinOp a op b pos) (ah r ta tb):=⟨aX (DW ho.ok ha.ok hb.ok) fun _ _ _=>jq⟩
def fi{op:CmpOp}{r:R3}(ho:iO X (compareOp op) r)(ha:bu X a ta)(hb:bu X b tb)(hm:behindInMarks op b=false):bu X (.Compare a [op] [b] pos) (ah r ta tb):=⟨aX (yO ho.ok ha.ok hb.ok hm) fun _ _ _=>jq⟩
def aP(t:bc):kU:=fun σ S Q E=>t σ S (fun v S'=>match v with | .bl k=>Q k S'|_=>False) E
def wm{σ:L2.St}{H:Hp}{Q:Bool->Hp->Prop}:LT X (aP te) σ H Q->LE X te σ H (fun x H'=>∃k,x = .bl k/\Q k H'):=fun⟨σ3,S,Q3,E3,rσ,rS,h,xo,k⟩=>
 ⟨σ3,S,_,E3,rσ,rS,h,xo,fun p S' v H' h1 rv JN g=>by
  cases p with
  |bl z=>cases rv;exact⟨z,rfl,k z S' H' h1 JN g⟩
  |_=>exact h1.elim⟩
def bv{op:CmpOp}{r:R3}(ho:iO X (compareOp op) r)(ha:bu X a ta)(hb:bu X b tb)(hm:behindInMarks op b=false):rZ X (.Compare a [op] [b] pos) (aP (ah r ta tb)):=
 ⟨r6 (yP ho.ok ha.ok hb.ok hm) fun σ H Q ⟨σ3,S,Q3,E3,rσ,rS,h,xo,k⟩=>jq ⟨σ3,S,_,E3,rσ,rS,h,xo,fun p S' v H' h1 rv JN g=>by
  cases p with
  |bl z=>cases rv;exact⟨z,rfl,k z S' H' h1 JN g⟩
  |_=>exact h1.elim⟩⟩
def eA(h:bu X e te)(he:∀whole,isTrue e X.env whole=(do let v <-whole;standAt e.pos;holding [v] (truthy v)):=by intro _;rfl):rZ X e (aP te):=
 ⟨r6 (Bg h.ok he) fun σ H Q q=>wm q⟩
end
section
variable {X:Cx} {a b c:Expr} {rest:List Expr} {ta tb te:bc} {tA tB:kU} {pos:Pos}
def iP(t u:kU):kU:=fun σ S Q E=>t σ S (fun c S1=>if c=true then u σ S1 Q E else Q false S1) E
def lU(t u:kU):kU:=fun σ S Q E=>t σ S (fun c S1=>if c=true then Q true S1 else u σ S1 Q E) E
def ni(t:kU):kU:=fun σ S Q E=>t σ S (fun c S1=>Q (!c) S1) E
def kg(ha:rZ X a tA):Ce X (.BoolOp .And [a] pos) tA:=⟨yD ha.ok⟩
def iC(ha:rZ X a tA):Ce X (.BoolOp .Or [a] pos) tA:=⟨Bh ha.ok⟩
def lV(ha:rZ X a tA)(hb:Ce X (.BoolOp .And (b::rest) pos) tB):Ce X (.BoolOp .And (a::b::rest) pos) (iP tA tB):=
 ⟨wg (Bi ha.ok hb.ok) fun σ H Q ⟨σ3,S,Q3,E3,rσ,rS,h,xo,k⟩=>⟨σ3,S,_,E3,rσ,rS,h,xo,fun c S1 H1 h1 Ht g1=>by
  cases c with
  |true=>rw[if_pos rfl]at h1 ⊢;exact⟨σ3,S1,Q3,E3,rσ.mono g1,Ht,h1,xo.mono g1,fun b S2 H2 h2 JD g2=>k b S2 H2 h2 JD (g1.trans g2)⟩
  |false=>rw[if_neg (by decide)]at h1 ⊢;exact k false S1 H1 h1 Ht g1⟩⟩
def ls(ha:rZ X a tA)(hb:Ce X (.BoolOp .Or (b::rest) pos) tB):Ce X (.BoolOp .Or (a::b::rest) pos) (lU tA tB):=
 ⟨wg (DL ha.ok hb.ok) fun σ H Q ⟨σ3,S,Q3,E3,rσ,rS,h,xo,k⟩=>⟨σ3,S,_,E3,rσ,rS,h,xo,fun c S1 H1 h1 Ht g1=>by
  cases c with
  |true=>rw[if_pos rfl]at h1 ⊢;exact k true S1 H1 h1 Ht g1
  |false=>rw[if_neg (by decide)]at h1 ⊢;exact⟨σ3,S1,Q3,E3,rσ.mono g1,Ht,h1,xo.mono g1,fun b S2 H2 h2 JD g2=>k b S2 H2 h2 JD (g1.trans g2)⟩⟩⟩
def rB(h:Ce X a tA):rZ X a tA:=⟨h.ok.pt⟩
def tm(ha:rZ X a tA):rZ X (.UnaryOp .Not a pos) (ni tA):=
 ⟨r6 (Bj ha.ok) fun σ H Q ⟨σ3,S,Q3,E3,rσ,rS,h,xo,k⟩=>⟨σ3,S,_,E3,rσ,rS,h,xo,fun c S1 H1 h1 Ht g1=>k (!c) S1 H1 h1 Ht g1⟩⟩
def cH(t u:bc):bc:=fun σ S Q E=>t σ S (fun v S1=>match v with | .bl c=>if c=true then u σ S1 Q E else Q (.bl false) S1|_=>False) E
def nj(t u:bc):bc:=fun σ S Q E=>t σ S (fun v S1=>match v with | .bl c=>if c=true then Q (.bl true) S1 else u σ S1 Q E|_=>False) E
def nW(t:bc):bc:=fun σ S Q E=>t σ S (fun v S1=>match v with | .bl c=>Q (.bl (!c)) S1|_=>False) E
def qm{op:BoolOp}(h:bu X a ta):bu X (.BoolOp op [a] pos) ta:=⟨Bl h.ok⟩
def qo(ha:bu X a ta)(hb:bu X (.BoolOp .And (b::rest) pos) tb):bu X (.BoolOp .And (a::b::rest) pos) (cH ta tb):=
 ⟨aX (Bm ha.ok hb.ok) fun σ H Q ⟨σ3,S,Q3,E3,rσ,rS,h,xo,k⟩=>⟨σ3,S,_,E3,rσ,rS,h,xo,fun p S1 v H1 h1 rv Ht g1=>by
  cases p with
  |bl z=>
   cases rv
   refine⟨z,rfl,?_⟩
   cases z with
   |true=>rw[if_pos rfl];exact⟨σ3,S1,Q3,E3,rσ.mono g1,Ht,h1,xo.mono g1,k.mono g1⟩
   |false=>rw[if_neg (by decide)];exact k _ S1 _ H1 h1 (.bl false) Ht g1
  |_=>exact h1.elim⟩⟩
def Gj(ha:bu X a ta)(hb:bu X (.BoolOp .Or (b::rest) pos) tb):bu X (.BoolOp .Or (a::b::rest) pos) (nj ta tb):=
 ⟨aX (DO ha.ok hb.ok) fun σ H Q ⟨σ3,S,Q3,E3,rσ,rS,h,xo,k⟩=>⟨σ3,S,_,E3,rσ,rS,h,xo,fun p S1 v H1 h1 rv Ht g1=>by
  cases p with
  |bl z=>
   cases rv
   refine⟨z,rfl,?_⟩
   cases z with
   |true=>rw[if_pos rfl];exact k _ S1 _ H1 h1 (.bl true) Ht g1
   |false=>rw[if_neg (by decide)];exact⟨σ3,S1,Q3,E3,rσ.mono g1,Ht,h1,xo.mono g1,k.mono g1⟩
  |_=>exact h1.elim⟩⟩
def Ep(ha:bu X a ta):bu X (.UnaryOp .Not a pos) (nW ta):=
 ⟨aX (Bn ha.ok) fun σ H Q ⟨σ3,S,Q3,E3,rσ,rS,h,xo,k⟩=>⟨σ3,S,_,E3,rσ,rS,h,xo,fun p S1 v H1 h1 rv Ht g1=>by
  cases p with
  |bl z=>cases rv;exact⟨z,rfl,k _ S1 _ H1 h1 (.bl _) Ht g1⟩
  |_=>exact h1.elim⟩⟩
def r9(t:kU)(ta tb:bc):bc:=fun σ S Q E=>t σ S (fun c S1=>if c=true then ta σ S1 Q E else tb σ S1 Q E) E
def wn(hc:rZ X c tA)(ha:bu X a ta)(hb:bu X b tb):bu X (.IfExp c a b pos) (r9 tA ta tb):=
 ⟨aX (vx hc.ok ha.ok hb.ok) fun σ H Q ⟨σ3,S,Q3,E3,rσ,rS,h,xo,k⟩=>⟨σ3,S,_,E3,rσ,rS,h,xo,fun c S1 H1 h1 Ht g1=>by
  cases c with
  |true=>rw[if_pos rfl]at h1 ⊢;exact⟨σ3,S1,Q3,E3,rσ.mono g1,Ht,h1,xo.mono g1,k.mono g1⟩
  |false=>rw[if_neg (by decide)]at h1 ⊢;exact⟨σ3,S1,Q3,E3,rσ.mono g1,Ht,h1,xo.mono g1,k.mono g1⟩⟩⟩
abbrev Er:=PV->az->bj->Prop
noncomputable def GY(X:Cx)(r:Er):V->Hp->VK->Prop:=fun x H Q=>∃px S Q3,Rep X.K H x px/\Hk X.K H S/\r px S Q3/\Mm X.K H Q3 Q
structure GJ (X:Cx) (f:Value->Sem Value) (r:Er):Prop where
 ok:Fz X f (GY X r)
def gH(r:Er)(ta:bc):bc:=fun σ S Q E=>ta σ S (fun x S1=>r x S1 Q) E
def gD{op:UnaryOp}{r:Er}(ho:GJ X (unaryOp op) r)(ha:bu X a ta):bu X (.UnaryOp op a pos) (gH r ta):=
 ⟨aX (DX ho.ok ha.ok) fun σ H Q ⟨σ3,S,Q3,E3,rσ,rS,h,xo,k⟩=>⟨σ3,S,_,E3,rσ,rS,h,xo,fun p S1 v H1 h1 rv Ht g1=>⟨p,S1,Q3,rv,Ht,h1,k.mono g1⟩⟩⟩
noncomputable def bY:Er:=fun x S Q=>match x with | .int i=>Q (.int (-i)) S|_=>False
def bU:GJ X (unaryOp .USub) bY:=⟨fun pins s σ H x v Q I rx ⟨px,S,Q3,r1,rS,h,k⟩=>by
 cases px with
 |int i=>cases r1;exact BE pins s σ H _ v Q I rx ⟨i,rfl,k _ S _ H h (.int _) rS .refl⟩
 |_=>exact h.elim⟩
end
section
variable {X:Cx}
def fj(g:Int->Int->PV):R3:=fun x y S Q=>match x,y with | .int i,.int j=>Q (g i j) S|_,_=>False
def iD(C:Int->Int->Prop)(g:Int->Int->PV):R3:=fun x y S Q=>match x,y with | .int i,.int j=>C i j/\Q (g i j) S|_,_=>False
def Cg{f:Value->Value->Sem Value}{g:Int->Int->Int}(h:im X f (yL fun i j=>.int (g i j))):iO X f (fj fun i j=>.int (g i j)):=⟨fun pins s σ H x y v u Q I rx ry ⟨px,py,S,Q3,r1,r2,rS,q,k⟩=>by
 cases px with
 |int i=>
  cases py with
  |int j=>cases r1;cases r2;exact h pins s σ H _ _ v u Q I rx ry ⟨i,j,rfl,rfl,k _ S _ H q (.int _) rS .refl⟩
  |_=>exact q.elim
 |_=>exact q.elim⟩
def oJ{f:Value->Value->Sem Value}{g:Int->Int->Bool}(h:im X f (yL fun i j=>.bl (g i j))):iO X f (fj fun i j=>.bl (g i j)):=⟨fun pins s σ H x y v u Q I rx ry ⟨px,py,S,Q3,r1,r2,rS,q,k⟩=>by
 cases px with
 |int i=>
  cases py with
  |int j=>cases r1;cases r2;exact h pins s σ H _ _ v u Q I rx ry ⟨i,j,rfl,rfl,k _ S _ H q (.bl _) rS .refl⟩
  |_=>exact q.elim
 |_=>exact q.elim⟩
def oK{f:Value->Value->Sem Value}{C:Int->Int->Prop}{g:Int->Int->Int}(h:im X f (rI C fun i j=>.int (g i j))):iO X f (iD C fun i j=>.int (g i j)):=⟨fun pins s σ H x y v u Q I rx ry ⟨px,py,S,Q3,r1,r2,rS,q,k⟩=>by
 cases px with
 |int i=>
  cases py with
  |int j=>cases r1;cases r2;exact h pins s σ H _ _ v u Q I rx ry ⟨i,j,rfl,rfl,q.1,k _ S _ H q.2 (.int _) rS .refl⟩
  |_=>exact q.elim
 |_=>exact q.elim⟩
def kX(i j:Int):Prop:=j≠0/\j.natAbs < 2 ^ 8000
def r_{n:Nat}(h:n < 2 ^ 8000):n.log2 < 9000:=by
 by_cases z:n=0
 ·rw[z];decide +kernel
 ·exact VQ ((Nat.log2_lt z).mpr h) (by decide)
def Ch:iO X (binaryOp .Sub) (fj fun i j=>.int (i - j)):=Cg BC
def Ci:iO X (binaryOp .Mod) (iD (fun _ j=>j≠0) fun i j=>.int (i.fmod j)):=oK yM
def zn:iO X (binaryOp .FloorDiv) (iD kX fun i j=>.int (i.fdiv j)):=oK (FA fun _ _ _ _ _ _ _ hc q=>PyProof.Rows.floordiv_int hc.1 q (.inl (PyProof.noPylong_of_log2 (r_ hc.2))))
def Cj:iO X (binaryOp .Pow) (iD Bz fun i j=>.int (i ^ j.toNat)):=oK BD
def Es:iO X (compareOp .Lt) (fj fun i j=>.bl (decide (i < j))):=oJ D8
def Eu:iO X (compareOp .Gt) (fj fun i j=>.bl (decide (j < i))):=oJ D9
def Ev:iO X (compareOp .GtE) (fj fun i j=>.bl (decide (j<=i))):=oJ D_
end
end L3
namespace L2
open PySem PySem.Spec PyProof.Rows
section
variable {X:Cx}
def Ew(K:Vo):R2:=fun x y H Q=>∃a b xs ys,x = .ref a/\y = .ref b/\SqT K H a xs/\SqT K H b ys/\xs.length+ys.length<=sizeLine/\∀r H',(∀c o,H c=some o->H' c=some o)->SqT K H' r (xs++ys)->Q (.ref r) H'
def zo:im X (binaryOp .Add) (Ew X.K):=by
 intro pins s σ H x y v u Q I rx ry h
 obtain⟨a,b,xs,ys,rfl,rfl,ha,hb,hz,q⟩:=h
 by_cases hx:xs=[]
 ·subst hx
  cases rx
  cases ry
  obtain⟨its,r1,p1,_⟩:=I.tuple ha
  obtain⟨its2,r2,p2,_⟩:=I.tuple hb
  cases r1
  obtain⟨⟨cls,dd,data,sl⟩,ho,hc,n,hd⟩:=id p1
  obtain⟨⟨Pb,dd2,data2,sl2⟩,ho2,hc2,n2,hd2⟩:=id p2
  simp only at hc hd hc2 hd2
  subst hc hd hc2 hd2
  exact concat_meets ⟨_,ho,rfl⟩ ⟨_,ho2,rfl⟩ noFill_tuple_add seq_tuple_add Wa V8 (VW _ _)
   (tuple_addW0 a b _ its2.toArray n n2 dd dd2 sl sl2 rfl) ⟨ho,ho2,⟨.ref b,H,I,rfl,q b H (fun _ _ e=>e) hb⟩⟩
 ·exact yY pins s σ H _ _ v u Q I rx ry ⟨a,b,xs,ys,rfl,rfl,ha,hb,hx,hz,fun e=>q a H (fun _ _ e=>e) (by rw[e,Ti];exact ha),
   fun _ p hp=>q p _ (fun c o e=>by rw[aI (bp e hp)];exact e) (SqT.of aD)⟩
end
end L2
namespace L3
open PySem L2
section
variable {X:Cx}
def aU:R3:=fun x y S Q=>match x,y with
 | .int i,.int j=>Q (.int (i+j)) S
 | .str i,.str j=>i.length+j.length<=sizeLine/\Q (.str (i++j)) S
 | .tup i,.tup j=>i.length+j.length<=sizeLine/\Q (.tup (i++j)) S
 | .ref i,.ref j=>match S i,S j with
  |some (.lst xs),some (.lst ys)=>xs.length+ys.length<=sizeLine/\∀p,S p=none->Q (.ref p) (He S p (.lst (xs++ys)))
  |_,_=>False
 |_,_=>False
def aJ:iO X (binaryOp .Add) aU:=⟨fun pins s σ H x y v u Q I rx ry ⟨px,py,S,Q3,r1,r2,rS,q,k⟩=>by
 unfold aU at q
 split at q
 ·cases r1;cases r2
  exact BA pins s σ H _ _ v u Q I rx ry ⟨_,_,rfl,rfl,k _ S _ H q (.int _) rS .refl⟩
 ·cases r1;cases r2
  exact rH pins s σ H _ _ v u Q I rx ry ⟨_,_,rfl,rfl,q.1,k _ S _ H q.2 (.str _) rS .refl⟩
 ·cases r1 with
  |tup h1 s1=>
   cases r2 with
   |tup h2 s2=>
    refine zo pins s σ H _ _ v u Q I rx ry ⟨_,_,_,_,rfl,rfl,h1,h2,by rw[s1.length,s2.length];exact q.1,fun r H' hs hr=>?_⟩
    exact k _ S _ H' q.2 (.tup hr ((s1.mono (.same hs)).append (s2.mono (.same hs)))) (rS.grow hs) (.same hs)
 ·cases r1;cases r2
  split at q
  ·rename_i i j xs ys e1 e2
   obtain⟨vs,h1,s1⟩:=rS _ _ e1
   obtain⟨us,h2,s2⟩:=rS _ _ e2
   exact BV pins s σ H _ _ v u Q I rx ry ⟨_,_,_,_,rfl,rfl,h1,h2,by rw[s1.length,s2.length];exact q.1,fun p hp=>k _ _ _ _ (q.2 p (rS.free hp)) (.ref p) (rS.new hp ⟨_,aD,(s1.append s2).mono (.new hp)⟩) (.new hp)⟩
  ·exact q.elim
 ·exact q.elim⟩
end
mutual
inductive Dat (S:az):PV->PyData->Prop
 |non:Dat S .non .none
 |bl (b:Bool):Dat S (.bl b) (.bool b)
 |int (i:Int):Dat S (.int i) (.int i)
 |str (x:Str):Dat S (.str x) (.str x)
 |tup {ps:List PV} {ds:List PyData}:JQ S ps ds->Dat S (.tup ps) (.tuple ds)
 |cl {ps:List PV} {ds:List PyData}:JQ S ps ds->Dat S (.cl ps) (.list ds)
 |ref {a:Addr} {ps:List PV} {ds:List PyData}:S a=some (.lst ps)->JQ S ps ds->Dat S (.ref a) (.list ds)
inductive JQ (S:az):List PV->List PyData->Prop
 |nil:JQ S [] []
 |cons {p:PV} {d:PyData} {ps:List PV} {ds:List PyData}:Dat S p d->JQ S ps ds->JQ S (p::ps) (d::ds)
end
section
variable {X:Cx} {pins:Va} {σ:L2.St} {H:Hp} {s:Shared} {S:az}
def sd(I:Inv X pins σ H s)(rS:Hk X.K H S):(∀{p:PV} {d:PyData},Dat S p d->∀{v:V} {u:Value},Rep X.K H v p->RelV v u->∃as,Reads s.heap u d as)/\∀{ps:List PV} {ds:List PyData},JQ S ps ds->∀{vs:List V} {us:Vv},Reps X.K H vs ps->Vals vs us->∃as,ReadsAll s.heap us ds as:=by
 have one:=@Dat.rec S (motive_1:=fun p d _=>∀{v:V} {u:Value},Rep X.K H v p->RelV v u->∃as,Reads s.heap u d as) (motive_2:=fun ps ds _=>∀{vs:List V} {us:Vv},Reps X.K H vs ps->Vals vs us->∃as,ReadsAll s.heap us ds as)
 have two:=@JQ.rec S (motive_1:=fun p d _=>∀{v:V} {u:Value},Rep X.K H v p->RelV v u->∃as,Reads s.heap u d as) (motive_2:=fun ps ds _=>∀{vs:List V} {us:Vv},Reps X.K H vs ps->Vals vs us->∃as,ReadsAll s.heap us ds as)
 have c1:∀{v:V} {u:Value},Rep X.K H v .non->RelV v u->∃as,Reads s.heap u .none as:=fun h r=>by cases h;cases r;exact⟨_,.none⟩
 have c2:∀(b:Bool) {v:V} {u:Value},Rep X.K H v (.bl b)->RelV v u->∃as,Reads s.heap u (.bool b) as:=fun b _ _ h r=>by cases h;cases r;exact⟨_,.bool b⟩
 have c3:∀(i:Int) {v:V} {u:Value},Rep X.K H v (.int i)->RelV v u->∃as,Reads s.heap u (.int i) as:=fun i _ _ h r=>by cases h;obtain⟨t,rfl⟩:=r;exact⟨_,.int i t⟩
 have c4:∀(x:Str) {v:V} {u:Value},Rep X.K H v (.str x)->RelV v u->∃as,Reads s.heap u (.str x) as:=fun x _ _ h r=>by cases h;obtain⟨t,rfl⟩:=r;exact⟨_,.str x t⟩
 have c5:∀{ps:List PV} {ds:List PyData},JQ S ps ds->(∀{vs:List V} {us:Vv},Reps X.K H vs ps->Vals vs us->∃as,ReadsAll s.heap us ds as)->∀{v:V} {u:Value},Rep X.K H v (.tup ps)->RelV v u->∃as,Reads s.heap u (.tuple ds) as:=fun _ ih _ _ h r=>by
  cases h with
  |tup h rs=>
   cases r
   obtain⟨its,rv,⟨o,ho,hc,n,hd⟩,hz⟩:=I.tuple h
   obtain⟨as,q⟩:=ih rs rv
   exact⟨as,.tuple ho hc hd (by simpa using q)⟩
 have c6:∀{ps:List PV} {ds:List PyData},JQ S ps ds->(∀{vs:List V} {us:Vv},Reps X.K H vs ps->Vals vs us->∃as,ReadsAll s.heap us ds as)->∀{v:V} {u:Value},Rep X.K H v (.cl ps)->RelV v u->∃as,Reads s.heap u (.list ds) as:=fun _ ih _ _ h r=>by
  cases h with
  |cl h rs=>
   cases r
   obtain⟨its,rv,⟨o,n,ho,hc,_,hd⟩,hz⟩:=I.list h.sq
   obtain⟨as,q⟩:=ih rs rv
   exact⟨_,.list ho hc hd (by simpa using q)⟩
 have c7:∀{a:Addr} {ps:List PV} {ds:List PyData},S a=some (.lst ps)->JQ S ps ds->(∀{vs:List V} {us:Vv},Reps X.K H vs ps->Vals vs us->∃as,ReadsAll s.heap us ds as)->∀{v:V} {u:Value},Rep X.K H v (.ref a)->RelV v u->∃as,Reads s.heap u (.list ds) as:=fun e _ ih _ _ h r=>by
  cases h
  cases r
  obtain⟨vs,hv,rs⟩:=rS _ _ e
  obtain⟨its,rv,⟨o,n,ho,hc,_,hd⟩,hz⟩:=I.list (SqL.of hv)
  obtain⟨as,q⟩:=ih rs rv
  exact⟨_,.list ho hc hd (by simpa using q)⟩
 have c8:∀{vs:List V} {us:Vv},Reps X.K H vs []->Vals vs us->∃as,ReadsAll s.heap us [] as:=fun h r=>by cases h;cases r;exact⟨_,.nil⟩
 have c9:∀{p:PV} {d:PyData} {ps:List PV} {ds:List PyData},Dat S p d->JQ S ps ds->(∀{v:V} {u:Value},Rep X.K H v p->RelV v u->∃as,Reads s.heap u d as)->(∀{vs:List V} {us:Vv},Reps X.K H vs ps->Vals vs us->∃as,ReadsAll s.heap us ds as)->∀{vs:List V} {us:Vv},Reps X.K H vs (p::ps)->Vals vs us->∃as,ReadsAll s.heap us (d::ds) as:=fun _ _ i1 i2 _ _ h r=>by
  cases h with
  |cons a rs=>
   cases r with
   |cons r1 r2=>
    obtain⟨as,q⟩:=i1 a r1
    obtain⟨bs,q2⟩:=i2 rs r2
    exact⟨_,.cons q q2⟩
 exact⟨fun h=>one c1 c2 c3 c4 c5 c6 c7 c8 c9 h,fun h=>two c1 c2 c3 c4 c5 c6 c7 c8 c9 h⟩
def Dat.reads(I:Inv X pins σ H s)(rS:Hk X.K H S){p:PV}{d:PyData}{v:V}{u:Value}(h:Dat S p d)(r:Rep X.K H v p)(r2:RelV v u):∃as,Reads s.heap u d as:=(sd I rS).1 h r r2
end
section
variable {X:Cx}
def br(neg:Bool):R3:=fun x y S Q=>match x,y with
 | .int i,.int j=>Q (.bl (neg != decide (i=j))) S
 | .str i,.str j=>Q (.bl (neg != decide (i=j))) S
 | .bl i,.bl j=>Q (.bl (neg != decide (i=j))) S
 |x,y=>∃d d',Dat S x d/\Dat S y d'/\d.canLay0=true/\d'.canLay0=true/\min d.depth d'.depth<=150/\Q (.bl (neg != PyData.eqv d d')) S
def kY(hu:X.A.units+150 < cLine):iO X (compareOp .Eq) (br false):=⟨fun pins s σ H x y v u Q I rx ry ⟨px,py,S,Q3,r1,r2,rS,q,k⟩=>by
 unfold br at q
 split at q
 ·cases r1;cases r2
  exact vD pins s σ H _ _ v u Q I rx ry ⟨rfl,k _ S _ H (by simpa using q) (.bl _) rS .refl⟩
 ·cases r1;cases r2
  exact vD pins s σ H _ _ v u Q I rx ry ⟨rfl,k _ S _ H (by simpa using q) (.bl _) rS .refl⟩
 ·cases r1;cases r2
  exact vD pins s σ H _ _ v u Q I rx ry ⟨rfl,k _ S _ H (by simpa using q) (.bl _) rS .refl⟩
 ·obtain⟨d,d',h1,h2,c1,c2,hd,q⟩:=q
  obtain⟨as,a1⟩:=h1.reads I rS r1 rx
  obtain⟨bs,a2⟩:=h2.reads I rS r2 ry
  exact SeqAt.compareEq_reads a1 a2 c1 c2 (by omega) ⟨.bl _,H,I,rfl,k _ S _ H (by simpa using q) (.bl _) rS .refl⟩⟩
def AK(hu:X.A.units+150 < cLine):iO X (compareOp .NotEq) (br true):=⟨fun pins s σ H x y v u Q I rx ry ⟨px,py,S,Q3,r1,r2,rS,q,k⟩=>by
 unfold br at q
 split at q
 ·cases r1;cases r2
  exact vE pins s σ H _ _ v u Q I rx ry ⟨rfl,k _ S _ H (by simpa using q) (.bl _) rS .refl⟩
 ·cases r1;cases r2
  exact vE pins s σ H _ _ v u Q I rx ry ⟨rfl,k _ S _ H (by simpa using q) (.bl _) rS .refl⟩
 ·cases r1;cases r2
  exact vE pins s σ H _ _ v u Q I rx ry ⟨rfl,k _ S _ H (by simpa using q) (.bl _) rS .refl⟩
 ·obtain⟨d,d',h1,h2,c1,c2,hd,q⟩:=q
  obtain⟨as,a1⟩:=h1.reads I rS r1 rx
  obtain⟨bs,a2⟩:=h2.reads I rS r2 ry
  exact SeqAt.compareNe_reads a1 a2 c1 c2 (by omega) ⟨.bl _,H,I,rfl,k _ S _ H (by simpa using q) (.bl _) rS .refl⟩⟩
def qp(neg:Bool):R3:=fun x y S Q=>match y with
 | .non=>Q (.bl (neg != match x with | .non=>true|_=>false)) S
 | .bl true=>match x with | .bl true=>Q (.bl (neg != true)) S|_=>False
 |_=>False
def AL:iO X (compareOp .Is) (qp false):=⟨fun pins s σ H x y v u Q I rx ry ⟨px,py,S,Q3,r1,r2,rS,q,k⟩=>by
 unfold qp at q
 split at q
 ·cases r2
  refine BF pins s σ H _ _ v u Q I rx ry ⟨rfl,?_⟩
  cases r1<;>exact k _ S _ H (by simpa using q) (.bl _) rS .refl
 ·cases r2
  split at q
  ·cases r1
   exact Ca pins s σ H _ _ v u Q I rx ry ⟨rfl,rfl,k _ S _ H (by simpa using q) (.bl _) rS .refl⟩
  ·exact q.elim
 ·exact q.elim⟩
def qq:iO X (compareOp .IsNot) (qp true):=⟨fun pins s σ H x y v u Q I rx ry ⟨px,py,S,Q3,r1,r2,rS,q,k⟩=>by
 unfold qp at q
 split at q
 ·cases r2
  refine yN pins s σ H _ _ v u Q I rx ry ⟨rfl,?_⟩
  cases r1<;>exact k _ S _ H (by simpa using q) (.bl _) rS .refl
 ·cases r2
  split at q
  ·cases r1
   exact uA pins s σ H _ _ v u Q I rx ry ⟨rfl,rfl,k _ S _ H (by simpa using q) (.bl _) rS .refl⟩
  ·exact q.elim
 ·exact q.elim⟩
noncomputable def jr(S:az):PV->Option (List PV)
 | .tup xs=>some xs
 | .cl xs=>some xs
 | .ref a=>match S a with|some (.lst xs)=>some xs|_=>none
 |_=>none
def wo{H:Hp}{S:az}{v:V}{p:PV}{xs:List PV}(rS:Hk X.K H S)(r:Rep X.K H v p)(h:jr S p=some xs):∃a vs,v = .ref a/\(SqL X.K H a vs\/SqT X.K H a vs)/\Reps X.K H vs xs:=by
 unfold jr at h
 split at h
 ·cases h;cases r with|tup h1 rs=>exact⟨_,_,rfl,.inr h1,rs⟩
 ·cases h;cases r with|cl h1 rs=>exact⟨_,_,rfl,.inl h1.sq,rs⟩
 ·cases r
  split at h
  ·rename_i e
   cases h
   obtain⟨vs,hv,rs⟩:=rS _ _ e
   exact⟨_,vs,rfl,.inl (SqL.of hv),rs⟩
  ·cases h
 ·cases h
noncomputable def kZ(x:PyData)(xs:List PyData):Bool:=xs.any fun y=>PyData.eqv y x
def k4(neg:Bool):R3:=fun x y S Q=>match x,y with
 | .str i,.str j=>Q (.bl (neg != !(Builtin.Str.occurrences j i 0 j.length 1).isEmpty)) S
 |x,y=>match y with
  | .ref a=>match S a with
   |some (.lst xs)=>∃d ds,Dat S x d/\JQ S xs ds/\d.canLay0=true/\PyData.canLayAll0 ds=true/\d.depth<=150/\Q (.bl (neg != kZ d ds)) S
   |some (.dct kvs)=>match x with
    | .str z=>Q (.bl (neg != (kvs.any fun kv=>decide (kv.1=Sum.inr z)))) S
    | .int z=>Q (.bl (neg != (kvs.any fun kv=>decide (kv.1=Sum.inl z)))) S
    |_=>False
   |_=>False
  | .tup xs=>∃d ds,Dat S x d/\JQ S xs ds/\d.canLay0=true/\PyData.canLayAll0 ds=true/\d.depth<=150/\Q (.bl (neg != kZ d ds)) S
  |_=>False
theorem HQ.any{K:Vo}{H:Hp}{κ:Type} [DecidableEq κ](k:κ):∀{vs:List (κ×V)} {ps:List (κ×PV)},HQ K H vs ps->(iN vs k).isSome=ps.any fun kv=>decide (kv.1=k)
 |_,_,.nil=>rfl
 |_,_,.cons (k:=k') a r=>by
  rw[VH,<-HQ.any k r]
  by_cases e:k'=k
  ·rw[Ji e];simp[e]
  ·rw[Jj e];simp[e]
def k5(hu:X.A.units+160 < cLine):iO X (compareOp .In) (k4 false):=⟨fun pins s σ H x y v u Q I rx ry ⟨px,py,S,Q3,r1,r2,rS,q,k⟩=>by
 unfold k4 at q
 split at q
 ·cases r1;cases r2
  exact ue pins s σ H _ _ v u Q I rx ry ⟨_,_,rfl,rfl,k _ S _ H (by simpa using q) (.bl _) rS .refl⟩
 ·split at q
  ·cases r2
   cases ry
   split at q
   ·rename_i xs e
    obtain⟨d,ds,h1,h2,c1,c2,hd,q⟩:=q
    obtain⟨as,a1⟩:=h1.reads I rS r1 rx
    obtain⟨bs,a2⟩:=(Dat.ref e h2).reads I rS (.ref _) (rfl:RelV (.ref _) (.ref _))
    exact SeqAt.in_list_reads a2 a1 c2 c1 (by omega) ⟨.bl _,H,I,rfl,k _ S _ H (by simpa [kZ]using q) (.bl _) rS .refl⟩
   ·rename_i kvs e
    obtain⟨kv,hv,rk⟩:=rS _ _ e
    split at q
    ·cases r1
     exact Ej (by omega) I (DGet.k (k:=Sum.inr _) hv) rx fun s3 I3=>⟨.bl _,H,I3,rfl,k _ S _ H (by rw[rk.any];simpa using q) (.bl _) rS .refl⟩
    ·cases r1
     exact Ej (by omega) I (DGet.k (k:=Sum.inl _) hv) rx fun s3 I3=>⟨.bl _,H,I3,rfl,k _ S _ H (by rw[rk.any];simpa using q) (.bl _) rS .refl⟩
    ·exact q.elim
   ·exact q.elim
  ·rename_i xs
   obtain⟨d,ds,h1,h2,c1,c2,hd,q⟩:=q
   obtain⟨as,a1⟩:=h1.reads I rS r1 rx
   obtain⟨bs,a2⟩:=(Dat.tup h2).reads I rS r2 ry
   exact SeqAt.in_tuple_reads a2 a1 c2 c1 (by omega) ⟨.bl _,H,I,rfl,k _ S _ H (by simpa [kZ]using q) (.bl _) rS .refl⟩
  ·exact q.elim⟩
def gJ(hu:X.A.units+160 < cLine):iO X (compareOp .NotIn) (k4 true):=⟨fun pins s σ H x y v u Q I rx ry ⟨px,py,S,Q3,r1,r2,rS,q,k⟩=>by
 unfold k4 at q
 split at q
 ·cases r1;cases r2
  exact oz pins s σ H _ _ v u Q I rx ry ⟨_,_,rfl,rfl,k _ S _ H (by simpa using q) (.bl _) rS .refl⟩
 ·split at q
  ·cases r2
   cases ry
   split at q
   ·rename_i xs e
    obtain⟨d,ds,h1,h2,c1,c2,hd,q⟩:=q
    obtain⟨as,a1⟩:=h1.reads I rS r1 rx
    obtain⟨bs,a2⟩:=(Dat.ref e h2).reads I rS (.ref _) (rfl:RelV (.ref _) (.ref _))
    exact SeqAt.notIn_list_reads a2 a1 c2 c1 (by omega) ⟨.bl _,H,I,rfl,k _ S _ H (by simpa [kZ]using q) (.bl _) rS .refl⟩
   ·rename_i kvs e
    obtain⟨kv,hv,rk⟩:=rS _ _ e
    split at q
    ·cases r1
     exact sZ (by omega) I (DGet.k (k:=Sum.inr _) hv) rx fun s3 I3=>⟨.bl _,H,I3,rfl,k _ S _ H (by rw[rk.any];simpa using q) (.bl _) rS .refl⟩
    ·cases r1
     exact sZ (by omega) I (DGet.k (k:=Sum.inl _) hv) rx fun s3 I3=>⟨.bl _,H,I3,rfl,k _ S _ H (by rw[rk.any];simpa using q) (.bl _) rS .refl⟩
    ·exact q.elim
   ·exact q.elim
  ·rename_i xs
   obtain⟨d,ds,h1,h2,c1,c2,hd,q⟩:=q
   obtain⟨as,a1⟩:=h1.reads I rS r1 rx
   obtain⟨bs,a2⟩:=(Dat.tup h2).reads I rS r2 ry
   exact SeqAt.notIn_tuple_reads a2 a1 c2 c1 (by omega) ⟨.bl _,H,I,rfl,k _ S _ H (by simpa [kZ]using q) (.bl _) rS .refl⟩
  ·exact q.elim⟩
end
end L3
namespace HT
open PySem PySem.Spec PyProof.Rows
section
variable {prog:Program} {w:World} {A:Around} {E:Vq} {s:Shared}
def jt{t sl:Addr}{items:Vw}{vl vu:Value}{lo hi:Option Int}{Q:Vq}(ht:IsTup s.heap t items)(hs:s.heap.IsSliceOf sl vl vu .none)(pl:IsPart vl lo)(pu:IsPart vu hi)
  (hw:HL items.size 0 lo=0/\HL items.size items.size hi=items.size)
  (h:Q (.ref t) s):wpAny (model prog w) A (getItem (.ref t) (.ref sl)) Q E s:=by
 obtain⟨os,hos,hcs,hds⟩:=id hs
 have Pc:s.TypeIs (.ref sl) "slice":=⟨os,hos,hcs⟩
 unfold getItem
 try with_reducible refine Vk ?_
 first|refine Sl (Sx ?_)|skip
 refine Sl (wpAny_sequenceKey ht.typeIs (by decide) ?_)
 refine Sl (Ue (name:=Str.ofString "__getitem__") ht.typeIs T7
  (UI T7 ht.typeIs entry_tuple_getitem ?_ (args_tuple_getitem _ _)))
 show wpAny _ _ (Builtin.Tuple.tupleItemsOf (.ref t) >>= _) _ _ s
 refine Sl (tupleItemsOf_ ht ?_)
 refine Sl (wpAny_typeOf Pc ?_)
 rw[if_pos (by decide)]
 refine Sl (e_ hs pl pu ?_)
 have hyes:(((HL items.size 0 lo:Nat):Int) == 0&&(1:Int) == 1&&(HL items.size items.size hi - HL items.size 0 lo) == items.size)=true:=by
  rw[hw.1,hw.2];simp
 show wpAny _ _ (if (((HL items.size 0 lo:Nat):Int) == 0&&(1:Int) == 1&&(HL items.size items.size hi - HL items.size 0 lo) == items.size)=true then _ else _) _ _ s
 rw[if_pos hyes]
 unfold Builtin.Tuple.tupleIsExact
 refine Sl (Sl (wpAny_typeOf ht.typeIs (Sx ?_)))
 rw[if_pos (by decide)]
 first
  |exact Sl (VB (Sx ⟨_,rfl,Sx h⟩))
  |exact Sl (VB (Sl (Sx (Sx ⟨_,rfl,Sx h⟩))))
  |exact Sl (VB (Sl (Sx ⟨_,rfl,Sx h⟩)))
end
end HT
namespace L2
open PySem PySem.Spec PyProof.Rows
section
variable {X:Cx}
noncomputable def Ex(K:Vo):V->Option Int->Option Int->Hp->VK->Prop:=fun x lo hi H Q=>∃a xs,x = .ref a/\SqT K H a xs/\∀r H',(∀c o,H c=some o->H' c=some o)->SqT K H' r (lJ xs lo hi)->Q (.ref r) H'
def zp:Dv X (Ex X.K):=by
 intro pins s σ H x v vl vu lo hi sl Q I rx hs pl pu h
 obtain⟨a,xs,rfl,hx,q⟩:=h
 by_cases hw:HT.HL xs.length 0 lo=0/\HT.HL xs.length xs.length hi=xs.length
 ·cases rx
  obtain⟨its,r,ht,hz⟩:=I.tuple hx
  have hlen:its.toArray.size=xs.length:=by rw[Sy];exact r.length.symm
  refine⟨"tuple",_,T7.lookup,ht.typeIs,HT.jt ht hs pl pu (by rw[hlen];exact hw) ⟨.ref a,H,I,rfl,q a H (fun _ _ e=>e) ?_⟩⟩
  have e:lJ xs lo hi=xs:=by unfold lJ;rw[hw.1,hw.2];simp
  rw[e];exact hx
 ·exact BN pins s σ H _ v vl vu lo hi sl Q I rx hs pl pu ⟨a,xs,rfl,hx,hw,fun p hp=>q p _ (fun c o e=>by rw[aI (bp e hp)];exact e) (SqT.of aD)⟩
def zq(hu:X.A.units+1 < cLine):Dw X (fun x y H Q=>∃a v,x = .ref a/\DGet H a y (some v)/\Q v H):=by
 intro value slice pins s σ H x y v u Q I rx ry h hs
 obtain⟨a,z,rfl,g,q⟩:=h
 cases rx
 exact tail_any (qi I g) PySem.F.slot_dict_getitem.lookup (um hu I g ry fun w' s3 I3 rw'=>⟨z,H,I3,rw',q⟩) hs
def wq(hu:X.A.units+1 < cLine):yH X (fun o i v H Q=>∃a H',o = .ref a/\Ms H a i v H'/\Q H'):=by
 intro pins s σ H o i v ov iv u Q I ro ri rv h
 obtain⟨a,H',rfl,g,q⟩:=h
 cases ro
 exact uo hu I g ri rv fun s' I'=>⟨H',I',q⟩
end
end L2
namespace L3
open PySem L2
theorem Reps.Ii{K:Vo}{H:Hp}{vs:List V}{ps:List PV}{i:Int}{p:PV}(r:Reps K H vs ps)(h:L2.Ii ps i=some p):∃v,L2.Ii vs i=some v/\Rep K H v p:=by
 unfold L2.Ii at h ⊢
 rw[r.length]
 cases e:rA ps.length i with
 |none=>rw[e]at h;cases h
 |some j=>
  rw[e]at h
  obtain⟨v,h1,h2⟩:=r.get h
  exact⟨v,h1,h2⟩
noncomputable def oM:PV->Option bI
 | .int i=>some (.inl i)
 | .str x=>some (.inr x)
 |_=>none
def eP{K:Vo}{H:Hp}{v:V}{p:PV}{k:bI}(r:Rep K H v p)(h:oM p=some k):v=kV k:=by
 cases p with
 |int i=>cases h;cases r;rfl
 |str i=>cases h;cases r;rfl
 |_=>cases h
noncomputable def nk{κ:Type} [DecidableEq κ]:List (κ×PV)->κ->Option PV
 |[],_=>none
 |(k',v)::r,k=>if k'=k then some v else nk r k
theorem HQ.val{K:Vo}{H:Hp}{κ:Type} [DecidableEq κ]{k:κ}{p:PV}:∀{vs:List (κ×V)} {ps:List (κ×PV)},HQ K H vs ps->nk ps k=some p->∃v,iN vs k=some v/\Rep K H v p
 |_,_,.nil,h=>by cases h
 |_,_,.cons (k:=k') a r,h=>by
  unfold nk at h
  split at h
  ·rename_i e;cases h;exact⟨_,Ji e,a⟩
  ·rename_i e;rw[Jj e];exact HQ.val r h
section
variable {X:Cx} {a b e lo hi:Expr} {ta tb te:bc} {pos p2:Pos}
structure GK (X:Cx) (r:R3):Prop where
 ok:Dw X (LR X r)
def Ey{r:R3}(hr:GK X r)(ha:bu X a ta)(hb:bu X b tb)(hs:lz b):bu X (.Subscript a b pos) (ah r ta tb):=⟨aX (Ee hr.ok ha.ok hb.ok hs) fun _ _ _=>jq⟩
def ae:R3:=fun x y S Q=>match x with
 | .tup xs=>match y with | .int i=>(match Ii xs i with|some v=>Q v S|none=>False)|_=>False
 | .cl xs=>match y with | .int i=>(match Ii xs i with|some v=>Q v S|none=>False)|_=>False
 | .str z=>match y with | .int i=>z.length<=sizeLine/\(match Ii z.cps.toList i with|some c=>Q (.str ⟨#[c]⟩) S|none=>False)|_=>False
 | .ref a=>match S a with
  |some (.lst xs)=>(match y with | .int i=>(match Ii xs i with|some v=>Q v S|none=>False)|_=>False)
  |some (.dct kvs)=>(match oM y with|some k=>(match nk kvs k with|some v=>Q v S|none=>False)|none=>False)
  |_=>False
 |_=>False
def GL(hu:X.A.units+1 < cLine):GK X ae:=⟨fun value slice pins s σ H x y v u Q I rx ry ⟨px,py,S,Q3,r1,r2,rS,q,k⟩ hs=>by
 unfold ae at q
 split at q
 ·split at q
  ·split at q
   ·rename_i e
    cases r2
    cases r1 with
    |tup h1 rs=>
     obtain⟨w,hw,rw'⟩:=rs.Ii e
     exact BP value slice pins s σ H _ _ v u Q I rx ry ⟨_,_,_,w,rfl,rfl,h1,hw,k _ S _ H q rw' rS .refl⟩ hs
   ·exact q.elim
  ·exact q.elim
 ·split at q
  ·split at q
   ·rename_i e
    cases r2
    cases r1 with
    |cl h1 rs=>
     obtain⟨w,hw,rw'⟩:=rs.Ii e
     exact sX value slice pins s σ H _ _ v u Q I rx ry ⟨_,_,_,w,rfl,rfl,h1.sq,hw,k _ S _ H q rw' rS .refl⟩ hs
   ·exact q.elim
  ·exact q.elim
 ·split at q
  ·obtain⟨hz,q⟩:=q
   split at q
   ·rename_i e
    cases r1;cases r2
    exact BQ value slice pins s σ H _ _ v u Q I rx ry ⟨_,_,_,rfl,rfl,hz,e,k _ S _ H q (.str _) rS .refl⟩ hs
   ·exact q.elim
  ·exact q.elim
 ·split at q
  ·rename_i e0
   split at q
   ·split at q
    ·rename_i e
     cases r1;cases r2
     obtain⟨vs,hv,rs⟩:=rS _ _ e0
     obtain⟨w,hw,rw'⟩:=rs.Ii e
     exact sX value slice pins s σ H _ _ v u Q I rx ry ⟨_,_,_,w,rfl,rfl,SqL.of hv,hw,k _ S _ H q rw' rS .refl⟩ hs
    ·exact q.elim
   ·exact q.elim
  ·rename_i e0
   split at q
   ·rename_i ek
    split at q
    ·rename_i ev
     cases r1
     have e1:=eP r2 ek
     subst e1
     obtain⟨kv,hv,rk⟩:=rS _ _ e0
     obtain⟨w,hw,rw'⟩:=rk.val ev
     refine zq hu value slice pins s σ H _ _ v u Q I rx ry ⟨_,w,rfl,?_,k _ S _ H q rw' rS .refl⟩ hs
     rw[<-hw]
     exact DGet.k hv
    ·exact q.elim
   ·exact q.elim
  ·exact q.elim
 ·exact q.elim⟩
abbrev Dz:=cF->az->(Option Int->az->Prop)->bK->Prop
inductive LO (X:Cx) (t:Dz) (σ:L2.St) (H:Hp) (Q:Option Int->Hp->Prop):Prop
 |mk (σ3 S Q3 E3) (rσ:Hr X.K H σ σ3) (rS:Hk X.K H S) (h:t σ3 S Q3 E3) (xo:Ml X H E3) (k:∀o S' H',Q3 o S'->Hk X.K H' S'->Grow X.K H H'->Q o H'):LO X t σ H Q
structure FE (X:Cx) (e:Option Expr) (t:Dz):Prop where
 ok:PO X e (LO X t)
noncomputable def wt:Dz:=fun _ S Q _=>Q none S
noncomputable def se(t:bc):Dz:=fun σ S Q E=>t σ S (fun v S'=>match v with | .int i=>Q (some i) S'|_=>False) E
def wu{e:Option Expr}{t t':TO}(h:PO X e t)(k:∀σ H Q,t' σ H Q->t σ H Q):PO X e t':=fun pins s σ H Q I q=>h pins s σ H Q I (k σ H Q q)
def lW:FE X none wt:=⟨wu yW fun σ H Q ⟨σ3,S,Q3,E3,rσ,rS,h,xo,k⟩=>k none S H h rS .refl⟩
def fG(h:bu X e te):FE X (some e) (se te):=⟨wu (yX h.ok) fun σ H Q ⟨σ3,S,Q3,E3,rσ,rS,h,xo,k⟩=>⟨σ3,S,_,E3,rσ,rS,h,xo,fun p S' v H' h1 rv JN g=>by
 cases p with
 |int i=>cases rv;exact⟨i,rfl,k _ S' H' h1 JN g⟩
 |_=>exact h1.elim⟩⟩
noncomputable def ju{α:Type}(xs:List α)(lo hi:Option Int):List α:=(xs.drop (HT.HL xs.length 0 lo)).take (HT.HL xs.length xs.length hi - HT.HL xs.length 0 lo)
def Reps.cut{K:Vo}{H:Hp}{vs:List V}{ps:List PV}(r:Reps K H vs ps)(lo hi:Option Int):Reps K H (lJ vs lo hi) (ju ps lo hi):=by
 unfold lJ ju
 rw[r.length]
 exact(r.drop _).take _
def sf(x:PV)(lo hi:Option Int)(S:az)(Q:bj):Prop:=match x with
 | .tup xs=>Q (.tup (ju xs lo hi)) S
 | .cl xs=>∀p,S p=none->Q (.ref p) (He S p (.lst (ju xs lo hi)))
 | .str z=>z.length<=sizeLine/\Q (.str (Txt.slice z lo hi)) S
 | .ref a=>match S a with|some (.lst xs)=>∀p,S p=none->Q (.ref p) (He S p (.lst (ju xs lo hi)))|_=>False
 |_=>False
noncomputable def GZ(X:Cx):V->Option Int->Option Int->Hp->VK->Prop:=fun x lo hi H Q=>∃px S Q3,Rep X.K H x px/\Hk X.K H S/\sf px lo hi S Q3/\Mm X.K H Q3 Q
def G0:Dv X (GZ X):=by
 intro pins s σ H x v vl vu lo hi sl Q I rx hs pl pu ⟨px,S,Q3,r1,rS,q,k⟩
 unfold sf at q
 split at q
 ·cases r1 with
  |tup h1 rs=>exact zp pins s σ H _ v vl vu lo hi sl Q I rx hs pl pu ⟨_,_,rfl,h1,fun r H' hh hr=>k _ S _ H' q (.tup hr ((rs.cut lo hi).mono (.same hh))) (rS.grow hh) (.same hh)⟩
 ·cases r1 with
  |cl h1 rs=>exact sY pins s σ H _ v vl vu lo hi sl Q I rx hs pl pu ⟨_,_,rfl,h1.sq,fun p hp=>k _ _ _ _ (q p (rS.free hp)) (.ref p) (rS.new hp ⟨_,aD,(rs.cut lo hi).mono (.new hp)⟩) (.new hp)⟩
 ·cases r1
  exact B4 pins s σ H _ v vl vu lo hi sl Q I rx hs pl pu ⟨_,rfl,q.1,k _ S _ H q.2 (.str _) rS .refl⟩
 ·split at q
  ·rename_i e
   cases r1
   obtain⟨vs,hv,rs⟩:=rS _ _ e
   exact sY pins s σ H _ v vl vu lo hi sl Q I rx hs pl pu ⟨_,_,rfl,SqL.of hv,fun p hp=>k _ _ _ _ (q p (rS.free hp)) (.ref p) (rS.new hp ⟨_,aD,(rs.cut lo hi).mono (.new hp)⟩) (.new hp)⟩
  ·exact q.elim
 ·exact q.elim
def cV(te:bc)(tl th:Dz):bc:=fun σ S Q E=>te σ S (fun x S1=>tl σ S1 (fun l S2=>th σ S2 (fun u S3=>sf x l u S3 Q) E) E) E
def fH{lo hi:Option Expr}{tl th:Dz}(he:bu X e te)(hl:FE X lo tl)(hu:FE X hi th):bu X (.Subscript e (.Slice lo hi none p2) pos) (cV te tl th):=
 ⟨aX (vM G0 he.ok hl.ok hu.ok) fun σ H Q ⟨σ3,S,Q3,E3,rσ,rS,h,xo,k⟩=>⟨σ3,S,_,E3,rσ,rS,h,xo,fun x S1 v H1 h1 rx Ht g1=>⟨σ3,S1,_,E3,rσ.mono g1,Ht,h1,xo.mono g1,fun l S2 H2 h2 JD g2=>
  ⟨σ3,S2,_,E3,rσ.mono (g1.trans g2),JD,h2,xo.mono (g1.trans g2),fun u S3 H3 h3 MV g3=>⟨x,S3,Q3,rx.mono (g2.trans g3),MV,h3,k.mono (g1.trans (g2.trans g3))⟩⟩⟩⟩⟩
def zr:im X (binaryOp .Mult) (rI IntMulOk fun i j=>.int (i * j)):=FA fun _ _ _ _ _ _ _ hc q=>PyProof.Rows.mul_int q hc
def bJ:R3:=fun x y S Q=>match x,y with
 | .int i,.int j=>IntMulOk i j/\Q (.int (i * j)) S
 | .ref a,.int j=>(match S a with|some (.lst xs)=>-(2 ^ 63)<=j/\j < 2 ^ 63/\xs.length * j.toNat<=sizeLine/\∀p,S p=none->Q (.ref p) (He S p (.lst (List.replicate j.toNat xs).flatten))|_=>False)
 |_,_=>False
theorem Reps.rep{K:Vo}{H:Hp}{vs:List V}{ps:List PV}(r:Reps K H vs ps):∀n:Nat,Reps K H (List.replicate n vs).flatten (List.replicate n ps).flatten
 |0=>.nil
 |n+1=>by
  rw[Tw,Tw,UQ,UQ]
  exact r.append (Reps.rep r n)
def bg:iO X (binaryOp .Mult) bJ:=⟨fun pins s σ H x y v u Q I rx ry ⟨px,py,S,Q3,r1,r2,rS,q,k⟩=>by
 unfold bJ at q
 split at q
 ·cases r1;cases r2
  exact zr pins s σ H _ _ v u Q I rx ry ⟨_,_,rfl,rfl,q.1,k _ S _ H q.2 (.int _) rS .refl⟩
 ·split at q
  ·rename_i e
   cases r1;cases r2
   obtain⟨vs,hv,rs⟩:=rS _ _ e
   exact BW pins s σ H _ _ v u Q I rx ry ⟨_,_,_,rfl,rfl,hv,q.1,q.2.1,by rw[rs.length];exact q.2.2.1,fun p hp=>k _ _ _ _ (q.2.2.2 p (rS.free hp)) (.ref p) (rS.new hp ⟨_,aD,(rs.rep _).mono (.new hp)⟩) (.new hp)⟩
  ·exact q.elim
 ·exact q.elim⟩
end
end L3
namespace L2
open PySem PySem.Spec PyProof.Rows
section
variable {X:Cx}
def uC(hc:X.calm=true):er X (.builtin "any") (fun xs H Q=>∃(p:Addr) (bs:List Bool),xs=[.ref p]/\SqL X.K H p (bs.map V.bl)/\Q (.bl (bs.any id)) H):=by
 intro pins s σ H xs us Q I r h
 obtain⟨p,bs,rfl,hp,q⟩:=h
 obtain⟨u,rfl,rx⟩:=dR r
 cases rx
 obtain⟨its,rv,pl,hz⟩:=I.list hp
 have hl:=rv.length
 rw[Sm]at hl
 have hlt:p < s.heap.objs.size:=by obtain⟨o,ho,_⟩:=pl.isList;exact Sw ho
 refine call_any_walk (TR pl.isList ?_)
 have up:∀b o,s.heap.get? b=some o->(s.heap.push { cls:=.type "list_iterator",data:=.fields #[.ref p,.int 0 0] }).get? b=some o:=fun b o e=>So _ e
 refine⟨s.heap.objs.size,_,_,_,_,_,fun i=>(bs[i]?).getD false,rfl,Walks.list (A:=X.A.in1) (I.ok.hd hc) s.heap.objs.size p (Th hlt) its.toArray,⟨⟨_,SG _ rfl,rfl,rfl⟩,pl.isList.push _⟩,?_,fun h' tk hk=>?_⟩
 ·intro i v s' Q' E' hv hq
  have hi:i < its.length:=by
   by_cases z:i < its.length
   ·exact z
   ·rw[VD (by simpa using z)]at hv;cases hv
  obtain⟨u',e1,r1⟩:=rv.get (i:=i) (x:=.bl bs[i]) (by rw[SA,SR (by omega)];rfl)
  have e2:v=u':=by
   have z:its[i]?=some v:=by simpa using hv
   rw[z]at e1;exact Tz e1
  subst e2
  cases (show v=Value.bool bs[i] from r1)
  refine Ux ?_
  have hq':Q' ((bs[i]?).getD false) s':=hq
  rw[SR (show i < bs.length by omega)]at hq'
  exact hq'
 ·have e:(List.range its.toArray.size).any (fun i=>(bs[i]?).getD false)=bs.any id:=by
   rw[Sy,<-hl,Vd,U1,U1]
   constructor
   ·rintro⟨i,hi,h1⟩
    have hi':i < bs.length:=Uw.mp hi
    rw[SR hi']at h1
    exact⟨bs[i],Wm hi',h1⟩
   ·rintro⟨x,hx,h1⟩
    obtain⟨i,hi,e⟩:=List.getElem_of_mem hx
    exact⟨i,Uw.mpr hi,by rw[SR hi,e];exact h1⟩
  refine⟨.bl (bs.any id),H,?_,by rw[e];rfl,q⟩
  exact I.kept (t':=tk) fun b o z=>hk b o (by
   intro q2
   have q3:b=s.heap.objs.size:=by simpa using q2
   rw[q3]at z
   exact absurd (Sw z) (Ul _)) (up b o z)
def sg{pins:Va}{σ:St}{H:Hp}{s:Shared}{x:Value}{t:Value}{p:Heap->Prop}{vs:List V}{tp:Addr}{b:Bool}{Q:Vq}{E:Vq}(I:Inv X pins σ H s)(Z:PySem.W.KitX X.K x t p)(hp:p s.heap)(hx:x ≠ .builtin "__main__.__loader__#opaque")
  (ht:SqT X.K H tp vs) (e:∀its,Vals vs its->PySem.W.kitAny X.K t its=some b) (h:∀tk,Q (.bool b) { s with toks:=tk }):wpAny (model X.prog X.w) X.A (call (.builtin "isinstance") [x,.ref tp]) Q E s:=by
 obtain⟨its,rv,⟨⟨cls,dd,data,sl⟩,ho,hc,n,hd⟩,hz⟩:=I.tuple ht
 simp only at hc hd
 subst hc hd
 exact PySem.W.kia_tup Z I.Mp hp ho (e its rv) hx h
end
end L2
namespace L3
open PySem L2
abbrev qr:=List PV->az->bj->Prop
section
variable {X:Cx} {e o:Expr} {es:List Expr} {te to:bc} {ts:List bc} {x:Str} {p pos apos cpos:Pos}
inductive LC (X:Cx) (r:qr) (xs:List V) (H:Hp) (Q:VK):Prop
 |mk (ps S Q3) (rx:Reps X.K H xs ps) (rS:Hk X.K H S) (h:r ps S Q3) (k:Mm X.K H Q3 Q):LC X r xs H Q
structure fk (X:Cx) (f:Value) (r:qr):Prop where
 ok:er X f (LC X r)
def al(r:qr)(ts:List bc):bc:=fun σ S Q E=>ak ts σ S (fun ps S1=>r ps S1 Q) E
def tq{r:qr}{σ:L2.St}{H:Hp}{Q:VK}:LE X (al r ts) σ H Q->FD (ts.map (LE X)) σ H fun vs H1=>LC X r vs H1 Q:=fun⟨σ3,S,Q3,E3,rσ,rS,h,xo,k⟩=>
 cz rσ rS h xo fun ps S' vs H' hl q rv JN g=>⟨ps,S',Q3,rv,JN,q,k.mono g⟩
def zt{id:String}{r:qr}(hc:fk X (.builtin id) r)(hg:Gl X x)(hm:X.mg x=none)(hv:bootBuiltins x=some (.builtin id))(he:starEach (e::es) X.env=(false,eval e X.env)::starEach es X.env)(ha:kW X (e::es) ts)
  (hn:x ≠ "__name__":=by decide) (hdb:(x == ("__debug__":Str))=false:=by decide) (hpl:(backTo pos (starEach es X.env)).any (·.1)=false:=by rfl):bu X (.Call (.Name x p) (e::es) [] pos) (al r ts):=
 ⟨aX (vJ hc.ok hg hm hv ha.ok hn hdb he hpl) fun _ _ _=>tq⟩
def zu{id:String}{r:qr}(hc:fk X (.type id) r)(hg:Gl X x)(hm:X.mg x=none)(hv:bootBuiltins x=some (.type id))(he:starEach (e::es) X.env=(false,eval e X.env)::starEach es X.env)(ha:kW X (e::es) ts)
  (hn:x ≠ "__name__":=by decide) (hdb:(x == ("__debug__":Str))=false:=by decide) (hpl:(backTo pos (starEach es X.env)).any (·.1)=false:=by rfl):bu X (.Call (.Name x p) (e::es) [] pos) (al r ts):=
 ⟨aX (uh hc.ok hg hm hv ha.ok hn hdb he hpl) fun _ _ _=>tq⟩
def bG:qr:=fun ps S Q=>match ps with
 |[.tup xs]=>Q (.int xs.length) S
 |[.cl xs]=>Q (.int xs.length) S
 |[.str z]=>z.length<=sizeLine/\Q (.int z.length) S
 |[.ref a]=>(match S a with|some (.lst xs)=>Q (.int xs.length) S|some (.dct kvs)=>Q (.int kvs.length) S|_=>False)
 |_=>False
def bS:fk X (.builtin "len") bG:=⟨fun pins s σ H xs us Q I r ⟨ps,S,Q3,rp,rS,q,k⟩=>by
 unfold bG at q
 split at q
 ·cases rp with|cons a rr=>cases rr;cases a with|tup h rs=>exact fE pins s σ H _ us Q I r ⟨_,_,rfl,.inr h,by rw[rs.length];exact k _ S _ H q (.int _) rS .refl⟩
 ·cases rp with|cons a rr=>cases rr;cases a with|cl h rs=>exact fE pins s σ H _ us Q I r ⟨_,_,rfl,.inl h.sq,by rw[rs.length];exact k _ S _ H q (.int _) rS .refl⟩
 ·cases rp with|cons a rr=>cases rr;cases a;exact oA pins s σ H _ us Q I r ⟨_,rfl,q.1,k _ S _ H q.2 (.int _) rS .refl⟩
 ·cases rp with
  |cons a rr=>
   cases rr;cases a
   split at q
   ·rename_i e
    obtain⟨vs,hv,rs⟩:=rS _ _ e
    exact fE pins s σ H _ us Q I r ⟨_,_,rfl,.inl (SqL.of hv),by rw[rs.length];exact k _ S _ H q (.int _) rS .refl⟩
   ·rename_i e
    obtain⟨vs,hv,rs⟩:=rS _ _ e
    exact ut pins s σ H _ us Q I r ⟨_,_,rfl,hv,by rw[rs.length];exact k _ S _ H q (.int _) rS .refl⟩
   ·exact q.elim
 ·exact q.elim⟩
def uD:qr:=fun ps S Q=>match ps with|[.int i]=>Q (.int (if i < 0 then -i else i)) S|_=>False
def Ez:fk X (.builtin "abs") uD:=⟨fun pins s σ H xs us Q I r ⟨ps,S,Q3,rp,rS,q,k⟩=>by
 unfold uD at q
 split at q
 ·cases rp with|cons a rr=>cases rr;cases a;exact vG pins s σ H _ us Q I r ⟨_,rfl,k _ S _ H q (.int _) rS .refl⟩
 ·exact q.elim⟩
def jv:qr:=fun ps S Q=>match ps with|[.int i,.int j]=>Q (.int (if j > i then j else i)) S|_=>False
def oN(hc:X.calm=true):fk X (.builtin "max") jv:=⟨fun pins s σ H xs us Q I r ⟨ps,S,Q3,rp,rS,q,k⟩=>by
 unfold jv at q
 split at q
 ·cases rp with|cons a rr=>cases rr with|cons b r3=>cases r3;cases a;cases b;exact uf hc pins s σ H _ us Q I r ⟨_,_,rfl,k _ S _ H q (.int _) rS .refl⟩
 ·exact q.elim⟩
def lX:qr:=fun ps S Q=>match ps with|[.int i]=>Q (.int i) S|[.bl b]=>Q (.int (if b then 1 else 0)) S|_=>False
def EA:fk X (.type "int") lX:=⟨fun pins s σ H xs us Q I r ⟨ps,S,Q3,rp,rS,q,k⟩=>by
 unfold lX at q
 split at q
 ·cases rp with|cons a rr=>cases rr;cases a;exact nJ pins s σ H _ us Q I r (.inl ⟨_,rfl,k _ S _ H q (.int _) rS .refl⟩)
 ·cases rp with|cons a rr=>cases rr;cases a;exact nJ pins s σ H _ us Q I r (.inr ⟨_,rfl,k _ S _ H q (.int _) rS .refl⟩)
 ·exact q.elim⟩
def fI:qr:=fun ps S Q=>match ps with
 |[.str z]=>z.length<=sizeLine/\∀p,S p=none->Q (.ref p) (He S p (.lst (z.cps.toList.map fun c=>.str (j9 c))))
 |[v]=>(match jr S v with|some xs=>∀p,S p=none->Q (.ref p) (He S p (.lst xs))|none=>False)
 |_=>False
theorem lY{K:Vo}{H:Hp}:∀cs:List Nat,Reps K H (cs.map fun c=>V.str (j9 c)) (cs.map fun c=>PV.str (j9 c))
 |[]=>.nil
 |c::r=>.cons (.str _) (lY r)
def wv(hc:X.calm=true):fk X (.type "list") fI:=⟨fun pins s σ H xs us Q I r ⟨ps,S,Q3,rp,rS,q,k⟩=>by
 unfold fI at q
 split at q
 ·cases rp with|cons a rr=>cases rr;cases a;exact j_ hc pins s σ H _ us Q I r ⟨_,rfl,q.1,fun p hp=>k _ _ _ _ (q.2 p (rS.free hp)) (.ref p) (rS.new hp ⟨_,aD,(lY _)⟩) (.new hp)⟩
 ·cases rp with
  |cons a rr=>
   cases rr
   split at q
   ·rename_i e
    obtain⟨b,vs,rfl,hs,rs⟩:=wo rS a e
    exact oB pins s σ H _ us Q I r ⟨_,_,rfl,hs,fun p hp=>k _ _ _ _ (q p (rS.free hp)) (.ref p) (rS.new hp ⟨_,aD,rs.mono (.new hp)⟩) (.new hp)⟩
   ·exact q.elim
 ·exact q.elim⟩
def aZ:qr:=fun ps S Q=>match ps with
 |[v]=>(match jr S v with|some xs=>Q (.tup xs) S|none=>False)
 |_=>False
def bV:fk X (.type "tuple") aZ:=⟨fun pins s σ H xs us Q I r ⟨ps,S,Q3,rp,rS,q,k⟩=>by
 unfold aZ at q
 split at q
 ·cases rp with
  |cons a rr=>
   cases rr
   split at q
   ·rename_i e
    obtain⟨b,vs,rfl,hs,rs⟩:=wo rS a e
    rcases hs with hs|hs
    ·exact iA pins s σ H _ us Q I r ⟨_,_,rfl,.inl ⟨hs,fun p hp=>k _ S _ _ q (.tup (SqT.of aD) (rs.mono (.new hp))) (rS.other hp) (.new hp)⟩⟩
    ·exact iA pins s σ H _ us Q I r ⟨_,_,rfl,.inr ⟨hs,k _ S _ _ q (.tup hs rs) rS .refl⟩⟩
   ·exact q.elim
 ·exact q.elim⟩
noncomputable def k6:List PV->Option (List Bool)
 |[]=>some []
 | .bl b::r=>(k6 r).map (b::·)
 |_::_=>none
theorem iQ{K:Vo}{H:Hp}:∀{vs:List V} {ps:List PV} {bs:List Bool},Reps K H vs ps->k6 ps=some bs->vs=bs.map V.bl
 |_,_,_,.nil,h=>by cases h;rfl
 |_,_,bs,.cons (p:=p) a r,h=>by
  cases p with
  |bl b=>
   cases a
   unfold k6 at h
   cases e:k6 _ with
   |none=>rw[e]at h;cases h
   |some l=>rw[e]at h;cases h;rw[iQ r e];rfl
  |_=>cases h
def zv:qr:=fun ps S Q=>match ps with
 |[.ref a]=>(match S a with|some (.lst xs)=>(match k6 xs with|some bs=>Q (.bl (bs.all id)) S|none=>False)|_=>False)
 |_=>False
def EB(hc:X.calm=true):fk X (.builtin "all") zv:=⟨fun pins s σ H xs us Q I r ⟨ps,S,Q3,rp,rS,q,k⟩=>by
 unfold zv at q
 split at q
 ·cases rp with
  |cons a rr=>
   cases rr;cases a
   split at q
   ·rename_i e
    split at q
    ·rename_i eb
     obtain⟨vs,hv,rs⟩:=rS _ _ e
     have e2:=iQ rs eb
     subst e2
     exact ux hc pins s σ H _ us Q I r ⟨_,_,rfl,SqL.of hv,k _ S _ H q (.bl _) rS .refl⟩
    ·exact q.elim
   ·exact q.elim
 ·exact q.elim⟩
def oO:qr:=fun ps S Q=>match ps with
 |[.ref a]=>(match S a with|some (.lst xs)=>(match k6 xs with|some bs=>Q (.bl (bs.any id)) S|none=>False)|_=>False)
 |_=>False
def ww(hc:X.calm=true):fk X (.builtin "any") oO:=⟨fun pins s σ H xs us Q I r ⟨ps,S,Q3,rp,rS,q,k⟩=>by
 unfold oO at q
 split at q
 ·cases rp with
  |cons a rr=>
   cases rr;cases a
   split at q
   ·rename_i e
    split at q
    ·rename_i eb
     obtain⟨vs,hv,rs⟩:=rS _ _ e
     have e2:=iQ rs eb
     subst e2
     exact uC hc pins s σ H _ us Q I r ⟨_,_,rfl,SqL.of hv,k _ S _ H q (.bl _) rS .refl⟩
    ·exact q.elim
   ·exact q.elim
 ·exact q.elim⟩
end
noncomputable def oP(t c:String):Bool:=t == c || (t == "bool" && c == "int")
noncomputable def yA(S:az):PV->Option String
 | .non=>some "NoneType"
 | .bl _=>some "bool"
 | .int _=>some "int"
 | .str _=>some "str"
 | .tup _=>some "tuple"
 | .cl _=>some "list"
 | .ref a=>(match S a with|some (.lst _)=>some "list" | some (.dct _)=>some "dict" | _=>none)
 | .ty _=>none
 | .exc _ _ _=>none
 | .cls _=>none
noncomputable def cN(c:String):Bool:=["int","str","bool","tuple","list","dict"].contains c
def wx(K:Vo)(t c:String):PySem.W.kitCls K (.type t) (.type c)=(if PySem.W.kitMeta c=true then (PySem.fastBuiltinMro t).map (·.contains (Value.type c)) else none):=rfl
def tt{K:Vo}{t c:String}(ht:t∈["NoneType","bool","int","str","tuple","list","dict"])(hc:cN c=true):PySem.W.kitOne K (.type t) (.type c)=some (oP t c):=by
 have hc':c∈["int","str","bool","tuple","list","dict"]:=by
  have:=hc
  unfold cN at this
  simpa using this
 simp only[Sv,SS,T9]at ht hc'
 rcases ht with rfl|rfl|rfl|rfl|rfl|rfl|rfl<;>rcases hc' with rfl|rfl|rfl|rfl|rfl|rfl <;>
  first
   |(unfold PySem.W.kitOne;rw[if_pos (by decide)];rfl)
   |(unfold PySem.W.kitOne;rw[if_neg (by decide),wx];decide +kernel)
def wy{S:az}{p:PV}{t:String}(h:yA S p=some t):t∈["NoneType","bool","int","str","tuple","list","dict"]:=by
 unfold yA at h
 split at h<;>first|(cases h;decide)|(split at h<;>first|(cases h;decide)|cases h)|cases h
section
variable {X:Cx}
noncomputable def EC:List PV->Option (List String)
 |[]=>some []
 | .ty c::r=>if cN c then (EC r).map (c::·) else none
 |_::_=>none
def oQ:qr:=fun ps S Q=>match ps with
 |[x,.ty c]=>(match yA S x with|some t=>cN c=true/\Q (.bl (oP t c)) S|none=>False)
 |[x,.tup cs]=>(match yA S x,EC cs with|some t,some l=>Q (.bl (l.any (oP t))) S|_,_=>False)
 |_=>False
def zw{K:Vo}{H:Hp}{t:String}(ht:t∈["NoneType","bool","int","str","tuple","list","dict"]):∀(cs:List PV) {l:List String} {vs:List V} {its:Vv},EC cs=some l->Reps K H vs cs->Vals vs its->PySem.W.kitAny K (.type t) its=some (l.any (oP t)):=by
 intro cs
 induction cs with
 |nil=>intro l vs its h rs r;cases h;cases rs;cases r;rfl
 |cons p cs ih=>
  intro l vs its h rs r
  cases p with
  |ty c=>
   unfold EC at h
   split at h
   ·rename_i hc
    cases e:EC cs with
    |none=>rw[e]at h;cases h
    |some l'=>
     rw[e]at h
     cases h
     cases rs with
     |cons a rs=>
      cases a
      cases r with
      |@cons _ u _ us r1 r2=>
       cases (show u=Value.type c from r1)
       show(match PySem.W.kitOne K (.type t) (.type c)with|some true=>some true|some false=>PySem.W.kitAny K (.type t) us|none=>none)=_
       rw[tt ht hc,VH]
       cases oP t c with
       |true=>rfl
       |false=>exact ih e rs r2
   ·cases h
  |_=>cases h
def nX:fk X (.builtin "isinstance") oQ:=⟨fun pins s σ H xs us Q I r ⟨ps,S,Q3,rp,rS,q,k⟩=>by
 have main:∀{v:PV} {x:V} {u:Value} {t:String},Rep X.K H x v->RelV x u->yA S v=some t->∃(h:Heap->Prop),PySem.W.KitX X.K u (.type t) h/\h s.heap/\u ≠ .builtin "__main__.__loader__#opaque":=by
  intro v x u t rv rx ht
  cases rv with
  |non=>cases ht;cases rx;exact⟨_,PySem.W.kitx_none,True.intro,fun z=>nomatch z⟩
  |bl b=>cases ht;cases rx;exact⟨_,PySem.W.kitx_bool,True.intro,fun z=>nomatch z⟩
  |int b=>cases ht;obtain⟨t,rfl⟩:=rx;exact⟨_,PySem.W.kitx_int,True.intro,fun z=>nomatch z⟩
  |str b=>cases ht;obtain⟨t,rfl⟩:=rx;exact⟨_,PySem.W.kitx_str,True.intro,fun z=>nomatch z⟩
  |ty b=>cases ht
  |exc _ _ _=>cases ht
  |cls _=>cases ht
  |tup h rs=>
   cases ht;cases rx
   obtain⟨its,_,⟨o,ho,hc,_⟩,_⟩:=I.tuple h
   exact⟨_,PySem.W.kitx_tuple,⟨o,ho,hc⟩,fun z=>nomatch z⟩
  |cl h rs=>
   cases ht;cases rx
   obtain⟨its,_,⟨o,n,ho,hc,_⟩,_⟩:=I.list h.sq
   exact⟨_,PySem.W.kitx_list,⟨o,ho,hc⟩,fun z=>nomatch z⟩
  |ref a=>
   cases rx
   unfold yA at ht
   simp only at ht
   split at ht
   ·rename_i e
    cases ht
    obtain⟨vs,hv,_⟩:=rS _ _ e
    obtain⟨its,_,⟨o,n,ho,hc,_⟩,_⟩:=I.list (SqL.of hv)
    exact⟨_,PySem.W.kitx_list,⟨o,ho,hc⟩,fun z=>nomatch z⟩
   ·rename_i e
    cases ht
    obtain⟨vs,hv,_⟩:=rS _ _ e
    obtain⟨_,_,vs',_,p⟩:=(show HH X.prog X.w H s.heap _ (.dK vs)from I.hok _ _ hv)
    obtain⟨o,es,ep,h1,h2,_⟩:=p
    exact⟨_,PySem.W.kitx_dict,⟨o,h1,h2.1⟩,fun z=>nomatch z⟩
   ·cases ht
 unfold oQ at q
 split at q
 ·split at q
  ·rename_i ht
   cases rp with
   |cons a rr=>
    cases rr with
    |cons b r3=>
     cases r3;cases b
     cases r with
     |cons r1 r2=>
      cases r2 with
      |cons r4 r5=>
       cases r5
       cases (show _=Value.type _ from r4)
       obtain⟨h,Z,hp,hx⟩:=main a r1 ht
       exact PySem.W.kia_one Z I.Mp hp (tt (wy ht) q.1) hx fun tk=>⟨.bl _,H,I.tok _,rfl,k _ S _ H q.2 (.bl _) rS .refl⟩
  ·exact q.elim
 ·split at q
  ·rename_i ht hl
   cases rp with
   |cons a rr=>
    cases rr with
    |cons b r3=>
     cases r3
     cases b with
     |tup h1 rs=>
      cases r with
      |cons r1 r2=>
       cases r2 with
       |cons r4 r5=>
        cases r5
        cases r4
        obtain⟨h,Z,hp,hx⟩:=main a r1 ht
        exact sg I Z hp hx h1 (fun its rv=>zw (wy ht) _ hl rs rv) fun tk=>⟨.bl _,H,I.tok _,rfl,k _ S _ H q (.bl _) rS .refl⟩
  ·exact q.elim
 ·exact q.elim⟩
end
abbrev si:=PV->List PV->az->bj->Prop
section
variable {X:Cx} {e o:Expr} {es:List Expr} {te to:bc} {ts:List bc} {name:Str} {p pos apos cpos:Pos} {T id:String}
inductive LM (X:Cx) (r:si) (x:V) (xs:List V) (H:Hp) (Q:VK):Prop
 |mk (px ps S Q3) (rx:Rep X.K H x px) (rs:Reps X.K H xs ps) (rS:Hk X.K H S) (h:r px ps S Q3) (k:Mm X.K H Q3 Q):LM X r x xs H Q
structure vp (X:Cx) (id:String) (r:si):Prop where
 ok:BO X id (LM X r)
def p5(T:String)(x:PV)(S:az):Prop:=match x with
 | .str _=>T = "str"
 | .ref a=>(match S a with|some (.lst _)=>T = "list" | some (.dct _)=>T = "dict" | _=>False)
 | .cl _=>T = "list"
 |_=>False
def wA{H:Hp}{S:az}{v:V}{p:PV}(rS:Hk X.K H S)(r:Rep X.K H v p)(h:p5 T p S):FB X.K T v H:=by
 cases r with
 |str x=>exact h
 |ref a=>
  unfold p5 at h
  simp only at h
  split at h
  ·rename_i e
   obtain⟨vs,hv,_⟩:=rS _ _ e
   exact .inl ⟨h,_,SqL.of hv⟩
  ·rename_i e
   obtain⟨vs,hv,_⟩:=rS _ _ e
   exact .inr (.inr (.inl ⟨h,.inl ⟨_,hv⟩⟩))
  ·exact h.elim
 |cl h1 _=>exact .inl ⟨h,_,h1.sq⟩
 |_=>exact h.elim
def eR(T:String)(r:si)(to:bc)(ts:List bc):bc:=fun σ S Q E=>to σ S (fun x S1=>p5 T x S1/\ak ts σ S1 (fun ps S2=>r x ps S2 Q) E) E
def Gk{r:si}(pa:PlainAttrs T)(slot:Slot T name id)(hty:typeOf (.builtin id)=pure (.type "method_descriptor"))(hm:vp X id r)(hs:starEach (e::es) X.env=(false,eval e X.env)::starEach es X.env)(ho:bu X o to)(ha:kW X (e::es) ts)
  (hbase:attributeBase o name X.env (eval o X.env)=eval o X.env:=by rfl)
  (hfew:((backTo cpos (starEach (e::es) X.env)).all (fun x=>!x.1)&&(backToKw cpos (keywordEach [] X.env)).all (fun x=>x.1.isSome)
   && decide ((e::es).length+([]:List Keyword).length+(if ([]:List Keyword).isEmpty then 0 else 1) < 30))=true:=by rfl)
  (hline:(apos.endLine == cpos.line)=true:=by rfl) (hplain:(backTo cpos (starEach es X.env)).any (·.1)=false:=by rfl):bu X (.Call (.Attribute o name apos) (e::es) [] cpos) (eR T r to ts):=
 ⟨aX (Eg pa slot hty hm.ok ho.ok ha.ok hbase hfew hline hs hplain) fun σ H Q ⟨σ3,S,Q3,E3,rσ,rS,h,xo,k⟩=>⟨σ3,S,_,E3,rσ,rS,h,xo,fun x S1 v H1 h1 rx Ht g1=>
  ⟨wA Ht rx h1.1,cz (rσ.mono g1) Ht h1.2 (xo.mono g1) fun ps S2 vs H2 hl q rv JD g2=>⟨x,ps,S2,Q3,rx.mono g2,rv,JD,q,k.mono (g1.trans g2)⟩⟩⟩⟩
def ED{r:si}(pa:PlainAttrs T)(slot:Slot T name id)(hty:typeOf (.builtin id)=pure (.type "method_descriptor"))(hm:vp X id r)(ho:bu X o to)
  (hbase:attributeBase o name X.env (eval o X.env)=eval o X.env:=by rfl) (hline:(apos.endLine == cpos.line)=true:=by rfl):bu X (.Call (.Attribute o name apos) [] [] cpos) (eR T r to []):=
 ⟨aX (BR pa slot hty hm.ok ho.ok hbase hline) fun σ H Q ⟨σ3,S,Q3,E3,rσ,rS,h,xo,k⟩=>⟨σ3,S,_,E3,rσ,rS,h,xo,fun x S1 v H1 h1 rx Ht g1=>
  ⟨wA Ht rx h1.1,⟨x,[],S1,Q3,rx,.nil,Ht,h1.2,k.mono g1⟩⟩⟩⟩
def bf:si:=fun x ps S Q=>match x,ps with
 | .ref a,[y]=>(match S a with|some (.lst xs)=>xs.length < sizeLine/\Q .non (He S a (.lst (xs++[y])))|_=>False)
 |_,_=>False
def cI:vp X "list.append" bf:=⟨fun pins s σ H x xs v us Q I rx rs ⟨px,ps,S,Q3,r1,rp,rS,q,k⟩=>by
 unfold bf at q
 split at q
 ·split at q
  ·rename_i e
   cases r1
   cases rp with
   |cons b rr=>
    cases rr
    obtain⟨vs,hv,rl⟩:=rS _ _ e
    exact uk pins s σ H _ _ v us Q I rx rs ⟨_,_,_,rfl,rfl,hv,by rw[rl.length];exact q.1,k _ _ _ _ q.2 .non (rS.put hv trivial ⟨_,aD,(rl.append (.cons b .nil)).mono (.mut hv trivial)⟩) (.mut hv trivial)⟩
  ·exact q.elim
 ·exact q.elim⟩
def bE:si:=fun x ps S Q=>match x,ps with
 | .ref a,[.ref b]=>(match S a,S b with|some (.lst xs),some (.lst ys)=>xs.length+ys.length<=sizeLine/\Q .non (He S a (.lst (xs++ys)))|_,_=>False)
 |_,_=>False
def gK:vp X "list.extend" bE:=⟨fun pins s σ H x xs v us Q I rx rs ⟨px,ps,S,Q3,r1,rp,rS,q,k⟩=>by
 unfold bE at q
 split at q
 ·split at q
  ·rename_i e e2
   cases r1
   cases rp with
   |cons b rr=>
    cases rr
    cases b
    obtain⟨vs,hv,rl⟩:=rS _ _ e
    obtain⟨us',hu,ru⟩:=rS _ _ e2
    exact ul pins s σ H _ _ v us Q I rx rs ⟨_,_,_,_,rfl,rfl,hv,hu,by rw[rl.length,ru.length];exact q.1,k _ _ _ _ q.2 .non (rS.put hv trivial ⟨_,aD,(rl.append ru).mono (.mut hv trivial)⟩) (.mut hv trivial)⟩
  ·exact q.elim
 ·exact q.elim⟩
def qt:si:=fun x ps S Q=>match x,ps with
 | .ref a,[]=>(match S a with|some (.lst xs)=>(match xs[xs.length - 1]? with|some y=>Q y (He S a (.lst xs.dropLast))|none=>False)|_=>False)
 | .ref a,[.int i]=>(match S a with|some (.lst xs)=>-(2 ^ 63)<=i/\i < 2 ^ 63/\(match seqIndex? i xs.length with|some j=>(match xs[j]? with|some y=>Q y (He S a (.lst (xs.eraseIdx j)))|none=>False)|none=>False)|_=>False)
 |_,_=>False
def AM:vp X "list.pop" qt:=⟨fun pins s σ H x xs v us Q I rx rs ⟨px,ps,S,Q3,r1,rp,rS,q,k⟩=>by
 unfold qt at q
 split at q
 ·split at q
  ·rename_i e
   split at q
   ·rename_i ey
    cases r1
    cases rp
    obtain⟨vs,hv,rl⟩:=rS _ _ e
    rw[<-rl.length]at ey
    obtain⟨y',Pp,ry⟩:=rl.get ey
    exact BS pins s σ H _ _ v us Q I rx rs ⟨_,_,_,rfl,rfl,hv,Pp,k _ _ _ _ q (ry.mono (.mut hv trivial)) (rS.put hv trivial ⟨_,aD,rl.dropLast.mono (.mut hv trivial)⟩) (.mut hv trivial)⟩
   ·exact q.elim
  ·exact q.elim
 ·split at q
  ·rename_i e
   obtain⟨h1,h2,q⟩:=q
   split at q
   ·rename_i ej
    split at q
    ·rename_i ey
     cases r1
     cases rp with
     |cons b rr=>
      cases rr;cases b
      obtain⟨vs,hv,rl⟩:=rS _ _ e
      obtain⟨y',Pp,ry⟩:=rl.get ey
      rw[<-rl.length]at ej
      exact vP pins s σ H _ _ v us Q I rx rs ⟨_,_,_,_,_,rfl,rfl,hv,h1,h2,ej,Pp,k _ _ _ _ q (ry.mono (.mut hv trivial)) (rS.put hv trivial ⟨_,aD,(rl.eraseIdx _).mono (.mut hv trivial)⟩) (.mut hv trivial)⟩
    ·exact q.elim
   ·exact q.elim
  ·exact q.elim
 ·exact q.elim⟩
noncomputable def texts:List PV->Option (List Str)
 |[]=>some []
 | .str b::r=>(texts r).map (b::·)
 |_::_=>none
theorem lZ{K:Vo}{H:Hp}:∀{vs:List V} {ps:List PV} {bs:Vs},Reps K H vs ps->texts ps=some bs->vs=bs.map V.str
 |_,_,_,.nil,h=>by cases h;rfl
 |_,_,bs,.cons (p:=p) a r,h=>by
  cases p with
  |str b=>
   cases a
   unfold texts at h
   cases e:texts _ with
   |none=>rw[e]at h;cases h
   |some l=>rw[e]at h;cases h;rw[lZ r e];rfl
  |_=>cases h
def nY:si:=fun x ps S Q=>match x,ps with
 | .str z,[.ref a]=>(match S a with|some (.lst xs)=>(match texts xs with|some ys=>(ys.map (·.length)).sum+ys.length * z.length<=1000000/\Q (.str (Txt.join z ys)) S|none=>False)|_=>False)
 |_,_=>False
def wB:vp X "str.join" nY:=⟨fun pins s σ H x xs v us Q I rx rs ⟨px,ps,S,Q3,r1,rp,rS,q,k⟩=>by
 unfold nY at q
 split at q
 ·split at q
  ·rename_i e
   split at q
   ·rename_i et
    cases r1
    cases rp with
    |cons b rr=>
     cases rr;cases b
     obtain⟨vs,hv,rl⟩:=rS _ _ e
     have e2:=lZ rl et
     subst e2
     exact zg pins s σ H _ _ v us Q I rx rs ⟨_,_,_,rfl,rfl,SqL.of hv,q.1,k _ S _ H q.2 (.str _) rS .refl⟩
   ·exact q.elim
  ·exact q.elim
 ·exact q.elim⟩
def kh:si:=fun x ps S Q=>match x,ps with
 | .str a,[.str b]=>(match Builtin.Str.occurrences a b 0 a.length 1 with|i::_=>Q (.int i) S|[]=>False)
 |_,_=>False
def zx:vp X "str.index" kh:=⟨fun pins s σ H x xs v us Q I rx rs ⟨px,ps,S,Q3,r1,rp,rS,q,k⟩=>by
 unfold kh at q
 split at q
 ·split at q
  ·rename_i e
   cases r1
   cases rp with
   |cons b rr=>
    cases rr;cases b
    exact vZ pins s σ H _ _ v us Q I rx rs ⟨_,_,_,_,rfl,rfl,e,k _ S _ H q (.int _) rS .refl⟩
  ·exact q.elim
 ·exact q.elim⟩
end
section
variable {X:Cx} {e c:Expr} {te:bc} {st:Stmt} {rest a b:List Stmt} {t u:bB} {tc:kU} {pos:Pos}
def aN:bB:=fun D σ S=>D.nx σ S
def ai(t u:bB):bB:=fun D σ S=>t { D with nx:=u D } σ S
def aK:kf X [] aN:=⟨tj yE fun D σ H ⟨σ3,S,D3,rσ,rS,h,xo,n,r,bk,ct⟩=>n σ3 S σ H h rσ rS .refl⟩
def ad(h1:s_ X st t)(h2:kf X rest u):kf X (st::rest) (ai t u):=
 ⟨tj (vy h1.ok h2.ok) fun D σ H ⟨σ3,S,D3,rσ,rS,h,xo,n,r,bk,ct⟩=>⟨σ3,S,{ D3 with nx:=u D3 },rσ,rS,h,xo,fun σ4 S' σ' H' h' MM JN g=>⟨σ4,S',D3,MM,JN,h',xo.mono g,n.mono g,r.mono g,bk.mono g,ct.mono g⟩,r,bk,ct⟩⟩
def aj(h1:s_ X st t):kf X [st] t:=⟨yF h1.ok⟩
def aW(te:bc):bB:=fun D σ S=>te σ S (fun _ S1=>D.nx σ S1) D.ex
def bL(he:bu X e te)(hs:swapsWith e none pos.line X.env=pure false:=by rfl):s_ X (.Expr e pos) (aW te):=
 ⟨eQ (yG he.ok hs) fun D σ H ⟨σ3,S,D3,rσ,rS,h,xo,n,r,bk,ct⟩=>⟨σ3,S,_,D3.ex,rσ,rS,h,xo,fun p S1 v H1 h1 rv Ht g1=>n σ3 S1 σ H1 h1 (rσ.mono g1) Ht g1⟩⟩
def av(te:bc):bB:=fun D σ S=>te σ S D.rt D.ex
def ap(he:bu X e te):s_ X (.Return (some e) pos) (av te):=
 ⟨eQ (Bo he.ok) fun D σ H ⟨σ3,S,D3,rσ,rS,h,xo,n,r,bk,ct⟩=>⟨σ3,S,D3.rt,D3.ex,rσ,rS,h,xo,r⟩⟩
def bq(c:kU)(t u:bB):bB:=fun D σ S=>c σ S (fun b S1=>if b=true then t D σ S1 else u D σ S1) D.ex
def ba(hc:rZ X c tc)(ha:kf X a t)(hb:kf X b u):s_ X (.If c a b pos) (bq tc t u):=
 ⟨eQ (DR hc.ok ha.ok hb.ok) fun D σ H ⟨σ3,S,D3,rσ,rS,h,xo,n,r,bk,ct⟩=>⟨σ3,S,_,D3.ex,rσ,rS,h,xo,fun z S1 H1 h1 Ht g1=>by
  cases z with
  |true=>rw[if_pos rfl]at h1 ⊢;exact⟨σ3,S1,D3,rσ.mono g1,Ht,h1,xo.mono g1,n.mono g1,r.mono g1,bk.mono g1,ct.mono g1⟩
  |false=>rw[if_neg (by decide)]at h1 ⊢;exact⟨σ3,S1,D3,rσ.mono g1,Ht,h1,xo.mono g1,n.mono g1,r.mono g1,bk.mono g1,ct.mono g1⟩⟩⟩
def aq(i:Nat)(te:bc):bB:=fun D σ S=>te σ S (fun v S1=>D.nx (σ.set i (some v)) S1) D.ex
def wC{i:Nat}{D:m7}{σ:L2.St}{H:Hp}:LS X (aq i te) D σ H->yK (LE X te) (qd i) D σ H:=fun⟨σ3,S,D3,rσ,rS,h,xo,n,r,bk,ct⟩=>
 ⟨σ3,S,_,D3.ex,rσ,rS,h,xo,fun p S1 v H1 h1 rv Ht g1=>n _ S1 _ H1 h1 ((rσ.mono g1).set rv i) Ht g1⟩
def EE{i:Nat}{x:Str}{pos':Pos}(hN:X.N.Nodup)(hi:X.N[i]?=some x)(hx:AB X.env.scope x)(he:bu X e te)(hs:swapsWith e (some (.Name x pos')) pos.line X.env=pure false:=by rfl)
  (hf:X.fn x=true\/X.env.scope.names.lookup x=some .local:=by first|exact .inl rfl|exact .inr rfl|assumption):s_ X (.Assign [.Name x pos'] e pos) (aq i te):=⟨eQ (Bt hN hi hx he.ok hs hf) fun _ _ _=>wC⟩
def uE(i j:Nat)(ta tb:bc):bB:=fun D σ S=>ta σ S (fun v S1=>tb σ S1 (fun w S2=>D.nx ((σ.set i (some v)).set j (some w)) S2) D.ex) D.ex
def AN{i j:Nat}{x y:Str}{a b:Expr}{ta tb:bc}{px py pt:Pos}{kt k2 Nq}(hc:X.calm=true)(hN:X.N.Nodup)(hi:X.N[i]?=some x)(hj:X.N[j]?=some y)(hij:i≠j)
  (hx:X.env.scope.names.lookup x=some .local) (hy:X.env.scope.names.lookup y=some .local) (ha:kW X [a,b] [ta,tb])
  (hw:swappedStores [.Tuple [.Name x px,.Name y py] kt pt] (.Tuple [a,b] k2 Nq) X.env=pure (some [x,y]):=by rfl)
  (hs:swapsWithSole [.Tuple [.Name x px,.Name y py] kt pt] (.Tuple [a,b] k2 Nq) pos.line X.env=pure false:=by rfl) :
  s_ X (.Assign [.Tuple [.Name x px,.Name y py] kt pt] (.Tuple [a,b] k2 Nq) pos) (uE i j ta tb):=
 ⟨eQ (Bu hc hN hi hj hij hx hy ha.ok hw hs) fun D σ H ⟨σ3,S,D3,rσ,rS,h,xo,n,r,bk,ct⟩=>
  ⟨σ3,S,_,D3.ex,rσ,rS,h,xo,fun v S1 v' H1 h1 rv Ht g1=>⟨σ3,S1,_,D3.ex,rσ.mono g1,Ht,h1,xo.mono g1,fun w S2 w' H2 h2 rw' JD g2=>
   ⟨v',w',rfl,n _ S2 _ H2 h2 (((rσ.mono (g1.trans g2)).set (rv.mono g2) i).set rw' j) JD (g1.trans g2)⟩⟩⟩⟩
def l0(i j k:Nat)(te:bc):bB:=fun D σ S=>te σ S (fun p S1=>match p with | .tup [v,w,u]=>D.nx (((σ.set k (some u)).set j (some w)).set i (some v)) S1|_=>False) D.ex
def zy{i j k:Nat}{x y z:Str}{px py pz pt:Pos}{kt:Nat}(hc:X.calm=true)(hN:X.N.Nodup)(hi:X.N[i]?=some x)(hj:X.N[j]?=some y)(hk:X.N[k]?=some z)
  (hx:X.env.scope.names.lookup x=some .local) (hy:X.env.scope.names.lookup y=some .local) (hz:X.env.scope.names.lookup z=some .local) (he:bu X e te)
  (hw:swappedStores [.Tuple [.Name x px,.Name y py,.Name z pz] kt pt] e X.env=pure (some [x,y,z]):=by rfl)
  (hs:swapsWithSole [.Tuple [.Name x px,.Name y py,.Name z pz] kt pt] e pos.line X.env=pure false:=by rfl):s_ X (.Assign [.Tuple [.Name x px,.Name y py,.Name z pz] kt pt] e pos) (l0 i j k te):=
 ⟨eQ (v5 hc hN hi hj hk hx hy hz he.ok hw hs) fun D σ H ⟨σ3,S,D3,rσ,rS,h,xo,n,r,bk,ct⟩=>⟨σ3,S,_,D3.ex,rσ,rS,h,xo,fun p S1 v H1 h1 rv Ht g1=>by
  try dsimp only at h1
  split at h1
  ·cases rv with
   |tup hq rs=>
    cases rs with
    |cons r1 rs=>
     cases rs with
     |cons r2 rs=>
      cases rs with
      |cons r3 rs=>
       cases rs
       exact⟨_,_,_,_,rfl,hq,n _ S1 _ H1 h1 ((((rσ.mono g1).set r3 k).set r2 j).set r1 i) Ht g1⟩
  ·exact h1.elim⟩⟩
inductive Tg where
 |n (i:Nat)|tp (l:Tg)|nil|cons (a r:Tg)
mutual
noncomputable def Tg.put:Tg->PV->cF->Option cF
 | .n i,p,σ=>some (σ.set i (some p))
 | .tp l,.tup xs,σ=>l.Hi xs σ
 |_,_,_=>none
noncomputable def Tg.Hi:Tg->List PV->cF->Option cF
 | .nil,[],σ=>some σ
 | .cons a r,x::xs,σ=>(match a.put x σ with|some σ'=>r.Hi xs σ'|none=>none)
 |_,_,_=>none
end
noncomputable def Tg.len:Tg->Nat
 | .cons _ r=>r.len+1
 |_=>0
mutual
noncomputable def Tg.g2(K:Vo):Tg->TG
 | .n i=>qd i
 | .tp l=>DU K l.len (l.M9 K)
 |_=>fun _ _ _ _=>False
noncomputable def Tg.M9(K:Vo):Tg->AC
 | .nil=>DT
 | .cons a r=>AD (a.g2 K) (r.M9 K)
 |_=>fun _ _ _ _=>False
end
noncomputable def Tg.under(own:Nat):Tg->Bool
 | .n i=>decide (i < own)
 | .tp l=>l.under own
 | .nil=>true
 | .cons a r=>a.under own&&r.under own
theorem Tg.Hw:∀(g:Tg) {ps:List PV} {σ3 σ4:cF},g.Hi ps σ3=some σ4->ps.length=g.len
 | .nil,ps,σ3,σ4,h=>by
  cases ps with
  |nil=>rfl
  |cons _ _=>unfold Tg.Hi at h;cases h
 | .cons a r,ps,σ3,σ4,h=>by
  cases ps with
  |nil=>unfold Tg.Hi at h;cases h
  |cons x xs=>
   unfold Tg.Hi at h
   split at h
   ·rw[SN,Tg.Hw r h];rfl
   ·cases h
 | .n _,ps,σ3,σ4,h=>by unfold Tg.Hi at h;cases h
 | .tp _,ps,σ3,σ4,h=>by unfold Tg.Hi at h;cases h
mutual
theorem Tg.LJ{K:Vo}{H:Hp}{own:Nat}:∀(g:Tg) {v:V} {p:PV} {σ:L2.St} {σ3 σ4:cF} {Q:L2.St->Hp->Prop},Rep K H v p->Hr K H σ σ3->g.put p σ3=some σ4->(∀σ',Hr K H σ' σ4->(g.under own=true->σ'.drop own=σ.drop own)->Q σ' H)->g.g2 K v σ H Q
 | .n i,v,p,σ,σ3,σ4,Q,r,rσ,h,k=>by
  unfold Tg.put at h
  cases h
  unfold Tg.g2
  refine k _ (rσ.set r i) fun hb=>?_
  have hi:i < own:=WU hb
  rw[List.drop_set]
  rw[if_pos hi]
 | .tp l,v,p,σ,σ3,σ4,Q,r,rσ,h,k=>by
  cases p with
  |tup xs=>
   unfold Tg.put at h
   cases r with
   |tup hq rs=>
    have hg:=Tg.L8 (own:=own) l rs rσ h k
    unfold Tg.g2
    exact⟨_,_,rfl,hq,rs.length.trans (Tg.Hw l h),hg⟩
  |_=>unfold Tg.put at h;cases h
 | .nil,v,p,σ,σ3,σ4,Q,r,rσ,h,k=>by unfold Tg.put at h;cases h
 | .cons _ _,v,p,σ,σ3,σ4,Q,r,rσ,h,k=>by unfold Tg.put at h;cases h
theorem Tg.L8{K:Vo}{H:Hp}{own:Nat}:∀(g:Tg) {vs:List V} {ps:List PV} {σ:L2.St} {σ3 σ4:cF} {Q:L2.St->Hp->Prop},Reps K H vs ps->Hr K H σ σ3->g.Hi ps σ3=some σ4->(∀σ',Hr K H σ' σ4->(g.under own=true->σ'.drop own=σ.drop own)->Q σ' H)->g.M9 K vs σ H Q
 | .nil,vs,ps,σ,σ3,σ4,Q,r,rσ,h,k=>by
  cases ps with
  |nil=>
   unfold Tg.Hi at h
   cases h
   cases r
   unfold Tg.M9
   exact⟨rfl,k _ rσ fun _=>rfl⟩
  |cons _ _=>unfold Tg.Hi at h;cases h
 | .cons a r',vs,ps,σ,σ3,σ4,Q,r,rσ,h,k=>by
  cases ps with
  |nil=>unfold Tg.Hi at h;cases h
  |cons x xs=>
   unfold Tg.Hi at h
   split at h
   ·rename_i σ5 e5
    cases r with
    |cons r1 r2=>
     unfold Tg.M9
     refine⟨_,_,rfl,Tg.LJ (own:=own) a r1 rσ e5 fun σ' MM d1=>Tg.L8 (own:=own) r' r2 MM h fun Rf Pq d2=>k Rf Pq fun hb=>?_⟩
     have hb':a.under own=true/\r'.under own=true:=by simpa [Tg.under]using hb
     rw[d2 hb'.2,d1 hb'.1]
   ·cases h
 | .n _,vs,ps,σ,σ3,σ4,Q,r,rσ,h,k=>by unfold Tg.Hi at h;cases h
 | .tp _,vs,ps,σ,σ3,σ4,Q,r,rσ,h,k=>by unfold Tg.Hi at h;cases h
end
structure zz (X:Cx) (e:Expr) (g:Tg):Prop where
 ok:PG X e (g.g2 X.K)
structure zA (X:Cx) (es:List Expr) (g:Tg):Prop where
 ok:DS X es (g.M9 X.K)
 len:(assignEach es X.env).length=g.len
def G1(i:Nat){x:Str}(hN:X.N.Nodup)(hi:X.N[i]?=some x)(hx:AB X.env.scope x)(hf:X.fn x=true\/X.env.scope.names.lookup x=some .local:=by first|exact .inl rfl|exact .inr rfl|assumption):zz X (.Name x pos) (.n i):=⟨by
 have h:=yI (pos:=pos) hN hi hx hf
 unfold Tg.g2
 exact h⟩
def cA:zA X [] .nil:=⟨by unfold Tg.M9;exact yJ,rfl⟩
def aL{es:List Expr}{a r:Tg}(h1:zz X e a)(h2:zA X es r)(hs:(assignEach (e::es) X.env).map (·.2)=assign e X.env::(assignEach es X.env).map (·.2):=by rfl)(hl:(assignEach (e::es) X.env).length=(assignEach es X.env).length+1:=by rfl):zA X (e::es) (.cons a r):=
 ⟨by unfold Tg.M9;exact vz h1.ok h2.ok hs,by rw[hl,h2.len];rfl⟩
def nZ{es:List Expr}{k:Nat}{l:Tg}(hc:X.calm=true)(h:zA X es l)(hst:(assignEach es X.env).findIdx? (·.1)=none:=by rfl):zz X (.Tuple es k pos) (.tp l):=⟨by
 have h:=Bq (pos:=pos) (k:=k) hc h.ok h.len hst
 unfold Tg.g2
 exact h⟩
end
noncomputable def oR{κ:Type} [DecidableEq κ](kvs:List (κ×PV))(k:κ)(v:PV):List (κ×PV):=
 if (kvs.any fun kv=>decide (kv.1=k))=true then kvs.map (fun kv=>if kv.1=k then (kv.1,v) else kv) else kvs++[(k,v)]
theorem HQ.append{K:Vo}{H:Hp}{κ:Type}:∀{vs us:List (κ×V)} {ps qs:List (κ×PV)},HQ K H vs ps->HQ K H us qs->HQ K H (vs++us) (ps++qs)
 |_,_,_,_,.nil,s=>s
 |_,_,_,_,.cons a r,s=>.cons a (HQ.append r s)
def HQ.put{K:Vo}{H:Hp}{κ:Type} [DecidableEq κ]{k:κ}{v:V}{p:PV}(q:Rep K H v p){vs:List (κ×V)}{ps:List (κ×PV)}(r:HQ K H vs ps):HQ K H (gE vs k v) (oR ps k p):=by
 have e:(vs.any fun kv=>decide (kv.1=k))=(ps.any fun kv=>decide (kv.1=k)):=by rw[lK,r.any]
 unfold gE oR
 rw[e]
 split
 ·clear e
  rename_i h
  clear h
  induction r with
  |nil=>exact .nil
  |@cons k' v' p' vs' ps' a r ih=>
   rw[SH,SH]
   by_cases z:k'=k
   ·rw[if_pos z,if_pos z];exact .cons q ih
   ·rw[if_neg z,if_neg z];exact .cons a ih
 ·exact r.append (.cons q .nil)
def dC(o i v:PV)(S:az)(Q:az->Prop):Prop:=match o with
 | .ref a=>(match S a with
  |some (.lst xs)=>(match i with | .int k=>(match rA xs.length k with|some j=>Q (He S a (.lst (xs.set j v)))|none=>False)|_=>False)
  |some (.dct kvs)=>(match oM i with|some k=>kvs.length < sizeLine/\Q (He S a (.dct (oR kvs k v)))|none=>False)
  |_=>False)
 |_=>False
section
variable {X:Cx} {e o i:Expr} {te to ti:bc} {pos pos':Pos}
noncomputable def Gm(X:Cx):V->V->V->Hp->(Hp->Prop)->Prop:=fun o i v H Q=>∃po pi pv S Q3,Rep X.K H o po/\Rep X.K H i pi/\Rep X.K H v pv/\Hk X.K H S/\dC po pi pv S Q3/\∀S' H',Q3 S'->Hk X.K H' S'->Grow X.K H H'->Q H'
def Ck(hu:X.A.units+1 < cLine):yH X (Gm X):=by
 intro pins s σ H o i v ov iv u Q I ro ri rv ⟨po,pi,pv,S,Q3,r1,r2,r3,rS,q,k⟩
 unfold dC at q
 split at q
 ·split at q
  ·rename_i e
   split at q
   ·split at q
    ·rename_i ej
     cases r1;cases r2
     obtain⟨vs,hv,rl⟩:=rS _ _ e
     rw[<-rl.length]at ej
     exact vN pins s σ H _ _ _ ov iv u Q I ro ri rv ⟨_,_,_,_,rfl,rfl,hv,ej,k _ _ q (rS.put hv trivial ⟨_,aD,((rl.set r3 _).mono (.mut hv trivial))⟩) (.mut hv trivial)⟩
    ·exact q.elim
   ·exact q.elim
  ·rename_i e
   split at q
   ·rename_i ek
    cases r1
    have e1:=eP r2 ek
    subst e1
    obtain⟨kv,hv,rk⟩:=rS _ _ e
    exact wq hu pins s σ H _ _ _ ov iv u Q I ro ri rv ⟨_,_,rfl,Ms.k hv (by rw[rk.length];exact q.1),k _ _ q.2 (rS.put hv trivial ⟨_,aD,(rk.put r3).mono (.mut hv trivial)⟩) (.mut hv trivial)⟩
   ·exact q.elim
  ·exact q.elim
 ·exact q.elim
def eg(te to ti:bc):bB:=fun D σ S=>te σ S (fun v S1=>to σ S1 (fun o S2=>ti σ S2 (fun i S3=>dC o i v S3 (fun S4=>D.nx σ S4)) D.ex) D.ex) D.ex
def gL(hu:X.A.units+1 < cLine)(he:bu X e te)(ho:bu X o to)(hi:bu X i ti)
  (ha:∀v,assign (.Subscript o i pos') X.env v=(do
   let ov <-holding [v] (eval o X.env)
   let iv <-holding [v,ov] (eval i X.env)
   standAt pos'
   holding [v,ov,iv] (setItem ov iv v)
   release [v,ov,iv] []):=by intro _;rfl)
  (hs:swapsWithSole [.Subscript o i pos'] e pos.line X.env=pure false:=by rfl) (hw:swappedStores [.Subscript o i pos'] e X.env=pure none:=by rfl)
  (h1:(assignEach [.Subscript o i pos'] X.env).map (·.2)=[assign (.Subscript o i pos') X.env]:=by rfl):s_ X (.Assign [.Subscript o i pos'] e pos) (eg te to ti):=
 ⟨eQ (Bs he.ok (Br ho.ok hi.ok (Ck hu) ha) hs hw h1) fun D σ H ⟨σ3,S,D3,rσ,rS,h,xo,n,r,bk,ct⟩=>⟨σ3,S,_,D3.ex,rσ,rS,h,xo,fun v S1 v' H1 h1 rv Ht g1=>
  ⟨σ3,S1,_,D3.ex,rσ.mono g1,Ht,h1,xo.mono g1,fun o S2 o' H2 h2 ro JD g2=>⟨σ3,S2,_,D3.ex,rσ.mono (g1.trans g2),JD,h2,xo.mono (g1.trans g2),fun i S3 i' H3 h3 ri MV g3=>
   ⟨o,i,v,S3,_,ro.mono g3,ri,rv.mono (g2.trans g3),MV,h3,fun S4 H4 h4 Rg g4=>n _ S4 _ H4 h4 (rσ.mono (g1.trans (g2.trans (g3.trans g4)))) Rg (g1.trans (g2.trans (g3.trans g4)))⟩⟩⟩⟩⟩
end
end L3
namespace L2
open PySem PySem.Spec PyProof.Rows
section
variable {X:Cx} {tg:Expr}
def Gn(K:Vo)(tl:TE):TI:=fun σ H R=>tl σ H fun x H1=>(∃a,x = .ref a/\(∃xs,SqL K H1 a xs)/\R (Fx K a) H1)\/(∃a,x = .ref a/\(∃xs,SqT K H1 a xs)/\R (FX K a) H1)\/∃z,x = .str z/\R (Gb z) H1
def Cl{l:Expr}{tl:TE}(hl:PE X l tl):PI X tg l (Gn X.K tl):=by
 intro pins s σ H R I h
 refine Hj (hl pins s σ H _ I h) fun v s1 ⟨x,H1,I1,r1,q1⟩=>?_
 rcases q1 with⟨a,e,⟨xs,hq⟩,q⟩|⟨a,e,⟨xs,hq⟩,q⟩|⟨z,e,q⟩
 ·subst e
  cases r1
  obtain⟨its,rv,p,hz⟩:=I1.list hq
  refine TR p.isList ?_
  refine⟨s1.heap.objs.size,[s1.heap.objs.size],_,_,H1,rfl,I1.kept (t':=s1.toks) fun b o e=>So _ e,ub a _,⟨_,SG _ rfl,rfl,rfl⟩,fun b hb=>?_,q⟩
  have e:b=s1.heap.objs.size:=by simpa using hb
  subst e
  exact I1.J5 (Ss _) (I1.hok.fresh (Ss _))
 ·subst e
  cases r1
  obtain⟨its,rv,p,hz⟩:=I1.tuple hq
  refine Tv (show s1.heap.IsTuple a its.toArray from p) ?_
  refine⟨s1.heap.objs.size,[s1.heap.objs.size],_,_,H1,rfl,I1.kept (t':=s1.toks) fun b o e=>So _ e,rF a _,⟨_,SG _ rfl,rfl,rfl⟩,fun b hb=>?_,q⟩
  have e:b=s1.heap.objs.size:=by simpa using hb
  subst e
  exact I1.J5 (Ss _) (I1.hok.fresh (Ss _))
 ·subst e
  obtain⟨t,rfl⟩:=r1
  have fin:∀ty,(ty = "str_ascii_iterator" \/ ty = "str_iterator")->FW X pins σ tg R (.ref s1.heap.objs.size) { s1 with heap:=s1.heap.push { cls:=.type ty,data:=.fields #[.str z t,.int 0 0] } }:=fun ty hty=>by
   refine⟨s1.heap.objs.size,[s1.heap.objs.size],_,_,H1,rfl,I1.kept (t':=s1.toks) fun b o e=>So _ e,vY hty _ z t,⟨Tr _,_,SG _ rfl,rfl,rfl⟩,fun b hb=>?_,q⟩
   have e:b=s1.heap.objs.size:=by simpa using hb
   subst e
   exact I1.J5 (Ss _) (I1.hok.fresh (Ss _))
  cases ha:z.cps.all (· < 128)
  ·exact wpAny_pyIter_wide ha (fin _ (.inr rfl))
  ·exact wpAny_pyIter_ascii ha (fin _ (.inl rfl))
def Cm(K:Vo)(ta:TA):TI:=fun σ H R=>ta σ H fun vs H1=>∃a,vs=[.ref a]/\(((∃xs,SqL K H1 a xs)/\R (Gf K a) H1)\/((∃xs,SqT K H1 a xs)/\R (Gg K a) H1))
def wD{elts:List Expr}{k0:Nat}{IY:Pos}{a:Expr}{ta:TA}{p pos:Pos}(hg:Gl X "enumerate")(hm:X.mg "enumerate" = none)(hv:bootBuiltins "enumerate" = some (.type "enumerate"))(ha:PA X [a] ta)
  (hs:starEach [a] X.env=[(false,eval a X.env)]:=by rfl):PI X (.Tuple elts k0 IY) (.Call (.Name "enumerate" p) [a] [] pos) (Cm X.K ta):=by
 intro pins s σ H R I h
 refine Call_ (eO I hg hm hv (T5 (Hj (ha pos pins s σ H _ I h) fun us s1 ⟨vs,H1,I1,r1,q1⟩=>?_) hs rfl))
 obtain⟨a,e,q⟩:=q1
 subst e
 obtain⟨u,rfl,ru⟩:=dR r1
 cases ru
 rcases q with⟨⟨xs,qa⟩,q⟩|⟨⟨xs,qa⟩,q⟩
 ·obtain⟨ia,ra,pa,za⟩:=I1.list qa
  refine call_enumerate_list pa.isList fun g ge g1 gz kk=>?_
  refine We (s:={ s1 with heap:=g }) ge ?_
  refine⟨_,[s1.heap.objs.size+1,s1.heap.objs.size],_,_,H1,rfl,I1.kept (t':=s1.toks) kk,uz (Nat.succ_ne_self _),⟨⟨_,ge⟩,g1⟩,fun c hc=>?_,q⟩
  have hle:s1.heap.objs.size<=c:=by
   simp only[Sv,SS,T9]at hc
   rcases hc with rfl|rfl
   ·exact TQ _ _
   ·exact Ss _
  exact I1.J5 hle (I1.hok.fresh hle)
 ·obtain⟨ia,ra,pa,za⟩:=I1.tuple qa
  have la:a < s1.heap.objs.size:=by obtain⟨o,e,_⟩:=pa;exact Sw e
  refine Et.gG (show s1.heap.IsTuple a ia.toArray from pa) fun g ge g1 kk=>?_
  refine We (s:={ s1 with heap:=g }) ge ?_
  refine⟨_,[s1.heap.objs.size+1,s1.heap.objs.size],_,_,H1,rfl,I1.kept (t':=s1.toks) kk,rV (Nat.succ_ne_self _) (Th (WS la)) (Th la),⟨⟨_,ge⟩,g1⟩,fun c hc=>?_,q⟩
  have hle:s1.heap.objs.size<=c:=by
   simp only[Sv,SS,T9]at hc
   rcases hc with rfl|rfl
   ·exact TQ _ _
   ·exact Ss _
  exact I1.J5 hle (I1.hok.fresh hle)
end
end L2
namespace L3
open PySem L2
structure Go where
 items:List PV
 keep:az->Prop
def iE(K:Vo)(H0:Hp)(J:It)(src:Go):Prop:=∀(i:Nat) (S:az) (H:Hp),Grow K H0 H->Hk K H S->src.keep S->
 (∀p,src.items[i]?=some p->J.go i H/\∀x H',J.Os i H x H'->Rep K H' x p/\Hk K H' S/\Grow K H H')/\(i=src.items.length->J.stop i H)
abbrev uF:=cF->az->(Go->az->Prop)->bK->Prop
inductive LI (X:Cx) (t:uF) (σ:L2.St) (H:Hp) (R:It->Hp->Prop):Prop
 |mk (σ3 S R3 E3) (rσ:Hr X.K H σ σ3) (rS:Hk X.K H S) (h:t σ3 S R3 E3) (xo:Ml X H E3) (k:∀src S' J H',R3 src S'->iE X.K H' J src->Hk X.K H' S'->Grow X.K H H'->R J H'):LI X t σ H R
structure wE (X:Cx) (tg iter:Expr) (t:uF):Prop where
 ok:PI X tg iter (LI X t)
def ki{X:Cx}{tg iter:Expr}{t t':TI}(h:PI X tg iter t)(k:∀σ H R,t' σ H R->t σ H R):PI X tg iter t':=fun pins s σ H R I q=>h pins s σ H R I (k σ H R q)
section
variable {X:Cx} {e tg:Expr} {es:List Expr} {te:bc} {ts:List bc} {p pos:Pos}
noncomputable def bF(S:az):PV->Option Go
 | .tup xs=>some ⟨xs,fun _=>True⟩
 | .cl xs=>some ⟨xs,fun _=>True⟩
 | .str z=>some ⟨z.cps.toList.map fun c=>.str (j9 c),fun _=>True⟩
 | .ref a=>(match S a with|some (.lst xs)=>some ⟨xs,fun S'=>S' a=some (.lst xs)⟩|_=>none)
 |_=>none
def aE(te:bc):uF:=fun σ S R E=>te σ S (fun v S1=>match bF S1 v with|some src=>R src S1|none=>False) E
end
section
variable {X:Cx} {e tg a b:Expr} {es:List Expr} {te ta tb:bc} {ts:List bc} {p pos:Pos}
def wF{K:Vo}{H0:Hp}{a:Addr}{xs:List PV}:iE K H0 (Fx K a) ⟨xs,fun S'=>S' a=some (.lst xs)⟩:=by
 intro i S H g rS hk
 obtain⟨vs,hv,rs⟩:=rS a _ hk
 refine⟨fun p hp=>?_,fun hi=>⟨vs,SqL.of hv,by rw[rs.length,hi];exact Ss _⟩⟩
 obtain⟨v,hx,rv⟩:=rs.get hp
 refine⟨⟨vs,v,SqL.of hv,hx⟩,fun x H' ⟨e,h⟩=>?_⟩
 subst e
 have:=h vs (SqL.of hv)
 rw[hx]at this
 cases this
 exact⟨rv,rS,.refl⟩
def zB{K:Vo}{H0:Hp}{a:Addr}{vs:List V}{xs:List PV}(h:SqT K H0 a vs)(rs:Reps K H0 vs xs):iE K H0 (FX K a) ⟨xs,fun _=>True⟩:=by
 intro i S H g rS _
 have hv:=g.t _ _ h
 refine⟨fun p hp=>?_,fun hi=>⟨vs,hv,by rw[rs.length,hi];exact Ss _⟩⟩
 obtain⟨v,hx,rv⟩:=rs.get hp
 refine⟨⟨vs,v,hv,hx⟩,fun x H' ⟨e,h⟩=>?_⟩
 subst e
 have:=h vs hv
 rw[hx]at this
 cases this
 exact⟨rv.mono g,rS,.refl⟩
def Cn{K:Vo}{H0:Hp}{a:Addr}{vs:List V}{xs:List PV}(h:NK K H0 a vs)(rs:Reps K H0 vs xs):iE K H0 (Fx K a) ⟨xs,fun _=>True⟩:=by
 intro i S H g rS _
 have hv:=(g.c _ _ h).sq
 refine⟨fun p hp=>?_,fun hi=>⟨vs,hv,by rw[rs.length,hi];exact Ss _⟩⟩
 obtain⟨v,hx,rv⟩:=rs.get hp
 refine⟨⟨vs,v,hv,hx⟩,fun x H' ⟨e,h⟩=>?_⟩
 subst e
 have:=h vs hv
 rw[hx]at this
 cases this
 exact⟨rv.mono g,rS,.refl⟩
def zC{K:Vo}{H0:Hp}{z:Str}:iE K H0 (Gb z) ⟨z.cps.toList.map fun c=>.str (j9 c),fun _=>True⟩:=by
 intro i S H g rS _
 refine⟨fun p hp=>?_,fun hi=>by show z.cps.size<=i;rw[hi,Sm,UC];exact Ss _⟩
 rw[SA]at hp
 cases hc:z.cps.toList[i]? with
 |none=>rw[hc]at hp;cases hp
 |some c=>
  rw[hc]at hp
  cases hp
  have hc':z.cps[i]?=some c:=by simpa using hc
  refine⟨?_,fun x H' ⟨e,c',h1,h2⟩=>?_⟩
  ·show i < z.cps.size
   by_cases hi:i < z.cps.size
   ·exact hi
   ·rw[VD (by omega)]at hc';cases hc'
  ·subst e
   rw[hc']at h1
   cases h1
   subst h2
   exact⟨.str _,rS,.refl⟩
def bA(he:bu X e te):wE X tg e (aE te):=⟨ki (Cl he.ok) fun σ H R ⟨σ3,S,R3,E3,rσ,rS,h,xo,k⟩=>⟨σ3,S,_,E3,rσ,rS,h,xo,fun v S1 v' H1 h1 rv Ht g1=>by
 split at h1
 ·rename_i src hs
  unfold bF at hs
  split at hs
  ·cases hs
   cases rv with
   |tup hq rs=>exact .inr (.inl ⟨_,rfl,⟨_,hq⟩,k _ S1 _ H1 h1 (zB hq rs) Ht g1⟩)
  ·cases hs
   cases rv with
   |cl hq rs=>exact .inl ⟨_,rfl,⟨_,hq.sq⟩,k _ S1 _ H1 h1 (Cn hq rs) Ht g1⟩
  ·cases hs
   cases rv
   exact .inr (.inr ⟨_,rfl,k _ S1 _ H1 h1 zC Ht g1⟩)
  ·cases rv
   split at hs
   ·rename_i ea
    cases hs
    obtain⟨vs,hv,rs⟩:=Ht _ _ ea
    exact .inl ⟨_,rfl,⟨_,SqL.of hv⟩,k _ S1 _ H1 h1 wF Ht g1⟩
   ·cases hs
  ·cases hs
 ·exact h1.elim⟩⟩
noncomputable def bM(lo:Int)(n:Nat):List PV:=(List.range n).map fun(i:Nat)=>PV.int (lo+i)
def uG{K:Vo}{H0:Hp}{lo:Int}{n:Nat}:iE K H0 (Fy lo n) ⟨bM lo n,fun _=>True⟩:=by
 intro i S H g rS _
 refine⟨fun p hp=>?_,fun hi=>by show n<=i;rw[hi];simp[bM]⟩
 unfold bM at hp
 rw[SA]at hp
 by_cases hi:i < n
 ·rw[Up hi]at hp
  cases hp
  refine⟨hi,fun x H' ⟨e,h⟩=>?_⟩
  subst e h
  exact⟨.int _,rS,.refl⟩
 ·rw[Ua (by simpa using hi)]at hp
  cases hp
def kj(ta:bc):uF:=fun σ S R E=>ta σ S (fun v S1=>match v with | .int j=>-(2 ^ 62)<=j/\j < 2 ^ 62/\R ⟨bM 0 j.toNat,fun _=>True⟩ S1|_=>False) E
def fo(hs:starEach [a] X.env=[(false,eval a X.env)])(hg:Gl X "range")(hm:X.mg "range" = none)(ha:kW X [a] [ta]):wE X tg (.Call (.Name "range" p) [a] [] pos) (kj ta):=
 ⟨ki (uc hg hm ha.ok hs) fun σ H R ⟨σ3,S,R3,E3,rσ,rS,h,xo,k⟩=>⟨σ3,S,_,E3,rσ,rS,h,xo,fun v S1 v' H1 h1 rv Ht g1=>by
  split at h1
  ·cases rv
   exact⟨_,rfl,h1.1,h1.2.1,k _ S1 _ H1 h1.2.2 uG Ht g1⟩
  ·exact h1.elim⟩⟩
noncomputable def aS(xs:List PV):List PV:=xs.mapIdx fun i x=>.tup [.int i,x]
def uH{K:Vo}{H0:Hp}{a:Addr}{xs:List PV}:iE K H0 (Gf K a) ⟨aS xs,fun S'=>S' a=some (.lst xs)⟩:=by
 intro i S H g rS hk
 obtain⟨vs,hv,rs⟩:=rS a _ hk
 refine⟨fun p hp=>?_,fun hi=>⟨vs,SqL.of hv,by rw[rs.length,hi];simp[aS]⟩⟩
 unfold aS at hp
 rw[VM]at hp
 cases hx:xs[i]? with
 |none=>rw[hx]at hp;cases hp
 |some y=>
  rw[hx]at hp
  cases hp
  obtain⟨v,hx',rv⟩:=rs.get hx
  refine⟨⟨vs,v,SqL.of hv,hx'⟩,fun x H' ⟨q,x2,e1,hq,e2,h⟩=>?_⟩
  subst e1 e2
  have:=h vs (SqL.of hv)
  rw[hx']at this
  cases this
  exact⟨.tup (SqT.of aD) (.cons (.int _) (.cons (rv.mono (.new hq)) .nil)),rS.other hq,.new hq⟩
def uI{K:Vo}{H0:Hp}{a:Addr}{vs:List V}{xs:List PV}(h0:SqT K H0 a vs)(rs:Reps K H0 vs xs):iE K H0 (Gg K a) ⟨aS xs,fun _=>True⟩:=by
 intro i S H g rS _
 have hv:=g.t _ _ h0
 refine⟨fun p hp=>?_,fun hi=>⟨vs,hv,by rw[rs.length,hi];simp[aS]⟩⟩
 unfold aS at hp
 rw[VM]at hp
 cases hx:xs[i]? with
 |none=>rw[hx]at hp;cases hp
 |some y=>
  rw[hx]at hp
  cases hp
  obtain⟨v,hx',rv⟩:=rs.get hx
  refine⟨⟨vs,v,hv,hx'⟩,fun x H' ⟨q,x2,e1,hq,e2,h⟩=>?_⟩
  subst e1 e2
  have:=h vs hv
  rw[hx']at this
  cases this
  exact⟨.tup (SqT.of aD) (.cons (.int _) (.cons ((rv.mono g).mono (.new hq)) .nil)),rS.other hq,.new hq⟩
def dU(ta:bc):uF:=fun σ S R E=>ta σ S (fun v S1=>match v with
 | .tup xs=>R ⟨aS xs,fun _=>True⟩ S1
 | .ref a=>(match S1 a with|some (.lst xs)=>R ⟨aS xs,fun S'=>S' a=some (.lst xs)⟩ S1|_=>False)
 |_=>False) E
def kl{elts:List Expr}{k0:Nat}{IY:Pos}(hs:starEach [a] X.env=[(false,eval a X.env)])(hg:Gl X "enumerate")(hm:X.mg "enumerate" = none)(hv:bootBuiltins "enumerate" = some (.type "enumerate"))(ha:kW X [a] [ta]):wE X (.Tuple elts k0 IY) (.Call (.Name "enumerate" p) [a] [] pos) (dU ta):=
 ⟨ki (wD hg hm hv ha.ok hs) fun σ H R ⟨σ3,S,R3,E3,rσ,rS,h,xo,k⟩=>⟨σ3,S,_,E3,rσ,rS,h,xo,fun v S1 v' H1 h1 rv Ht g1=>by
  split at h1
  ·cases rv with
   |tup hq rs=>exact⟨_,rfl,.inr ⟨⟨_,hq⟩,k _ S1 _ H1 h1 (uI hq rs) Ht g1⟩⟩
  ·cases rv
   split at h1
   ·rename_i ea
    obtain⟨vs,hv,rs⟩:=Ht _ _ ea
    exact⟨_,rfl,.inl ⟨⟨_,SqL.of hv⟩,k _ S1 _ H1 h1 uH Ht g1⟩⟩
   ·exact h1.elim
  ·exact h1.elim⟩⟩
noncomputable def bh(xs ys:List PV):List PV:=(xs.zip ys).map fun z=>.tup [z.1,z.2]
def Mh(K:Vo)(H0:Hp)(ka:Bool)(a:Addr)(xs:List PV)(keep:az->Prop):Prop:=∀S H,Grow K H0 H->Hk K H S->keep S->∃vs,lP ka K H a vs/\Reps K H vs xs
def Mh.tup{K:Vo}{H0:Hp}{a:Addr}{vs:List V}{xs:List PV}{keep:az->Prop}(h:SqT K H0 a vs)(r:Reps K H0 vs xs):Mh K H0 false a xs keep:=fun _ _ g _ _=>⟨vs,g.t _ _ h,r.mono g⟩
theorem Mh.lst{K:Vo}{H0:Hp}{a:Addr}{xs:List PV}{keep:az->Prop}(h:∀S,keep S->S a=some (.lst xs)):Mh K H0 true a xs keep:=fun S _ _ rS k=>let ⟨vs,hv,r⟩:=rS _ _ (h S k);⟨vs,SqL.of hv,r⟩
def jx{K:Vo}{H0:Hp}{ka kb:Bool}{a b:Addr}{xs ys:List PV}{keep:az->Prop}(h1:Mh K H0 ka a xs keep)(h2:Mh K H0 kb b ys keep):iE K H0 (Gd ka kb K a b) ⟨bh xs ys,keep⟩:=by
 intro i S H g rS kp
 obtain⟨vs,hv,r1⟩:=h1 S H g rS kp
 obtain⟨us,hu,r2⟩:=h2 S H g rS kp
 have l1:=r1.length
 have l2:=r2.length
 refine⟨fun p hp=>?_,fun hi=>⟨vs,us,hv,hu,?_⟩⟩
 ·unfold bh at hp
  rw[SA]at hp
  cases hz:(xs.zip ys)[i]? with
  |none=>rw[hz]at hp;cases hp
  |some z=>
   rw[hz]at hp
   cases hp
   obtain⟨e1,e2⟩:=UE.mp hz
   obtain⟨v,hx',rv⟩:=r1.get e1
   obtain⟨u,hy',ru⟩:=r2.get e2
   refine⟨⟨vs,us,v,u,hv,hu,hx',hy'⟩,fun x H' ⟨q,x2,y2,e3,hq,e4,h⟩=>?_⟩
   subst e3 e4
   obtain⟨k1,k2⟩:=h vs us hv hu
   rw[hx']at k1
   rw[hy']at k2
   cases k1;cases k2
   exact⟨.tup (SqT.of aD) (.cons (rv.mono (.new hq)) (.cons (ru.mono (.new hq)) .nil)),rS.other hq,.new hq⟩
 ·have e:(bh xs ys).length=min xs.length ys.length:=by simp[bh]
  rw[e]at hi
  by_cases hle:xs.length<=ys.length
  ·exact .inl (by omega)
  ·exact .inr (by omega)
def lv(ta tb:bc):uF:=fun σ S R E=>ta σ S (fun v S1=>tb σ S1 (fun w S2=>match v,w with
 | .tup xs,.tup ys=>R ⟨bh xs ys,fun _=>True⟩ S2
 |_,_=>False) E) E
def qu{elts:List Expr}{k0:Nat}{IY:Pos}(hs:starEach [a,b] X.env=[(false,eval a X.env),(false,eval b X.env)])(hs2:starEach [b] X.env=[(false,eval b X.env)])(hg:Gl X "zip")(hm:X.mg "zip" = none)(hv:bootBuiltins "zip" = some (.type "zip"))(ha:kW X [a,b] [ta,tb]) :
  wE X (.Tuple elts k0 IY) (.Call (.Name "zip" p) [a,b] [] pos) (lv ta tb):=
 ⟨ki (v7 hg hm hv ha.ok hs hs2) fun σ H R ⟨σ3,S,R3,E3,rσ,rS,h,xo,k⟩=>⟨σ3,S,_,E3,rσ,rS,h,xo,fun v S1 v' H1 h1 rv Ht g1=>⟨σ3,S1,_,E3,rσ.mono g1,Ht,h1,xo.mono g1,fun w S2 w' H2 h2 rw' JD g2=>by
  split at h2
  ·cases rv with
   |tup hq rs=>
    cases rw' with
    |tup hq2 NA=>exact⟨false,false,_,_,rfl,⟨_,g2.t _ _ hq⟩,⟨_,hq2⟩,k _ S2 _ H2 h2 (jx (.tup (g2.t _ _ hq) (rs.mono g2)) (.tup hq2 NA)) JD (g1.trans g2)⟩
  ·exact h2.elim⟩⟩⟩
end
section
variable {X:Cx} {iter tg c:Expr} {body:List Stmt} {ti:uF} {g:Tg} {tb:bB} {tc:kU} {pos:Pos}
noncomputable def oS(g:Tg)(tb:bB)(D:nV)(keep:az->Prop):List PV->cF->az->Prop
 |[],σ,S=>keep S/\D.nx σ S
 |x::r,σ,S=>keep S/\match g.put x σ with|some σ'=>tb { D with nx:=oS g tb D keep r,ct:=oS g tb D keep r,bk:=D.nx } σ' S|none=>False
def bz(ti:uF)(g:Tg)(tb:bB):bB:=fun D σ S=>ti σ S (fun src S1=>oS g tb D src.keep src.items σ S1) D.ex
def bZ(hp:PassesOwn (model X.prog X.w) X.A X.env X.xe)(hc:X.calm=true)(hi:wE X tg iter ti)(hg:zz X tg g)(hb:kf X body tb)(hs:∀x,foldedSetIterable iter X.env x=pure x:=by intro _;rfl):s_ X (.For tg iter body [] pos) (bz ti g tb):=
 ⟨eQ (Bw hp hc hi.ok hg.ok hb.ok hs) fun D σ H ⟨σ3,S,D3,rσ,rS,h,xo,n,r,bk,ct⟩=>⟨σ3,S,_,D3.ex,rσ,rS,h,xo,fun src S1 J H1 h1 sim Ht g1=>by
  refine⟨fun i m σ' H'=>i+m=src.items.length/\∃σ4 S',Hr X.K H' σ' σ4/\Hk X.K H' S'/\Grow X.K H1 H'/\oS g tb D3 src.keep (src.items.drop i) σ4 S',⟨src.items.length,TJ _,σ3,S1,rσ.mono g1,Ht,.refl,by simpa using h1⟩,?_⟩
  rintro i m σ' H' ⟨hm,σ4,S',MM,JN,g',hw⟩
  cases hd:src.items.drop i with
  |nil=>
   rw[hd]at hw
   have hi:i=src.items.length:=by
    have:=T6 List.length hd
    rw[Ut,Tj]at this
    omega
   exact .inl ⟨(sim i S' H' g' JN hw.1).2 hi,n _ S' _ H' hw.2 MM JN (g1.trans g')⟩
  |cons x rest=>
   rw[hd]at hw
   have hx:src.items[i]?=some x:=by
    have:=T6 (fun l=>l[0]?) hd
    simpa using this
   have hrest:src.items.drop (i+1)=rest:=by
    have:=T6 List.tail hd
    simpa [List.tail_drop]using this
   have hlt:i < src.items.length:=by
    by_cases z:i < src.items.length
    ·exact z
    ·rw[Ua (by omega)]at hx;cases hx
   obtain⟨go,yl⟩:=(sim i S' H' g' JN hw.1).1 x hx
   refine .inr ⟨go,fun σ5 H5=>∃σ6 S6,Hr X.K H5 σ5 σ6/\Hk X.K H5 S6/\Grow X.K H1 H5/\oS g tb D3 src.keep rest σ6 S6,?_,fun v H5 hv=>?_⟩
   ·rintro σ5 H5 ⟨σ6,S6,q1,q2,q3,q4⟩
    exact⟨m - 1,by omega,by omega,σ6,S6,q1,q2,q3,by rw[hrest];exact q4⟩
   ·obtain⟨rv,Pr,g5⟩:=yl v H5 hv
    obtain⟨_,hw⟩:=hw
    split at hw
    ·rename_i σ6 e6
     refine Tg.LJ (own:=0) g rv (MM.mono g5) e6 fun σ7 Ox _=>?_
     exact⟨σ6,S',_,Ox,Pr,hw,xo.mono (g1.trans (g'.trans g5)),fun σ8 S8 σ9 H9 q1 q2 q3 q4=>⟨σ8,S8,q2,q3,g'.trans (g5.trans q4),q1⟩,r.mono (g1.trans (g'.trans g5)),n.mono (g1.trans (g'.trans g5)),
      fun σ8 S8 σ9 H9 q1 q2 q3 q4=>⟨σ8,S8,q2,q3,g'.trans (g5.trans q4),q1⟩⟩
    ·exact hw.elim⟩⟩
def iR(tc:kU)(tb:bB):bB:=fun D σ S=>∃W:Nat->cF->az->Prop,(∃m,W m σ S)/\∀m σ S,W m σ S->
 tc σ S (fun b S1=>if b=true then ∃N:cF->az->Prop,(∀σ' S',N σ' S'->∃m',m' < m/\W m' σ' S')/\tb { D with nx:=N,ct:=N,bk:=D.nx } σ S1 else D.nx σ S1) D.ex
def jy(hp:PassesOwn (model X.prog X.w) X.A X.env X.xe)(hc:rZ X c tc)(hb:kf X body tb):s_ X (.While c body [] pos) (iR tc tb):=
 ⟨eQ (vA hp hc.ok hb.ok) fun D σ H ⟨σ3,S,D3,rσ,rS,⟨W,⟨m0,w0⟩,turn⟩,xo,n,r,bk,ct⟩=>by
  refine⟨fun m σ' H'=>∃σ4 S',Hr X.K H' σ' σ4/\Hk X.K H' S'/\Grow X.K H H'/\W m σ4 S',⟨m0,σ3,S,rσ,rS,.refl,w0⟩,?_⟩
  rintro m σ' H' ⟨σ4,S',MM,JN,g',w'⟩
  refine⟨σ4,S',_,D3.ex,MM,JN,turn m σ4 S' w',xo.mono g',fun b S1 H1 h1 Ht g1=>?_⟩
  cases b with
  |true=>
   rw[if_pos rfl]at h1 ⊢
   obtain⟨N,hN,h1⟩:=h1
   refine⟨fun σ5 H5=>∃σ6 S6,Hr X.K H5 σ5 σ6/\Hk X.K H5 S6/\Grow X.K H H5/\N σ6 S6,?_,?_⟩
   ·rintro σ5 H5 ⟨σ6,S6,q1,q2,q3,q4⟩
    obtain⟨m',hm,w6⟩:=hN σ6 S6 q4
    exact⟨m',hm,σ6,S6,q1,q2,q3,w6⟩
   ·exact⟨σ4,S1,_,MM.mono g1,Ht,h1,xo.mono (g'.trans g1),fun σ8 S8 σ9 H9 q1 q2 q3 q4=>⟨σ8,S8,q2,q3,g'.trans (g1.trans q4),q1⟩,r.mono (g'.trans g1),n.mono (g'.trans g1),
     fun σ8 S8 σ9 H9 q1 q2 q3 q4=>⟨σ8,S8,q2,q3,g'.trans (g1.trans q4),q1⟩⟩
  |false=>
   rw[if_neg (by decide)]at h1 ⊢
   exact n _ S1 _ H1 h1 (MM.mono g1) Ht (g'.trans g1)⟩
end
noncomputable def dW:bK:=fun _ _ _=>False
def Ml.no{X:Cx}{H:Hp}:Ml X H dW:=fun _ _ _ _ _ _ _ _ _ _ _ _ _ _ h=>h.elim
section
variable {X:Cx} {elt iter tg c:Expr} {ifs:List Expr} {scope:Scope} {pos:Pos} {ti:uF} {g:Tg} {tc:kU} {te:bc} {fs N:Vs} {own:Nat} {fr:List Nat}
noncomputable def dA(g:Tg)(tc:kU)(te:bc)(σ':cF)(keep:az->Prop)(fin:List PV->az->Prop):List PV->List PV->az->Prop
 |[],ys,S=>keep S/\ys.length<=sizeLine/\fin ys S
 |x::r,ys,S=>keep S/\ys.length<=sizeLine/\match g.put x σ' with
  |some σ2=>tc σ2 S (fun b S3=>if b=true then te σ2 S3 (fun y S4=>dA g tc te σ' keep fin r (ys++[y]) S4) dW else dA g tc te σ' keep fin r ys S3) dW
  |none=>False
def bH:kU:=fun _ S Q _=>Q true S
structure DA (X:Cx) (ifs:List Expr) (t:kU):Prop where
 ok:PF X ifs (LT X t)
def sj{t t':TT}(h:PF X ifs t)(k:∀σ H Q,t' σ H Q->t σ H Q):PF X ifs t':=fun pins s σ H Q I q=>h pins s σ H Q I (k σ H Q q)
def bO:DA X [] bH:=⟨sj BY fun σ H Q ⟨σ3,S,Q3,E3,rσ,rS,h,xo,k⟩=>k true S H h rS .refl⟩
def tw(h:rZ X c tc):DA X [c] tc:=⟨BZ h.ok⟩
noncomputable def cS(own:Nat)(fr:List Nat)(σ:cF):cF:=List.replicate own none++fr.map fun j=>lk σ j
def zD{K:Vo}{H:Hp}{σ:L2.St}{σ3:cF}(r:Hr K H σ σ3)(own:Nat)(fr:List Nat):Hr K H (fg own fr σ) (cS own fr σ3):=by
 refine⟨by unfold fg cS;simp,fun i p e=>?_⟩
 unfold cS at e
 unfold fg
 by_cases hi:i < own
 ·rw[TX (by simpa using hi),UP,if_pos hi]at e
  cases e
 ·rw[Ud (by simpa using hi),TU,SA]at e ⊢
  cases hj:fr[i - own]? with
  |none=>rw[hj]at e;cases e
  |some j=>
   rw[hj]at e
   simp only[Option.map_some,WR]at e ⊢
   obtain⟨v,hv,rv⟩:=r.at' j p (wf e)
   exact⟨v,by rw[hv];rfl,rv⟩
def aF(ti:uF)(g:Tg)(tc:kU)(te:bc)(own:Nat)(fr:List Nat):bc:=fun σ S Q E=>ti σ S (fun src S1=>dA g tc te (cS own fr σ) src.keep (fun ys S2=>∀p,S2 p=none->Q (.ref p) (He S2 p (.lst ys))) src.items [] S1) E
def n5{σ:L2.St}{H:Hp}{Q:VK}(MW:g.under own=true)(B0:Bk):LE X (aF ti g tc te own fr) σ H Q->vV (LI X ti) (g.g2 X.K) (fun σ H Q=>∃σ3 S Q3,Hr X.K H σ σ3/\Hk X.K H S/\tc σ3 S Q3 dW/\∀b S' H',Q3 b S'->Hk X.K H' S'->Grow X.K H H'->Q b H')
  (fun σ H Q=>∃σ3 S Q3,Hr X.K H σ σ3/\Hk X.K H S/\te σ3 S Q3 dW/\Mm X.K H Q3 Q) own fr σ H Q:=fun⟨σ3,S,Q3,E3,rσ,rS,h,xo,k⟩=>by
 refine⟨σ3,S,_,E3,rσ,rS,h,xo,fun src S1 J H1 h1 sim Ht g1=>?_⟩
 refine⟨fun i m ys H'=>i+m=src.items.length/\∃zs S',Reps X.K H' ys zs/\Hk X.K H' S'/\Grow X.K H1 H'/\dA g tc te (cS own fr σ3) src.keep (fun ys S2=>∀p,S2 p=none->Q3 (.ref p) (He S2 p (.lst ys))) (src.items.drop i) zs S',⟨src.items.length,TJ _,[],S1,.nil,Ht,.refl,by simpa using h1⟩,?_⟩
 rintro i m ys H' ⟨hm,zs,S',rz,JN,g',hw⟩
 cases hd:src.items.drop i with
 |nil=>
  rw[hd]at hw
  have hi:i=src.items.length:=by
   have:=T6 List.length hd
   rw[Ut,Tj]at this
   omega
  refine .inl ⟨(sim i S' H' g' JN hw.1).2 hi,by rw[rz.length];exact hw.2.1,fun D hD=>?_⟩
  exact k _ _ _ _ (hw.2.2 D (JN.free hD)) (.ref D) (JN.new hD ⟨_,aD,rz.mono (.new hD)⟩) (g1.trans (g'.trans (.new hD)))
 |cons x rest=>
  rw[hd]at hw
  have hx:src.items[i]?=some x:=by
   have:=T6 (fun l=>l[0]?) hd
   simpa using this
  have hrest:src.items.drop (i+1)=rest:=by
   have:=T6 List.tail hd
   simpa [List.tail_drop]using this
  have hlt:i < src.items.length:=by
   by_cases z:i < src.items.length
   ·exact z
   ·rw[Ua (by omega)]at hx;cases hx
  obtain⟨go,yl⟩:=(sim i S' H' g' JN hw.1).1 x hx
  refine .inr ⟨go,by rw[rz.length];exact hw.2.1,fun ys' H5=>∃zs' S6,Reps X.K H5 ys' zs'/\Hk X.K H5 S6/\Grow X.K H1 H5/\dA g tc te (cS own fr σ3) src.keep (fun ys S2=>∀p,S2 p=none->Q3 (.ref p) (He S2 p (.lst ys))) rest zs' S6,?_,fun v H5 hv=>?_⟩
  ·rintro ys' H5 ⟨zs',S6,q1,q2,q3,q4⟩
   exact⟨m - 1,by omega,by omega,zs',S6,q1,q2,q3,by rw[hrest];exact q4⟩
  ·obtain⟨rv,Pr,g5⟩:=yl v H5 hv
   obtain⟨_,_,hw⟩:=hw
   split at hw
   ·rename_i σ6 e6
    refine Tg.LJ (own:=own) g rv ((zD rσ own fr).mono (g1.trans (g'.trans g5))) e6 fun σ7 Ox d7=>⟨d7 MW,?_⟩
    refine⟨σ6,S',_,Ox,Pr,hw,fun b S8 H8 h8 Qp g8=>?_⟩
    cases b with
    |true=>
     rw[if_pos rfl]at h8 ⊢
     exact⟨σ6,S8,_,Ox.mono g8,Qp,h8,fun y S9 y' H9 h9 ry Rh g9=>⟨zs++[y],S9,(rz.mono (g5.trans (g8.trans g9))).append (.cons ry .nil),Rh,g'.trans (g5.trans (g8.trans g9)),h9⟩⟩
    |false=>
     rw[if_neg (by decide)]at h8 ⊢
     exact⟨zs,S8,rz.mono (g5.trans g8),Qp,g'.trans (g5.trans g8),h8⟩
   ·exact hw.elim
def Co(fs:Vs)(own:Nat)(fr:List Nat)(N:Vs)(MW:g.under own=true)(hc:X.calm=true)(hclos:closureFor scope X.env=pure (cU X.env fs))(hcell:∀y∈scope.names,y.2 ≠ .cell)(hkind:scope.kind = .function)
  (hnames:∀x∈scope.names,x.2 = .local->scope.names.lookup x.1=some .local) (hcl:cE X.env fs) (hhas:oG (relabel scope X.env).names (cU X.env fs)=true)
  (hlen:N.length=own+fr.length) (hN:(N.drop own).map some=fr.map fun j=>X.N[j]?) (hF:Ir X.env scope (cU X.env fs) (N.drop own))
  (hi:wE X tg iter ti) (hg:∀B,zz (X.JJ N scope fs B) tg g) (hf:∀B,DA (X.JJ N scope fs B) ifs tc) (he:∀B,bu (X.JJ N scope fs B) elt te)
  (hs:∀x,foldedSetIterable iter X.env x=pure x:=by intro _;rfl):bu X (.ListComp elt [⟨tg,iter,ifs,0⟩] scope pos) (aF ti g tc te own fr):=
 ⟨aX (zd fs own fr N hc hclos hcell hkind hnames hcl hhas hlen hN hF hi.ok (fun B=>(hg B).ok)
  (fun B=>sj (hf B).ok fun σ H Q ⟨σ3,S,Q3,rσ,rS,h,k⟩=>⟨σ3,S,Q3,dW,rσ,rS,h,.no,k⟩) (fun B=>aX (he B).ok fun σ H Q ⟨σ3,S,Q3,rσ,rS,h,k⟩=>⟨σ3,S,Q3,dW,rσ,rS,h,.no,k⟩) hs) fun _ _ _=>n5 MW ⟨0,X.s₀,X.H₀,[],[]⟩⟩
def Cp(fs:Vs)(own:Nat)(fr:List Nat)(N:Vs){i:Nat}{y:Str}{py spos:Pos}(hX:X.N.Nodup)(hix:X.N[i]?=some y)(hy:X.env.scope.names.lookup y=some .local)
  (hsw:swapsWith (.ListComp elt [⟨tg,iter,ifs,0⟩] scope pos) (some (.Name y py)) spos.line X.env=pure true)
  (MW:g.under own=true) (hc:X.calm=true) (hclos:closureFor scope X.env=pure (cU X.env fs)) (hcell:∀y∈scope.names,y.2 ≠ .cell) (hkind:scope.kind = .function)
  (hnames:∀x∈scope.names,x.2 = .local->scope.names.lookup x.1=some .local) (hcl:cE X.env fs) (hhas:oG (relabel scope X.env).names (cU X.env fs)=true)
  (hlen:N.length=own+fr.length) (hN:(N.drop own).map some=fr.map fun j=>X.N[j]?) (hF:Ir X.env scope (cU X.env fs) (N.drop own))
  (hi:wE X tg iter ti) (hg:∀B,zz (X.JJ N scope fs B) tg g) (hf:∀B,DA (X.JJ N scope fs B) ifs tc) (he:∀B,bu (X.JJ N scope fs B) elt te)
  (hs:∀x,foldedSetIterable iter X.env x=pure x:=by intro _;rfl):s_ X (.Assign [.Name y py] (.ListComp elt [⟨tg,iter,ifs,0⟩] scope pos) spos) (aq i (aF ti g tc te own fr)):=
 ⟨eQ (ze fs own fr N hX hix hy hsw hc hclos hcell hkind hnames hcl hhas hlen hN hF hi.ok (fun B=>(hg B).ok)
  (fun B=>sj (hf B).ok fun σ H Q ⟨σ3,S,Q3,rσ,rS,h,k⟩=>⟨σ3,S,Q3,dW,rσ,rS,h,.no,k⟩) (fun B=>aX (he B).ok fun σ H Q ⟨σ3,S,Q3,rσ,rS,h,k⟩=>⟨σ3,S,Q3,dW,rσ,rS,h,.no,k⟩) hs)
  fun D σ H ⟨σ3,S,D3,rσ,rS,h,xo,n,r,bk,ct⟩=>n5 MW ⟨0,X.s₀,X.H₀,[],[]⟩ ⟨σ3,S,_,D3.ex,rσ,rS,h,xo,fun p S1 v H1 h1 rv Ht g1=>n _ S1 _ H1 h1 ((rσ.mono g1).set rv i) Ht g1⟩⟩
end
abbrev aw:=List PV->az->bj->bK->Prop
noncomputable def EF(K:Vo)(n:Nat)(sp:aw):Sp:=fun vs H Q _=>vs.length=n/\∃ps S Q3 E3,Reps K H vs ps/\Hk K H S/\sp ps S Q3 E3/\Mm K H Q3 Q
structure MN (P:Program) (w:World) (K:Vo) (mg:Vr) (base:Heap) (k:Nat) (f:Addr) (fd:FuncData) (ps:Vs) (sp:aw):Prop where
 ok:m9 P w K mg base yz k f fd ps (EF K ps.length sp)
section
variable {X:Cx} {e o:Expr} {es:List Expr} {te to:bc} {ts:List bc} {x:Str} {p pos apos cpos:Pos} {k:Nat} {f:Addr} {fd:FuncData} {ps:Vs} {sp:aw}
def ab(sp:aw)(ts:List bc):bc:=fun σ S Q E=>ak ts σ S (fun ps S1=>sp ps S1 Q E) E
def wG(F:MN X.prog X.w X.K X.mg X.base k f fd ps sp)(hr:Room k X.A)(hg:Gl X x)(hm:X.mg x=some (.ref f))(hk:PySem.W.keepIn X.K (.ref f)=true)(hb:Binds X.K fd ps [])(he:starEach (e::es) X.env=(false,eval e X.env)::starEach es X.env)(ha:kW X (e::es) ts)
  (hl:ts.length=ps.length:=by rfl) (hdb:(x == ("__debug__":Str))=false:=by decide) (hpl:(backTo pos (starEach es X.env)).any (·.1)=false:=by rfl):bu X (.Call (.Name x p) (e::es) [] pos) (ab sp ts):=
 ⟨aX (sU F.ok hr hg hm hk hb .nil AH ha.ok hdb he hpl) fun σ H Q ⟨σ3,S,Q3,E3,rσ,rS,h,xo,k⟩=>cz rσ rS h xo fun ps' S' vs H' hl' q rv JN g=>by
  rw[Ti]
  exact⟨by rw[rv.length,hl',hl],ps',S',Q3,E3,rv,JN,q,k.mono g⟩⟩
end
noncomputable def ar(n:Nat)(args:List PV):cF:=args.map some++List.replicate (n - args.length) none
def aR(n:Nat)(t:bB):aw:=fun args S Q _=>t { nx:=fun _ S'=>Q .non S',rt:=Q,ex:=dW } (ar n args) S
def n6{K:Vo}{H:Hp}{N:Vs}{vs:List V}{ps:List PV}(r:Reps K H vs ps):Hr K H (L2.gy N vs) (ar N.length ps):=by
 refine⟨by unfold L2.gy ar;simp[r.length],fun i p e=>?_⟩
 unfold ar at e
 unfold L2.gy
 by_cases hi:i < ps.length
 ·rw[TX (by simpa using hi),SA]at e
  cases hp:ps[i]? with
  |none=>rw[hp]at e;cases e
  |some q=>
   rw[hp]at e
   cases e
   obtain⟨v,hv,rv⟩:=r.get hp
   rw[TX (by rw[Sm,r.length];exact hi),SA,hv]
   exact⟨v,rfl,rv⟩
 ·rw[Ud (by simpa using hi),UP]at e
  split at e
  ·cases e
  ·cases e
section
variable {P:Program} {w:World} {K:Vo} {mg:Vr} {base:Heap}
noncomputable abbrev EG(P:Program)(w:World)(K:Vo)(mg:Vr)(base:Heap)(N:Vs)(qual:Str)(st:Stmt)(f:Addr)(cdv:Value)(A:Around)(outer:List Env)(s:Shared)(H:Hp)(E:XK):Cx:=(qe yz P w K mg base N qual (aG st) f cdv A outer s H E).Np
def GM{x qual:Str}{st:Stmt}{f:Addr}{fd:FuncData}{N ps:Vs}{k:Nat}{t:bB}(F:M8 K x qual st f fd)(S:dL N ps (aG st))
  (hbody:∀(cdv:Value) (A:Around) (outer:List Env) (s:Shared) (H:Hp) (E:XK),Room k (A.deeper (PyProof.Rows.envOfC qual (aG st) s.heap.objs.size f cdv))->kf (EG P w K mg base N qual st f cdv A outer s H E) (bi st) t) :
  MN P w K mg base (k+1) f fd ps (aR N.length t):=
 ⟨F.ok S (fun vs H Q E h=>h.1) fun cdv A outer s H vs Q E hr ⟨hl,ps',S',Q3,E3,rv,rS,q,kk⟩=>⟨_,(hbody cdv A outer s H E hr).ok,ar N.length ps',S',_,n6 rv,rS,q,.no,fun σ3 S2 σ2 H2 h2 _ JD g2=>kk _ S2 _ H2 h2 .non JD g2,kk,fun _ _ _ _ h2=>h2.elim,fun _ _ _ _ h2=>h2.elim⟩⟩
end
section
variable {X:Cx} {o e f:Expr} {to te tf:bc} {pos apos cpos:Pos}
noncomputable def km:List (bc×bc)->cF->az->(List (PV×PV)->az->Prop)->bK->Prop
 |[],_,S,Q,_=>Q [] S
 |(tk,tv)::r,σ,S,Q,E=>tk σ S (fun x S1=>tv σ S1 (fun y S2=>km r σ S2 (fun ps S3=>Q ((x,y)::ps) S3) E) E) E
noncomputable def qv:List (PV×PV)->Option (List (bI×PV))
 |[]=>some []
 |(x,y)::r=>match oM x,qv r with|some k,some l=>some ((k,y)::l)|_,_=>none
noncomputable def oU(kvs more:List (bI×PV)):List (bI×PV):=more.foldl (fun acc kv=>oR acc kv.1 kv.2) kvs
structure FF (X:Cx) (pos:Pos) (keys:List (Option Expr)) (values:List Expr) (Kv:List (bc×bc)):Prop where
 ok:El X pos keys values (Kv.map fun t=>(LE X t.1,LE X t.2))
def Cq:FF X pos [] [] []:=⟨y8⟩
def oV{k v:Expr}{ks:List (Option Expr)}{vs:List Expr}{tk tv:bc}{Kv:List (bc×bc)}(hk:bu X k tk)(hv:bu X v tv)(hr:FF X pos ks vs Kv):FF X pos (some k::ks) (v::vs) ((tk,tv)::Kv):=⟨vS hk.ok hv.ok hr.ok⟩
inductive n9 (K:Vo) (H:Hp):List (V×V)->List (PV×PV)->Prop
 |nil:n9 K H [] []
 |cons {a b:V} {p q:PV} {vs:List (V×V)} {ps:List (PV×PV)}:Rep K H a p->Rep K H b q->n9 K H vs ps->n9 K H ((a,b)::vs) ((p,q)::ps)
theorem l6:∀{Kv:List (bc×bc)} {σ:L2.St} {H:Hp} {Q:List (V×V)->Hp->Prop} {σ3:cF} {S:az} {Q3:List (PV×PV)->az->Prop} {E3:bK},Hr X.K H σ σ3->Hk X.K H S->km Kv σ3 S Q3 E3->Ml X H E3->
  (∀ps S' vs H',ps.length=Kv.length->Q3 ps S'->n9 X.K H' vs ps->Hk X.K H' S'->Grow X.K H H'->Q vs H')->oD (Kv.map fun t=>(LE X t.1,LE X t.2)) σ H Q
 |[],σ,H,Q,σ3,S,Q3,E3,rσ,rS,h,xo,k=>k [] S [] H rfl h .nil rS .refl
 |(tk,tv)::ts,σ,H,Q,σ3,S,Q3,E3,rσ,rS,h,xo,k=>
  ⟨σ3,S,_,E3,rσ,rS,h,xo,fun p S1 v H1 h1 rv Ht g1=>⟨σ3,S1,_,E3,rσ.mono g1,Ht,h1,xo.mono g1,fun p2 S2 v2 H2 h2 Ri JD g2=>l6 (rσ.mono (g1.trans g2)) JD h2 (xo.mono (g1.trans g2)) fun ps S3 vs H3 hl h3 Po MV g3=>
   k ((p,p2)::ps) S3 ((v,v2)::vs) H3 (by rw[SN,SN,hl]) h3 (.cons (rv.mono (g2.trans g3)) (Ri.mono g3) Po) MV (g1.trans (g2.trans g3))⟩⟩
theorem n_{K:Vo}{H:Hp}:∀{vs:List (V×V)} {ps:List (PV×PV)} {l:List (bI×PV)},n9 K H vs ps->qv ps=some l->∃kvs:List (bI×V),vs=kvs.map (fun kv=>(kV kv.1,kv.2))/\HQ K H kvs l
 |_,_,_,.nil,h=>by cases h;exact⟨[],rfl,.nil⟩
 |_,_,l,.cons a b r,h=>by
  unfold qv at h
  split at h
  ·rename_i k l' ek el
   cases h
   obtain⟨kvs,e,q⟩:=n_ r el
   refine⟨(k,_)::kvs,?_,.cons b q⟩
   rw[SH,<-e,eP a ek]
  ·cases h
def HQ.merge{K:Vo}{H:Hp}{more:List (bI×V)}{m3:List (bI×PV)}(r:HQ K H more m3):∀{kvs:List (bI×V)} {k3:List (bI×PV)},HQ K H kvs k3->HQ K H (j7 kvs more) (oU k3 m3):=by
 induction r with
 |nil=>intro kvs k3 q;exact q
 |cons a r ih=>intro kvs k3 q;exact ih (q.put a)
def qw(Kv:List (bc×bc)):bc:=fun σ S Q E=>∀p,S p=none->km Kv σ (He S p (.dct [])) (fun ps S2=>S2 p=some (.dct [])/\match qv ps with|some kvs=>Q (.ref p) (He S2 p (.dct (oU [] kvs)))|none=>False) E
def Cr{keys:List (Option Expr)}{values:List Expr}{Kv:List (bc×bc)}(h:FF X pos keys values Kv)(hall:keys.all (·.isSome)=true:=by rfl)(hl:keys.length=values.length:=by rfl)(h0:keys≠[]:=by exact List.cons_ne_nil _ _)(Pd:keys.length<=15:=by decide)
  (ht:Kv.length<=15:=by exact Wk rfl):bu X (.Dict keys values pos) (qw Kv):=
 ⟨aX (y9 h.ok hall hl h0 Pd) fun σ H Q ⟨σ3,S,Q3,E3,rσ,rS,hq,xo,k⟩=>fun p hp=>by
  have g0:Grow X.K H (upd H p (.dK [])):=.new hp
  refine l6 (rσ.mono g0) (rS.new hp (o:=.dct []) ⟨[],aD,.nil⟩) (hq p (rS.free hp)) (xo.mono g0) fun ps S' vs H' hl' q rv JN g=>?_
  obtain⟨e,q⟩:=q
  obtain⟨kv,hv,rk⟩:=JN _ _ e
  cases rk
  refine⟨hv,?_⟩
  split at q
  ·rename_i kvs ek
   obtain⟨l,el,rl⟩:=n_ rv ek
   refine⟨l,el,?_,k _ _ _ _ q (.ref p) (JN.put hv trivial ⟨_,aD,(HQ.merge rl .nil).mono (.mut hv trivial)⟩) (g0.trans (g.trans (.mut hv trivial)))⟩
   have z1:∀{vs:List (V×V)} {ps:List (PV×PV)},n9 X.K H' vs ps->vs.length=ps.length:=by
    intro vs ps r
    induction r with
    |nil=>rfl
    |cons _ _ _ ih=>rw[SN,SN,ih]
   have z2:=T6 List.length el
   rw[Sm,z1 rv,hl']at z2
   omega
  ·exact q.elim⟩
def tD(kvs:List (bI×Int))(te tf:bc):bc:=fun σ S Q E=>te σ S (fun y S2=>tf σ S2 (fun z S3=>match oM y with|some k=>Q (((kvs.find? fun kv=>decide (kv.1=k)).map fun kv=>PV.int kv.2).getD z) S3|none=>False) E) E
def Cs{x:Str}{px:Pos}{a:Addr}{kvs:List (bI×Int)}(hu:X.A.units+1 < cLine)(hg:Gl X x)(hm:X.mg x=some (.ref a))(hD:KD X.prog X.w X.K a (kvs.map fun kv=>(kv.1,V.int kv.2)))(he:bu X e te)(hf:bu X f tf)(m:M2 X (.Name x px) "get" apos e f cpos)
  (hd:(x == ("__debug__":Str))=false:=by decide):bu X (.Call (.Attribute (.Name x px) "get" apos) [e,f] [] cpos) (tD kvs te tf):=
 ⟨aX (zh hu hg hm hD he.ok hf.ok m hd) fun σ H Q ⟨σ3,S,Q3,E3,rσ,rS,h,xo,k⟩=>⟨σ3,S,_,E3,rσ,rS,h,xo,fun y S2 y' H2 h2 ry JD g2=>⟨σ3,S2,_,E3,rσ.mono g2,JD,h2,xo.mono g2,fun z S3 z' H3 h3 rz MV g3=>by
  split at h3
  ·rename_i k' ek
   have e1:=eP (ry.mono g3) ek
   subst e1
   refine⟨_,rfl,k _ S3 _ H3 h3 ?_ MV (g2.trans g3)⟩
   have:∀l:List (bI×Int),Rep X.K H3 ((iN (l.map fun kv=>(kv.1,V.int kv.2)) k').getD z') (((l.find? fun kv=>decide (kv.1=k')).map fun kv=>PV.int kv.2).getD z):=by
    intro l
    induction l with
    |nil=>exact rz
    |cons q r ih=>
     rw[SH,List.find?_cons]
     by_cases e:q.1=k'
     ·rw[Ji e,Tp e];exact .int _
     ·rw[Jj e,Tc e];exact ih
   exact this kvs
  ·exact h3.elim⟩⟩⟩
def qx(te:bc):bc:=fun σ S Q E=>te σ S (fun x S1=>match x with
 | .ref a=>(match S1 a with|some (.lst xs)=>∀p,S1 p=none->Q (.ref p) (He S1 p (.lst xs.reverse))|_=>False)
 |_=>False) E
def Ct{p1 p2 q1 q2:Pos}(hs:starEach [e] X.env=[(false,eval e X.env)])(hc:X.calm=true)(he:bu X e te)(Pm:Gl X "list")(hm1:X.mg "list" = none)(NY:Gl X "reversed")(hm2:X.mg "reversed" = none):bu X (.Call (.Name "list" p1) [.Call (.Name "reversed" p2) [e] [] q2] [] q1) (qx te):=
 ⟨aX (rQ hc he.ok Pm hm1 NY hm2 hs rfl) fun σ H Q ⟨σ3,S,Q3,E3,rσ,rS,h,xo,k⟩=>⟨σ3,S,_,E3,rσ,rS,h,xo,fun x S1 v H1 h1 rx Ht g1=>by
  split at h1
  ·cases rx
   split at h1
   ·rename_i ea
    obtain⟨vs,hv,rs⟩:=Ht _ _ ea
    exact⟨_,_,rfl,SqL.of hv,fun q hq=>k _ _ _ _ (h1 q (Ht.free hq)) (.ref q) (Ht.new hq ⟨_,aD,rs.reverse.mono (.new hq)⟩) (g1.trans (.new hq))⟩
   ·exact h1.elim
  ·exact h1.elim⟩⟩
end
def ck:R3:=fj fun i j=>.int (i - j)
def gM:R3:=iD (fun _ j=>j≠0) fun i j=>.int (i.fmod j)
def iF:R3:=iD kX fun i j=>.int (i.fdiv j)
def wH:R3:=iD Bz fun i j=>.int (i ^ j.toNat)
def l8:R3:=fj fun i j=>.bl (decide (i < j))
def zE:R3:=fj fun i j=>.bl (decide (j < i))
def EH:R3:=fj fun i j=>.bl (decide (j<=i))
section
variable {X:Cx}
def dJ:iO X (binaryOp .Sub) ck:=Ch
def gA:iO X (binaryOp .Mod) gM:=Ci
def kn:iO X (binaryOp .FloorDiv) iF:=zn
def EI:iO X (binaryOp .Pow) wH:=Cj
def ko:iO X (compareOp .Lt) l8:=Es
def zF:iO X (compareOp .Gt) zE:=Eu
def Gp:iO X (compareOp .GtE) EH:=Ev
end
def tE{A:Around}{k:Nat}(hr:Room k A):A.units+1 < cLine:=by have:=hr.un;omega
def iG{A:Around}{k:Nat}(hr:Room k A):A.units+150 < cLine:=by have:=hr.un;omega
def fq{A:Around}{k:Nat}(hr:Room k A):A.units+160 < cLine:=by have:=hr.un;omega
structure FG (K:Vo) (mg:Vr) (x:Str) (st:Stmt) (ps:Vs) (f:Addr) (fd:FuncData):Prop where
 F:M8 K x x st f fd
 b:Binds K fd ps []
 k:PySem.W.keepIn K (.ref f)=true
 m:mg x=some (.ref f)
def MN.zero{P:Program}{w:World}{K:Vo}{mg:Vr}{base:Heap}{k:Nat}{f:Addr}{fd:FuncData}{ps:Vs}{sp:aw}(h:sp=fun _ _ _ _=>False):MN P w K mg base k f fd ps sp:=by
 subst h
 exact⟨⟨fun vs H Q E q=>q.1,fun A outer s H args us vs Q E _ _ _ _ ⟨_,_,_,_,_,_,_,q,_⟩=>q.elim⟩⟩
def Gq{K:Vo}{H:Hp}{a:Addr}{ns:Vu}{sp:aw}(hO:y_ H)(hS:SqL K H a (ns.map V.int))(h:sp [.cl (ns.map PV.int)] (fun _=>none) (fun v _=>v = .bl true) dW):EF K 1 sp [.ref a] H (fun v _=>v = .bl true) fun _ _ _=>False:=by
 have hr:∀l:List Int,Reps K H (l.map V.int) (l.map PV.int):=by
  intro l
  induction l with
  |nil=>exact .nil
  |cons x r ih=>exact .cons (.int x) ih
 refine⟨rfl,[.cl (ns.map PV.int)],fun _=>none,_,dW,.cons (.cl (vs:=ns.map V.int) ?_ (hr ns)) .nil,(fun b o e=>by simp at e),h,fun p S' v H' q rv rS g=>?_⟩
 ·rcases hS with(q|q)|q
  ·rcases hO a with z|⟨o,xs,z⟩
   ·rw[z]at q;cases q
   ·rw[z]at q;cases q
  ·exact .inl q
  ·exact .inr q
 ·subst q
  cases rv
  rfl
end L3
namespace L2
open PySem PySem.Spec PyProof.Rows
end L2
namespace HT
open PySem PySem.Spec PyProof.Rows
end HT
namespace L2
open PySem PySem.Spec PyProof.Rows
end L2
namespace L3
open PySem L2
section
variable {X:Cx} {e st:Expr} {te ts:bc} {p2 pos:Pos}
noncomputable def iS:List PV->Option (List Int)
 |[]=>some []
 | .int i::r=>(iS r).map (i::·)
 |_::_=>none
theorem qy:∀ns:List Int,iS (ns.map PV.int)=some ns
 |[]=>rfl
 |n::ns=>by rw[SH];unfold iS;rw[qy ns];rfl
theorem oa{K:Vo}{H:Hp}:∀{vs:List V} {ps:List PV} {ns:Vu},Reps K H vs ps->iS ps=some ns->vs=ns.map V.int
 |_,_,_,.nil,h=>by cases h;rfl
 |_,_,ns,.cons (p:=p) a r,h=>by
  cases p with
  |int b=>
   cases a
   unfold iS at h
   cases e:iS _ with
   |none=>rw[e]at h;cases h
   |some l=>rw[e]at h;cases h;rw[oa r e];rfl
  |_=>cases h
end
end L3
namespace L2
open PySem PySem.Spec PyProof.Rows
section
variable {X:Cx}
noncomputable def zG:V->List V->Hp->VK->Prop:=fun x vs H Q=>∃(l:Addr) (xs:List V) (j:Nat) (y:V),x = .ref l/\vs=[.int j,y]/\H l=some (.lst xs)/\j<=xs.length/\xs.length < sizeLine/\Q .non (upd H l (.lst (xs.take j++y::xs.drop j)))
def uJ:Eh X "list.insert" zG:=by
 intro pins s σ H x vs v us Q I rx rv h
 obtain⟨l,xs,j,y,rfl,rfl,hH,hj,hz,q⟩:=h
 cases rx
 cases rv with
 |@cons _ u0 _ Rj r1 rr=>
  obtain⟨u,rfl,ru⟩:∃u,Rj=[u]/\RelV y u:=by
   cases rr with
   |@cons _ u _ us r2 r3=>cases r3;exact⟨u,rfl,r2⟩
  obtain⟨tk,rfl⟩:∃tk,u0 = .int (j:Int) tk:=r1
  obtain⟨z,its,n,r,hl,e⟩:=I.KR hH
  have hfit:¬(!Builtin.List.listFitsIndex (j:Int))=true:=by
   have:j < 2 ^ 62:=Tf hj (SW hz (by decide))
   simp[Builtin.List.listFitsIndex]
   omega
  have hs1:its.toArray.size<=sizeLine:=by rw[Sy];omega
  generalize hx:(j:Int)=x at hfit
  refine U6 F.slot_list_insert ⟨_,e,rfl⟩ F.entry_list_insert (F.args_list_insert_3 _ _ _) (PySem.AutoSeq1.list_insert_list_int_val_1 l its.toArray n x tk u hfit hs1) ⟨e,?_⟩
  refine⟨.non,_,I.Mq (its':=its.take j++u::its.drop j) hH e ?_ ((r.take j).append (.cons ru (r.drop j))) ?_,rfl,q⟩
  ·show((its.toArray.extract 0 (if x < 0 then (x+(its.toArray.size:Int)).toNat else min x.toNat its.toArray.size)).push u++its.toArray.extract (if x < 0 then (x+(its.toArray.size:Int)).toNat else min x.toNat its.toArray.size))=_
   have hl2:its.length=xs.length:=r.length.symm
   have ek:(if x < 0 then (x+(its.toArray.size:Int)).toNat else min x.toNat its.toArray.size)=j:=by
    rw[if_neg (by omega),<-hx,Vf,Sy]
    omega
   rw[ek]
   apply Array.toList_inj.mp
   simp[List.extract_eq_take_drop]
   exact Wf (by rw[Ut];exact Ss _)
  ·rw[Sn,SN,TY,Ut]
   omega
end
end L2
namespace L3
open PySem L2
section
variable {X:Cx} {a b c:Expr} {ta tb tc:bc} {pos:Pos}
def lB:si:=fun x ps S Q=>match x,ps with
 | .ref a,[.int i,y]=>(match S a with|some (.lst xs)=>0<=i/\i<=xs.length/\xs.length < sizeLine/\Q .non (He S a (.lst (xs.take i.toNat++y::xs.drop i.toNat)))|_=>False)
 |_,_=>False
def wI:vp X "list.insert" lB:=⟨fun pins s σ H x xs v us Q I rx rs ⟨px,ps,S,Q3,r1,rp,rS,q,k⟩=>by
 unfold lB at q
 split at q
 ·rename_i i y
  split at q
  ·rename_i e
   cases r1
   cases rp with
   |cons b rr=>
    cases b
    cases rr with
    |cons b2 rr=>
     cases rr
     obtain⟨vs,hv,rl⟩:=rS _ _ e
     obtain⟨j,rfl⟩:=UR q.1
     exact uJ pins s σ H _ _ v us Q I rx rs ⟨_,_,j,_,rfl,rfl,hv,by rw[rl.length];have:=q.2.1;omega,by rw[rl.length];exact q.2.2.1,k _ _ _ _ q.2.2.2 .non (rS.put hv trivial ⟨_,aD,((rl.take j).append (.cons b2 (rl.drop j))).mono (.mut hv trivial)⟩) (.mut hv trivial)⟩
  ·exact q.elim
 ·exact q.elim⟩
end
end L3
namespace L2
open PySem PySem.Spec PyProof.Rows PySem.AutoSeq1
end L2
namespace L3
open PySem L2
end L3
namespace C
open PySem L2 L3
noncomputable def k_SIDES_FROM:List (bI×Int):=[(Sum.inr "then",1),(Sum.inr "either",1),(Sum.inr "take",3),(Sum.inr "often",1)]
def gN:bB:=(ai (aq 3 (aF (aE (cV (v3 0) (se (v3 1)) (se (c3 (.int 63))))) (.n 0) bH (al jv [(v3 0),(ah ck (c3 (.int 0)) (v3 0))]) 1 []))
  (ai (aq 4 (ah aU (c3 (.int 7919)) (v3 1)))
  (ai (bz (aE (v3 3)) (.n 2) (aq 4 (ah gM (ah aU (ah bJ (v3 4) (c3 (.int 48271))) (ah gM (v3 2) (c3 (.int 2147483629)))) (c3 (.int 2147483647)))))
  (av (qw [((c3 (.str "seed")),(v3 4)),((c3 (.str "number")),(c3 (.int 0))),((c3 (.str "left")),(qx (aF (aE (v3 3)) (.n 0) (aP (ah EH (v3 0) (ah wH (c3 (.int 10)) (c3 (.int 18))))) (v3 0) 1 [])))])))))
def gP:bB:=(ai (iR (iP (aP (ah (br false) (ah ae (v3 0) (c3 (.str "number"))) (c3 (.int 0)))) (aP (ah zE (al bG [(ah ae (v3 0) (c3 (.str "left")))]) (c3 (.int 0))))) (eg (eR "list" qt (ah ae (v3 0) (c3 (.str "left"))) []) (v3 0) (c3 (.str "number"))))
  (ai (aq 2 (ah ae (v3 0) (c3 (.str "number"))))
  (ai (bq (aP (ah zE (v3 2) (c3 (.int 0)))) (ai (eg (ah iF (v3 2) (v3 1)) (v3 0) (c3 (.str "number")))
  (av (ah gM (v3 2) (v3 1)))) aN)
  (ai (aq 3 (ah gM (ah aU (ah bJ (ah ae (v3 0) (c3 (.str "seed"))) (c3 (.int 48271))) (c3 (.int 7919))) (c3 (.int 2147483647))))
  (ai (eg (ah gM (ah aU (ah bJ (v3 3) (c3 (.int 40692))) (c3 (.int 104729))) (c3 (.int 2147483399))) (v3 0) (c3 (.str "seed")))
  (ai (aq 4 (ah gM (ah bJ (ah ae (v3 0) (c3 (.str "seed"))) (ah ae (v3 0) (c3 (.str "seed")))) (c3 (.int 2147483563))))
  (av (ah gM (ah aU (ah bJ (ah gM (ah bJ (v3 3) (v3 3)) (c3 (.int 2147483629))) (c3 (.int 2147483563))) (v3 4)) (v3 1)))))))))
def iT:bB:=(ai (uE 2 3 (al jv [(v3 0),(ah ck (c3 (.int 0)) (v3 0))]) (v3 1))
  (ai (iR (aP (ah zE (v3 3) (c3 (.int 0)))) (uE 2 3 (v3 3) (ah gM (v3 2) (v3 3))))
  (av (ay [(ah iF (v3 0) (v3 2)),(ah iF (v3 1) (v3 2))]))))
def fJ(Hd:aw):bB:=(ai (aq 2 (c3 (.str "abcdefghijklmnopqrstuvwxyz")))
  (ai (aq 3 (bx [(c3 (.str "jars")),(c3 (.str "deed")),(c3 (.str "rest")),(c3 (.str "pay")),(c3 (.str "put")),(c3 (.str "then")),(c3 (.str "either")),(c3 (.str "take")),(c3 (.str "often")),(c3 (.str "use"))]))
  (ai (aq 5 (eR "str" nY (c3 (.str "")) [(aF (kj (ab Hd [(v3 0),(c3 (.int 6))])) (.n 0) bH (ah ae (v3 2) (ab Hd [(v3 1),(c3 (.int 26))])) 1 [0,2])]))
  (ai (l0 6 7 8 (ay [(ab Hd [(v3 0),(ah aU (al bG [(v3 5)]) (c3 (.int 1)))]),(ab Hd [(v3 0),(c3 (.int 26))]),(ah (br false) (ab Hd [(v3 0),(c3 (.int 2))]) (c3 (.int 0)))]))
  (ai (aq 9 (bx []))
  (ai (bz (kj (v3 1)) (.n 4) (ai (aq 10 (ah aU (ah aU (cV (v3 5) wt (se (v3 6))) (ah ae (v3 2) (ah gM (ah aU (v3 7) (v3 4)) (c3 (.int 26))))) (cV (v3 5) (se (v3 6)) wt)))
  (ai (bq (ni (aP (v3 8))) (aq 10 (eR "str" nY (c3 (.str "")) [(aF (kj (ah aU (c3 (.int 1)) (ab Hd [(v3 0),(c3 (.int 6))]))) (.n 0) bH (ah ae (v3 2) (ab Hd [(v3 1),(c3 (.int 26))])) 1 [0,2])])) aN)
  (ai (iR (lU (aP (ah (k4 false) (v3 10) (v3 3))) (aP (ah (k4 false) (v3 10) (v3 9)))) (aq 10 (ah aU (ah ae (v3 2) (ah gM (ah aU (eR "str" kh (v3 2) [(ah ae (v3 10) (c3 (.int 0)))]) (c3 (.int 1))) (c3 (.int 26)))) (cV (v3 10) (se (c3 (.int 1))) wt))))
  (aW (eR "list" bf (v3 9) [(v3 10)]))))))
  (av (v3 9))))))))
def gQ(Hd Hu:aw):bB:=(ai (aq 1 (ab Hd [(v3 0),(c3 (.int 4))]))
  (ai (bq (aP (ah (br false) (v3 1) (c3 (.int 0)))) (av (ay [(c3 (.int 0)),(c3 (.int 1))])) aN)
  (ai (bq (aP (ah l8 (v3 1) (c3 (.int 3)))) (av (ay [(ah aU (c3 (.int 1)) (ab Hd [(v3 0),(c3 (.int 5))])),(c3 (.int 1))])) aN)
  (av (ab Hu [(ab Hd [(v3 0),(c3 (.int 1000))]),(ah aU (c3 (.int 1)) (ab Hd [(v3 0),(c3 (.int 9))]))])))))
def gR(Hd Ls:aw):bB:=(ai (aq 2 (ab Hd [(v3 0),(c3 (.int 7))]))
  (ai (bq (aP (ah (br false) (v3 2) (c3 (.int 0)))) (av (ay [(c3 (.str "rest"))])) aN)
  (ai (bq (lU (aP (ah l8 (v3 2) (c3 (.int 4)))) (aP (ah (br false) (al bG [(v3 1)]) (c3 (.int 0))))) (av (ay [(c3 (.str "pay")),(ab Ls [(v3 0)])])) aN)
  (ai (aq 3 (ah ae (bx [(c3 (.int 1)),(c3 (.int 2)),(ah aU (c3 (.int 1)) (ab Hd [(v3 0),(c3 (.int 9))]))]) (ab Hd [(v3 0),(c3 (.int 3))])))
  (av (ay [(c3 (.str "put")),(ah ae (v3 1) (ab Hd [(v3 0),(al bG [(v3 1)])])),(v3 3)]))))))
def gS(Hd IV s0:aw):bB:=(ai (aq 4 (ab Hd [(v3 0),(c3 (.int 12))]))
  (ai (bq (lU (aP (ah (br false) (v3 3) (c3 (.int 0)))) (lU (aP (ah l8 (ah ae (v3 2) (c3 (.int 0))) (c3 (.int 2)))) (aP (ah l8 (v3 4) (c3 (.int 3)))))) (av (ab IV [(v3 0),(v3 1)])) aN)
  (ai (bq (aP (ah l8 (v3 4) (c3 (.int 5)))) (ai (eg (ah ck (ah ae (v3 2) (c3 (.int 0))) (c3 (.int 1))) (v3 2) (c3 (.int 0)))
  (av (ay [(c3 (.str "often")),(ab s0 [(v3 0),(v3 1),(v3 2),(ah ck (v3 3) (c3 (.int 1)))])]))) aN)
  (ai (eg (ah ck (ah ae (v3 2) (c3 (.int 0))) (c3 (.int 2))) (v3 2) (c3 (.int 0)))
  (ai (aq 5 (ab s0 [(v3 0),(v3 1),(v3 2),(ah ck (v3 3) (c3 (.int 1)))]))
  (ai (aq 6 (ab s0 [(v3 0),(v3 1),(v3 2),(ah ck (v3 3) (c3 (.int 1)))]))
  (ai (bq (aP (ah l8 (v3 4) (c3 (.int 8)))) (av (ay [(c3 (.str "then")),(v3 5),(v3 6)])) aN)
  (ai (bq (lU (aP (ah (br false) (v3 4) (c3 (.int 8)))) (aP (ah (br false) (al bG [(v3 1)]) (c3 (.int 0))))) (av (ay [(c3 (.str "either")),(v3 5),(v3 6)])) aN)
  (ai (aq 7 (ah ae (bx [(c3 (.int 1)),(c3 (.int 1)),(c3 (.int 2)),(ah aU (c3 (.int 1)) (ab Hd [(v3 0),(c3 (.int 9))]))]) (ab Hd [(v3 0),(c3 (.int 4))])))
  (av (ay [(c3 (.str "take")),(ah ae (v3 1) (ab Hd [(v3 0),(al bG [(v3 1)])])),(v3 7),(v3 5),(v3 6)])))))))))))
def cJ(s0:aw):bB:=(ai (bq (aP (ah (br false) (ah ae (v3 0) (c3 (.int 0))) (c3 (.str "then")))) (av (ah bJ (ab s0 [(ah ae (v3 0) (c3 (.int 1)))]) (ab s0 [(ah ae (v3 0) (c3 (.int 2)))]))) aN)
  (ai (bq (lU (aP (ah (br false) (ah ae (v3 0) (c3 (.int 0))) (c3 (.str "either")))) (aP (ah (br false) (ah ae (v3 0) (c3 (.int 0))) (c3 (.str "take"))))) (av (ah aU (ab s0 [(ah ae (v3 0) (gH bY (c3 (.int 2))))]) (ab s0 [(ah ae (v3 0) (gH bY (c3 (.int 1))))]))) aN)
  (av (c3 (.int 1)))))
def cw(Ib s0:aw):bB:=(ai (bq (aP (ah (br false) (ah ae (v3 0) (c3 (.int 0))) (c3 (.str "often")))) (av (ah aU (ab Ib [(ah ae (v3 0) (c3 (.int 1)))]) (ab s0 [(ah ae (v3 0) (c3 (.int 1)))]))) aN)
  (ai (bq (aP (ah (k4 false) (ah ae (v3 0) (c3 (.int 0))) (ay [(c3 (.str "then")),(c3 (.str "either")),(c3 (.str "take"))]))) (av (ah aU (ab s0 [(ah ae (v3 0) (gH bY (c3 (.int 2))))]) (ab s0 [(ah ae (v3 0) (gH bY (c3 (.int 1))))]))) aN)
  (av (c3 (.int 0)))))
def cW(Lu Ib JR IV:aw):bB:=(ai (aq 4 (ab Lu [(v3 0),(v3 1),(bx [(ah ck (v3 2) (c3 (.int 1)))]),(c3 (.int 5))]))
  (ai (bq (aP (ah zE (ah aU (ab Ib [(v3 4)]) (ab JR [(v3 4)])) (v3 3))) (aq 4 (ay [(c3 (.str "then")),(ay [(c3 (.str "often")),(ab IV [(v3 0),(v3 1)])]),(ab IV [(v3 0),(v3 1)])])) aN)
  (av (v3 4))))
def fK(KW Hd Kf:aw):bB:=(ai (aq 4 (ab KW [(v3 0),(c3 (.int 8))]))
  (ai (aq 5 (al aZ [(cV (v3 4) wt (se (ab Hd [(v3 0),(ah aU (v3 1) (c3 (.int 1)))])))]))
  (ai (aq 6 (ah ae (bx [(c3 (.int 0)),(c3 (.int 4))]) (ab Hd [(v3 0),(c3 (.int 2))])))
  (ai (aq 7 (ah aU (c3 (.int 1)) (ab Hd [(v3 0),(v3 2)])))
  (ai (aq 8 (aF (kj (v3 7)) (.n 0) bH (ay [(ah ae (v3 6) (ah aU (v3 2) (v3 0))),(ab Kf [(v3 1),(v3 3),(v3 5),(ah iF (c3 (.int 24)) (v3 4))])]) 1 [0,6,5,7,3,4]))
  (av (ay [(v3 5),(al aZ [(v3 8)])])))))))
def iU:bB:=(av (cV (v3 0) (se (tD C.k_SIDES_FROM (ah ae (v3 0) (c3 (.int 0))) (al bG [(v3 0)]))) wt))
def iV(JS s0:aw):bB:=(ai (aq 1 (bx [(v3 0)]))
  (ai (bz (aE (ab JS [(v3 0)])) (.n 2) (aW (eR "list" bE (v3 1) [(ab s0 [(v3 2)])])))
  (av (v3 1))))
def gT:bB:=(ai (iR (aP (ah (br true) (v3 1) (c3 (.int 0)))) (ai (aq 2 (ah gM (v3 0) (v3 1)))
  (ai (aq 0 (v3 1))
  (aq 1 (v3 2)))))
  (av (al uD [(v3 0)])))
def dX(Mt:aw):bB:=(ai (aq 2 (ab Mt [(v3 0),(v3 1)]))
  (ai (bq (aP (ah l8 (v3 1) (c3 (.int 0)))) (aq 2 (gH bY (v3 2))) aN)
  (av (ay [(ah iF (v3 0) (v3 2)),(ah iF (v3 1) (v3 2))]))))
def dY(JT:aw):bB:=(av (ab JT [(ah aU (ah bJ (ah ae (v3 0) (c3 (.int 0))) (ah ae (v3 1) (c3 (.int 1)))) (ah bJ (ah ae (v3 1) (c3 (.int 0))) (ah ae (v3 0) (c3 (.int 1))))),(ah bJ (ah ae (v3 0) (c3 (.int 1))) (ah ae (v3 1) (c3 (.int 1))))]))
def fL(JT:aw):bB:=(av (ab JT [(ah bJ (ah ae (v3 0) (c3 (.int 0))) (ah ae (v3 1) (c3 (.int 0)))),(ah bJ (ah ae (v3 0) (c3 (.int 1))) (ah ae (v3 1) (c3 (.int 1))))]))
def l9:bB:=(av (ah ae (v3 0) (ah aU (gH bY (c3 (.int 2))) (ah ae (v3 1) (c3 (.int 0))))))
def gU:bB:=(av (al aZ [(aF (aE (v3 0)) (.n 0) bH (r9 (aP (ah (br false) (v3 0) (v3 1))) (v3 2) (c3 (.int 0))) 1 [1,2])]))
def oW:bB:=(av (al aZ [(aF (lv (v3 0) (v3 1)) (.tp (.cons (.n 0) (.cons (.n 1) .nil))) bH (ah aU (v3 0) (v3 1)) 2 [])]))
def fM:bB:=(av (al aZ [(aF (aE (v3 0)) (.n 0) bH (ah bJ (v3 0) (v3 1)) 1 [1])]))
def oX(KY J7:aw):bB:=(ai (aq 2 (aF (lv (ah ae (v3 0) (c3 (.int 1))) (ah ae (v3 0) (c3 (.int 2)))) (.tp (.cons (.n 0) (.cons (.n 1) .nil))) bH (ah aU (v3 1) (al jv [(c3 (.int 0)),(ah bJ (gH bY (v3 0)) (ah ck (v3 2) (c3 (.int 1))))])) 2 [1]))
  (av (ay [(ab J7 [(ah ae (v3 0) (c3 (.int 0))),(ay [(v3 1),(c3 (.int 1))])]),(ab KY [(ah ae (v3 0) (c3 (.int 1))),(v3 1)]),(al aZ [(v3 2)])])))
def dD(IW:aw):bB:=(av (ay [(ay [(c3 (.int 0)),(c3 (.int 1))]),(ab IW [(v3 0),(ah ae (v3 1) (c3 (.int 1))),(gH bY (ah ae (v3 1) (c3 (.int 2))))]),(ab IW [(v3 0),(ah ae (v3 1) (c3 (.int 1))),(ah ae (v3 1) (c3 (.int 2)))])]))
def b3(Hu:aw):bB:=(av (ab Hu [(ah aU (ah bJ (ah ae (v3 0) (c3 (.int 0))) (ah ae (v3 1) (c3 (.int 1)))) (ah bJ (ah ae (v3 1) (c3 (.int 0))) (ah ae (v3 0) (c3 (.int 1))))),(ah bJ (ah ae (v3 0) (c3 (.int 1))) (ah ae (v3 1) (c3 (.int 1))))]))
def oY(LK:aw):bB:=(av (al bG [(ab LK [(v3 0)])]))
def eU(s0:aw):bB:=(ai (bq (aP (ah (br false) (ah ae (v3 0) (c3 (.int 0))) (c3 (.str "then")))) (av (ay [(ab s0 [(ah ae (v3 0) (c3 (.int 1)))]),(ab s0 [(ah ae (v3 0) (c3 (.int 2)))])])) aN)
  (ai (bq (aP (ah (br false) (ah ae (v3 0) (c3 (.int 0))) (c3 (.str "either")))) (av (ay [(c3 (.int 0)),(ab s0 [(ah ae (v3 0) (c3 (.int 1)))])])) aN)
  (ai (bq (aP (ah (br false) (ah ae (v3 0) (c3 (.int 0))) (c3 (.str "take")))) (av (ay [(c3 (.int 1)),(ab s0 [(ah ae (v3 0) (c3 (.int 4)))])])) aN)
  (av (ay [])))))
def eV(MX JO s0:aw):bB:=(ai (bq (aP (ah (br false) (v3 1) (c3 (.int 0)))) (av (v3 2)) aN)
  (ai (bq (aP (ah (br false) (ah ae (v3 0) (c3 (.int 0))) (c3 (.str "often")))) (av (ay [(ay [(c3 (.int 1)),(ab s0 [(ah ae (v3 0) (c3 (.int 1))),(ah ck (v3 1) (c3 (.int 1))),(v3 2)])])])) aN)
  (ai (aq 3 (ah ae (v3 0) (gH bY (c3 (.int 2)))))
  (ai (aq 4 (ah ae (v3 0) (gH bY (c3 (.int 1)))))
  (ai (aq 5 (ah aU (c3 (.int 1)) (ab MX [(v3 3)])))
  (ai (aq 6 (r9 (aP (ah l8 (v3 1) (v3 5))) (c3 (.int 0)) (c3 (.int 1))))
  (ai (aq 7 (r9 (aP (ah (br false) (v3 6) (c3 (.int 0)))) (ab s0 [(v3 3),(ah ck (v3 1) (c3 (.int 1))),(v3 2)]) (ab s0 [(v3 4),(ah ck (v3 1) (v3 5)),(v3 2)])))
  (ai (bq (aP (ah (br true) (ah ae (v3 0) (c3 (.int 0))) (c3 (.str "then")))) (av (ay [(v3 6),(v3 7)])) aN)
  (ai (bq (aP (ah (br false) (v3 6) (c3 (.int 0)))) (av (ay [(v3 7),(ab JO [(v3 4)])])) aN)
  (av (ay [(ab JO [(v3 3)]),(v3 7)])))))))))))
def gW(s0:aw):bB:=(ai (bq (aP (ah (br false) (ah ae (v3 0) (c3 (.int 0))) (c3 (.str "put")))) (aW (eR "list" bf (v3 2) [(ah ae (v3 0) (c3 (.int 1)))])) aN)
  (ai (bq (aP (ah (br false) (ah ae (v3 0) (c3 (.int 0))) (c3 (.str "often")))) (aW (ab s0 [(ah ae (v3 0) (c3 (.int 1))),(v3 1),(v3 2)])) aN)
  (bq (aP (ah (k4 false) (ah ae (v3 0) (c3 (.int 0))) (ay [(c3 (.str "then")),(c3 (.str "either")),(c3 (.str "take"))]))) (ai (bq (lU (aP (ah (br true) (ah ae (v3 0) (c3 (.int 0))) (c3 (.str "take")))) (aP (ah (k4 false) (ah ae (v3 0) (c3 (.int 1))) (v3 1)))) (aW (ab s0 [(ah ae (v3 0) (gH bY (c3 (.int 2)))),(v3 1),(v3 2)])) aN)
  (aW (ab s0 [(ah ae (v3 0) (gH bY (c3 (.int 1)))),(v3 1),(v3 2)]))) aN)))
def dE(Lv:aw):bB:=(ai (aq 1 (bx []))
  (ai (bz (aE (ah ae (v3 0) (c3 (.int 0)))) (.n 2) (ai (aq 3 (bx []))
  (ai (bz (aE (ah ae (v3 0) (c3 (.int 1)))) (.tp (.cons (.n 4) (.cons (.n 5) .nil))) (aW (ab Lv [(v3 5),(v3 1),(v3 3)])))
  (aq 1 (v3 3)))))
  (av (v3 1))))
end C
namespace Zu
open PySem Zt
open Sem (wp)
def nn{a b:Nat}(h:a≠b):@Ne Addr a b:=h
abbrev cm(h:Heap)(T:Nat)(a b c:Value):Prop:=h.get? T=some { cls:=.type "tuple",data:=.seq #[a,b,c] }
section
variable {kd kc:Bool} {prog:Program} {w:World} {A:Around} {E:Vq} {s:Shared}
def oZ{T:Addr}{a b c x:Value}{k:Nat}{Q:Unit->Shared->Prop}(hT:cm s.heap T a b c)
  (h:∀h',h'.get? T=some { cls:=.type "tuple",data:=.seq ((#[a,b,c]:Vw).setIfInBounds k x) }->Heap.SameBut T s.heap h'->Q () { s with heap:=h' }) :
  wpAny (model prog w) A (updateSeq T (·.setIfInBounds k x)) Q E s:=by
 refine V1 hT rfl (h _ ?_ (WG ..))
 rw[U9 _ hT rfl]
 simp[Obj.mapSeq]
variable {n l1 l2 l3:Nat} {i:Nat} {xs ys zs:Vw} {x y z a b c:Value}
def oH{Q:Vq}(d1:l1 < n)(d2:l2 < n)(d3:l3 < n)(gz:IsZip s.heap (n+5) (n+3) (n+4) .none)(gI:cm s.heap (n+3) (.ref n) (.ref (n+1)) (.ref (n+2)))(gO:cm s.heap (n+4) a b c)
  (g1:Si kd s.heap n l1 i) (g2:Si kc s.heap (n+1) l2 i) (g3:Si kc s.heap (n+2) l3 i) (t1:Sq kd s.heap l1 xs) (t2:Sq kc s.heap l2 ys) (t3:Sq kc s.heap l3 zs) (hx:xs[i]?=some x) (hy:ys[i]?=some y) (hz:zs[i]?=some z)
  (k:∀g,IsZip g (n+5) (n+3) (n+4) (rawInt s.heap.objs.size)->cm g (n+4) x y z->Si kd g n l1 (i+1)->Si kc g (n+1) l2 (i+1)->Si kc g (n+2) l3 (i+1)->cm g s.heap.objs.size x y z->
   (∀c o,c≠n+5->c≠n+4->c≠n->c≠n+1->c≠n+2->s.heap.get? c=some o->g.get? c=some o)->Q (.ref s.heap.objs.size) { s with heap:=g }) :
  wpAny (model prog w) A (Builtin.«zip.__next__» ⟨[.ref (n+5)],[]⟩) (fun fin s'=>∃v,fin = .done (.ret v)/\Q v s') E s:=by
 show wpAny _ _ (field (.ref (n+5)) 2 >>= _) _ _ _;refine Sl (TM gz rfl (x:=.bool false) rfl ?_)
 show wpAny _ _ (field (.ref (n+5)) 3 >>= _) _ _ _;refine Sl (TM gz rfl (x:=.ref (n+3)) rfl (Sl (TN gI rfl ?_)))
 show wpAny _ _ (Builtin.SmallTypes.ownedTupleIsFree (.ref (n+5)) >>= _) _ _ _;refine Sl ?_;unfold Builtin.SmallTypes.ownedTupleIsFree
 refine Sl (TM gz rfl (x:=.none) rfl (Sx ?_));simp only[TH]
 refine Sl (VB (Sl (TM gz rfl (x:=.ref (n+4)) rfl (Sl (T4 gz (by simp) fun h₁ z1 q1=>?_)))))
 replace z1:IsZip h₁ (n+5) (n+3) (n+4) .ellipsis:=z1
 refine Sl ?_;simp only[List.zipIdx_cons,List.zipIdx_nil,V2,List.forIn_nil]
 refine Sl (Sl (Vl ?_));show wpAny _ _ (Builtin.SmallTypes.nextOf (.ref n) >>= _) _ _ _
 refine Sl (Dx (g1.extBut q1.extBut (nn (by omega))) (t1.extBut q1.extBut (nn (by omega))) hx fun h₂ n1 q2=>Sx ?_)
 have o2:cm h₂ (n+4) a b c:=q2.extBut _ _ (nn (by omega)) (q1.extBut _ _ (nn (by omega)) gO)
 refine Sl (TN o2 rfl (Sl (oZ o2 fun h₃ o3 q3=>?_)))
 replace o3:cm h₃ (n+4) x b c:=o3
 refine Sl (UX (Sx ?_));refine Sl (Sl (Vl ?_));show wpAny _ _ (Builtin.SmallTypes.nextOf (.ref (n+1)) >>= _) _ _ _
 refine Sl (Dx (((g2.extBut q1.extBut (nn (by omega))).extBut q2.extBut (nn (by omega))).extBut q3.extBut (nn (by omega))) (((t2.extBut q1.extBut (nn (by omega))).extBut q2.extBut (nn (by omega))).extBut q3.extBut (nn (by omega))) hy fun h₄ n2 q4=>Sx ?_)
 have o4:cm h₄ (n+4) x b c:=q4.extBut _ _ (nn (by omega)) o3
 refine Sl (TN o4 rfl (Sl (oZ o4 fun h₅ o5 q5=>?_)))
 replace o5:cm h₅ (n+4) x y c:=o5
 refine Sl (UX (Sx ?_));refine Sl (Sl (Vl ?_));show wpAny _ _ (Builtin.SmallTypes.nextOf (.ref (n+2)) >>= _) _ _ _
 refine Sl (Dx (((((g3.extBut q1.extBut (nn (by omega))).extBut q2.extBut (nn (by omega))).extBut q3.extBut (nn (by omega))).extBut q4.extBut (nn (by omega))).extBut q5.extBut (nn (by omega))) (((((t3.extBut q1.extBut (nn (by omega))).extBut q2.extBut (nn (by omega))).extBut q3.extBut (nn (by omega))).extBut q4.extBut (nn (by omega))).extBut q5.extBut (nn (by omega))) hz fun h₆ n3 q6=>Sx ?_)
 have o6:cm h₆ (n+4) x y c:=q6.extBut _ _ (nn (by omega)) o5
 refine Sl (TN o6 rfl (Sl (oZ o6 fun h₇ o7 q7=>?_)))
 replace o7:cm h₇ (n+4) x y z:=o7
 refine Sl (UX (Sx (Sx ?_)));refine Sl (TN o7 rfl (Sl (wpAny_newTuple ?_)))
 have sz:h₇.objs.size=s.heap.objs.size:=by rw[q7.1,q6.1,q5.1,q4.1,q3.1,q2.1,q1.1]
 have kk:∀c o,c≠n+5->c≠n+4->c≠n->c≠n+1->c≠n+2->s.heap.get? c=some o->h₇.get? c=some o:=fun c o c1 c2 c3 c4 c5 e=>q7.extBut _ _ c2 (q6.extBut _ _ c5 (q5.extBut _ _ c2 (q4.extBut _ _ c4 (q3.extBut _ _ c2 (q2.extBut _ _ c3 (q1.extBut _ _ c1 e))))))
 have z7:IsZip h₇ (n+5) (n+3) (n+4) .ellipsis:=q7.extBut _ _ (nn (by omega)) (q6.extBut _ _ (nn (by omega)) (q5.extBut _ _ (nn (by omega)) (q4.extBut _ _ (nn (by omega)) (q3.extBut _ _ (nn (by omega)) (q2.extBut _ _ (nn (by omega)) z1)))))
 have m1:Si kd h₇ n l1 (i+1):=((((n1.extBut q3.extBut (nn (by omega))).extBut q4.extBut (nn (by omega))).extBut q5.extBut (nn (by omega))).extBut q6.extBut (nn (by omega))).extBut q7.extBut (nn (by omega))
 have m2:Si kc h₇ (n+1) l2 (i+1):=((n2.extBut q5.extBut (nn (by omega))).extBut q6.extBut (nn (by omega))).extBut q7.extBut (nn (by omega))
 have m3:Si kc h₇ (n+2) l3 (i+1):=n3.extBut q7.extBut (nn (by omega))
 have zl:n+5 < h₇.objs.size:=Sw z7
 show wpAny _ _ (Builtin.SmallTypes.ownedTupleHandOut (.ref (n+5)) (.ref h₇.objs.size) >>= _) _ _ _;refine Sl ?_;unfold Builtin.SmallTypes.ownedTupleHandOut
 have z8:IsZip (h₇.push { cls:=.type "tuple",data:=.seq #[x,y,z] }) (n+5) (n+3) (n+4) .ellipsis:=So _ z7
 refine Sl (T4 z8 (by simp) fun h₉ z9 q9=>?_)
 replace z9:IsZip h₉ (n+5) (n+3) (n+4) (rawInt h₇.objs.size):=z9
 refine T4 z9 (by simp) fun g za qa=>?_
 replace za:IsZip g (n+5) (n+3) (n+4) (rawInt h₇.objs.size):=za
 have up:∀c o,c≠n+5->h₇.get? c=some o->g.get? c=some o:=fun c o c1 e=>qa.extBut _ _ c1 (q9.extBut _ _ c1 (So _ e))
 have T8:cm g h₇.objs.size x y z:=qa.extBut _ _ (UW zl) (q9.extBut _ _ (UW zl) (SG _ rfl))
 rw[sz]at za T8
 refine Sx ⟨_,rfl,?_⟩
 show Q (.ref h₇.objs.size) _
 rw[sz]
 exact k g za (up _ _ (nn (by omega)) o7) (m1.at fun o e=>up _ o (nn (by omega)) e) (m2.at fun o e=>up _ o (nn (by omega)) e) (m3.at fun o e=>up _ o (nn (by omega)) e) T8 fun c o c1 c2 c3 c4 c5 e=>up c o c1 (kk c o c1 c2 c3 c4 c5 e)
def rT{Q:Fin->Shared->Prop}(hh:A.handled=none)(d1:l1 < n)(gz:IsZip s.heap (n+5) (n+3) (n+4) .none)(gI:cm s.heap (n+3) (.ref n) (.ref (n+1)) (.ref (n+2)))
  (g1:Si kd s.heap n l1 i) (t1:Sq kd s.heap l1 xs) (hx:xs[i]?=none)
  (k:∀(g:Heap) (e:Addr),(∀c o,c≠n+5->c≠n+4->c≠n->c≠n+1->c≠n+2->s.heap.get? c=some o->g.get? c=some o)->(∃o,g.get? e=some o/\o.cls = .type "StopIteration")->E (.ref e) { s with heap:=g }) :
  wpAny (model prog w) A (Builtin.«zip.__next__» ⟨[.ref (n+5)],[]⟩) Q E s:=by
 show wpAny _ _ (field (.ref (n+5)) 2 >>= _) _ _ _;refine Sl (TM gz rfl (x:=.bool false) rfl ?_)
 show wpAny _ _ (field (.ref (n+5)) 3 >>= _) _ _ _;refine Sl (TM gz rfl (x:=.ref (n+3)) rfl (Sl (TN gI rfl ?_)))
 show wpAny _ _ (Builtin.SmallTypes.ownedTupleIsFree (.ref (n+5)) >>= _) _ _ _;refine Sl ?_;unfold Builtin.SmallTypes.ownedTupleIsFree
 refine Sl (TM gz rfl (x:=.none) rfl (Sx ?_));simp only[TH]
 refine Sl (VB (Sl (TM gz rfl (x:=.ref (n+4)) rfl (Sl (T4 gz (by simp) fun h₁ z1 q1=>?_)))))
 replace z1:IsZip h₁ (n+5) (n+3) (n+4) .ellipsis:=z1
 refine Sl ?_;simp only[List.zipIdx_cons,List.zipIdx_nil,V2,List.forIn_nil]
 refine Sl (Sl (Vl ?_));show wpAny _ _ (Builtin.SmallTypes.nextOf (.ref n) >>= _) _ _ _
 refine Sl (B_ hh (g1.extBut q1.extBut (nn (by omega))) (t1.extBut q1.extBut (nn (by omega))) hx fun h₂ e q2 ⟨oe,ge,ce⟩=>?_)
 have z2:IsZip h₂ (n+5) (n+3) (n+4) .ellipsis:=q2 _ _ (nn (by omega)) z1
 have ez:e≠n+5:=fun u=>by subst u;rw[z2]at ge;cases ge;simp at ce
 exact T4 z2 (by simp) fun h₃ _ q3=>k h₃ e (fun c o c1 _ c3 _ _ u=>q3.extBut _ _ c1 (q2 _ _ c3 (q1.extBut _ _ c1 u))) ⟨oe,q3.extBut _ _ ez ge,ce⟩
def ke{Q:Option Value->Shared->Prop}(d1:l1 < n)(d2:l2 < n)(d3:l3 < n)(gz:IsZip s.heap (n+5) (n+3) (n+4) .none)(gI:cm s.heap (n+3) (.ref n) (.ref (n+1)) (.ref (n+2)))(gO:cm s.heap (n+4) a b c)
  (g1:Si kd s.heap n l1 i) (g2:Si kc s.heap (n+1) l2 i) (g3:Si kc s.heap (n+2) l3 i) (t1:Sq kd s.heap l1 xs) (t2:Sq kc s.heap l2 ys) (t3:Sq kc s.heap l3 zs) (hx:xs[i]?=some x) (hy:ys[i]?=some y) (hz:zs[i]?=some z)
  (k:∀g,IsZip g (n+5) (n+3) (n+4) (rawInt s.heap.objs.size)->cm g (n+4) x y z->Si kd g n l1 (i+1)->Si kc g (n+1) l2 (i+1)->Si kc g (n+2) l3 (i+1)->cm g s.heap.objs.size x y z->
   (∀c o,c≠n+5->c≠n+4->c≠n->c≠n+1->c≠n+2->s.heap.get? c=some o->g.get? c=some o)->Q (some (.ref s.heap.objs.size)) { s with heap:=g }):wpAny (model prog w) A (pyNext (.ref (n+5))) Q E s:=by
 have ty:s.TypeIs (.ref (n+5)) "zip":=⟨_,gz,rfl⟩
 unfold pyNext
 exact Sl (wpAny_attempt (Ue (name:=Str.ofString "__next__") ty US (UI US ty Wn
  (oH d1 d2 d3 gz gI gO g1 g2 g3 t1 t2 t3 hx hy hz fun g a1 a2 a3 a4 a5 a6 a7=>Sx (k g a1 a2 a3 a4 a5 a6 a7)) (Wc _))))
def lO{Q:Option Value->Shared->Prop}(hh:A.handled=none)(d1:l1 < n)(gz:IsZip s.heap (n+5) (n+3) (n+4) .none)(gI:cm s.heap (n+3) (.ref n) (.ref (n+1)) (.ref (n+2)))
  (g1:Si kd s.heap n l1 i) (t1:Sq kd s.heap l1 xs) (hx:xs[i]?=none)
  (k:∀g:Heap,(∀c o,c≠n+5->c≠n+4->c≠n->c≠n+1->c≠n+2->s.heap.get? c=some o->g.get? c=some o)->Q none { s with heap:=g }):wpAny (model prog w) A (pyNext (.ref (n+5))) Q E s:=by
 have ty:s.TypeIs (.ref (n+5)) "zip":=⟨_,gz,rfl⟩
 unfold pyNext
 refine Sl (wpAny_attempt (Ue (name:=Str.ofString "__next__") ty US (UI US ty Wn (rT hh d1 gz gI g1 t1 hx fun g e kk ⟨o,ho,hc⟩=>?_) (Wc _))))
 exact Sl (wpAny_isInstance (T:="StopIteration") (b:=true) ⟨o,ho,hc⟩ isSubtype_stop (Sx (k _ kk)))
end
def G2(a b c:Value):checkTypeCall "zip" ⟨[a,b,c],[]⟩=pure ():=by kernel_rfl
def G3(a b c:Value):checkBuiltinCall "zip.__new__" ⟨[.type "zip",a,b,c],[]⟩=pure ():=by kernel_rfl
def G4(a b c d:Value):argsOk "object.__init__" ⟨[a,b,c,d],[]⟩:=by
 unfold argsOk;rw[signature?_of (id:="object.__init__") (n:="__init__".toList.reverse) (o:="object".toList.reverse) (by kernel_rfl) F.owner_object];kernel_rfl
noncomputable abbrev K3(kd kc:Bool)(h:Heap)(l1 l2 l3:Addr):Heap:=((h.push (it kd l1)).push (it kc l2)).push (it kc l3)
noncomputable abbrev K4(kd kc:Bool)(h:Heap)(l1 l2 l3:Addr):Heap:=(K3 kd kc h l1 l2 l3).push { cls:=.type "tuple",data:=.seq #[.ref h.objs.size,.ref (h.push (it kd l1)).objs.size,.ref ((h.push (it kd l1)).push (it kc l2)).objs.size] }
noncomputable abbrev K5(kd kc:Bool)(h:Heap)(l1 l2 l3:Addr):Heap:=(K4 kd kc h l1 l2 l3).push { cls:=.type "tuple",data:=.seq #[.none,.none,.none] }
noncomputable abbrev K6(kd kc:Bool)(h:Heap)(l1 l2 l3:Addr):Heap:=(K5 kd kc h l1 l2 l3).push { cls:=.type "zip",data:=.fields #[.none,.bool false,.bool false,.ref (K3 kd kc h l1 l2 l3).objs.size,.ref (K4 kd kc h l1 l2 l3).objs.size] }
def fh(kd kc:Bool)(l1 l2 l3:Addr)(xs ys zs:Vw) :
  Meets (Builtin.«zip.__new__» ⟨[.type "zip",.ref l1,.ref l2,.ref l3],[]⟩) (fun _ R s=>Sq kd s.heap l1 xs/\Sq kc s.heap l2 ys/\Sq kc s.heap l3 zs/\R (.ok (.ret (.ref (K5 kd kc s.heap l1 l2 l3).objs.size))) { s with heap:=K6 kd kc s.heap l1 l2 l3 }):=
 .of_wp fun prog w A R s h=>by
  obtain⟨hp,g,d,tk,os⟩:=s;obtain⟨e1,e2,e3,h⟩:=h
  have hsub:=sub_zip
  cases kd with
  |false=>
   cases kc with
   |false=>
    have L1:Heap.IsTuple (Shared.heap ⟨hp,g,d,tk,os⟩) l1 xs:=e1
    have L2:Heap.IsTuple (Shared.heap ⟨hp.push { cls:=.type "tuple_iterator",data:=.fields #[.ref l1,.int 0 0] },g,d,tk,os⟩) l2 ys:=UA e2 _
    have L3:Heap.IsTuple (Shared.heap ⟨(hp.push { cls:=.type "tuple_iterator",data:=.fields #[.ref l1,.int 0 0] }).push { cls:=.type "tuple_iterator",data:=.fields #[.ref l2,.int 0 0] },g,d,tk,os⟩) l3 zs:=UA (UA e3 _) _
    wp_walk using Tv L1,Tv L2,Tv L3
    exact⟨_,rfl,h⟩
   |true=>
    have L1:Heap.IsTuple (Shared.heap ⟨hp,g,d,tk,os⟩) l1 xs:=e1
    have L2:Heap.IsList (Shared.heap ⟨hp.push { cls:=.type "tuple_iterator",data:=.fields #[.ref l1,.int 0 0] },g,d,tk,os⟩) l2 ys:=UJ e2 _
    have L3:Heap.IsList (Shared.heap ⟨(hp.push { cls:=.type "tuple_iterator",data:=.fields #[.ref l1,.int 0 0] }).push { cls:=.type "list_iterator",data:=.fields #[.ref l2,.int 0 0] },g,d,tk,os⟩) l3 zs:=UJ (UJ e3 _) _
    wp_walk using Tv L1,TR L2,TR L3
    exact⟨_,rfl,h⟩
  |true=>
   cases kc with
   |false=>
    have L1:Heap.IsList (Shared.heap ⟨hp,g,d,tk,os⟩) l1 xs:=e1
    have L2:Heap.IsTuple (Shared.heap ⟨hp.push { cls:=.type "list_iterator",data:=.fields #[.ref l1,.int 0 0] },g,d,tk,os⟩) l2 ys:=UA e2 _
    have L3:Heap.IsTuple (Shared.heap ⟨(hp.push { cls:=.type "list_iterator",data:=.fields #[.ref l1,.int 0 0] }).push { cls:=.type "tuple_iterator",data:=.fields #[.ref l2,.int 0 0] },g,d,tk,os⟩) l3 zs:=UA (UA e3 _) _
    wp_walk using TR L1,Tv L2,Tv L3
    exact⟨_,rfl,h⟩
   |true=>
    have L1:Heap.IsList (Shared.heap ⟨hp,g,d,tk,os⟩) l1 xs:=e1
    have L2:Heap.IsList (Shared.heap ⟨hp.push { cls:=.type "list_iterator",data:=.fields #[.ref l1,.int 0 0] },g,d,tk,os⟩) l2 ys:=UJ e2 _
    have L3:Heap.IsList (Shared.heap ⟨(hp.push { cls:=.type "list_iterator",data:=.fields #[.ref l1,.int 0 0] }).push { cls:=.type "list_iterator",data:=.fields #[.ref l2,.int 0 0] },g,d,tk,os⟩) l3 zs:=UJ (UJ e3 _) _
    wp_walk using TR L1,TR L2,TR L3
    exact⟨_,rfl,h⟩
section
variable {kd kc:Bool} {prog:Program} {w:World} {A:Around} {E:Vq} {s:Shared}
def gG{l1 l2 l3:Addr}{xs ys zs:Vw}{Q:Vq}(e1:Sq kd s.heap l1 xs)(e2:Sq kc s.heap l2 ys)(e3:Sq kc s.heap l3 zs)
  (k:∀g,IsZip g (s.heap.objs.size+5) (s.heap.objs.size+3) (s.heap.objs.size+4) .none->cm g (s.heap.objs.size+3) (.ref s.heap.objs.size) (.ref (s.heap.objs.size+1)) (.ref (s.heap.objs.size+2))->
   cm g (s.heap.objs.size+4) .none .none .none->Si kd g s.heap.objs.size l1 0->Si kc g (s.heap.objs.size+1) l2 0->Si kc g (s.heap.objs.size+2) l3 0->
   (∀c o,s.heap.get? c=some o->g.get? c=some o)->Q (.ref (s.heap.objs.size+5)) { s with heap:=g }) :
  wpAny (model prog w) A (call (.type "zip") [.ref l1,.ref l2,.ref l3]) Q E s:=by
 refine callType_new F.called_zip (by decide) (G2 _ _ _) (G3 _ _ _) (fun obj=>G4 obj _ _ _) F.entry_zip_new (fh kd kc l1 l2 l3 xs ys zs) ⟨e1,e2,e3,?_⟩
 have z1:(s.heap.push (it kd l1)).objs.size=s.heap.objs.size+1:=Uh ..
 have z2:((s.heap.push (it kd l1)).push (it kc l2)).objs.size=s.heap.objs.size+2:=by rw[Uh,z1]
 have z3:(K3 kd kc s.heap l1 l2 l3).objs.size=s.heap.objs.size+3:=by rw[Uh,z2]
 have z4:(K4 kd kc s.heap l1 l2 l3).objs.size=s.heap.objs.size+4:=by rw[Uh,z3]
 have z5:(K5 kd kc s.heap l1 l2 l3).objs.size=s.heap.objs.size+5:=by rw[Uh,z4]
 have p:∀{h:Heap} {b:Addr} {o o':Obj},h.get? b=some o->(h.push o').get? b=some o:=fun e=>So _ e
 have g6:(K6 kd kc s.heap l1 l2 l3).get? (K5 kd kc s.heap l1 l2 l3).objs.size=some _:=SG _ rfl
 have g5:(K6 kd kc s.heap l1 l2 l3).get? (K4 kd kc s.heap l1 l2 l3).objs.size=some _:=p (SG _ rfl)
 have g4:(K6 kd kc s.heap l1 l2 l3).get? (K3 kd kc s.heap l1 l2 l3).objs.size=some _:=p (p (SG _ rfl))
 have g3:(K6 kd kc s.heap l1 l2 l3).get? ((s.heap.push (it kd l1)).push (it kc l2)).objs.size=some _:=p (p (p (SG _ rfl)))
 have g2:(K6 kd kc s.heap l1 l2 l3).get? (s.heap.push (it kd l1)).objs.size=some _:=p (p (p (p (SG _ rfl))))
 have g1:(K6 kd kc s.heap l1 l2 l3).get? s.heap.objs.size=some _:=p (p (p (p (p (SG _ rfl)))))
 show _/\_
 rw[z3,z4,z5]at g6
 rw[z4]at g5
 rw[z1,z2,z3]at g4
 rw[z2]at g3
 rw[z1]at g2
 rw[z5]
 exact⟨⟨_,g6,rfl⟩,k _ g6 g4 g5 (.mk g1) (.mk g2) (.mk g3) fun c o x=>p (p (p (p (p (p x)))))⟩
end
end Zu
namespace L2
open PySem PySem.Spec PyProof.Rows
noncomputable def Gr(kd kc:Bool)(K:Vo)(a b c:Addr):It:=
  ⟨fun i H=>∃xs ys zs x y z,lP kd K H a xs/\lP kc K H b ys/\lP kc K H c zs/\xs[i]?=some x/\ys[i]?=some y/\zs[i]?=some z,
   fun i H v H'=>∃p x y z,v = .ref p/\H p=none/\H'=upd H p (.tup [x,y,z])/\∀xs ys zs,lP kd K H a xs->lP kc K H b ys->lP kc K H c zs->xs[i]?=some x/\ys[i]?=some y/\zs[i]?=some z,
   fun i H=>∃xs,lP kd K H a xs/\xs.length<=i⟩
def wJ{kd kc:Bool}{P:Program}{w:World}{K:Vo}{elts:List Expr}{k0:Nat}{IY:Pos}{n a b c:Nat}(d1:a < n)(d2:b < n)(d3:c < n) :
  m8 P w K (.Tuple elts k0 IY) (Gr kd kc K a b c) [n+5,n+3,n+4,n,n+1,n+2] (n+5) (fun i h=>IsZip h (n+5) (n+3) (n+4) .none/\Zu.cm h (n+3) (.ref n) (.ref (n+1)) (.ref (n+2))/\(∃x y z,Zu.cm h (n+4) x y z)/\Zt.Si kd h n a i/\Zt.Si kc h (n+1) b i/\Zt.Si kc h (n+2) c i) where
 mem:=by simp
 obj:=fun i h st c hc=>by
  obtain⟨gz,gI,⟨x,y,z,gO⟩,g1,g2,g3⟩:=st
  obtain⟨o1,_,e1,f1⟩:=g1.ob;obtain⟨o2,_,e2,f2⟩:=g2.ob;obtain⟨o3,_,e3,f3⟩:=g3.ob
  simp only[Sv,SS,T9]at hc
  rcases hc with rfl|rfl|rfl|rfl|rfl|rfl
  ·exact⟨_,gz,fun v q=>by cases q⟩
  ·exact⟨_,gI,fun v q=>by cases q⟩
  ·exact⟨_,gO,fun v q=>by cases q⟩
  ·exact⟨_,e1,fun v q=>by rw[f1]at q;cases q⟩
  ·exact⟨_,e2,fun v q=>by rw[f2]at q;cases q⟩
  ·exact⟨_,e3,fun v q=>by rw[f3]at q;cases q⟩
 keep:=fun i h h' st k=>by
  obtain⟨gz,gI,⟨x,y,z,gO⟩,g1,g2,g3⟩:=st
  exact⟨k _ (by simp) _ gz,k _ (by simp) _ gI,⟨x,y,z,k _ (by simp) _ gO⟩,g1.at fun o e=>k _ (by simp) o e,g2.at fun o e=>k _ (by simp) o e,g3.at fun o e=>k _ (by simp) o e⟩
 item:=by
  intro X hP hw hK hc i pins s σ H E I hf st hg
  subst hP hw hK
  obtain⟨gz,gI,⟨ta,tb,tc,gO⟩,g1,g2,g3⟩:=st
  obtain⟨xs,ys,zs,x,y,z,KU,Nz,Qq,hx,hy,hz⟩:=hg
  obtain⟨ia,ra,pa⟩:=I.Ke KU
  obtain⟨ib,rb,pb⟩:=I.Ke Nz
  obtain⟨ic,rc,pc⟩:=I.Ke Qq
  obtain⟨u,hu,ru⟩:=ra.get hx
  obtain⟨v,hv,rv⟩:=rb.get hy
  obtain⟨t,ht,rt⟩:=rc.get hz
  refine Zu.ke (kd:=kd) (kc:=kc) d1 d2 d3 gz gI gO g1 g2 g3 pa pb pc (x:=u) (y:=v) (z:=t) (by simpa using hu) (by simpa using hv) (by simpa using ht) fun g a1 a2 a3 a4 a5 a6 a7=>?_
  refine⟨_,rfl,wpAny_letOwnedTupleGo_zip (s:={ s with heap:=g }) a1 fun g' z' q'=>?_⟩
  have kk:∀c o,c ∉ ([n+5,n+3,n+4,n,n+1,n+2]:List Addr)->s.heap.get? c=some o->g'.get? c=some o:=fun c o hc e=>by
   simp only[Sv,SS,T9,not_or]at hc
   exact q'.extBut _ _ hc.1 (a7 c o hc.1 hc.2.2.1 hc.2.2.2.1 hc.2.2.2.2.1 hc.2.2.2.2.2 e)
  have I1:Inv X pins σ H { s with heap:=g' }:=I.IU (t':=s.toks) kk hf
  have f0:fD X pins H s.heap.objs.size:=I.J5 (Ss _) (I.hok.fresh (Ss _))
  have eT:Ia g' s.heap.objs.size [u,v,t].toArray:=⟨_,q'.extBut _ _ (UW (Sw gz)) a6,rfl,rfl,_,rfl⟩
  have I2:=I1.KS f0 eT (.cons ru (.cons rv (.cons rt .nil))) (by show 3<=sizeLine;decide)
  refine⟨.ref s.heap.objs.size,_,I2,rfl,⟨s.heap.objs.size,x,y,z,rfl,f0.1,rfl,fun xs' ys' zs' h1 h2 h3=>by rw[I.JC h1 KU,I.JC h2 Nz,I.JC h3 Qq];exact⟨hx,hy,hz⟩⟩,
   ⟨z',q'.extBut _ _ (Zu.nn (by omega)) (a7 _ _ (Zu.nn (by omega)) (Zu.nn (by omega)) (Zu.nn (by omega)) (Zu.nn (by omega)) (Zu.nn (by omega)) gI),⟨_,_,_,q'.extBut _ _ (Zu.nn (by omega)) a2⟩,a3.extBut q'.extBut (Zu.nn (by omega)),a4.extBut q'.extBut (Zu.nn (by omega)),a5.extBut q'.extBut (Zu.nn (by omega))⟩,fun c hc=>?_⟩
  have hlt:c < s.heap.objs.size:=by
   obtain⟨_,_,e1,_⟩:=g1.ob
   obtain⟨_,_,e2,_⟩:=g2.ob
   obtain⟨_,_,e3,_⟩:=g3.ob
   simp only[Sv,SS,T9]at hc
   rcases hc with rfl|rfl|rfl|rfl|rfl|rfl
   ·exact Sw gz
   ·exact Sw gI
   ·exact Sw gO
   ·exact Sw e1
   ·exact Sw e2
   ·exact Sw e3
  rw[aI (Th hlt)]
  exact(hf c hc).1
 done:=by
  intro X hP hw hK hc i pins s σ H E I hf st hg
  subst hP hw hK
  obtain⟨gz,gI,⟨ta,tb,tc,gO⟩,g1,g2,g3⟩:=st
  obtain⟨xs,KU,hl⟩:=hg
  obtain⟨ia,ra,pa⟩:=I.Ke KU
  have la:=ra.length
  refine Zu.lO (kd:=kd) (I.ok.hd hc) d1 gz gI g1 pa (by simp;omega) fun g kk=>⟨rfl,I.IU (t':=s.toks) (fun c o hc e=>?_) hf⟩
  simp only[Sv,SS,T9,not_or]at hc
  exact kk c o hc.1 hc.2.2.1 hc.2.2.2.1 hc.2.2.2.2.1 hc.2.2.2.2.2 e
 self:=fun _ _ _ _ _ st h=>Wo st.1 h
section
variable {X:Cx}
def Gs(kd kc:Bool)(K:Vo)(ta:TA):TI:=fun σ H R=>ta σ H fun vs H1=>∃a b c,vs=[.ref a,.ref b,.ref c]/\(∃xs,lP kd K H1 a xs)/\(∃ys,lP kc K H1 b ys)/\(∃zs,lP kc K H1 c zs)/\R (Gr kd kc K a b c) H1
def Cu{kd kc:Bool}{elts:List Expr}{k0:Nat}{IY:Pos}{a b c:Expr}{ta:TA}{p pos:Pos}(hg:Gl X "zip")(hm:X.mg "zip" = none)(hv:bootBuiltins "zip" = some (.type "zip"))(ha:PA X [a,b,c] ta)
  (hs:starEach [a,b,c] X.env=[(false,eval a X.env),(false,eval b X.env),(false,eval c X.env)]) (hs2:starEach [b,c] X.env=[(false,eval b X.env),(false,eval c X.env)]):PI X (.Tuple elts k0 IY) (.Call (.Name "zip" p) [a,b,c] [] pos) (Gs kd kc X.K ta):=by
 intro pins s σ H R I h
 refine Call_ (eO I hg hm hv (T5 (Hj (ha pos pins s σ H _ I h) fun us s1 ⟨vs,H1,I1,r1,q1⟩=>?_) (by rw[hs,hs2]) (by rw[hs2];rfl)))
 obtain⟨a,b,c,e,⟨xs,qa⟩,⟨ys,qb⟩,⟨zs,qc⟩,q⟩:=q1
 subst e
 obtain⟨u,us,rfl⟩:∃u us',us=u::us':=by cases r1;exact⟨_,_,rfl⟩
 cases r1 with
 |cons ru r1=>
 obtain⟨v,t,rfl,rv,rt⟩:=vF r1
 cases ru
 cases rv
 cases rt
 obtain⟨ia,ra,pa⟩:=I1.Ke qa
 obtain⟨ib,rb,pb⟩:=I1.Ke qb
 obtain⟨ic,rc,pc⟩:=I1.Ke qc
 have la:a < s1.heap.objs.size:=pa.lt
 have lb:b < s1.heap.objs.size:=pb.lt
 have lc:c < s1.heap.objs.size:=pc.lt
 refine Zu.gG (kd:=kd) (kc:=kc) pa pb pc fun g gz gI gO g1 g2 g3 kk=>?_
 refine Wo (s:={ s1 with heap:=g }) gz ?_
 refine⟨_,[s1.heap.objs.size+5,s1.heap.objs.size+3,s1.heap.objs.size+4,s1.heap.objs.size,s1.heap.objs.size+1,s1.heap.objs.size+2],_,_,H1,rfl,I1.kept (t':=s1.toks) kk,wJ la lb lc,⟨gz,gI,⟨_,_,_,gO⟩,g1,g2,g3⟩,fun c hc=>?_,q⟩
 have hle:s1.heap.objs.size<=c:=by
  simp only[Sv,SS,T9]at hc
  rcases hc with rfl|rfl|rfl|rfl|rfl|rfl
  ·exact TQ _ _
  ·exact TQ _ _
  ·exact TQ _ _
  ·exact Ss _
  ·exact TQ _ _
  ·exact TQ _ _
 exact I1.J5 hle (I1.hok.fresh hle)
end
end L2
namespace L3
open PySem L2
section
variable {X:Cx} {a b c:Expr} {ta tb tc:bc} {p pos:Pos}
noncomputable def EJ(z:PV×PV×PV):PV:=.tup [z.1,z.2.1,z.2.2]
noncomputable def fN(xs ys zs:List PV):List PV:=(xs.zip (ys.zip zs)).map EJ
def wK{K:Vo}{H0:Hp}{a b c:Addr}{vs us ws:List V}{xs ys zs:List PV}(h1:SqT K H0 a vs)(h2:SqT K H0 b us)(h3:SqT K H0 c ws)(r1:Reps K H0 vs xs)(r2:Reps K H0 us ys)(r3:Reps K H0 ws zs)(l12:xs.length<=ys.length)(l13:xs.length<=zs.length):iE K H0 (Gr false false K a b c) ⟨fN xs ys zs,fun _=>True⟩:=by
 intro i S H g rS _
 have hv:=g.t _ _ h1
 have hu:=g.t _ _ h2
 have hw:=g.t _ _ h3
 have l1:=r1.length
 refine⟨fun p hp=>?_,fun hi=>⟨vs,hv,?_⟩⟩
 ·unfold fN at hp
  rw[SA]at hp
  cases hz:(xs.zip (ys.zip zs))[i]? with
  |none=>rw[hz]at hp;cases hp
  |some z=>
   rw[hz]at hp
   cases hp
   obtain⟨e1,Rk⟩:=UE.mp hz
   obtain⟨e2,e3⟩:=UE.mp Rk
   obtain⟨v,hx',rv⟩:=r1.get e1
   obtain⟨u,hy',ru⟩:=r2.get e2
   obtain⟨t,hz',rt⟩:=r3.get e3
   refine⟨⟨vs,us,ws,v,u,t,hv,hu,hw,hx',hy',hz'⟩,fun x H' ⟨q,x2,y2,z2,e3,hq,e4,h⟩=>?_⟩
   subst e3 e4
   obtain⟨k1,k2,k3⟩:=h vs us ws hv hu hw
   rw[hx']at k1
   rw[hy']at k2
   rw[hz']at k3
   cases k1;cases k2;cases k3
   exact⟨.tup (SqT.of aD) (.cons ((rv.mono g).mono (.new hq)) (.cons ((ru.mono g).mono (.new hq)) (.cons ((rt.mono g).mono (.new hq)) .nil))),rS.other hq,.new hq⟩
 ·have e:(fN xs ys zs).length=min xs.length (min ys.length zs.length):=by simp[fN]
  rw[e]at hi
  omega
def wL(ta tb tc:bc):uF:=fun σ S R E=>ta σ S (fun v S1=>tb σ S1 (fun w S2=>tc σ S2 (fun x S3=>match v,w,x with
 | .tup xs,.tup ys,.tup zs=>xs.length<=ys.length/\xs.length<=zs.length/\R ⟨fN xs ys zs,fun _=>True⟩ S3
 |_,_,_=>False) E) E) E
def Cv{elts:List Expr}{k0:Nat}{IY:Pos}(hs:starEach [a,b,c] X.env=[(false,eval a X.env),(false,eval b X.env),(false,eval c X.env)])(hs2:starEach [b,c] X.env=[(false,eval b X.env),(false,eval c X.env)])(hg:Gl X "zip")(hm:X.mg "zip" = none)(hv:bootBuiltins "zip" = some (.type "zip"))(ha:kW X [a,b,c] [ta,tb,tc]) :
  wE X (.Tuple elts k0 IY) (.Call (.Name "zip" p) [a,b,c] [] pos) (wL ta tb tc):=
 ⟨ki (Cu (kd:=false) (kc:=false) hg hm hv ha.ok hs hs2) fun σ H R ⟨σ3,S,R3,E3,rσ,rS,h,xo,k⟩=>⟨σ3,S,_,E3,rσ,rS,h,xo,fun v S1 v' H1 h1 rv Ht g1=>⟨σ3,S1,_,E3,rσ.mono g1,Ht,h1,xo.mono g1,fun w S2 w' H2 h2 rw' JD g2=>⟨σ3,S2,_,E3,(rσ.mono g1).mono g2,JD,h2,(xo.mono g1).mono g2,fun x S3 x' H3 h3 Ps MV g3=>by
  split at h3
  ·cases rv with
   |tup hq rs=>
    cases rw' with
    |tup hq2 NA=>
     cases Ps with
     |tup Qr Rl=>exact⟨_,_,_,rfl,⟨_,g3.t _ _ (g2.t _ _ hq)⟩,⟨_,g3.t _ _ hq2⟩,⟨_,Qr⟩,k _ S3 _ H3 h3.2.2 (wK (g3.t _ _ (g2.t _ _ hq)) (g3.t _ _ hq2) Qr ((rs.mono g2).mono g3) (NA.mono g3) Rl h3.1 h3.2.1) MV ((g1.trans g2).trans g3)⟩
  ·exact h3.elim⟩⟩⟩⟩
end
end L3
namespace L2
open PySem PySem.Spec PyProof.Rows
def kq:fillsNumberSlot (.type "tuple") "mul" = pure false:=
 PySem.fillsNumberSlot_seq (id:="tuple.__mul__") (r:=some (.builtin "tuple.__rmul__")) VR.lookup (by decide +kernel) F.slot_tuple_rmul.lookup (by decide +kernel)
def o0:seqRepeat? (.type "tuple")=pure (some (.builtin "tuple.__mul__")):=by
 unfold seqRepeat?
 rw[PySem.seqSlot_of (T:="tuple") (name:="__mul__") (id:="tuple.__mul__") VR.lookup (by decide +kernel),PySem.seqSlot_of (T:="tuple") (name:="__rmul__") (id:="tuple.__rmul__") F.slot_tuple_rmul.lookup (by decide +kernel)]
 rfl
def l_(a:Int)(t:Tok)(l:Addr)(its:Vw)(n:Nat)(dd:Option Addr)(sl:Array (Option Value)) :
  Meets (Builtin.«int.__rmul__» ⟨[.int a t,.ref l],[]⟩) (fun _ R s=>s.heap.get? l=some { cls:=.type "tuple",dict:=dd,data:=.seq its n,slots:=sl }/\R (.ok (.ret Value.notImplemented)) s):=
 .of_wp fun prog w A R s h=>by obtain⟨hp,g,d,tk,os⟩:=s;obtain⟨hl,h⟩:=h;wp_walk;exact⟨_,rfl,h⟩
def EK(l:Addr)(x:Value)(n:Nat)(dd:Option Addr)(sl:Array (Option Value))(t:Tok) :
  Meets (Builtin.«tuple.__mul__» ⟨[.ref l,.int 1 t],[]⟩) (fun _ R s=>s.heap.get? l=some { cls:=.type "tuple",dict:=dd,data:=.seq #[x] n,slots:=sl }/\R (.ok (.ret (.ref l))) s):=
 .of_wp fun prog w A R s h=>by
  obtain⟨hp,g,d,tk,os⟩:=s;obtain⟨hl,h⟩:=h
  have t1:=AutoSeq1.idx_int
  wp_walk using TZ hl
  exact⟨_,rfl,h⟩
def EL(l:Addr)(x:Value)(n:Nat)(dd:Option Addr)(sl:Array (Option Value))(t:Tok) :
  Meets (Builtin.«tuple.__mul__» ⟨[.ref l,.int 0 t],[]⟩) (fun _ R s=>s.heap.get? l=some { cls:=.type "tuple",dict:=dd,data:=.seq #[x] n,slots:=sl }/\R (.ok (.ret (.ref s.heap.objs.size))) { s with heap:=s.heap.push { cls:=.type "tuple",data:=.seq #[] } }):=
 .of_wp fun prog w A R s h=>by
  obtain⟨hp,g,d,tk,os⟩:=s;obtain⟨hl,h⟩:=h
  have t1:=AutoSeq1.idx_int
  wp_walk using TZ hl
  exact⟨_,rfl,h⟩
def tF(x:Value)(m:Nat):(List.replicate m (#[x]:Vw)).foldl (·++·) #[]=(List.replicate m x).toArray:=by
 have:=j6 [x] m []
 rw[Tq]at this
 refine this.trans ?_
 rw[List.flatten_replicate_singleton]
def EM(l:Addr)(x:Value)(n:Nat)(dd:Option Addr)(sl:Array (Option Value))(k:Int)(t:Tok)(h2:2<=k)(hk:k<=2 ^ 20) :
  Meets (Builtin.«tuple.__mul__» ⟨[.ref l,.int k t],[]⟩) (fun _ R s=>s.heap.get? l=some { cls:=.type "tuple",dict:=dd,data:=.seq #[x] n,slots:=sl }/\R (.ok (.ret (.ref s.heap.objs.size))) { s with heap:=s.heap.push { cls:=.type "tuple",data:=.seq ((List.replicate k.toNat #[x]).foldl (·++·) #[]) } }):=
 .of_wp fun prog w A R s h=>by
  obtain⟨hp,g,d,tk,os⟩:=s;obtain⟨hl,h⟩:=h
  have t1:=AutoSeq1.idx_int
  have c1:¬((decide (k < -(2 ^ 63)) || decide (k>=2 ^ 63))=true):=by rw[Bool.or_eq_true,SE,SE];omega
  have c2:¬(((#[x]:Vw).isEmpty || k == 1)=true):=by
   have:(k == 1)=false:=by rw[WD];omega
   rw[this];simp
  have c3:¬((decide (k<=0) || (#[x]:Vw).isEmpty)=true):=by
   have:decide (k<=0)=false:=Tc (by omega)
   rw[this];simp
  have c4:¬(((#[x]:Vw).size:Int) * k > (2 ^ 63 - 1) / 8):=by show ¬((1:Int) * k > _);omega
  have sl:(2:Int) ^ 20<=(sizeLine:Int):=by decide
  have c5:¬(Builtin.Tuple.tupleTooMany (((#[x]:Vw).size:Int) * k)=true):=by show ¬(decide ((1:Int) * k > (sizeLine:Int))=true);rw[SE];omega
  wp_walk using TZ hl
  rw[if_neg c1]
  wp_walk using TZ hl
  rw[if_neg c2]
  wp_walk using TZ hl
  rw[if_neg c3]
  wp_walk using TZ hl
  rw[if_neg c4]
  wp_walk using TZ hl
  rw[if_neg c5]
  wp_walk using TZ hl
  have c6:¬((List.replicate k.toNat (#[x]:Vw)).foldl (·++·) #[]).size > sizeLine:=by
   rw[tF,Sy,TU];have:=Int.toNat_of_nonneg (show 0<=k by omega);omega
  rw[if_neg c6]
  wp_walk using TZ hl
  exact⟨_,rfl,h⟩
section
variable {X:Cx}
def EN(H H':Hp):Prop:=∀c o,H c=some o->H' c=some o
def EO(K:Vo):R2:=fun x y H Q=>∃l k x0,x = .ref l/\y = .int k/\SqT K H l [x0]/\0<=k/\k<=2 ^ 20/\∀r H',EN H H'->SqT K H' r (List.replicate k.toNat x0)->Q (.ref r) H'
def zH:im X (binaryOp .Mult) (EO X.K):=by
 intro pins s σ H x y v u Q I rx ry h
 obtain⟨l,k,x0,rfl,rfl,hH,h1,h2,q⟩:=h
 cases rx
 obtain⟨t,rfl⟩:=ry
 obtain⟨its,r1,p1,_⟩:=I.tuple hH
 obtain⟨w,rfl,Rm⟩:=r1.one
 obtain⟨⟨cls,dd,data,sl⟩,ho,hc,n,hd⟩:=id p1
 simp only at hc hd
 subst hc hd
 have new:∀(ys:List V) (us:Vv),Vals ys us->ys.length<=sizeLine->ys=List.replicate k.toNat x0->∃v H1,Inv X pins σ H1 { s with heap:=s.heap.push { cls:=.type "tuple",data:=.seq us.toArray } }/\RelV v (.ref s.heap.objs.size)/\Q v H1:=fun ys us r hz e=>
  ⟨.ref s.heap.objs.size,_,I.laid (t':=s.toks) (o:=.tup ys) (fun b ob q=>So _ q) (Ss _) ⟨hz,_,r,Ia.new _ _⟩,rfl,
   q _ _ (fun c o z=>by rw[aI (bp z (I.hok.fresh (Ss _)))];exact z) (by rw[<-e];exact SqT.of aD)⟩
 refine wpAny_binaryOp_repeat_ref (T:="tuple") (U:="int") (by decide) ⟨_,ho,rfl⟩ (fun s'=>typeIs_int s' k t) kq F.fills_int_mul WB o0 F.slot_int_index.lookup
  (U6 WB (typeIs_int s k t) F.entry_int_rmul (F.args_int_rmul_2 _ _) (l_ k t l _ n dd sl) ⟨ho,rfl,⟨_,ho,rfl⟩,?_⟩)
 by_cases k0:k=0
 ·subst k0
  exact U6 VR ⟨_,ho,rfl⟩ F.entry_tuple_mul (F.args_tuple_mul_2 _ _) (EL l w n dd sl t) ⟨ho,new [] [] .nil (Tr _) rfl⟩
 by_cases k1:k=1
 ·subst k1
  exact U6 VR ⟨_,ho,rfl⟩ F.entry_tuple_mul (F.args_tuple_mul_2 _ _) (EK l w n dd sl t) ⟨ho,⟨.ref l,H,I,rfl,q l H (fun _ _ e=>e) hH⟩⟩
 ·refine U6 VR ⟨_,ho,rfl⟩ F.entry_tuple_mul (F.args_tuple_mul_2 _ _) (EM l w n dd sl k t (by omega) h2) ⟨ho,?_⟩
  rw[tF]
  have hz:(2:Nat) ^ 20<=sizeLine:=by decide
  have e:∀m:Nat,Vals (List.replicate m x0) (List.replicate m w):=fun m=>by
   induction m with
   |zero=>exact .nil
   |succ m ih=>rw[Tw,Tw];exact .cons Rm ih
  exact new _ _ (e k.toNat) (by rw[TU];omega) rfl
end
end L2
namespace L3
open PySem L2
section
variable {X:Cx}
def k7:R3:=fun x y S Q=>match x,y with
 | .tup [v],.int k=>0<=k/\k<=2 ^ 20/\Q (.tup (List.replicate k.toNat v)) S
 |_,_=>False
def lC:iO X (binaryOp .Mult) k7:=⟨fun pins s σ H x y v u Q I rx ry ⟨px,py,S,Q3,r1,r2,rS,q,k⟩=>by
 unfold k7 at q
 split at q
 ·cases r2
  cases r1 with
  |tup hq rs=>
   cases rs with
   |cons r0 rn=>
    cases rn
    refine zH pins s σ H _ _ v u Q I rx ry ⟨_,_,_,rfl,rfl,hq,q.1,q.2.1,fun r H' hh hr=>k _ S _ H' q.2.2 (.tup hr ?_) (rS.grow hh) (.same hh)⟩
    have e:∀m:Nat,Reps X.K H (List.replicate m _) (List.replicate m _):=fun m=>by
     induction m with
     |zero=>exact .nil
     |succ m ih=>rw[Tw,Tw];exact .cons r0 ih
    exact(e _).mono (.same hh)
 ·exact q.elim⟩
end
end L3
namespace C
open PySem L2 L3
def iW:bB:=(av (ay [(ay [(c3 (.int 0)),(c3 (.int 1))]),(ah k7 (ay [(c3 (.int 0))]) (al bG [(v3 0)])),(ah k7 (ay [(c3 (.int 0))]) (al bG [(v3 0)]))]))
def ma(MY LL:aw):bB:=(ai (aq 2 (aF (wL (ah ae (v3 0) (c3 (.int 1))) (ah ae (v3 0) (c3 (.int 2))) (ah ae (v3 1) (c3 (.int 2)))) (.tp (.cons (.n 0) (.cons (.n 1) (.cons (.n 2) .nil)))) bH (al jv [(v3 1),(ah ck (v3 2) (v3 0))]) 3 []))
  (av (ay [(ab LL [(ah ae (v3 0) (c3 (.int 0))),(ah ae (v3 1) (c3 (.int 0)))]),(ab MY [(ah ae (v3 0) (c3 (.int 1))),(ah ae (v3 1) (c3 (.int 1)))]),(al aZ [(v3 2)])])))
def cg(JU J8 MZ s0 s1:aw):bB:=(ai (aq 3 (ab JU [(v3 0)]))
  (ai (bz (aE (v3 2)) (.n 4) (aq 3 (ab J8 [(v3 3),(ab MZ [(ab s1 [(v3 0),(ah ae (v3 1) (c3 (.int 1))),(ah ae (v3 4) (c3 (.int 1)))]),(ah ae (v3 4) (c3 (.int 0)))])])))
  (av (v3 3))))
def fO(JU IW J8 Mv Kr s0 s1:aw):bB:=(ai (aq 3 (ah ae (v3 1) (c3 (.int 0))))
  (ai (aq 4 (ab JU [(v3 0)]))
  (ai (bq (aP (ah (br false) (v3 3) (c3 (.str "pay")))) (av (ay [(ah ae (v3 1) (c3 (.int 1))),(ah ae (v3 4) (c3 (.int 1))),(ah ae (v3 4) (c3 (.int 2)))])) aN)
  (ai (bq (aP (ah (br false) (v3 3) (c3 (.str "put")))) (av (ay [(ah ae (v3 4) (c3 (.int 0))),(ab IW [(v3 0),(ah ae (v3 1) (c3 (.int 1))),(ah ae (v3 1) (c3 (.int 2)))]),(ah ae (v3 4) (c3 (.int 2)))])) aN)
  (ai (bq (aP (ah (br false) (v3 3) (c3 (.str "then")))) (av (ab J8 [(ab s1 [(v3 0),(ah ae (v3 1) (c3 (.int 1))),(ah ae (v3 2) (c3 (.int 0)))]),(ab s1 [(v3 0),(ah ae (v3 1) (c3 (.int 2))),(ah ae (v3 2) (c3 (.int 1)))])])) aN)
  (ai (bq (aP (ah (br false) (v3 3) (c3 (.str "often")))) (av (ab s0 [(v3 0),(v3 1),(v3 2)])) aN)
  (ai (bq (aP (ah (k4 true) (v3 3) (ay [(c3 (.str "either")),(c3 (.str "take"))]))) (av (v3 4)) aN)
  (ai (aq 5 (ab s1 [(v3 0),(ab Mv [(v3 1),(v3 2)]),(ah ae (v3 2) (c3 (.int 1)))]))
  (ai (bq (iP (aP (ah (br false) (v3 3) (c3 (.str "take")))) (aP (ah (br false) (ah ae (v3 2) (c3 (.int 0))) (c3 (.int 0))))) (av (ab J8 [(ab Kr [(v3 0),(v3 1)]),(v3 5)])) aN)
  (av (v3 5)))))))))))
end C
namespace Zv
open PySem
open Sem (wp)
end Zv
namespace L2
open PySem PySem.Spec PyProof.Rows
structure M0 (K:Vo) (x:Str) (st:Stmt) (T:Addr) (f:Addr) (fd:FuncData):Prop where
 ex:∃(oc:Value) (od:Option Addr) (kV doc pm:Value) (an:Option Addr) (cdv ct:Value) (osl:Array (Option Value)),
  fd=PySem.W.fnOf x x (b_ st) (bi st) (aG st) (.ref T) kV doc pm an cdv ct/\K.lookup f=some ⟨oc,od,.func fd,osl⟩/\PySem.W.codeIn K cdv x=true
 kp:PySem.W.keepIn K (.ref f)=true
section
variable {P:Program} {w:World} {K:Vo} {mg:Vr} {base:Heap}
def M0.ok{x:Str}{st:Stmt}{T f:Addr}{fd:FuncData}{N ps:Vs}{k:Nat}{sp:Sp}(F:M0 K x st T f fd)(S:dL N ps (aG st))(len:∀vs H Q E,sp vs H Q E->vs.length=ps.length)
  (hbody:∀(cdv:Value) (A:Around) (outer:List Env) (s:Shared) (H:Hp) (vs:List V) (Q:VK) (E:XK),Room k (A.deeper (envOfC x (aG st) s.heap.objs.size f cdv))->sp vs H Q E->
   ∃t,Lp (qe yz P w K mg base N x (aG st) f cdv A outer s H E).Np (bi st) t/\t { nx:=fun _ H'=>Q .non H',rt:=Q } (gy N vs) H):m9 P w K mg base yz (k+1) f fd ps sp:=by
 obtain⟨oc,od,kV,doc,pm,an,cdv,ct,osl,rfl,lk,hcd⟩:=F.ex
 refine AE lk hcd S len fun A outer s H vs Q E hr ML=>?_
 obtain⟨t,h,q⟩:=hbody cdv A outer s H vs Q E hr ML
 exact⟨t,h.Np,q⟩
end
end L2
namespace L3
open PySem L2
section
variable {P:Program} {w:World} {K:Vo} {mg:Vr} {base:Heap}
def Gu{x:Str}{st:Stmt}{T f:Addr}{fd:FuncData}{N ps:Vs}{k:Nat}{t:bB}(F:M0 K x st T f fd)(S:dL N ps (aG st))
  (hbody:∀(cdv:Value) (A:Around) (outer:List Env) (s:Shared) (H:Hp) (E:XK),Room k (A.deeper (PyProof.Rows.envOfC x (aG st) s.heap.objs.size f cdv))->kf (EG P w K mg base N x st f cdv A outer s H E) (bi st) t) :
  MN P w K mg base (k+1) f fd ps (aR N.length t):=
 ⟨F.ok S (fun vs H Q E h=>h.1) fun cdv A outer s H vs Q E hr ⟨hl,ps',S',Q3,E3,rv,rS,q,kk⟩=>⟨_,(hbody cdv A outer s H E hr).ok,ar N.length ps',S',_,n6 rv,rS,q,.no,fun σ3 S2 σ2 H2 h2 _ JD g2=>kk _ S2 _ H2 h2 .non JD g2,kk,fun _ _ _ _ h2=>h2.elim,fun _ _ _ _ h2=>h2.elim⟩⟩
structure Gv (K:Vo) (mg:Vr) (x:Str) (st:Stmt) (ps:Vs) (T:Addr) (f:Addr) (fd:FuncData):Prop where
 F:M0 K x st T f fd
 b:Binds K fd ps []
 d:Binds K fd ps [.bool true]
 k:PySem.W.keepIn K (.ref f)=true
 m:mg x=some (.ref f)
end
section
variable {X:Cx} {e o:Expr} {es:List Expr} {te to:bc} {ts:List bc} {x:Str} {p pos apos cpos:Pos} {k:Nat} {f:Addr} {fd:FuncData} {ps:Vs} {sp:aw}
def kr(sp:aw)(ts:List bc):bc:=fun σ S Q E=>ak ts σ S (fun ps S1=>sp (ps++[.bl true]) S1 Q E) E
def zI(F:MN X.prog X.w X.K X.mg X.base k f fd ps sp)(hr:Room k X.A)(hg:Gl X x)(hm:X.mg x=some (.ref f))(hk:PySem.W.keepIn X.K (.ref f)=true)(hb:Binds X.K fd ps [.bool true])(he:starEach (e::es) X.env=(false,eval e X.env)::starEach es X.env)(ha:kW X (e::es) ts)
  (hl:ts.length+1=ps.length:=by rfl) (hdb:(x == ("__debug__":Str))=false:=by decide) (hpl:(backTo pos (starEach es X.env)).any (·.1)=false:=by rfl):bu X (.Call (.Name x p) (e::es) [] pos) (kr sp ts):=
 ⟨aX (sU (dvs:=[.bl true]) F.ok hr hg hm hk hb (.cons rfl .nil) AH ha.ok hdb he hpl) fun σ H Q ⟨σ3,S,Q3,E3,rσ,rS,h,xo,k⟩=>cz rσ rS h xo fun ps' S' vs H' hl' q rv JN g=>by
  refine⟨by rw[Sn,rv.length,hl'];exact hl,ps'++[.bl true],S',Q3,E3,rv.append (.cons (.bl true) .nil),JN,q,k.mono g⟩⟩
end
end L3
namespace L2
open PySem PySem.Spec PyProof.Rows
noncomputable def jz(its:Vw)(z:Str)(u:Tok)(i:Nat)(_:Option Fin×Unit):Sem (ForInStep (Option Fin×Unit)):=
 match its[i]? with
 |some y=>do
  let __do_lift <-eqBool y (Value.str z u)
  if __do_lift=true then do
   let __do_lift <-retInt (i:Int)
   pure (ForInStep.done (some __do_lift,()))
  else pure (ForInStep.yield (none,()))
 |_=>pure (ForInStep.yield (none,()))
theorem qz{prog:Program}{w:World}{A:Around}{E:Vq}{z:Str}{u:Tok}{its:Vw}{k:Nat}{Q:Option Fin×Unit->Shared->Prop}(hk:∃t,its[k]?=some (.str z t)) :
  ∀(m i:Nat) (s:Shared),i+m=its.size->i<=k->(∀j v,i<=j->j < k->its[j]?=some v->∃a t,v = .str a t/\a≠z)->(∀tk,Q (some (.done (.ret (.int k tk))),()) { s with toks:=s.toks+1 })->
  wpAny (model prog w) A (forIn (List.range' i m 1) ((none,()):Option Fin×Unit) (jz its z u)) Q E s
 |0,i,s,hm,hi,h,q=>by
  obtain⟨t,hk⟩:=hk
  have:=(Array.getElem?_eq_some_iff.mp hk).1
  omega
 |m+1,i,s,hm,hi,h,q=>by
  rw[List.range'_succ,V2]
  have hlt:i < its.size:=by omega
  by_cases e:i=k
  ·subst e
   obtain⟨t,hk⟩:=hk
   refine Sl ?_
   unfold jz
   rw[hk]
   refine Sl (wpAny_eqBool_str ?_)
   rw[Tp rfl,if_pos rfl]
   exact Sl (Sl (wpAny_mkInt (Sx (Sx (Sx (q _))))))
  ·have hv:=VT hlt
   obtain⟨a,t,ea,ne⟩:=h i _ (Ss _) (by omega) hv
   refine Sl ?_
   have eb:jz its z u i (none,())=(do let __do_lift <-eqBool (Value.str a t) (Value.str z u);if __do_lift=true then do { let __do_lift <-retInt (i:Int);pure (ForInStep.done (some __do_lift,())) } else pure (ForInStep.yield (none,()))):=by
    unfold jz
    rw[hv,ea]
   rw[eb]
   refine Sl (wpAny_eqBool_str ?_)
   rw[Tc ne,if_neg (by decide)]
   exact Sx (qz hk m (i+1) s (by omega) (by omega) (fun j v h1 h2=>h j v (by omega) h2) q)
def Cw(l:Addr)(its:Vw)(n:Nat)(dd:Option Addr)(sl:Array (Option Value))(z:Str)(u:Tok)(k:Nat)(hk:∃t,its[k]?=some (.str z t))(h:∀j v,j < k->its[j]?=some v->∃a t,v = .str a t/\a≠z) :
  Meets (Builtin.«tuple.index» ⟨[.ref l,.str z u],[]⟩) (fun _ R s=>s.heap.get? l=some { cls:=.type "tuple",dict:=dd,data:=.seq its n,slots:=sl }/\∀tk,R (.ok (.ret (.int k tk))) { s with toks:=s.toks+1 }):=
 .of_wp fun prog w A R s hh=>by
  obtain⟨hp,g,d,tk,os⟩:=s;obtain⟨hl,q⟩:=hh
  wp_walk using TZ hl
  show wpAny _ _ (forIn (⟨0,min its.size its.size,1,Nat.one_pos⟩:Std.Legacy.Range) ((none,()):Option Fin×Unit) (jz its z u)) _ _ _
  rw[Std.Legacy.Range.forIn_eq_forIn_range']
  have e:Std.Legacy.Range.size ⟨0,min its.size its.size,1,Nat.one_pos⟩=its.size:=by unfold Std.Legacy.Range.size;simp
  rw[e]
  exact qz hk its.size 0 _ (by omega) (Tr _) (fun j v _ hj hv=>h j v hj hv) fun tk'=>Sx ⟨_,rfl,q tk'⟩
section
variable {X:Cx}
noncomputable def zJ(K:Vo):V->List V->Hp->VK->Prop:=fun x vs H Q=>∃(l:Addr) (zs:Vs) (z:Str) (k:Nat),x = .ref l/\vs=[.str z]/\SqT K H l (zs.map V.str)/\zs[k]?=some z/\(∀j:Nat,j < k->zs[j]?≠some z)/\Q (.int k) H
def uK:BO X "tuple.index" (zJ X.K):=by
 intro pins s σ H x vs v us Q I rx rv h
 obtain⟨l,zs,z,k,rfl,rfl,hT,hk,hf,q⟩:=h
 cases rx
 obtain⟨w,rfl,u,rfl⟩:=dR rv
 obtain⟨its,r1,p1,_⟩:=I.tuple hT
 obtain⟨⟨cls,dd,data,sl⟩,ho,hc,n,hd⟩:=id p1
 simp only at hc hd
 subst hc hd
 refine U6 Vn ⟨_,ho,rfl⟩ PySem.F.entry_tuple_index (PySem.F.args_tuple_index_2 _ _) (Cw l its.toArray n dd sl z u k ?_ ?_) ⟨ho,fun tk=>⟨.int k,H,I.tok _,⟨_,rfl⟩,q⟩⟩
 ·obtain⟨v,hv,t,rfl⟩:=r1.get (i:=k) (x:=.str z) (by rw[SA,hk];rfl)
  exact⟨t,by simpa using hv⟩
 ·intro j v hj hv
  have hjl:j < its.length:=by simpa using(Array.getElem?_eq_some_iff.mp hv).1
  have hl:=r1.length
  rw[Sm]at hl
  obtain⟨v',hv',t,rfl⟩:=r1.get (i:=j) (x:=.str (zs[j]'(by omega))) (by rw[SA,SR (by omega)];rfl)
  have e:v = .str (zs[j]'(by omega)) t:=by
   have h1:its[j]?=some v:=by simpa using hv
   rw[hv']at h1;cases h1;rfl
  exact⟨_,t,e,fun h=>hf j hj (by rw[SR (by omega),h])⟩
def zK{pins:Va}{σ:St}{H:Hp}{s:Shared}{a:Addr}{xs:List V}(I:Inv X pins σ H s)(h:SqT X.K H a xs):s.TypeIs (.ref a) "tuple"/\∀b,Value.ref a = .ref b->∃ob,s.heap.get? b=some ob/\ob.dict=none:=by
 rcases h with h|⟨o,its,n,hk,hc,hd,_⟩
 ·obtain⟨z,its,r,o,e,hd,hc,_⟩:=h.ok I.hok
  exact⟨⟨o,e,hc⟩,fun b q=>by cases q;exact⟨o,e,hd⟩⟩
 ·exact⟨⟨o,I.Mp a o hk,hc⟩,fun b q=>by cases q;exact⟨o,I.Mp _ o hk,hd⟩⟩
variable {o e:Expr} {es:List Expr} {to:TE} {t:TA} {name:Str} {apos cpos:Pos} {id:String} {r:V->List V->Hp->VK->Prop}
def Gw(K:Vo)(r:V->List V->Hp->VK->Prop)(to:TE)(t:TA):TE:=fun σ H Q=>to σ H fun x H1=>(∃a xs,x = .ref a/\SqT K H1 a xs)/\t σ H1 fun xs H2=>r x xs H2 Q
def Cy(pa:PlainAttrs "tuple")(slot:Slot "tuple" name id)(hty:typeOf (.builtin id)=pure (.type "method_descriptor"))(hm:BO X id r)(ho:PE X o to)(ha:PA X (e::es) t)
  (hbase:attributeBase o name X.env (eval o X.env)=eval o X.env:=by rfl)
  (hfew:((backTo cpos (starEach (e::es) X.env)).all (fun x=>!x.1)&&(backToKw cpos (keywordEach [] X.env)).all (fun x=>x.1.isSome)
   && decide ((e::es).length+([]:List Keyword).length+(if ([]:List Keyword).isEmpty then 0 else 1) < 30))=true:=by rfl)
  (hline:(apos.endLine == cpos.line)=true:=by rfl) (hs:starEach (e::es) X.env=(false,eval e X.env)::starEach es X.env:=by rfl) (hplain:(backTo cpos (starEach es X.env)).any (·.1)=false:=by rfl) :
  PE X (.Call (.Attribute o name apos) (e::es) [] cpos) (Gw X.K r to t):=by
 intro pins s σ H Q I h
 refine wpAny_Call_method_late hbase hfew hline rfl (Hj (ho pins s σ H _ I h) fun v s1 ⟨x,H1,I1,r1,⟨a,xs,ex,hT⟩,q1⟩=>?_)
 subst ex
 have r1':=r1
 cases r1
 obtain⟨h1,h2⟩:=zK I1 hT
 refine⟨"tuple",id,pa,slot,hty,h1,h2,?_⟩
 have hA:=ha cpos pins s1 σ H1 _ I1 q1
 rw[hs]at hA ⊢
 refine VC (by show(false || (backTo cpos (starEach es X.env)).any (·.1))=false;rw[hplain]<;>rfl) (Ww ?_)
 exact Hj hA fun us s2 ⟨vs,H2,I2,r2,q2⟩=>hm pins s2 σ H2 _ vs _ us Q I2 r1' r2 q2
end
end L2
namespace L3
open PySem L2
section
variable {X:Cx}
noncomputable def iX:List PV->Option (List Str)
 |[]=>some []
 | .str z::r=>(iX r).map (z::·)
 |_::_=>none
theorem iY:∀zs:List Str,iX (zs.map PV.str)=some zs
 |[]=>rfl
 |z::r=>by show(iX (r.map PV.str)).map (z::·)=_;rw[iY r];rfl
theorem og:∀{ps:List PV} {zs:Vs},iX ps=some zs->ps=zs.map PV.str
 |[],zs,h=>by cases h;rfl
 | .str z::r,zs,h=>by
  unfold iX at h
  cases e:iX r with
  |none=>rw[e]at h;cases h
  |some ws=>rw[e]at h;cases h;rw[og e];rfl
def eB:si:=fun x ps S Q=>match x,ps with
 | .tup xs,[.str z]=>(match iX xs with|some zs=>∃k:Nat,zs[k]?=some z/\(∀j:Nat,j < k->zs[j]?≠some z)/\Q (.int k) S|none=>False)
 |_,_=>False
theorem oh{K:Vo}{H:Hp}:∀{vs:List V} {zs:Vs},Reps K H vs (zs.map PV.str)->vs=zs.map V.str
 |[],[],_=>rfl
 |v::vs,z::zs,.cons a r=>by cases a;rw[oh r];rfl
def md:vp X "tuple.index" eB:=⟨fun pins s σ H x xs v us Q I rx rs ⟨px,ps,S,Q3,r1,rp,rS,q,k⟩=>by
 unfold eB at q
 split at q
 ·split at q
  ·rename_i e
   obtain⟨j,hk,hf,q⟩:=q
   cases r1 with
   |tup hq rs'=>
    rw[og e]at rs'
    have ev:=oh rs'
    subst ev
    cases rp with
    |cons b rr=>
     cases rr;cases b
     exact uK pins s σ H _ _ v us Q I rx rs ⟨_,_,_,j,rfl,rfl,hq,hk,hf,k _ S _ H q (.int _) rS .refl⟩
  ·exact q.elim
 ·exact q.elim⟩
variable {o e:Expr} {es:List Expr} {to:bc} {ts:List bc} {name:Str} {apos cpos:Pos} {id:String}
def sk(r:si)(to:bc)(ts:List bc):bc:=fun σ S Q E=>to σ S (fun x S1=>match x with | .tup _=>ak ts σ S1 (fun ps S2=>r x ps S2 Q) E|_=>False) E
def wM{r:si}(pa:PlainAttrs "tuple")(slot:Slot "tuple" name id)(hty:typeOf (.builtin id)=pure (.type "method_descriptor"))(hm:vp X id r)(hs:starEach (e::es) X.env=(false,eval e X.env)::starEach es X.env)(ho:bu X o to)(ha:kW X (e::es) ts)
  (hbase:attributeBase o name X.env (eval o X.env)=eval o X.env:=by rfl)
  (hfew:((backTo cpos (starEach (e::es) X.env)).all (fun x=>!x.1)&&(backToKw cpos (keywordEach [] X.env)).all (fun x=>x.1.isSome)
   && decide ((e::es).length+([]:List Keyword).length+(if ([]:List Keyword).isEmpty then 0 else 1) < 30))=true:=by rfl)
  (hline:(apos.endLine == cpos.line)=true:=by rfl) (hplain:(backTo cpos (starEach es X.env)).any (·.1)=false:=by rfl):bu X (.Call (.Attribute o name apos) (e::es) [] cpos) (sk r to ts):=
 ⟨aX (Cy pa slot hty hm.ok ho.ok ha.ok hbase hfew hline hs hplain) fun σ H Q ⟨σ3,S,Q3,E3,rσ,rS,h,xo,k⟩=>⟨σ3,S,_,E3,rσ,rS,h,xo,fun x S1 v H1 h1 rx Ht g1=>by
  split at h1
  ·have Ps:=rx
   cases rx with
   |tup hq rs=>exact⟨⟨_,_,rfl,hq⟩,cz (rσ.mono g1) Ht h1 (xo.mono g1) fun ps S2 vs H2 hl q rv JD g2=>⟨_,ps,S2,Q3,Ps.mono g2,rv,JD,q,k.mono (g1.trans g2)⟩⟩
  ·exact h1.elim⟩⟩
end
section
variable {X:Cx} {a b:Expr} {ta tb:bc} {p pos:Pos}
def gB(ta tb:bc):uF:=fun σ S R E=>ta σ S (fun v S1=>tb σ S1 (fun w S2=>match v,w with
 | .tup xs,.tup ys=>R ⟨bh xs ys,fun _=>True⟩ S2
 | .ref a,.ref b=>(match S2 a,S2 b with|some (.lst xs),some (.lst ys)=>R ⟨bh xs ys,fun S'=>S' a=some (.lst xs)/\S' b=some (.lst ys)⟩ S2|_,_=>False)
 | .ref a,.tup ys=>(match S2 a with|some (.lst xs)=>R ⟨bh xs ys,fun S'=>S' a=some (.lst xs)⟩ S2|_=>False)
 | .tup xs,.ref b=>(match S2 b with|some (.lst ys)=>R ⟨bh xs ys,fun S'=>S' b=some (.lst ys)⟩ S2|_=>False)
 |_,_=>False) E) E
def me{elts:List Expr}{k0:Nat}{IY:Pos}(hs:starEach [a,b] X.env=[(false,eval a X.env),(false,eval b X.env)])(hs2:starEach [b] X.env=[(false,eval b X.env)])(hg:Gl X "zip")(hm:X.mg "zip" = none)(hv:bootBuiltins "zip" = some (.type "zip"))(ha:kW X [a,b] [ta,tb]) :
  wE X (.Tuple elts k0 IY) (.Call (.Name "zip" p) [a,b] [] pos) (gB ta tb):=
 ⟨ki (v7 hg hm hv ha.ok hs hs2) fun σ H R ⟨σ3,S,R3,E3,rσ,rS,h,xo,k⟩=>⟨σ3,S,_,E3,rσ,rS,h,xo,fun v S1 v' H1 h1 rv Ht g1=>⟨σ3,S1,_,E3,rσ.mono g1,Ht,h1,xo.mono g1,fun w S2 w' H2 h2 rw' JD g2=>by
  have L:∀{a:Addr} {xs:List PV},S2 a=some (.lst xs)->∃vs,lP true X.K H2 a vs:=fun e=>let ⟨_,h,_⟩:=JD _ _ e;⟨_,SqL.of h⟩
  split at h2
  ·cases rv with
   |tup hq rs=>
    cases rw' with
    |tup hq2 NA=>exact⟨false,false,_,_,rfl,⟨_,g2.t _ _ hq⟩,⟨_,hq2⟩,k _ S2 _ H2 h2 (jx (.tup (g2.t _ _ hq) (rs.mono g2)) (.tup hq2 NA)) JD (g1.trans g2)⟩
  ·cases rv
   cases rw'
   split at h2
   ·rename_i ea eb
    exact⟨true,true,_,_,rfl,L ea,L eb,k _ S2 _ H2 h2 (jx (.lst fun _ q=>q.1) (.lst fun _ q=>q.2)) JD (g1.trans g2)⟩
   ·exact h2.elim
  ·cases rv
   cases rw' with
   |tup hq2 NA=>
    split at h2
    ·rename_i ea
     exact⟨true,false,_,_,rfl,L ea,⟨_,hq2⟩,k _ S2 _ H2 h2 (jx (.lst fun _ q=>q) (.tup hq2 NA)) JD (g1.trans g2)⟩
    ·exact h2.elim
  ·cases rv with
   |tup hq rs=>
    cases rw'
    split at h2
    ·rename_i eb
     exact⟨false,true,_,_,rfl,⟨_,g2.t _ _ hq⟩,L eb,k _ S2 _ H2 h2 (jx (.tup (g2.t _ _ hq) (rs.mono g2)) (.lst fun _ q=>q)) JD (g1.trans g2)⟩
    ·exact h2.elim
  ·exact h2.elim⟩⟩⟩
end
end L3
namespace C
open PySem L2 L3
def dF(JS s0:aw):bB:=(ai (aq 3 (bx [(ay [(v3 0),(v3 2)])]))
  (ai (bz (dU (ab JS [(v3 0)])) (.tp (.cons (.n 4) (.cons (.n 5) .nil))) (ai (aq 6 (cH (ah (br false) (ah ae (v3 0) (c3 (.int 0))) (c3 (.str "take"))) (cH (ah (br false) (v3 4) (c3 (.int 0))) (ah (k4 true) (ah ae (v3 0) (c3 (.int 1))) (v3 1)))))
  (aW (eR "list" bE (v3 3) [(ab s0 [(v3 5),(v3 1),(cH (v3 2) (nW (v3 6)))])]))))
  (av (v3 3))))
def gX(Iu KK:aw):bB:=(ai (bz (dU (ah ae (v3 0) (c3 (.int 1)))) (.tp (.cons (.n 2) (.cons (.n 3) .nil))) (bz (dU (kr Iu [(ah ae (v3 3) (c3 (.int 1))),(v3 1)])) (.tp (.cons (.n 4) (.cons (.n 5) .nil))) (ai (aq 6 (ah ae (v3 5) (c3 (.int 0))))
  (bq (iP (aP (ah ae (v3 5) (c3 (.int 1)))) (iP (aP (ah (br false) (ah ae (v3 6) (c3 (.int 0))) (c3 (.str "put")))) (aP (ah (k4 true) (ah ae (v3 6) (c3 (.int 1))) (v3 1))))) (av (ay [(sk eB (ah ae (v3 0) (c3 (.int 0))) [(ah ae (v3 6) (c3 (.int 1)))]),(v3 2),(ab KK [(ah ae (v3 3) (c3 (.int 1))),(v3 4),(ay [])])])) aN))))
  (av (c3 .non)))
def ku(Kp:aw):bB:=(ai (aq 1 (bx []))
  (ai (aq 2 (bx []))
  (ai (aq 3 (ab Kp [(v3 0),(v3 2)]))
  (ai (iR (aP (ah (qp true) (v3 3) (c3 .non))) (ai (aW (eR "list" bf (v3 1) [(v3 3)]))
  (ai (aW (eR "list" bf (v3 2) [(ah ae (ah ae (v3 0) (c3 (.int 0))) (ah ae (v3 3) (c3 (.int 0))))]))
  (aq 3 (ab Kp [(v3 0),(v3 2)])))))
  (av (v3 1))))))
def iZ(Mi:aw):bB:=(av (aF (aE (ab Mi [(v3 0)])) (.n 0) bH (ah ae (ah ae (v3 1) (c3 (.int 0))) (ah ae (v3 0) (c3 (.int 0)))) 1 [0]))
def ci(s0 s1:aw):bB:=(ai (aq 2 (bx []))
  (ai (aq 3 (ab s1 [(ah ae (v3 0) (c3 (.int 2))),(v3 1)]))
  (ai (bz (aE (ab s1 [(ah ae (v3 0) (c3 (.int 1))),(v3 1)])) (.n 4) (aW (eR "list" bE (v3 2) [(aF (aE (v3 3)) (.n 0) bH (ay [(v3 1),(v3 0)]) 1 [4])])))
  (av (v3 2)))))
def eC(s0 s1:aw):bB:=(ai (bq (aP (ah (br false) (ah ae (v3 0) (c3 (.int 0))) (c3 (.str "then")))) (av (ab s0 [(v3 0),(v3 1)])) aN)
  (ai (bq (aP (ah (k4 true) (ah ae (v3 0) (c3 (.int 0))) (ay [(c3 (.str "either")),(c3 (.str "take"))]))) (av (bx [(ay [])])) aN)
  (ai (aq 2 (aF (aE (ab s1 [(ah ae (v3 0) (gH bY (c3 (.int 1)))),(v3 1)])) (.n 0) bH (ay [(c3 (.int 1)),(v3 0)]) 1 []))
  (ai (bq (iP (aP (ah (br false) (ah ae (v3 0) (c3 (.int 0))) (c3 (.str "take")))) (aP (ah (k4 true) (ah ae (v3 0) (c3 (.int 1))) (v3 1)))) (av (v3 2)) aN)
  (av (ah aU (aF (aE (ab s1 [(ah ae (v3 0) (gH bY (c3 (.int 2)))),(v3 1)])) (.n 0) bH (ay [(c3 (.int 0)),(v3 0)]) 1 []) (v3 2)))))))
def cX(Iu:aw):bB:=(ai (aq 2 (aF (aE (kr Iu [(v3 0),(v3 1)])) (.n 0) (aP (ah (br false) (ah ae (ah ae (v3 0) (c3 (.int 0))) (c3 (.int 0))) (c3 (.str "often")))) (v3 0) 1 []))
  (av (aF (dU (v3 2)) (.tp (.cons (.n 0) (.cons (.n 1) .nil))) (aP (ah ae (v3 1) (c3 (.int 1)))) (ay [(v3 0),(ah ae (ah ae (v3 1) (c3 (.int 0))) (c3 (.int 1)))]) 2 [])))
end C
namespace L3
open PySem L2 Xc
end L3
namespace L3
open PySem L2
end L3
namespace L2
open PySem PySem.Spec PyProof.Rows Xc
end L2
namespace L3
open PySem L2 Xc
section
variable {P:Program} {w:World} {K:Vo} {mg:Vr} {base:Heap}
structure aY (K:Vo) (mg:Vr) (x:Str) (st:Stmt) (ps:Vs):Prop where
 ex:∃f fd,FG K mg x st ps f fd
structure Hv (P:Program) (w:World) (K:Vo) (mg:Vr) (base:Heap) (k:Nat) (x:Str) (n:Nat) (sp:aw):Prop where
 ex:∃f fd ps,ps.length=n/\MN P w K mg base k f fd ps sp/\mg x=some (.ref f)/\PySem.W.keepIn K (.ref f)=true/\Binds K fd ps []
def cQ{x:Str}{st:Stmt}{ps:Vs}{k n:Nat}{t:bB}{sp:aw}(N:Vs)(O:aY K mg x st ps)
  (hbody:∀(f:Addr) (cdv:Value) (A:Around) (outer:List Env) (s:Shared) (H:Hp) (E:XK),Room k (A.deeper (PyProof.Rows.envOfC x (aG st) s.heap.objs.size f cdv))->N.Nodup->kf (EG P w K mg base N x st f cdv A outer s H E) (bi st) t) (e:sp=aR N.length t)
  (hn:ps.length=n:=by rfl) (S:dL N ps (aG st):=by exact⟨rfl,rfl,rfl,by decide +kernel,rfl,by decide +kernel,by decide +kernel⟩):Hv P w K mg base (k+1) x n sp:=by
 subst e
 obtain⟨f,fd,o⟩:=O.ex
 exact⟨f,fd,ps,hn,GM o.F S fun cdv A outer s H E hr=>hbody f cdv A outer s H E hr S.nd,o.m,o.k,o.b⟩
def G5{x:Str}{st:Stmt}{ps:Vs}{k:Nat}{t:bB}{sp:aw}{f:Addr}{fd:FuncData}(N:Vs)(o:FG K mg x st ps f fd)
  (hbody:∀(f:Addr) (cdv:Value) (A:Around) (outer:List Env) (s:Shared) (H:Hp) (E:XK),Room k (A.deeper (PyProof.Rows.envOfC x (aG st) s.heap.objs.size f cdv))->N.Nodup->kf (EG P w K mg base N x st f cdv A outer s H E) (bi st) t) (e:sp=aR N.length t)
  (S:dL N ps (aG st):=by exact⟨rfl,rfl,rfl,by decide +kernel,rfl,by decide +kernel,by decide +kernel⟩):MN P w K mg base (k+1) f fd ps sp:=by
 subst e
 exact GM o.F S fun cdv A outer s H E hr=>hbody f cdv A outer s H E hr S.nd
def o8:aw:=fun _ _ _ _=>False
theorem Hv.zero{x:Str}{st:Stmt}{ps:Vs}{k n:Nat}(O:aY K mg x st ps)(hn:ps.length=n:=by rfl):Hv P w K mg base k x n o8:=by
 obtain⟨f,fd,o⟩:=O.ex
 exact⟨f,fd,ps,hn,.zero rfl,o.m,o.k,o.b⟩
theorem mf{b n:Nat}{x:Str}{st:Stmt}{ps:Vs}{r:Nat->aw}(O:aY K mg x st ps)(h:∀j,Hv P w K mg base (b+j) x n (r j)->Hv P w K mg base (b+j+1) x n (r (j+1)))(h0:r 0=o8)(hn:ps.length=n:=by rfl):∀j,Hv P w K mg base (b+j) x n (r j)
 |0=>by rw[h0];exact .zero O hn
 |j+1=>h j (mf O h h0 hn j)
end
section
variable {X:Cx} {a b e o:Expr} {es:List Expr} {ta tb te to:bc} {ts:List bc} {x c m f:Str} {p pos apos cpos:Pos} {j k n:Nat} {sp:aw}
def c4(O:Hv X.prog X.w X.K X.mg X.base k x n sp)(hr:Room j X.A)(ha:kW X (e::es) ts)(hj:k<=j:=by omega)(hl:ts.length=n:=by rfl)(hg:Gl X x:=by rfl)(he:starEach (e::es) X.env=(false,eval e X.env)::starEach es X.env:=by rfl)(hdb:(x == ("__debug__":Str))=false:=by decide)(hpl:(backTo pos (starEach es X.env)).any (·.1)=false:=by rfl) :
  bu X (.Call (.Name x p) (e::es) [] pos) (ab sp ts):=by
 obtain⟨f,fd,ps,hn,F,h1,h2,h3⟩:=O.ex
 exact wG F (hr.mono hj) hg h1 h2 h3 he ha (hl.trans hn.symm) hdb hpl
def cB{id:String}{r:qr}(hc:fk X (.builtin id) r)(hm:X.mg x=none)(ha:kW X (e::es) ts)(hg:Gl X x:=by rfl)(hv:bootBuiltins x=some (.builtin id):=by decide +kernel)(he:starEach (e::es) X.env=(false,eval e X.env)::starEach es X.env:=by rfl)
  (hnn:x ≠ "__name__":=by decide) (hdb:(x == ("__debug__":Str))=false:=by decide) (hpl:(backTo pos (starEach es X.env)).any (·.1)=false:=by rfl):bu X (.Call (.Name x p) (e::es) [] pos) (al r ts):=zt hc hg hm hv he ha hnn hdb hpl
def cT{id:String}{r:qr}(hc:fk X (.type id) r)(hm:X.mg x=none)(ha:kW X (e::es) ts)(hg:Gl X x:=by rfl)(hv:bootBuiltins x=some (.type id):=by decide +kernel)(he:starEach (e::es) X.env=(false,eval e X.env)::starEach es X.env:=by rfl)
  (hnn:x ≠ "__name__":=by decide) (hdb:(x == ("__debug__":Str))=false:=by decide) (hpl:(backTo pos (starEach es X.env)).any (·.1)=false:=by rfl):bu X (.Call (.Name x p) (e::es) [] pos) (al r ts):=zu hc hg hm hv he ha hnn hdb hpl
def lc{r:List Expr}(ha:bu X a ta)(hr:kW X r ts)(hs:starEach (a::r) X.env=(false,eval a X.env)::starEach r X.env:=by rfl):kW X (a::r) (ta::ts):=wk hs ha hr
def l1(ha:bu X a ta)(hs:starEach [a] X.env=(false,eval a X.env)::starEach [] X.env:=by rfl):kW X [a] [ta]:=wk hs ha cG
def aH{i:Int}{q:Nat}{p2:Pos}(hr:Room j X.A)(ha:bu X a ta)(hs:lz (.Constant (.int i) q p2):=by exact fun _ _=>rfl):bu X (.Subscript a (.Constant (.int i) q p2) pos) (ah ae ta (c3 (.int i))):=Ey (GL (tE hr)) ha af hs
def gC(hr:Room j X.A)(ha:bu X a ta)(hb:bu X b tb)(hs:lz b:=by exact fun _ _=>rfl):bu X (.Subscript a b pos) (ah ae ta tb):=Ey (GL (tE hr)) ha hb hs
def fB(hr:Room j X.A)(ha:bu X a ta)(hb:bu X b tb):rZ X (.Compare a [.Eq] [b] pos) (aP (ah (br false) ta tb)):=bv (kY (iG hr)) ha hb (aV _)
def DB(hr:Room j X.A)(ha:bu X a ta)(hb:bu X b tb):rZ X (.Compare a [.NotEq] [b] pos) (aP (ah (br true) ta tb)):=bv (AK (iG hr)) ha hb (aV _)
def s4(i:Nat){pos':Pos}(nd:X.N.Nodup)(he:bu X e te)(hi:X.N[i]?=some x:=by rfl)(hx:AB X.env.scope x:=by first|exact Or.inl rfl|exact Or.inr rfl)(hs:swapsWith e (some (.Name x pos')) pos.line X.env=pure false:=by rfl)
  (hf:X.fn x=true\/X.env.scope.names.lookup x=some .local:=by first|exact .inl rfl|exact .inr rfl|assumption):s_ X (.Assign [.Name x pos'] e pos) (aq i te):=EE nd hi hx he hs hf
def gn(i:Nat)(nd:X.N.Nodup)(hi:X.N[i]?=some x:=by rfl)(hx:AB X.env.scope x:=by first|exact Or.inl rfl|exact Or.inr rfl)(hf:X.fn x=true\/X.env.scope.names.lookup x=some .local:=by first|exact .inl rfl|exact .inr rfl|assumption):zz X (.Name x pos) (.n i):=G1 i nd hi hx hf
def G6{px:Pos}{kvs:List (bI×Int)}{g:Expr}{tg:bc}(hr:Room j X.A)(hD:∃a,X.mg x=some (.ref a)/\KD X.prog X.w X.K a (kvs.map fun kv=>(kv.1,V.int kv.2)))(he:bu X e te)(hf:bu X g tg)(hg:Gl X x:=by rfl)(m:M2 X (.Name x px) "get" apos e g cpos:=by exact⟨rfl,rfl,rfl,rfl⟩)
  (hd:(x == ("__debug__":Str))=false:=by decide):bu X (.Call (.Attribute (.Name x px) "get" apos) [e,g] [] cpos) (tD kvs te tg):=let ⟨_,h1,h2⟩:=hD;Cs (tE hr) hg h1 h2 he hf m hd
end
structure AO (T:String) (name:Str) (id:String):Prop where
 pa:PlainAttrs T
 slot:Slot T name id
 ty:typeOf (.builtin id)=pure (.type "method_descriptor")
section
variable {X:Cx} {e o:Expr} {es:List Expr} {to:bc} {ts:List bc} {name:Str} {T id:String} {p pos apos cpos:Pos} {r:si}
def cj:AO "list" "append" "list.append":=⟨Vt,PySem.F.slot_list_append,PySem.F.type_list_append⟩
def ft:AO "list" "extend" "list.extend":=⟨Vt,PySem.F.slot_list_extend,PySem.F.type_list_extend⟩
def uL:AO "list" "insert" "list.insert":=⟨Vt,PySem.F.slot_list_insert,PySem.F.type_list_insert⟩
def wN:AO "list" "pop" "list.pop":=⟨Vt,PySem.F.slot_list_pop,PySem.F.type_list_pop⟩
def tG:AO "str" "join" "str.join":=⟨PySem.F.plainAttrs_str,PySem.F.slot_str_join,PySem.F.type_str_join⟩
def wO:AO "str" "index" "str.index":=⟨PySem.F.plainAttrs_str,PySem.F.slot_str_index,PySem.F.type_str_index⟩
def o9(k:AO T name id)(hm:vp X id r)(ho:bu X o to)(ha:kW X (e::es) ts)(hs:starEach (e::es) X.env=(false,eval e X.env)::starEach es X.env:=by rfl)
  (hbase:attributeBase o name X.env (eval o X.env)=eval o X.env:=by rfl)
  (hfew:((backTo cpos (starEach (e::es) X.env)).all (fun x=>!x.1)&&(backToKw cpos (keywordEach [] X.env)).all (fun x=>x.1.isSome)
   && decide ((e::es).length+([]:List Keyword).length+(if ([]:List Keyword).isEmpty then 0 else 1) < 30))=true:=by rfl)
  (hline:(apos.endLine == cpos.line)=true:=by rfl) (hplain:(backTo cpos (starEach es X.env)).any (·.1)=false:=by rfl):bu X (.Call (.Attribute o name apos) (e::es) [] cpos) (eR T r to ts):=Gk k.pa k.slot k.ty hm hs ho ha hbase hfew hline hplain
def Gx(k:AO T name id)(hm:vp X id r)(ho:bu X o to)
  (hbase:attributeBase o name X.env (eval o X.env)=eval o X.env:=by rfl) (hline:(apos.endLine == cpos.line)=true:=by rfl):bu X (.Call (.Attribute o name apos) [] [] cpos) (eR T r to []):=ED k.pa k.slot k.ty hm ho hbase hline
end
section
variable {X:Cx} {tg iter elt:Expr} {ifs:List Expr} {scope:Scope} {pos:Pos} {ti:uF} {g:Tg} {tc:kU} {te:bc}
def m5(fs:Vs)(own:Nat)(fr:List Nat)(N:Vs)(hi:wE X tg iter ti)(hg:∀B,zz (X.JJ N scope fs B) tg g)(hf:∀B,DA (X.JJ N scope fs B) ifs tc)(he:∀B,bu (X.JJ N scope fs B) elt te)
  (MW:g.under own=true:=by rfl) (hc:X.calm=true:=by rfl) (hclos:closureFor scope X.env=pure (cU X.env fs):=by rfl) (hcell:∀y∈scope.names,y.2 ≠ .cell:=by decide +kernel) (hkind:scope.kind = .function:=by rfl)
  (hnames:∀x∈scope.names,x.2 = .local->scope.names.lookup x.1=some .local:=by decide +kernel) (hcl:cE X.env fs:=by repeat' first|exact trivial|exact⟨_,rfl⟩|constructor) (hhas:oG (relabel scope X.env).names (cU X.env fs)=true:=by rfl)
  (hlen:N.length=own+fr.length:=by rfl) (hN:(N.drop own).map some=fr.map (fun j=>X.N[j]?):=by rfl) (hF:Ir X.env scope (cU X.env fs) (N.drop own):=by repeat' first|exact trivial|exact .inl rfl|exact .inr rfl|exact rfl|apply And.intro)
  (hs:∀x,foldedSetIterable iter X.env x=pure x:=by intro _;rfl):bu X (.ListComp elt [⟨tg,iter,ifs,0⟩] scope pos) (aF ti g tc te own fr):=Co fs own fr N MW hc hclos hcell hkind hnames hcl hhas hlen hN hF hi hg hf he hs
def AQ(fs:Vs)(own:Nat)(fr:List Nat)(N:Vs)(i:Nat){y:Str}{py spos:Pos}(hX:X.N.Nodup)(hi:wE X tg iter ti)(hg:∀B,zz (X.JJ N scope fs B) tg g)(hf:∀B,DA (X.JJ N scope fs B) ifs tc)(he:∀B,bu (X.JJ N scope fs B) elt te)
  (hix:X.N[i]?=some y:=by rfl) (hy:X.env.scope.names.lookup y=some .local:=by rfl) (hsw:swapsWith (.ListComp elt [⟨tg,iter,ifs,0⟩] scope pos) (some (.Name y py)) spos.line X.env=pure true:=by rfl)
  (MW:g.under own=true:=by rfl) (hc:X.calm=true:=by rfl) (hclos:closureFor scope X.env=pure (cU X.env fs):=by rfl) (hcell:∀y∈scope.names,y.2 ≠ .cell:=by decide +kernel) (hkind:scope.kind = .function:=by rfl)
  (hnames:∀x∈scope.names,x.2 = .local->scope.names.lookup x.1=some .local:=by decide +kernel) (hcl:cE X.env fs:=by repeat' first|exact trivial|exact⟨_,rfl⟩|constructor) (hhas:oG (relabel scope X.env).names (cU X.env fs)=true:=by rfl)
  (hlen:N.length=own+fr.length:=by rfl) (hN:(N.drop own).map some=fr.map (fun j=>X.N[j]?):=by rfl) (hF:Ir X.env scope (cU X.env fs) (N.drop own):=by repeat' first|exact trivial|exact .inl rfl|exact .inr rfl|exact rfl|apply And.intro)
  (hs:∀x,foldedSetIterable iter X.env x=pure x:=by intro _;rfl):s_ X (.Assign [.Name y py] (.ListComp elt [⟨tg,iter,ifs,0⟩] scope pos) spos) (aq i (aF ti g tc te own fr)):=Cp fs own fr N hX hix hy hsw MW hc hclos hcell hkind hnames hcl hhas hlen hN hF hi hg hf he hs
end
section
variable {X:Cx} {e:Expr} {es:List Expr} {ts:List bc} {x:Str} {p pos cpos:Pos} {ks:Vs} {j:Nat}
def DC{n:String}(hm:X.mg x=none)(hg:Gl X x:=by rfl)(hv:bootBuiltins x=some (.type n):=by decide +kernel)(hn:x ≠ "__name__":=by decide)(hd:(x == ("__debug__":Str))=false:=by decide):bu X (.Name x pos) (c3 (.ty n)):=Gi hg hm hv hn hd
end
section
variable {P:Program} {w:World} {K:Vo} {mg:Vr} {base:Heap}
structure qA (K:Vo) (mg:Vr) (x:Str) (st:Stmt) (ps:Vs):Prop where
 ex:∃T f fd,Gv K mg x st ps T f fd
structure M1 (P:Program) (w:World) (K:Vo) (mg:Vr) (base:Heap) (k:Nat) (x:Str) (n:Nat) (sp:aw):Prop where
 ex:∃f fd ps,ps.length=n/\MN P w K mg base k f fd ps sp/\mg x=some (.ref f)/\PySem.W.keepIn K (.ref f)=true/\Binds K fd ps []/\Binds K fd ps [.bool true]
def G7{x:Str}{st:Stmt}{ps:Vs}{k n:Nat}{t:bB}{sp:aw}(N:Vs)(O:qA K mg x st ps)
  (hbody:∀(f:Addr) (cdv:Value) (A:Around) (outer:List Env) (s:Shared) (H:Hp) (E:XK),Room k (A.deeper (PyProof.Rows.envOfC x (aG st) s.heap.objs.size f cdv))->N.Nodup->kf (EG P w K mg base N x st f cdv A outer s H E) (bi st) t) (e:sp=aR N.length t)
  (hn:ps.length=n:=by rfl) (S:dL N ps (aG st):=by exact⟨rfl,rfl,rfl,by decide +kernel,rfl,by decide +kernel,by decide +kernel⟩):M1 P w K mg base (k+1) x n sp:=by
 subst e
 obtain⟨T,f,fd,o⟩:=O.ex
 exact⟨f,fd,ps,hn,Gu o.F S fun cdv A outer s H E hr=>hbody f cdv A outer s H E hr S.nd,o.m,o.k,o.b,o.d⟩
theorem M1.zero{x:Str}{st:Stmt}{ps:Vs}{k n:Nat}(O:qA K mg x st ps)(hn:ps.length=n:=by rfl):M1 P w K mg base k x n o8:=by
 obtain⟨T,f,fd,o⟩:=O.ex
 exact⟨f,fd,ps,hn,.zero rfl,o.m,o.k,o.b,o.d⟩
theorem EQ{b n:Nat}{x:Str}{st:Stmt}{ps:Vs}{r:Nat->aw}(O:qA K mg x st ps)(h:∀j,M1 P w K mg base (b+j) x n (r j)->M1 P w K mg base (b+j+1) x n (r (j+1)))(h0:r 0=o8)(hn:ps.length=n:=by rfl):∀j,M1 P w K mg base (b+j) x n (r j)
 |0=>by rw[h0];exact .zero O hn
 |j+1=>h j (EQ O h h0 hn j)
end
section
variable {X:Cx} {e:Expr} {es:List Expr} {ts:List bc} {x:Str} {p pos:Pos} {j k n:Nat} {sp:aw}
def cD(O:M1 X.prog X.w X.K X.mg X.base k x n sp)(hr:Room j X.A)(ha:kW X (e::es) ts)(hj:k<=j:=by omega)(hl:ts.length+1=n:=by rfl)(hg:Gl X x:=by rfl)(he:starEach (e::es) X.env=(false,eval e X.env)::starEach es X.env:=by rfl)(hdb:(x == ("__debug__":Str))=false:=by decide)(hpl:(backTo pos (starEach es X.env)).any (·.1)=false:=by rfl) :
  bu X (.Call (.Name x p) (e::es) [] pos) (kr sp ts):=by
 obtain⟨f,fd,ps,hn,F,h1,h2,h3,h4⟩:=O.ex
 exact zI F (hr.mono hj) hg h1 h2 h4 he ha (hl.trans hn.symm) hdb hpl
def G8(O:M1 X.prog X.w X.K X.mg X.base k x n sp)(hr:Room j X.A)(ha:kW X (e::es) ts)(hj:k<=j:=by omega)(hl:ts.length=n:=by rfl)(hg:Gl X x:=by rfl)(he:starEach (e::es) X.env=(false,eval e X.env)::starEach es X.env:=by rfl)(hdb:(x == ("__debug__":Str))=false:=by decide)(hpl:(backTo pos (starEach es X.env)).any (·.1)=false:=by rfl) :
  bu X (.Call (.Name x p) (e::es) [] pos) (ab sp ts):=by
 obtain⟨f,fd,ps,hn,F,h1,h2,h3,h4⟩:=O.ex
 exact wG F (hr.mono hj) hg h1 h2 h3 he ha (hl.trans hn.symm) hdb hpl
end
end L3
namespace L2
open PySem PySem.Spec PyProof.Rows
end L2
namespace L3
open PySem L2
end L3
namespace CY
open PySem L2 L3
end CY
namespace L3
open PySem L2
end L3
namespace L2
open PySem PySem.Spec PyProof.Rows
end L2
namespace L3
open PySem L2
end L3
namespace L2
open PySem PySem.Spec PyProof.Rows
end L2
namespace L3
open PySem L2
end L3
namespace L2
open PySem PySem.Spec PyProof.Rows
end L2
namespace L3
open PySem L2
end L3
namespace Md
open PySem PySem.Spec PyProof.Rows
noncomputable def ER(P:Nat->Value->Prop)(bt:Nat->Nat->Bool):Nat->Array Value->Prop
 |0,l=>l=#[]
 |j+1,l=>∃v,l=#[v,v]/\P (argBest bt j) v
def sn{prog:Program}{w:World}{A:Around}{E:Vq}{s:Shared}{id:String}{b:Builtin}{us:Vv}{kw:List (Str×Value)}{Q:Vq}(hk:builtinKind id=none)(hp:plainId id=true)(hb:entryFor table id=some b)(ha:argsOk id ⟨us,kw⟩)
  (hc:wpAny (model prog w) A.in1 (b ⟨us,kw⟩) (fun fin s'=>match fin with
   | .done f=>(match (Except.ok f:Result)with | .ok (.ret v)=>Q v s' | .ok _=>False | .error e=>E e s')
   | .again c'=>c'.quiet=true/\codeAny (model prog w) A c' (fun r s'=>match r with | .ok (.ret v)=>Q v s' | .ok _=>False | .error e=>E e s') s') E s):wpAny (model prog w) A (call (.builtin id) us kw) Q E s:=by
 refine wpAny_call (codeAny_call_builtin hp hb ?_)
 simp only[checkBuiltinCall,hk]
 cases hs:Manifest.signature? id with
 |none=>exact Sx hc
 |some sig=>
  have h2:Bind.checkArgs id sig ⟨us,kw⟩=pure ():=by simpa only [argsOk,hs]using ha
  simp only[h2]
  exact Sx hc
def m7(P:Nat->Value->Prop)(bt:Nat->Nat->Bool)(n:Nat)(d v:Value):Prop:=(n=0/\v=d)\/(0 < n/\P (argBest bt (n - 1)) v)
section
variable {prog:Program} {w:World} {A:Around} {R:Result->Shared->Prop} {I:Addr} {fp wr:List Addr} {n:Nat} {P:Nat->Value->Prop} {St:Nat->Heap->Prop}
def uM(a d:Value):argsOk "min" ⟨[a],[("default",d)]⟩:=by unfold argsOk;kernel_rfl
def wP(W:Walks prog w A.in1 I fp wr n P St)(bt:Nat->Nat->Bool)(hcmp:CmpOf prog w A.in1 .Lt P bt)(S:Addr)(hSf:S ∉ fp)(d:Value):∀(k j:Nat) (s:Shared) (its:Vw) (c:Nat),
  n - j=k->j<=n->St j s.heap->ER P bt j its->s.heap.get? S=some { cls:=.type "list",dict:=none,data:=.seq its c,slots:=#[] }->
  (∀v h' tk,m7 P bt n d v->(∀b o,b ∉ wr->b≠S->s.heap.get? b=some o->h'.get? b=some o)->R (.ok (.ret v)) { s with heap:=h',toks:=tk })->
  codeAny (model prog w) A (.builtin "min.loop" ⟨[.ref I,.none,.ref S],[("default",d)]⟩) R s:=by
 have nw:S ∉ wr:=fun h=>hSf (W.sub _ h)
 have nm:(toString "min" ++ toString ".loop":String) = "min.loop":=by decide
 intro k
 induction k with
 |zero=>
  intro j s its c hk hj hst hb hS hR
  obtain rfl:j=n:=by omega
  refine codeAny_builtin F.entry_min_loop ?_
  rw[Around.under_plainId Vx _]
  show wpAny _ A.in1 (seqItems? (.ref S) >>= _) _ _ s
  refine Sl (TN hS rfl (show wpAny _ A.in1 (tryCatch (pyNext (.ref I)) _ >>= _) _ _ s from ?_))
  refine Sl (wpAny_tryCatch (W.done s _ _ hst fun h1 tk kk=>?_))
  cases j with
  |zero=>
   have e:its=#[]:=hb
   subst e
   show wpAny _ A.in1 (rule _ >>= _) _ _ _
   refine Sl (VB (Sx (hR d h1 tk (.inl ⟨rfl,rfl⟩) fun b o hw _ e=>kk b o hw e)))
  |succ i=>
   obtain⟨v,rfl,hv⟩:=hb
   show wpAny _ A.in1 (updateSeq S (fun _=>#[]) >>= _) _ _ _
   refine Sl (V1 (kk S _ nw hS) rfl (Sl (UX (Sx ?_))))
   exact hR v _ tk (.inr ⟨Nat.succ_pos _,hv⟩) fun b o hw NM e=>(Uy _ _ (UO NM)).trans (kk b o hw e)
 |succ k ih=>
  intro j s its c hk hj hst hb hS hR
  have hlt:j < n:=by omega
  refine codeAny_builtin F.entry_min_loop ?_
  rw[Around.under_plainId Vx _]
  show wpAny _ A.in1 (seqItems? (.ref S) >>= _) _ _ s
  refine Sl (TN hS rfl (show wpAny _ A.in1 (tryCatch (pyNext (.ref I)) _ >>= _) _ _ s from ?_))
  refine Sl (wpAny_tryCatch (W.item j s _ _ hlt hst fun v h1 tk hP NZ kk=>?_))
  have hS1:=kk S _ nw hS
  -- the new one is kept
  have new:∀h2:Heap,h2=h1.update S (Obj.mapSeq fun _=>#[v,v])->ER P bt (j+1) #[v,v]->codeAny (model prog w) A (.builtin "min.loop" ⟨[.ref I,.none,.ref S],[("default",d)]⟩) R { s with heap:=h2,toks:=tk }:=fun h2 e2 hb2=>by
   refine ih (j+1) _ #[v,v] _ (by omega) hlt (W.frame _ h1 _ NZ fun b Rn o e=>?_) hb2 (by rw[e2];exact U9 (Obj.mapSeq fun _=>#[v,v]) hS1 rfl) fun v' h3 Pt hE k3=>?_
   ·rw[e2];exact(Uy _ _ (fun h:S=b=>hSf (by rw[h];exact Rn))).trans e
   ·exact hR v' h3 Pt hE fun b o hw NM e=>k3 b o hw NM (by rw[e2];exact(Uy _ _ (UO NM)).trans (kk b o hw e))
  cases j with
  |zero=>
   have e:its=#[]:=hb
   subst e
   show wpAny _ A.in1 (updateSeq S (fun _=>#[v,v]) >>= _) _ _ _
   refine Sl (V1 hS1 rfl ?_)
   rw[nm]
   exact Sx ⟨Wt Vx _,new _ rfl ⟨v,rfl,hP⟩⟩
  |succ i=>
   obtain⟨u,rfl,hu⟩:=hb
   show wpAny _ A.in1 (tryCatch (holding [v,v] (richCompare .Lt v u >>= _)) _ >>= _) _ _ _
   refine Sl (wpAny_tryCatch (Vk (Sl (hcmp (i+1) (argBest bt i) v u _ _ _ hP hu ?_))))
   refine Sl (Vk (Ux (Sl (UX (Sx ?_)))))
   cases hy:bt (i+1) (argBest bt i)with
   |true=>
    simp only[TH]
    refine Sl (V1 hS1 rfl (Sl (UX ?_)))
    rw[nm]
    exact Sx ⟨Wt Vx _,new _ rfl ⟨v,rfl,by simp only[argBest,hy,TH];exact hP⟩⟩
   |false=>
    simp only[SD,Tt]
    refine Sl (UX ?_)
    rw[nm]
    refine Sx ⟨Wt Vx _,ih (i+2) _ _ c (by omega) hlt NZ ⟨u,rfl,by simp only[argBest,hy,SD,Tt];exact hu⟩ hS1 fun v' h3 Pt hE k3=>?_⟩
    exact hR v' h3 Pt hE fun b o hw NM e=>k3 b o hw NM (kk b o hw e)
end
section
variable {prog:Program} {w:World} {A:Around} {E:Vq} {s:Shared}
def uN{x d:Value}{Q:Vq}
  (h:wpAny (model prog w) A.in1 (pyIter x) (fun it s1=>∃I fp wr n P St bt,it = .ref I/\Walks prog w A.in1 I fp wr n P St/\St 0 s1.heap/\(∀b∈fp,b < s1.heap.objs.size)/\CmpOf prog w A.in1 .Lt P bt/\
   ∀v h' tk,m7 P bt n d v->(∀b o,b ∉ wr->s1.heap.get? b=some o->h'.get? b=some o)->Q v { s1 with heap:=h',toks:=tk }) E s) :
  wpAny (model prog w) A (call (.builtin "min") [x] [("default",d)]) Q E s:=by
 have nm:(toString "min" ++ toString ".loop":String) = "min.loop":=by decide
 refine sn F.kind_min F.plain_min F.entry_min (uM _ _) ?_
 show wpAny _ A.in1 (Builtin.Builtins.bindParams "min" ["key","default"] 0 ⟨[],[("default",d)]⟩ >>= _) _ _ s
 refine Sl (wpAny_of_eq (show Builtin.Builtins.bindParams "min" ["key","default"] 0 ⟨[],[("default",d)]⟩=pure [none,some d] from rfl) (Sl (Sx ?_)))
 refine Sl (Vj h (fun it s1 h1=>?_) fun _ _ e=>e)
 obtain⟨I,fp,wr,n,P,St,bt,rfl,W,hst,hfp,hcmp,hQ⟩:=h1
 refine Sl (Uq ?_)
 have nf:s1.heap.objs.size ∉ fp:=fun hm=>Ul _ (hfp _ hm)
 rw[nm]
 refine Sx ⟨Wt Vx _,wP W bt hcmp s1.heap.objs.size nf d _ 0 _ #[] 0 rfl (Tr _) (W.frame _ _ _ hst fun b _ o e=>So _ e) rfl (SG _ rfl) fun v h' tk hE kk=>?_⟩
 exact hQ v h' tk hE fun b o hw e=>kk b o hw (Th (Sw e)) (So _ e)
end
end Md
namespace L2
open PySem PySem.Spec PyProof.Rows
def ES(ns:Vu)(d M:Int):Prop:=(ns=[]/\M=d)\/(M∈ns/\∀a∈ns,M<=a)
section
variable {X:Cx}
def uO{id:String}{x:Str}{r:R2}{e ed:Expr}{ta td:TE}{p pos kp:Pos}(hc:im X (fun v u=>call (.builtin id) [v] [("default",u)]) r)(hg:Gl X x)(hm:X.mg x=none)(hv:bootBuiltins x=some (.builtin id))(ha:PE X e ta)(hd:PE X ed td)
  (hs:starEach [e] X.env=[(false,eval e X.env)]) (hn:x ≠ "__name__":=by decide) (hdb:(x == ("__debug__":Str))=false:=by decide):PE X (.Call (.Name x p) [e] [⟨some "default",ed,kp⟩] pos) (Du r ta td):=by
 intro pins s σ H Q I h
 refine U5 (eO I hg hm hv ?_ hn hdb)
 refine PyProof.Rows.callWith_kw ?_ (by rw[hs];rfl) (by rw[hs];rfl) rfl rfl
 rw[hs]
 refine U4 (Hj (ha pins s σ H _ I h) fun v s1 ⟨x1,H1,I1,r1,q1⟩=>VI ?_)
 refine Hj ((yS (nm:=some "default") (kpos:=kp) hd BL) pos pins s1 σ H1 (fun zs H2=>match zs with|[y]=>r x1 y H2 Q|_=>False) I1 q1) fun ws s2 ⟨zs,H2,I2,rz,q2⟩=>?_
 cases rz with
 |nil=>exact q2.elim
 |cons a b=>
  cases b with
  |cons _ _=>exact q2.elim
  |nil=>exact hc pins s2 σ H2 _ _ _ _ Q I2 r1 a q2
def zL(hc:X.calm=true):im X (fun v u=>call (.builtin "min") [v] [("default",u)]) (fun x y H Q=>∃(p:Addr) (ns:Vu) (d:Int),x = .ref p/\y = .int d/\SqT X.K H p (ns.map V.int)/\∀M,ES ns d M->Q (.int M) H):=by
 intro pins s σ H x y v u Q I r1 r2 h
 obtain⟨p,ns,d,rfl,rfl,hp,q⟩:=h
 cases r1
 obtain⟨t,rfl⟩:=r2
 obtain⟨its,rv,pl,hz⟩:=I.tuple hp
 have hi:IntsAre its ns:=rM rv
 obtain⟨xs,e⟩:=hi.allInts.items
 have hns:ns=xs.toList.map (·.1):=by rw[<-hi.numsOf,<-nums_intItems,<-e]
 have hl:s.heap.IsTuple p its.toArray:=by
  obtain⟨o,ho,hc,n,hd⟩:=id pl
  exact⟨o,ho,hc,n,hd⟩
 rw[e]at hl
 have hlt:p < s.heap.objs.size:=by obtain⟨_,e,_⟩:=hl;exact Sw e
 refine Md.uN (Tv hl ?_)
 refine⟨_,_,_,_,_,_,_,rfl,Walks.tuple (A:=X.A.in1) (I.ok.hd hc) _ p (Th hlt) (intItems xs),⟨⟨_,SG _ rfl,rfl,rfl⟩,hl.push _⟩,(fun b hb=>?_),CmpOf.ints_lt (numAt xs) (fun _ _=>intItems_at),fun v h' tk hE hk=>?_⟩
 ·show b < (s.heap.push _).objs.size
  rw[Uh]
  simp only[Sv,SS,T9]at hb
  rcases hb with rfl|rfl
  ·exact Nat.lt_succ_self _
  ·exact WS hlt
 have hsz:(intItems xs).size=xs.size:=by simp[intItems]
 rw[hsz]at hE
 have hlen:ns.length=xs.size:=by rw[hns,Sm,UC]
 have hk':∀b o,s.heap.get? b=some o->h'.get? b=some o:=fun b o e=>hk b o (fun hm=>by
  rcases Sv.mp hm with e1|hm
  ·exact absurd (e1▸Sw e) (Ul _)
  ·cases hm) (So _ e)
 rcases hE with⟨h0,rfl⟩|⟨h0,hv⟩
 ·exact⟨.int d,H,(I.kept (t':=tk) (h':=h') hk'),⟨_,rfl⟩,q _ (.inl ⟨List.eq_nil_of_length_eq_zero (by omega),rfl⟩)⟩
 ·obtain⟨t,rfl⟩:=intItems_at hv
  obtain⟨h1,h2⟩:=argBest_lt (numAt xs) (xs.size - 1)
  refine⟨.int _,H,(I.kept (t':=tk) (h':=h') hk'),⟨_,rfl⟩,q _ (.inr ⟨?_,fun a ha=>?_⟩)⟩
  ·rw[hns,numAt_eq];exact getD_mem (by rw[Sm,UC];omega)
  ·rw[hns]at ha
   obtain⟨j,hj,rfl⟩:=mem_getD ha
   rw[Sm,UC]at hj
   rw[<-numAt_eq];exact h2 j (by omega)
end
end L2
namespace L3
open PySem L2
section
variable {X:Cx} {e ed:Expr} {te td:bc} {x:Str} {p pos kp:Pos}
def tH:R3:=fun x y S Q=>match x,y with
 | .tup xs,.int d=>(match iS xs with|some ns=>∀M,ES ns d M->Q (.int M) S|none=>False)
 |_,_=>False
def Cz(hc:X.calm=true):iO X (fun v u=>call (.builtin "min") [v] [("default",u)]) tH:=⟨fun pins s σ H x y v u Q I rx ry ⟨px,py,S,Q3,r1,r2,rS,q,k⟩=>by
 unfold tH at q
 split at q
 ·split at q
  ·rename_i eb
   cases r1 with
   |tup h rs=>
    cases r2
    have e2:=oa rs eb
    subst e2
    exact zL hc pins s σ H _ _ v u Q I rx ry ⟨_,_,_,rfl,rfl,h,fun M hM=>k _ S _ H (q M hM) (.int _) rS .refl⟩
  ·exact q.elim
 ·exact q.elim⟩
def G9{id:String}{r:R3}(hc:iO X (fun v u=>call (.builtin id) [v] [("default",u)]) r)(hm:X.mg x=none)(ha:bu X e te)(hd:bu X ed td)(hg:Gl X x:=by rfl)(hv:bootBuiltins x=some (.builtin id):=by decide +kernel)(hs:starEach [e] X.env=[(false,eval e X.env)]:=by rfl)
  (hnn:x ≠ "__name__":=by decide) (hdb:(x == ("__debug__":Str))=false:=by decide):bu X (.Call (.Name x p) [e] [⟨some "default",ed,kp⟩] pos) (ah r te td):=
 ⟨aX (uO hc.ok hg hm hv ha.ok hd.ok hs hnn hdb) fun _ _ _=>jq⟩
end
end L3
namespace CW
open PySem L2 L3
def sr:bB:=(av (ah l8 (ah bJ (ah ae (v3 0) (c3 (.int 0))) (ah ae (v3 1) (c3 (.int 1)))) (ah bJ (ah ae (v3 1) (c3 (.int 0))) (ah ae (v3 0) (c3 (.int 1))))))
def i0(LL:aw):bB:=(ai (aq 1 (ay [(c3 (.int 0)),(c3 (.int 1))]))
  (ai (bz (aE (v3 0)) (.n 2) (aq 1 (ab LL [(v3 1),(v3 2)])))
  (av (v3 1))))
end CW
namespace CL
open PySem L2 L3
def cK(Kg:aw):bB:=(av (ah aU (bx [(ay [(c3 .non),(v3 0)])]) (ab Kg [(v3 0),(v3 1)])))
def o_(LN J9 Lw LP:aw):bB:=(ai (aq 1 (ab LN [(v3 0)]))
  (ai (aq 2 (bx []))
  (ai (bz (dU (ah ae (v3 0) (c3 (.int 1)))) (.tp (.cons (.n 3) (.cons (.n 4) .nil))) (bz (aE (ab J9 [(ah ae (v3 4) (c3 (.int 1))),(v3 1)])) (.tp (.cons (.n 5) (.cons (.n 6) .nil))) (bz (aE (ab Lw [(v3 6),(v3 1)])) (.n 7) (ai (aq 8 (ab LP [(ah ae (v3 0) (c3 (.int 0))),(v3 6),(v3 7)]))
  (aW (eR "list" bf (v3 2) [(ay [(v3 3),(v3 5),(ah ae (v3 8) (c3 (.int 0))),(ah ae (v3 8) (c3 (.int 1))),(v3 7)])]))))))
  (av (al aZ [(v3 2)])))))
def fP(Hu:aw):bB:=(av (ab Hu [(ah bJ (ah ae (v3 0) (c3 (.int 0))) (v3 1)),(ah ae (v3 0) (c3 (.int 1)))]))
def cL(s0:aw):bB:=(ai (bq (lU (aP (al oQ [(v3 1),(c3 (.ty "tuple"))])) (aP (al oQ [(v3 0),(c3 (.ty "tuple"))]))) (ai (bq (lU (ni (aP (al oQ [(v3 0),(c3 (.ty "tuple"))]))) (lU (ni (aP (al oQ [(v3 1),(c3 (.ty "tuple"))]))) (aP (ah (br true) (al bG [(v3 0)]) (al bG [(v3 1)]))))) (av (c3 (.bl false))) aN)
  (av (al zv [(aF (gB (v3 0) (v3 1)) (.tp (.cons (.n 0) (.cons (.n 1) .nil))) bH (ab s0 [(v3 0),(v3 1)]) 2 [])]))) aN)
  (av (cH (ah (br false) (v3 0) (v3 1)) (ah (br false) (al oQ [(v3 0),(c3 (.ty "bool"))]) (al oQ [(v3 1),(c3 (.ty "bool"))])))))
def i3:bB:=(ai (aq 2 (ah bJ (bx [(c3 (.int 0))]) (al bG [(v3 1)])))
  (ai (bq (aP (ah (br false) (ah ae (v3 0) (c3 (.int 0))) (c3 (.str "put")))) (eg (ah ae (v3 0) (c3 (.int 2))) (v3 2) (sk eB (v3 1) [(ah ae (v3 0) (c3 (.int 1)))])) aN)
  (av (ay [(ah ae (bx [(ay [(c3 (.int 0)),(c3 (.int 1))]),(ah ae (v3 0) (gH bY (c3 (.int 1))))]) (al lX [(ah (br false) (ah ae (v3 0) (c3 (.int 0))) (c3 (.str "pay")))])),(al aZ [(v3 2)]),(ay [])]))))
def eW:bB:=(ai (aq 4 (bx []))
  (ai (bz (aE (v3 0)) (.tp (.cons (.n 5) (.cons (.n 6) (.cons (.n 7) .nil)))) (ai (aq 8 (ah bJ (bx [(c3 (.int 0))]) (al bG [(v3 2)])))
  (ai (bq (aP (ah (qp true) (v3 3) (c3 .non))) (eg (ah ae (v3 3) (c3 (.int 1))) (v3 8) (sk eB (v3 2) [(ah ae (v3 3) (c3 (.int 0)))])) aN)
  (aW (eR "list" bf (v3 4) [(ay [(v3 5),(al aZ [(aF (gB (v3 6) (v3 8)) (.tp (.cons (.n 0) (.cons (.n 1) .nil))) bH (ah ck (v3 0) (v3 1)) 2 [])]),(ay [(v3 1),(v3 7)])])])))))
  (av (v3 4))))
def eX(Hy Im LQ s0:aw):bB:=(ai (bq (aP (ah (br false) (ah ae (v3 0) (c3 (.int 0))) (c3 (.str "then")))) (ai (aq 3 (bx []))
  (ai (bz (aE (ab s0 [(ah ae (v3 0) (c3 (.int 1))),(v3 1),(v3 2)])) (.n 4) (bz (aE (ab s0 [(ah ae (v3 0) (c3 (.int 2))),(v3 1),(v3 2)])) (.n 5) (ai (aq 6 (al aZ [(aF (lv (ah ae (v3 4) (c3 (.int 1))) (ah ae (v3 5) (c3 (.int 1)))) (.tp (.cons (.n 0) (.cons (.n 1) .nil))) bH (ah aU (v3 0) (v3 1)) 2 [])]))
  (aW (eR "list" bf (v3 3) [(ay [(ab Hy [(ah ae (v3 4) (c3 (.int 0))),(ah ae (v3 5) (c3 (.int 0)))]),(v3 6),(ay [(ah ae (v3 4) (c3 (.int 2))),(ah ae (v3 5) (c3 (.int 2)))])])])))))
  (av (v3 3)))) aN)
  (ai (bq (aP (ah (br false) (ah ae (v3 0) (c3 (.int 0))) (c3 (.str "either")))) (ai (aq 7 (ab Im [(ab s0 [(ah ae (v3 0) (c3 (.int 1))),(v3 1),(v3 2)]),(c3 (.int 0)),(v3 1),(c3 .non)]))
  (av (ah aU (v3 7) (ab Im [(ab s0 [(ah ae (v3 0) (c3 (.int 2))),(v3 1),(v3 2)]),(c3 (.int 1)),(v3 1),(c3 .non)])))) aN)
  (ai (bq (aP (ah (br false) (ah ae (v3 0) (c3 (.int 0))) (c3 (.str "take")))) (ai (aq 7 (bx []))
  (ai (bq (aP (ah (k4 false) (ah ae (v3 0) (c3 (.int 1))) (v3 2))) (aq 7 (ab Im [(ab s0 [(ah ae (v3 0) (c3 (.int 3))),(v3 1),(v3 2)]),(c3 (.int 0)),(v3 1),(cV (v3 0) (se (c3 (.int 1))) (se (c3 (.int 3))))])) aN)
  (av (ah aU (v3 7) (ab Im [(ab s0 [(ah ae (v3 0) (c3 (.int 4))),(v3 1),(v3 2)]),(c3 (.int 1)),(v3 1),(c3 .non)]))))) aN)
  (av (bx [(ab LQ [(v3 0),(v3 1)])])))))
def eY(IZ s0:aw):bB:=(ai (aq 5 (bx []))
  (ai (bq (aP (ah (br false) (ah ae (v3 0) (c3 (.int 0))) (c3 (.str "often")))) (ai (eg (ah aU (ah ae (v3 3) (c3 (.int 0))) (c3 (.int 1))) (v3 3) (c3 (.int 0)))
  (ai (bq (aP (v3 4)) (aq 5 (aF (aE (ab IZ [(ah ae (v3 0) (c3 (.int 1))),(v3 1),(v3 2)])) (.n 0) bH (ah aU (ay [(ah ck (ah ae (v3 1) (c3 (.int 0))) (c3 (.int 1)))]) (v3 0)) 1 [3])) aN)
  (av (ah aU (v3 5) (ab s0 [(ah ae (v3 0) (c3 (.int 1))),(v3 1),(v3 2),(v3 3),(v3 4)]))))) aN)
  (ai (bq (aP (ah (k4 false) (ah ae (v3 0) (c3 (.int 0))) (ay [(c3 (.str "then")),(c3 (.str "either")),(c3 (.str "take"))]))) (ai (aq 5 (ab s0 [(ah ae (v3 0) (gH bY (c3 (.int 2)))),(v3 1),(v3 2),(v3 3),(cH (v3 4) (nj (ah (br true) (ah ae (v3 0) (c3 (.int 0))) (c3 (.str "take"))) (ah (k4 false) (ah ae (v3 0) (c3 (.int 1))) (v3 2))))]))
  (av (ah aU (v3 5) (ab s0 [(ah ae (v3 0) (gH bY (c3 (.int 1)))),(v3 1),(v3 2),(v3 3),(v3 4)])))) aN)
  (av (v3 5)))))
def fQ(Ks IZ KL:aw):bB:=(ai (aq 1 (ab Ks [(v3 0)]))
  (ai (aq 2 (bx []))
  (ai (bz (dU (ah ae (v3 0) (c3 (.int 1)))) (.tp (.cons (.n 3) (.cons (.n 4) .nil))) (ai (aW (eR "list" bE (v3 2) [(aF (aE (ab IZ [(ah ae (v3 4) (c3 (.int 1))),(ah ae (v3 0) (c3 (.int 0))),(v3 1)])) (.n 0) bH (ah aU (ay [(v3 1),(c3 .non)]) (v3 0)) 1 [3])]))
  (aW (eR "list" bE (v3 2) [(aF (aE (ab KL [(ah ae (v3 4) (c3 (.int 1))),(ah ae (v3 0) (c3 (.int 0))),(v3 1),(bx [(c3 (.int 0))]),(c3 (.bl true))])) (.n 0) bH (ah aU (ay [(v3 1)]) (v3 0)) 1 [3])]))))
  (av (v3 2)))))
def i4(IG J7:aw):bB:=(av (ab IG [(aF (gB (v3 0) (v3 1)) (.tp (.cons (.n 0) (.cons (.n 1) .nil))) bH (ab J7 [(ay [(v3 0),(c3 (.int 1))]),(v3 1)]) 2 [])]))
def mh(IG:aw):bB:=(ai (aq 3 (bx []))
  (ai (bz (kj (al bG [(ah ae (v3 0) (c3 (.int 1)))])) (.n 4) (aW (eR "list" bf (v3 3) [(ab IG [(aF (lv (v3 1) (v3 2)) (.tp (.cons (.n 0) (.cons (.n 1) .nil))) (iP (aP (ah (br false) (ah ae (v3 0) (c3 (.int 0))) (v3 2))) (aP (ah (qp false) (ah ae (v3 0) (c3 (.int 1))) (c3 .non)))) (v3 1) 2 [4])])])))
  (av (al aZ [(v3 3)]))))
def i5(M4 Mw LU IG J7 Mx:aw):bB:=(ai (aq 2 (ab M4 [(v3 0)]))
  (ai (bq (lU (aP (ah (br true) (al bG [(v3 1)]) (al bG [(v3 2)]))) (aP (al oO [(aF (aE (v3 1)) (.n 0) bH (ab Mw [(v3 0),(ay [(c3 (.int 0)),(c3 (.int 1))])]) 1 [])]))) (av (c3 .non)) aN)
  (ai (bz (kj (al bG [(ah ae (v3 0) (c3 (.int 0)))])) (.n 3) (bq (aP (ab Mw [(ab LU [(aF (aE (v3 2)) (.n 0) bH (ah ae (ah ae (v3 0) (c3 (.int 3))) (v3 1)) 1 [3]),(v3 1)]),(ay [(c3 (.int 0)),(c3 (.int 1))])])) (av (c3 .non)) aN))
  (ai (aq 4 (ab IG [(aF (lv (v3 2) (v3 1)) (.tp (.cons (.n 0) (.cons (.n 1) .nil))) bH (ab J7 [(ah ae (v3 0) (c3 (.int 2))),(v3 1)]) 2 [])]))
  (av (ay [(ab Mx [(v3 0),(v3 2),(v3 1)]),(v3 4)]))))))
end CL
namespace Wg
end Wg
namespace L3
open PySem L2
theorem qB:∀{a b:List Char},a.map Char.toNat=b.map Char.toNat->a=b
 |[],[],_=>rfl
 |[],_::_,h=>by simp at h
 |_::_,[],h=>by simp at h
 |x::a,y::b,h=>by
  simp only[SH,List.cons.injEq]at h
  rw[qB h.2,Char.toNat_inj.mp h.1]
def aM{a b:String}:(Str.ofString a=Str.ofString b)↔a=b:=by
 refine⟨fun h=>?_,fun h=>by rw[h]⟩
 rw[Str.ofString_eq_toList,Str.ofString_eq_toList]at h
 have h':a.toList.map Char.toNat=b.toList.map Char.toNat:=by
  have:=T6 (fun s:Str=>s.cps.toList) h
  simpa using this
 exact String.toList_inj.mp (qB h')
def sS{a b:String}:((Sum.inr (Str.ofString a):bI)=Sum.inr (Str.ofString b))↔a=b:=by
 rw[Sum.inr.injEq,aM]
def CA{i j:Int}(h1:-(2 ^ 64) < i)(h2:i < 2 ^ 64):IntMulOk i j:=(show MT i j from .inl ⟨h1,h2⟩).ok
def pd{i j:Int}(h1:-(2 ^ 64) < j)(h2:j < 2 ^ 64):IntMulOk i j:=(show MT i j from .inr ⟨h1,h2⟩).ok
def gY{i j:Int}(h:0<=j):i.fmod j=i % j:=Int.fmod_eq_emod_of_nonneg i h
def EU{i j:Int}(h:0<=j):i.fdiv j=i / j:=Int.fdiv_eq_ediv_of_nonneg i h
def EV{i j:Int}(h:0 < j)(h2:j < 2 ^ 64):kX i j:=⟨by omega,VQ (show j.natAbs < 2 ^ 64 by omega) (Uu (by decide) (by decide))⟩
def Iq(d l:Addr)(S S':az):Prop:=∀a o,S a=some o->a≠d->a≠l->S' a=some o
def Iq.refl{d l:Addr}{S:az}:Iq d l S S:=fun _ _ h _ _=>h
def Iq.trans{d l:Addr}{S S1 S2:az}(a:Iq d l S S1)(b:Iq d l S1 S2):Iq d l S S2:=fun x o h h1 h2=>b x o (a x o h h1 h2) h1 h2
def Iq.upd{d l:Addr}{S:az}{o:SO}:Iq d l S (He S d o):=fun x u h h1 h2=>by rw[au h1];exact h
def Iq.Ro{d l:Addr}{S:az}{o:SO}:Iq d l S (He S l o):=fun x u h h1 h2=>by rw[au h2];exact h
def Iq.new{d l p:Addr}{S:az}{o:SO}(h:S p=none):Iq d l S (He S p o):=fun x u hx h1 h2=>by rw[au (fun e=>by rw[e,h]at hx;cases hx)];exact hx
end L3
local macro_rules | `(tactic| walk_at "x")=>`(tactic| ((try dsimp only [L3.ai,L3.aq,L3.av,L3.aW,L3.bq,L3.aN,L3.ah,L3.v3,L3.c3,L3.lk,L3.ak,L3.al,L3.ab,L3.eR,L3.aP,L3.iP,L3.lU,L3.ni,L3.cH,L3.nj,L3.nW,L3.r9,L3.eg,L3.uE,L3.l0,L3.ay,L3.bx,L3.gH,L3.bY,L3.ae,L3.oM,L3.cV,L3.wt,L3.se,L3.sf,L3.fj,L3.iD,L3.ck,L3.gM,L3.iF,L3.wH,L3.l8,L3.zE,L3.EH,L3.br,L3.qp,L3.aU,L3.bJ,L3.bG,L3.uD,L3.jv,L3.lX,L3.aZ,L3.fI,L3.jr,List.set_cons_zero,List.set_cons_succ,List.set_nil,L3.p5,L3.dC,L3.qt,L3.aF,L3.aE,L3.bF,L3.bz,L3.cS,L3.Tg.put,L3.Tg.Hi,L3.qw,L3.km,L3.qx,L3.kj,L3.dU,L3.lv,L3.bf,L3.bE,List.reduceReplicate,List.map_cons,List.map_nil,List.cons_append,List.nil_append]); (try simp only [L3.ai,L3.aq,L3.av,L3.aW,L3.bq,L3.aN,L3.ah,L3.v3,L3.c3,L3.lk,L3.ak,L3.al,L3.ab,L3.eR,L3.aP,L3.iP,L3.lU,L3.ni,L3.cH,L3.nj,L3.nW,L3.r9,L3.eg,L3.uE,L3.l0,L3.ay,L3.bx,L3.gH,L3.bY,L3.ae,L3.oM,L3.cV,L3.wt,L3.se,L3.sf,L3.fj,L3.iD,L3.ck,L3.gM,L3.iF,L3.wH,L3.l8,L3.zE,L3.EH,L3.br,L3.qp,L3.aU,L3.bJ,L3.bG,L3.uD,L3.jv,L3.lX,L3.aZ,L3.fI,L3.jr,List.set_cons_zero,List.set_cons_succ,List.set_nil,L3.p5,L3.dC,L3.qt,L3.aF,L3.aE,L3.bF,L3.bz,L3.cS,L3.Tg.put,L3.Tg.Hi,L3.qw,L3.km,L3.qx,L3.kj,L3.dU,L3.lv,L3.bf,L3.bE,List.reduceReplicate,SH,Tu,List.cons_append,List.nil_append])))
namespace C
open PySem L2 L3
noncomputable def cn(seed number:Int)(l:Addr):List (bI×PV):=[(Sum.inr "seed",.int seed),(Sum.inr "number",.int number),(Sum.inr "left",.ref l)]
structure Kh (S:az) (d l:Addr) (seed number:Int) (left:Vu):Prop where
 d:S d=some (.dct (cn seed number l))
 l:S l=some (.lst (left.map PV.int))
 s0:0<=seed
 s1:seed < 2147483647
 nm:0<=number
 lf:∀x∈left,0<=x
 ln:left.length<=100
def Hl(S:az)(d l:Addr):Prop:=∃seed number left,Kh S d l seed number left
def Kh.ne{S:az}{d l:Addr}{seed number:Int}{left:Vu}(D:Kh S d l seed number left):d≠l:=fun e=>by
 have h:=D.d
 rw[e,D.l]at h
 cases h
def Hl.new{S:az}{d l p:Addr}{o:SO}(D:Hl S d l)(h:S p=none):Hl (He S p o) d l:=by
 obtain⟨s,n,f,D⟩:=D
 refine⟨s,n,f,?_,?_,D.s0,D.s1,D.nm,D.lf,D.ln⟩
 ·rw[au (fun e=>by have:=D.d;rw[e,h]at this;cases this)];exact D.d
 ·rw[au (fun e=>by have:=D.l;rw[e,h]at this;cases this)];exact D.l
def Hl.upd{S:az}{d l p:Addr}{o:SO}(D:Hl S d l)(h1:p≠d)(h2:p≠l):Hl (He S p o) d l:=by
 obtain⟨s,n,f,D⟩:=D
 exact⟨s,n,f,by rw[au h1.symm];exact D.d,by rw[au h2.symm];exact D.l,D.s0,D.s1,D.nm,D.lf,D.ln⟩
def Hl.free{S:az}{d l p:Addr}(D:Hl S d l)(h:S p=none):p≠d/\p≠l:=by
 obtain⟨s,n,f,D⟩:=D
 exact⟨(fun e=>by have:=D.d;rw[<-e,h]at this;cases this),(fun e=>by have:=D.l;rw[<-e,h]at this;cases this)⟩
def mi(s n m:Int)(l:Addr):oR (cn s n l) (Sum.inr "number") (.int m)=cn s m l:=by
 simp[oR,cn,sS,aM]
def wQ(s n m:Int)(l:Addr):oR (cn s n l) (Sum.inr "seed") (.int m)=cn m n l:=by
 simp[oR,cn,sS,aM]
def CB(s n:Int)(l:Addr):nk (cn s n l) (Sum.inr "seed")=some (.int s):=by simp[nk,cn,sS,aM]
def wR(s n:Int)(l:Addr):nk (cn s n l) (Sum.inr "number")=some (.int n):=by simp[nk,cn,sS,aM]
def CC(s n:Int)(l:Addr):nk (cn s n l) (Sum.inr "left")=some (.ref l):=by simp[nk,cn,sS,aM]
abbrev bT(w:aw):Prop:=∀{S:az} {d l:Addr} {m:Int} {Q:bj} {E:bK},Hl S d l->0 < m->m < 2 ^ 62->(∀r S',0<=r->r < m->Hl S' d l->Iq d l S S'->Q (.int r) S')->w [.ref d,.int m] S Q E
def Hg:bT (aR 5 gP):=by
  intro S d l m Q E D h0 h1 k
  obtain⟨seed,number,left,D⟩:=D
  have hne:=D.ne
  have hsz:∀a b,(cn a b l).length < sizeLine:=fun _ _=>fc (by show 3<=1000;decide)
  have fin:∀num L9 S1,Kh S1 d l seed num L9->Iq d l S S1->¬(num=0/\0 < L9.length)->
      (if 0 < num then kX num m/\(cn seed num l).length < sizeLine/\m≠0/\Q (PV.int (num.fmod m)) (He S1 d (SO.dct (cn seed (num.fdiv m) l)))
       else IntMulOk seed 48271/\(2147483647:Int)≠0/\IntMulOk ((seed * 48271+7919).fmod 2147483647) 40692/\(2147483399:Int)≠0/\(cn seed num l).length < sizeLine/\
        IntMulOk (((seed * 48271+7919).fmod 2147483647 * 40692+104729).fmod 2147483399) (((seed * 48271+7919).fmod 2147483647 * 40692+104729).fmod 2147483399)/\(2147483563:Int)≠0/\
        IntMulOk ((seed * 48271+7919).fmod 2147483647) ((seed * 48271+7919).fmod 2147483647)/\(2147483629:Int)≠0/\
        IntMulOk (((seed * 48271+7919).fmod 2147483647 * (seed * 48271+7919).fmod 2147483647).fmod 2147483629) 2147483563/\m≠0/\
        Q (PV.int ((((seed * 48271+7919).fmod 2147483647 * (seed * 48271+7919).fmod 2147483647).fmod 2147483629 * 2147483563+((((seed * 48271+7919).fmod 2147483647 * 40692+104729).fmod 2147483399) * (((seed * 48271+7919).fmod 2147483647 * 40692+104729).fmod 2147483399)).fmod 2147483563).fmod m))
          (He S1 d (SO.dct (cn (((seed * 48271+7919).fmod 2147483647 * 40692+104729).fmod 2147483399) num l)))):=by
    intro num L9 S1 D1 O1 hz
    split
    . rename_i hp
      rw[gY (Vg h0),EU (Vg h0)]
      refine⟨EV h0 (by omega),hsz _ _,by omega,k _ _ (V3 _ (by omega)) (VE _ h0) ⟨seed,num / m,L9,aa,by rw[au hne.symm];exact D1.l,D1.s0,D1.s1,VG D1.nm (Vg h0),D1.lf,D1.ln⟩ (O1.trans .upd)⟩
    . have e1:∀x:Int,x.fmod 2147483647=x % 2147483647:=fun x=>gY (by decide)
      have e2:∀x:Int,x.fmod 2147483399=x % 2147483399:=fun x=>gY (by decide)
      simp only[e1,e2,gY (Vg h0)]
      have p1:=D1.s0
      have p2:=D1.s1
      refine⟨pd (by decide) (by decide),by decide,pd (by decide) (by decide),by decide,hsz _ _,CA (by omega) (by omega),by decide,CA (by omega) (by omega),by decide,pd (by decide) (by decide),by omega,
        k _ _ (V3 _ (by omega)) (VE _ h0) ⟨_,num,L9,aa,by rw[au hne.symm];exact D1.l,by omega,by omega,D1.nm,D1.lf,D1.ln⟩ (O1.trans .upd)⟩
  unfold aR gP
  rw[show ar 5 [PV.ref d,PV.int m]=[some (.ref d),some (.int m),none,none,none] from rfl]
  simp only[ai]
  refine⟨fun n σ S'=>σ=[some (.ref d),some (.int m),none,none,none]/\∃number left,Kh S' d l seed number left/\left.length=n/\Iq d l S S',⟨_,rfl,number,left,D,rfl,.refl⟩,?_⟩
  rintro n σ S1 ⟨rfl,num,L9,D1,hn,O1⟩
  walk_at "x"
  simp only[D1.d,D1.l,wR,CC,CB,wQ,mi,aa,SJ,SE]
  have hlen:(List.map PV.int L9).length=L9.length:=Sm ..
  rw[hlen]
  split
  . rename_i hz
    subst hz
    split
    . rename_i hl
      refine⟨fun σ S'=>σ=[some (.ref d),some (.int m),none,none,none]/\∃number left,Kh S' d l seed number left/\left.length < n/\Iq d l S S',?_,?_⟩
      . rintro σ' S' ⟨rfl,a,b,h2,h3,h4⟩
        exact⟨_,h3,rfl,a,b,h2,rfl,h4⟩
      . have hl':0 < L9.length:=by omega
        obtain⟨pre,x,rfl⟩:∃pre x,L9=pre++[x]:=by
          refine⟨L9.dropLast,L9.getLast (by intro e;rw[e]at hl';simp at hl'),(List.dropLast_concat_getLast _).symm⟩
        refine⟨trivial,?_⟩
        rw[show(List.map PV.int (pre++[x]))[(pre++[x]).length - 1]?=some (.int x) by simp,show(List.map PV.int (pre++[x])).dropLast=pre.map PV.int by simp]
        simp only[au hne,D1.d,mi]
        refine⟨hsz _ _,trivial,x,pre,⟨aa,by rw[au hne.symm,aa],D1.s0,D1.s1,D1.lf x (by simp),fun y hy=>D1.lf y (by simp[hy]),by have:=D1.ln;simp at this;omega⟩,?_,O1.trans (Iq.Ro.trans .upd)⟩
        rw[<-hn];simp
    . rename_i hl
      exact fin 0 L9 S1 D1 O1 (fun z=>hl (by omega))
  . rename_i hz
    rw[if_neg (by decide)]
    exact fin num L9 S1 D1 O1 (fun z=>hz z.1)
end C
namespace L3
open PySem L2
def Ext(S S':az):Prop:=∀a o,S a=some o->S' a=some o
def Ext.refl{S:az}:Ext S S:=fun _ _ h=>h
def Ext.trans{S S1 S2:az}(a:Ext S S1)(b:Ext S1 S2):Ext S S2:=fun x o h=>b x o (a x o h)
def Ext.new{S:az}{p:Addr}{o:SO}(h:S p=none):Ext S (He S p o):=fun x u hx=>by rw[au (fun e=>by rw[e,h]at hx;cases hx)];exact hx
def Ext.free{S S':az}(e:Ext S S'){p:Addr}(h:S' p=none):S p=none:=by
 cases q:S p with
 |none=>rfl
 |some o=>rw[e p o q]at h;cases h
theorem fR{g:Tg}{tc:kU}{te:bc}{σ':cF}{keep:az->Prop}{fin:List PV->az->Prop}{S:az}(f:PV->PV)(c:PV->Bool)(hk:keep S):∀(items ys:List PV),
  (∀x∈items,∃σ2,g.put x σ'=some σ2/\(∀Q:Bool->az->Prop,Q (c x) S->tc σ2 S Q dW)/\(c x=true->∀Q:bj,Q (f x) S->te σ2 S Q dW))->ys.length+items.length<=sizeLine->fin (ys++(items.filter c).map f) S->dA g tc te σ' keep fin items ys S
 |[],ys,_,hl,hf=>⟨hk,by simpa using hl,by simpa using hf⟩
 |x::r,ys,h,hl,hf=>by
  obtain⟨σ2,e,h1,h2⟩:=h x (by simp)
  refine⟨hk,by simp at hl;omega,?_⟩
  rw[e]
  refine h1 _ ?_
  cases hc:c x with
  |true=>
   rw[if_pos rfl]
   refine h2 hc _ (fR f c hk r (ys++[f x]) (fun y hy=>h y (by simp[hy])) (by simp at hl ⊢;omega) ?_)
   rw[Wq,hc,if_pos rfl]at hf
   simpa using hf
  |false=>
   rw[if_neg (by decide)]
   refine fR f c hk r ys (fun y hy=>h y (by simp[hy])) (by simp at hl ⊢;omega) ?_
   rw[Wq,hc,if_neg (by decide)]at hf
   exact hf
def uP{g:Tg}{te:bc}{σ':cF}{keep:az->Prop}{fin:List PV->az->Prop}{S:az}(f:PV->PV){items:List PV}(hk:keep S)
  (h:∀x∈items,∃σ2,g.put x σ'=some σ2/\∀Q:bj,Q (f x) S->te σ2 S Q dW) (hl:items.length<=sizeLine) (hf:fin (items.map f) S):dA g bH te σ' keep fin items [] S:=by
 refine fR f (fun _=>true) hk items [] (fun x hx=>?_) (by simpa using hl) (by rw[List.filter_eq_self.mpr (fun _ _=>rfl)];exact hf)
 obtain⟨σ2,e,k⟩:=h x hx
 exact⟨σ2,e,fun Q q=>q,fun _=>k⟩
theorem oi{g:Tg}{tc:kU}{te:bc}{σ':cF}{keep:az->Prop}{fin:List PV->az->Prop}{items:List PV}(Iv:List PV->List PV->az->Prop)(hk:∀done ys S,Iv done ys S->keep S/\ys.length<=sizeLine)
  (step:∀done x rest ys S (K:List PV->az->Prop),items=done++x::rest->Iv done ys S->(∀ys' S',Iv (done++[x]) ys' S'->K ys' S')->match g.put x σ' with
   |some σ2=>tc σ2 S (fun b S3=>if b=true then te σ2 S3 (fun y S4=>K (ys++[y]) S4) dW else K ys S3) dW
   |none=>False)
  (hf:∀ys S,Iv items ys S->fin ys S):∀(rest done ys:List PV) (S:az),items=done++rest->Iv done ys S->dA g tc te σ' keep fin rest ys S
 |[],done,ys,S,e,h=>by
  rw[Ti]at e
  exact⟨(hk _ _ _ h).1,(hk _ _ _ h).2,hf ys S (e▸h)⟩
 |x::rest,done,ys,S,e,h=>by
  refine⟨(hk _ _ _ h).1,(hk _ _ _ h).2,?_⟩
  exact step done x rest ys S (fun ys' S'=>dA g tc te σ' keep fin rest ys' S') e h fun ys' S' h'=>oi Iv hk step hf rest (done++[x]) ys' S' (by rw[e];simp) h'
theorem qC{g:Tg}{tb:bB}{D:nV}{keep:az->Prop}{items:List PV}(Iv:List PV->cF->az->Prop)(hk:∀done σ S,Iv done σ S->keep S)
  (step:∀done x rest σ S (K:cF->az->Prop),items=done++x::rest->Iv done σ S->(∀σ' S',Iv (done++[x]) σ' S'->K σ' S')->match g.put x σ with
   |some σ'=>tb { D with nx:=K,ct:=K,bk:=D.nx } σ' S
   |none=>False)
  (hd:∀σ S,Iv items σ S->D.nx σ S):∀(rest done:List PV) (σ:cF) (S:az),items=done++rest->Iv done σ S->oS g tb D keep rest σ S
 |[],done,σ,S,e,h=>by
  rw[Ti]at e
  exact⟨hk _ _ _ h,hd σ S (e▸h)⟩
 |x::rest,done,σ,S,e,h=>
  ⟨hk _ _ _ h,step done x rest σ S (oS g tb D keep rest) e h fun σ' S' h'=>qC Iv hk step hd rest (done++[x]) σ' S' (by rw[e];simp) h'⟩
def bb{g:Tg}{tb:bB}{D:nV}{keep:az->Prop}{items:List PV}{σ:cF}{S:az}(Iv:List PV->cF->az->Prop)(h0:Iv [] σ S)(hk:∀done σ S,Iv done σ S->keep S)
  (step:∀done x rest σ S (K:cF->az->Prop),items=done++x::rest->Iv done σ S->(∀σ' S',Iv (done++[x]) σ' S'->K σ' S')->match g.put x σ with
   |some σ'=>tb { D with nx:=K,ct:=K,bk:=D.nx } σ' S
   |none=>False)
  (hd:∀σ S,Iv items σ S->D.nx σ S):oS g tb D keep items σ S:=qC Iv hk step hd items [] σ S rfl h0
def qD{g:Tg}{tc:kU}{te:bc}{σ':cF}{keep:az->Prop}{fin:List PV->az->Prop}{items:List PV}{S:az}(Iv:List PV->List PV->az->Prop)(h0:Iv [] [] S)(hk:∀done ys S,Iv done ys S->keep S/\ys.length<=sizeLine)
  (step:∀done x rest ys S (K:List PV->az->Prop),items=done++x::rest->Iv done ys S->(∀ys' S',Iv (done++[x]) ys' S'->K ys' S')->match g.put x σ' with
   |some σ2=>tc σ2 S (fun b S3=>if b=true then te σ2 S3 (fun y S4=>K (ys++[y]) S4) dW else K ys S3) dW
   |none=>False)
  (hf:∀ys S,Iv items ys S->fin ys S):dA g tc te σ' keep fin items [] S:=oi Iv hk step hf items [] [] S rfl h0
def am{t u:bB}{D:nV}{σ:cF}{S:az}(h:∀N:cF->az->Prop,(∀σ S,u D σ S->N σ S)->t { D with nx:=N } σ S):ai t u D σ S:=h (u D) fun _ _ q=>q
def cC{n:Nat}{b:bB}{args:List PV}{S:az}{Q:bj}{E:bK}(h:b { nx:=fun _ S'=>Q .non S',rt:=Q,ex:=dW } (ar n args) S):aR n b args S Q E:=h
def wS{α β:Type}(f:α->β)(xs:List α)(lo hi:Option Int):ju (xs.map f) lo hi=(ju xs lo hi).map f:=by
 unfold ju
 rw[Sm,List.map_take,List.map_drop]
def wT{α:Type}(xs:List α)(lo hi:Option Int):(ju xs lo hi).length<=xs.length:=by
 unfold ju
 rw[TY,Ut]
 omega
def dM{n:Nat}(h:n<=1000):n<=sizeLine:=VA (fc h)
section
variable {α:Type} {a b c d e:α} {l:List α}
def cx:Ii (a::l) 0=some a:=by simp[Ii,rA]
def cR:Ii (a::b::l) 1=some b:=b9 (j:=1) rfl
def tI:Ii (a::b::c::l) 2=some c:=b9 (j:=2) rfl
def EW:Ii (a::b::c::d::l) 3=some d:=b9 (j:=3) rfl
def GN:Ii (a::b::c::d::e::l) 4=some e:=b9 (j:=4) rfl
def CD:Ii [a] (-1)=some a:=rfl
def CF:Ii [a,b] (-1)=some b:=rfl
def CG:Ii [a,b,c] (-1)=some c:=rfl
def CH:Ii [a,b,c,d] (-1)=some d:=rfl
def CI:Ii [a,b,c,d,e] (-1)=some e:=rfl
def CJ:Ii [a,b] (-2)=some a:=rfl
def CK:Ii [a,b,c] (-2)=some b:=rfl
def CM:Ii [a,b,c,d] (-2)=some c:=rfl
def CN:Ii [a,b,c,d,e] (-2)=some d:=rfl
end
def fu(lo:Int)(n:Nat):(bM lo n).length=n:=by simp[bM]
end L3
namespace C
open PySem L2 L3
abbrev qE(w:aw):Prop:=∀{S:az} {ns:Vu} {b:Int} {Q:bj} {E:bK},ns.length<=63->0<=b->b < 1000->(∀d l S',S d=none->S l=none->Hl S' d l->Ext S S'->Q (.ref d) S')->w [.cl (ns.map PV.int),.int b] S Q E
def KZ:qE (aR 5 gN):=by
 intro S ns b Q E hn h0 h1 k
 unfold aR gN
 rw[show ar 5 [PV.cl (ns.map PV.int),PV.int b]=[some (.cl (ns.map PV.int)),some (.int b),none,none,none] from rfl]
 walk_at "x"
 intro p hp
 rw[aa]
 dsimp only
 rw[wS]
 have hx:(ju ns (some b) (some 63)).length<=63:=Su (wT _ _ _) hn
 generalize ju ns (some b) (some 63)=xs at hx
 refine uP (fun v=>match v with | .int i=>.int (if 0 - i > i then 0 - i else i)|v=>v) aa (fun x hx=>?_) (dM (by rw[Sm];omega)) ?_
 ·obtain⟨i,hi,rfl⟩:=SQ.mp hx
  refine⟨[some (.int i)],rfl,fun Q q=>?_⟩
  walk_at "x"
  exact q
 intro p2 hp2
 rw[aa]
 dsimp only
 rw[SV]
 have e0:(xs.map ((fun v=>match v with | .int i=>.int (if 0 - i > i then 0 - i else i)|v=>v) ∘ PV.int))=(xs.map fun i=>if 0 - i > i then 0 - i else i).map PV.int:=by
  rw[SV];rfl
 rw[e0]
 have hy:((xs.map fun i=>if 0 - i > i then 0 - i else i)).length<=63:=by rw[Sm];exact hx
 have M_:∀y∈xs.map (fun i:Int=>if 0 - i > i then 0 - i else i),0<=y:=by
  intro y hy
  obtain⟨i,_,rfl⟩:=SQ.mp hy
  split<;>omega
 generalize (xs.map fun i=>if 0 - i > i then 0 - i else i)=ys at hy M_
 have h2:p2≠p:=fun e=>by rw[e,aa]at hp2;cases hp2
 have hp2':S p2=none:=by rw[<-hp2,au h2]
 refine bb (fun done σ S'=>S'=He (He S p (.lst (xs.map PV.int))) p2 (.lst (ys.map PV.int))/\∃v2 n,0<=n/\n < 2147483647/\σ=[some (.cl (ns.map PV.int)),some (.int b),v2,some (.ref p2),some (.int n)]) ⟨rfl,none,7919+b,by omega,by omega,rfl⟩ (fun done σ S' h=>by rw[h.1];exact aa) ?_ ?_
 ·rintro done x rest σ S' K e ⟨rfl,v2,n,n0,n1,rfl⟩ hK
  obtain⟨i,hi,rfl⟩:∃i,i∈ys/\x = .int i:=by
   have:x∈ys.map PV.int:=by rw[e];simp
   obtain⟨i,hi,rfl⟩:=SQ.mp this
   exact⟨i,hi,rfl⟩
  walk_at "x"
  refine⟨pd (by decide) (by decide),by decide,by decide,hK _ _ ⟨rfl,_,_,?_,?_,rfl⟩⟩
  ·rw[gY (by decide)];omega
  ·rw[gY (i:=(n * 48271+_)) (by decide)];omega
 ·rintro σ S' ⟨rfl,v2,n,n0,n1,rfl⟩
  walk_at "x"
  intro d hd
  have hd2:d≠p2:=fun e=>by rw[e,aa]at hd;cases hd
  rw[au hd2]at hd
  have hd1:d≠p:=fun e=>by rw[e,aa]at hd;cases hd
  rw[au hd1]at hd
  rw[au hd2.symm,aa]
  dsimp only
  refine fR (fun v=>v) (fun v=>match v with | .int i=>decide (10 ^ 18<=i)|_=>false) (by rw[au hd2.symm,aa]) _ [] (fun x hx=>?_) (by rw[Sm];exact dM (by simp;omega)) ?_
  ·obtain⟨i,hi,rfl⟩:=SQ.mp hx
   refine⟨[some (.int i)],rfl,fun Q q=>?_,fun _ Q q=>?_⟩
   ·walk_at "x"
    exact⟨⟨by decide,by decide,by decide⟩,q⟩
   ·walk_at "x"
    exact q
  intro p3 hp3
  rw[aa]
  intro l hl
  have e3:([]++List.map (fun v:PV=>v) (List.filter (fun v=>match v with | .int i=>decide (10 ^ 18<=i)|_=>false) (List.map PV.int ys)))=(ys.filter fun i=>decide (10 ^ 18<=i)).map PV.int:=by
   rw[Tq,List.map_id',List.filter_map]
   rfl
  rw[e3]at hl ⊢
  rw[<-List.map_reverse]
  generalize Qt:He (He (He (He S p (SO.lst (List.map PV.int xs))) p2 (SO.lst (List.map PV.int ys))) d (SO.dct [])) p3 (SO.lst (List.map PV.int (List.filter (fun i=>decide (10 ^ 18<=i)) ys)))=S3 at hl ⊢
  have Qu:S3 d=some (.dct []):=by rw[<-Qt,au (fun e=>by rw[<-e,aa]at hp3;cases hp3),aa]
  have Qv:l≠d:=fun e=>by rw[e,Qu]at hl;cases hl
  have Pu:Ext S S3:=by
   rw[<-Qt]
   refine(Ext.new hp).trans ((Ext.new hp2).trans ((Ext.new ?_).trans (.new hp3)))
   rw[au hd2,au hd1];exact hd
  refine⟨by rw[au Qv.symm];exact Qu,?_⟩
  have e4:qv [(PV.str "seed",PV.int n),(PV.str "number",PV.int 0),(PV.str "left",PV.ref l)]=some (cn n 0 l):=rfl
  rw[e4]
  have e5:oU [] (cn n 0 l)=cn n 0 l:=by simp[oU,cn,oR,sS,aM]
  dsimp only
  rw[e5]
  refine k d l _ hd (Pu.free hl) ⟨n,0,_,aa,by rw[au Qv,aa],n0,n1,Wz _,fun y hy=>?_,?_⟩ ?_
  ·exact M_ y (Ug.mp (List.mem_reverse.mp hy)).1
  ·rw[List.length_reverse]
   exact Su (UG _ _) (by omega)
  ·intro a o ha
   have had:a≠d:=fun e=>by rw[e,hd]at ha;cases ha
   rw[au had,au (fun e=>by rw[e,Pu.free hl]at ha;cases ha)]
   exact Pu a o ha
end C
namespace L3
open PySem L2
theorem mj(S:az):∀zs:List Str,JQ S (zs.map PV.str) (zs.map PyData.str)
 |[]=>.nil
 |z::r=>.cons (.str z) (mj S r)
theorem gZ:∀{zs:Vs},(∀z∈zs,PyData.strOk z=true)->PyData.canLayAll0 (zs.map PyData.str)=true
 |[],_=>rfl
 |z::r,h=>by
  show(PyData.canLay0 (.str z)&&PyData.canLayAll0 (r.map PyData.str))=true
  rw[gZ fun y hy=>h y (by simp[hy])]
  have:PyData.canLay0 (.str z)=true:=h z (by simp)
  rw[this];rfl
def ml(z:Str)(zs:Vs):kZ (.str z) (zs.map PyData.str)=decide (z∈zs):=by
 unfold kZ
 rw[List.any_map,Vd,U1,decide_eq_true_iff]
 constructor
 ·rintro⟨y,hy,e⟩
  have e':(y == z)=true:=e
  exact(eq_of_beq e')▸hy
 ·intro h
  exact⟨z,h,beq_self_eq_true z⟩
def eE{neg:Bool}{z:Str}{zs:Vs}{a:Addr}{S:az}{Q:bj}(hS:S a=some (.lst (zs.map PV.str)))(hz:PyData.strOk z=true)(hzs:∀y∈zs,PyData.strOk y=true)(q:Q (.bl (neg != decide (z∈zs))) S):k4 neg (.str z) (.ref a) S Q:=by
 unfold k4
 simp only[hS]
 exact⟨_,_,.str z,mj S zs,hz,gZ hzs,by show 0<=150;decide,by rw[ml];exact q⟩
def cp{neg:Bool}{z:Str}{zs:Vs}{S:az}{Q:bj}(hz:PyData.strOk z=true)(hzs:∀y∈zs,PyData.strOk y=true)(q:Q (.bl (neg != decide (z∈zs))) S):k4 neg (.str z) (.tup (zs.map PV.str)) S Q:=by
 unfold k4
 exact⟨_,_,.str z,mj S zs,hz,gZ hzs,by show 0<=150;decide,by rw[ml];exact q⟩
end L3
namespace C
open PySem L2 L3 Wd
abbrev jA(w:aw):Prop:=∀{S:az} {t b:Int} {Q:bj} {E:bK},0 < b->b.natAbs < 2 ^ 8000->Q (.tup [.int (M3.aO t b),.int (M3.aC t b)]) S->w [.int t,.int b] S Q E
def Ij:jA (aR 4 iT):=by
 intro S t b Q E hb hs k
 unfold aR iT
 rw[show ar 4 [PV.int t,PV.int b]=[some (.int t),some (.int b),none,none] from rfl]
 simp only[ai]
 walk_at "x"
 refine⟨fun n σ S'=>S'=S/\∃x y:Int,σ=[some (.int t),some (.int b),some (.int x),some (.int y)]/\0<=x/\0<=y/\Int.gcd x y=Int.gcd t b/\y.toNat=n,⟨_,rfl,_,b,rfl,by split<;>omega,by omega,?_,rfl⟩,?_⟩
 ·split
  ·rw[show(0 - t) = -t by omega,Int.neg_gcd]
  ·rfl
 rintro n σ S' ⟨rfl,x,y,rfl,hx,hy,hg,rfl⟩
 walk_at "x"
 simp only[SE]
 split
 ·rename_i hp
  refine⟨fun σ' K0=>K0=S'/\∃x' y':Int,σ'=[some (.int t),some (.int b),some (.int x'),some (.int y')]/\0<=x'/\0<=y'/\Int.gcd x' y'=Int.gcd t b/\y'.toNat < y.toNat,?_,?_⟩
  ·rintro σ' K0 ⟨rfl,x',y',rfl,h1,h2,h3,h4⟩
   exact⟨_,h4,rfl,x',y',rfl,h1,h2,h3,rfl⟩
  ·walk_at "x"
   have e:x.fmod y=x % y:=gY hy
   have l1:=V3 x (b:=y) (by omega)
   have l2:=VE x hp
   refine⟨by omega,trivial,y,x.fmod y,rfl,hy,by omega,?_,by omega⟩
   rw[M3.lS];exact hg
 ·rename_i hp
  have M_:y=0:=by omega
  subst M_
  have N0:x=(Int.gcd t b:Int):=by
   rw[<-hg]
   rw[WL]
   omega
  subst N0
  have gp:(0:Int) < (Int.gcd t b:Int):=VF.mpr (M3.fF (by omega))
  have gl:=M3.rX (t:=t) (b:=b) (by omega)
  have cd:∀z,kX z (Int.gcd t b:Int):=fun z=>⟨by omega,Tf (by omega) hs⟩
  refine⟨cd _,cd _,?_⟩
  have d1:=(M3.lR (t:=t) (b:=b) (by omega))
  rw[if_neg (by omega)]at d1
  rw[d1.1,d1.2]
  exact k
structure uQ (x y:Int):Prop where
 low:M3.Dy x y
 x0:0<=x
 x1:x<=999
 y1:y<=9
def ky{n:Nat}(h:n < 2 ^ 64):n < 2 ^ 8000:=VQ h (Uu (by decide) (by decide))
abbrev mn(w:aw):Prop:=∀{S:az} {d l:Addr} {Q:bj} {E:bK},Hl S d l->(∀x y S',uQ x y->Hl S' d l->Iq d l S S'->Q (.tup [.int x,.int y]) S')->w [.ref d] S Q E
def K1{wd wl:aw}(Hg:bT wd)(Ij:jA wl):mn (aR 2 (gQ wd wl)):=by
 intro S d l Q E D k
 unfold aR gQ
 rw[show ar 2 [PV.ref d]=[some (.ref d),none] from rfl]
 walk_at "x"
 refine Hg D (by decide) (by decide) fun r S1 r0 r1 D1 O1=>?_
 simp only[SJ,SE]
 split
 ·exact k 0 1 S1 ⟨⟨by decide,by decide⟩,by decide,by decide,by decide⟩ D1 O1
 ·split
  ·refine Hg D1 (by decide) (by decide) fun r2 S2 a0 a1 D2 O2=>?_
   exact k _ 1 S2 ⟨⟨by decide,Int.gcd_one_right _⟩,by omega,by omega,by decide⟩ D2 (O1.trans O2)
  ·refine Hg D1 (by decide) (by decide) fun r2 S2 a0 a1 D2 O2=>Hg D2 (by decide) (by decide) fun r3 S3 b0 b1 D3 O3=>?_
   refine Ij (by omega) (ky (by omega)) ?_
   have z:=M3.qk (t:=r2) (b:=1+r3) (T:=999) (B:=9) (by omega) (by omega) (by omega) (by omega) (by omega) (by decide) (by decide)
   refine k _ _ S3 ⟨M3.jp (by omega),?_,z.2.1,z.2.2.2⟩ D3 (O1.trans (O2.trans O3))
   unfold M3.aO
   rw[if_neg (by omega)]
   exact VG a0 (by omega)
def uR{r:Int}(h0:0<=r)(h1:r < 26):∃c,Ii abc.cps.toList r=some c/\97<=c/\c<=122:=by
 obtain⟨n,rfl⟩:=UR h0
 have q:=oI n
 rw[Nat.mod_eq_of_lt (by omega)]at q
 exact⟨_,q,by omega,by omega⟩
def pg{z:Str}(h:Lq z):PyData.strOk z=true:=by
 unfold PyData.strOk
 rw[Array.all_eq_true']
 intro c hc
 have:=h.sm c (by simpa using hc)
 simp;omega
def zM:∀z∈IF,PyData.strOk z=true:=by decide +kernel
theorem kz:∀zs:List Str,texts (zs.map PV.str)=some zs
 |[]=>rfl
 |z::r=>by show(texts (r.map PV.str)).map (z::·)=_;rw[kz r];rfl
def uS:("":Str).length=0:=by decide +kernel
def oj{cs:List Nat}(h:cs.length<=1000):((cs.map j9).map (·.length)).sum+(cs.map j9).length * ("":Str).length<=1000000:=by
 rw[zi,uS]
 omega
def mo{w__law_draw:aw}(Hg:bT w__law_draw){S:az}{d l:Addr}{σ:cF}{n:Int}{fin:List PV->az->Prop}(D:Hl S d l)(hn:n.toNat<=100)(h1:lk σ 1=some (.ref d))(h2:lk σ 2=some (.str abc))(hσ:∃x,σ=[x,some (.ref d),some (.str abc)])
  (k:∀(cs:List Nat) S',cs.length=n.toNat->(∀c∈cs,97<=c/\c<=122)->Hl S' d l->Iq d l S S'->fin ((cs.map j9).map PV.str) S') :
  dA (Tg.n 0) bH (ah ae (v3 2) (ab w__law_draw [v3 1,c3 (.int 26)])) σ (fun _=>True) fin (bM 0 n.toNat) [] S:=by
 obtain⟨x0,rfl⟩:=hσ
 refine qD (fun done ys S'=>∃cs:List Nat,ys=(cs.map j9).map PV.str/\cs.length=done.length/\done.length<=n.toNat/\(∀c∈cs,97<=c/\c<=122)/\Hl S' d l/\Iq d l S S') ⟨[],rfl,rfl,Tr _,by simp,D,.refl⟩ ?_ ?_ ?_
 ·rintro done ys S' ⟨cs,rfl,e,hd,_⟩
  exact⟨trivial,dM (by rw[Sm,Sm,e];omega)⟩
 ·rintro done x rest ys S' K e ⟨cs,rfl,e2,hd,hc,D',O'⟩ hK
  have hlen:done.length+1<=n.toNat:=by
   have:=T6 List.length e
   rw[fu,Sn,SN]at this
   omega
  walk_at "x"
  simp only[bH,TH]
  refine Hg D' (by decide) (by decide) fun r S2 r0 r1 D2 O2=>⟨lA.1,?_⟩
  obtain⟨c,ec,c0,c1⟩:=uR r0 r1
  rw[ec]
  refine hK _ _ ⟨cs++[c],by simp,by simp[e2],by simpa using hlen,fun y hy=>?_,D2,O'.trans O2⟩
  rcases SI.mp hy with hy|hy
  ·exact hc y hy
  ·rw[SM.mp hy];exact⟨c0,c1⟩
 ·rintro ys S' ⟨cs,rfl,e,hd,hc,D',O'⟩
  exact k cs S' (by rw[e,fu]) hc D' O'
theorem qF{f:Str->List Nat}(r:List Nat):∀xs:List Str,(xs.map f).Nodup->(xs.filter fun z=>f z == r).length<=1
 |[],_=>Tr _
 |x::xs,h=>by
  rw[SH,Uc]at h
  rw[Wq]
  by_cases e:(f x == r)=true
  ·rw[if_pos e]
   have no:(xs.filter fun z=>f z == r)=[]:=by
    refine List.filter_eq_nil_iff.mpr fun z hz q=>h.1 ?_
    rw[eq_of_beq e,<-eq_of_beq q]
    exact SQ.mpr ⟨z,hz,rfl⟩
   rw[no]
   exact Ss _
  ·rw[if_neg e]
   exact qF r xs h.2
def wU(r:List Nat):(IF.filter fun z=>z.cps.toList.tail == r).length<=1:=qF (f:=fun z=>z.cps.toList.tail) r IF (by decide +kernel)
def ss(r:List Nat)(c:Nat)(ns:Vs)(h:ns.length < 17):∃j,j < 26/\cand r (c+j) ∉ IF++ns:=by
 obtain⟨j,hj,free⟩:=uB r c ((IF.filter fun z=>z.cps.toList.tail == r)++ns) (by rw[Sn];have:=wU r;omega)
 refine⟨j,hj,fun hm=>free ?_⟩
 rcases SI.mp hm with q|q
 ·exact Ve _ (Ug.mpr ⟨q,by simp[cand]⟩)
 ·exact TL _ q
abbrev kA(w:aw):Prop:=∀{S:az} {d l:Addr} {m:Int} {Q:bj} {E:bK},Hl S d l->0<=m->m<=17->(∀p (ns:Vs) S',ns.length=m.toNat->ns.Nodup->(∀z∈ns,Lq z/\z ∉ IF)->S p=none->p≠d->p≠l->S' p=some (.lst (ns.map PV.str))->Hl S' d l->Iq d l S S'->Q (.ref p) S')->w [.ref d,.int m] S Q E
def Kx{wd:aw}(Hg:bT wd):kA (aR 11 (fJ wd)):=by
 intro S d l m Q E D h0 h1 k
 unfold fJ
 refine cC ?_
 rw[show ar 11 [PV.ref d,PV.int m]=[some (.ref d),some (.int m),none,none,none,none,none,none,none,none,none] from rfl]
 refine am fun N hN=>?_
 walk_at "x"
 refine hN _ _ (am fun N hN=>?_)
 walk_at "x"
 intro pT hT
 have dT:=D.free hT
 have D0:Hl (He S pT (.lst (IF.map PV.str))) d l:=D.new hT
 have Qw:(He S pT (.lst (IF.map PV.str))) pT=some (.lst (IF.map PV.str)):=aa
 have O0:Iq d l S (He S pT (.lst (IF.map PV.str))):=.new hT
 have eK:[PV.str "jars",PV.str "deed",PV.str "rest",PV.str "pay",PV.str "put",PV.str "then",PV.str "either",PV.str "take",PV.str "often",PV.str "use"]=IF.map PV.str:=rfl
 rw[eK]
 generalize He S pT (.lst (IF.map PV.str))=S0 at D0 Qw O0 ⊢
 refine hN _ _ (am fun N hN=>?_)
 walk_at "x"
 refine⟨trivial,Hg D0 (by decide) (by decide) fun n S1 n0 n1 D1 O1=>⟨by omega,by omega,?_⟩⟩
 refine mo Hg D1 (by omega) rfl rfl ⟨_,rfl⟩ fun cs S2 hl hc D2 O2 pj hj=>?_
 simp only[nY,aa,kz]
 refine⟨oj (by omega),?_⟩
 rw[show Txt.join (Str.ofString "") (cs.map j9)=⟨cs.toArray⟩from lQ cs]
 refine hN _ _ (am fun N hN=>?_)
 walk_at "x"
 have hcl:cs.length<=5:=by omega
 have lc:(⟨cs.toArray⟩:Str).length=cs.length:=Sy
 refine⟨by rw[lc];exact dM (by omega),Hg (D2.new hj) (by rw[lc];omega) (by rw[lc];omega) fun at' S3 a0 a1 D3 O3=>Hg D3 (by decide) (by decide) fun tu S4 t0 t1 D4 O4=>Hg D4 (by decide) (by decide) fun nr S5 r0 r1 D5 O5=>?_⟩
 rw[lc]at a1
 obtain⟨an,rfl⟩:=UR a0
 obtain⟨tn,rfl⟩:=UR t0
 refine hN _ _ (am fun N hN=>?_)
 walk_at "x"
 intro q hq
 have dq:=D5.free hq
 have OA:Iq d l S0 S5:=O1.trans (O2.trans ((Iq.new hj).trans (O3.trans (O4.trans O5))))
 have Pv:=OA _ _ Qw dT.1 dT.2
 have Qx:pT≠q:=fun e=>by rw[e,hq]at Pv;cases Pv
 have Qy:S q=none:=by
  cases e:S q with
  |none=>rfl
  |some o=>rw[OA _ _ (O0 _ _ e dq.1 dq.2) dq.1 dq.2]at hq;cases hq
 refine hN _ _ (am fun N hN=>?_)
 simp only[bz,kj,v3,lk]
 refine⟨by omega,by omega,?_⟩
 refine bb (fun done σ S'=>∃(ns:Vs) (v4 v10:Option PV) (near:Bool),σ=[some (.ref d),some (.int m),some (.str abc),some (.ref pT),v4,some (.str ⟨cs.toArray⟩),some (.int an),some (.int tn),some (.bl near),some (.ref q),v10]/\ns.length=done.length/\ns.Nodup/\(∀z∈ns,Lq z/\z ∉ IF)/\S' q=some (.lst (ns.map PV.str))/\S' pT=some (.lst (IF.map PV.str))/\Hl S' d l/\Iq d l S S')
  ⟨[],_,_,_,rfl,rfl,WK,(fun z hz=>nomatch hz),aa,by rw[au Qx];exact Pv,D5.new hq,O0.trans (OA.trans (.new hq))⟩ (fun _ _ _ _=>trivial) ?_ ?_
 ·rintro done x rest σ S6 K e ⟨ns,v4,v10,near,rfl,Pw,Px,w6,Oy,Py,D6,O6⟩ hK
  have hlen:done.length < m.toNat:=by
   have:=T6 List.length e
   rw[fu,Sn,SN]at this
   omega
  have hx:x = .int (0+(done.length:Nat)):=by
   have h2:=T6 (fun l=>l[done.length]?) e
   simp only[Ud (Ss _),Nat.sub_self,List.getElem?_cons_zero]at h2
   unfold bM at h2
   rw[SA,Up hlen]at h2
   simpa using h2.symm
  subst hx
  -- the tail: a word is changed Rp it is new,then laid down
  have ql:∀(z:Str) (v4:Option PV) (S7:az),Lq z->S7 q=some (.lst (ns.map PV.str))->S7 pT=some (.lst (IF.map PV.str))->Hl S7 d l->Iq d l S S7->
    ai (iR (lU (aP (ah (k4 false) (v3 10) (v3 3))) (aP (ah (k4 false) (v3 10) (v3 9)))) (aq 10 (ah aU (ah ae (v3 2) (ah gM (ah aU (eR "str" kh (v3 2) [(ah ae (v3 10) (c3 (.int 0)))]) (c3 (.int 1))) (c3 (.int 26)))) (cV (v3 10) (se (c3 (.int 1))) wt))))
     (aW (eR "list" bf (v3 9) [(v3 10)])) { nx:=K,rt:=Q,ex:=dW,bk:=N,ct:=K } [some (.ref d),some (.int m),some (.str abc),some (.ref pT),v4,some (.str ⟨cs.toArray⟩),some (.int an),some (.int tn),some (.bl near),some (.ref q),some (.str z)] S7:=by
   intro z v4 S7 hz Qz QA D7 O7
   obtain⟨i,r,rfl,hi,Rq,hrs⟩:=hz.cand
   obtain⟨j,hj,free⟩:=ss r i ns (by omega)
   refine⟨fun mm σ S'=>∃t,σ=[some (.ref d),some (.int m),some (.str abc),some (.ref pT),v4,some (.str ⟨cs.toArray⟩),some (.int an),some (.int tn),some (.bl near),some (.ref q),some (.str (cand r (i+t)))]/\S'=S7/\t<=j/\mm=j - t,⟨j,0,rfl,rfl,Tr _,rfl⟩,?_⟩
   rintro mm σ S' ⟨t,rfl,rfl,ht,rfl⟩
   have hw:=wa Rq hrs (i+t)
   have Pz:∀y∈ns,PyData.strOk y=true:=fun y hy=>pg (w6 y hy).1
   have go:t < j->∃N:cF->az->Prop,(∀σ' K0,N σ' K0->∃m',m' < j - t/\∃t',σ'=[some (.ref d),some (.int m),some (.str abc),some (.ref pT),v4,some (.str ⟨cs.toArray⟩),some (.int an),some (.int tn),some (.bl near),some (.ref q),some (.str (cand r (i+t')))]/\K0=S'/\t'<=j/\m'=j - t')/\
     N ([some (.ref d),some (.int m),some (.str abc),some (.ref pT),v4,some (.str ⟨cs.toArray⟩),some (.int an),some (.int tn),some (.bl near),some (.ref q),some (.str (cand r (i+(t+1))))]) S':=fun lt=>
    ⟨fun σ' K0=>σ'=[some (.ref d),some (.int m),some (.str abc),some (.ref pT),v4,some (.str ⟨cs.toArray⟩),some (.int an),some (.int tn),some (.bl near),some (.ref q),some (.str (cand r (i+(t+1))))]/\K0=S',fun σ' K0 ⟨e1,e2⟩=>⟨j - (t+1),by omega,t+1,e1,e2,by omega,rfl⟩,rfl,rfl⟩
   have Oz:((((i+t) % 26:Nat):Int)+1).fmod 26=(((i+t+1) % 26:Nat):Int):=by rw[gY (by decide)];omega
   walk_at "x"
   refine eE QA (pg hw) zM ?_
   simp only[SJ,SE]
   split
   ·rename_i g
    have lt:t < j:=Nat.lt_of_le_of_ne ht fun e=>by subst e;exact free (Ve _ g)
    obtain⟨N,hN,hn⟩:=go lt
    rw[if_pos trivial]
    refine⟨N,hN,trivial,hw.line,?_⟩
    rw[nS]
    simp only[kh,v9 _ (Nat.mod_lt _ (by decide))]
    refine⟨by decide,lA.1,?_⟩
    rw[Oz,oI (i+t+1)]
    refine⟨hw.line,?_,?_⟩
    ·rw[io]
     exact dM (show 1+r.toArray.size<=1000 by rw[Sy];omega)
    ·rw[io,nU]
     exact hn
   ·rename_i g
    refine eE Qz (pg hw) Pz ?_
    simp only[SJ,SE]
    split
    ·rename_i g2
     have lt:t < j:=Nat.lt_of_le_of_ne ht fun e=>by subst e;exact free (TL _ g2)
     obtain⟨N,hN,hn⟩:=go lt
     refine⟨N,hN,trivial,hw.line,?_⟩
     rw[nS]
     simp only[kh,v9 _ (Nat.mod_lt _ (by decide))]
     refine⟨by decide,lA.1,?_⟩
     rw[Oz,oI (i+t+1)]
     refine⟨hw.line,?_,?_⟩
     ·rw[io]
      exact dM (show 1+r.toArray.size<=1000 by rw[Sy];omega)
     ·rw[io,nU]
      exact hn
    ·rename_i g2
     simp only[Qz]
     refine⟨trivial,by rw[Sm];exact fc (by omega),hK _ _ ⟨ns++[cand r (i+t)],_,_,_,rfl,by simp[Pw],List.nodup_append.mpr ⟨Px,by simp,fun a ha b hb e=>?_⟩,fun z hz=>?_,by rw[Te];exact aa,by rw[au Qx];exact QA,D7.upd dq.1 dq.2,fun a o ha h1 h2=>?_⟩⟩
     ·rw[SM.mp hb]at e
      exact g2 (e▸ha)
     ·rcases SI.mp hz with hz|hz
      ·exact w6 z hz
      ·rw[SM.mp hz]
       exact⟨hw,g⟩
     ·rw[au (fun e=>by rw[e,Qy]at ha;cases ha)]
      exact O7 a o ha h1 h2
  obtain⟨pw,Rr,pl2⟩:=zj hcl hc (a:=an) (i:=(tn+done.length) % 26) (by omega) (Nat.mod_lt _ (by decide))
  have Oz:((tn:Int)+(0+(done.length:Int))).fmod 26=(((tn+done.length) % 26:Nat):Int):=by rw[gY (by decide)];omega
  have QB:(⟨cs.toArray⟩:Str).length<=sizeLine:=by rw[lc];exact dM (by omega)
  simp only[Tg.put]
  refine am fun N2 JV=>?_
  walk_at "x"
  refine⟨QB,by decide,lA.1,?_⟩
  rw[Oz,oI (tn+done.length)]
  refine⟨Su (Nat.add_le_add Rr (Ss 1)) (by decide),QB,Su (WY (Array.size_append).symm) (Su pw.len (by decide)),?_⟩
  refine JV _ _ (am fun N3 Lm=>?_)
  walk_at "x"
  split
  ·refine⟨trivial,Hg D6 (by decide) (by decide) fun n2 Sa m0 m1 Da Oa=>⟨by omega,by omega,?_⟩⟩
   refine mo Hg Da (by omega) rfl rfl ⟨_,rfl⟩ fun NB Sb hl2 hc2 Db Ob Rs hj2=>?_
   simp only[nY,aa,kz]
   refine⟨oj (by omega),?_⟩
   rw[show Txt.join (Str.ofString "") (NB.map j9)=⟨NB.toArray⟩from lQ NB]
   refine Lm _ _ ?_
   have wz:Lq (⟨NB.toArray⟩:Str):=⟨fun e=>by have e':NB=[]:=e;rw[e']at hl2;simp at hl2;omega,by show NB.length<=6;omega,hc2⟩
   have OB:Iq d l S6 (He Sb Rs (.lst ((NB.map j9).map PV.str))):=Oa.trans (Ob.trans (.new hj2))
   exact ql _ _ _ wz (OB _ _ Oy dq.1 dq.2) (OB _ _ Py dT.1 dT.2) (Db.new hj2) (O6.trans OB)
  ·exact Lm _ _ (ql _ _ S6 pw Oy Py D6 O6)
 ·rintro σ S6 ⟨ns,v4,v10,near,rfl,Pw,Px,w6,Oy,Py,D6,O6⟩
  refine hN _ _ ?_
  walk_at "x"
  exact k q ns S6 (by rw[Pw,fu]) Px w6 Qy dq.1 dq.2 Oy D6 O6
inductive Bd where
 |rest|pay (x y:Int)|put (z:Str) (m:Int)|use (z:Str)|HM (a:Bd)|Hj (a b:Bd)|HI (a b:Bd)|Hz (z:Str) (m:Int) (a b:Bd)
noncomputable def Bd.pv:Bd->PV
 | .rest=>.tup [.str "rest"]
 | .pay x y=>.tup [.str "pay",.tup [.int x,.int y]]
 | .put z m=>.tup [.str "put",.str z,.int m]
 | .use z=>.tup [.str "use",.str z]
 | .HM a=>.tup [.str "often",a.pv]
 | .Hj a b=>.tup [.str "then",a.pv,b.pv]
 | .HI a b=>.tup [.str "either",a.pv,b.pv]
 | .Hz z m a b=>.tup [.str "take",.str z,.int m,a.pv,b.pv]
noncomputable def Bd.dep:Bd->Nat
 | .HM a=>a.dep+1
 | .Hj a b=>max a.dep b.dep+1
 | .HI a b=>max a.dep b.dep+1
 | .Hz _ _ a b=>max a.dep b.dep+1
 |_=>1
noncomputable def Bd.size:Bd->Nat
 | .HM a=>a.size+1
 | .Hj a b=>a.size+b.size+1
 | .HI a b=>a.size+b.size+1
 | .Hz _ _ a b=>a.size+b.size+1
 |_=>1
noncomputable def Bd.good(js us:Vs):Bd->Prop
 | .rest=>True
 | .pay x y=>uQ x y
 | .put z m=>z∈js/\1<=m/\m<=9
 | .use z=>z∈us
 | .HM a=>a.good js us
 | .Hj a b=>a.good js us/\b.good js us
 | .HI a b=>a.good js us/\b.good js us
 | .Hz z m a b=>z∈js/\1<=m/\m<=9/\a.good js us/\b.good js us
def Bd.HC(t:Bd):1<=t.dep:=by cases t<;>simp[Bd.dep]
def jB{α:Type}{xs:List α}{r:Int}(h0:0<=r)(h1:r < xs.length):∃v,Ii xs r=some v/\v∈xs:=by
 obtain⟨n,rfl⟩:=UR h0
 have hn:n < xs.length:=by omega
 exact⟨xs[n],b9 (by simp[hn]),Wm hn⟩
noncomputable def Bd.leaf:Bd->Prop
 | .rest=>True
 | .pay _ _=>True
 | .put _ _=>True
 |_=>False
def Bd.J_{t:Bd}(h:t.leaf):t.dep=1/\t.size=1:=by cases t<;>first|exact⟨rfl,rfl⟩|exact h.elim
abbrev jC(w:aw):Prop:=∀{S:az} {d l:Addr} {js:Vs} {Q:bj} {E:bK},Hl S d l->js.length < 2 ^ 61->(∀(t:Bd) S',t.leaf->t.good js []->Hl S' d l->Iq d l S S'->Q t.pv S')->w [.ref d,.tup (js.map PV.str)] S Q E
def JK{wd wc:aw}(Hg:bT wd)(K1:mn wc):jC (aR 4 (gR wd wc)):=by
 intro S d l js Q E D hj k
 unfold gR
 refine cC ?_
 rw[show ar 4 [PV.ref d,PV.tup (js.map PV.str)]=[some (.ref d),some (.tup (js.map PV.str)),none,none] from rfl]
 refine am fun N hN=>?_
 walk_at "x"
 refine Hg D (by decide) (by decide) fun r S1 r0 r1 D1 O1=>?_
 refine hN _ _ (am fun N hN=>?_)
 walk_at "x"
 simp only[SJ,SE]
 split
 ·exact k .rest S1 trivial trivial D1 O1
 refine hN _ _ (am fun N hN=>?_)
 walk_at "x"
 simp only[SJ,SE,Sm]
 have pay:wc [.ref d] S1 (fun x S=>Q (.tup [.str "pay",x]) S) dW:=K1 D1 fun x y S2 c D2 O2=>k (.pay x y) S2 trivial c D2 (O1.trans O2)
 split
 ·rw[if_pos trivial];exact pay
 split
 ·exact pay
 rename_i hr hz
 refine hN _ _ (am fun N hN=>?_)
 walk_at "x"
 refine Hg D1 (by decide) (by decide) fun r2 S2 a0 a1 D2 O2 p hp=>Hg (D2.new hp) (by decide) (by decide) fun r3 S3 b0 b1 D3 O3=>?_
 have dp:=D2.free hp
 have hp3:=O3 _ _ (aa (S:=S2) (o:=.lst [.int 1,.int 2,.int (1+r2)])) dp.1 dp.2
 simp only[hp3]
 obtain⟨v,hv,hm⟩:=jB (xs:=[PV.int 1,.int 2,.int (1+r2)]) b0 (by simpa using b1)
 rw[hv]
 obtain⟨m,rfl,m0,m1⟩:∃m,v = .int m/\1<=m/\m<=9:=by
  simp only[Sv,SS,T9]at hm
  rcases hm with rfl|rfl|rfl
  ·exact⟨1,rfl,by omega,by omega⟩
  ·exact⟨2,rfl,by omega,by omega⟩
  ·exact⟨1+r2,rfl,by omega,by omega⟩
 refine hN _ _ ?_
 walk_at "x"
 simp only[Sm]
 refine Hg D3 (by omega) (by omega) fun r4 S4 c0 c1 D4 O4=>?_
 obtain⟨w,hw,PB⟩:=jB (xs:=js.map PV.str) c0 (by rw[Sm];exact c1)
 dsimp only
 rw[hw]
 obtain⟨z,hz,rfl⟩:=SQ.mp PB
 exact k (.put z m) S4 trivial ⟨hz,m0,m1⟩ D4 (O1.trans (O2.trans ((Iq.new hp).trans (O3.trans O4))))
def Kt(d l x:Addr)(S S':az):Prop:=∀a o,S a=some o->a≠d->a≠l->a≠x->S' a=some o
theorem _root_.L3.Iq.x{d l x:Addr}{S S':az}(h:Iq d l S S'):Kt d l x S S':=fun a o e h1 h2 _=>h a o e h1 h2
def Kt.trans{d l x:Addr}{S S1 S2:az}(a:Kt d l x S S1)(b:Kt d l x S1 S2):Kt d l x S S2:=fun y o h h1 h2 h3=>b y o (a y o h h1 h2 h3) h1 h2 h3
def Kt.upd{d l x:Addr}{S:az}{o:SO}:Kt d l x S (He S x o):=fun y u h h1 h2 h3=>by rw[au h3];exact h
abbrev jD(n:Nat)(w:aw):Prop:=∀{S:az} {d l x:Addr} {js:Vs} {left down:Int} {Q:bj} {E:bK},Hl S d l->S x=some (.lst [.int left])->x≠d->x≠l->js.length < 2 ^ 61->0<=left->left < 2 ^ 61->0<=down->down < n->
  (∀(t:Bd) S' left',t.good js []->(t.dep:Int)<=down+1->0<=left'->(t.size:Int)+left'<=left+1->Hl S' d l->S' x=some (.lst [.int left'])->Kt d l x S S'->Q t.pv S')->w [.ref d,.tup (js.map PV.str),.ref x,.int down] S Q E
def K8{wd wl rb:aw}(Hg:bT wd)(JK:jC wl)(n:Nat)(ih:jD n rb):jD (n+1) (aR 8 (gS wd wl rb)):=by
 intro S d l x js left down Q E D hx hxd MO hj h0 h1 h2 h3 k
 unfold gS
 refine cC ?_
 rw[show ar 8 [PV.ref d,PV.tup (js.map PV.str),PV.ref x,PV.int down]=[some (.ref d),some (.tup (js.map PV.str)),some (.ref x),some (.int down),none,none,none,none] from rfl]
 refine am fun N hN=>?_
 walk_at "x"
 refine Hg D (by decide) (by decide) fun r S1 r0 r1 D1 O1=>?_
 have N1:=O1 _ _ hx hxd MO
 refine hN _ _ (am fun N hN=>?_)
 walk_at "x"
 have a0:Ii [PV.int left] 0=some (.int left):=rfl
 simp only[SJ,SE,N1,a0]
 have lf:wl [.ref d,.tup (js.map PV.str)] S1 Q dW:=JK D1 hj fun t S2 hl hg D2 O2=>k t S2 left hg (by rw[(Bd.J_ hl).1];omega) h0 (by rw[(Bd.J_ hl).2];omega) D2 (O2 _ _ N1 hxd MO) (O1.x.trans O2.x)
 split
 ·rw[if_pos trivial];exact lf
 split
 ·rw[if_pos trivial];exact lf
 split
 ·exact lf
 rename_i hd hl hf
 refine hN _ _ (am fun N hN=>?_)
 simp only[bq,aP,ah,v3,c3,lk,l8,fj,SE]
 have QC:rA [PV.int left].length 0=some 0:=rfl
 split
 ·refine am fun N2 JV=>?_
  walk_at "x"
  simp only[N1,a0,QC]
  refine JV _ _ ?_
  walk_at "x"
  refine ih (left:=left - 1) (D1.upd hxd MO) aa hxd MO hj (by omega) (by omega) (by omega) (by omega) fun t S2 l2 hg NN q0 q1 D2 PC O2=>?_
  exact k (.HM t) S2 l2 hg (by simp only[Bd.dep];omega) q0 (by simp only[Bd.size];omega) D2 PC (O1.x.trans (Kt.upd.trans O2))
 ·refine hN _ _ (am fun N hN=>?_)
  walk_at "x"
  simp only[N1,a0,QC]
  refine hN _ _ (am fun N hN=>?_)
  walk_at "x"
  refine ih (left:=left - 2) (D1.upd hxd MO) aa hxd MO hj (by omega) (by omega) (by omega) (by omega) fun ta S2 l2 ga da q0 q1 D2 PC O2=>?_
  refine hN _ _ (am fun N hN=>?_)
  walk_at "x"
  refine ih (left:=l2) D2 PC hxd MO hj q0 (by omega) (by omega) (by omega) fun tb S3 l3 gb db p0 p1 D3 PD O3=>?_
  have OA:Kt d l x S S3:=O1.x.trans (Kt.upd.trans (O2.trans O3))
  refine hN _ _ (am fun N hN=>?_)
  walk_at "x"
  simp only[SE]
  split
  ·exact k (.Hj ta tb) S3 l3 ⟨ga,gb⟩ (by simp only[Bd.dep];omega) p0 (by simp only[Bd.size];omega) D3 PD OA
  refine hN _ _ (am fun N hN=>?_)
  walk_at "x"
  simp only[SJ,SE,Sm]
  have ei:Q (Bd.HI ta tb).pv S3:=k (.HI ta tb) S3 l3 ⟨ga,gb⟩ (by simp only[Bd.dep];omega) p0 (by simp only[Bd.size];omega) D3 PD OA
  split
  ·rw[if_pos trivial];exact ei
  split
  ·exact ei
  rename_i hz8 hz
  refine hN _ _ (am fun N hN=>?_)
  walk_at "x"
  refine Hg D3 (by decide) (by decide) fun r2 S4 e0 e1 D4 O4 p hp=>Hg (D4.new hp) (by decide) (by decide) fun r3 S5 b0 b1 D5 O5=>?_
  have dp:=D4.free hp
  have hp3:=O5 _ _ (aa (S:=S4) (o:=.lst [.int 1,.int 1,.int 2,.int (1+r2)])) dp.1 dp.2
  simp only[hp3]
  obtain⟨v,hv,hm⟩:=jB (xs:=[PV.int 1,.int 1,.int 2,.int (1+r2)]) b0 (by simpa using b1)
  rw[hv]
  obtain⟨m,rfl,m0,m1⟩:∃m,v = .int m/\1<=m/\m<=9:=by
   simp only[Sv,SS,T9]at hm
   rcases hm with rfl|rfl|rfl|rfl
   ·exact⟨1,rfl,by omega,by omega⟩
   ·exact⟨1,rfl,by omega,by omega⟩
   ·exact⟨2,rfl,by omega,by omega⟩
   ·exact⟨1+r2,rfl,by omega,by omega⟩
  refine hN _ _ ?_
  walk_at "x"
  simp only[Sm]
  refine Hg D5 (by omega) (by omega) fun r4 S6 c0 c1 D6 O6=>?_
  obtain⟨w,hw,PB⟩:=jB (xs:=js.map PV.str) c0 (by rw[Sm];exact c1)
  dsimp only
  rw[hw]
  obtain⟨z,hz,rfl⟩:=SQ.mp PB
  have PH:=O4 _ _ PD hxd MO
  have Rt:x≠p:=fun e=>by rw[e,hp]at PH;cases PH
  have Ru:=O6 _ _ (O5 _ _ (show He S4 p _ x=some (.lst [.int l3]) by rw[au Rt];exact PH) hxd MO) hxd MO
  exact k (.Hz z m ta tb) S6 l3 ⟨hz,m0,m1,ga,gb⟩ (by simp only[Bd.dep];omega) p0 (by simp only[Bd.size];omega) D6 Ru (OA.trans (O4.x.trans ((Iq.new hp).x.trans (O5.x.trans O6.x))))
end C
local macro_rules | `(tactic| walk_at "w")=>`(tactic| simp only [L3.ai,L3.aq,L3.av,L3.aW,L3.bq,L3.aN,L3.ah,L3.v3,L3.c3,L3.lk,L3.ak,L3.al,L3.ab,L3.eR,L3.aP,L3.iP,L3.lU,L3.ni,L3.cH,L3.nj,L3.nW,L3.r9,L3.eg,L3.uE,L3.l0,L3.ay,L3.bx,L3.gH,L3.bY,L3.ae,L3.oM,L3.cV,L3.wt,L3.se,L3.sf,L3.fj,L3.iD,L3.ck,L3.gM,L3.iF,L3.wH,L3.l8,L3.zE,L3.EH,L3.br,L3.qp,L3.aU,L3.bJ,L3.bG,L3.uD,L3.jv,L3.lX,L3.aZ,L3.fI,L3.jr,List.set_cons_zero,List.set_cons_succ,List.set_nil,L3.p5,L3.dC,L3.qt,L3.aF,L3.aE,L3.bF,L3.bz,L3.cS,L3.Tg.put,L3.Tg.Hi,L3.qw,L3.km,L3.qx,L3.kj,L3.dU,L3.lv,L3.bf,L3.bE,List.reduceReplicate,SH,Tu,List.cons_append,List.nil_append,L3.cx,L3.cR,L3.tI,L3.EW,L3.GN,L3.CD,L3.CF,L3.CG,L3.CH,L3.CI,L3.CJ,L3.CK,L3.CM,L3.CN,L3.aM,String.reduceEq,UM,Vi,SJ,TF,Uv,Ui,TH,Tt,SD,reduceIte,ite_true,ite_false])
local macro_rules | `(tactic| walk_at "y")=>`(tactic| ((try walk_at "x"); (try walk_at "w")))
namespace C
open PySem L2 L3 Wd
noncomputable def Bd.Hf:Bd->Nat
 | .Hj a b=>a.Hf * b.Hf
 | .HI a b=>a.Hf+b.Hf
 | .Hz _ _ a b=>a.Hf+b.Hf
 |_=>1
noncomputable def Bd.Hh:Bd->Nat
 | .HM a=>a.Hf+a.Hh
 | .Hj a b=>a.Hh+b.Hh
 | .HI a b=>a.Hh+b.Hh
 | .Hz _ _ a b=>a.Hh+b.Hh
 |_=>0
theorem Bd.Ik:∀t:Bd,t.Hf<=2 ^ t.size
 | .rest=>by simp[Bd.Hf,Bd.size]
 | .pay _ _=>by simp[Bd.Hf,Bd.size]
 | .put _ _=>by simp[Bd.Hf,Bd.size]
 | .use _=>by simp[Bd.Hf,Bd.size]
 | .HM a=>by simp only[Bd.Hf,Bd.size];exact Nat.one_le_two_pow
 | .Hj a b=>by
  simp only[Bd.Hf,Bd.size]
  refine Su (VN a.Ik b.Ik) ?_
  rw[<-Nat.pow_add]
  exact UN (by decide) (by omega)
 | .HI a b=>by
  simp only[Bd.Hf,Bd.size]
  have h1:2 ^ a.size<=2 ^ (a.size+b.size):=UN (by decide) (by omega)
  have h2:2 ^ b.size<=2 ^ (a.size+b.size):=UN (by decide) (by omega)
  have:=a.Ik
  have:=b.Ik
  rw[Nat.pow_succ]
  omega
 | .Hz _ _ a b=>by
  simp only[Bd.Hf,Bd.size]
  have h1:2 ^ a.size<=2 ^ (a.size+b.size):=UN (by decide) (by omega)
  have h2:2 ^ b.size<=2 ^ (a.size+b.size):=UN (by decide) (by omega)
  have:=a.Ik
  have:=b.Ik
  rw[Nat.pow_succ]
  omega
def Bd.Mj{t:Bd}(h:t.size<=60):(t.Hf:Int) < 2 ^ 64:=by
 have h1:=t.Ik
 have h2:2 ^ t.size<=2 ^ 60:=UN (by decide) h
 omega
abbrev cY(n:Nat)(w:aw):Prop:=∀{S:az} {t:Bd} {Q:bj} {E:bK},t.dep<=n->t.size<=60->Q (.int t.Hf) S->w [t.pv] S Q E
def uT{s0:aw}(n:Nat)(ih:cY n s0):cY (n+1) (aR 1 (cJ s0)):=by
 intro S t Q E hd hs k
 unfold cJ
 refine cC ?_
 rw[show ar 1 [t.pv]=[some t.pv] from rfl]
 cases t with
 |Hj a b=>
  simp only[Bd.dep,Bd.size]at hd hs
  simp only[Bd.pv]
  walk_at "w"
  refine ih (by omega) (by omega) (ih (by omega) (by omega) ⟨CA (by omega) (Bd.Mj (by omega)),?_⟩)
  simpa [Bd.Hf]using k
 |HI a b=>
  simp only[Bd.dep,Bd.size]at hd hs
  simp only[Bd.pv]
  walk_at "w"
  refine ih (by omega) (by omega) (ih (by omega) (by omega) ?_)
  simpa [Bd.Hf]using k
 |Hz z m a b=>
  simp only[Bd.dep,Bd.size]at hd hs
  simp only[Bd.pv]
  walk_at "w"
  refine ih (by omega) (by omega) (ih (by omega) (by omega) ?_)
  simpa [Bd.Hf]using k
 |_=>
  simp only[Bd.pv]
  walk_at "w"
  exact k
abbrev fS(n:Nat)(w:aw):Prop:=∀{S:az} {t:Bd} {Q:bj} {E:bK},t.dep<=n->t.size<=60->Q (.int t.Hh) S->w [t.pv] S Q E
def g_:∀y∈(["then","either","take"]:Vs),PyData.strOk y=true:=by decide +kernel
def jE:∀y∈(["rest","pay","put","use","often","then","either","take"]:Vs),PyData.strOk y=true:=by decide +kernel
def uU{x0 s0:aw}(n m:Nat)(hp:cY m x0)(ih:fS n s0)(hnm:n<=m):fS (n+1) (aR 1 (cw x0 s0)):=by
 intro S t Q E hd hs k
 unfold cw
 refine cC ?_
 rw[show ar 1 [t.pv]=[some t.pv] from rfl]
 have e3:[PV.str "then",PV.str "either",PV.str "take"]=(["then","either","take"]:Vs).map PV.str:=rfl
 cases t with
 |HM a=>
  simp only[Bd.dep,Bd.size]at hd hs
  simp only[Bd.pv]
  walk_at "y"
  refine hp (by omega) (by omega) (ih (by omega) (by omega) ?_)
  simpa [Bd.Hh]using k
 |Hj a b=>
  simp only[Bd.dep,Bd.size]at hd hs
  simp only[Bd.pv]
  walk_at "y"
  rw[e3]
  refine cp (jE _ (by simp)) g_ ?_
  simp[aM]
  refine ih (by omega) (by omega) (ih (by omega) (by omega) ?_)
  simpa [Bd.Hh]using k
 |HI a b=>
  simp only[Bd.dep,Bd.size]at hd hs
  simp only[Bd.pv]
  walk_at "y"
  rw[e3]
  refine cp (jE _ (by simp)) g_ ?_
  simp[aM]
  refine ih (by omega) (by omega) (ih (by omega) (by omega) ?_)
  simpa [Bd.Hh]using k
 |Hz z m a b=>
  simp only[Bd.dep,Bd.size]at hd hs
  simp only[Bd.pv]
  walk_at "y"
  rw[e3]
  refine cp (jE _ (by simp)) g_ ?_
  simp[aM]
  refine ih (by omega) (by omega) (ih (by omega) (by omega) ?_)
  simpa [Bd.Hh]using k
 |_=>
  simp only[Bd.pv]
  walk_at "y"
  rw[e3]
  refine cp (jE _ (by simp)) g_ ?_
  simp[aM]
  simpa [Bd.Hh]using k
abbrev fT(w:aw):Prop:=∀{S:az} {d l:Addr} {js:Vs} {size bound:Int} {Q:bj} {E:bK},Hl S d l->js.length < 2 ^ 61->1<=size->size<=60->
  (∀(t:Bd) S',t.good js []->t.dep<=6->t.size<=60->(t.size:Int)<=max size 4->((t.Hf:Int)+t.Hh<=bound\/(t.Hf:Int)+t.Hh<=2)->Hl S' d l->Iq d l S S'->Q t.pv S')->w [.ref d,.tup (js.map PV.str),.int size,.int bound] S Q E
def ph{x0 x1 x2 x3:aw}(n:Nat)(hn:6<=n)(K8:jD n x0)(N4:cY n x1)(N6:fS n x2)(JK:jC x3):fT (aR 5 (cW x0 x1 x2 x3)):=by
 intro S d l js size bound Q E D hj h1 h2 k
 unfold cW
 refine cC ?_
 rw[show ar 5 [PV.ref d,PV.tup (js.map PV.str),PV.int size,PV.int bound]=[some (.ref d),some (.tup (js.map PV.str)),some (.int size),some (.int bound),none] from rfl]
 refine am fun N hN=>?_
 walk_at "x"
 intro p hp
 have dp:=D.free hp
 refine K8 (D.new hp) aa dp.1 dp.2 hj (by omega) (by omega) (by decide) (by omega) fun t S1 l1 hg hd q0 q1 D1 N1 O1=>?_
 have QD:Iq d l S S1:=fun a o ha h1 h2=>O1 a o (by rw[au (fun e=>by rw[e,hp]at ha;cases ha)];exact ha) h1 h2 (fun e=>by rw[e,hp]at ha;cases ha)
 refine hN _ _ (am fun N hN=>?_)
 simp only[bq,aP,ah,ab,ak,v3,lk,List.set_cons_zero,List.set_cons_succ,zE,aU,fj]
 refine N4 (by omega) (by omega) (N6 (by omega) (by omega) ?_)
 simp only[SE]
 split
 ·walk_at "x"
  refine JK D1 hj fun t2 S2 hl2 NY D2 O2=>JK D2 hj fun t3 S3 hl3 Rv D3 O3=>?_
  refine hN _ _ ?_
  walk_at "x"
  have e2:=Bd.J_ hl2
  have e3:=Bd.J_ hl3
  refine k (.Hj (.HM t2) t3) S3 ⟨NY,Rv⟩ (by simp only[Bd.dep];omega) (by simp only[Bd.size];omega) (by simp only[Bd.size];omega) (.inr ?_) D3 (QD.trans (O2.trans O3))
  have c2:t2.Hf=1/\t2.Hh=0:=by cases t2<;>first|exact⟨rfl,rfl⟩|exact hl2.elim
  have c3:t3.Hf=1/\t3.Hh=0:=by cases t3<;>first|exact⟨rfl,rfl⟩|exact hl3.elim
  simp only[Bd.Hf,Bd.Hh,c2,c3]
  decide
 ·rename_i hb
  walk_at "x"
  refine hN _ _ ?_
  walk_at "x"
  exact k t S1 hg (by omega) (by omega) (by omega) (.inl (by omega)) D1 QD
noncomputable def j3(p:Str×Bd):PV:=.tup [.str p.1,p.2.pv]
noncomputable def jF(js:Vs)(ds:List (Str×Bd)):PV:=.tup [.tup (js.map PV.str),.tup (ds.map j3)]
structure EX (js:Vs) (us:Vs) (ds:List (Str×Bd)):Prop where
 jl:js.length<=16
 dl:ds.length<=16
 jw:∀z∈js,Lq z
 uw:∀z∈us,Lq z
 dw:∀p∈ds,Lq p.1
 gd:∀p∈ds,p.2.good js us
 dp:∀p∈ds,p.2.dep<=60
 sz:∀p∈ds,p.2.size<=60
def Hl.ext{S S':az}{d l:Addr}(D:Hl S d l)(e:Ext S S'):Hl S' d l:=by
 obtain⟨s,n,f,D⟩:=D
 exact⟨s,n,f,e _ _ D.d,e _ _ D.l,D.s0,D.s1,D.nm,D.lf,D.ln⟩
def _root_.L3.Ext.put{p:Addr}{S S':az}{o:SO}(O:Ext S S')(h:S p=none):Ext S (He S' p o):=fun x u hx=>by rw[au (fun e=>by rw[e,h]at hx;cases hx)];exact O x u hx
def CO{α:Type}{xs:List α}{n:Nat}(h:n<=xs.length):ju xs none (some (n:Int))=xs.take n:=by
 unfold ju
 rw[HT.vK,HT.yU,List.drop_zero,Nat.min_eq_left h]
 rfl
def zN{x:PV}{n:Nat}{a b:List PV}(e:bM 0 n=a++x::b):x = .int a.length/\a.length < n:=by
 have h1:(bM 0 n)[a.length]?=some x:=by rw[e];simp
 unfold bM at h1
 rw[SA]at h1
 have hl:a.length < n:=by
  have:=T6 List.length e
  rw[fu,Sn,SN]at this
  omega
 rw[Up hl]at h1
 simp at h1
 exact⟨h1.symm,hl⟩
def CP{α:Type}{xs:List α}{n:Nat}{v:α}(h:xs[n]?=some v):Ii xs (n:Int)=some v:=b9 h
noncomputable def Bd.sides:Bd->List Bd
 | .HM a=>[a]
 | .Hj a b=>[a,b]
 | .HI a b=>[a,b]
 | .Hz _ _ a b=>[a,b]
 |_=>[]
noncomputable def Bd.parts:Bd->List Bd
 | .HM a=>.HM a::a.parts
 | .Hj a b=>.Hj a b::(a.parts++b.parts)
 | .HI a b=>.HI a b::(a.parts++b.parts)
 | .Hz z m a b=>.Hz z m a b::(a.parts++b.parts)
 |t=>[t]
def Bd.Lx(t:Bd):t.parts=t::t.sides.flatMap Bd.parts:=by cases t<;>simp[Bd.parts,Bd.sides]
theorem Bd.HD:∀t:Bd,t.parts.length=t.size
 | .rest=>rfl
 | .pay _ _=>rfl
 | .put _ _=>rfl
 | .use _=>rfl
 | .HM a=>by simp only[Bd.parts,Bd.size,List.length_cons,a.HD]
 | .Hj a b=>by simp only[Bd.parts,Bd.size,List.length_cons,Sn,a.HD,b.HD]
 | .HI a b=>by simp only[Bd.parts,Bd.size,List.length_cons,Sn,a.HD,b.HD]
 | .Hz _ _ a b=>by simp only[Bd.parts,Bd.size,List.length_cons,Sn,a.HD,b.HD]
def Bd.Ly{t u:Bd}(h:u∈t.sides):u.dep < t.dep/\u.size < t.size:=by
 cases t<;>simp[Bd.sides]at h
 ·subst h;simp[Bd.dep,Bd.size]
 all_goals (rcases h with rfl|rfl<;>simp only[Bd.dep,Bd.size]<;>omega)
abbrev ip(w:aw):Prop:=∀{S:az} {t:Bd} {Q:bj} {E:bK},Q (.tup (t.sides.map Bd.pv)) S->w [t.pv] S Q E
def JE:ip (aR 1 iU):=by
 intro S t Q E k
 unfold iU
 refine cC ?_
 rw[show ar 1 [t.pv]=[some t.pv] from rfl]
 cases t<;>(unfold Bd.pv;walk_at "y"; simp only[tD,ah,v3,lk,c3,ae,cx,oM,al,ak,bG,k_SIDES_FROM,List.find?,sS,String.reduceEq,UM,Vi,Option.map,Option.getD];exact k)
abbrev eF(n:Nat)(w:aw):Prop:=∀{S:az} {t:Bd} {Q:bj} {E:bK},t.dep<=n->t.size<=900->(∀p S',S p=none->Ext S S'->S' p=some (.lst (t.parts.map Bd.pv))->Q (.ref p) S')->w [t.pv] S Q E
def Ky{xs s0:aw}(JE:ip xs)(n:Nat)(ih:eF n s0):eF (n+1) (aR 3 (iV xs s0)):=by
 intro S t Q E hd hs k
 unfold iV
 refine cC ?_
 rw[show ar 3 [t.pv]=[some t.pv,none,none] from rfl]
 refine am fun N hN=>?_
 walk_at "x"
 intro p hp
 have X0:Ext S (He S p (.lst [t.pv])):=.new hp
 have hp0:(He S p (.lst [t.pv])) p=some (.lst [t.pv]):=aa
 generalize He S p (.lst [t.pv])=S0 at X0 hp0
 refine hN _ _ (am fun N hN=>?_)
 simp only[bz,aE,ab,ak,v3,lk]
 refine JE ?_
 simp only[bF]
 refine bb (fun done σ S'=>∃(ts:List Bd) (x:Option PV) (rs:List Bd),done=ts.map Bd.pv/\t.sides=ts++rs/\σ=[some t.pv,some (.ref p),x]/\Ext S S'/\S' p=some (.lst ((t::ts.flatMap Bd.parts).map Bd.pv))) ⟨[],_,t.sides,rfl,rfl,rfl,X0,hp0⟩ (fun _ _ _ _=>trivial) ?_ ?_
 ·rintro done x rest σ S1 K e ⟨ts,y,rs,rfl,es,rfl,X1,h1⟩ hK
  rw[es,Te]at e
  have e2:=List.append_cancel_left e
  rcases rs with _|⟨r,rs⟩
  ·cases e2
  rw[SH,List.cons.injEq]at e2
  obtain⟨rfl,e3⟩:=e2
  have hr:r∈t.sides:=by rw[es];simp
  have hrd:=Bd.Ly hr
  walk_at "x"
  refine⟨by rw[h1];trivial,ih (t:=r) (by omega) (by omega) fun q S2 hq X2 h2=>?_⟩
  simp only[X2 _ _ h1,h2]
  have hlen:(t::ts.flatMap Bd.parts).length+r.parts.length<=t.size:=by
   rw[<-Bd.HD t,Bd.Lx t,es,Ub,Ur]
   simp only[List.length_cons,Sn]
   omega
  refine⟨dM (by simp only[Sm]at *;omega),?_⟩
  refine hK _ _ ⟨ts++[r],_,rs,by simp,by rw[es];simp,rfl,(X1.trans X2).put hp,?_⟩
  rw[aa,Ub]
  simp
 ·rintro σ S1 ⟨ts,y,rs,e,es,rfl,X1,h1⟩
  refine hN _ _ ?_
  walk_at "x"
  have ez:rs=[]:=by
   have:=T6 List.length e
   rw[es]at this
   simp at this
   exact this
  subst ez
  rw[Ti]at es
  rw[<-es,<-Bd.Lx]at h1
  exact k p S1 hp X1 h1
noncomputable def heads:List Str:=["rest","pay","put","use","often","then","either","take"]
def uV:∀z∈heads,PyData.strOk z=true:=by decide +kernel
structure JI (n:Nat) (js us:Vs) (ds:List (Str×Bd)):Prop extends EX js us ds where
 jn:js.Nodup
 dn:(ds.map Prod.fst).Nodup
 dq:∀p∈ds,p.2.dep<=n
def hG{xs:List PV}{x:PV}{a b:List PV}(e:L3.aS xs=a++x::b):∃y,x = .tup [.int a.length,y]/\xs[a.length]?=some y:=by
 have h1:(L3.aS xs)[a.length]?=some x:=by rw[e];simp
 unfold L3.aS at h1
 rw[VM]at h1
 cases h:xs[a.length]? with
 |none=>rw[h]at h1;cases h1
 |some y=>
  rw[h]at h1
  simp only[Option.map_some,WR]at h1
  exact⟨y,h1.symm,rfl⟩
noncomputable def bP:Bd->PV->Bool
 | .HM a,.tup gs=>gs.all fun g=>match g with | .tup [.int m,tr]=>decide (1<=m)&&bP a tr|_=>false
 | .Hj a b,.tup [x,y]=>bP a x&&bP b y
 | .HI a b,.tup [.int i,y]=>if i=0 then bP a y else if i=1 then bP b y else false
 | .Hz _ _ a b,.tup [.int i,y]=>if i=0 then bP a y else if i=1 then bP b y else false
 | .rest,.tup []=>true
 | .pay _ _,.tup []=>true
 | .put _ _,.tup []=>true
 | .use _,.tup []=>true
 |_,_=>false
noncomputable def zO(a:Bd):PV->Bool
 | .tup [.int m,tr]=>decide (1<=m)&&bP a tr
 |_=>false
def qG(a b:Bd)(x y:PV):bP (.Hj a b) (.tup [x,y])=(bP a x&&bP b y):=rfl
def mr(a b:Bd)(i:Int)(y:PV):bP (.HI a b) (.tup [.int i,y])=if i=0 then bP a y else if i=1 then bP b y else false:=rfl
def ms(z:Str)(m:Int)(a b:Bd)(i:Int)(y:PV):bP (.Hz z m a b) (.tup [.int i,y])=if i=0 then bP a y else if i=1 then bP b y else false:=rfl
def wV(a:Bd)(gs:List PV):bP (.HM a) (.tup gs)=gs.all (zO a):=rfl
abbrev mv(w:aw):Prop:=∀{S:az} {a b:Bd} {hd:List PV} {i:Int} {y:PV} {Q:bj} {E:bK},(i=0\/i=1)->hd.length<=3->Q (if i=0 then a.pv else b.pv) S->w [.tup (hd++[a.pv,b.pv]),.tup [.int i,y]] S Q E
def Ki:mv (aR 2 l9):=by
 intro S a b hd i y Q E hi hl k
 unfold l9
 refine cC ?_
 rw[show ar 2 [PV.tup (hd++[a.pv,b.pv]),PV.tup [.int i,y]]=[some (.tup (hd++[a.pv,b.pv])),some (.tup [.int i,y])] from rfl]
 walk_at "y"
 have e:Ii (hd++[a.pv,b.pv]) (-2+i)=some (if i=0 then a.pv else b.pv):=by
  unfold Ii rA
  rcases hi with rfl|rfl
  ·rw[if_neg (by omega),if_pos (by simp;omega)]
   have:(-2+0+((hd++[a.pv,b.pv]).length:Int)).toNat=hd.length:=by simp;omega
   rw[this,if_pos rfl]
   show(hd++[a.pv,b.pv])[hd.length]?=some a.pv
   simp
  ·rw[if_neg (by omega),if_pos (by simp;omega)]
   have:(-2+1+((hd++[a.pv,b.pv]).length:Int)).toNat=hd.length+1:=by simp;omega
   rw[this,if_neg (by decide)]
   show(hd++[a.pv,b.pv])[hd.length+1]?=some b.pv
   simp
 rw[e]
 exact k
def su{xs:List PV}(h:xs.length=2):∃x y,xs=[x,y]:=by
 match xs,h with
 |[x,y],_=>exact⟨x,y,rfl⟩
def pk{a b:Bd}{xs:List PV}(h:xs.length≠2):bP (.Hj a b) (.tup xs)=false:=by
 match xs,h with
 |[],_=>rfl
 |[_],_=>rfl
 |[_,_],h=>exact absurd rfl h
 |_::_::_::_,_=>rfl
def pA{a b:Bd}{xs:List PV}(h:xs.length≠2):bP (.HI a b) (.tup xs)=false:=by
 match xs,h with
 |[],_=>rfl
 |[x],_=>cases x<;>rfl
 |[_,_],h=>exact absurd rfl h
 |x::_::_::_,_=>cases x<;>rfl
def pB{z:Str}{m:Int}{a b:Bd}{xs:List PV}(h:xs.length≠2):bP (.Hz z m a b) (.tup xs)=false:=by
 match xs,h with
 |[],_=>rfl
 |[x],_=>cases x<;>rfl
 |[_,_],h=>exact absurd rfl h
 |x::_::_::_,_=>cases x<;>rfl
def jG(t:Bd)(z:Str):bP t (.str z)=false:=by cases t<;>rfl
def jH(t:Bd)(i:Int):bP t (.int i)=false:=by cases t<;>rfl
noncomputable def Bd.hd:Bd->Str
 | .rest=>"rest" | .pay _ _=>"pay" | .put _ _=>"put" | .use _=>"use" | .HM _=>"often" | .Hj _ _=>"then" | .HI _ _=>"either" | .Hz _ _ _ _=>"take"
noncomputable def Bd.tl:Bd->List PV
 | .rest=>[] | .pay x y=>[.tup [.int x,.int y]] | .put z m=>[.str z,.int m] | .use z=>[.str z] | .HM a=>[a.pv] | .Hj a b=>[a.pv,b.pv] | .HI a b=>[a.pv,b.pv] | .Hz z m a b=>[.str z,.int m,a.pv,b.pv]
def Bd.Jy(t:Bd):t.pv = .tup (.str t.hd::t.tl):=by cases t<;>rfl
def Bd.KO(t:Bd):PyData.strOk t.hd=true:=by cases t<;>exact uV _ (by simp[heads,Bd.hd])
def Bd.My(t:Bd):t.hd=("then":Str)↔∃a b,t = .Hj a b:=by cases t<;>simp[Bd.hd,aM]
def Bd.Mz(t:Bd):t.hd=("often":Str)↔∃a,t = .HM a:=by cases t<;>simp[Bd.hd,aM]
def pC:([PV.str "then",PV.str "either",PV.str "take"]:List PV)=(["then","either","take"]:Vs).map PV.str:=rfl
theorem kB:∀bs:List Bool,k6 (bs.map PV.bl)=some bs
 |[]=>rfl
 |b::bs=>by rw[SH];unfold k6;rw[kB bs];rfl
def iq{a b:PV}{hd:List PV}{i:Int}(hi:i=0\/i=1):Ii (hd++[a,b]) (i - 2)=some (if i=0 then a else b):=by
 unfold Ii rA
 rcases hi with rfl|rfl
 ·rw[if_neg (by omega),if_pos (by simp;omega)]
  have:(0 - 2+((hd++[a,b]).length:Int)).toNat=hd.length:=by simp;omega
  rw[this,if_pos rfl]
  show(hd++[a,b])[hd.length]?=some a
  simp
 ·rw[if_neg (by omega),if_pos (by simp;omega)]
  have:(1 - 2+((hd++[a,b]).length:Int)).toNat=hd.length+1:=by simp;omega
  rw[this,if_neg (by decide)]
  show(hd++[a,b])[hd.length+1]?=some b
  simp
def AR:∀z∈(["either","take"]:Vs),PyData.strOk z=true:=by decide +kernel
noncomputable def Bd.JW:Bd->PV
 | .Hj a b=>.tup [a.JW,b.JW]
 | .HI a _=>.tup [.int 0,a.JW]
 | .Hz _ _ _ b=>.tup [.int 1,b.JW]
 |_=>.tup []
abbrev ir(n:Nat)(w:aw):Prop:=∀{S:az} {t:Bd} {Q:bj} {E:bK},t.dep<=n->Q t.JW S->w [t.pv] S Q E
def wW{s0:aw}(n:Nat)(ih:ir n s0):ir (n+1) (aR 1 (eU s0)):=by
 intro S t Q E hd k
 unfold eU
 refine cC ?_
 rw[show ar 1 [t.pv]=[some t.pv] from rfl]
 cases t with
 |Hj a b=>
  simp only[Bd.dep]at hd
  rw[show(Bd.Hj a b).pv = .tup [.str "then",a.pv,b.pv] from rfl]
  walk_at "y"
  refine ih (by omega) ?_
  exact ih (by omega) k
 |HI a b=>
  simp only[Bd.dep]at hd
  rw[show(Bd.HI a b).pv = .tup [.str "either",a.pv,b.pv] from rfl]
  walk_at "y"
  exact ih (by omega) k
 |Hz z m a b=>
  simp only[Bd.dep]at hd
  rw[show(Bd.Hz z m a b).pv = .tup [.str "take",.str z,.int m,a.pv,b.pv] from rfl]
  walk_at "y"
  exact ih (by omega) k
 |HM a=>
  rw[show(Bd.HM a).pv = .tup [.str "often",a.pv] from rfl]
  walk_at "y"
  exact k
 |rest=>
  rw[show(Bd.rest).pv = .tup [.str "rest"] from rfl]
  walk_at "y"
  exact k
 |pay x y=>
  rw[show(Bd.pay x y).pv = .tup [.str "pay",.tup [.int x,.int y]] from rfl]
  walk_at "y"
  exact k
 |put z m=>
  rw[show(Bd.put z m).pv = .tup [.str "put",.str z,.int m] from rfl]
  walk_at "y"
  exact k
 |use z=>
  rw[show(Bd.use z).pv = .tup [.str "use",.str z] from rfl]
  walk_at "y"
  exact k
noncomputable def Bd.JP:Bd->Bool | .HM _=>true|_=>false
abbrev kC(n:Nat)(w:aw):Prop:=∀{S:az} {t:Bd} {Q:bj} {E:bK},t.dep<=n->t.size<=900->(∀S',Ext S S'->Q (.int t.size) S')->w [t.pv] S Q E
def uW{xp:aw}(n:Nat)(Ky:eF n xp):kC n (aR 1 (oY xp)):=by
 intro S t Q E hd hs k
 unfold oY
 refine cC ?_
 rw[show ar 1 [t.pv]=[some t.pv] from rfl]
 walk_at "x"
 refine Ky hd hs fun p S1 hp X1 h1=>?_
 simp only[h1,Sm,t.HD]
 exact k S1 X1
noncomputable def Bd.led:Bd->Nat->PV->PV
 |_,0,v=>v
 | .HM a,p+1,v=>.tup [.tup [.int 1,a.led p v]]
 | .Hj a b,p+1,v=>if p < a.size then .tup [a.led p v,b.JW] else .tup [a.JW,b.led (p - a.size) v]
 | .HI a b,p+1,v=>if p < a.size then .tup [.int 0,a.led p v] else .tup [.int 1,b.led (p - a.size) v]
 | .Hz _ _ a b,p+1,v=>if p < a.size then .tup [.int 0,a.led p v] else .tup [.int 1,b.led (p - a.size) v]
 |_,_+1,v=>v
abbrev jI(n:Nat)(w:aw):Prop:=∀{S:az} {t:Bd} {p:Nat} {v:PV} {Q:bj} {E:bK},t.dep<=n->t.size<=900->p < t.size->(∀S',Ext S S'->Q (t.led p v) S')->w [t.pv,.int p,v] S Q E
def zP{xp xt s0:aw}(n m:Nat)(hm:n<=m)(LV:kC m xp)(Na:ir m xt)(ih:jI n s0):jI (n+1) (aR 8 (eV xp xt s0)):=by
 intro S t p v Q E hd hs hp k
 unfold eV
 refine cC ?_
 rw[show ar 8 [t.pv,PV.int p,v]=[some t.pv,some (.int p),some v,none,none,none,none,none] from rfl]
 refine am fun N hN=>?_
 walk_at "x"
 simp only[SJ,SE]
 cases p with
 |zero=>
  rw[if_pos (show((0:Nat):Int)=0 from rfl)]
  have:=k S .refl
  cases t<;>exact this
 |succ p=>
  rw[if_neg (by omega)]
  refine hN _ _ (am fun N hN=>?_)
  have ep:(((p+1:Nat):Int) - 1)=(p:Int):=by omega
  cases t with
  |HM a=>
   simp only[Bd.size]at hs hp
   simp only[Bd.dep]at hd
   rw[show(Bd.HM a).pv = .tup [.str "often",a.pv] from rfl]
   walk_at "y"
   rw[ep]
   exact ih (by omega) (by omega) (by omega) k
  |rest=>simp only[Bd.size]at hp;omega
  |pay=>simp only[Bd.size]at hp;omega
  |put=>simp only[Bd.size]at hp;omega
  |use=>simp only[Bd.size]at hp;omega
  |Hj a b=>
   simp only[Bd.size]at hs hp
   simp only[Bd.dep]at hd
   rw[show(Bd.Hj a b).pv = .tup [.str "then",a.pv,b.pv] from rfl]
   walk_at "y"
   refine hN _ _ (am fun N hN=>?_)
   walk_at "y"
   refine hN _ _ (am fun N hN=>?_)
   walk_at "y"
   refine hN _ _ (am fun N hN=>?_)
   walk_at "y"
   refine LV (by omega) (by omega) fun S1 X1=>?_
   refine hN _ _ (am fun N hN=>?_)
   walk_at "x"
   by_cases hl:p < a.size
   ·have e1:decide (((p+1:Nat):Int) < 1+(a.size:Int))=true:=Tp (by omega)
    rw[e1]
    simp only[TH]
    refine hN _ _ (am fun N hN=>?_)
    walk_at "y"
    rw[ep]
    refine ih (by omega) (by omega) hl fun S2 X2=>?_
    refine hN _ _ (am fun N hN=>?_)
    walk_at "y"
    refine hN _ _ (am fun N hN=>?_)
    walk_at "y"
    refine Na (by omega) ?_
    have:=k S2 (X1.trans X2)
    simp only[Bd.led,if_pos hl]at this
    exact this
   ·have e1:decide (((p+1:Nat):Int) < 1+(a.size:Int))=false:=Tc (by omega)
    rw[e1]
    simp only[SD,Tt]
    refine hN _ _ (am fun N hN=>?_)
    have e2:(((p+1:Nat):Int) - (1+(a.size:Int)))=((p - a.size:Nat):Int):=by omega
    have e4:decide ((1:Int)=0)=false:=by decide
    walk_at "y"
    simp only[e4,SD,Tt]
    rw[e2]
    refine ih (by omega) (by omega) (by omega) fun S2 X2=>?_
    refine hN _ _ (am fun N hN=>?_)
    walk_at "y"
    refine hN _ _ (am fun N hN=>?_)
    walk_at "y"
    simp only[e4,SD,Tt]
    refine hN _ _ ?_
    walk_at "y"
    refine Na (by omega) ?_
    have:=k S2 (X1.trans X2)
    simp only[Bd.led,if_neg hl]at this
    exact this
  |HI a b=>
   simp only[Bd.size]at hs hp
   simp only[Bd.dep]at hd
   rw[show(Bd.HI a b).pv = .tup [.str "either",a.pv,b.pv] from rfl]
   walk_at "y"
   refine hN _ _ (am fun N hN=>?_)
   walk_at "y"
   refine hN _ _ (am fun N hN=>?_)
   walk_at "y"
   refine hN _ _ (am fun N hN=>?_)
   walk_at "y"
   refine LV (by omega) (by omega) fun S1 X1=>?_
   refine hN _ _ (am fun N hN=>?_)
   walk_at "x"
   by_cases hl:p < a.size
   ·have e1:decide (((p+1:Nat):Int) < 1+(a.size:Int))=true:=Tp (by omega)
    rw[e1]
    simp only[TH]
    refine hN _ _ (am fun N hN=>?_)
    walk_at "y"
    rw[ep]
    refine ih (by omega) (by omega) hl fun S2 X2=>?_
    refine hN _ _ (am fun N hN=>?_)
    walk_at "y"
    have:=k S2 (X1.trans X2)
    simp only[Bd.led,if_pos hl]at this
    exact this
   ·have e1:decide (((p+1:Nat):Int) < 1+(a.size:Int))=false:=Tc (by omega)
    rw[e1]
    simp only[SD,Tt]
    refine hN _ _ (am fun N hN=>?_)
    have e2:(((p+1:Nat):Int) - (1+(a.size:Int)))=((p - a.size:Nat):Int):=by omega
    have e4:decide ((1:Int)=0)=false:=by decide
    walk_at "y"
    simp only[e4,SD,Tt]
    rw[e2]
    refine ih (by omega) (by omega) (by omega) fun S2 X2=>?_
    refine hN _ _ (am fun N hN=>?_)
    walk_at "y"
    have:=k S2 (X1.trans X2)
    simp only[Bd.led,if_neg hl]at this
    exact this
  |Hz z q a b=>
   simp only[Bd.size]at hs hp
   simp only[Bd.dep]at hd
   rw[show(Bd.Hz z q a b).pv = .tup [.str "take",.str z,.int q,a.pv,b.pv] from rfl]
   walk_at "y"
   refine hN _ _ (am fun N hN=>?_)
   walk_at "y"
   refine hN _ _ (am fun N hN=>?_)
   walk_at "y"
   refine hN _ _ (am fun N hN=>?_)
   walk_at "y"
   refine LV (by omega) (by omega) fun S1 X1=>?_
   refine hN _ _ (am fun N hN=>?_)
   walk_at "x"
   by_cases hl:p < a.size
   ·have e1:decide (((p+1:Nat):Int) < 1+(a.size:Int))=true:=Tp (by omega)
    rw[e1]
    simp only[TH]
    refine hN _ _ (am fun N hN=>?_)
    walk_at "y"
    rw[ep]
    refine ih (by omega) (by omega) hl fun S2 X2=>?_
    refine hN _ _ (am fun N hN=>?_)
    walk_at "y"
    have:=k S2 (X1.trans X2)
    simp only[Bd.led,if_pos hl]at this
    exact this
   ·have e1:decide (((p+1:Nat):Int) < 1+(a.size:Int))=false:=Tc (by omega)
    rw[e1]
    simp only[SD,Tt]
    refine hN _ _ (am fun N hN=>?_)
    have e2:(((p+1:Nat):Int) - (1+(a.size:Int)))=((p - a.size:Nat):Int):=by omega
    have e4:decide ((1:Int)=0)=false:=by decide
    walk_at "y"
    simp only[e4,SD,Tt]
    rw[e2]
    refine ih (by omega) (by omega) (by omega) fun S2 X2=>?_
    refine hN _ _ (am fun N hN=>?_)
    walk_at "y"
    have:=k S2 (X1.trans X2)
    simp only[Bd.led,if_neg hl]at this
    exact this
mutual
/-- no great whole number within -/
noncomputable def jJ(b:Nat):PV->Bool
 | .int i=>decide (i.natAbs<=b)
 | .tup xs=>intBs b xs
 |_=>true
noncomputable def intBs(b:Nat):List PV->Bool
 |[]=>true
 |x::r=>jJ b x&&intBs b r
end
theorem intBs_iff{b:Nat}:∀{xs:List PV},intBs b xs=true↔∀x∈xs,jJ b x=true
 |[]=>by simp[intBs]
 |x::r=>by simp[intBs,intBs_iff (xs:=r)]
def fw{b:Nat}{xs:List PV}(h:jJ b (.tup xs)=true):∀x∈xs,jJ b x=true:=by simp only[jJ]at h;exact intBs_iff.mp h
noncomputable def cf(n:Int):PV:=.tup [.int (M3.aO n 2520),.int (M3.aC n 2520)]
def dN:(.tup [.int 0,.int 1]:PV)=cf 0:=by
 have h1:M3.aO 0 2520=0:=by decide +kernel
 have h2:M3.aC 0 2520=1:=by decide +kernel
 unfold cf
 rw[h1,h2]
def sw(n:Int):M3.Dy (M3.aO n 2520) (M3.aC n 2520):=M3.jp (by decide)
def hU(n:Int):M3.aO n 2520 * 2520=n * M3.aC n 2520:=M3.bC (by decide)
def fU(n:Int):0 < M3.aC n 2520/\M3.aC n 2520<=2520:=by
 refine⟨(sw n).pos,?_⟩
 unfold M3.aC
 rw[if_neg (by decide)]
 exact Wr _ (by decide)
def kD{n:Int}(h:0<=n):0<=M3.aO n 2520:=by
 unfold M3.aO
 rw[if_neg (by decide)]
 exact VG h (Int.natCast_nonneg _)
def tJ{x y:Int}(h:uQ x y):(.tup [.int x,.int y]:PV)=cf (x * (2520 / y)):=by
 have hy:y=1\/y=2\/y=3\/y=4\/y=5\/y=6\/y=7\/y=8\/y=9:=by have:=h.low.pos;have:=h.y1;omega
 have e:2520 / y * y=2520:=by rcases hy with rfl|rfl|rfl|rfl|rfl|rfl|rfl|rfl|rfl<;>decide
 have u:=M3.dS h.low (x:=x * (2520 / y)) (y:=2520) (by decide) (by rw[VX,e])
 unfold cf
 rw[u.1,u.2]
def tK(n m:Int):(.tup [.int (M3.aO (M3.aO n 2520 * M3.aC m 2520+M3.aO m 2520 * M3.aC n 2520) (M3.aC n 2520 * M3.aC m 2520)),.int (M3.aC (M3.aO n 2520 * M3.aC m 2520+M3.aO m 2520 * M3.aC n 2520) (M3.aC n 2520 * M3.aC m 2520))]:PV)=cf (n+m):=by
 have u:=M3.dS (sw (n+m)) (x:=M3.aO n 2520 * M3.aC m 2520+M3.aO m 2520 * M3.aC n 2520) (y:=M3.aC n 2520 * M3.aC m 2520) (UY (fU n).1 (fU m).1) (by
  have h1:=hU n;have h2:=hU m;have h3:=hU (n+m)
  generalize M3.aO n 2520=a at *;generalize M3.aC n 2520=b at *;generalize M3.aO m 2520=c at *;generalize M3.aC m 2520=d at *
  generalize M3.aO (n+m) 2520=L at *;generalize M3.aC (n+m) 2520=B at *
  grind)
 unfold cf
 rw[u.1,u.2]
def wX(n m:Int):(.tup [.int (M3.aO (M3.aO n 2520 * m) (M3.aC n 2520 * 1)),.int (M3.aC (M3.aO n 2520 * m) (M3.aC n 2520 * 1))]:PV)=cf (n * m):=by
 have u:=M3.dS (sw (n * m)) (x:=M3.aO n 2520 * m) (y:=M3.aC n 2520 * 1) (by rw[Int.mul_one];exact(fU n).1) (by
  have h1:=hU n;have h3:=hU (n * m)
  generalize M3.aO n 2520=a at *;generalize M3.aC n 2520=b at *
  generalize M3.aO (n * m) 2520=L at *;generalize M3.aC (n * m) 2520=B at *
  grind)
 unfold cf
 rw[u.1,u.2]
abbrev Ty:=Int×List (Int×Int)
noncomputable def jn(p q:Int×Int):Int×Int:=(p.1+q.1,if q.2 - p.1 > p.2 then q.2 - p.1 else p.2)
noncomputable def Ty.join(t u:Ty):Ty:=(t.1+u.1,List.zipWith jn t.2 u.2)
noncomputable def ag(m:Int)(p:Int×Int):Int×Int:=(p.1 * m,p.2+(if -p.1 * (m - 1) > 0 then -p.1 * (m - 1) else 0))
noncomputable def Ty.again(m:Int)(t:Ty):Ty:=(t.1 * m,t.2.map (ag m))
noncomputable def zl(js:Vs):List (Int×Int):=js.map fun _=>(0,0)
noncomputable def z0(js:Vs):Ty:=(0,zl js)
def uX{m:Int}{p:Int×Int}(h:0<=p.2):0<=(ag m p).2:=by
 simp only[ag]
 split<;>omega
def Ty.Ok(js:Vs)(t:Ty):Prop:=t.2.length=js.length/\0<=t.1/\∀p∈t.2,0<=p.2
theorem qH{α β:Type}(f:α->α->β):∀l:List α,List.zipWith f l l=l.map fun x=>f x x
 |[]=>rfl
 |x::r=>by rw[List.zipWith_cons_cons,qH f r];rfl
theorem jK{α β γ:Type}{f:α->β->γ}:∀{xs:List α} {ys:List β} {z:γ},z∈List.zipWith f xs ys->∃x∈xs,∃y∈ys,z=f x y
 |[],_,z,h=>by simp at h
 |_::_,[],z,h=>by simp at h
 |x::r,y::s,z,h=>by
  rw[List.zipWith_cons_cons,Sv]at h
  rcases h with rfl|h
  ·exact⟨x,by simp,y,by simp,rfl⟩
  ·obtain⟨a,ha,b,hb,e⟩:=jK h
   exact⟨a,by simp[ha],b,by simp[hb],e⟩
theorem Ty.Ok.join{js:Vs}{t u:Ty}(h:t.Ok js)(g:u.Ok js):(t.join u).Ok js:=by
 refine⟨?_,?_,fun p hp=>?_⟩
 ·show(List.zipWith jn t.2 u.2).length=_
  rw[List.length_zipWith,h.1,g.1,Nat.min_self]
 ·exact Int.add_nonneg h.2.1 g.2.1
 ·obtain⟨x,hx,y,hy,rfl⟩:=jK hp
  have:=h.2.2 x hx
  simp only[jn]
  split<;>omega
theorem Ty.Ok.again{js:Vs}{t:Ty}{m:Int}(h:t.Ok js)(hm:1<=m):(t.again m).Ok js:=by
 refine⟨?_,Us h.2.1 (by omega),fun p hp=>?_⟩
 ·show(t.2.map (ag m)).length=_
  rw[Sm,h.1]
 ·obtain⟨x,hx,rfl⟩:=SQ.mp hp
  exact uX (h.2.2 x hx)
def ol(js:Vs):(z0 js).Ok js:=⟨Sm _,Wz _,fun p hp=>by obtain⟨x,hx,rfl⟩:=SQ.mp hp;exact Wz _⟩
def Ty.MP(B:Int)(t:Ty):Prop:=t.1<=B/\∀p∈t.2,-B<=p.1/\p.1<=B/\p.2<=B
def Ty.MP.mono{B D:Int}{t:Ty}(h:t.MP B)(g:B<=D):t.MP D:=⟨Int.le_trans h.1 g,fun p hp=>by have:=h.2 p hp;omega⟩
theorem Ty.MP.join{B D:Int}{t u:Ty}(h:t.MP B)(g:u.MP D)(hB:0<=B)(hD:0<=D):(t.join u).MP (B+D):=by
 refine⟨Int.add_le_add h.1 g.1,fun p hp=>?_⟩
 obtain⟨x,hx,y,hy,rfl⟩:=jK hp
 have:=h.2 x hx
 have:=g.2 y hy
 simp only[jn]
 split<;>omega
theorem aQ{α:Type}{g:Tg}{te:bc}{σ':cF}{keep:az->Prop}{fin:List PV->az->Prop}{S:az}(enc f:α->PV)(hk:keep S):∀(xs:List α) (ys:List PV),
  (∀x∈xs,∃σ2,g.put (enc x) σ'=some σ2/\∀Q:bj,Q (f x) S->te σ2 S Q dW)->ys.length+xs.length<=sizeLine->fin (ys++xs.map f) S->dA g bH te σ' keep fin (xs.map enc) ys S
 |[],ys,_,hl,hf=>⟨hk,by simpa using hl,by simpa using hf⟩
 |x::r,ys,h,hl,hf=>by
  obtain⟨σ2,e,h1⟩:=h x (by simp)
  refine⟨hk,by simp at hl;omega,?_⟩
  rw[e]
  show te σ2 S (fun y S4=>dA g bH te σ' keep fin (r.map enc) (ys++[y]) S4) dW
  exact h1 _ (aQ enc f hk r (ys++[f x]) (fun y hy=>h y (by simp[hy])) (by simp at hl ⊢;omega) (by simpa using hf))
def bN{n:Nat}(h:n<=1000):n<=sizeLine:=Su h (by decide)
abbrev mw(w:aw):Prop:=∀{S:az} {a b:Int} {Q:bj} {E:bK},0<=a->0<=b->Q (.int (Int.gcd a b)) S->w [.int a,.int b] S Q E
def ID:mw (aR 3 gT):=by
 intro S a b Q E ha hb k
 unfold gT
 refine cC ?_
 rw[show ar 3 [PV.int a,PV.int b]=[some (.int a),some (.int b),none] from rfl]
 refine am fun N hN=>?_
 refine⟨fun n σ S'=>S'=S/\∃(x y:Int) (z:Option PV),σ=[some (.int x),some (.int y),z]/\0<=x/\0<=y/\Int.gcd x y=Int.gcd a b/\y.toNat=n,⟨_,rfl,a,b,none,rfl,ha,hb,rfl,rfl⟩,?_⟩
 rintro n σ S' ⟨rfl,x,y,z,rfl,hx,hy,hg,rfl⟩
 walk_at "x"
 simp only[TF,WV,Vy]
 split
 ·rename_i hp
  refine⟨fun σ' K0=>K0=S'/\∃(x' y':Int) (z':Option PV),σ'=[some (.int x'),some (.int y'),z']/\0<=x'/\0<=y'/\Int.gcd x' y'=Int.gcd a b/\y'.toNat < y.toNat,?_,?_⟩
  ·rintro σ' K0 ⟨rfl,x',y',z',rfl,h1,h2,h3,h4⟩
   exact⟨_,h4,rfl,x',y',z',rfl,h1,h2,h3,rfl⟩
  ·have e:x.fmod y=x % y:=gY hy
   have l1:=V3 x (b:=y) hp
   have l2:=VE x (show 0 < y by omega)
   refine⟨hp,rfl,y,x.fmod y,_,rfl,hy,by omega,?_,by omega⟩
   rw[M3.lS];exact hg
 ·rename_i hp
  have M_:y=0:=by omega
  subst M_
  refine hN _ _ ?_
  walk_at "x"
  rw[if_neg (by omega)]
  have N0:x=(Int.gcd a b:Int):=by
   rw[<-hg]
   rw[WL]
   omega
  rw[N0]
  exact k
abbrev mx(w:aw):Prop:=∀{S:az} {t b:Int} {Q:bj} {E:bK},0<=t->0 < b->b.natAbs < 2 ^ 8000->Q (.tup [.int (M3.aO t b),.int (M3.aC t b)]) S->w [.int t,.int b] S Q E
def Hm{xc:aw}(ID:mw xc):mx (aR 3 (dX xc)):=by
 intro S t b Q E ht hb hs k
 unfold dX
 refine cC ?_
 rw[show ar 3 [PV.int t,PV.int b]=[some (.int t),some (.int b),none] from rfl]
 refine am fun N hN=>?_
 walk_at "x"
 refine ID ht (by omega) (hN _ _ (am fun N hN=>?_))
 walk_at "x"
 rw[if_neg (by rw[SE];omega)]
 refine hN _ _ ?_
 walk_at "x"
 have gp:(0:Int) < (Int.gcd t b:Int):=VF.mpr (M3.fF (by omega))
 have gl:=M3.rX (t:=t) (b:=b) (by omega)
 have cd:∀z,kX z (Int.gcd t b:Int):=fun z=>⟨by omega,Tf (by omega) hs⟩
 refine⟨cd _,cd _,?_⟩
 have d1:=(M3.lR (t:=t) (b:=b) (by omega))
 rw[if_neg (by omega)]at d1
 rw[d1.1,d1.2]
 exact k
def EY(n m:Int):0 < M3.aC n 2520 * M3.aC m 2520/\(M3.aC n 2520 * M3.aC m 2520).natAbs < 2 ^ 8000:=by
 obtain⟨a,b⟩:=fU n
 obtain⟨c,d⟩:=fU m
 have p:=UY a c
 have q:M3.aC n 2520 * M3.aC m 2520<=2520 * 2520:=WM b d (by omega) (by decide)
 exact⟨p,ky (by omega)⟩
def uY(i n:Int):IntMulOk i (M3.aC n 2520):=by have:=fU n;exact pd (by omega) (by omega)
abbrev fx(w:aw):Prop:=∀{S:az} {n m:Int} {Q:bj} {E:bK},0<=n->0<=m->Q (cf (n+m)) S->w [cf n,cf m] S Q E
def Hq{xf:aw}(Hm:mx xf):fx (aR 2 (dY xf)):=by
 intro S n m Q E hn hm k
 unfold dY
 refine cC ?_
 rw[show ar 2 [cf n,cf m]=[some (cf n),some (cf m)] from rfl]
 simp only[cf]
 walk_at "x"
 simp only[cx,cR]
 refine⟨uY _ _,uY _ _,uY _ _,?_⟩
 have b:=EY n m
 refine Hm (Int.add_nonneg (Us (kD hn) (Vg (fU m).1)) (Us (kD hm) (Vg (fU n).1))) b.1 b.2 ?_
 rw[tK]
 exact k
def wY{xf:aw}(Ij:jA xf):fx (aR 2 (b3 xf)):=by
 intro S n m Q E hn hm k
 unfold b3
 refine cC ?_
 rw[show ar 2 [cf n,cf m]=[some (cf n),some (cf m)] from rfl]
 simp only[cf]
 walk_at "x"
 simp only[cx,cR]
 refine⟨uY _ _,uY _ _,uY _ _,?_⟩
 have b:=EY n m
 refine Ij b.1 b.2 ?_
 rw[tK]
 exact k
abbrev kE(w:aw):Prop:=∀{S:az} {n m:Int} {Q:bj} {E:bK},0<=n->0<=m->m < 2 ^ 62->Q (cf (n * m)) S->w [cf n,.tup [.int m,.int 1]] S Q E
def HA{xf:aw}(Hm:mx xf):kE (aR 2 (fL xf)):=by
 intro S n m Q E hn hm hm2 k
 unfold fL
 refine cC ?_
 rw[show ar 2 [cf n,.tup [.int m,.int 1]]=[some (cf n),some (.tup [.int m,.int 1])] from rfl]
 simp only[cf]
 walk_at "x"
 simp only[cx,cR]
 refine⟨pd (by omega) (by omega),pd (by decide) (by decide),?_⟩
 have b:=fU n
 refine Hm (Us (kD hn) hm) (by omega) (ky (by omega)) ?_
 rw[wX]
 exact k
noncomputable def Ty.es(t:Ty):List PV:=t.2.map fun p=>.int p.1
noncomputable def Ty.dm(t:Ty):List PV:=t.2.map fun p=>.int p.2
noncomputable def Ty.pv(t:Ty):PV:=.tup [cf t.1,.tup t.es,.tup t.dm]
noncomputable def dG(js:Vs):PV:=.tup (js.map PV.str)
noncomputable def sx(js:Vs)(z:Str)(e d:Int):List (Int×Int):=js.map fun j=>if j=z then (e,d) else (0,0)
abbrev my(w:aw):Prop:=∀{S:az} {js:Vs} {Q:bj} {E:bK},js.length<=1000->Q (z0 js).pv S->w [dG js] S Q E
def wZ(js:Vs):List.replicate js.length (PV.int 0)=(z0 js).es:=by
 unfold Ty.es z0 zl
 rw[SV]
 induction js with
 |nil=>rfl
 |cons j js ih=>rw[SN,Tw,ih];rfl
def CQ(js:Vs):List.replicate js.length (PV.int 0)=(z0 js).dm:=by rw[wZ];unfold Ty.es Ty.dm z0 zl;rw[SV,SV];rfl
def JL:my (aR 1 iW):=by
 intro S js Q E hj k
 unfold iW
 refine cC ?_
 rw[show ar 1 [dG js]=[some (dG js)] from rfl]
 unfold dG
 walk_at "x"
 simp only[k7,Sm,Int.toNat_natCast]
 refine⟨by omega,by omega,by omega,by omega,?_⟩
 rw[dN]
 have e:(PV.tup [cf 0,.tup (List.replicate js.length (.int 0)),.tup (List.replicate js.length (.int 0))])=(z0 js).pv:=by
  unfold Ty.pv
  rw[<-wZ,<-CQ]
  rfl
 rw[e]
 exact k
abbrev i6(w:aw):Prop:=∀{S:az} {js:Vs} {z:Str} {m:Int} {Q:bj} {E:bK},js.length<=1000->(∀S',Ext S S'->Q (.tup (js.map fun j=>.int (if j=z then m else 0))) S')->w [dG js,.str z,.int m] S Q E
def Il:i6 (aR 3 gU):=by
 intro S js z m Q E hj k
 unfold gU
 refine cC ?_
 rw[show ar 3 [dG js,.str z,.int m]=[some (dG js),some (.str z),some (.int m)] from rfl]
 unfold dG
 walk_at "x"
 refine aQ PV.str (fun j=>.int (if j=z then m else 0)) trivial js [] (fun j hj=>⟨_,rfl,fun Q q=>?_⟩) (by simpa using bN hj) fun p hp=>?_
 ·walk_at "x"
  simp only[SJ,SE]
  split
  ·rename_i h;rw[if_pos h]at q;exact q
  ·rename_i h;rw[if_neg h]at q;exact q
 ·simp only[List.nil_append,aa]
  exact k _ (.new hp)
def pD{α β γ δ:Type}(f:α->β->γ)(g:γ->δ)(xs:List α)(ys:List β):(xs.zip ys).map (fun z=>g (f z.1 z.2))=(List.zipWith f xs ys).map g:=by
 rw[List.zip,List.map_zipWith,List.map_zipWith]
def w4(t u:Ty):bh t.es u.es=(t.2.zip u.2).map fun z=>.tup [.int z.1.1,.int z.2.1]:=by
 unfold bh Ty.es
 rw[Wh,SV]
 rfl
def CS(t:Ty):bh t.es t.dm=t.2.map fun z=>.tup [.int z.1,.int z.2]:=by
 unfold bh Ty.es Ty.dm
 rw[Wh,SV]
 rw[show t.2.zip t.2=t.2.map fun x=>(x,x)from qH _ _,SV]
 rfl
def uZ(t u:Ty):fN t.es t.dm u.dm=(t.2.zip u.2).map fun z=>.tup [.int z.1.1,.int z.1.2,.int z.2.2]:=by
 unfold fN Ty.es Ty.dm
 have:∀(l m:List (Int×Int)),((l.map fun p=>PV.int p.1).zip ((l.map fun p=>PV.int p.2).zip (m.map fun p=>PV.int p.2))).map EJ=(l.zip m).map fun z=>.tup [.int z.1.1,.int z.1.2,.int z.2.2]:=fun l=>by
  induction l with
  |nil=>intro m;rfl
  |cons p r ih=>
   intro m
   cases m with
   |nil=>rfl
   |cons q s=>simp only[SH,List.zip_cons_cons];rw[ih s];rfl
 exact this t.2 u.2
def tL(t u:Ty):(t.2.zip u.2).map (fun z=>PV.int (z.1.1+z.2.1))=(t.join u).es:=pD jn (fun p=>PV.int p.1) t.2 u.2
def zQ(t u:Ty):(t.2.zip u.2).map (fun z=>PV.int (jn z.1 z.2).2)=(t.join u).dm:=pD jn (fun p=>PV.int p.2) t.2 u.2
abbrev om(w:aw):Prop:=∀{S:az} {t u:Ty} {Q:bj} {E:bK},t.2.length<=1000->(∀S',Ext S S'->Q (.tup (t.join u).es) S')->w [.tup t.es,.tup u.es] S Q E
def Kz:om (aR 2 oW):=by
 intro S t u Q E hj k
 unfold oW
 refine cC ?_
 rw[show ar 2 [.tup t.es,.tup u.es]=[some (.tup t.es),some (.tup u.es)] from rfl]
 walk_at "x"
 rw[w4]
 refine aQ _ (fun z=>PV.int (z.1.1+z.2.1)) trivial _ [] (fun z hz=>⟨_,rfl,fun Q q=>?_⟩) ?_ fun p hp=>?_
 ·walk_at "x"
  exact q
 ·rw[Tj,TJ,Um]
  exact bN (by omega)
 ·simp only[List.nil_append,aa]
  rw[tL]
  exact k _ (.new hp)
abbrev qI(w:aw):Prop:=∀{S:az} {t:Ty} {m:Int} {Q:bj} {E:bK},t.2.length<=1000->0<=m->m < 2 ^ 62->(∀S',Ext S S'->Q (.tup (t.again m).es) S')->w [.tup t.es,.int m] S Q E
def w5(t:Ty)(m:Int):t.2.map (fun p=>PV.int (p.1 * m))=(t.again m).es:=by
 unfold Ty.again Ty.es
 rw[SV]
 rfl
def w9(t:Ty)(m:Int):t.2.map (fun p=>PV.int (ag m p).2)=(t.again m).dm:=by
 unfold Ty.again Ty.dm
 rw[SV]
 rfl
def K9:qI (aR 2 fM):=by
 intro S t m Q E hj h0 h1 k
 unfold fM
 refine cC ?_
 rw[show ar 2 [.tup t.es,.int m]=[some (.tup t.es),some (.int m)] from rfl]
 walk_at "x"
 refine aQ (fun p:Int×Int=>PV.int p.1) (fun p=>PV.int (p.1 * m)) trivial t.2 [] (fun z hz=>⟨_,rfl,fun Q q=>?_⟩) (by simpa using bN hj) fun p hp=>?_
 ·walk_at "x"
  exact⟨pd (by omega) (by omega),q⟩
 ·simp only[List.nil_append,aa]
  rw[w5]
  exact k _ (.new hp)
abbrev fV(w:aw):Prop:=∀{S:az} {js:Vs} {t u:Ty} {Q:bj} {E:bK},js.length<=1000->t.Ok js->u.Ok js->(∀S',Ext S S'->Q (t.join u).pv S')->w [t.pv,u.pv] S Q E
def IE{xa xp:aw}(Kz:om xa)(Hq:fx xp):fV (aR 3 (ma xa xp)):=by
 intro S js t u Q E hj ht hu k
 unfold ma
 refine cC ?_
 rw[show ar 3 [t.pv,u.pv]=[some t.pv,some u.pv,none] from rfl]
 unfold Ty.pv
 refine am fun N hN=>?_
 walk_at "x"
 simp only[wL,ah,v3,lk,c3,ae,cR,tI]
 have lt:=ht.1
 have lu:=hu.1
 refine⟨by unfold Ty.es Ty.dm;rw[Sm,Sm];omega,by unfold Ty.es Ty.dm;rw[Sm,Sm];omega,?_⟩
 rw[uZ]
 refine aQ _ (fun z=>PV.int (jn z.1 z.2).2) trivial _ [] (fun z hz=>⟨_,rfl,fun Q q=>?_⟩) ?_ fun p hp=>?_
 ·walk_at "x"
  exact q
 ·rw[Tj,TJ,Um]
  exact bN (by omega)
 ·rw[Tq,zQ]
  refine hN _ _ ?_
  walk_at "x"
  simp only[cx,cR]
  refine Hq ht.2.1 hu.2.1 ?_
  refine Kz (t:=t) (u:=u) (by omega) fun S2 X2=>?_
  simp only[X2 _ _ aa]
  exact k S2 ((Ext.new hp).trans X2)
abbrev kF(w:aw):Prop:=∀{S:az} {js:Vs} {t:Ty} {m:Int} {Q:bj} {E:bK},js.length<=1000->t.Ok js->1<=m->m < 2 ^ 62->(∀S',Ext S S'->Q (t.again m).pv S')->w [t.pv,.int m] S Q E
def KA{xm xt:aw}(K9:qI xm)(HA:kE xt):kF (aR 3 (oX xm xt)):=by
 intro S js t m Q E hj ht h1 h2 k
 unfold oX
 refine cC ?_
 rw[show ar 3 [t.pv,.int m]=[some t.pv,some (.int m),none] from rfl]
 unfold Ty.pv
 refine am fun N hN=>?_
 walk_at "x"
 simp only[cR,tI]
 have lt:=ht.1
 rw[CS]
 refine aQ _ (fun p:Int×Int=>PV.int (ag m p).2) trivial t.2 [] (fun z hz=>⟨_,rfl,fun Q q=>?_⟩) (by simpa using bN (by omega)) fun p hp=>?_
 ·walk_at "x"
  exact⟨pd (by omega) (by omega),q⟩
 ·rw[Tq,w9]
  refine hN _ _ ?_
  walk_at "x"
  simp only[cx,cR]
  refine HA ht.2.1 (by omega) h2 ?_
  refine K9 (t:=t) (by omega) (by omega) h2 fun S2 X2=>?_
  simp only[X2 _ _ aa]
  exact k S2 ((Ext.new hp).trans X2)
abbrev i7(w:aw):Prop:=∀{S:az} {js:Vs} {z:Str} {m:Int} {a b:Bd} {Q:bj} {E:bK},js.length<=1000->(∀S',Ext S S'->Q (Ty.pv (0,sx js z (-m) m)) S')->w [dG js,(Bd.Hz z m a b).pv] S Q E
def sy(js:Vs)(z:Str)(e d:Int):js.map (fun j=>PV.int (if j=z then e else 0))=Ty.es (0,sx js z e d):=by
 unfold Ty.es sx
 rw[SV]
 exact TV fun j _=>by dsimp only [Function.comp];split<;>rfl
def CT(js:Vs)(z:Str)(e d:Int):js.map (fun j=>PV.int (if j=z then d else 0))=Ty.dm (0,sx js z e d):=by
 unfold Ty.dm sx
 rw[SV]
 exact TV fun j _=>by dsimp only [Function.comp];split<;>rfl
def Kj{xt:aw}(Il:i6 xt):i7 (aR 2 (dD xt)):=by
 intro S js z m a b Q E hj k
 unfold dD
 refine cC ?_
 rw[show ar 2 [dG js,(Bd.Hz z m a b).pv]=[some (dG js),some (.tup [.str "take",.str z,.int m,a.pv,b.pv])] from rfl]
 walk_at "x"
 simp only[cR,tI]
 rw[dN]
 refine Il hj fun S1 X1=>Il hj fun S2 X2=>?_
 rw[sy js z (-m) m,CT js z (-m) m]
 exact k S2 (X1.trans X2)
def w_{a b:Bd}{v:PV}(h:bP (.Hj a b) v=true):∃x y,v = .tup [x,y]/\bP a x=true/\bP b y=true:=by
 cases v with
 |tup xs=>
  by_cases h2:xs.length=2
  ·obtain⟨x,y,rfl⟩:=su h2
   rw[qG,Wl]at h
   exact⟨x,y,rfl,h⟩
  ·rw[pk h2]at h;cases h
 |int i=>rw[jH]at h;cases h
 |str z=>rw[jG]at h;cases h
 |_=>cases h
def xg{a b:Bd}{v:PV}(h:bP (.HI a b) v=true):∃i y,v = .tup [.int i,y]/\((i=0/\bP a y=true)\/(i=1/\bP b y=true)):=by
 cases v with
 |tup xs=>
  by_cases h2:xs.length=2
  ·obtain⟨x,y,rfl⟩:=su h2
   cases x with
   |int i=>
    rw[mr]at h
    refine⟨i,y,rfl,?_⟩
    by_cases h0:i=0
    ·rw[if_pos h0]at h;exact .inl ⟨h0,h⟩
    ·rw[if_neg h0]at h
     by_cases h1:i=1
     ·rw[if_pos h1]at h;exact .inr ⟨h1,h⟩
     ·rw[if_neg h1]at h;cases h
   |_=>cases h
  ·rw[pA h2]at h;cases h
 |int i=>rw[jH]at h;cases h
 |str z=>rw[jG]at h;cases h
 |_=>cases h
def xh{z:Str}{m:Int}{a b:Bd}{v:PV}(h:bP (.Hz z m a b) v=true):∃i y,v = .tup [.int i,y]/\((i=0/\bP a y=true)\/(i=1/\bP b y=true)):=by
 cases v with
 |tup xs=>
  by_cases h2:xs.length=2
  ·obtain⟨x,y,rfl⟩:=su h2
   cases x with
   |int i=>
    rw[ms]at h
    refine⟨i,y,rfl,?_⟩
    by_cases h0:i=0
    ·rw[if_pos h0]at h;exact .inl ⟨h0,h⟩
    ·rw[if_neg h0]at h
     by_cases h1:i=1
     ·rw[if_pos h1]at h;exact .inr ⟨h1,h⟩
     ·rw[if_neg h1]at h;cases h
   |_=>cases h
  ·rw[pB h2]at h;cases h
 |int i=>rw[jH]at h;cases h
 |str z=>rw[jG]at h;cases h
 |_=>cases h
def xi{a:Bd}{v:PV}(h:bP (.HM a) v=true):∃xs,v = .tup xs/\xs.all (zO a)=true:=by
 cases v with
 |tup xs=>rw[wV]at h;exact⟨xs,rfl,h⟩
 |int i=>rw[jH]at h;cases h
 |str z=>rw[jG]at h;cases h
 |_=>cases h
noncomputable def FH(js:Vs)(f:PV->Ty):PV->Ty
 | .tup [.int m,y]=>(f y).again m
 |_=>z0 js
noncomputable def Bd.HN(js:Vs):Bd->PV->Ty
 | .HM a,.tup xs=>(xs.map (FH js fun y=>a.HN js y)).foldl Ty.join (z0 js)
 | .Hj a b,.tup [x,y]=>(a.HN js x).join (b.HN js y)
 | .HI a b,.tup [.int i,y]=>if i=0 then a.HN js y else b.HN js y
 | .Hz z m a b,.tup [.int i,y]=>if i=0 then Ty.join (0,sx js z (-m) m) (a.HN js y) else b.HN js y
 | .pay x y,_=>(x * (2520 / y),zl js)
 | .put z m,_=>(0,sx js z m 0)
 |_,_=>z0 js
def zR(js:Vs)(a:Bd)(xs:List PV):(Bd.HM a).HN js (.tup xs)=(xs.map (FH js fun y=>a.HN js y)).foldl Ty.join (z0 js):=rfl
def zS(js:Vs)(a b:Bd)(x y:PV):(Bd.Hj a b).HN js (.tup [x,y])=(a.HN js x).join (b.HN js y):=rfl
def jL(js:Vs)(a b:Bd)(i:Int)(y:PV):(Bd.HI a b).HN js (.tup [.int i,y])=if i=0 then a.HN js y else b.HN js y:=rfl
def jM(js:Vs)(z:Str)(m:Int)(a b:Bd)(i:Int)(y:PV):(Bd.Hz z m a b).HN js (.tup [.int i,y])=if i=0 then Ty.join (0,sx js z (-m) m) (a.HN js y) else b.HN js y:=rfl
def kR{a:Bd}{g:PV}(h:zO a g=true):∃m y,g = .tup [.int m,y]/\1<=m/\bP a y=true:=by
 unfold zO at h
 split at h
 ·rename_i m y
  rw[Wl,SE]at h
  exact⟨m,y,rfl,h.1,h.2⟩
 ·cases h
def sA{js:Vs}{z:Str}{e d:Int}(hd:0<=d):Ty.Ok js (0,sx js z e d):=⟨Sm _,Wz _,fun p hp=>by
 obtain⟨j,hj,rfl⟩:=SQ.mp hp
 split
 ·exact hd
 ·exact Wz _⟩
theorem pE{js:Vs}:∀(ts:List Ty) (t:Ty),(∀u∈ts,u.Ok js)->t.Ok js->(ts.foldl Ty.join t).Ok js
 |[],t,_,h=>h
 |u::r,t,hs,h=>pE r (t.join u) (fun x hx=>hs x (by simp[hx])) (h.join (hs u (by simp)))
theorem bQ{js us:Vs}:∀(t:Bd) (v:PV),t.good js us->bP t v=true->(t.HN js v).Ok js
 | .rest,v,_,_=>ol js
 | .use z,v,_,_=>ol js
 | .pay x y,v,hg,_=>⟨(ol js).1,Us (show uQ x y from hg).x0 (VG (by decide) (Vg (show uQ x y from hg).low.pos)),(ol js).2.2⟩
 | .put z m,v,hg,_=>sA (Wz _)
 | .Hj a b,v,hg,hv=>by
  obtain⟨x,y,rfl,hx,hy⟩:=w_ hv
  exact(bQ a x hg.1 hx).join (bQ b y hg.2 hy)
 | .HI a b,v,hg,hv=>by
  obtain⟨i,y,rfl,hi⟩:=xg hv
  rw[jL]
  rcases hi with⟨rfl,h⟩|⟨rfl,h⟩
  ·rw[if_pos rfl];exact bQ a y hg.1 h
  ·rw[if_neg (by decide)];exact bQ b y hg.2 h
 | .Hz z m a b,v,hg,hv=>by
  obtain⟨i,y,rfl,hi⟩:=xh hv
  rw[jM]
  rcases hi with⟨rfl,h⟩|⟨rfl,h⟩
  ·rw[if_pos rfl];exact(sA (by have:=hg.2.1;omega)).join (bQ a y hg.2.2.2.1 h)
  ·rw[if_neg (by decide)];exact bQ b y hg.2.2.2.2 h
 | .HM a,v,hg,hv=>by
  obtain⟨xs,rfl,hx⟩:=xi hv
  rw[zR]
  refine pE _ _ (fun u hu=>?_) (ol js)
  obtain⟨g,OC,rfl⟩:=SQ.mp hu
  obtain⟨m,y,rfl,hm,hy⟩:=kR (U0.mp hx g OC)
  exact(bQ a y hg hy).again hm
def pF{js:Vs}{n B:Int}(h:n<=B)(hB:0<=B):Ty.MP B (n,zl js):=⟨h,fun p hp=>by
 obtain⟨j,hj,rfl⟩:=SQ.mp hp
 exact⟨by omega,hB,hB⟩⟩
def tM{js:Vs}{z:Str}{e d B:Int}(h1:-B<=e)(h2:e<=B)(h3:d<=B)(hB:0<=B):Ty.MP B (0,sx js z e d):=⟨hB,fun p hp=>by
 obtain⟨j,hj,rfl⟩:=SQ.mp hp
 split
 ·exact⟨h1,h2,h3⟩
 ·exact⟨by omega,hB,hB⟩⟩
def Bd.MA(t:Bd):t.hd=("pay":Str)↔∃x y,t = .pay x y:=by cases t<;>simp[Bd.hd,aM]
def Bd.K_(t:Bd):t.hd=("put":Str)↔∃z m,t = .put z m:=by cases t<;>simp[Bd.hd,aM]
abbrev jN(n:Nat)(w:aw):Prop:=∀{S:az} {js us:Vs} {t:Bd} {v:PV} {Q:bj} {E:bK},js.length<=1000->t.good js us->bP t v=true->jJ (2 ^ 60) v=true->t.dep<=n->(∀S',Ext S S'->Q (t.HN js v).pv S')->w [dG js,t.pv,v] S Q E
abbrev mz(n:Nat)(w:aw):Prop:=∀{S:az} {js us:Vs} {a:Bd} {v:PV} {Q:bj} {E:bK},js.length<=1000->a.good js us->bP (.HM a) v=true->jJ (2 ^ 60) v=true->a.dep<=n->(∀S',Ext S S'->Q ((Bd.HM a).HN js v).pv S')->w [dG js,(Bd.HM a).pv,v] S Q E
def u4{js:Vs}(f:PV->Ty)(done:List PV)(x:PV):((done++[x]).map f).foldl Ty.join (z0 js)=((done.map f).foldl Ty.join (z0 js)).join (f x):=by
 rw[Te,List.foldl_append];rfl
def u5{xn xb xa s0 s1:aw}(JL:my xn)(IE:fV xb)(KA:kF xa)(n:Nat)(ih:jN n s1):mz n (aR 5 (cg xn xb xa s0 s1)):=by
 intro S js us a v Q E hj hg hv hb hd k
 obtain⟨xs,rfl,hx⟩:=xi hv
 unfold cg
 refine cC ?_
 rw[show ar 5 [dG js,(Bd.HM a).pv,.tup xs]=[some (dG js),some (.tup [.str "often",a.pv]),some (.tup xs),none,none] from rfl]
 refine am fun N hN=>?_
 walk_at "x"
 refine JL hj (hN _ _ (am fun N hN=>?_))
 simp only[bz,aE,v3,lk,bF]
 refine bb (fun done σ S'=>∃x4,σ=[some (dG js),some (.tup [.str "often",a.pv]),some (.tup xs),some ((done.map (FH js fun y=>a.HN js y)).foldl Ty.join (z0 js)).pv,x4]/\Ext S S') ⟨_,rfl,.refl⟩ (fun _ _ _ _=>trivial) ?_ ?_
 ·rintro done g rest σ S1 K e ⟨x4,rfl,X1⟩ hK
  have OC:g∈xs:=by rw[e];simp
  obtain⟨m,y,rfl,hm,hy⟩:=kR (U0.mp hx g OC)
  have hi:=fw hb _ OC
  have hm2:=fw hi (.int m) (by simp)
  simp only[jJ,SE]at hm2
  have ok:((done.map (FH js fun y=>a.HN js y)).foldl Ty.join (z0 js)).Ok js:=pE _ _ (fun u hu=>by
   obtain⟨g',hg',rfl⟩:=SQ.mp hu
   obtain⟨m',y',rfl,hm',hy'⟩:=kR (U0.mp hx g' (by rw[e];simp[hg']))
   exact(bQ a y' hg hy').again hm') (ol js)
  simp only[Tg.put,List.set_cons_succ,List.set_cons_zero]
  walk_at "x"
  simp only[cx,cR]
  refine ih hj hg hy (fw hi y (by simp)) hd fun S2 X2=>?_
  refine KA hj (bQ a y hg hy) hm (by omega) fun S3 X3=>?_
  refine IE hj ok ((bQ a y hg hy).again hm) fun S4 X4=>?_
  refine hK _ _ ⟨some (.tup [.int m,y]),?_,X1.trans (X2.trans (X3.trans X4))⟩
  rw[u4]
  rfl
 ·rintro σ S1 ⟨x4,rfl,X1⟩
  refine hN _ _ ?_
  walk_at "x"
  exact k S1 X1
def LW{xn xt xb xc xk s0 s1:aw}(JL:my xn)(Il:i6 xt)(IE:fV xb)(Ki:mv xc)(Kj:i7 xk)(n:Nat)(PJ:mz n s0)(ih:jN n s1):jN (n+1) (aR 6 (fO xn xt xb xc xk s0 s1)):=by
 intro S js us t v Q E hj hg hv hb hd k
 unfold fO
 refine cC ?_
 rw[Bd.Jy,show ar 6 [dG js,.tup (.str t.hd::t.tl),v]=[some (dG js),some (.tup (.str t.hd::t.tl)),some v,none,none,none] from rfl]
 refine am fun N hN=>?_
 walk_at "x"
 simp only[cx]
 refine hN _ _ (am fun N hN=>?_)
 walk_at "x"
 refine JL hj (hN _ _ (am fun N hN=>?_))
 simp only[bq,aP,ah,v3,lk,c3,br,SJ,SE]
 by_cases h1:t.hd=("pay":Str)
 ·rw[if_pos h1]
  obtain⟨x,y,rfl⟩:=(Bd.MA t).mp h1
  unfold Ty.pv
  walk_at "x"
  simp only[Bd.tl,cR,tI]
  rw[tJ hg]
  exact k S .refl
 rw[if_neg h1]
 refine hN _ _ (am fun N hN=>?_)
 simp only[bq,aP,ah,v3,lk,c3,br,SJ,SE]
 by_cases h2:t.hd=("put":Str)
 ·rw[if_pos h2]
  obtain⟨z,m,rfl⟩:=(Bd.K_ t).mp h2
  unfold Ty.pv
  walk_at "x"
  simp only[Bd.tl,cx,cR,tI]
  refine Il hj fun S1 X1=>?_
  have:=k S1 X1
  rw[sy js z m 0]
  have e:(z0 js).dm=Ty.dm (0,sx js z m 0):=by
   unfold Ty.dm z0 zl sx
   rw[SV,SV]
   exact TV fun j _=>by dsimp only [Function.comp];split<;>rfl
  rw[e]
  exact this
 rw[if_neg h2]
 refine hN _ _ (am fun N hN=>?_)
 simp only[bq,aP,ah,v3,lk,c3,br,SJ,SE]
 by_cases h3:t.hd=("then":Str)
 ·rw[if_pos h3]
  obtain⟨a,b,rfl⟩:=(Bd.My t).mp h3
  obtain⟨x,y,rfl,hx,hy⟩:=w_ hv
  simp only[Bd.dep]at hd
  walk_at "x"
  simp only[Bd.tl,cx,cR,tI]
  refine ih hj hg.1 hx (fw hb x (by simp)) (by omega) fun S1 X1=>?_
  refine ih hj hg.2 hy (fw hb y (by simp)) (by omega) fun S2 X2=>?_
  refine IE hj (bQ a x hg.1 hx) (bQ b y hg.2 hy) fun S3 X3=>?_
  exact k S3 (X1.trans (X2.trans X3))
 rw[if_neg h3]
 refine hN _ _ (am fun N hN=>?_)
 simp only[bq,aP,ah,v3,lk,c3,br,SJ,SE]
 by_cases h4:t.hd=("often":Str)
 ·rw[if_pos h4]
  obtain⟨a,rfl⟩:=(Bd.Mz t).mp h4
  simp only[Bd.dep]at hd
  walk_at "x"
  exact PJ hj hg hv hb (by omega) k
 rw[if_neg h4]
 refine hN _ _ (am fun N hN=>?_)
 walk_at "x"
 rw[show([PV.str "either",PV.str "take"]:List PV)=(["either","take"]:Vs).map PV.str from rfl]
 refine cp t.KO AR ?_
 by_cases h5:t.hd∈(["either","take"]:Vs)
 ·simp only[h5,UM,TF,Uv,SD,Tt]
  refine hN _ _ (am fun N hN=>?_)
  simp only[Sv,SS,T9]at h5
  have side:∀(hd2:List PV) (a b c:Bd) (i:Int) (y:PV),(.str t.hd::t.tl)=hd2++[a.pv,b.pv]->hd2.length<=3->v = .tup [.int i,y]->(i=0\/i=1)->(if i=0 then a.pv else b.pv)=c.pv->c.good js us->bP c y=true->c.dep<=n->
    (∀S',Ext S S'->N [some (dG js),some (.tup (.str t.hd::t.tl)),some v,some (.str t.hd),some (z0 js).pv,some (c.HN js y).pv] S')->aq 5 (ab s1 [v3 0,ab xc [v3 1,v3 2],ah ae (v3 2) (c3 (.int 1))]) { nx:=N,rt:=Q,ex:=dW } [some (dG js),some (.tup (.str t.hd::t.tl)),some v,some (.str t.hd),some (z0 js).pv,none] S:=by
   intro hd2 a b c i y e1 e2 e3 hi e4 g1 g2 g3 kk
   subst e3
   simp only[aq,ab,ak,ah,v3,lk,c3]
   rw[e1]
   refine Ki hi e2 ?_
   rw[e4]
   simp only[ae,cR]
   refine ih hj g1 g2 (fw hb y (by simp)) g3 fun S1 X1=>?_
   have:=kk S1 X1
   rw[e1]at this
   exact this
  rcases h5 with h5|h5
  ·cases t with
   |HI a b=>
    obtain⟨i,y,rfl,hi⟩:=xg hv
    simp only[Bd.dep]at hd
    have fin:∀c:Bd,(Bd.HI a b).HN js (.tup [.int i,y])=c.HN js y->∀S',Ext S S'->N [some (dG js),some (.tup (.str (Bd.HI a b).hd::(Bd.HI a b).tl)),some (.tup [.int i,y]),some (.str (Bd.HI a b).hd),some (z0 js).pv,some (c.HN js y).pv] S':=fun c e S1 X1=>by
     refine hN _ _ (am fun N hN=>?_)
     simp only[Bd.hd]
     walk_at "y"
     refine hN _ _ ?_
     walk_at "x"
     rw[<-e]
     exact k S1 X1
    rcases hi with⟨rfl,h⟩|⟨rfl,h⟩
    ·exact side [.str "either"] a b a 0 y rfl (by decide) rfl (.inl rfl) (if_pos rfl) hg.1 h (by omega) (fin a rfl)
    ·exact side [.str "either"] a b b 1 y rfl (by decide) rfl (.inr rfl) (if_neg (by decide)) hg.2 h (by omega) (fin b rfl)
   |_=>simp[Bd.hd,aM]at h5
  ·cases t with
   |Hz z m a b=>
    obtain⟨i,y,rfl,hi⟩:=xh hv
    simp only[Bd.dep]at hd
    rcases hi with⟨rfl,h⟩|⟨rfl,h⟩
    ·refine side [.str "take",.str z,.int m] a b a 0 y rfl (Ss 3) rfl (.inl rfl) (if_pos rfl) hg.2.2.2.1 h (by omega) fun S1 X1=>hN _ _ (am fun N hN=>?_)
     simp only[Bd.hd]
     walk_at "y"
     refine Kj (a:=a) (b:=b) hj fun S2 X2=>?_
     refine IE hj (sA (by have:=hg.2.1;omega)) (bQ a y hg.2.2.2.1 h) fun S3 X3=>?_
     exact k S3 (X1.trans (X2.trans X3))
    ·refine side [.str "take",.str z,.int m] a b b 1 y rfl (Ss 3) rfl (.inr rfl) (if_neg (by decide)) hg.2.2.2.2 h (by omega) fun S1 X1=>hN _ _ (am fun N hN=>?_)
     simp only[Bd.hd]
     walk_at "y"
     refine hN _ _ ?_
     walk_at "x"
     exact k S1 X1
   |_=>simp[Bd.hd,aM]at h5
 ·simp only[h5,Vi,TF,Ui,TH]
  have e:t.HN js v=z0 js:=by cases t<;>simp_all [Bd.hd,aM]<;>rfl
  rw[<-e]
  exact k S .refl
abbrev Qs:=Str->Bool
noncomputable def mq(hs:Vs):Qs:=fun z=>decide (z∈hs)
noncomputable def Bd.shut(q:Qs):Bd->Nat->Bool
 | .Hz z _ _ _,0=>!q z
 |_,_=>false
noncomputable def Bd.Iw(q:Qs)(t:Bd)(r:Bool):List (Bd×Bool):=t.sides.mapIdx fun i s=>(s,r&&!t.shut q i)
noncomputable def Bd.pr(q:Qs):Bd->Bool->List (Bd×Bool)
 | .rest,r=>[(.rest,r)]
 | .pay x y,r=>[(.pay x y,r)]
 | .put z m,r=>[(.put z m,r)]
 | .use z,r=>[(.use z,r)]
 | .HM a,r=>(.HM a,r)::a.pr q r
 | .Hj a b,r=>(.Hj a b,r)::(a.pr q r++b.pr q r)
 | .HI a b,r=>(.HI a b,r)::(a.pr q r++b.pr q r)
 | .Hz z m a b,r=>(.Hz z m a b,r)::(a.pr q (r&&q z)++b.pr q r)
def Bd.Nc(q:Qs)(t:Bd)(r:Bool):t.pr q r=(t,r)::(t.Iw q r).flatMap fun p=>p.1.pr q p.2:=by
 cases t with
 |rest=>rfl
 |pay x y=>rfl
 |put z m=>rfl
 |use z=>rfl
 |HM a=>show _=_::(a.pr q (r&&!false)++[]);rw[Ui,UZ,Ti];rfl
 |Hj a b=>show _=_::(a.pr q (r&&!false)++(b.pr q (r&&!false)++[]));rw[Ui,UZ,Ti];rfl
 |HI a b=>show _=_::(a.pr q (r&&!false)++(b.pr q (r&&!false)++[]));rw[Ui,UZ,Ti];rfl
 |Hz z m a b=>show _=_::(a.pr q (r&&!(!q z))++(b.pr q (r&&!false)++[]));rw[Bool.not_not,Ui,UZ,Ti];rfl
theorem Bd.IH(q:Qs):∀(t:Bd) (r:Bool),(t.pr q r).length=t.size
 | .rest,_=>rfl
 | .pay _ _,_=>rfl
 | .put _ _,_=>rfl
 | .use _,_=>rfl
 | .HM a,r=>by show(a.pr q r).length+1=a.size+1;rw[a.IH q r]
 | .Hj a b,r=>by show(a.pr q r++b.pr q r).length+1=a.size+b.size+1;rw[Sn,a.IH q r,b.IH q r]
 | .HI a b,r=>by show(a.pr q r++b.pr q r).length+1=a.size+b.size+1;rw[Sn,a.IH q r,b.IH q r]
 | .Hz z m a b,r=>by show(a.pr q (r&&q z)++b.pr q r).length+1=a.size+b.size+1;rw[Sn,a.IH q _,b.IH q r]
noncomputable def Bd.Hi(q:Qs):Bd->List Str
 | .rest=>[]
 | .pay _ _=>[]
 | .put z _=>[z]
 | .use _=>[]
 | .HM a=>a.Hi q
 | .Hj a b=>a.Hi q++b.Hi q
 | .HI a b=>a.Hi q++b.Hi q
 | .Hz z _ a b=>(if q z then a.Hi q else [])++b.Hi q
theorem Bd.Io(q:Qs):∀(t:Bd) (u:Bd),(u,true) ∉ t.pr q false
 | .rest,u=>by simp[Bd.pr]
 | .pay _ _,u=>by simp[Bd.pr]
 | .put _ _,u=>by simp[Bd.pr]
 | .use _,u=>by simp[Bd.pr]
 | .HM a,u=>by
  show _ ∉ _::a.pr q false
  rw[Sv,not_or];exact⟨by simp,a.Io q u⟩
 | .Hj a b,u=>by
  show _ ∉ _::(a.pr q false++b.pr q false)
  rw[Sv,not_or,SI,not_or];exact⟨by simp,a.Io q u,b.Io q u⟩
 | .HI a b,u=>by
  show _ ∉ _::(a.pr q false++b.pr q false)
  rw[Sv,not_or,SI,not_or];exact⟨by simp,a.Io q u,b.Io q u⟩
 | .Hz z m a b,u=>by
  show _ ∉ _::(a.pr q (false&&q z)++b.pr q false)
  rw[Bool.false_and,Sv,not_or,SI,not_or];exact⟨by simp,a.Io q u,b.Io q u⟩
theorem Bd.HR(q:Qs){z:Str}:∀(t:Bd),z∈t.Hi q↔∃m,(Bd.put z m,true)∈t.pr q true
 | .rest=>by simp[Bd.Hi,Bd.pr]
 | .pay _ _=>by simp[Bd.Hi,Bd.pr]
 | .put y m=>by
  show z∈[y]↔∃n,(Bd.put z n,true)∈[(Bd.put y m,true)]
  simp only[SM,Prod.mk.injEq,Bd.put.injEq,and_true]
  exact⟨fun h=>⟨m,h,rfl⟩,fun⟨_,h,_⟩=>h⟩
 | .use _=>by simp[Bd.Hi,Bd.pr]
 | .HM a=>by
  show z∈a.Hi q↔∃m,(Bd.put z m,true)∈(Bd.HM a,true)::a.pr q true
  rw[a.HR q];simp
 | .Hj a b=>by
  show z∈a.Hi q++b.Hi q↔∃m,(Bd.put z m,true)∈(Bd.Hj a b,true)::(a.pr q true++b.pr q true)
  rw[SI,a.HR q,b.HR q];simp[exists_or]
 | .HI a b=>by
  show z∈a.Hi q++b.Hi q↔∃m,(Bd.put z m,true)∈(Bd.HI a b,true)::(a.pr q true++b.pr q true)
  rw[SI,a.HR q,b.HR q];simp[exists_or]
 | .Hz y m a b=>by
  show z∈(if q y=true then a.Hi q else [])++b.Hi q↔∃n,(Bd.put z n,true)∈(Bd.Hz y m a b,true)::(a.pr q (true&&q y)++b.pr q true)
  rw[SI,b.HR q]
  cases h:q y with
  |true=>rw[if_pos rfl,a.HR q];simp[exists_or]
  |false=>
   rw[if_neg (by decide)]
   have f:=a.Io q
   simp[f]
theorem Bd.HZ{q p:Qs}(h:∀z,q z=true->p z=true){z:Str}:∀t:Bd,z∈t.Hi q->z∈t.Hi p
 | .rest,e=>e
 | .pay _ _,e=>e
 | .put _ _,e=>e
 | .use _,e=>e
 | .HM a,e=>a.HZ h e
 | .Hj a b,e=>SI.mpr ((SI.mp e).imp (a.HZ h) (b.HZ h))
 | .HI a b,e=>SI.mpr ((SI.mp e).imp (a.HZ h) (b.HZ h))
 | .Hz y m a b,e=>by
  rcases SI.mp (show z∈(if q y=true then a.Hi q else [])++b.Hi q from e)with e|e
  ·by_cases hq:q y=true
   ·rw[if_pos hq]at e
    exact SI.mpr (.inl (by show z∈(if p y=true then a.Hi p else []);rw[if_pos (h y hq)];exact a.HZ h e))
   ·rw[if_neg hq]at e;cases e
  ·exact SI.mpr (.inr (b.HZ h e))
theorem Bd.HE{q:Qs}{js us:Vs}{z:Str}:∀t:Bd,t.good js us->z∈t.Hi q->z∈js
 | .rest,_,e=>by cases e
 | .pay _ _,_,e=>by cases e
 | .put _ _,g,e=>by rw[SM.mp e];exact g.1
 | .use _,_,e=>by cases e
 | .HM a,g,e=>a.HE g e
 | .Hj a b,g,e=>(SI.mp e).elim (a.HE g.1) (b.HE g.2)
 | .HI a b,g,e=>(SI.mp e).elim (a.HE g.1) (b.HE g.2)
 | .Hz y m a b,g,e=>by
  rcases SI.mp (show z∈(if q y=true then a.Hi q else [])++b.Hi q from e)with e|e
  ·by_cases hq:q y=true
   ·rw[if_pos hq]at e;exact a.HE g.2.2.2.1 e
   ·rw[if_neg hq]at e;cases e
  ·exact b.HE g.2.2.2.2 e
noncomputable def Ic(q:Qs)(ds:List (Str×Bd)):List Str:=ds.flatMap fun p=>p.2.Hi q
def mB{q p:Qs}(h:∀z,q z=true->p z=true){ds:List (Str×Bd)}{z:Str}(e:z∈Ic q ds):z∈Ic p ds:=by
 obtain⟨d,hd,e⟩:=Uo.mp e
 exact Uo.mpr ⟨d,hd,d.2.HZ h e⟩
inductive Fs (ds:List (Str×Bd)):List Str->Prop
 |nil:Fs ds []
 |snoc {hs:Vs} {z:Str}:Fs ds hs->z∈Ic (mq hs) ds->Fs ds (hs++[z])
noncomputable def held(ds:List (Str×Bd)):Nat->List Str
 |0=>[]
 |n+1=>Ic (mq (held ds n)) ds
theorem jO:∀(hs js:Vs),hs.Nodup->(∀z∈hs,z∈js)->hs.length<=js.length
 |[],_,_,_=>Tr _
 |z::r,js,hn,hj=>by
  have hz:=hj z (by simp)
  have h1:=jO r (js.erase z) (Uc.mp hn).2 fun y hy=>(List.mem_erase_of_ne (fun e=>(Uc.mp hn).1 (by rw[<-e];exact hy))).mpr (hj y (by simp[hy]))
  rw[List.length_erase_of_mem hz]at h1
  have:=List.length_pos_of_mem hz
  rw[SN]
  omega
def tN{a b:Vs}(h:∀z∈a,z∈b)(z:Str)(e:mq a z=true):mq b z=true:=Tp (h z (WU e))
def zT{ds:List (Str×Bd)}{hs:Vs}(h:Fs ds hs):∀k,hs.length<=k->∀z∈hs,z∈held ds k:=by
 induction h with
 |nil=>intro k _ z hz;cases hz
 |@snoc hs y hf hy ih=>
  intro k hk z hz
  rw[Sn,SK]at hk
  rcases SI.mp hz with hz|hz
  ·exact ih k (by omega) z hz
  ·rw[SM.mp hz]
   obtain⟨k,rfl⟩:∃m,k=m+1:=⟨k - 1,by omega⟩
   exact mB (tN (ih k (by omega))) hy
theorem tO{ds:List (Str×Bd)}{hs:Vs}(cl:∀z∈Ic (mq hs) ds,z∈hs):∀k,∀z∈held ds k,z∈hs
 |0,z,hz=>by cases hz
 |k+1,z,hz=>cl z (mB (tN (tO cl k)) hz)
def zU{ds:List (Str×Bd)}{js hs:Vs}(h:Fs ds hs)(hn:hs.Nodup)(hj:∀z∈hs,z∈js)(cl:∀z∈Ic (mq hs) ds,z∈hs):mq (held ds js.length)=mq hs:=by
 funext z
 exact WX.mpr ⟨tO cl _ z,zT h _ (jO hs js hn hj) z⟩
noncomputable def fW(p:Bd×Bool):PV:=.tup [p.1.pv,.bl p.2]
def k8(js:Vs):Prop:=∀z∈js,PyData.strOk z=true
abbrev mC(n:Nat)(w:aw):Prop:=∀{S:az} {t:Bd} {js us hs:Vs} {nm:Addr} {r:Bool} {Q:bj} {E:bK},t.dep<=n->t.size<=900->t.good js us->k8 js->k8 hs->S nm=some (.lst (hs.map PV.str))->
  (∀p S',S p=none->Ext S S'->S' p=some (.lst ((t.pr (mq hs) r).map fW))->Q (.ref p) S')->w [t.pv,.ref nm,.bl r] S Q E
def Bd.LX{js us:Vs}{t s:Bd}(g:t.good js us)(h:s∈t.sides):s.good js us:=by
 cases t with
 |rest=>cases h
 |pay x y=>cases h
 |put z m=>cases h
 |use z=>cases h
 |HM a=>rw[SM.mp h];exact g
 |Hj a b=>
  rcases Sv.mp h with rfl|h
  ·exact g.1
  ·rw[SM.mp h];exact g.2
 |HI a b=>
  rcases Sv.mp h with rfl|h
  ·exact g.1
  ·rw[SM.mp h];exact g.2
 |Hz z m a b=>
  rcases Sv.mp h with rfl|h
  ·exact g.2.2.2.1
  ·rw[SM.mp h];exact g.2.2.2.2
def Bd.NC(t:Bd):t.hd=("take":Str)↔∃z m a b,t = .Hz z m a b:=by cases t<;>simp[Bd.hd,aM]
def zV{t:Bd}{js us hs:Vs}{nm:Addr}{S:az}{i:Nat}{x2 x3 x5 x6:Option PV}{Q:bj}(g:t.good js us)(hj:k8 js)(hh:k8 hs)(hn:S nm=some (.lst (hs.map PV.str)))(q:Q (.bl (t.shut (mq hs) i)) S) :
  cH (ah (br false) (ah ae (v3 0) (c3 (.int 0))) (c3 (.str "take"))) (cH (ah (br false) (v3 4) (c3 (.int 0))) (ah (k4 true) (ah ae (v3 0) (c3 (.int 1))) (v3 1))) [some t.pv,some (.ref nm),x2,x3,some (.int (i:Int)),x5,x6] S Q dW:=by
 rw[Bd.Jy]
 simp only[cH,ah,v3,lk,c3,ae,cx,br,SJ]
 by_cases h:t.hd=("take":Str)
 ·obtain⟨z,m,a,b,rfl⟩:=(Bd.NC t).mp h
  rw[Tp h,if_pos rfl]
  cases i with
  |zero=>
   rw[Tp (show((0:Nat):Int)=0 from rfl),if_pos rfl]
   simp only[Bd.tl,cR]
   refine eE hn (hj z g.1) hh ?_
   rw[show(true != decide (z∈hs))=Bd.shut (mq hs) (Bd.Hz z m a b) 0 by show _=!decide (z∈hs);cases decide (z∈hs)<;>rfl]
   exact q
  |succ i=>
   rw[Tc (show ¬(((i+1:Nat):Int)=0) by omega),if_neg (by decide)]
   exact q
 ·rw[Tc h,if_neg (by decide)]
  have e:t.shut (mq hs) i=false:=by cases t<;>first|rfl|exact absurd rfl h
  rw[e]at q
  exact q
def Lz{xs s0:aw}(JE:ip xs)(n:Nat)(ih:mC n s0):mC (n+1) (aR 7 (dF xs s0)):=by
 intro S t js us hs nm r Q E hd Ov hg hj hh hn k
 unfold dF
 refine cC ?_
 rw[show ar 7 [t.pv,.ref nm,.bl r]=[some t.pv,some (.ref nm),some (.bl r),none,none,none,none] from rfl]
 refine am fun N hN=>?_
 walk_at "x"
 intro p hp
 have X0:Ext S (He S p (.lst [.tup [t.pv,.bl r]])):=.new hp
 have hp0:(He S p (.lst [.tup [t.pv,.bl r]])) p=some (.lst [.tup [t.pv,.bl r]]):=aa
 generalize He S p (.lst [.tup [t.pv,.bl r]])=S0 at X0 hp0
 refine hN _ _ (am fun N hN=>?_)
 simp only[bz,dU,ab,ak,v3,lk]
 refine JE ?_
 dsimp only
 have hps:(t.Iw (mq hs) r).length=t.sides.length:=V5
 refine bb (fun done σ S'=>∃(x4 x5 x6:Option PV),σ=[some t.pv,some (.ref nm),some (.bl r),some (.ref p),x4,x5,x6]/\Ext S S'/\done.length<=t.sides.length/\S' p=some (.lst (((t,r)::((t.Iw (mq hs) r).take done.length).flatMap fun p=>p.1.pr (mq hs) p.2).map fW))) ⟨_,_,_,rfl,X0,Tr _,hp0⟩ (fun _ _ _ _=>trivial) ?_ ?_
 ·rintro done x rest σ S1 K e ⟨x4,x5,x6,rfl,X1,hl,h1⟩ hK
  obtain⟨y,rfl,hy⟩:=hG e
  rw[SA]at hy
  cases hs':t.sides[done.length]? with
  |none=>rw[hs']at hy;cases hy
  |some s=>
  rw[hs']at hy
  cases hy
  have hlt:done.length < t.sides.length:=(Td.mp hs').1
  have hr:s∈t.sides:=SY hs'
  have hrd:=Bd.Ly hr
  have hn1:=X1 _ _ hn
  have hq:(t.Iw (mq hs) r)[done.length]?=some (s,r&&!t.shut (mq hs) done.length):=by unfold Bd.Iw;rw[VM,hs'];rfl
  simp only[Tg.put,Tg.Hi,List.set_cons_succ,List.set_cons_zero]
  refine am fun N2 JV=>?_
  simp only[aq]
  refine zV hg hj hh hn1 ?_
  simp only[List.set_cons_succ,List.set_cons_zero]
  refine JV _ _ ?_
  simp only[aW,eR,p5,ak,ab,v3,lk,h1,Vz,cH,nW]
  have go:∀Q':bj,(∀q S2,S1 q=none->Ext S1 S2->S2 q=some (.lst ((s.pr (mq hs) (r&&!t.shut (mq hs) done.length)).map fW))->Q' (.ref q) S2)->s0 [s.pv,.ref nm,.bl (r&&!t.shut (mq hs) done.length)] S1 Q' dW:=fun Q' k'=>ih (by omega) (by omega) (Bd.LX hg hr) hj hh hn1 k'
  have tail:∀q S2,S1 q=none->Ext S1 S2->S2 q=some (.lst ((s.pr (mq hs) (r&&!t.shut (mq hs) done.length)).map fW))->bE (.ref p) [.ref q] S2 (fun _ S3=>K [some t.pv,some (.ref nm),some (.bl r),some (.ref p),some (.int (done.length:Int)),some s.pv,some (.bl (t.shut (mq hs) done.length))] S3):=fun q S2 hq2 X2 h2=>by
   simp only[bE,X2 _ _ h1,h2]
   have et:((t.Iw (mq hs) r).take (done.length+1)).flatMap (fun p=>p.1.pr (mq hs) p.2)=((t.Iw (mq hs) r).take done.length).flatMap (fun p=>p.1.pr (mq hs) p.2)++s.pr (mq hs) (r&&!t.shut (mq hs) done.length):=by
    rw[Uj,hq,Ub];simp
   have ln:((t,r)::((t.Iw (mq hs) r).take (done.length+1)).flatMap fun p=>p.1.pr (mq hs) p.2).length<=t.size:=by
    rw[<-Bd.IH (mq hs) t r,Bd.Nc]
    rw[SN,SN]
    have:(t.Iw (mq hs) r).flatMap (fun p=>p.1.pr (mq hs) p.2)=((t.Iw (mq hs) r).take (done.length+1)).flatMap (fun p=>p.1.pr (mq hs) p.2)++((t.Iw (mq hs) r).drop (done.length+1)).flatMap (fun p=>p.1.pr (mq hs) p.2):=by rw[<-Ub,Vb]
    rw[this,Sn]
    omega
   rw[SN,et,Sn]at ln
   refine⟨bN (by simp only[Sm,List.length_cons];omega),?_⟩
   refine hK _ _ ⟨_,_,_,rfl,(X1.trans X2).put hp,by rw[Sn];exact hlt,?_⟩
   rw[aa,Sn,SK,et,<-Te]
   rfl
  cases r with
  |true=>rw[if_pos rfl];exact go _ tail
  |false=>rw[if_neg (by decide)];exact go _ tail
 ·rintro σ S1 ⟨x4,x5,x6,rfl,X1,hl,h1⟩
  refine hN _ _ ?_
  walk_at "x"
  refine k p S1 hp X1 ?_
  rw[h1,Bd.Nc]
  have:(L3.aS (t.sides.map Bd.pv)).length=(t.Iw (mq hs) r).length:=by unfold L3.aS;rw[V5,Sm,hps]
  rw[this,T3]
structure HG (js:Vs) (ds:List (Str×Bd)):Prop where
 jw:k8 js
 jl:js.length<=50
 dl:ds.length<=1000
 gd:∀p∈ds,p.2.good js []
 dp:∀p∈ds,p.2.dep<=6
 sz:∀p∈ds,p.2.size<=60
def L_(ds:List (Str×Bd))(hs:Vs)(d tr:PV)(z:Str):Prop:=∃(dk pl:Nat) (dn:Str) (t:Bd) (m:Int),d = .int (dk:Int)/\tr=t.led pl (.tup [])/\ds[dk]?=some (dn,t)/\(t.pr (mq hs) true)[pl]?=some (.put z m,true)
def L_.Hi{ds:List (Str×Bd)}{hs:Vs}{d tr:PV}{z:Str}:L_ ds hs d tr z->z∈Ic (mq hs) ds:=fun⟨_,_,_,t,m,_,_,h1,h2⟩=>Uo.mpr ⟨_,SY h1,(Bd.HR (mq hs) t).mpr ⟨m,SY h2⟩⟩
abbrev mD(w:aw):Prop:=∀{S:az} {js hs:Vs} {ds:List (Str×Bd)} {nm:Addr} {Q:bj} {E:bK},HG js ds->k8 hs->S nm=some (.lst (hs.map PV.str))->
  (∀S',Ext S S'->(∀z∈Ic (mq hs) ds,z∈hs)->Q .non S')->
  (∀(k:Nat) z d tr S',Ext S S'->js[k]?=some z->L_ ds hs d tr z->z ∉ hs->Q (.tup [.int (k:Int),d,tr]) S')->w [jF js ds,.ref nm] S Q E
def xj{js:Vs}{z:Str}(h:z∈js):∃k:Nat,js[k]?=some z/\∀j:Nat,j < k->js[j]?≠some z:=by
 induction js with
 |nil=>cases h
 |cons x r ih=>
  by_cases e:x=z
  ·subst e;exact⟨0,rfl,fun j hj=>absurd hj (Nat.not_lt_zero _)⟩
  ·obtain⟨k,h1,h2⟩:=ih ((Sv.mp h).resolve_left (UO e))
   refine⟨k+1,by simpa using h1,fun j hj=>?_⟩
   cases j with
   |zero=>simpa using e
   |succ j=>simpa using h2 j (by omega)
def La{xp xl:aw}(Lz:mC 6 xp)(ND:jI 6 xl):mD (aR 7 (gX xp xl)):=by
 intro S js hs ds nm Q E hg hh hn k0 k1
 unfold gX
 refine cC ?_
 rw[show ar 7 [jF js ds,.ref nm]=[some (.tup [dG js,.tup (ds.map j3)]),some (.ref nm),none,none,none,none,none] from rfl]
 refine am fun N hN=>?_
 simp only[bz,dU,ah,v3,lk,c3,ae,cR]
 refine bb (fun done σ S'=>∃(x2 x3 x4 x5 x6:Option PV),σ=[some (.tup [dG js,.tup (ds.map j3)]),some (.ref nm),x2,x3,x4,x5,x6]/\Ext S S'/\done.length<=ds.length/\∀p∈ds.take done.length,∀z∈p.2.Hi (mq hs),z∈hs) ⟨_,_,_,_,_,rfl,.refl,Tr _,by simp⟩ (fun _ _ _ _=>trivial) ?_ ?_
 ·rintro done x rest σ S1 K e ⟨x2,x3,x4,x5,x6,rfl,X1,hl,hd⟩ hK
  obtain⟨y,rfl,hy⟩:=hG e
  rw[SA]at hy
  cases hs':ds[done.length]? with
  |none=>rw[hs']at hy;cases hy
  |some p=>
  rw[hs']at hy
  cases hy
  obtain⟨dn,t⟩:=p
  have hlt:done.length < ds.length:=(Td.mp hs').1
  have hm:(dn,t)∈ds:=SY hs'
  have hn1:=X1 _ _ hn
  simp only[Tg.put,Tg.Hi,List.set_cons_succ,List.set_cons_zero]
  simp only[kr,ak,ah,v3,lk,c3,ae,j3,cR,List.cons_append,List.nil_append]
  refine Lz (hg.dp _ hm) (by have:t.size<=60:=hg.sz _ hm;omega) (hg.gd _ hm) hg.jw hh hn1 fun pl S2 hpl X2 h2=>?_
  simp only[h2]
  have hn2:=X2 _ _ hn1
  refine bb (fun Hs σ S'=>∃(x4 x5 x6:Option PV),σ=[some (.tup [dG js,.tup (ds.map j3)]),some (.ref nm),some (.int (done.length:Int)),some (.tup [.str dn,t.pv]),x4,x5,x6]/\S'=S2/\∀z m,(Bd.put z m,true)∈(t.pr (mq hs) true).take Hs.length->z∈hs) ⟨_,_,_,rfl,rfl,by simp⟩ (fun _ _ _ ⟨_,_,_,_,h,_⟩=>by rw[h];exact h2) ?_ ?_
  ·rintro Hs x MB σ S3 K2 e2 ⟨y4,y5,y6,rfl,rfl,hd2⟩ PL
   obtain⟨y,rfl,hy⟩:=hG e2
   rw[SA]at hy
   cases hu:(t.pr (mq hs) true)[Hs.length]? with
   |none=>rw[hu]at hy;cases hy
   |some u=>
   rw[hu]at hy
   cases hy
   obtain⟨u,f⟩:=u
   have hup:Hs.length < t.size:=by rw[<-Bd.IH (mq hs) t true];exact(Td.mp hu).1
   have N8:(u,f)∈t.pr (mq hs) true:=SY hu
   have cont:(f=true->∀z m,u=Bd.put z m->z∈hs)->∀(S':az) (x6:Option PV),S'=S3->K2 [some (.tup [dG js,.tup (ds.map j3)]),some (.ref nm),some (.int (done.length:Int)),some (.tup [.str dn,t.pv]),some (.int (Hs.length:Int)),some (fW (u,f)),x6] S':=fun hc S' x6 eS=>PL _ _ ⟨_,_,_,rfl,eS,fun z m hz=>by
    rw[Sn,SK,Uj,hu,SI]at hz
    rcases hz with hz|hz
    ·exact hd2 z m hz
    ·have:(Bd.put z m,true)=(u,f):=by simpa using hz
     cases this
     exact hc rfl z m rfl⟩
   simp only[Tg.put,Tg.Hi,List.set_cons_succ,List.set_cons_zero]
   refine am fun N3 Lm=>?_
   simp only[aq,ah,v3,lk,c3,ae,fW,cx,List.set_cons_succ,List.set_cons_zero]
   refine Lm _ _ ?_
   simp only[bq,iP,aP,ah,v3,lk,c3,ae,cR]
   cases f with
   |false=>
    rw[if_neg (by decide),if_neg (by decide)]
    exact cont (fun h=>by cases h) _ _ rfl
   |true=>
   rw[if_pos rfl,Bd.Jy]
   simp only[cx,cR,br,SJ,SE]
   by_cases Lb:u.hd=("put":Str)
   ·obtain⟨z,m,rfl⟩:=(Bd.K_ u).mp Lb
    rw[if_pos Lb]
    have hz:z∈t.Hi (mq hs):=(Bd.HR (mq hs) t).mpr ⟨m,N8⟩
    have OD:z∈js:=t.HE (hg.gd _ hm) hz
    simp only[Bd.tl,cR]
    refine eE hn2 (hg.jw z OD) hh ?_
    by_cases hin:z∈hs
    ·simp only[hin,UM,TF,Uv,SD,Tt]
     exact cont (fun _ z' m' e=>by cases e;exact hin) _ _ rfl
    ·simp only[hin,Vi,TF,Ui,TH]
     obtain⟨kk,hk1,hk2⟩:=xj OD
     simp only[av,ay,ak,sk,ah,v3,lk,c3,ae,cx,cR,dG,eB,iY]
     refine⟨kk,hk1,hk2,?_⟩
     simp only[ab,ak,ah,v3,lk,c3,ae,cR,ay]
     refine ND (hg.dp _ hm) (by have:t.size<=60:=hg.sz _ hm;omega) hup fun S4 X4=>?_
     exact k1 kk z _ _ S4 (X1.trans (X2.trans X4)) hk1 ⟨done.length,Hs.length,dn,t,m,rfl,rfl,hs',hu⟩ hin
   ·rw[if_neg Lb,if_neg (by decide),<-Bd.Jy]
    exact cont (fun _ z m e=>absurd (by rw[e];rfl) Lb) _ _ rfl
  ·rintro σ S3 ⟨y4,y5,y6,rfl,rfl,hd2⟩
   have ln:(L3.aS ((t.pr (mq hs) true).map fW)).length=(t.pr (mq hs) true).length:=by unfold L3.aS;rw[V5,Sm]
   rw[ln,T3]at hd2
   refine hK _ _ ⟨_,_,_,_,_,rfl,X1.trans X2,by rw[Sn];exact hlt,fun p hp z hz=>?_⟩
   rw[Sn,SK,Uj,hs',SI]at hp
   rcases hp with hp|hp
   ·exact hd p hp z hz
   ·have:p=(dn,t):=by simpa using hp
    subst this
    obtain⟨m,hm'⟩:=(Bd.HR (mq hs) t).mp hz
    exact hd2 z m hm'
 ·rintro σ S1 ⟨x2,x3,x4,x5,x6,rfl,X1,hl,hd⟩
  refine hN _ _ ?_
  have ln:(L3.aS (ds.map j3)).length=ds.length:=by unfold L3.aS;rw[V5,Sm]
  rw[ln,T3]at hd
  walk_at "x"
  refine k0 S1 X1 fun z hz=>?_
  obtain⟨p,hp,hz⟩:=Uo.mp hz
  exact hd p hp z hz
def qJ(js:Vs)(ds:List (Str×Bd))(hs:Vs)(v:PV)(z:Str):Prop:=∃(k:Nat) (d tr:PV),v = .tup [.int (k:Int),d,tr]/\js[k]?=some z/\L_ ds hs d tr z
abbrev k9(w:aw):Prop:=∀{S:az} {js:Vs} {ds:List (Str×Bd)} {Q:bj} {E:bK},HG js ds->
  (∀p (vs:List PV) (hs:Vs) S',S p=none->Ext S S'->S' p=some (.lst vs)->vs.length=hs.length->(∀(j:Nat) v z,vs[j]?=some v->hs[j]?=some z->qJ js ds (hs.take j) v z)->Fs ds hs->hs.Nodup->(∀z∈hs,z∈js)->(∀z∈Ic (mq hs) ds,z∈hs)->Q (.ref p) S')->w [jF js ds] S Q E
def JX{xn:aw}(La:mD xn):k9 (aR 4 (ku xn)):=by
 intro S js ds Q E hg k
 unfold ku
 refine cC ?_
 rw[show ar 4 [jF js ds]=[some (jF js ds),none,none,none] from rfl]
 refine am fun N hN=>?_
 walk_at "x"
 intro pf hpf
 refine hN _ _ (am fun N hN=>?_)
 walk_at "x"
 intro pn OE
 have PM:pf≠pn:=fun e=>by rw[<-e,aa]at OE;cases OE
 have X0:Ext S (He (He S pf (.lst [])) pn (.lst [])):=(Ext.new hpf).trans (.new OE)
 have f0:(He (He S pf (.lst [])) pn (.lst [])) pf=some (.lst []):=by rw[au PM,aa]
 have n0:(He (He S pf (.lst [])) pn (.lst [])) pn=some (.lst ([].map PV.str)):=aa
 have PN:S pn=none:=(Ext.new hpf).free OE
 generalize He (He S pf (.lst [])) pn (.lst [])=S0 at X0 f0 n0
 refine hN _ _ (am fun N hN=>?_)
 -- what holds N9 the next step is known
 have I0:∀(v:PV) (S1:az) (vs:List PV) (hs:Vs) (N':cF->az->Prop),True:=fun _ _ _ _ _=>trivial
 have QE:∀(S1:az) (vs:List PV) (hs:Vs) (R:PV->az->Prop),Ext S S1->S1 pf=some (.lst vs)->S1 pn=some (.lst (hs.map PV.str))->vs.length=hs.length->(∀(j:Nat) v z,vs[j]?=some v->hs[j]?=some z->qJ js ds (hs.take j) v z)->Fs ds hs->hs.Nodup->(∀z∈hs,z∈js)->
   (∀v S2,Ext S S2->S2 pf=some (.lst vs)->S2 pn=some (.lst (hs.map PV.str))->((v = .non/\∀z∈Ic (mq hs) ds,z∈hs)\/(∃z,qJ js ds hs v z/\z ∉ hs/\z∈js))->R v S2)->xn [jF js ds,.ref pn] S1 R dW:=by
  intro S1 vs hs R X1 f1 n1 h1 h2 h3 h4 h5 kk
  refine La hg (fun z hz=>hg.jw z (h5 z hz)) n1 (fun S2 X2 cl=>kk _ S2 (X1.trans X2) (X2 _ _ f1) (X2 _ _ n1) (.inl ⟨rfl,cl⟩)) fun kx z d tr S2 X2 a1 a2 a3=>?_
  exact kk _ S2 (X1.trans X2) (X2 _ _ f1) (X2 _ _ n1) (.inr ⟨z,⟨kx,d,tr,rfl,a1,a2⟩,a3,SY a1⟩)
 simp only[aq,ab,ak,v3,lk]
 refine QE S0 [] [] _ X0 f0 n0 rfl (fun j v z h=>by cases h) .nil WK (fun z h=>by cases h) fun v0 S1 X1 f1 n1 c1=>?_
 simp only[List.set_cons_succ,List.set_cons_zero]
 refine hN _ _ (am fun N hN=>?_)
 refine⟨fun m σ S'=>∃(v:PV) (vs:List PV) (hs:Vs),σ=[some (jF js ds),some (.ref pf),some (.ref pn),some v]/\Ext S S'/\S' pf=some (.lst vs)/\S' pn=some (.lst (hs.map PV.str))/\vs.length=hs.length/\(∀(j:Nat) v z,vs[j]?=some v->hs[j]?=some z->qJ js ds (hs.take j) v z)/\Fs ds hs/\hs.Nodup/\(∀z∈hs,z∈js)/\
   ((v = .non/\∀z∈Ic (mq hs) ds,z∈hs)\/(∃z,qJ js ds hs v z/\z ∉ hs/\z∈js))/\js.length - hs.length=m,⟨_,v0,[],[],rfl,X1,f1,n1,rfl,(fun j v z h=>by cases h),.nil,WK,(fun z h=>by cases h),c1,rfl⟩,?_⟩
 rintro m σ S' ⟨v,vs,hs,rfl,X,f,nn,h1,h2,h3,h4,h5,c,rfl⟩
 rcases c with⟨rfl,cl⟩|⟨z,⟨kx,d,tr,rfl,hk,hx⟩,hnz,OD⟩
 ·simp only[aP,ah,v3,lk,c3,qp,bne_self_eq_false,SD,Tt]
  refine hN _ _ ?_
  walk_at "x"
  exact k pf vs hs S' hpf X f h1 h2 h3 h4 h5 cl
 ·simp only[aP,ah,v3,lk,c3,qp,Bool.bne_false,TH]
  refine⟨fun σ' K0=>∃(v:PV) (vs:List PV) (hs':Vs),σ'=[some (jF js ds),some (.ref pf),some (.ref pn),some v]/\Ext S K0/\K0 pf=some (.lst vs)/\K0 pn=some (.lst (hs'.map PV.str))/\vs.length=hs'.length/\(∀(j:Nat) v z,vs[j]?=some v->hs'[j]?=some z->qJ js ds (hs'.take j) v z)/\Fs ds hs'/\hs'.Nodup/\(∀z∈hs',z∈js)/\
   ((v = .non/\∀z∈Ic (mq hs') ds,z∈hs')\/(∃z,qJ js ds hs' v z/\z ∉ hs'/\z∈js))/\js.length - hs'.length < js.length - hs.length,?_,?_⟩
  ·rintro σ' K0 ⟨v,vs,hs',rfl,a1,a2,a3,a4,a5,a6,a7,a8,a9,Rw⟩
   exact⟨_,Rw,v,vs,hs',rfl,a1,a2,a3,a4,a5,a6,a7,a8,a9,rfl⟩
  ·have hn1:(hs++[z]).Nodup:=List.nodup_append.mpr ⟨h4,by simp,fun a ha b hb e=>hnz (by rw[<-SM.mp hb,<-e];exact ha)⟩
   have hj1:∀y∈hs++[z],y∈js:=fun y hy=>(SI.mp hy).elim (h5 y) fun h=>by rw[SM.mp h];exact OD
   have len:=jO (hs++[z]) js hn1 hj1
   have hz:=hx.Hi
   have hjl:=hg.jl
   rw[Sn,SK]at len
   refine am fun N2 JV=>?_
   walk_at "x"
   simp only[f,Vz]
   refine⟨SW (show _ < 1001 by omega) (by decide),JV _ _ (am fun N2 JV=>?_)⟩
   have Rx:pn≠pf:=UO PM
   have Xa:Ext S (He S' pf (.lst (vs++[.tup [.int (kx:Int),d,tr]]))):=X.put hpf
   have fa:(He S' pf (.lst (vs++[.tup [.int (kx:Int),d,tr]]))) pf=some (.lst (vs++[.tup [.int (kx:Int),d,tr]])):=aa
   have na:(He S' pf (.lst (vs++[.tup [.int (kx:Int),d,tr]]))) pn=some (.lst (hs.map PV.str)):=by rw[au Rx];exact nn
   generalize He S' pf (.lst (vs++[.tup [.int (kx:Int),d,tr]]))=Sa at Xa fa na
   rw[show jF js ds = .tup [dG js,.tup (ds.map j3)] from rfl]
   walk_at "x"
   simp only[na,Vz,cx,dG]
   rw[b9 (v:=PV.str z) (by rw[SA,hk];rfl)]
   simp only[na]
   refine⟨SW (show _ < 1001 by rw[Sm];omega) (by decide),JV _ _ ?_⟩
   have Xb:Ext S (He Sa pn (.lst (hs.map PV.str++[.str z]))):=Xa.put PN
   have fb:(He Sa pn (.lst (hs.map PV.str++[.str z]))) pf=some (.lst (vs++[.tup [.int (kx:Int),d,tr]])):=by rw[au PM];exact fa
   have nb:(He Sa pn (.lst (hs.map PV.str++[.str z]))) pn=some (.lst ((hs++[z]).map PV.str)):=by rw[aa,Te];rfl
   generalize He Sa pn (.lst (hs.map PV.str++[.str z]))=Sb at Xb fb nb
   have st1:∀(j:Nat) v y,(vs++[.tup [.int (kx:Int),d,tr]])[j]?=some v->(hs++[z])[j]?=some y->qJ js ds ((hs++[z]).take j) v y:=fun j v y hv hy=>by
    by_cases hj:j < vs.length
    ·rw[TX hj]at hv
     rw[TX (by omega)]at hy
     rw[List.take_append_of_le_length (by omega)]
     exact h2 j v y hv hy
    ·rw[Ud (by omega)]at hv
     rw[Ud (by omega)]at hy
     have e1:j - vs.length=0:=by
      have:=(Td.mp hv).1
      rw[SK]at this
      omega
     have e2:j - hs.length=0:=by omega
     rw[e1]at hv
     rw[e2]at hy
     cases hv;cases hy
     refine⟨kx,d,tr,rfl,hk,?_⟩
     rw[List.take_append_of_le_length (by omega),Wf (by omega)]
     exact hx
   simp only[aq,ab,ak,v3,lk]
   refine QE Sb _ (hs++[z]) _ Xb fb nb (by simp[h1]) st1 (.snoc h3 hz) hn1 hj1 fun v2 S2 X2 f2 n2 c2=>?_
   simp only[List.set_cons_succ,List.set_cons_zero]
   exact⟨v2,_,hs++[z],rfl,X2,f2,n2,by simp[h1],st1,.snoc h3 hz,hn1,hj1,c2,by rw[Sn,SK];omega⟩
def LY(js:Vs)(ds:List (Str×Bd))(hs:Vs):Prop:=Fs ds hs/\hs.Nodup/\(∀z∈hs,z∈js)/\∀z∈Ic (mq hs) ds,z∈hs
abbrev fX(w:aw):Prop:=∀{S:az} {js:Vs} {ds:List (Str×Bd)} {Q:bj} {E:bK},HG js ds->
  (∀p (hs:Vs) S',S p=none->Ext S S'->S' p=some (.lst (hs.map PV.str))->LY js ds hs->Q (.ref p) S')->w [jF js ds] S Q E
def qK{xf:aw}(JX:k9 xf):fX (aR 1 (iZ xf)):=by
 intro S js ds Q E hg k
 unfold iZ
 refine cC ?_
 rw[show ar 1 [jF js ds]=[some (jF js ds)] from rfl]
 simp only[av,aF,aE,ab,ak,v3,lk]
 refine JX hg fun p vs hs S1 hp X1 h1 hl hst f1 f2 f3 f4=>?_
 have hjl:=hg.jl
 have hle:=jO hs js f2 f3
 simp only[bF,h1]
 have ev:vs=(vs.zip hs).map Prod.fst:=by rw[List.map_fst_zip];omega
 have eh:(vs.zip hs).map (fun z=>PV.str z.2)=hs.map PV.str:=by
  have:(vs.zip hs).map Prod.snd=hs:=by rw[List.map_snd_zip];omega
  calc _=((vs.zip hs).map Prod.snd).map PV.str:=by rw[SV];rfl
   _=_:=by rw[this]
 have key:dA (.n 0) bH (ah ae (ah ae (v3 1) (c3 (.int 0))) (ah ae (v3 0) (c3 (.int 0)))) (cS 1 [0] [some (jF js ds)]) (fun S'=>S' p=some (.lst vs)) (fun ys S2=>∀p,S2 p=none->Q (.ref p) (He S2 p (.lst ys))) ((vs.zip hs).map Prod.fst) [] S1:=by
  refine aQ Prod.fst (fun z=>PV.str z.2) h1 (vs.zip hs) [] (fun z hz=>?_) (by rw[Tj,TJ,Um];exact bN (by omega)) fun q hq=>?_
  ·obtain⟨j,hj⟩:=List.getElem?_of_mem hz
   obtain⟨e1,e2⟩:=UE.mp hj
   obtain⟨kx,d,tr,ez,hk,_⟩:=hst j _ _ e1 e2
   refine⟨_,rfl,fun Q' q'=>?_⟩
   rw[ez,show jF js ds = .tup [dG js,.tup (ds.map j3)] from rfl]
   walk_at "x"
   simp only[cx,dG]
   rw[b9 (v:=PV.str z.2) (by rw[SA,hk];rfl)]
   exact q'
  ·rw[Tq,eh]
   exact k q hs _ (X1.free hq) (X1.trans (.new hq)) aa ⟨f1,f2,f3,f4⟩
 rw[<-ev]at key
 exact key
def Ip(p:Addr)(S S':az):Prop:=∀a o,S a=some o->a≠p->S' a=some o
def Ip.refl{p:Addr}{S:az}:Ip p S S:=fun _ _ h _=>h
def Ip.trans{p:Addr}{S S1 S2:az}(a:Ip p S S1)(b:Ip p S1 S2):Ip p S S2:=fun x o h n=>b x o (a x o h n) n
def Ip.upd{p:Addr}{S:az}{o:SO}:Ip p S (He S p o):=fun x u h n=>by rw[au n];exact h
theorem Bd.Hw(q:Qs):∀t:Bd,(t.Hi q).length<=t.size
 | .rest=>Tr _
 | .pay _ _=>Tr _
 | .put _ _=>Ss _
 | .use _=>Tr _
 | .HM a=>Su (a.Hw q) (Nat.le_succ _)
 | .Hj a b=>by show(a.Hi q++b.Hi q).length<=a.size+b.size+1;rw[Sn];have:=a.Hw q;have:=b.Hw q;omega
 | .HI a b=>by show(a.Hi q++b.Hi q).length<=a.size+b.size+1;rw[Sn];have:=a.Hw q;have:=b.Hw q;omega
 | .Hz z m a b=>by
  show((if q z=true then a.Hi q else [])++b.Hi q).length<=a.size+b.size+1
  rw[Sn]
  have:=a.Hw q;have:=b.Hw q
  split
  ·omega
  ·simp;omega
abbrev iu(n:Nat)(w:aw):Prop:=∀{S:az} {t:Bd} {js us hs fs:Vs} {hl fd:Addr} {Q:bj} {E:bK},t.dep<=n->t.good js us->k8 js->k8 hs->S hl=some (.lst (hs.map PV.str))->S fd=some (.lst (fs.map PV.str))->hl≠fd->fs.length+t.size<=1000000->
  (∀S',Ip fd S S'->S' fd=some (.lst ((fs++t.Hi (mq hs)).map PV.str))->Q .non S')->w [t.pv,.ref hl,.ref fd] S Q E
def sB:∀z∈(["then","either","take"]:Vs),PyData.strOk z=true:=by decide +kernel
def xq{s0:aw}(n:Nat)(ih:iu n s0):iu (n+1) (aR 3 (gW s0)):=by
 intro S t js us hs fs hl fd Q E hd hg hj hh h1 h2 hne hsz k
 unfold gW
 refine cC ?_
 rw[Bd.Jy,show ar 3 [.tup (.str t.hd::t.tl),.ref hl,.ref fd]=[some (.tup (.str t.hd::t.tl)),some (.ref hl),some (.ref fd)] from rfl]
 refine am fun N hN=>?_
 have leaf:∀S1:az,t.hd≠("often":Str)->t.hd ∉ (["then","either","take"]:Vs)->Q .non S1->N [some (.tup (.str t.hd::t.tl)),some (.ref hl),some (.ref fd)] S1:=fun S1 ho h3 q=>by
  refine hN _ _ (am fun N hN=>?_)
  simp only[bq,aP,ah,v3,lk,c3,ae,cx,br,SJ,SE]
  rw[if_neg ho]
  refine hN _ _ ?_
  simp only[bq,aP,ah,v3,lk,c3,ae,cx,ay,ak]
  rw[pC]
  refine cp t.KO sB ?_
  simp only[h3,Vi,SJ,SD,Tt]
  exact q
 simp only[bq,aP,ah,v3,lk,c3,ae,cx,br,SJ,SE]
 by_cases Lb:t.hd=("put":Str)
 ·rw[if_pos Lb]
  obtain⟨z,m,rfl⟩:=(Bd.K_ t).mp Lb
  simp only[aW,eR,p5,ak,ah,v3,lk,c3,ae,cR,Bd.tl,bf,h2,Vz]
  have hs1:(Bd.put z m).size=1:=rfl
  refine⟨SW (show _ < 1000001 by rw[Sm];omega) (by decide),leaf _ (by simp[Bd.hd,aM]) (by simp[Bd.hd,aM]) (k _ .upd ?_)⟩
  rw[aa,Te]
  rfl
 rw[if_neg Lb]
 by_cases MC:t.hd=("often":Str)
 ·obtain⟨a,rfl⟩:=(Bd.Mz t).mp MC
  refine hN _ _ (am fun N hN=>?_)
  simp only[bq,aP,ah,v3,lk,c3,ae,cx,br,SJ,SE]
  rw[if_pos MC]
  simp only[aW,ab,ak,ah,v3,lk,c3,ae,cR,Bd.tl]
  simp only[Bd.dep]at hd
  have hs1:(Bd.HM a).size=a.size+1:=rfl
  refine ih (by omega) hg hj hh h1 h2 hne (by omega) fun S1 X1 f1=>?_
  refine hN _ _ ?_
  simp only[bq,aP,ah,v3,lk,c3,ae,cx,ay,ak]
  rw[pC]
  refine cp (Bd.HM a).KO sB ?_
  simp only[Bd.hd,aM,String.reduceEq,Sv,SS,T9,or_self,Vi,SJ,SD,Tt]
  exact k S1 X1 f1
 by_cases h3:t.hd∈(["then","either","take"]:Vs)
 ·refine hN _ _ (am fun N hN=>?_)
  simp only[bq,aP,ah,v3,lk,c3,ae,cx,br,SJ,SE]
  rw[if_neg MC]
  refine hN _ _ ?_
  simp only[bq,aP,ah,v3,lk,c3,ae,cx,ay,ak]
  rw[pC]
  refine cp t.KO sB ?_
  simp only[h3,UM,SJ,TH]
  refine am fun N2 JV=>?_
  -- the second side
  have snd:∀(hd2:List PV) (a b:Bd) (S1:az) (OF:Vs),(.str t.hd::t.tl)=hd2++[a.pv,b.pv]->b.dep<=n->b.good js us->Ip fd S S1->S1 fd=some (.lst (OF.map PV.str))->OF.length+b.size<=1000000->OF++b.Hi (mq hs)=fs++t.Hi (mq hs)->N2 [some (.tup (.str t.hd::t.tl)),some (.ref hl),some (.ref fd)] S1:=fun hd2 a b S1 OF e1 g1 g2 X1 f1 l1 e2=>by
   refine JV _ _ ?_
   simp only[aW,ab,ak,ah,v3,lk,c3,ae,gH,bY]
   have e3:Ii (.str t.hd::t.tl) (-1)=some b.pv:=by rw[e1];have:=iq (a:=a.pv) (b:=b.pv) (hd:=hd2) (i:=1) (.inr rfl);simpa using this
   rw[e3]
   refine ih g1 g2 hj hh (X1 _ _ h1 hne) f1 hne l1 fun S2 X2 f2=>?_
   rw[e2]at f2
   exact k S2 (X1.trans X2) f2
  have fst:∀(hd2:List PV) (a b:Bd) (Q':bj),(.str t.hd::t.tl)=hd2++[a.pv,b.pv]->a.dep<=n->a.good js us->fs.length+a.size<=1000000->(∀S1,Ip fd S S1->S1 fd=some (.lst ((fs++a.Hi (mq hs)).map PV.str))->Q' .non S1)->ab s0 [ah ae (v3 0) (gH bY (c3 (.int 2))),v3 1,v3 2] [some (.tup (.str t.hd::t.tl)),some (.ref hl),some (.ref fd)] S Q' dW:=fun hd2 a b Q' e1 g1 g2 l1 kk=>by
   simp only[ab,ak,ah,v3,lk,c3,ae,gH,bY]
   have e3:Ii (.str t.hd::t.tl) (-2)=some a.pv:=by rw[e1];have:=iq (a:=a.pv) (b:=b.pv) (hd:=hd2) (i:=0) (.inl rfl);simpa using this
   rw[e3]
   exact ih g1 g2 hj hh h1 h2 hne l1 kk
  simp only[bq,lU,aP,ah,v3,lk,c3,ae,cx,br,TF,WV,Vy,aW]
  have la:∀c:Bd,(c.Hi (mq hs)).length<=c.size:=Bd.Hw (mq hs)
  cases t with
  |Hj a b=>
   have hs1:(Bd.Hj a b).size=a.size+b.size+1:=rfl
   simp only[Bd.dep]at hd
   rw[if_pos (by simp[Bd.hd,aM]),if_pos trivial]
   refine fst [.str "then"] a b _ rfl (by omega) hg.1 (by omega) fun S1 X1 f1=>?_
   exact snd [.str "then"] a b S1 _ rfl (by omega) hg.2 X1 f1 (by rw[Sn];have:=la a;omega) (by rw[Uz];rfl)
  |HI a b=>
   have hs1:(Bd.HI a b).size=a.size+b.size+1:=rfl
   simp only[Bd.dep]at hd
   rw[if_pos (by simp[Bd.hd,aM]),if_pos trivial]
   refine fst [.str "either"] a b _ rfl (by omega) hg.1 (by omega) fun S1 X1 f1=>?_
   exact snd [.str "either"] a b S1 _ rfl (by omega) hg.2 X1 f1 (by rw[Sn];have:=la a;omega) (by rw[Uz];rfl)
  |Hz z m a b=>
   have hs1:(Bd.Hz z m a b).size=a.size+b.size+1:=rfl
   have ep:(Bd.Hz z m a b).Hi (mq hs)=(if mq hs z=true then a.Hi (mq hs) else [])++b.Hi (mq hs):=rfl
   simp only[Bd.dep]at hd
   rw[if_neg (by simp[Bd.hd])]
   simp only[Bd.tl,cR]
   refine eE h1 (hj z hg.1) hh ?_
   by_cases hin:z∈hs
   ·simp only[hin,UM,SJ,TH]
    rw[show mq hs z=true from Tp hin,if_pos rfl]at ep
    refine fst [.str "take",.str z,.int m] a b _ rfl (by omega) hg.2.2.2.1 (by omega) fun S1 X1 f1=>?_
    exact snd [.str "take",.str z,.int m] a b S1 _ rfl (by omega) hg.2.2.2.2 X1 f1 (by rw[Sn];have:=la a;omega) (by rw[ep,Uz])
   ·simp only[hin,Vi,SJ,SD,Tt]
    rw[show mq hs z=false from Tc hin,if_neg (by decide),Tq]at ep
    exact snd [.str "take",.str z,.int m] a b S fs rfl (by omega) hg.2.2.2.2 .refl h2 (by omega) (by rw[ep])
  |_=>simp[Bd.hd,aM]at h3
 ·refine leaf S MC h3 (k S .refl ?_)
  have e:t.Hi (mq hs)=[]:=by cases t<;>first|rfl|exact absurd rfl Lb|exact absurd rfl MC|simp[Bd.hd]at h3
  rw[e,Ti]
  exact h2
theorem on{js:Vs}{ds:List (Str×Bd)}(hg:HG js ds)(q:Qs):∀n,n<=ds.length->(Ic q (ds.take n)).length<=60 * n
 |0,_=>by simp[Ic]
 |n+1,h=>by
  have ih:=on hg q n (by omega)
  have hlt:n < ds.length:=by omega
  unfold Ic at *
  rw[Uj,SR hlt,Ub,Sn]
  have h1:=Bd.Hw q ds[n].2
  have h2:ds[n].2.size<=60:=hg.sz _ (Wm hlt)
  simp only[Option.toList_some,Ur,List.flatMap_nil,Ti]
  omega
theorem tP{js:Vs}{ds:List (Str×Bd)}(hg:HG js ds):∀k,∀z∈held ds k,z∈js
 |0,z,h=>by cases h
 |k+1,z,h=>by
  obtain⟨p,hp,hz⟩:=Uo.mp h
  exact p.2.HE (hg.gd p hp) hz
abbrev kG(w:aw):Prop:=∀{S:az} {js:Vs} {ds:List (Str×Bd)} {Q:bj} {E:bK},HG js ds->(∀p S',S p=none->Ext S S'->S' p=some (.lst ((held ds js.length).map PV.str))->Q (.ref p) S')->w [jF js ds] S Q E
def xu{xp:aw}(M5:iu 6 xp):kG (aR 6 (dE xp)):=by
 intro S js ds Q E hg k
 unfold dE
 refine cC ?_
 rw[show ar 6 [jF js ds]=[some (.tup [dG js,.tup (ds.map j3)]),none,none,none,none,none] from rfl]
 have hdl:=hg.dl
 refine am fun N hN=>?_
 walk_at "x"
 intro p0 hp0
 have X0:Ext S (He S p0 (.lst [])):=.new hp0
 have f0:(He S p0 (.lst [])) p0=some (.lst ((held ds 0).map PV.str)):=aa
 generalize He S p0 (.lst [])=S0 at X0 f0
 refine hN _ _ (am fun N hN=>?_)
 simp only[bz,aE,ah,v3,lk,c3,ae,cx,dG,bF]
 refine bb (fun done σ S'=>∃(p:Addr) (x2 x3 x4 x5:Option PV),σ=[some (.tup [.tup (js.map PV.str),.tup (ds.map j3)]),some (.ref p),x2,x3,x4,x5]/\S p=none/\Ext S S'/\S' p=some (.lst ((held ds done.length).map PV.str))) ⟨p0,_,_,_,_,rfl,hp0,X0,f0⟩ (fun _ _ _ _=>trivial) ?_ ?_
 ·rintro done x rest σ S1 K e ⟨p,x2,x3,x4,x5,rfl,hp,X1,f1⟩ hK
  simp only[Tg.put,List.set_cons_succ,List.set_cons_zero]
  refine am fun N2 JV=>?_
  walk_at "x"
  intro pf hpf
  have NE:p≠pf:=fun h=>by rw[h,hpf]at f1;cases f1
  have LA:S pf=none:=X1.free hpf
  have X2:Ext S (He S1 pf (.lst [])):=X1.trans (.new hpf)
  have f2:(He S1 pf (.lst [])) p=some (.lst ((held ds done.length).map PV.str)):=by rw[au NE];exact f1
  have g2:(He S1 pf (.lst [])) pf=some (.lst (([]:Vs).map PV.str)):=aa
  generalize He S1 pf (.lst [])=S2 at X2 f2 g2
  refine JV _ _ (am fun N2 JV=>?_)
  simp only[bz,aE,ah,v3,lk,c3,ae,cR,bF]
  have hJ:k8 (held ds done.length):=fun z hz=>hg.jw z (tP hg _ z hz)
  refine bb (fun Hs σ S'=>∃(x4 x5:Option PV),σ=[some (.tup [.tup (js.map PV.str),.tup (ds.map j3)]),some (.ref p),some x,some (.ref pf),x4,x5]/\Hs.length<=ds.length/\Ip pf S2 S'/\S' pf=some (.lst ((Ic (mq (held ds done.length)) (ds.take Hs.length)).map PV.str))) ⟨_,_,rfl,Tr _,.refl,by simpa [Ic]using g2⟩ (fun _ _ _ _=>trivial) ?_ ?_
  ·rintro Hs y MB σ S3 K2 e2 ⟨x4,x5,rfl,hl2,X3,f3⟩ PL
   have hy:(ds.map j3)[Hs.length]?=some y:=by rw[e2];simp
   rw[SA]at hy
   cases hd:ds[Hs.length]? with
   |none=>rw[hd]at hy;cases hy
   |some q=>
   rw[hd]at hy
   cases hy
   obtain⟨dn,t⟩:=q
   have hlt:Hs.length < ds.length:=(Td.mp hd).1
   have hm:(dn,t)∈ds:=SY hd
   simp only[j3,Tg.put,Tg.Hi,List.set_cons_succ,List.set_cons_zero]
   simp only[aW,ab,ak,v3,lk]
   have lb:=on hg (mq (held ds done.length)) Hs.length hl2
   refine M5 (hg.dp _ hm) (hg.gd _ hm) hg.jw hJ (X3 _ _ f2 NE) f3 NE (by have:t.size<=60:=hg.sz _ hm;omega) fun S4 X4 f4=>?_
   refine PL _ _ ⟨_,_,rfl,by rw[Sn];exact hlt,X3.trans X4,?_⟩
   rw[f4,Sn,SK]
   congr 3
   unfold Ic
   rw[Uj,hd,Ub]
   simp
  ·rintro σ S3 ⟨x4,x5,rfl,hl2,X3,f3⟩
   rw[Sm,T3]at f3
   refine JV _ _ ?_
   walk_at "x"
   refine hK _ _ ⟨pf,_,_,_,_,rfl,LA,fun a o h=>X3 a o (X2 a o h) (fun e=>by rw[e,LA]at h;cases h),?_⟩
   rw[f3,Sn,SK]
   rfl
 ·rintro σ S1 ⟨p,x2,x3,x4,x5,rfl,hp,X1,f1⟩
  refine hN _ _ ?_
  walk_at "x"
  rw[Sm]at f1
  exact k p S1 hp X1 f1
noncomputable def Bd.ps(q:Qs):Bd->List PV
 | .rest=>[.tup []]
 | .pay _ _=>[.tup []]
 | .put _ _=>[.tup []]
 | .use _=>[.tup []]
 | .HM _=>[.tup []]
 | .Hj a b=>(a.ps q).flatMap fun x=>(b.ps q).map fun y=>.tup [x,y]
 | .HI a b=>(a.ps q).map (fun x=>.tup [.int 0,x])++(b.ps q).map fun x=>.tup [.int 1,x]
 | .Hz z _ a b=>(if q z then (a.ps q).map (fun x=>.tup [.int 0,x]) else [])++(b.ps q).map fun x=>.tup [.int 1,x]
def mE{α β:Type}(xs:List α)(ys:List β)(f:α->β->PV):(xs.flatMap fun x=>ys.map (f x)).length=xs.length * ys.length:=by
 induction xs with
 |nil=>simp
 |cons x r ih=>rw[Ur,Sn,ih,Sm,SN,WI];omega
theorem Bd.Ho(q:Qs):∀t:Bd,(t.ps q).length<=t.Hf
 | .rest=>Ss _
 | .pay _ _=>Ss _
 | .put _ _=>Ss _
 | .use _=>Ss _
 | .HM _=>Ss _
 | .Hj a b=>by show((a.ps q).flatMap fun x=>(b.ps q).map fun y=>_).length<=a.Hf * b.Hf;rw[mE];exact VN (a.Ho q) (b.Ho q)
 | .HI a b=>by
  show((a.ps q).map _++(b.ps q).map _).length<=a.Hf+b.Hf
  rw[Sn,Sm,Sm];exact Nat.add_le_add (a.Ho q) (b.Ho q)
 | .Hz z _ a b=>by
  show((if q z=true then (a.ps q).map _ else [])++(b.ps q).map _).length<=a.Hf+b.Hf
  rw[Sn,Sm]
  have:=a.Ho q;have:=b.Ho q
  split
  ·rw[Sm];omega
  ·simp;omega
theorem Bd.JF:∀t:Bd,1<=t.Hf
 | .rest=>Ss _
 | .pay _ _=>Ss _
 | .put _ _=>Ss _
 | .use _=>Ss _
 | .HM _=>Ss _
 | .Hj a b=>Nat.mul_pos a.JF b.JF
 | .HI a b=>Su a.JF (TQ _ _)
 | .Hz _ _ a b=>Su a.JF (TQ _ _)
abbrev hV(n:Nat)(w:aw):Prop:=∀{S:az} {t:Bd} {js us hs:Vs} {nm:Addr} {Q:bj} {E:bK},t.dep<=n->t.Hf<=1000->t.good js us->k8 js->k8 hs->S nm=some (.lst (hs.map PV.str))->
  (∀p S',S p=none->Ext S S'->S' p=some (.lst (t.ps (mq hs)))->Q (.ref p) S')->w [t.pv,.ref nm] S Q E
abbrev kH(n:Nat)(w:aw):Prop:=∀{S:az} {a b:Bd} {js us hs:Vs} {nm:Addr} {Q:bj} {E:bK},a.dep<=n->b.dep<=n->a.Hf * b.Hf<=1000->(Bd.Hj a b).good js us->k8 js->k8 hs->S nm=some (.lst (hs.map PV.str))->
  (∀p S',S p=none->Ext S S'->S' p=some (.lst ((Bd.Hj a b).ps (mq hs)))->Q (.ref p) S')->w [(Bd.Hj a b).pv,.ref nm] S Q E
def CU{a b:Bd}(h:a.Hf * b.Hf<=1000):a.Hf<=1000/\b.Hf<=1000:=
 ⟨Su (Nat.le_mul_of_pos_right _ b.JF) h,Su (Wi _ a.JF) h⟩
def qL{S:az}{p:Addr}{xs:List PV}{σ:cF}{i:Int}{fin:List PV->az->Prop}(h:S p=some (.lst xs))(hl:xs.length<=1000)(f:fin (xs.map fun x=>.tup [.int i,x]) S) :
  dA (.n 0) bH (ay [c3 (.int i),v3 0]) (cS 1 [] σ) (fun S'=>S' p=some (.lst xs)) fin xs [] S:=by
 have:=aQ (g:=.n 0) (te:=ay [c3 (.int i),v3 0]) (σ':=cS 1 [] σ) (keep:=fun S'=>S' p=some (.lst xs)) (fin:=fin) (fun x:PV=>x) (fun x=>.tup [.int i,x]) h xs [] (fun x hx=>⟨_,rfl,fun Q q=>q⟩) (by rw[Tj,TJ];exact bN hl) f
 rw[List.map_id']at this
 exact this
def u6{S S1:az}{xs ys:List PV}{pa pb pf:Addr}{v0 v1 x4:Option PV}{N:cF->az->Prop}{Q:bj}(hpf:S pf=none)(X1:Ext S S1)(fa:S1 pa=some (.lst xs))(fb:S1 pb=some (.lst ys))(ff:S1 pf=some (.lst []))(na:pa≠pf)(nb:pb≠pf)(hl:xs.length * ys.length<=1000)
  (k:∀(S2:az) (x:Option PV),Ext S S2->S2 pf=some (.lst (xs.flatMap fun x=>ys.map fun y=>.tup [x,y]))->N [v0,v1,some (.ref pf),some (.ref pb),x] S2) :
  oS (.n 4) (aW (eR "list" bE (v3 2) [aF (aE (v3 3)) (.n 0) bH (ay [v3 1,v3 0]) 1 [4]])) { nx:=N,rt:=Q,ex:=dW } (fun S'=>S' pa=some (.lst xs)) xs [v0,v1,some (.ref pf),some (.ref pb),x4] S1:=by
 refine bb (fun done σ S'=>∃(x:Option PV),σ=[v0,v1,some (.ref pf),some (.ref pb),x]/\Ext S S'/\Ip pf S1 S'/\S' pf=some (.lst (done.flatMap fun x=>ys.map fun y=>.tup [x,y]))) ⟨_,rfl,X1,.refl,ff⟩ (fun _ _ _ ⟨_,_,_,XB,_⟩=>XB _ _ fa na) ?_ ?_
 ·rintro done x rest σ S2 K e ⟨y4,rfl,X2,XB,f2⟩ hK
  have hb2:=XB _ _ fb nb
  simp only[Tg.put,List.set_cons_succ,List.set_cons_zero]
  simp only[aW,eR,p5,ak,v3,lk,f2,Vz,aF,aE,bF,hb2]
  have Ry:ys.length<=1000:=by
   have h1:1<=xs.length:=by rw[e,Sn,SN];omega
   exact Su (Wi _ h1) hl
  have key:=aQ (g:=.n 0) (te:=ay [v3 1,v3 0]) (σ':=cS 1 [4] [v0,v1,some (.ref pf),some (.ref pb),some x]) (keep:=fun S'=>S' pb=some (.lst ys)) (fin:=fun zs S3=>∀q,S3 q=none->bE (.ref pf) [.ref q] (He S3 q (.lst zs)) fun _ S4=>K [v0,v1,some (.ref pf),some (.ref pb),some x] S4) (fun y:PV=>y) (fun y=>.tup [x,y]) hb2 ys [] (fun y hy=>⟨_,rfl,fun Q q=>q⟩) (by rw[Tj,TJ];exact bN Ry) (by
   intro q hq
   rw[Tq]
   have nq:pf≠q:=fun h=>by rw[h,hq]at f2;cases f2
   simp only[bE,au nq,f2,aa]
   have hlen:(done.flatMap fun x=>ys.map fun y=>PV.tup [x,y]).length=done.length * ys.length:=mE done ys fun x y=>.tup [x,y]
   have hle:done.length * ys.length+ys.length<=1000:=by
    have:(done.length+1) * ys.length<=xs.length * ys.length:=VO _ (by rw[e,Sn,SN];omega)
    rw[WI]at this
    omega
   refine⟨bN (by rw[hlen,Sm];exact hle),hK _ _ ⟨_,rfl,(X2.trans (.new hq)).put hpf,fun a o h n=>?_,?_⟩⟩
   ·have h2:=XB a o h n
    rw[au n,au (fun h'=>by rw[h',hq]at h2;cases h2)]
    exact h2
   ·rw[aa,Ub];simp)
  rw[List.map_id']at key
  exact key
 ·rintro σ S2 ⟨x,rfl,X2,XB,f2⟩
  exact k S2 x X2 f2
def xv{s0 s1:aw}(n:Nat)(ih:hV n s1):kH n (aR 5 (ci s0 s1)):=by
 intro S a b js us hs nm Q E ha hb hp hg hj hh hn k
 obtain⟨Rz,RA⟩:=CU hp
 unfold ci
 refine cC ?_
 rw[show ar 5 [(Bd.Hj a b).pv,.ref nm]=[some (.tup [.str "then",a.pv,b.pv]),some (.ref nm),none,none,none] from rfl]
 refine am fun N hN=>?_
 walk_at "x"
 intro pf hpf
 have X0:Ext S (He S pf (.lst [])):=.new hpf
 have f0:(He S pf (.lst [])) pf=some (.lst []):=aa
 generalize He S pf (.lst [])=S0 at X0 f0
 refine hN _ _ (am fun N hN=>?_)
 walk_at "x"
 simp only[tI]
 refine ih hb RA hg.2 hj hh (X0 _ _ hn) fun pb S1 LB X1 h1=>?_
 refine hN _ _ (am fun N hN=>?_)
 simp only[bz,aE,ab,ak,ah,v3,lk,c3,ae,cR]
 refine ih ha Rz hg.1 hj hh (X1 _ _ (X0 _ _ hn)) fun pa S2 hpa X2 h2=>?_
 simp only[bF,h2]
 have nb:pb≠pf:=fun h=>by rw[h,f0]at LB;cases LB
 have na:pa≠pf:=fun h=>by rw[h,X1 _ _ f0]at hpa;cases hpa
 have RB:(a.ps (mq hs)).length * (b.ps (mq hs)).length<=1000:=Su (VN (a.Ho _) (b.Ho _)) hp
 refine u6 hpf (X0.trans (X1.trans X2)) h2 (X2 _ _ h1) (X2 _ _ (X1 _ _ f0)) na nb RB fun S3 x X3 f3=>?_
 refine hN _ _ ?_
 walk_at "x"
 exact k pf S3 hpf X3 f3
def Lc{s0 s1:aw}(n:Nat)(PJ:kH n s0)(ih:hV n s1):hV (n+1) (aR 3 (eC s0 s1)):=by
 intro S t js us hs nm Q E hd hp hg hj hh hn k
 unfold eC
 refine cC ?_
 rw[Bd.Jy,show ar 3 [.tup (.str t.hd::t.tl),.ref nm]=[some (.tup (.str t.hd::t.tl)),some (.ref nm),none] from rfl]
 refine am fun N hN=>?_
 simp only[bq,aP,ah,v3,lk,c3,ae,cx,br,SJ,SE]
 by_cases h1:t.hd=("then":Str)
 ·rw[if_pos h1]
  obtain⟨a,b,rfl⟩:=(Bd.My t).mp h1
  simp only[Bd.dep]at hd
  simp only[av,ab,ak,v3,lk]
  rw[<-Bd.Jy]
  exact PJ (by omega) (by omega) hp hg hj hh hn k
 rw[if_neg h1]
 refine hN _ _ (am fun N hN=>?_)
 walk_at "x"
 simp only[cx]
 rw[show([PV.str "either",PV.str "take"]:List PV)=(["either","take"]:Vs).map PV.str from rfl]
 refine cp t.KO AR ?_
 by_cases h2:t.hd∈(["either","take"]:Vs)
 ·simp only[h2,UM,TF,Uv,SD,Tt]
  refine hN _ _ (am fun N hN=>?_)
  have sides:∀(hd2:List PV) (a b:Bd),(.str t.hd::t.tl)=hd2++[a.pv,b.pv]->Ii (.str t.hd::t.tl) (-1)=some b.pv/\Ii (.str t.hd::t.tl) (-2)=some a.pv:=fun hd2 a b e1=>⟨by rw[e1];have:=iq (a:=a.pv) (b:=b.pv) (hd:=hd2) (i:=1) (.inr rfl);simpa using this,by rw[e1];have:=iq (a:=a.pv) (b:=b.pv) (hd:=hd2) (i:=0) (.inl rfl);simpa using this⟩
  have fin:∀(a b:Bd) (hd2:List PV),(.str t.hd::t.tl)=hd2++[a.pv,b.pv]->a.dep<=n->b.dep<=n->a.Hf+b.Hf<=1000->a.good js us->b.good js us->
    (∀(po:Addr) (S2:az),S po=none->Ext S S2->S2 po=some (.lst ((b.ps (mq hs)).map fun x=>.tup [.int 1,x]))->N [some (.tup (.str t.hd::t.tl)),some (.ref nm),some (.ref po)] S2)->aq 2 (aF (aE (ab s1 [ah ae (v3 0) (gH bY (c3 (.int 1))),v3 1])) (.n 0) bH (ay [c3 (.int 1),v3 0]) 1 []) { nx:=N,rt:=Q,ex:=dW } [some (.tup (.str t.hd::t.tl)),some (.ref nm),none] S:=by
   intro a b hd2 e1 da db Ka ga gb kk
   simp only[aq,aF,aE,ab,ak,ah,v3,lk,c3,ae,gH,bY,(sides hd2 a b e1).1]
   refine ih db (by omega) gb hj hh hn fun pb S1 LB X1 f1=>?_
   simp only[bF,f1]
   refine qL f1 (Su (b.Ho _) (by omega)) fun po Nd=>?_
   exact kk po _ (X1.free Nd) (X1.trans (.new Nd)) aa
  have both:∀(a b:Bd) (hd2:List PV) (po:Addr) (S2:az),(.str t.hd::t.tl)=hd2++[a.pv,b.pv]->a.dep<=n->a.Hf+b.Hf<=1000->a.good js us->S po=none->Ext S S2->S2 po=some (.lst ((b.ps (mq hs)).map fun x=>.tup [.int 1,x]))->t.ps (mq hs)=(a.ps (mq hs)).map (fun x=>.tup [.int 0,x])++(b.ps (mq hs)).map (fun x=>.tup [.int 1,x])->
    av (ah aU (aF (aE (ab s1 [ah ae (v3 0) (gH bY (c3 (.int 2))),v3 1])) (.n 0) bH (ay [c3 (.int 0),v3 0]) 1 []) (v3 2)) { nx:=fun _ S'=>Q .non S',rt:=Q,ex:=dW } [some (.tup (.str t.hd::t.tl)),some (.ref nm),some (.ref po)] S2:=by
   intro a b hd2 po S2 e1 da Ka ga Nd X2 f2 et
   simp only[av,aF,aE,ab,ak,ah,v3,lk,c3,ae,gH,bY,(sides hd2 a b e1).2]
   refine ih da (by omega) ga hj hh (X2 _ _ hn) fun pa S3 hpa X3 f3=>?_
   simp only[bF,f3]
   have la:=a.Ho (mq hs)
   have lb:=b.Ho (mq hs)
   refine qL f3 (by omega) fun pq hpq=>?_
   have f4:=X3 _ _ f2
   have nq:po≠pq:=fun h=>by rw[h,hpq]at f4;cases f4
   simp only[aU,aa,au nq,f4]
   refine⟨bN (by rw[Sm,Sm];omega),fun pr OG=>?_⟩
   have Xq:Ext S (He S3 pq (.lst ((a.ps (mq hs)).map fun x=>.tup [.int 0,x]))):=X2.trans (X3.trans (.new hpq))
   exact k pr _ (Xq.free OG) (Xq.trans (.new OG)) (by rw[aa,et])
  cases t with
  |HI a b=>
   simp only[Bd.dep]at hd
   refine fin a b [.str "either"] rfl (by omega) (by omega) hp hg.1 hg.2 fun po S2 Nd X2 f2=>hN _ _ (am fun N hN=>?_)
   simp only[Bd.hd]
   walk_at "y"
   refine hN _ _ ?_
   exact both a b [.str "either"] po S2 rfl (by omega) hp hg.1 Nd X2 f2 rfl
  |Hz z m a b=>
   simp only[Bd.dep]at hd
   refine fin a b [.str "take",.str z,.int m] rfl (by omega) (by omega) hp hg.2.2.2.1 hg.2.2.2.2 fun po S2 Nd X2 f2=>hN _ _ (am fun N hN=>?_)
   have ep:(Bd.Hz z m a b).ps (mq hs)=(if mq hs z=true then (a.ps (mq hs)).map (fun x=>.tup [.int 0,x]) else [])++(b.ps (mq hs)).map fun x=>.tup [.int 1,x]:=rfl
   simp only[bq,iP,aP,ah,v3,lk,c3,ae,cx,cR,Bd.hd,Bd.tl,br,SJ,UM,TH]
   refine eE (X2 _ _ hn) (hj z hg.1) hh ?_
   by_cases hin:z∈hs
   ·simp only[hin,UM,TF,Uv,SD,Tt]
    rw[show mq hs z=true from Tp hin,if_pos rfl]at ep
    refine hN _ _ ?_
    exact both a b [.str "take",.str z,.int m] po S2 rfl (by omega) hp hg.2.2.2.1 Nd X2 f2 ep
   ·simp only[hin,Vi,TF,Ui,TH]
    rw[show mq hs z=false from Tc hin,if_neg (by decide),Tq]at ep
    walk_at "x"
    exact k po S2 Nd X2 (by rw[ep];exact f2)
  |_=>simp[Bd.hd,aM]at h2
 ·simp only[h2,Vi,TF,Ui,TH]
  walk_at "x"
  intro p hp'
  have e:t.ps (mq hs)=[.tup []]:=by cases t<;>first|rfl|exact absurd rfl h1|simp[Bd.hd]at h2
  exact k p _ hp' (.new hp') (by rw[aa,e])
def fY{x:PV}{S:az}{Q:bj}{t c:String}(h:yA S x=some t)(hc:cN c=true)(q:Q (.bl (oP t c)) S):oQ [x,.ty c] S Q:=by
 show(match yA S x with|some t=>cN c=true/\Q (.bl (oP t c)) S|none=>False)
 rw[h];exact⟨hc,q⟩
abbrev hW(w:aw):Prop:=∀{S:az} {d l:Addr} {most many size:Nat} {Q:bj} {E:bK},Hl S d l->most<=8->1<=many->many<=4->1<=size->size<=60->
  (∀js ds S',JI 6 js [] ds->1<=ds.length->ds.length<=many->js.length<=8->(∀p∈ds,p.2.Hf+p.2.Hh<=1000)->Hl S' d l->Iq d l S S'->Q (jF js ds) S')->w [.ref d,.int most,.int many,.int size] S Q E
def sC{xw xd xb:aw}(Kx:kA xw)(Hg:bT xd)(N_:fT xb):hW (aR 9 (fK xw xd xb)):=by
 intro S0 d l most many size Q E D0 hmo hm1 hm4 hs1 hs2 k
 unfold fK
 refine cC ?_
 rw[show ar 9 [PV.ref d,PV.int most,PV.int many,PV.int size]=[some (.ref d),some (.int most),some (.int many),some (.int size),none,none,none,none,none] from rfl]
 refine am fun N hN=>?_
 walk_at "x"
 refine Kx D0 (by decide) (by decide) fun p ns S hl hnd hw0 _ NO hpl hp D O0=>?_
 have hl8':ns.length=8:=hl
 have hl8:8<=ns.length:=by omega
 have QF:ns.length<=100:=by omega
 have hw:∀z∈ns,Lq z:=fun z hz=>(hw0 z hz).1
 refine hN _ _ ?_
 refine am fun N hN=>?_
 walk_at "x"
 refine Hg (m:=most+1) D (by omega) (by omega) fun r S1 r0 r1 D1 O1=>?_
 obtain⟨j,rfl⟩:∃j:Nat,r=(j:Int):=⟨r.toNat,by omega⟩
 have hp1:=O1 _ _ hp NO hpl
 rw[hp1]
 dsimp only
 rw[CO (by rw[Sm];omega),<-List.map_take]
 intro p2 hp2
 rw[aa]
 dsimp only
 have D2:Hl (He S1 p2 (.lst ((ns.take j).map PV.str))) d l:=D1.new hp2
 have O2:Iq d l S (He S1 p2 (.lst ((ns.take j).map PV.str))):=O1.trans (.new hp2)
 have hp2':=Iq.new (o:=.lst ((ns.take j).map PV.str)) hp2 _ _ hp1 NO hpl
 generalize He S1 p2 (.lst ((ns.take j).map PV.str))=S2 at D2 O2 hp2'
 refine hN _ _ (am fun N hN=>?_)
 walk_at "x"
 intro p3 hp3
 have QG:=D2.free hp3
 refine Hg (D2.new hp3) (by decide) (by decide) fun f S3 f0 f1 D3 O3=>?_
 have e3:=O3 _ _ (aa (S:=S2) (o:=.lst [.int 0,.int 4])) QG.1 QG.2
 have PP:=O3 _ _ (Iq.new hp3 _ _ hp2' NO hpl) NO hpl
 have RC:Iq d l S S3:=O2.trans ((Iq.new hp3).trans O3)
 simp only[e3]
 obtain⟨v,hv,QH⟩:=jB (xs:=[PV.int 0,.int 4]) f0 (by simpa using f1)
 rw[hv]
 obtain⟨g,rfl,hg⟩:∃g:Nat,v = .int g/\g<=4:=by
  simp only[Sv,SS,T9]at QH
  rcases QH with rfl|rfl
  ·exact⟨0,rfl,by omega⟩
  ·exact⟨4,rfl,by omega⟩
 refine hN _ _ (am fun N hN=>?_)
 walk_at "x"
 refine Hg (m:=many) D3 (by omega) (by omega) fun r4 S4 a0 a1 D4 O4=>?_
 obtain⟨mm,em⟩:∃mm:Nat,1+r4=(mm:Int):=⟨(1+r4).toNat,by omega⟩
 dsimp only
 rw[em]
 have NP:=O4 _ _ PP NO hpl
 refine hN _ _ (am fun N hN=>?_)
 walk_at "x"
 refine⟨by omega,by omega,?_⟩
 rw[Vf]
 have hjl:(ns.take j).length<=8:=by rw[TY];omega
 refine qD (fun done ys S'=>∃ds:List (Str×Bd),ys=ds.map j3/\ds.length=done.length/\ds.map Prod.fst=(ns.drop g).take done.length/\done.length<=mm/\(∀q∈ds,q.2.good (ns.take j) []/\q.2.dep<=6/\q.2.size<=60/\q.2.Hf+q.2.Hh<=1000)/\Hl S' d l/\Iq d l S4 S') ⟨[],rfl,rfl,rfl,Tr _,by simp,D4,.refl⟩ ?_ ?_ ?_
 ·rintro done ys S' ⟨ds,rfl,e,_,hd,_⟩
  exact⟨trivial,dM (by rw[Sm,e];omega)⟩
 ·rintro done x rest ys S' K e ⟨ds,rfl,e2,e3,hd,hc,D',O'⟩ hK
  obtain⟨rfl,hi⟩:=zN e
  walk_at "x"
  try simp only[bH,TH]
  have hp':=O' _ _ NP NO hpl
  simp only[hp']
  have hlt:g+done.length < ns.length:=by omega
  have hat:Ii (ns.map PV.str) ((g:Int)+(done.length:Int))=some (.str ns[g+done.length]):=by
   have:((g:Int)+(done.length:Int))=((g+done.length:Nat):Int):=by omega
   rw[this]
   exact CP (by rw[SA,SR hlt];rfl)
  rw[hat]
  dsimp only
  refine⟨EV (by omega) (by omega),N_ D' (by omega) (by omega) (by omega) fun t S5 tg td tz tz2 tp D5 RD=>?_⟩
  have tp':t.Hf+t.Hh<=1000:=by
   have hb:Int.fdiv 24 (mm:Int)<=24:=by
    rw[Int.fdiv_eq_ediv_of_nonneg _ (by omega)]
    exact Wr _ (by decide)
   rcases tp with h|h<;>omega
  refine hK _ _ ⟨ds++[(ns[g+done.length],t)],by simp[j3],by simp[e2],?_,by rw[Sn];exact hi,fun y hy=>?_,D5,O'.trans RD⟩
  ·rw[Te,e3,Sn,SK,Uj,WJ,SR hlt]
   rfl
  ·rcases SI.mp hy with hy|hy
   ·exact hc y hy
   ·rw[SM.mp hy];exact⟨tg,td,tz,tp'⟩
 rintro ys S5 ⟨ds,rfl,e,ef,_,hds,D5,O5⟩
 rw[fu]at e ef
 intro p6 QI
 refine hN _ _ ?_
 walk_at "x"
 rw[aa]
 dsimp only
 have sub:∀q∈ds,q.1∈ns:=fun q hq=>by
  have:q.1∈ds.map Prod.fst:=SQ.mpr ⟨q,hq,rfl⟩
  rw[ef]at this
  exact Wy (UL this)
 refine k (ns.take j) ds _ ⟨⟨by omega,by omega,fun z hz=>hw z (UL hz),by simp,fun q hq=>hw _ (sub q hq),fun q hq=>(hds q hq).1,fun q hq=>by have:=(hds q hq).2.1;omega,fun q hq=>(hds q hq).2.2.1⟩,hnd.sublist (WO _ _),by rw[ef];exact hnd.sublist ((WO _ _).trans (List.drop_sublist _ _)),fun q hq=>(hds q hq).2.1⟩ (by omega) (by omega) hjl (fun q hq=>(hds q hq).2.2.2) (D5.new QI) (O0.trans (RC.trans (O4.trans (O5.trans (.new QI)))))
structure HP (js:Vs) (ds:List (Str×Bd)):Prop extends HG js ds where
 pc:∀p∈ds,p.2.Hf+p.2.Hh<=1000
def LY.ok{js:Vs}{ds:List (Str×Bd)}{hs:Vs}(h:LY js ds hs)(hj:k8 js):k8 hs:=fun z hz=>hj z (h.2.2.1 z hz)
def zW{js:Vs}{ds:List (Str×Bd)}{hs:Vs}(h:LY js ds hs):mq (held ds js.length)=mq hs:=zU h.1 h.2.1 h.2.2.1 h.2.2.2
noncomputable def Bd.KM:Bd->Bd | .HM a=>a|t=>t
noncomputable def Bd.Jz(q:Qs)(t:Bd)(r:Bool):List (Bd×Bool):=(t.pr q r).filter fun p=>p.1.JP
abbrev Nb:=(Bd×Bool)×Nat
noncomputable def np(q:Qs)(t:Bd):List Nb:=(t.Jz q true).zipIdx.filter fun c=>c.1.2
noncomputable def DD(q:Qs)(c:Nb):List PV:=(c.1.1.KM.ps q).map fun x=>.tup [.int (c.2:Int),x]
noncomputable def Bd.NF(q:Qs)(t:Bd):List PV:=(np q t).flatMap (DD q)
theorem di(q:Qs):∀(t:Bd) (r:Bool),((t.Jz q r).map fun p=>p.1.KM.Hf).sum=t.Hh
 | .rest,_=>rfl
 | .pay _ _,_=>rfl
 | .put _ _,_=>rfl
 | .use _,_=>rfl
 | .HM a,r=>by
  show(((Bd.HM a,r)::a.Jz q r).map fun p=>p.1.KM.Hf).sum=a.Hf+a.Hh
  rw[SH,Wu,di q a r];rfl
 | .Hj a b,r=>by
  show((((a.pr q r++b.pr q r).filter fun p=>p.1.JP)).map fun p=>p.1.KM.Hf).sum=a.Hh+b.Hh
  rw[U8,Te,WH]
  have h1:=di q a r;have h2:=di q b r;unfold Bd.Jz at h1 h2;rw[h1,h2]
 | .HI a b,r=>by
  show((((a.pr q r++b.pr q r).filter fun p=>p.1.JP)).map fun p=>p.1.KM.Hf).sum=a.Hh+b.Hh
  rw[U8,Te,WH]
  have h1:=di q a r;have h2:=di q b r;unfold Bd.Jz at h1 h2;rw[h1,h2]
 | .Hz z m a b,r=>by
  show((((a.pr q (r&&q z)++b.pr q r).filter fun p=>p.1.JP)).map fun p=>p.1.KM.Hf).sum=a.Hh+b.Hh
  rw[U8,Te,WH]
  have h1:=di q a (r&&q z);have h2:=di q b r;unfold Bd.Jz at h1 h2;rw[h1,h2]
theorem mF(q:Qs):∀(l:List (Bd×Bool)) (n:Nat),(((l.zipIdx n).filter fun c=>c.1.2).flatMap (DD q)).length<=(l.map fun p=>p.1.KM.Hf).sum
 |[],_=>Tr _
 |p::l,n=>by
  rw[List.zipIdx_cons,SH,Wu]
  have h1:=mF q l (n+1)
  have h2:(DD q (p,n)).length<=p.1.KM.Hf:=by unfold DD;rw[Sm];exact Bd.Ho q _
  rw[Wq]
  split
  ·rw[Ur,Sn];omega
  ·omega
def jP{α:Type}(f:α->List PV)(xs:List α)(k:Nat):((xs.take k).flatMap f).length<=(xs.flatMap f).length:=by
 have e:xs.flatMap f=(xs.take k).flatMap f++(xs.drop k).flatMap f:=by rw[<-Ub,Vb]
 rw[e,Sn];omega
def Bd.MD(q:Qs)(t:Bd):(t.NF q).length<=t.Hh:=by
 have:=mF q (t.Jz q true) 0
 rw[di]at this
 exact this
def pG{q:Qs}{t:Bd}{r:Bool}{p:Bd×Bool}(h:p∈t.Jz q r):∃a,p.1 = .HM a:=by
 have:=(Ug.mp h).2
 cases e:p.1<;>rw[e]at this<;>first|exact⟨_,rfl⟩|cases this
theorem jQ(q:Qs)(js us:Vs):∀(t:Bd) (r:Bool) (p:Bd×Bool),p∈t.pr q r->(t.good js us->p.1.good js us)/\p.1.dep<=t.dep/\p.1.size<=t.size
 | .rest,r,p,h=>by rw[SM.mp h];exact⟨id,Ss _,Ss _⟩
 | .pay _ _,r,p,h=>by rw[SM.mp h];exact⟨id,Ss _,Ss _⟩
 | .put _ _,r,p,h=>by rw[SM.mp h];exact⟨id,Ss _,Ss _⟩
 | .use _,r,p,h=>by rw[SM.mp h];exact⟨id,Ss _,Ss _⟩
 | .HM a,r,p,h=>by
  rcases Sv.mp h with rfl|h
  ·exact⟨id,Ss _,Ss _⟩
  ·obtain⟨h1,h2,h3⟩:=jQ q js us a r p h
   exact⟨fun g=>h1 g,by simp only[Bd.dep];omega,by simp only[Bd.size];omega⟩
 | .Hj a b,r,p,h=>by
  rcases Sv.mp h with rfl|h
  ·exact⟨id,Ss _,Ss _⟩
  rcases SI.mp h with h|h
  ·obtain⟨h1,h2,h3⟩:=jQ q js us a r p h
   exact⟨fun g=>h1 g.1,by simp only[Bd.dep];omega,by simp only[Bd.size];omega⟩
  ·obtain⟨h1,h2,h3⟩:=jQ q js us b r p h
   exact⟨fun g=>h1 g.2,by simp only[Bd.dep];omega,by simp only[Bd.size];omega⟩
 | .HI a b,r,p,h=>by
  rcases Sv.mp h with rfl|h
  ·exact⟨id,Ss _,Ss _⟩
  rcases SI.mp h with h|h
  ·obtain⟨h1,h2,h3⟩:=jQ q js us a r p h
   exact⟨fun g=>h1 g.1,by simp only[Bd.dep];omega,by simp only[Bd.size];omega⟩
  ·obtain⟨h1,h2,h3⟩:=jQ q js us b r p h
   exact⟨fun g=>h1 g.2,by simp only[Bd.dep];omega,by simp only[Bd.size];omega⟩
 | .Hz z m a b,r,p,h=>by
  rcases Sv.mp h with rfl|h
  ·exact⟨id,Ss _,Ss _⟩
  rcases SI.mp h with h|h
  ·obtain⟨h1,h2,h3⟩:=jQ q js us a _ p h
   exact⟨fun g=>h1 g.2.2.2.1,by simp only[Bd.dep];omega,by simp only[Bd.size];omega⟩
  ·obtain⟨h1,h2,h3⟩:=jQ q js us b r p h
   exact⟨fun g=>h1 g.2.2.2.2,by simp only[Bd.dep];omega,by simp only[Bd.size];omega⟩
theorem xy:∀{xs:List Nat} {x:Nat},x∈xs->x<=xs.sum
 |y::r,x,h=>by
  rw[Wu]
  rcases Sv.mp h with rfl|h
  ·omega
  ·have:=xy h;omega
def CV{q:Qs}{js us:Vs}{t:Bd}{r:Bool}{p:Bd×Bool}(h:p∈t.Jz q r)(g:t.good js us):p.1.KM.good js us/\p.1.KM.dep<=t.dep/\p.1.KM.Hf<=t.Hh:=by
 obtain⟨a,ea⟩:=pG h
 obtain⟨h1,h2,_⟩:=jQ q js us t r p (Ug.mp h).1
 refine⟨by have:=h1 g;rw[ea]at this ⊢;exact this,by rw[ea]at h2 ⊢;simp only[Bd.dep]at h2;simp only[Bd.KM];omega,?_⟩
 rw[<-di q t r]
 exact xy (SQ.mpr ⟨p,h,rfl⟩)
theorem dZ{α:Type}{g:Tg}{tc:kU}{te:bc}{σ':cF}{keep:az->Prop}{fin:List PV->az->Prop}{S:az}(enc f:α->PV)(c:α->Bool)(hk:keep S):∀(xs:List α) (ys:List PV),
  (∀x∈xs,∃σ2,g.put (enc x) σ'=some σ2/\(∀K:Bool->az->Prop,K (c x) S->tc σ2 S K dW)/\(c x=true->∀Q:bj,Q (f x) S->te σ2 S Q dW))->ys.length+xs.length<=sizeLine->fin (ys++(xs.filter c).map f) S->dA g tc te σ' keep fin (xs.map enc) ys S
 |[],ys,_,hl,hf=>⟨hk,by simpa using hl,by simpa using hf⟩
 |x::r,ys,h,hl,hf=>by
  obtain⟨σ2,e,h1,h2⟩:=h x (by simp)
  refine⟨hk,by simp at hl;omega,?_⟩
  rw[e]
  refine h1 _ ?_
  by_cases hc:c x=true
  ·rw[if_pos hc]
   refine h2 hc _ (dZ enc f c hk r (ys++[f x]) (fun y hy=>h y (by simp[hy])) (by simp at hl ⊢;omega) ?_)
   rw[List.filter_cons_of_pos hc]at hf
   simpa using hf
  ·rw[if_neg hc]
   refine dZ enc f c hk r ys (fun y hy=>h y (by simp[hy])) (by simp at hl;omega) ?_
   rw[List.filter_cons_of_neg hc]at hf
   exact hf
def pH{α:Type}(enc:α->PV)(xs:List α):L3.aS (xs.map enc)=xs.zipIdx.map fun c=>.tup [.int (c.2:Int),enc c.1]:=by
 unfold L3.aS
 rw[List.mapIdx_eq_zipIdx_map,List.zipIdx_map,SV]
 rfl
noncomputable def xz(c:Nb):PV:=.tup [.int (c.2:Int),c.1.1.KM.pv]
abbrev mG(w:aw):Prop:=∀{S:az} {t:Bd} {js us hs:Vs} {nm:Addr} {Q:bj} {E:bK},t.dep<=6->t.size<=900->t.good js us->k8 js->k8 hs->S nm=some (.lst (hs.map PV.str))->
  (∀p S',S p=none->Ext S S'->S' p=some (.lst ((np (mq hs) t).map xz))->Q (.ref p) S')->w [t.pv,.ref nm] S Q E
def Ld{xp:aw}(Lz:mC 6 xp):mG (aR 3 (cX xp)):=by
 intro S t js us hs nm Q E hd hz hg hj hh hn k
 unfold cX
 refine cC ?_
 rw[show ar 3 [t.pv,.ref nm]=[some t.pv,some (.ref nm),none] from rfl]
 refine am fun N hN=>?_
 simp only[aq,aF,aE,kr,ak,v3,lk,List.cons_append,List.nil_append]
 refine Lz hd hz hg hj hh hn fun p S1 hp X1 f1=>?_
 simp only[bF,f1]
 have hpl:=t.IH (mq hs) true
 refine dZ fW fW (fun p=>p.1.JP) f1 (t.pr (mq hs) true) [] (fun x hx=>⟨_,rfl,?_,fun _ Q q=>q⟩) (bN (by rw[Tj,TJ,hpl];omega)) ?_
 ·intro K hK
  have e:fW x = .tup [.tup (.str x.1.hd::x.1.tl),.bl x.2]:=by unfold fW;rw[Bd.Jy]
  simp only[aP,ah,v3,lk,c3,ae,e,cS,List.reduceReplicate,Tu,Ti,List.set_cons_zero,cx,br,SJ]
  have e2:decide (x.1.hd=("often":Str))=x.1.JP:=by cases x.1<;>simp[Bd.hd,aM,Bd.JP]
  rw[e2]
  exact hK
 intro p2 hp2
 rw[Tq]
 have X2:Ext S1 (He S1 p2 (.lst ((t.Jz (mq hs) true).map fW))):=.new hp2
 have f2:(He S1 p2 (.lst ((t.Jz (mq hs) true).map fW))) p2=some (.lst ((t.Jz (mq hs) true).map fW)):=aa
 show N _ (He S1 p2 (.lst ((t.Jz (mq hs) true).map fW)))
 generalize He S1 p2 (.lst ((t.Jz (mq hs) true).map fW))=S2 at X2 f2
 refine hN _ _ ?_
 simp only[av,aF,dU,v3,lk,List.set_cons_zero,List.set_cons_succ,f2]
 rw[pH]
 have hol:(t.Jz (mq hs) true).length<=900:=Su (UG _ _) (by rw[hpl];exact hz)
 refine dZ (fun c:Nb=>.tup [.int (c.2:Int),fW c.1]) xz (fun c=>c.1.2) f2 (t.Jz (mq hs) true).zipIdx [] (fun c hc=>⟨_,rfl,?_,?_⟩) (bN (by rw[Tj,TJ,V6];omega)) ?_
 ·intro K hK
  simp only[aP,ah,v3,lk,c3,ae,fW,cS,List.reduceReplicate,Tu,Ti,List.set_cons_zero,List.set_cons_succ,cR]
  exact hK
 ·intro hc2 Q q
  obtain⟨a,ea⟩:=pG (p:=c.1) (Uk hc)
  simp only[ay,ak,ah,v3,lk,c3,ae,fW,cS,List.reduceReplicate,Tu,Ti,List.set_cons_zero,List.set_cons_succ,cx,cR,ea,Bd.pv]
  have:xz c = .tup [.int (c.2:Int),a.pv]:=by unfold xz;rw[ea];rfl
  rw[this]at q
  exact q
 intro p3 hp3
 rw[Tq]
 exact k p3 _ ((X1.trans X2).free hp3) ((X1.trans X2).trans (.new hp3)) aa
def zX{S:az}{Q:bj}:qp true .non .non S Q=Q (.bl false) S:=rfl
def zY(q:Qs)(t:Bd)(r:Bool):(t.Jz q r).length<=t.size:=Su (UG _ _) (WY (t.IH q r))
end C
namespace CL
open PySem L2 L3 Wd
open C
theorem fy(q:Qs):∀(t:Bd) (v:PV),v∈t.ps q->bP t v=true/\jJ (2 ^ 60) v=true
 | .rest,v,h=>by rw[SM.mp h];exact⟨rfl,rfl⟩
 | .pay _ _,v,h=>by rw[SM.mp h];exact⟨rfl,rfl⟩
 | .put _ _,v,h=>by rw[SM.mp h];exact⟨rfl,rfl⟩
 | .use _,v,h=>by rw[SM.mp h];exact⟨rfl,rfl⟩
 | .HM _,v,h=>by rw[SM.mp h];exact⟨rfl,rfl⟩
 | .Hj a b,v,h=>by
  unfold Bd.ps at h
  obtain⟨x,hx,hv⟩:=Uo.mp h
  obtain⟨y,hy,rfl⟩:=SQ.mp hv
  obtain⟨a1,a2⟩:=fy q a x hx
  obtain⟨b1,b2⟩:=fy q b y hy
  refine⟨?_,by simp only[jJ,intBs,a2,b2,UZ]⟩
  rw[qG,a1,b1]
  rfl
 | .HI a b,v,h=>by
  unfold Bd.ps at h
  rcases SI.mp h with h|h
  ·obtain⟨x,hx,rfl⟩:=SQ.mp h
   obtain⟨a1,a2⟩:=fy q a x hx
   exact⟨by rw[mr,if_pos rfl];exact a1,by simp only[jJ,intBs,a2,UZ];decide⟩
  ·obtain⟨x,hx,rfl⟩:=SQ.mp h
   obtain⟨a1,a2⟩:=fy q b x hx
   exact⟨by rw[mr,if_neg (by decide),if_pos rfl];exact a1,by simp only[jJ,intBs,a2,UZ];decide⟩
 | .Hz z m a b,v,h=>by
  unfold Bd.ps at h
  rcases SI.mp h with h|h
  ·split at h
   ·obtain⟨x,hx,rfl⟩:=SQ.mp h
    obtain⟨a1,a2⟩:=fy q a x hx
    exact⟨by rw[ms,if_pos rfl];exact a1,by simp only[jJ,intBs,a2,UZ];decide⟩
   ·cases h
  ·obtain⟨x,hx,rfl⟩:=SQ.mp h
   obtain⟨a1,a2⟩:=fy q b x hx
   exact⟨by rw[ms,if_neg (by decide),if_pos rfl];exact a1,by simp only[jJ,intBs,a2,UZ];decide⟩
noncomputable def sD(q:Qs)(t:Bd):List (PV×Bd):=(.non,t)::(np q t).map fun c=>(.int (c.2:Int),c.1.1.KM)
noncomputable def xA(x:PV×Bd):PV:=.tup [x.1,x.2.pv]
def zZ(q:Qs)(t:Bd):(sD q t).map xA = .tup [.non,t.pv]::(np q t).map xz:=by
 unfold sD
 rw[SH,SV]
 rfl
def tQ{q:Qs}{t:Bd}{js us:Vs}(g:t.good js us){x:PV×Bd}(h:x∈sD q t):x.2.good js us/\x.2.dep<=t.dep/\x.2.Hf<=t.Hf+t.Hh:=by
 rcases Sv.mp h with rfl|h
 ·exact⟨g,Ss _,TQ _ _⟩
 ·obtain⟨c,hc,rfl⟩:=SQ.mp h
  obtain⟨a,b,e⟩:=CV (Uk (Ug.mp hc).1) g
  exact⟨a,b,by show c.1.1.KM.Hf<=_;omega⟩
def u7(q:Qs)(t:Bd):(np q t).length<=t.size:=by
 unfold np
 refine Su (UG _ _) ?_
 rw[V6]
 exact zY q t true
abbrev sE(w:aw):Prop:=∀{S:az} {t:Bd} {js us hs:Vs} {nm:Addr} {Q:bj} {E:bK},t.dep<=6->t.size<=900->t.good js us->k8 js->k8 hs->S nm=some (.lst (hs.map PV.str))->
  (∀p S',S p=none->Ext S S'->S' p=some (.lst ((sD (mq hs) t).map xA))->Q (.ref p) S')->w [t.pv,.ref nm] S Q E
def ME{xo:aw}(Ld:mG xo):sE (aR 2 (cK xo)):=by
 intro S t js us hs nm Q E hd hz hg hj hh hn k
 unfold cK
 refine cC ?_
 rw[show ar 2 [t.pv,.ref nm]=[some t.pv,some (.ref nm)] from rfl]
 simp only[av,ah,bx,ay,ab,ak,v3,c3,lk]
 intro p1 hp1
 have X1:Ext S (He S p1 (.lst [.tup [.non,t.pv]])):=.new hp1
 have f1:(He S p1 (.lst [.tup [.non,t.pv]])) p1=some (.lst [.tup [.non,t.pv]]):=aa
 generalize He S p1 (.lst [.tup [.non,t.pv]])=S1 at X1 f1
 refine Ld hd hz hg hj hh (X1 _ _ hn) fun p2 S2 hp2 X2 f2=>?_
 simp only[aU,X2 _ _ f1,f2]
 refine⟨bN (by have:=u7 (mq hs) t;simp only[List.length_cons,List.length_nil,Sm];omega),fun p3 hp3=>?_⟩
 exact k p3 _ ((X1.trans X2).free hp3) (X1.trans (X2.trans (.new hp3))) (by rw[aa,zZ];rfl)
noncomputable def u8(js:Vs)(d:Nat)(x:PV×Bd)(v:PV):PV:=.tup [.int (d:Int),x.1,cf (x.2.HN js v).1,.tup (x.2.HN js v).es,v]
noncomputable def lw(q:Qs)(js:Vs)(d:Nat)(x:PV×Bd):List PV:=(x.2.ps q).map (u8 js d x)
noncomputable def cy(q:Qs)(js:Vs)(d:Nat)(t:Bd):List PV:=(sD q t).flatMap (lw q js d)
noncomputable def CZ(q:Qs)(js:Vs)(ds:List (Str×Bd)):List PV:=ds.zipIdx.flatMap fun p=>cy q js p.2 p.1.2
def mH(q:Qs)(js:Vs)(d:Nat)(t:Bd):(cy q js d t).length<=t.Hf+t.Hh:=by
 unfold cy sD
 rw[Ur,Sn]
 have h1:(lw q js d (.non,t)).length<=t.Hf:=by unfold lw;rw[Sm];exact t.Ho q
 have h2:(((np q t).map fun c=>((.int (c.2:Int),c.1.1.KM):PV×Bd)).flatMap (lw q js d)).length=(t.NF q).length:=by
  unfold Bd.NF
  rw[List.flatMap_map,VU,VU]
  congr 1
  refine TV fun c _=>?_
  unfold lw DD
  rw[Sm,Sm]
 have:=t.MD q
 omega
def iw{α:Type}(f:α->List PV){xs:List α}{k:Nat}{x:α}(h:xs[k]?=some x):(xs.take (k+1)).flatMap f=(xs.take k).flatMap f++f x:=by
 rw[Uj,h,Ub]
 simp
theorem pI{α:Type}(f:α->List PV)(m:Nat):∀xs:List α,(∀x∈xs,(f x).length<=m)->(xs.flatMap f).length<=xs.length * m
 |[],_=>by simp
 |x::r,h=>by
  rw[Ur,Sn,SN,WI]
  have:=h x (by simp)
  have:=pI f m r fun y hy=>h y (by simp[hy])
  omega
def pJ{q:Qs}{js:Vs}{ds:List (Str×Bd)}(hP:HP js ds):(CZ q js ds).length<=1000000:=by
 unfold CZ
 refine Su (pI _ 1000 _ fun p hp=>?_) ?_
 ·have hm:=Uk hp
  exact Su (mH q js p.2 p.1.2) (hP.pc _ hm)
 ·rw[V6];have:=hP.dl;omega
abbrev kI(w:aw):Prop:=∀{S:az} {js:Vs} {ds:List (Str×Bd)} {Q:bj} {E:bK},HP js ds->(∀hs S',LY js ds hs->Ext S S'->Q (.tup (CZ (mq hs) js ds)) S')->w [jF js ds] S Q E
def KB{xf xn xp xt:aw}(Le:fX xf)(ME:sE xn)(Lc:hV 6 xp)(LW:jN 6 xt):kI (aR 9 (o_ xf xn xp xt)):=by
 intro S js ds Q E hP k
 unfold o_
 refine cC ?_
 rw[show ar 9 [jF js ds]=[some (.tup [.tup (js.map PV.str),.tup (ds.map j3)]),none,none,none,none,none,none,none,none] from rfl]
 refine am fun N hN=>?_
 simp only[aq,ab,ak,v3,lk]
 refine Le hP.toHG fun nm hs S1 hnm X1 Nf hf=>?_
 have hh:=hf.ok hP.jw
 refine hN _ _ (am fun N hN=>?_)
 simp only[aq,bx,ak,List.set_cons_zero,List.set_cons_succ]
 intro pf hpf
 have X2:Ext S1 (He S1 pf (.lst [])):=.new hpf
 have f2:(He S1 pf (.lst [])) pf=some (.lst []):=aa
 have Ng:=X2 _ _ Nf
 have LA:=X1.free hpf
 have NG:nm≠pf:=fun h=>by rw[h,hpf]at Nf;cases Nf
 have Oc:Ext S (He S1 pf (.lst [])):=X1.trans X2
 generalize He S1 pf (.lst [])=S2 at X2 f2 Ng Oc
 have tot:=pJ (q:=mq hs) hP
 refine hN _ _ (am fun N hN=>?_)
 simp only[bz,dU,ah,v3,lk,c3,ae,cR]
 refine bb (fun done σ S'=>∃(x3 x4 x5 x6 x7 x8:Option PV),σ=[some (.tup [.tup (js.map PV.str),.tup (ds.map j3)]),some (.ref nm),some (.ref pf),x3,x4,x5,x6,x7,x8]/\Ext S S'/\Ip pf S2 S'/\S' pf=some (.lst ((ds.zipIdx.take done.length).flatMap fun p=>cy (mq hs) js p.2 p.1.2))) ⟨_,_,_,_,_,_,rfl,Oc,.refl,f2⟩ (fun _ _ _ _=>trivial) ?_ ?_
 ·rintro done x rest σ S3 K e ⟨x3,x4,x5,x6,x7,x8,rfl,X3,B3,f3⟩ hK
  obtain⟨y,rfl,hy⟩:=hG e
  obtain⟨⟨z,t⟩,ht,rfl⟩:∃q,ds[done.length]?=some q/\j3 q=y:=by rw[SA]at hy;exact To.mp hy
  have hm:(z,t)∈ds:=SY ht
  have hgd:t.good js []:=hP.gd _ hm
  have NN:t.dep<=6:=hP.dp _ hm
  have Ka:t.Hf+t.Hh<=1000:=hP.pc _ hm
  have hsz:t.size<=60:=hP.sz _ hm
  have PQ:ds.zipIdx[done.length]?=some ((z,t),done.length):=by rw[List.getElem?_zipIdx,ht];simp
  have M6:=iw (fun p:(Str×Bd)×Nat=>cy (mq hs) js p.2 p.1.2) PQ
  have LD:((ds.zipIdx.take (done.length+1)).flatMap fun p=>cy (mq hs) js p.2 p.1.2).length<=1000000:=Su (jP _ _ _) tot
  rw[M6,Sn]at LD
  generalize (ds.zipIdx.take done.length).flatMap (fun p=>cy (mq hs) js p.2 p.1.2)=acc at f3 LD M6
  simp only[j3,Tg.put,Tg.Hi,List.set_cons_zero,List.set_cons_succ,aE,ab,ak,ah,v3,lk,c3,ae,cR]
  refine ME NN (by omega) hgd hP.jw hh (B3 _ _ Ng NG) fun pb S4 LB X4 f4=>?_
  have PR:pb≠pf:=fun h=>by rw[h,f3]at LB;cases LB
  have RE:=X4 _ _ f3
  simp only[bF,f4]
  refine bb (fun Hs σ S'=>∃(x5 x6 x7 x8:Option PV),σ=[some (.tup [.tup (js.map PV.str),.tup (ds.map j3)]),some (.ref nm),some (.ref pf),some (.int (done.length:Int)),some (.tup [.str z,t.pv]),x5,x6,x7,x8]/\Ext S S'/\Ip pf S4 S'/\S' pf=some (.lst (acc++((sD (mq hs) t).take Hs.length).flatMap (lw (mq hs) js done.length)))) ⟨_,_,_,_,rfl,X3.trans X4,.refl,by simpa using RE⟩ (fun _ _ _ ⟨_,_,_,_,_,_,B,_⟩=>B _ _ f4 PR) ?_ ?_
  ·rintro Hs x MB σ S5 K5 e5 ⟨x5,x6,x7,x8,rfl,X5,B5,f5⟩ PU
   have hget:((sD (mq hs) t).map xA)[Hs.length]?=some x:=by rw[e5];simp
   obtain⟨c,hc,rfl⟩:∃c,(sD (mq hs) t)[Hs.length]?=some c/\xA c=x:=by rw[SA]at hget;exact To.mp hget
   obtain⟨gc,dc,pc⟩:=tQ hgd (SY hc)
   have PX:=iw (lw (mq hs) js done.length) hc
   have QJ:(((sD (mq hs) t).take (Hs.length+1)).flatMap (lw (mq hs) js done.length)).length<=(cy (mq hs) js done.length t).length:=jP _ _ _
   rw[PX,Sn]at QJ
   generalize ((sD (mq hs) t).take Hs.length).flatMap (lw (mq hs) js done.length)=RF at f5 PX QJ
   simp only[xA,Tg.put,Tg.Hi,List.set_cons_zero,List.set_cons_succ,aE,ab,ak,v3,lk]
   refine Lc (by omega) (by omega) gc hP.jw hh (B5 _ _ (X4 _ _ (B3 _ _ Ng NG)) NG) fun pp S6 hpp X6 f6=>?_
   have RG:pp≠pf:=fun h=>by rw[h,f5]at hpp;cases hpp
   have RH:=X6 _ _ f5
   simp only[bF,f6]
   have RI:(lw (mq hs) js done.length c).length=(c.2.ps (mq hs)).length:=Sm _
   refine bb (fun Ma σ S'=>∃(x7 x8:Option PV),σ=[some (.tup [.tup (js.map PV.str),.tup (ds.map j3)]),some (.ref nm),some (.ref pf),some (.int (done.length:Int)),some (.tup [.str z,t.pv]),some c.1,some c.2.pv,x7,x8]/\Ma.length<=(c.2.ps (mq hs)).length/\Ext S S'/\Ip pf S6 S'/\S' pf=some (.lst (acc++RF++Ma.map (u8 js done.length c)))) ⟨_,_,rfl,Tr _,X5.trans X6,.refl,by simpa using RH⟩ (fun _ _ _ ⟨_,_,_,_,_,B,_⟩=>B _ _ f6 RG) ?_ ?_
   ·rintro Ma v QK σ S7 K7 e7 ⟨x7,x8,rfl,l7,X7,B7,f7⟩ RJ
    have hv:v∈c.2.ps (mq hs):=by rw[e7];simp
    have RK:Ma.length+1<=(c.2.ps (mq hs)).length:=by rw[e7,Sn,SN];omega
    obtain⟨v1,v2⟩:=fy (mq hs) c.2 v hv
    simp only[Tg.put,List.set_cons_zero,List.set_cons_succ]
    refine am fun N7 RL=>?_
    simp only[aq,ab,ak,ah,v3,lk,c3,ae,cx]
    refine LW (by have:=hP.jl;omega) gc v1 v2 (by omega) fun S8 X8=>?_
    refine RL _ _ ?_
    have RM:=X8 _ _ f7
    simp only[aW,eR,p5,ay,ak,ah,v3,lk,c3,ae,Ty.pv,cx,cR,List.set_cons_zero,List.set_cons_succ,RM,Vz,bf]
    refine⟨Tf (show _<=1000000 by simp only[Sn,Sm];dsimp only at LD;omega) (by decide),RJ _ _ ⟨_,_,rfl,by rw[Sn];exact RK,(X7.trans X8).put LA,(B7.trans fun a o h n=>X8 a o h).trans .upd,?_⟩⟩
    rw[aa,Te,<-Uz]
    rfl
   ·rintro σ S7 ⟨x7,x8,rfl,l7,X7,B7,f7⟩
    refine PU _ _ ⟨_,_,_,_,rfl,X7,(B5.trans fun a o h n=>X6 a o h).trans B7,?_⟩
    rw[f7,Sn,SK,PX,Uz]
    rfl
  ·rintro σ S5 ⟨x5,x6,x7,x8,rfl,X5,B5,f5⟩
   refine hK _ _ ⟨_,_,_,_,_,_,rfl,X5,(B3.trans fun a o h n=>X4 a o h).trans B5,?_⟩
   rw[f5,Sm,T3,Sn,SK,M6]
   rfl
 ·rintro σ S3 ⟨x3,x4,x5,x6,x7,x8,rfl,X3,B3,f3⟩
  refine hN _ _ ?_
  walk_at "x"
  simp only[f3]
  have:(L3.aS (ds.map j3)).length=ds.zipIdx.length:=by simp[L3.aS]
  rw[this,T3]
  exact k hs S3 hf X3
noncomputable def lp(js:Vs)(t:Bd)(v:PV):PV:=.tup [cf (t.HN js v).1,.tup (t.HN js v).es,v]
noncomputable def zs(js:Vs):List PV:=js.map fun _=>.int 0
def C0(js:Vs):(List.replicate js.length [PV.int 0]).flatten=zs js:=by
 induction js with
 |nil=>rfl
 |cons j r ih=>rw[SN,Tw,UQ,ih];rfl
def EZ(js:Vs):zs js=(z0 js).es:=by
 unfold zs z0 zl Ty.es
 rw[SV]
 rfl
def xB{y z:Str}{r:Vs}(e:y≠z):(y::r).idxOf z=r.idxOf z+1:=by
 rw[List.idxOf_cons,show(y == z)=false by simpa using e]
 rfl
def z_{js:Vs}{z:Str}{m:Int}(nd:js.Nodup)(h:z∈js):(zs js).set (js.idxOf z) (.int m)=js.map fun j=>PV.int (if j=z then m else 0):=by
 induction js with
 |nil=>cases h
 |cons j r ih=>
  by_cases e:j=z
  ·subst e
   have hn:=(Uc.mp nd).1
   rw[List.idxOf_cons_self]
   show PV.int m::zs r=_
   rw[SH,if_pos rfl]
   congr 1
   exact TV fun x hx=>by rw[if_neg (fun e:x=j=>hn (by rw[<-e];exact hx))]
  ·have hz:z∈r:=(Sv.mp h).resolve_left fun q=>e q.symm
   rw[xB e]
   show PV.int 0::(zs r).set (r.idxOf z) (.int m)=_
   rw[ih (Uc.mp nd).2 hz,SH,if_neg e]
def oo{js:Vs}{S:az}{Q:bj}(hj:js.length<=1000)(k:∀p S',S p=none->Ext S S'->S' p=some (.lst (zs js))->Q (.ref p) S') :
  (∀p0,S p0=none->bJ (.ref p0) (.int ((js.map PV.str).length:Int)) (He S p0 (.lst [.int 0])) Q):=by
 intro p0 hp0
 simp only[bJ,aa,Sm,Int.toNat_natCast]
 refine⟨by omega,by omega,bN (by simp only[List.length_singleton];omega),fun pz MF=>?_⟩
 rw[C0]
 exact k pz _ ((Ext.new hp0).free MF) ((Ext.new hp0).trans (.new MF)) aa
def lD{n i:Nat}(h:i < n):rA n (i:Int)=some i:=by unfold rA;rw[if_pos (by omega),if_pos (by omega)];simp
theorem mI{z:Str}:∀{js:Vs},z∈js->js[js.idxOf z]?=some z/\∀j:Nat,j < js.idxOf z->js[j]?≠some z
 |[],h=>by cases h
 |y::r,h=>by
  by_cases e:y=z
  ·subst e
   rw[List.idxOf_cons_self]
   exact⟨rfl,fun j hj=>absurd hj (Nat.not_lt_zero _)⟩
  ·obtain⟨h1,h2⟩:=mI ((Sv.mp h).resolve_left fun q=>e q.symm)
   rw[xB e]
   refine⟨h1,fun j hj=>?_⟩
   cases j with
   |zero=>intro q;exact e (Tz q)
   |succ j=>exact h2 j (Nat.lt_of_succ_lt_succ hj)
def tR{js:Vs}{z:Str}{S:az}{Q:bj}(h:z∈js)(q:Q (.int (js.idxOf z:Nat)) S):eB (.tup (js.map PV.str)) [.str z] S Q:=by
 unfold eB
 simp only[iY]
 exact⟨js.idxOf z,(mI h).1,(mI h).2,q⟩
def qM{js:Vs}{z:Str}{m:Int}{S:az}{pz:Addr}{K:az->Prop}(nd:js.Nodup)(h:z∈js)(hp:S pz=some (.lst (zs js)))(k:K (He S pz (.lst (js.map fun j=>PV.int (if j=z then m else 0))))):dC (.ref pz) (.int (js.idxOf z:Nat)) (.int m) S K:=by
 have hl:js.idxOf z < (zs js).length:=by unfold zs;rw[Sm];exact List.idxOf_lt_length_of_mem h
 unfold dC
 simp only[hp,lD hl]
 rw[<-z_ nd h]at k
 exact k
abbrev qN(w:aw):Prop:=∀{S:az} {js:Vs} {t:Bd} {Q:bj} {E:bK},js.length<=1000->js.Nodup->t.good js []->t.hd ∉ (["then","either","take"]:Vs)->(∀S',Ext S S'->Q (lp js t (.tup [])) S')->w [t.pv,dG js] S Q E
def Aa(t:Bd):∃w,Ii (PV.str t.hd::t.tl) (-1)=some w:=by
 cases t<;>exact⟨_,rfl⟩
def Ab:qN (aR 3 i3):=by
 intro S js t Q E hj nd hg hn k
 unfold i3
 refine cC ?_
 rw[Bd.Jy,show ar 3 [.tup (.str t.hd::t.tl),dG js]=[some (.tup (.str t.hd::t.tl)),some (.tup (js.map PV.str)),none] from rfl]
 refine am fun N hN=>?_
 simp only[aq,ah,bx,ak,al,bG,v3,c3,lk]
 refine oo hj fun pz S1 MF X1 f1=>?_
 refine hN _ _ (am fun N hN=>?_)
 simp only[List.set_cons_zero,List.set_cons_succ]
 have fin:∀(S2:az) (es:List PV),Ext S S2->S2 pz=some (.lst es)->es=(t.HN js (.tup [])).es->N [some (.tup (.str t.hd::t.tl)),some (.tup (js.map PV.str)),some (.ref pz)] S2:=by
  intro S2 es X2 f2 ee
  obtain⟨w,hw⟩:=Aa t
  refine hN _ _ ?_
  simp only[av,ay,bx,ak,ah,al,v3,lk,c3,ae,cx,gH,bY,hw,br,SJ,lX]
  intro p1 hp1
  have n1:pz≠p1:=fun h=>by rw[h,hp1]at f2;cases f2
  simp only[aa]
  have hc:Ii [PV.tup [.int 0,.int 1],w] (if decide (t.hd=("pay":Str))=true then 1 else 0)=some (cf (t.HN js (.tup [])).1):=by
   by_cases h1:t.hd=("pay":Str)
   ·obtain⟨x,y,rfl⟩:=(Bd.MA t).mp h1
    rw[if_pos (by simp[h1])]
    have hw':w = .tup [.int x,.int y]:=(Tz hw).symm
    rw[hw',tJ hg]
    rfl
   ·rw[if_neg (by simp[h1])]
    rw[cx,dN]
    congr 2
    cases t with
    |pay x y=>exact absurd rfl h1
    |Hj a b=>exact absurd (by simp[Bd.hd]) hn
    |HI a b=>exact absurd (by simp[Bd.hd]) hn
    |Hz z m a b=>exact absurd (by simp[Bd.hd]) hn
    |_=>rfl
  rw[hc]
  simp only[aZ,jr,au n1,f2]
  rw[ee]
  exact k _ (X2.trans (.new hp1))
 simp only[bq,aP,ah,v3,lk,c3,ae,cx,br,SJ,SE]
 by_cases h1:t.hd=("put":Str)
 ·rw[if_pos h1]
  obtain⟨z,m,rfl⟩:=(Bd.K_ t).mp h1
  simp only[eg,ah,sk,Bd.tl,v3,lk,c3,ae,cR,tI,ak]
  refine tR hg.1 ?_
  refine qM nd hg.1 f1 ?_
  refine fin _ _ (X1.put MF) aa ?_
  exact sy js z m 0
 ·rw[if_neg h1]
  refine fin S1 _ X1 f1 ?_
  rw[EZ]
  cases t with
  |put z m=>exact absurd rfl h1
  |Hj a b=>exact absurd (by simp[Bd.hd]) hn
  |HI a b=>exact absurd (by simp[Bd.hd]) hn
  |Hz z m a b=>exact absurd (by simp[Bd.hd]) hn
  |_=>rfl
def C1(t:Ty)(gs:Vu):bh t.es (gs.map PV.int)=(t.2.zip gs).map fun z=>.tup [.int z.1.1,.int z.2]:=by
 unfold bh Ty.es
 rw[Wh,SV]
 rfl
noncomputable def oq(t:Ty)(gs:Vu):List PV:=(t.2.zip gs).map fun z=>.int (z.1.1 - z.2)
def E4(js:Vs)(tk:PV)(gs:Vu):Prop:=(tk = .non/\gs=js.map fun _=>0)\/∃z m,tk = .tup [.str z,.int m]/\z∈js/\gs=js.map fun j=>if j=z then m else 0
noncomputable def E5(x:Ty×PV):PV:=.tup [cf x.1.1,.tup x.1.es,x.2]
noncomputable def DE(gs:Vu)(i:Int)(x:Ty×PV):PV:=.tup [cf x.1.1,.tup (oq x.1 gs),.tup [.int i,x.2]]
abbrev mJ(w:aw):Prop:=∀{S:az} {js:Vs} {p:Addr} {xs:List (Ty×PV)} {i:Int} {tk:PV} {gs:Vu} {Q:bj} {E:bK},js.length<=1000->js.Nodup->xs.length<=1000->(∀x∈xs,x.1.2.length=js.length)->E4 js tk gs->S p=some (.lst (xs.map E5))->
  (∀p' S',S p'=none->Ext S S'->S' p'=some (.lst (xs.map (DE gs i)))->Q (.ref p') S')->w [.ref p,.int i,dG js,tk] S Q E
def C2{xs:List PV}{S:az}{Q:bj}:qp true (.tup xs) .non S Q=Q (.bl true) S:=rfl
def Ac:mJ (aR 9 eW):=by
 intro S js p xs i tk gs Q E hj nd hx hl hg hp k
 unfold eW
 refine cC ?_
 rw[show ar 9 [.ref p,.int i,dG js,tk]=[some (.ref p),some (.int i),some (.tup (js.map PV.str)),some tk,none,none,none,none,none] from rfl]
 refine am fun N hN=>?_
 walk_at "x"
 intro pf hpf
 have X1:Ext S (He S pf (.lst [])):=.new hpf
 have f1:(He S pf (.lst [])) pf=some (.lst []):=aa
 have NE:p≠pf:=fun h=>by rw[h,hpf]at hp;cases hp
 have hp1:=X1 _ _ hp
 generalize He S pf (.lst [])=S1 at X1 f1 hp1
 refine hN _ _ (am fun N hN=>?_)
 simp only[bz,aE,v3,lk,bF,hp1]
 refine bb (fun done σ S'=>∃(x5 x6 x7 x8:Option PV),σ=[some (.ref p),some (.int i),some (.tup (js.map PV.str)),some tk,some (.ref pf),x5,x6,x7,x8]/\Ext S S'/\S' pf=some (.lst ((xs.take done.length).map (DE gs i)))) ⟨_,_,_,_,rfl,X1,f1⟩ (fun _ _ _ ⟨_,_,_,_,_,X,_⟩=>X _ _ hp) ?_ ?_
 ·rintro done x rest σ S2 K e ⟨x5,x6,x7,x8,rfl,X2,f2⟩ hK
  have hget:(xs.map E5)[done.length]?=some x:=by rw[e];simp
  obtain⟨y,hy,rfl⟩:∃q,xs[done.length]?=some q/\E5 q=x:=by rw[SA]at hget;exact To.mp hget
  have hm:=SY hy
  have hlt:=(Td.mp hy).1
  simp only[E5,Tg.put,Tg.Hi,List.set_cons_zero,List.set_cons_succ]
  refine am fun N2 JV=>?_
  simp only[aq,ah,bx,ak,al,bG,v3,c3,lk]
  refine oo hj fun pz S3 MF X3 f3=>?_
  simp only[List.set_cons_zero,List.set_cons_succ]
  have nz:pz≠pf:=fun h=>by rw[h,f2]at MF;cases MF
  refine JV _ _ (am fun N3 Lm=>?_)
  have fin:∀S4,Ext S S4->S4 pz=some (.lst (gs.map PV.int))->S4 pf=some (.lst ((xs.take done.length).map (DE gs i)))->N3 [some (.ref p),some (.int i),some (.tup (js.map PV.str)),some tk,some (.ref pf),some (cf y.1.1),some (.tup y.1.es),some y.2,some (.ref pz)] S4:=by
   intro S4 X4 g4 f4
   refine Lm _ _ ?_
   simp only[aW,eR,p5,ay,ak,ah,al,aF,gB,v3,lk,f4,Vz,g4]
   rw[C1]
   have PY:(y.1.2.zip gs).length<=1000:=by rw[Um];have:=hl y hm;omega
   refine aQ (fun z:(Int×Int)×Int=>PV.tup [.int z.1.1,.int z.2]) (fun z=>.int (z.1.1 - z.2)) (keep:=fun S=>S pz=some (.lst (gs.map PV.int))) g4 (y.1.2.zip gs) [] (fun z hz=>⟨_,rfl,fun Q q=>?_⟩) (by rw[Tj,TJ];exact bN PY) fun pc Ka=>?_
   ·walk_at "x"
    exact q
   have nc:pf≠pc:=fun h=>by rw[<-h,f4]at Ka;cases Ka
   simp only[List.nil_append,aZ,jr,aa,bf,au nc,f4]
   refine⟨Tf (show _<=1000000 by rw[Sm,TY];omega) (by decide),hK _ _ ⟨_,_,_,_,rfl,(X4.trans (.new Ka)).put hpf,?_⟩⟩
   rw[aa,Sn,SK,Uj,hy,Te]
   rfl
  rcases hg with⟨rfl,rfl⟩|⟨z,m,rfl,hz,rfl⟩
  ·simp only[bq,aP,ah,v3,lk,c3,zX,SD,Tt,aN]
   refine fin S3 (X2.trans X3) ?_ (X3 _ _ f2)
   rw[f3,SV];rfl
  ·simp only[bq,aP,ah,v3,lk,c3,C2,TH,eg,sk,ae,cx,cR,ak]
   refine tR hz ?_
   refine qM nd hz f3 ?_
   refine fin _ ((X2.trans X3).put (X2.free MF)) ?_ ?_
   ·rw[aa,SV];rfl
   ·rw[au (UO nz)];exact X3 _ _ f2
 ·rintro σ S2 ⟨x5,x6,x7,x8,rfl,X2,f2⟩
  refine hN _ _ ?_
  rw[Sm,T3]at f2
  walk_at "x"
  exact k pf S2 hpf X2 f2
noncomputable def Ad(js:Vs)(t:Bd)(v:PV):Ty×PV:=(t.HN js v,v)
def u9{js:Vs}{t:Ty}(h:t.2.length=js.length):oq t (js.map fun _=>0)=t.es:=by
 obtain⟨c,l⟩:=t
 have:∀(l:List (Int×Int)) (js:Vs),l.length=js.length->((l.zip (js.map fun _=>(0:Int))).map fun z=>PV.int (z.1.1 - z.2))=l.map fun p=>PV.int p.1:=by
  intro l
  induction l with
  |nil=>intro js _;rfl
  |cons p r ih=>
   intro js hl
   cases js with
   |nil=>cases hl
   |cons j js=>
    simp only[SH,List.zip_cons_cons]
    rw[ih js (WZ hl),Int.sub_zero]
 exact this l js h
def u_{js:Vs}{t:Ty}{z:Str}{m:Int}(h:t.2.length=js.length):oq t (js.map fun j=>if j=z then m else 0)=(Ty.join (0,sx js z (-m) m) t).es:=by
 obtain⟨c,l⟩:=t
 have:∀(l:List (Int×Int)) (js:Vs),l.length=js.length->((l.zip (js.map fun j=>if j=z then m else 0)).map fun x=>PV.int (x.1.1 - x.2))=(List.zipWith jn (sx js z (-m) m) l).map fun p=>PV.int p.1:=by
  intro l
  induction l with
  |nil=>intro js hl;cases js with
   |nil=>rfl
   |cons _ _=>cases hl
  |cons p r ih=>
   intro js hl
   cases js with
   |nil=>cases hl
   |cons j js=>
    have e:=ih js (WZ hl)
    unfold sx at e ⊢
    simp only[SH,List.zip_cons_cons,List.zipWith_cons_cons]
    rw[e]
    congr 2
    unfold jn
    by_cases hz:j=z
    ·simp only[if_pos hz];omega
    ·simp only[if_neg hz];omega
 exact this l js h
def Ae{js:Vs}{a t:Bd}{q:Qs}{i:Int}{gs:Vu}(ha:∀v∈a.ps q,oq (a.HN js v) gs=(t.HN js (.tup [.int i,v])).es/\(a.HN js v).1=(t.HN js (.tup [.int i,v])).1) :
  ((a.ps q).map (Ad js a)).map (DE gs i)=((a.ps q).map fun x=>.tup [.int i,x]).map (lp js t):=by
 rw[SV,SV]
 refine TV fun v hv=>?_
 obtain⟨h1,h2⟩:=ha v hv
 show DE gs i (Ad js a v)=lp js t (.tup [.int i,v])
 unfold DE Ad lp
 dsimp only
 rw[h1,h2]
abbrev d0(n:Nat)(w:aw):Prop:=∀{S:az} {js hs:Vs} {t:Bd} {hl:Addr} {Q:bj} {E:bK},js.length<=1000->js.Nodup->t.dep<=n->t.Hf<=1000->t.good js []->k8 js->k8 hs->S hl=some (.lst (hs.map PV.str))->
  (∀p S',S p=none->Ext S S'->S' p=some (.lst ((t.ps (mq hs)).map (lp js t)))->Q (.ref p) S')->w [t.pv,dG js,.ref hl] S Q E
section
variable {js hs:Vs} {n:Nat} {s0 xb:aw}
def side{S:az}{a t:Bd}{hl:Addr}{i:Int}{tk:PV}{gs:Vu}{Q:bj}{E:bK}(ih:d0 n s0)(Mk:mJ xb)(hj:js.length<=1000)(nd:js.Nodup)(hd:a.dep<=n)(hc:a.Hf<=1000)(hg:a.good js [])(jk:k8 js)(hk:k8 hs)(hp:S hl=some (.lst (hs.map PV.str)))(g:E4 js tk gs)
  (ha:∀v∈a.ps (mq hs),oq (a.HN js v) gs=(t.HN js (.tup [.int i,v])).es/\(a.HN js v).1=(t.HN js (.tup [.int i,v])).1)
  (k:∀p S',S p=none->Ext S S'->S' p=some (.lst (((a.ps (mq hs)).map fun x=>.tup [.int i,x]).map (lp js t)))->Q (.ref p) S') :
  s0 [a.pv,dG js,.ref hl] S (fun v S1=>xb [v,.int i,dG js,tk] S1 Q E) E:=by
 refine ih hj nd hd hc hg jk hk hp fun p1 S1 hp1 X1 f1=>?_
 have e1:(a.ps (mq hs)).map (lp js a)=((a.ps (mq hs)).map (Ad js a)).map E5:=by rw[SV];rfl
 rw[e1]at f1
 refine Mk hj nd (by rw[Sm];exact Su (a.Ho _) hc) ?_ g f1 fun p2 S2 hp2 X2 f2=>?_
 ·intro x hx
  obtain⟨v,hv,rfl⟩:=SQ.mp hx
  exact(bQ a v hg (fy _ a v hv).1).1
 ·rw[Ae ha]at f2
  exact k p2 S2 (X1.free hp2) (X1.trans X2) f2
end
noncomputable abbrev xC(t:Bd)(js:Vs)(hl:Addr)(x3 x4 x5 x6 x7:Option PV):cF:=[some (.tup (.str t.hd::t.tl)),some (dG js),some (.ref hl),x3,x4,x5,x6,x7]
def Af{xp xb xo s0:aw}(Hq:fx xp)(Mk:mJ xb)(PZ:qN xo)(n:Nat)(ih:d0 n s0):d0 (n+1) (aR 8 (eX xp xb xo s0)):=by
 intro S js hs t hl Q E hj nd hd hc hg jk hk hp k
 unfold eX
 refine cC ?_
 rw[Bd.Jy,show ar 8 [.tup (.str t.hd::t.tl),dG js,.ref hl]=xC t js hl none none none none none from rfl]
 refine am fun N hN=>?_
 unfold xC
 simp only[bq,aP,ah,v3,lk,c3,ae,cx,br,SJ,SE]
 by_cases h1:t.hd=("then":Str)
 ·rw[if_pos h1]
  cases t with
  |Hj a b=>
   simp only[Bd.dep]at hd
   simp only[Bd.Hf]at hc
   have p1:=a.JF
   have p2:=b.JF
   have ca:a.Hf<=1000:=Su (Nat.le_mul_of_pos_right _ p2) hc
   have cb:b.Hf<=1000:=Su (Wi _ p1) hc
   have tot:((Bd.Hj a b).ps (mq hs)).length<=1000:=Su ((Bd.Hj a b).Ho _) hc
   refine am fun N2 JV=>?_
   walk_at "x"
   intro pf hpf
   have X1:Ext S (He S pf (.lst [])):=.new hpf
   have f1:(He S pf (.lst [])) pf=some (.lst []):=aa
   generalize He S pf (.lst [])=S1 at X1 f1
   refine JV _ _ (am fun N3 Lm=>?_)
   simp only[Bd.hd,Bd.tl,bz,aE,ab,ak,ah,v3,lk,c3,ae,cR]
   refine ih hj nd (by omega) ca hg.1 jk hk (X1 _ _ hp) fun pa S2 hpa X2 f2=>?_
   have RN:pa≠pf:=fun h=>by rw[h,f1]at hpa;cases hpa
   simp only[bF,f2]
   let acc:Nat->List PV:=fun m=>((a.ps (mq hs)).take m).flatMap fun x=>((b.ps (mq hs)).map fun y=>PV.tup [x,y]).map (lp js (.Hj a b))
   have P0:∀m,(acc m).length<=1000:=fun m=>by
    refine Su (jP (fun x=>((b.ps (mq hs)).map fun y=>PV.tup [x,y]).map (lp js (.Hj a b))) (a.ps (mq hs)) m) ?_
    rw[<-VS,Sm]
    exact tot
   refine bb (fun done σ S'=>∃(x4 x5 x6:Option PV),σ=[some (.tup [.str "then",a.pv,b.pv]),some (dG js),some (.ref hl),some (.ref pf),x4,x5,x6,none]/\Ext S S'/\Ip pf S2 S'/\S' pf=some (.lst (acc done.length))) ⟨_,_,_,rfl,X1.trans X2,.refl,X2 _ _ f1⟩ (fun _ _ _ ⟨_,_,_,_,_,B,_⟩=>B _ _ f2 RN) ?_ ?_
   ·rintro done x rest σ S3 K e ⟨x4,x5,x6,rfl,X3,B3,f3⟩ hK
    have hget:((a.ps (mq hs)).map (lp js a))[done.length]?=some x:=by rw[e];simp
    obtain⟨v,hv,rfl⟩:∃q,(a.ps (mq hs))[done.length]?=some q/\lp js a q=x:=by rw[SA]at hget;exact To.mp hget
    have QL:=bQ a v hg.1 (fy _ a v (SY hv)).1
    have Od:acc (done.length+1)=acc done.length++((b.ps (mq hs)).map fun y=>PV.tup [v,y]).map (lp js (.Hj a b)):=iw _ hv
    have la:=P0 (done.length+1)
    rw[Od,Sn,Sm,Sm]at la
    simp only[Tg.put,List.set_cons_zero,List.set_cons_succ,bz,aE,ab,ak,ah,v3,lk,c3,ae,tI]
    refine ih hj nd (by omega) cb hg.2 jk hk (X3 _ _ hp) fun pb S4 LB X4 f4=>?_
    have PR:pb≠pf:=fun h=>by rw[h,f3]at LB;cases LB
    simp only[bF,f4]
    refine bb (fun Hs σ S'=>∃(x5 x6:Option PV),σ=[some (.tup [.str "then",a.pv,b.pv]),some (dG js),some (.ref hl),some (.ref pf),some (lp js a v),x5,x6,none]/\Hs.length<=(b.ps (mq hs)).length/\Ext S S'/\Ip pf S4 S'/\S' pf=some (.lst (acc done.length++(((b.ps (mq hs)).take Hs.length).map fun y=>PV.tup [v,y]).map (lp js (.Hj a b))))) ⟨_,_,rfl,Tr _,X3.trans X4,.refl,by simpa using X4 _ _ f3⟩ (fun _ _ _ ⟨_,_,_,_,_,B,_⟩=>B _ _ f4 PR) ?_ ?_
    ·rintro Hs x MB σ S5 K5 e5 ⟨x5,x6,rfl,l5,X5,B5,f5⟩ PU
     have Nh:((b.ps (mq hs)).map (lp js b))[Hs.length]?=some x:=by rw[e5];simp
     obtain⟨y,hy,rfl⟩:∃q,(b.ps (mq hs))[Hs.length]?=some q/\lp js b q=x:=by rw[SA]at Nh;exact To.mp Nh
     have RO:=bQ b y hg.2 (fy _ b y (SY hy)).1
     have hlt:=(Td.mp hy).1
     simp only[Tg.put,List.set_cons_zero,List.set_cons_succ]
     refine am fun N5 RP=>?_
     simp only[aq,al,ak,aF,lv,ah,v3,lk,c3,ae,lp,cR]
     rw[w4]
     have PY:((a.HN js v).2.zip (b.HN js y).2).length<=1000:=by rw[Um,QL.1];omega
     refine aQ (fun z:(Int×Int)×(Int×Int)=>PV.tup [.int z.1.1,.int z.2.1]) (fun z=>.int (z.1.1+z.2.1)) (keep:=fun _=>True) trivial _ [] (fun z hz=>⟨_,rfl,fun Q q=>?_⟩) (by rw[Tj,TJ];exact bN PY) fun pc Ka=>?_
     ·walk_at "x"
      exact q
     have nc:pf≠pc:=fun h=>by rw[<-h,f5]at Ka;cases Ka
     simp only[List.nil_append,aZ,jr,aa,List.set_cons_zero,List.set_cons_succ]
     rw[tL]
     have X6:Ext S (He S5 pc (.lst ((a.HN js v).join (b.HN js y)).es)):=X5.trans (.new Ka)
     have B6:Ip pf S5 (He S5 pc (.lst ((a.HN js v).join (b.HN js y)).es)):=fun c o h _=>Ext.new Ka _ _ h
     have f6:(He S5 pc (.lst ((a.HN js v).join (b.HN js y)).es)) pf=_:=(au nc).trans f5
     generalize He S5 pc (.lst ((a.HN js v).join (b.HN js y)).es)=S6 at X6 B6 f6
     refine RP _ _ ?_
     simp only[aW,eR,p5,ay,ak,ab,ah,v3,lk,c3,ae,cx,tI,f6,Vz]
     refine Hq QL.2.1 RO.2.1 ?_
     simp only[bf,f6]
     refine⟨Tf (show _<=1000000 by simp only[Sn,Sm,TY];omega) (by decide),PU _ _ ⟨_,_,rfl,by rw[Sn,SK];omega,X6.put hpf,(B5.trans B6).trans .upd,?_⟩⟩
     rw[aa,Sn,SK,Uj,hy,Te,Te,Uz]
     rfl
    ·rintro σ S5 ⟨x5,x6,rfl,l5,X5,B5,f5⟩
     rw[Sm,T3]at f5
     refine hK _ _ ⟨_,_,_,rfl,X5,(B3.trans fun c o h _=>X4 c o h).trans B5,?_⟩
     rw[f5,Sn,SK,Od]
   ·rintro σ S3 ⟨x4,x5,x6,rfl,X3,B3,f3⟩
    refine Lm _ _ ?_
    walk_at "x"
    refine k pf S3 hpf X3 ?_
    rw[f3,Sm]
    show some (SO.lst (((a.ps (mq hs)).take _).flatMap _))=_
    rw[T3,<-VS]
    rfl
  |_=>simp[Bd.hd,aM]at h1
 rw[if_neg h1]
 simp only[aN]
 refine hN _ _ (am fun N hN=>?_)
 have NH:∀(a:Bd) (i:Int) (t':Bd),a.good js []->(∀v,t'.HN js (.tup [.int i,v])=a.HN js v)->∀v∈a.ps (mq hs),oq (a.HN js v) (js.map fun _=>0)=(t'.HN js (.tup [.int i,v])).es/\(a.HN js v).1=(t'.HN js (.tup [.int i,v])).1:=fun a i t' ga e v hv=>by
  rw[e v,u9 (bQ a v ga (fy _ a v hv).1).1]
  exact⟨rfl,rfl⟩
 simp only[bq,aP,ah,v3,lk,c3,ae,cx,br,SJ,SE]
 by_cases h2:t.hd=("either":Str)
 ·rw[if_pos h2]
  cases t with
  |HI a b=>
   simp only[Bd.dep]at hd
   simp only[Bd.Hf]at hc
   refine am fun N2 JV=>?_
   simp only[Bd.hd,Bd.tl,aq,ab,ak,ah,v3,lk,c3,ae,cR]
   refine side (t:=.HI a b) (tk:=.non) ih Mk hj nd (by omega) (by omega) hg.1 jk hk hp (.inl ⟨rfl,rfl⟩) (NH a 0 (.HI a b) hg.1 fun v=>by rw[jL,if_pos rfl]) fun p1 S1 hp1 X1 f1=>?_
   refine JV _ _ ?_
   simp only[av,ab,ak,ah,v3,lk,c3,ae,tI,List.set_cons_zero,List.set_cons_succ]
   refine side (t:=.HI a b) (tk:=.non) ih Mk hj nd (by omega) (by omega) hg.2 jk hk (X1 _ _ hp) (.inl ⟨rfl,rfl⟩) (NH b 1 (.HI a b) hg.2 fun v=>by rw[jL,if_neg (by decide)]) fun p2 S2 hp2 X2 f2=>?_
   simp only[aU,X2 _ _ f1,f2]
   have l1:=a.Ho (mq hs)
   have l2:=b.Ho (mq hs)
   refine⟨bN (by simp only[Sm];omega),fun p3 hp3=>?_⟩
   refine k p3 _ ((X1.trans X2).free hp3) (X1.trans (X2.trans (.new hp3))) ?_
   rw[aa,<-Te]
   rfl
  |_=>simp[Bd.hd,aM]at h2
 rw[if_neg h2]
 simp only[aN]
 refine hN _ _ (am fun N hN=>?_)
 simp only[bq,aP,ah,v3,lk,c3,ae,cx,br,SJ,SE]
 by_cases h3:t.hd=("take":Str)
 ·rw[if_pos h3]
  cases t with
  |Hz z m a b=>
   simp only[Bd.dep]at hd
   simp only[Bd.Hf]at hc
   obtain⟨gz,gm,gm2,ga,gb⟩:=hg
   refine am fun N2 JV=>?_
   walk_at "x"
   intro p0 hp0
   have X0:Ext S (He S p0 (.lst [])):=.new hp0
   have f0:(He S p0 (.lst [])) p0=some (.lst []):=aa
   generalize He S p0 (.lst [])=S0 at X0 f0
   refine JV _ _ (am fun N3 Lm=>?_)
   have fin:∀(p1:Addr) (S1:az) (xs:List PV),Ext S S1->S1 p1=some (.lst (xs.map (lp js (.Hz z m a b))))->xs=(if mq hs z then (a.ps (mq hs)).map (fun x=>.tup [.int 0,x]) else [])->N3 [some (.tup (.str (Bd.Hz z m a b).hd::(Bd.Hz z m a b).tl)),some (dG js),some (.ref hl),none,none,none,none,some (.ref p1)] S1:=by
    intro p1 S1 xs X1 f1 ex
    refine Lm _ _ ?_
    simp only[Bd.hd,Bd.tl,av,ab,ak,ah,v3,lk,c3,ae,GN,List.set_cons_zero,List.set_cons_succ]
    refine side (t:=.Hz z m a b) (tk:=.non) ih Mk hj nd (by omega) (by omega) gb jk hk (X1 _ _ hp) (.inl ⟨rfl,rfl⟩) (NH b 1 (.Hz z m a b) gb fun v=>by rw[jM,if_neg (by decide)]) fun p2 S2 hp2 X2 f2=>?_
    simp only[aU,X2 _ _ f1,f2]
    have l1:=a.Ho (mq hs)
    have l2:=b.Ho (mq hs)
    have lx:xs.length<=a.Hf:=by rw[ex];split<;>simp;exact l1
    refine⟨bN (by simp only[Sm];omega),fun p3 hp3=>?_⟩
    refine k p3 _ ((X1.trans X2).free hp3) (X1.trans (X2.trans (.new hp3))) ?_
    rw[aa,<-Te,ex]
    rfl
   simp only[bq,aP,ah,v3,lk,c3,ae,cR,Bd.tl,List.set_cons_zero,List.set_cons_succ]
   refine eE (X0 _ _ hp) (jk z gz) hk ?_
   rw[SJ]
   by_cases hz:z∈hs
   ·rw[Tp hz]
    simp only[TH,aq,cV,wt,se,sf,ab,ak,ah,v3,lk,c3,ae,EW,List.set_cons_zero,List.set_cons_succ]
    refine side (t:=.Hz z m a b) (tk:=.tup [.str z,.int m]) ih Mk hj nd (by omega) (by omega) ga jk hk (X0 _ _ hp) (.inr ⟨z,m,rfl,gz,rfl⟩) (fun v hv=>?_) fun p1 S1 hp1 X1 f1=>?_
    ·rw[jM,if_pos rfl,u_ (bQ a v ga (fy _ a v hv).1).1]
     exact⟨rfl,(Int.zero_add _).symm⟩
    ·exact fin p1 S1 _ (X0.trans X1) f1 (by rw[if_pos (show mq hs z=true from Tp hz)])
   ·rw[Tc hz]
    simp only[SD,Tt,aN]
    exact fin p0 S0 [] X0 f0 (by rw[if_neg (by show ¬mq hs z=true;unfold mq;simp[hz])])
  |_=>simp[Bd.hd,aM]at h3
 rw[if_neg h3]
 simp only[aN]
 refine hN _ _ ?_
 have hn:t.hd ∉ (["then","either","take"]:Vs):=by
  simp only[Sv,SS,T9,not_or]
  exact⟨h1,h2,h3⟩
 have hps:t.ps (mq hs)=[.tup []]:=by
  cases t with
  |Hj a b=>exact absurd rfl h1
  |HI a b=>exact absurd rfl h2
  |Hz z m a b=>exact absurd rfl h3
  |_=>rfl
 simp only[av,bx,ab,ak,v3,lk]
 rw[<-Bd.Jy]
 refine PZ hj nd hg hn fun S1 X1 p1 hp1=>?_
 refine k p1 _ (X1.free hp1) (X1.trans (.new hp1)) ?_
 rw[aa,hps]
 rfl
noncomputable def C3(js:Vs)(n:Nat)(a:Bd)(v:PV):PV:=.tup [.int (n:Int),cf (a.HN js v).1,.tup (a.HN js v).es,v]
noncomputable def FI(q:Qs)(js:Vs)(c:Nb):List PV:=(c.1.1.KM.ps q).map (C3 js c.2 c.1.1.KM)
noncomputable def rls(q:Qs)(js:Vs)(l:List (Bd×Bool))(n:Nat):List PV:=((l.zipIdx n).filter fun c=>c.1.2).flatMap (FI q js)
def tS(q:Qs)(js:Vs)(l m:List (Bd×Bool))(n:Nat):rls q js (l++m) n=rls q js l n++rls q js m (n+l.length):=by
 unfold rls
 rw[List.zipIdx_append,U8,Ub,Nat.add_comm n]
 try rfl
def pK(q:Qs)(js:Vs)(t:Bd)(r:Bool)(n:Nat):(rls q js (t.Jz q r) n).length<=t.Hh:=by
 have h:=mF q (t.Jz q r) n
 rw[di]at h
 refine Su (WY ?_) h
 unfold rls
 rw[VU,VU]
 congr 1
 refine TV fun c _=>?_
 unfold FI DD
 rw[Sm,Sm]
def hZ{n:Nat}(h:n<=1000000):n<=sizeLine:=Su h (by decide)
abbrev jR(n:Nat)(w:aw):Prop:=∀{S:az} {js hs:Vs} {t:Bd} {hl nb:Addr} {c:Nat} {r:Bool} {Q:bj} {E:bK},js.length<=1000->js.Nodup->t.dep<=n->t.dep<=6->t.Hh<=1000->t.good js []->k8 js->k8 hs->S hl=some (.lst (hs.map PV.str))->hl≠nb->S nb=some (.lst [.int (c:Int)])->
  (∀p S',S p=none->Ip nb S S'->S' nb=some (.lst [.int ((c+(t.Jz (mq hs) r).length:Nat):Int)])->S' p=some (.lst (rls (mq hs) js (t.Jz (mq hs) r) c))->Q (.ref p) S')->w [t.pv,dG js,.ref hl,.ref nb,.bl r] S Q E
def C4{xp s0:aw}(LV:d0 6 xp)(n:Nat)(ih:jR n s0):jR (n+1) (aR 6 (eY xp s0)):=by
 intro S js hs t hl nb c r Q E hj nd hd OH hc hg jk hk hp hne hb k
 unfold eY
 refine cC ?_
 rw[Bd.Jy,show ar 6 [.tup (.str t.hd::t.tl),dG js,.ref hl,.ref nb,.bl r]=[some (.tup (.str t.hd::t.tl)),some (dG js),some (.ref hl),some (.ref nb),some (.bl r),none] from rfl]
 refine am fun N hN=>?_
 walk_at "x"
 intro pf hpf
 have NE:pf≠nb:=fun h=>by rw[h,hb]at hpf;cases hpf
 have X0:Ext S (He S pf (.lst [])):=.new hpf
 have f0:(He S pf (.lst [])) pf=some (.lst []):=aa
 generalize He S pf (.lst [])=S0 at X0 f0
 refine hN _ _ (am fun N hN=>?_)
 -- what is found,then one more call behind it
 have tail:∀(a:Bd) (r':Bool) (c':Nat) (p1:Addr) (S1:az) (xs:List PV),a.dep<=n->a.dep<=6->a.Hh<=1000->a.good js []->xs.length<=1000->Ip nb S S1->S1 nb=some (.lst [.int (c':Int)])->p1≠nb->S1 p1=some (.lst xs)->
   xs++rls (mq hs) js (a.Jz (mq hs) r') c'=rls (mq hs) js (t.Jz (mq hs) r) c->c'+(a.Jz (mq hs) r').length=c+(t.Jz (mq hs) r).length->
   s0 [a.pv,dG js,.ref hl,.ref nb,.bl r'] S1 (fun v S2=>aU (.ref p1) v S2 fun w S3=>Q w S3) dW:=by
  intro a r' c' p1 S1 xs da P1 ca ga lx B1 b1 RQ f1 e1 e2
  refine ih hj nd da P1 ca ga jk hk (B1 _ _ hp hne) hne b1 fun p2 S2 hp2 B2 b2 f2=>?_
  simp only[aU,B2 _ _ f1 RQ,f2]
  refine⟨hZ (by have:=pK (mq hs) js a r' c';omega),fun p3 hp3=>?_⟩
  have n3:nb≠p3:=fun h=>by rw[<-h,b2]at hp3;cases hp3
  refine k p3 _ ?_ ((B1.trans B2).trans fun x o h _=>Ext.new hp3 _ _ h) (by rw[au n3,b2,e2]) (by rw[aa,e1])
  cases e:S p3 with
  |none=>rfl
  |some o=>have:=(B1.trans B2) _ _ e (UO n3);rw[hp3]at this;cases this
 have B0:Ip nb S S0:=fun x o h _=>X0 x o h
 simp only[bq,aP,ah,v3,lk,c3,ae,cx,br,SJ,SE]
 by_cases h1:t.hd=("often":Str)
 ·rw[if_pos h1]
  cases t with
  |HM a=>
   simp only[Bd.dep]at hd OH
   have hrc:a.Hf+a.Hh<=1000:=hc
   refine am fun N2 JV=>?_
   simp only[eg,ah,v3,lk,c3,ae,X0 _ _ hb,cx,aU,dC]
   have hx:rA [PV.int (c:Int)].length 0=some 0:=rfl
   have eo:(Bd.HM a).Jz (mq hs) r=(.HM a,r)::a.Jz (mq hs) r:=rfl
   rw[show((c:Int)+1)=((c+1:Nat):Int) by omega]
   simp only[hx,List.set_cons_zero]
   have B1:Ip nb S (He S0 nb (.lst [.int ((c+1:Nat):Int)])):=B0.trans .upd
   have b1:(He S0 nb (.lst [.int ((c+1:Nat):Int)])) nb=some (.lst [.int ((c+1:Nat):Int)]):=aa
   have f1:(He S0 nb (.lst [.int ((c+1:Nat):Int)])) pf=some (.lst []):=by rw[au NE];exact f0
   generalize He S0 nb (.lst [.int ((c+1:Nat):Int)])=S1 at B1 b1 f1
   refine JV _ _ (am fun N3 Lm=>?_)
   have fin:∀(p1:Addr) (S2:az) (xs:List PV),xs.length<=1000->Ip nb S S2->S2 nb=some (.lst [.int ((c+1:Nat):Int)])->p1≠nb->S2 p1=some (.lst xs)->xs=(if r=true then (a.ps (mq hs)).map (C3 js c a) else [])->N3 [some (.tup (.str (Bd.HM a).hd::(Bd.HM a).tl)),some (dG js),some (.ref hl),some (.ref nb),some (.bl r),some (.ref p1)] S2:=by
    intro p1 S2 xs lx B2 b2 n1 f2 ex
    refine Lm _ _ ?_
    simp only[Bd.hd,Bd.tl,av,ab,ak,ah,v3,lk,c3,ae,cR]
    refine tail a r (c+1) p1 S2 xs (by omega) (by omega) (by omega) hg lx B2 b2 n1 f2 ?_ ?_
    ·rw[eo,ex,show rls (mq hs) js ((Bd.HM a,r)::a.Jz (mq hs) r) c=rls (mq hs) js [(Bd.HM a,r)] c++rls (mq hs) js (a.Jz (mq hs) r) (c+1)from tS _ _ [(Bd.HM a,r)] _ c]
     congr 1
     cases r
     ·rfl
     ·show _=(FI (mq hs) js ((Bd.HM a,true),c))++[]
      rw[Ti]
      rfl
    ·rw[eo,SN];omega
   simp only[bq,aP,v3,lk]
   cases r with
   |false=>
    simp only[SD,Tt,aN]
    exact fin pf S1 [] (by simp) B1 b1 NE f1 rfl
   |true=>
    simp only[TH,aq,aF,aE,ab,ak,ah,v3,lk,c3,ae,cR,Bd.tl,cS,List.reduceReplicate,SH,Tu,List.cons_append,List.nil_append]
    refine LV hj nd (by omega) (by omega) hg jk hk (B1 _ _ hp hne) fun p1 S2 hp1 X2 f2=>?_
    have b2:=X2 _ _ b1
    simp only[bF,f2]
    refine aQ (lp js a) (C3 js c a) f2 (a.ps (mq hs)) [] (fun v hv=>⟨_,rfl,fun Q q=>?_⟩) (by rw[Tj,TJ];exact bN (Su (a.Ho _) (by omega))) fun p2 hp2=>?_
    ·simp only[ah,ay,ak,v3,lk,c3,ae,List.set_cons_zero,List.set_cons_succ,b2,cx,ck,fj,lp,aU]
     rw[show((c+1:Nat):Int) - 1=(c:Int) by omega]
     exact⟨bN (by simp),q⟩
    have n2:nb≠p2:=fun h=>by rw[<-h,b2]at hp2;cases hp2
    rw[Tq]
    exact fin p2 _ _ (by rw[Sm];exact Su (a.Ho _) (by omega)) ((B1.trans fun x o h _=>X2 x o h).trans fun x o h _=>Ext.new hp2 _ _ h) (by rw[au n2];exact b2) (UO n2) aa rfl
  |_=>simp[Bd.hd,aM]at h1
 rw[if_neg h1]
 simp only[aN]
 refine hN _ _ (am fun N hN=>?_)
 simp only[bq,aP,ah,v3,lk,c3,ae,cx,ay,ak]
 rw[show([PV.str "then",PV.str "either",PV.str "take"]:List PV)=(["then","either","take"]:Vs).map PV.str from rfl]
 refine cp t.KO g_ ?_
 rw[SJ]
 by_cases h3:t.hd∈(["then","either","take"]:Vs)
 ·rw[Tp h3]
  simp only[TH]
  have both:∀(a b:Bd) (hd2:List PV) (r':Bool),(.str t.hd::t.tl)=hd2++[a.pv,b.pv]->a.dep<=n->b.dep<=n->a.dep<=6->b.dep<=6->a.Hh+b.Hh<=1000->a.good js []->b.good js []->t.Jz (mq hs) r=a.Jz (mq hs) r'++b.Jz (mq hs) r->
    (∀(S1:az) (Q1:bj),S1 hl=some (.lst (hs.map PV.str))->Q1 (.bl r') S1->cH (v3 4) (nj (ah (br true) (ah ae (v3 0) (c3 (.int 0))) (c3 (.str "take"))) (ah (k4 false) (ah ae (v3 0) (c3 (.int 1))) (v3 2))) [some (.tup (.str t.hd::t.tl)),some (dG js),some (.ref hl),some (.ref nb),some (.bl r),some (.ref pf)] S1 Q1 dW)->
    ai (aq 5 (ab s0 [ah ae (v3 0) (gH bY (c3 (.int 2))),v3 1,v3 2,v3 3,cH (v3 4) (nj (ah (br true) (ah ae (v3 0) (c3 (.int 0))) (c3 (.str "take"))) (ah (k4 false) (ah ae (v3 0) (c3 (.int 1))) (v3 2)))]))
     (av (ah aU (v3 5) (ab s0 [ah ae (v3 0) (gH bY (c3 (.int 1))),v3 1,v3 2,v3 3,v3 4]))) { nx:=N,rt:=Q,ex:=dW } [some (.tup (.str t.hd::t.tl)),some (dG js),some (.ref hl),some (.ref nb),some (.bl r),some (.ref pf)] S0:=by
   intro a b hd2 r' e1 da db P1 RS Ov ga gb et hr
   have sb:Ii (.str t.hd::t.tl) (-1)=some b.pv:=by rw[e1];have:=iq (a:=a.pv) (b:=b.pv) (hd:=hd2) (i:=1) (.inr rfl);simpa using this
   have sa:Ii (.str t.hd::t.tl) (-2)=some a.pv:=by rw[e1];have:=iq (a:=a.pv) (b:=b.pv) (hd:=hd2) (i:=0) (.inl rfl);simpa using this
   refine am fun N2 JV=>?_
   simp only[aq,ak,ab,ah,gH,bY,v3,lk,c3,ae,sa]
   refine hr S0 _ (X0 _ _ hp) ?_
   refine ih hj nd da P1 (by omega) ga jk hk (X0 _ _ hp) hne (X0 _ _ hb) fun p1 S1 hp1 B1 b1 f1=>?_
   have n1:p1≠nb:=fun h=>by rw[h,X0 _ _ hb]at hp1;cases hp1
   refine JV _ _ ?_
   simp only[av,ak,ab,ah,gH,bY,v3,lk,c3,ae,sb,List.set_cons_zero,List.set_cons_succ]
   refine tail b r _ p1 S1 _ db RS (by omega) gb (by have:=pK (mq hs) js a r' c;omega) (B0.trans B1) b1 n1 f1 ?_ ?_
   ·rw[et,tS]
   ·rw[et,Sn];omega
  have app:∀{l m:List (Bd×Bool)},(l++m).filter (fun p=>p.1.JP)=l.filter (fun p=>p.1.JP)++m.filter (fun p=>p.1.JP):=U8 ..
  cases t with
  |Hj a b=>
   simp only[Bd.dep]at hd OH
   simp only[Bd.Hh]at hc
   refine both a b [.str "then"] r rfl (by omega) (by omega) (by omega) (by omega) (by omega) hg.1 hg.2 app fun S1 Q1 h1 q1=>?_
   have en:decide (("then":Str) = "take")=false:=by decide
   simp only[cH,nj,ah,v3,lk,c3,ae,cx,br,Bd.hd,en,TF,Ui,TH]
   cases r
   ·exact q1
   ·exact q1
  |HI a b=>
   simp only[Bd.dep]at hd OH
   simp only[Bd.Hh]at hc
   refine both a b [.str "either"] r rfl (by omega) (by omega) (by omega) (by omega) (by omega) hg.1 hg.2 app fun S1 Q1 h1 q1=>?_
   have en:decide (("either":Str) = "take")=false:=by decide
   simp only[cH,nj,ah,v3,lk,c3,ae,cx,br,Bd.hd,en,TF,Ui,TH]
   cases r
   ·exact q1
   ·exact q1
  |Hz z m a b=>
   simp only[Bd.dep]at hd OH
   simp only[Bd.Hh]at hc
   refine both a b [.str "take",.str z,.int m] (r&&mq hs z) rfl (by omega) (by omega) (by omega) (by omega) (by omega) hg.2.2.2.1 hg.2.2.2.2 app fun S1 Q1 h1 q1=>?_
   simp only[cH,nj,ah,v3,lk,c3,ae,cx,cR,br,Bd.hd,Bd.tl,UM,TF,Uv,SD,Tt]
   cases r
   ·exact q1
   ·simp only[TH]
    refine eE h1 (jk z hg.1) hk ?_
    rw[SJ]
    exact q1
  |_=>simp[Bd.hd,aM]at h3
 ·rw[Tc h3]
  simp only[SD,Tt,aN]
  refine hN _ _ ?_
  simp only[av,v3,lk]
  have e0:t.Jz (mq hs) r=[]:=by cases t<;>first|rfl|exact absurd rfl h1|simp[Bd.hd]at h3
  refine k pf S0 hpf B0 ?_ ?_
  ·rw[e0];exact X0 _ _ hb
  ·rw[e0];exact f0
def qO(q:Qs)(js:Vs)(d:Nat)(t:Bd):(((np q t).map fun c=>((.int (c.2:Int),c.1.1.KM):PV×Bd)).flatMap (lw q js d))=(rls q js (t.Jz q true) 0).map fun r=>match r with | .tup xs=>.tup (.int (d:Int)::xs)|r=>r:=by
 unfold rls np
 rw[List.flatMap_map,VS]
 congr 1
 funext c
 unfold lw FI
 rw[SV]
 rfl
abbrev mK(w:aw):Prop:=∀{S:az} {js:Vs} {ds:List (Str×Bd)} {Q:bj} {E:bK},HP js ds->js.Nodup->(∀p S',S p=none->Ext S S'->S' p=some (.lst (CZ (mq (held ds js.length)) js ds))->Q (.ref p) S')->w [jF js ds] S Q E
def Ag{xf xp xr:aw}(Le:kG xf)(LV:d0 6 xp)(P2:jR 6 xr)(hok:∀{js:Vs} {ds:List (Str×Bd)},HP js ds->k8 (held ds js.length)):mK (aR 5 (fQ xf xp xr)):=by
 intro S js ds Q E hP nd k
 unfold fQ
 refine cC ?_
 rw[show ar 5 [jF js ds]=[some (.tup [.tup (js.map PV.str),.tup (ds.map j3)]),none,none,none,none] from rfl]
 refine am fun N hN=>?_
 simp only[aq,ab,ak,v3,lk]
 refine Le hP.toHG fun nm S1 hnm X1 Nf=>?_
 have hh:=hok hP
 generalize held ds js.length=hs at k Nf hh
 have jl:js.length<=1000:=by have:=hP.jl;omega
 refine hN _ _ (am fun N hN=>?_)
 simp only[aq,bx,ak,List.set_cons_zero,List.set_cons_succ]
 intro pf hpf
 have X2:Ext S1 (He S1 pf (.lst [])):=.new hpf
 have f2:(He S1 pf (.lst [])) pf=some (.lst []):=aa
 have Ng:=X2 _ _ Nf
 have LA:=X1.free hpf
 have NG:nm≠pf:=fun h=>by rw[h,hpf]at Nf;cases Nf
 have Oc:Ext S (He S1 pf (.lst [])):=X1.trans X2
 generalize He S1 pf (.lst [])=S2 at X2 f2 Ng Oc
 have tot:=pJ (q:=mq hs) hP
 refine hN _ _ (am fun N hN=>?_)
 simp only[bz,dU,ah,v3,lk,c3,ae,cR]
 refine bb (fun done σ S'=>∃(x3 x4:Option PV),σ=[some (.tup [.tup (js.map PV.str),.tup (ds.map j3)]),some (.ref nm),some (.ref pf),x3,x4]/\Ext S S'/\Ip pf S2 S'/\S' pf=some (.lst ((ds.zipIdx.take done.length).flatMap fun p=>cy (mq hs) js p.2 p.1.2))) ⟨_,_,rfl,Oc,.refl,f2⟩ (fun _ _ _ _=>trivial) ?_ ?_
 ·rintro done x rest σ S3 K e ⟨x3,x4,rfl,X3,B3,f3⟩ hK
  obtain⟨y,rfl,hy⟩:=hG e
  obtain⟨⟨z,t⟩,ht,rfl⟩:∃q,ds[done.length]?=some q/\j3 q=y:=by rw[SA]at hy;exact To.mp hy
  have hm:(z,t)∈ds:=SY ht
  have hgd:t.good js []:=hP.gd _ hm
  have NN:t.dep<=6:=hP.dp _ hm
  have Ka:t.Hf+t.Hh<=1000:=hP.pc _ hm
  have PQ:ds.zipIdx[done.length]?=some ((z,t),done.length):=by rw[List.getElem?_zipIdx,ht];simp
  have M6:=iw (fun p:(Str×Bd)×Nat=>cy (mq hs) js p.2 p.1.2) PQ
  have LD:((ds.zipIdx.take (done.length+1)).flatMap fun p=>cy (mq hs) js p.2 p.1.2).length<=1000000:=Su (jP _ _ _) tot
  rw[M6,Sn]at LD
  have QM:cy (mq hs) js done.length t=lw (mq hs) js done.length (.non,t)++(((np (mq hs) t).map fun c=>((.int (c.2:Int),c.1.1.KM):PV×Bd)).flatMap (lw (mq hs) js done.length)):=by
   unfold cy sD
   rw[Ur]
  dsimp only at LD M6
  rw[QM,Sn]at LD
  rw[QM]at M6
  have P3:=T6 List.length (qO (mq hs) js done.length t)
  rw[Sm]at P3
  generalize (ds.zipIdx.take done.length).flatMap (fun p=>cy (mq hs) js p.2 p.1.2)=acc at f3 LD M6
  simp only[j3,Tg.put,Tg.Hi,List.set_cons_zero,List.set_cons_succ]
  have RT:=B3 _ _ Ng NG
  refine am fun N3 Lm=>?_
  simp only[aW,eR,p5,f3,Vz,aF,aE,ab,ak,ah,v3,lk,c3,ae,cx,cR,cS,List.reduceReplicate,SH,Tu,List.cons_append,List.nil_append]
  refine LV jl nd NN (by omega) hgd hP.jw hh RT fun p1 S4 hp1 X4 f4=>?_
  simp only[bF,f4]
  refine aQ (lp js t) (u8 js done.length (.non,t)) f4 (t.ps (mq hs)) [] (fun v hv=>⟨_,rfl,fun Q q=>?_⟩) (by rw[Tj,TJ];exact bN (Su (t.Ho _) (by omega))) fun p2 hp2=>?_
  ·simp only[ah,ay,ak,v3,lk,c3,List.set_cons_zero,List.set_cons_succ,lp,aU]
   exact⟨bN (by simp),q⟩
  have n2:pf≠p2:=fun h=>by rw[<-h,X4 _ _ f3]at hp2;cases hp2
  simp only[List.nil_append,bE,aa,au n2,X4 _ _ f3]
  have RU:(t.ps (mq hs)).map (u8 js done.length (.non,t))=lw (mq hs) js done.length (.non,t):=rfl
  rw[RU]
  refine⟨hZ (by omega),?_⟩
  have X5:Ext S (He (He S4 p2 (.lst (lw (mq hs) js done.length (.non,t)))) pf (.lst (acc++lw (mq hs) js done.length (.non,t)))):=(X3.trans (X4.trans (.new hp2))).put LA
  have B5:Ip pf S2 (He (He S4 p2 (.lst (lw (mq hs) js done.length (.non,t)))) pf (.lst (acc++lw (mq hs) js done.length (.non,t)))):=(B3.trans fun x o h _=>(X4.trans (.new hp2)) x o h).trans .upd
  have f5:(He (He S4 p2 (.lst (lw (mq hs) js done.length (.non,t)))) pf (.lst (acc++lw (mq hs) js done.length (.non,t)))) pf=some (.lst (acc++lw (mq hs) js done.length (.non,t))):=aa
  generalize He (He S4 p2 (.lst (lw (mq hs) js done.length (.non,t)))) pf (.lst (acc++lw (mq hs) js done.length (.non,t)))=S5 at X5 B5 f5
  refine Lm _ _ ?_
  simp only[aW,eR,p5,f5,Vz,aF,aE,ab,ak,bx,ah,v3,lk,c3,ae,cx,cR,cS,List.reduceReplicate,SH,Tu,List.cons_append,List.nil_append]
  intro pb LB
  have RV:pf≠pb:=fun h=>by rw[<-h,f5]at LB;cases LB
  have RW:nm≠pb:=fun h=>by rw[<-h,B5 _ _ Ng NG]at LB;cases LB
  have X6:Ext S5 (He S5 pb (.lst [.int 0])):=.new LB
  have b6:(He S5 pb (.lst [.int 0])) pb=some (.lst [.int ((0:Nat):Int)]):=aa
  generalize He S5 pb (.lst [.int 0])=S6 at X6 b6
  refine P2 jl nd NN NN (by omega) hgd hP.jw hh (X6 _ _ (B5 _ _ Ng NG)) RW b6 fun p3 S7 hp3 B7 b7 f7=>?_
  have QN:=B7 _ _ (X6 _ _ f5) RV
  simp only[bF,f7]
  have RX:∀r∈rls (mq hs) js (t.Jz (mq hs) true) 0,∃xs,r = .tup xs/\xs.length=4:=fun r hr=>by
   obtain⟨c,_,hc⟩:=Uo.mp hr
   obtain⟨v,_,rfl⟩:=SQ.mp hc
   exact⟨_,rfl,rfl⟩
  have lrl:=pK (mq hs) js t true 0
  rw[<-List.map_id (rls (mq hs) js (t.Jz (mq hs) true) 0)]at f7 ⊢
  refine aQ id (fun r=>match r with | .tup xs=>.tup (.int (done.length:Int)::xs)|r=>r) (keep:=fun S=>S p3=some (.lst ((rls (mq hs) js (t.Jz (mq hs) true) 0).map id))) f7 _ [] (fun v hv=>⟨_,rfl,fun Q q=>?_⟩) (by rw[Tj,TJ];exact bN (by omega)) fun p4 NP=>?_
  ·obtain⟨xs,rfl,hx⟩:=RX v hv
   simp only[ah,ay,ak,v3,lk,c3,List.set_cons_zero,List.set_cons_succ,id,aU]
   exact⟨bN (by simp[hx]),q⟩
  have n4:pf≠p4:=fun h=>by rw[<-h,QN]at NP;cases NP
  simp only[List.nil_append,bE,aa,au n4,QN]
  rw[<-qO]
  refine⟨hZ (by rw[Sn];omega),hK _ _ ⟨_,_,rfl,?_,?_,?_⟩⟩
  ·refine Ext.put (fun x o h=>?_) LA
   have n8:x≠pb:=fun e=>by rw[e]at h;have:=X5 _ _ h;rw[LB]at this;cases this
   exact Ext.new NP _ _ (B7 _ _ (X6 _ _ (X5 _ _ h)) n8)
  ·refine(B5.trans fun x o h _=>?_).trans .upd
   have n8:x≠pb:=fun e=>by rw[e,LB]at h;cases h
   exact Ext.new NP _ _ (B7 _ _ (X6 _ _ h) n8)
  ·rw[aa,Sn,SK,M6,Uz]
 ·rintro σ S3 ⟨x3,x4,rfl,X3,B3,f3⟩
  refine hN _ _ ?_
  have:(L3.aS (ds.map j3)).length=ds.zipIdx.length:=by simp[L3.aS]
  rw[this,T3]at f3
  walk_at "x"
  exact k pf S3 LA X3 f3
end CL
namespace CW
open PySem L2 L3 Wd
open C
structure Sz (i:Int):Prop where
 lt:i.natAbs < 2 ^ 4000
def tT{k:Int}{n:Nat}(h:k.natAbs < 2 ^ n):Builtin.Int.intBits k<=n:=by
 unfold Builtin.Int.intBits
 split
 ·exact Tr _
 ·rename_i hz
  have h0:k.natAbs≠0:=by intro e;apply hz;simp;omega
  have:k.natAbs.log2 < n:=(Nat.log2_lt h0).mpr h
  omega
def Sz.mul{a b:Int}(h:Sz a)(g:Sz b):IntMulOk a b:=by
 have h1:=tT h.lt
 have h2:=tT g.lt
 unfold IntMulOk
 have e:Builtin.Int.intTooBig ((Builtin.Int.intBits a:Int)+(Builtin.Int.intBits b:Int))=false:=by
  unfold Builtin.Int.intTooBig
  have:(bitsLine:Int)=2 ^ 27:=rfl
  simp only[gt_iff_lt,Vy,Int.not_lt]
  omega
 rw[e];simp
def Sz.div{a b:Int}(h:b≠0)(g:Sz b):kX a b:=⟨h,VQ g.lt (Uu (by decide) (by decide))⟩
def Sz.le{a b:Int}(h:Sz b)(g:a.natAbs<=b.natAbs):Sz a:=⟨Tf g h.lt⟩
noncomputable def jS:Nat:=2 ^ 2000
def tU:0 < jS:=Nat.pow_pos (by decide)
def C5:jS < 2 ^ 4000:=Uu (by decide) (by decide)
def cr{a:Int}(h:a.natAbs<=jS):Sz a:=⟨Tf h C5⟩
def pL{a b:Int}(h:a.natAbs<=jS)(g:b.natAbs < jS):Sz (a * b):=by
 refine⟨?_⟩
 rw[VL]
 have h1:=Nat.mul_lt_mul_of_le_of_lt h g tU
 have e:jS * jS=2 ^ 4000:=by unfold jS;rw[<-Nat.pow_add]
 rw[e]at h1
 exact h1
noncomputable def cq(Q n:Int):PV:=.tup [.int (M3.aO n Q),.int (M3.aC n Q)]
def k_{Q R n m:Int}(hQ:0 < Q)(hR:0 < R)(e:n * R=m * Q):cq Q n=cq R m:=by
 have L:=M3.jp (t:=n) (b:=Q) (by omega)
 have w:=M3.bC (t:=n) (b:=Q) (by omega)
 obtain⟨e1,e2⟩:=M3.dS (x:=m) (y:=R) L hR (by
  refine M3.Cd (g:=Q) (by omega) ?_
  rw[V7,<-e,V7 n,<-w]
  grind)
 unfold cq
 rw[e1,e2]
def xD{x y:Int}(L:M3.Dy x y):PV.tup [.int x,.int y]=cq y x:=by
 obtain⟨e1,e2⟩:=M3.we L
 unfold cq;rw[e1,e2]
def xE(n:Int):PV.tup [.int n,.int 1]=cq 1 n:=xD ⟨by decide,Int.gcd_one_right _⟩
def C6{Q n:Int}(hQ:0 < Q):(M3.aO n Q < 0↔n < 0)/\(0 < M3.aO n Q↔0 < n)/\(M3.aO n Q=0↔n=0):=by
 have w:=M3.bC (t:=n) (b:=Q) (by omega)
 have L:=(M3.jp (t:=n) (b:=Q) (by omega)).pos
 have a1:M3.aO n Q < 0->n < 0:=fun h=>by
  have:=Int.mul_neg_of_neg_of_pos h hQ
  rw[w]at this
  exact Int.not_le.mp fun hn=>by have:=Us hn (show 0<=M3.aC n Q by omega);omega
 have a2:0 < M3.aO n Q->0 < n:=fun h=>by
  have:=UY h hQ
  rw[w]at this
  exact Int.not_le.mp fun hn=>by have:=Us (show 0 <= -n by omega) (show 0<=M3.aC n Q by omega);rw[Int.neg_mul]at this;omega
 have a3:M3.aO n Q=0->n=0:=fun h=>by
  rw[h,Int.zero_mul]at w
  rcases Int.mul_eq_zero.mp w.symm with h|h
  ·exact h
  ·omega
 refine⟨⟨a1,fun h=>?_⟩,⟨a2,fun h=>?_⟩,⟨a3,fun h=>?_⟩⟩<;>omega
structure Fq (Q n:Int):Prop where
 q0:0 < Q
 q1:Q.natAbs < jS
 n1:n.natAbs < jS
def Fq.sz{Q n:Int}(h:Fq Q n):(M3.aO n Q).natAbs<=n.natAbs/\(M3.aC n Q).natAbs<=Q.natAbs/\0 < M3.aC n Q:=by
 have q0:=h.q0
 have:=M3.qk (t:=n) (b:=Q) (T:=n.natAbs) (B:=Q.natAbs) (by omega) (by omega) (by omega) (by omega) (by omega) (by omega) (by omega)
 omega
abbrev tV(w:aw):Prop:=∀{S:az} {a b:Int} {Q:bj} {E:bK},0<=b->Q (.int (Int.gcd a b)) S->w [.int a,.int b] S Q E
def sF:tV (aR 3 gT):=by
 intro S a b Q E hb k
 unfold gT
 refine cC ?_
 rw[show ar 3 [PV.int a,PV.int b]=[some (.int a),some (.int b),none] from rfl]
 refine am fun N hN=>?_
 refine⟨fun n σ S'=>S'=S/\∃(x y:Int) (z:Option PV),σ=[some (.int x),some (.int y),z]/\0<=y/\Int.gcd x y=Int.gcd a b/\y.toNat=n,⟨_,rfl,a,b,none,rfl,hb,rfl,rfl⟩,?_⟩
 rintro n σ S' ⟨rfl,x,y,z,rfl,hy,hg,rfl⟩
 walk_at "x"
 simp only[TF,WV,Vy]
 split
 ·rename_i hp
  refine⟨fun σ' K0=>K0=S'/\∃(x' y':Int) (z':Option PV),σ'=[some (.int x'),some (.int y'),z']/\0<=y'/\Int.gcd x' y'=Int.gcd a b/\y'.toNat < y.toNat,?_,?_⟩
  ·rintro σ' K0 ⟨rfl,x',y',z',rfl,h2,h3,h4⟩
   exact⟨_,h4,rfl,x',y',z',rfl,h2,h3,rfl⟩
  ·have e:x.fmod y=x % y:=gY hy
   have l1:=V3 x (b:=y) hp
   have l2:=VE x (show 0 < y by omega)
   refine⟨hp,rfl,y,x.fmod y,_,rfl,by omega,?_,by omega⟩
   rw[M3.lS];exact hg
 ·rename_i hp
  have M_:y=0:=by omega
  subst M_
  refine hN _ _ ?_
  walk_at "x"
  have N0:(if x < 0 then -x else x)=(Int.gcd a b:Int):=by
   rw[<-hg,WL]
   split<;>omega
  rw[N0]
  exact k
abbrev mL(w:aw):Prop:=∀{S:az} {t b:Int} {Q:bj} {E:bK},0 < b->Sz b->Q (cq b t) S->w [.int t,.int b] S Q E
def xF{xc:aw}(ID:tV xc):mL (aR 3 (dX xc)):=by
 intro S t b Q E hb hs k
 unfold dX
 refine cC ?_
 rw[show ar 3 [PV.int t,PV.int b]=[some (.int t),some (.int b),none] from rfl]
 refine am fun N hN=>?_
 walk_at "x"
 refine ID (by omega) (hN _ _ (am fun N hN=>?_))
 walk_at "x"
 rw[if_neg (by rw[SE];omega)]
 refine hN _ _ ?_
 walk_at "x"
 have gp:(0:Int) < (Int.gcd t b:Int):=VF.mpr (M3.fF (by omega))
 have gl:=M3.rX (t:=t) (b:=b) (by omega)
 have cd:∀z,kX z (Int.gcd t b:Int):=fun z=>Sz.div (by omega) (hs.le (by omega))
 refine⟨cd _,cd _,?_⟩
 have d1:=(M3.lR (t:=t) (b:=b) (by omega))
 rw[if_neg (by omega)]at d1
 rw[d1.1,d1.2]
 exact k
abbrev qP(w:aw):Prop:=mL w
def Ah{xl:aw}(h:jA xl):qP xl:=fun hb hs k=>h hb (VQ hs.lt (Uu (by decide) (by decide))) k
def xG{Q n m:Int}(h:Fq Q n)(g:Fq Q m):0 < M3.aC n Q * M3.aC m Q/\Sz (M3.aC n Q * M3.aC m Q)/\cq (M3.aC n Q * M3.aC m Q) (M3.aO n Q * M3.aC m Q+M3.aO m Q * M3.aC n Q)=cq Q (n+m):=by
 have a:=h.sz
 have c:=g.sz
 have q0:=h.q0
 have p:=UY a.2.2 c.2.2
 refine⟨p,pL (by have:=h.q1;omega) (by have:=h.q1;omega),k_ p q0 ?_⟩
 have w1:=M3.bC (t:=n) (b:=Q) (by omega)
 have w2:=M3.bC (t:=m) (b:=Q) (by omega)
 calc (M3.aO n Q * M3.aC m Q+M3.aO m Q * M3.aC n Q) * Q=(M3.aO n Q * Q) * M3.aC m Q+(M3.aO m Q * Q) * M3.aC n Q:=by grind
  _=_:=by rw[w1,w2];grind
def Fq.ok{Q n R m:Int}(h:Fq Q n)(g:Fq R m):IntMulOk (M3.aO n Q) (M3.aC m R)/\IntMulOk (M3.aC n Q) (M3.aC m R)/\IntMulOk (M3.aO n Q) (M3.aO m R):=by
 have a:=h.sz
 have c:=g.sz
 have:=h.q1;have:=g.q1;have:=h.n1;have:=g.n1
 exact⟨(cr (by omega)).mul (cr (by omega)),(cr (by omega)).mul (cr (by omega)),(cr (by omega)).mul (cr (by omega))⟩
abbrev mM(w:aw):Prop:=∀{S:az} {B n m:Int} {Q:bj} {E:bK},Fq B n->Fq B m->Q (cq B (n+m)) S->w [cq B n,cq B m] S Q E
def E6{xf:aw}{S:az}{B n m:Int}{Q:bj}{E:bK}(h:IntMulOk (M3.aO n B) (M3.aC m B)/\IntMulOk (M3.aO m B) (M3.aC n B)/\IntMulOk (M3.aC n B) (M3.aC m B))(k:xf [.int (M3.aO n B * M3.aC m B+M3.aO m B * M3.aC n B),.int (M3.aC n B * M3.aC m B)] S Q dW):aR 2 (dY xf) [cq B n,cq B m] S Q E:=by
 unfold dY
 refine cC ?_
 rw[show ar 2 [cq B n,cq B m]=[some (.tup [.int (M3.aO n B),.int (M3.aC n B)]),some (.tup [.int (M3.aO m B),.int (M3.aC m B)])] from rfl]
 walk_at "x"
 simp only[cx,cR]
 exact⟨h.1,h.2.1,h.2.2,k⟩
def qQ{xf:aw}(Hm:mL xf):mM (aR 2 (dY xf)):=by
 intro S B n m Q E h g k
 obtain⟨p1,p2,p3⟩:=xG h g
 exact E6 ⟨(h.ok g).1,(g.ok h).1,(h.ok g).2.1⟩ (Hm p1 p2 (by rw[p3];exact k))
def va{xf:aw}(Hm:qP xf):mM (aR 2 (b3 xf)):=by
 have e:b3 xf=dY xf:=rfl
 rw[e]
 intro S B n m Q E h g k
 exact qQ (fun hb hs k=>Hm hb hs k) h g k
abbrev sG(w:aw):Prop:=∀{S:az} {i B n:Int} {Q:bj} {E:bK},i.natAbs < jS->Fq B n->Q (cq B (i * n)) S->w [.tup [.int i,.int 1],cq B n] S Q E
def vb{xf:aw}(Hm:mL xf):sG (aR 2 (fL xf)):=by
 intro S i B n Q E hi h k
 unfold fL
 refine cC ?_
 rw[show ar 2 [.tup [.int i,.int 1],cq B n]=[some (.tup [.int i,.int 1]),some (.tup [.int (M3.aO n B),.int (M3.aC n B)])] from rfl]
 have a:=h.sz
 have:=h.q1;have:=h.n1;have q0:=h.q0
 simp only[av,ab,ak,ah,v3,lk,c3,ae,cx,cR,bJ]
 have one:(1:Int).natAbs<=jS:=tU
 refine⟨(cr (by omega)).mul (cr (by omega)),(cr one).mul (cr (by omega)),?_⟩
 rw[Int.one_mul]
 refine Hm a.2.2 (cr (by omega)) ?_
 rw[k_ (m:=i * n) a.2.2 q0 (by have w:=M3.bC (t:=n) (b:=B) (by omega);rw[VX,w];grind)]
 exact k
abbrev AS(w:aw):Prop:=∀{S:az} {B n m:Int} {Q:bj} {E:bK},Fq B n->Fq B m->Q (.bl (decide (n < m))) S->w [cq B n,cq B m] S Q E
def xH:AS (aR 2 sr):=by
 intro S B n m Q E h g k
 unfold sr
 refine cC ?_
 rw[show ar 2 [cq B n,cq B m]=[some (.tup [.int (M3.aO n B),.int (M3.aC n B)]),some (.tup [.int (M3.aO m B),.int (M3.aC m B)])] from rfl]
 simp only[av,ah,v3,lk,c3,ae,cx,cR,bJ,l8,fj]
 refine⟨(h.ok g).1,(g.ok h).1,?_⟩
 have q0:=h.q0
 have w1:=M3.bC (t:=n) (b:=B) (by omega)
 have w2:=M3.bC (t:=m) (b:=B) (by omega)
 have b1:=h.sz.2.2
 have b2:=g.sz.2.2
 have e:(M3.aO n B * M3.aC m B < M3.aO m B * M3.aC n B)↔n < m:=by
  have pp:=UY b1 b2
  have e1:(M3.aO n B * M3.aC m B) * B=n * (M3.aC n B * M3.aC m B):=by rw[V7,w1];grind
  have e2:(M3.aO m B * M3.aC n B) * B=m * (M3.aC n B * M3.aC m B):=by rw[V7,w2];grind
  constructor
  ·intro hlt
   have:=Int.mul_lt_mul_of_pos_right hlt q0
   rw[e1,e2]at this
   exact Int.lt_of_mul_lt_mul_right this (by omega)
  ·intro hlt
   have:=Int.mul_lt_mul_of_pos_right hlt pp
   rw[<-e1,<-e2]at this
   exact Int.lt_of_mul_lt_mul_right this (by omega)
 rw[show decide (M3.aO n B * M3.aC m B < M3.aO m B * M3.aC n B)=decide (n < m)from WX.mpr e]
 exact k
abbrev qR(w:aw):Prop:=∀{S:az} {a b c d:Int} {Q:bj} {E:bK},0 < b->0 < d->a.natAbs<=jS->b.natAbs < jS->c.natAbs<=jS->d.natAbs < jS->Q (cq (b * d) (a * d+c * b)) S->w [.tup [.int a,.int b],.tup [.int c,.int d]] S Q E
def C7{xf:aw}{S:az}{a b c d:Int}{Q:bj}{E:bK}(h:IntMulOk a d/\IntMulOk c b/\IntMulOk b d)(k:xf [.int (a * d+c * b),.int (b * d)] S Q dW):aR 2 (dY xf) [.tup [.int a,.int b],.tup [.int c,.int d]] S Q E:=by
 unfold dY
 refine cC ?_
 rw[show ar 2 [PV.tup [.int a,.int b],.tup [.int c,.int d]]=[some (.tup [.int a,.int b]),some (.tup [.int c,.int d])] from rfl]
 walk_at "x"
 simp only[cx,cR]
 exact⟨h.1,h.2.1,h.2.2,k⟩
def xI{xf:aw}(Hm:mL xf):qR (aR 2 (dY xf)):=by
 intro S a b c d Q E hb hd h1 h2 h3 h4 k
 exact C7 ⟨(cr h1).mul (cr (by omega)),(cr h3).mul (cr (by omega)),(cr (by omega)).mul (cr (by omega))⟩ (Hm (UY hb hd) (pL (by omega) h4) k)
def vc{xf:aw}(Hm:qP xf):qR (aR 2 (b3 xf)):=by
 have e:b3 xf=dY xf:=rfl
 rw[e]
 intro S a b c d Q E hb hd h1 h2 h3 h4 k
 exact xI (fun hb hs k=>Hm hb hs k) hb hd h1 h2 h3 h4 k
noncomputable def i8(ns:Vu):Nat:=(ns.map Int.natAbs).sum
def jT(ns:Vu):ns.sum.natAbs<=i8 ns:=by
 induction ns with
 |nil=>simp[i8]
 |cons a r ih=>simp only[i8,SH,List.sum_cons]at *;have:=Int.natAbs_add_le a r.sum;omega
def vd(ns:Vu)(k:Nat):i8 (ns.take k)<=i8 ns:=by
 rw[<-Vb k ns]
 simp only[i8,Te,List.sum_append]
 rw[Vb]
 simp only[List.map_take,List.map_drop]
 have:=Vb k (ns.map Int.natAbs)
 have h2:=T6 List.sum this
 rw[List.sum_append]at h2
 omega
def xJ{ns:Vu}{a:Int}(h:a∈ns):a.natAbs<=i8 ns:=by
 induction ns with
 |nil=>cases h
 |cons x r ih=>
  simp only[i8,SH,List.sum_cons]at *
  rcases Sv.mp h with rfl|h
  ·omega
  ·have:=ih h;omega
abbrev xK(w:aw):Prop:=∀{S:az} {p:Addr} {B:Int} {ns:Vu} {Q:bj} {E:bK},0 < B->B.natAbs < jS->i8 ns < jS->S p=some (.lst (ns.map (cq B)))->Q (cq B ns.sum) S->w [.ref p] S Q E
def Ai{xp:aw}(Hq:mM xp):xK (aR 3 (i0 xp)):=by
 intro S p B ns Q E hB Oe ha hp k
 unfold i0
 refine cC ?_
 rw[show ar 3 [PV.ref p]=[some (.ref p),none,none] from rfl]
 refine am fun N hN=>?_
 walk_at "x"
 refine hN _ _ (am fun N hN=>?_)
 simp only[bz,aE,v3,lk,bF,hp]
 refine bb (fun done σ S'=>S'=S/\done.length<=ns.length/\∃x2:Option PV,σ=[some (.ref p),some (cq B (ns.take done.length).sum),x2]) ⟨rfl,Tr _,_,by rw[xE,k_ (Q:=1) (R:=B) (n:=0) (m:=0) (by decide) hB (by simp)];rfl⟩ (fun _ _ _ ⟨e,_⟩=>by rw[e];exact hp) ?_ ?_
 ·rintro done x rest σ S' K e ⟨rfl,hl,x2,rfl⟩ hK
  have hget:(ns.map (cq B))[done.length]?=some x:=by rw[e];simp
  obtain⟨n,hn,rfl⟩:∃n,ns[done.length]?=some n/\cq B n=x:=by rw[SA]at hget;exact To.mp hget
  have hlt:done.length < ns.length:=(Td.mp hn).1
  simp only[Tg.put,List.set_cons_succ,List.set_cons_zero,aq,ab,ak,v3,lk]
  have t1:=jT (ns.take done.length)
  have t2:=vd ns done.length
  have t3:=xJ (SY hn)
  refine Hq ⟨hB,Oe,by omega⟩ ⟨hB,Oe,by omega⟩ (hK _ _ ⟨rfl,by rw[Sn];exact hlt,some (cq B n),?_⟩)
  rw[Sn,SK,Uj,hn]
  simp
 ·rintro σ S' ⟨rfl,hl,x2,rfl⟩
  refine hN _ _ ?_
  rw[Sm,T3]
  walk_at "x"
  exact k
noncomputable def m6:List Int->List Int->Int
 |a::r,b::s=>a * b+m6 r s
 |_,_=>0
noncomputable def iH(is ns:Vu):List Int:=List.zipWith (· * ·) is ns
theorem dP:∀(is ns:Vu),(iH is ns).sum=m6 is ns
 |[],_=>by simp[iH,m6]
 |_::_,[]=>by simp[iH,m6]
 |a::r,b::s=>by
  have:=dP r s
  simp only[iH,List.zipWith_cons_cons,List.sum_cons,m6]at *
  omega
end CW
namespace CL
open PySem L2 L3 Wd
open C CW
structure Ln where
 d:Nat
 who:PV
 c:Int
 es:List Int
 tr:PV
noncomputable def Ln.pv(l:Ln):PV:=.tup [.int (l.d:Int),l.who,cf l.c,.tup (l.es.map PV.int),l.tr]
noncomputable def C8(js:Vs)(d:Nat)(x:PV×Bd)(v:PV):Ln:=⟨d,x.1,(x.2.HN js v).1,(x.2.HN js v).2.map (·.1),v⟩
noncomputable def vq(q:Qs)(js:Vs)(ds:List (Str×Bd)):List Ln:=ds.zipIdx.flatMap fun p=>(sD q p.1.2).flatMap fun x=>(x.2.ps q).map (C8 js p.2 x)
def E7(js:Vs)(d:Nat)(x:PV×Bd)(v:PV):(C8 js d x v).pv=u8 js d x v:=by
 unfold C8 Ln.pv u8 Ty.es
 dsimp only
 rw[SV]
 rfl
def lE(q:Qs)(js:Vs)(ds:List (Str×Bd)):CZ q js ds=(vq q js ds).map Ln.pv:=by
 unfold CZ vq
 rw[VS]
 congr 1
 funext p
 unfold cy
 rw[VS]
 congr 1
 funext x
 unfold lw
 rw[SV]
 exact TV fun v _=>(E7 js p.2 x v).symm
noncomputable def MQ:PV->Bool | .non=>true|_=>false
structure C9 (k m:Nat) (l:Ln):Prop where
 len:l.es.length=k
 d:l.d < m
 who:l.who = .non\/∃n:Nat,l.who = .int (n:Int)
 c0:0<=l.c
 c1:l.c<=2 ^ 30
 e:∀x∈l.es,x.natAbs<=2 ^ 30
theorem i9{js us:Vs}{q:Qs}:∀(t:Bd) (v:PV),t.good js us->v∈t.ps q->(t.HN js v).MP (2520000 * (t.size:Int))
 | .rest,v,_,_=>pF (by simp only[Bd.size];omega) (by simp only[Bd.size];omega)
 | .use z,v,_,_=>pF (by simp only[Bd.size];omega) (by simp only[Bd.size];omega)
 | .HM a,v,_,h=>by
  rw[SM.mp h]
  exact pF (by simp only[Bd.size];omega) (by simp only[Bd.size];omega)
 | .pay x y,v,hg,_=>by
  have C:uQ x y:=hg
  have h1:=C.x1
  have h0:=C.x0
  have y0:=C.low.pos
  have q1:2520 / y<=2520:=Wr _ (by decide)
  have q0:0<=2520 / y:=VG (by decide) (by omega)
  refine pF ?_ (by simp only[Bd.size];omega)
  have:x * (2520 / y)<=1000 * 2520:=WM (by omega) q1 q0 (by decide)
  simp only[Bd.size]
  omega
 | .put z m,v,hg,_=>by
  obtain⟨_,h1,h2⟩:=hg
  exact tM (by simp only[Bd.size];omega) (by simp only[Bd.size];omega) (by simp only[Bd.size];omega) (by simp only[Bd.size];omega)
 | .Hj a b,v,hg,h=>by
  unfold Bd.ps at h
  obtain⟨x,hx,hv⟩:=Uo.mp h
  obtain⟨y,hy,rfl⟩:=SQ.mp hv
  rw[zS]
  exact((i9 a x hg.1 hx).join (i9 b y hg.2 hy) (by omega) (by omega)).mono (by simp only[Bd.size];omega)
 | .HI a b,v,hg,h=>by
  unfold Bd.ps at h
  rcases SI.mp h with h|h
  ·obtain⟨x,hx,rfl⟩:=SQ.mp h
   rw[jL,if_pos rfl]
   exact(i9 a x hg.1 hx).mono (by simp only[Bd.size];omega)
  ·obtain⟨x,hx,rfl⟩:=SQ.mp h
   rw[jL,if_neg (by decide)]
   exact(i9 b x hg.2 hx).mono (by simp only[Bd.size];omega)
 | .Hz z m a b,v,hg,h=>by
  unfold Bd.ps at h
  obtain⟨_,h1,h2,ga,gb⟩:=hg
  rcases SI.mp h with h|h
  ·split at h
   ·obtain⟨x,hx,rfl⟩:=SQ.mp h
    rw[jM,if_pos rfl]
    exact((tM (B:=9) (by omega) (by omega) (by omega) (by omega)).join (i9 a x ga hx) (by omega) (by omega)).mono (by simp only[Bd.size];omega)
   ·cases h
  ·obtain⟨x,hx,rfl⟩:=SQ.mp h
   rw[jM,if_neg (by decide)]
   exact(i9 b x gb hx).mono (by simp only[Bd.size];omega)
def Aj{q:Qs}{t:Bd}{x:PV×Bd}(h:x∈sD q t):(x.1 = .non\/∃n:Nat,x.1 = .int (n:Int))/\x.2.size<=t.size:=by
 rcases Sv.mp h with rfl|h
 ·exact⟨.inl rfl,Ss _⟩
 ·obtain⟨c,hc,rfl⟩:=SQ.mp h
  have hm:=Uk (Ug.mp hc).1
  refine⟨.inr ⟨_,rfl⟩,?_⟩
  obtain⟨a,ha⟩:=pG hm
  have:=(jQ q [] [] t true c.1 (Ug.mp hm).1).2.2
  show c.1.1.KM.size<=_
  rw[ha]at this ⊢
  simp only[Bd.size]at this
  show a.size<=_
  omega
def C_{q:Qs}{js:Vs}{ds:List (Str×Bd)}(hP:HP js ds){l:Ln}(h:l∈vq q js ds):C9 js.length ds.length l:=by
 obtain⟨p,hp,h⟩:=Uo.mp h
 obtain⟨x,hx,h⟩:=Uo.mp h
 obtain⟨v,hv,rfl⟩:=SQ.mp h
 have hm:=Uk hp
 have hlt:=(List.mem_zipIdx hp).2.1
 have gd:=hP.gd _ hm
 have sz:=hP.sz _ hm
 obtain⟨w,ws⟩:=Aj hx
 have gx:=(tQ gd hx).1
 have ok:=bQ x.2 v gx (fy q x.2 v hv).1
 obtain⟨b1,b2⟩:=i9 x.2 v gx hv
 refine⟨?_,?_,w,ok.2.1,?_,fun y hy=>?_⟩
 ·show((x.2.HN js v).2.map _).length=_
  rw[Sm];exact ok.1
 ·show p.2 < _
  omega
 ·show(x.2.HN js v).1<=_
  omega
 ·obtain⟨z,hz,rfl⟩:=SQ.mp hy
  have:=b2 z hz
  omega
theorem qS(q:Qs):∀t:Bd,1<=(t.ps q).length
 | .rest=>Ss _
 | .pay _ _=>Ss _
 | .put _ _=>Ss _
 | .use _=>Ss _
 | .HM _=>Ss _
 | .Hj a b=>by unfold Bd.ps;rw[mE];exact Nat.mul_pos (qS q a) (qS q b)
 | .HI a b=>by unfold Bd.ps;rw[Sn,Sm];have:=qS q a;omega
 | .Hz z m a b=>by unfold Bd.ps;rw[Sn];have:=qS q b;rw[Sm (as:=Bd.ps q b)];omega
def Dc{q:Qs}{js:Vs}{ds:List (Str×Bd)}(h:1<=ds.length):1<=(vq q js ds).length:=by
 cases ds with
 |nil=>cases h
 |cons p r=>
  unfold vq sD
  rw[List.zipIdx_cons,Ur,Ur,Sn,Sn,Sm]
  have:=qS q p.2
  dsimp only
  omega
def xL{S:az}{p:Addr}{bs:List Bool}{Q:bj}(h:S p=some (.lst (bs.map PV.bl)))(q:Q (.bl (bs.any id)) S):oO [.ref p] S Q:=by
 simp only[oO,h,kB]
 exact q
def pM{B:Int}(hB:0 < B):(.tup [.int 0,.int 1]:PV)=cq B 0:=by rw[xE,k_ (Q:=1) (R:=B) (n:=0) (m:=0) (by decide) hB (by simp)]
noncomputable abbrev BB:Int:=2520 * 2520
def dj{n:Nat}(h:n < 2 ^ 400):n < jS:=VQ h (Uu (by decide) (by decide))
def Fs{B n:Int}(h0:0 < B)(h1:B<=BB)(h:n.natAbs<=2 ^ 200):Fq B n:=⟨h0,dj (Tf (show B.natAbs<=2520 * 2520 by have:BB=6350400:=rfl;omega) (by decide)),dj (Tf h (Uu (by decide) (by decide)))⟩
theorem lF{M:Nat}:∀l:List Int,(∀x∈l,x.natAbs<=M)->i8 l<=l.length * M
 |[],_=>by simp[i8]
 |x::r,h=>by
  have:=lF r fun y hy=>h y (by simp[hy])
  have:=h x (by simp)
  unfold i8 at *
  simp only[SH,List.sum_cons,List.length_cons,WI]
  omega
abbrev xM(w:aw):Prop:=∀{S:az} {A a B b:Int} {Q:bj} {E:bK},Fq A a->Fq B b->Q (cq (A * B) (a * b)) S->w [cq A a,cq B b] S Q E
def qT{A a B b:Int}(h:Fq A a)(g:Fq B b):cq (M3.aC a A * M3.aC b B) (M3.aO a A * M3.aO b B)=cq (A * B) (a * b):=by
 have h0:=h.q0
 have g0:=g.q0
 have w1:=M3.bC (t:=a) (b:=A) (by omega)
 have w2:=M3.bC (t:=b) (b:=B) (by omega)
 refine k_ (UY h.sz.2.2 g.sz.2.2) (UY h0 g0) ?_
 rw[show M3.aO a A * M3.aO b B * (A * B)=(M3.aO a A * A) * (M3.aO b B * B) by grind,w1,w2]
 grind
def ve{xf:aw}(Hm:mL xf):xM (aR 2 (fL xf)):=by
 intro S A a B b Q E h g k
 unfold fL
 refine cC ?_
 rw[show ar 2 [cq A a,cq B b]=[some (.tup [.int (M3.aO a A),.int (M3.aC a A)]),some (.tup [.int (M3.aO b B),.int (M3.aC b B)])] from rfl]
 simp only[av,ab,ak,ah,v3,lk,c3,ae,cx,cR,bJ]
 have a1:=h.sz
 have b1:=g.sz
 have:=h.q1;have:=g.q1
 refine⟨(h.ok g).2.2,(h.ok g).2.1,?_⟩
 refine Hm (UY a1.2.2 b1.2.2) (pL (by omega) (by omega)) ?_
 rw[qT h g]
 exact k
abbrev sH(w:aw):Prop:=∀{S:az} {p:Addr} {B:Int} {is ns:Vu} {Q:bj} {E:bK},0 < B->B.natAbs < jS->i8 (iH is ns) < jS->is.length<=1000000->is.length=ns.length->(∀i∈is,i.natAbs < jS)->(∀n∈ns,n.natAbs < jS)->S p=some (.lst (is.map PV.int))->(∀S',Ext S S'->Q (cq B (m6 is ns)) S')->w [.ref p,.tup (ns.map (cq B))] S Q E
def vf{xt xm:aw}(KC:xK xt)(HA:sG xm):sH (aR 2 (i4 xt xm)):=by
 intro S p B is ns Q E hB Oe ha hl he hi hn hp k
 unfold i4
 refine cC ?_
 rw[show ar 2 [.ref p,.tup (ns.map (cq B))]=[some (.ref p),some (.tup (ns.map (cq B)))] from rfl]
 simp only[av,ab,ak,aF,gB,v3,lk,hp]
 rw[show bh (is.map PV.int) (ns.map (cq B))=(is.zip ns).map fun z=>.tup [.int z.1,cq B z.2] by unfold bh;rw[Wh,SV];rfl]
 have hz:(is.zip ns).length<=1000000:=by rw[Um];omega
 refine aQ (fun z:Int×Int=>PV.tup [.int z.1,cq B z.2]) (fun z=>cq B (z.1 * z.2)) (keep:=fun S=>S p=some (.lst (is.map PV.int))) hp (is.zip ns) [] (fun z hz=>⟨_,rfl,fun Q q=>?_⟩) (by rw[Tj,TJ];exact hZ hz) fun pc Ka=>?_
 ·simp only[cS,List.reduceReplicate,Tu,Ti,List.set_cons_zero,List.set_cons_succ,ab,ak,ay,v3,lk,c3]
  have:=UD (a:=z.1) (b:=z.2) hz
  exact HA (hi _ this.1) ⟨hB,Oe,hn _ this.2⟩ q
 have e:(is.zip ns).map (fun z=>cq B (z.1 * z.2))=(iH is ns).map (cq B):=pD (· * ·) (cq B) is ns
 rw[Tq,e]
 refine KC hB Oe ha aa ?_
 rw[dP]
 exact k _ (.new Ka)
noncomputable def iy(L:List Ln)(ns:Vu)(d:Nat):Int:=(((L.zip ns).filter fun x=>decide (x.1.d=d)&&MQ x.1.who).map (·.2)).sum
noncomputable def wj(L:List Ln)(ns:Vu)(j:Nat):Int:=m6 (L.map fun l=>l.es.getD j 0) ns
noncomputable def p7(L:List Ln)(k m:Nat)(ns:Vu):PV:=
 if ns.length≠L.length\/(ns.any fun n=>decide (n < 0))=true then .non
 else if ((List.range k).any fun j=>decide (wj L ns j < 0))=true then .non
 else .tup [.tup ((List.range m).map fun d=>cf (iy L ns d)),cq BB (m6 (L.map (·.c)) ns)]
def Jm(ns:Vu):Prop:=ns.length<=1000000/\∀n∈ns,n.natAbs<=2 ^ 40
structure LsOk (k m:Nat) (L:List Ln):Prop where
 len:L.length<=1000000
 ok:∀l∈L,C9 k m l
def Jm.sum{ns:Vu}(h:Jm ns):i8 ns < jS:=by
 refine dj (Tf (lF ns h.2) ?_)
 have:=h.1
 calc ns.length * 2 ^ 40<=1000000 * 2 ^ 40:=VO _ this
  _ < 2 ^ 400:=by decide
def jU{is ns:Vu}(h:Jm ns)(hi:∀i∈is,i.natAbs<=2 ^ 30):i8 (iH is ns)<=1000000 * 2 ^ 70:=by
 refine Su (lF (M:=2 ^ 70) _ fun x hx=>?_) (VO _ ?_)
 ·obtain⟨i,hi',n,hn,rfl⟩:=jK hx
  rw[VL]
  calc i.natAbs * n.natAbs<=2 ^ 30 * 2 ^ 40:=VN (hi i hi') (h.2 n hn)
   _=2 ^ 70:=by decide
 ·unfold iH
  rw[List.length_zipWith]
  have:=h.1
  omega
def Dd{is ns:Vu}(h:Jm ns)(hi:∀i∈is,i.natAbs<=2 ^ 30):(m6 is ns).natAbs<=2 ^ 200:=by
 rw[<-dP]
 exact Su (jT _) (Su (jU h hi) (by decide))
def xN{k m:Nat}{L:List Ln}(h:LsOk k m L)(j:Nat):∀i∈L.map (fun l=>l.es.getD j 0),i.natAbs<=2 ^ 30:=fun i hi=>by
 obtain⟨l,hl,rfl⟩:=SQ.mp hi
 rw[VP]
 cases e:l.es[j]? with
 |none=>simp
 |some x=>exact(h.ok l hl).e x (SY e)
def AT{k m:Nat}{L:List Ln}(h:LsOk k m L):∀i∈L.map (·.c),i.natAbs<=2 ^ 30:=fun i hi=>by
 obtain⟨l,hl,rfl⟩:=SQ.mp hi
 have:=(h.ok l hl).c0
 have:=(h.ok l hl).c1
 show l.c.natAbs<=_
 omega
def FJ{n:Nat}(h:n<=2 ^ 40):n < jS:=dj (Tf h (by decide))
def E8{n:Nat}(h:n<=2 ^ 30):n < jS:=dj (Tf h (by decide))
def xO(L:List Ln)(ns:Vu):bh (L.map Ln.pv) (ns.map cf)=(L.zip ns).map fun z=>.tup [z.1.pv,cf z.2]:=by
 unfold bh
 rw[Wh,SV]
 rfl
abbrev pN(w:aw):Prop:=∀{S:az} {k m:Nat} {L:List Ln} {ns:Vu} {ds:List PV} {js:PV} {Q:bj} {E:bK},LsOk k m L->Jm ns->ds.length=m->m<=1000->(∀S',Ext S S'->Q (.tup ((List.range m).map fun d=>cf (iy L ns d))) S')->w [.tup [js,.tup ds],.tup (L.map Ln.pv),.tup (ns.map cf)] S Q E
def xP{x:PV}{S:az}{Q:bj}(h:x = .non\/∃n:Nat,x = .int (n:Int))(q:Q (.bl (MQ x)) S):qp false x .non S Q:=by
 rcases h with rfl|⟨n,rfl⟩<;>exact q
def LZ{xt:aw}(KC:xK xt):pN (aR 5 (mh xt)):=by
 intro S k m L ns ds js Q E hL hn hd hm kk
 unfold mh
 refine cC ?_
 rw[show ar 5 [.tup [js,.tup ds],.tup (L.map Ln.pv),.tup (ns.map cf)]=[some (.tup [js,.tup ds]),some (.tup (L.map Ln.pv)),some (.tup (ns.map cf)),none,none] from rfl]
 refine am fun N hN=>?_
 walk_at "x"
 intro pf hpf
 have X1:Ext S (He S pf (.lst [])):=.new hpf
 have f1:(He S pf (.lst [])) pf=some (.lst []):=aa
 generalize He S pf (.lst [])=S1 at X1 f1
 refine hN _ _ (am fun N hN=>?_)
 simp only[bz,kj,al,ak,ah,v3,lk,c3,ae,cR,bG,hd]
 refine⟨by omega,by omega,?_⟩
 rw[Vf,show bM 0 m=(List.range m).map fun i:Nat=>PV.int (i:Int)from TV fun i _=>by rw[Int.zero_add]]
 refine bb (fun done σ S'=>done.length<=m/\Ext S S'/\(∃x4:Option PV,σ=[some (.tup [js,.tup ds]),some (.tup (L.map Ln.pv)),some (.tup (ns.map cf)),some (.ref pf),x4])/\S' pf=some (.lst ((List.range done.length).map fun d=>cf (iy L ns d)))) ⟨Tr _,X1,⟨_,rfl⟩,f1⟩ (fun _ _ _ _=>trivial) ?_ ?_
 ·rintro done x rest σ S2 K e ⟨hdn,X2,⟨x4,rfl⟩,f2⟩ hK
  have hget:((List.range m).map fun i:Nat=>PV.int (i:Int))[done.length]?=some x:=by rw[e];simp
  have hlt:done.length < m:=by have:=T6 List.length e;simp at this;omega
  obtain rfl:x = .int (done.length:Int):=by rw[SA,Up hlt]at hget;exact(Tz hget).symm
  simp only[Tg.put,List.set_cons_zero,List.set_cons_succ,aW,eR,p5,f2,Vz,ab,ak,aF,lv,v3,lk]
  rw[xO]
  refine dZ (fun z:Ln×Int=>PV.tup [z.1.pv,cf z.2]) (fun z=>cf z.2) (fun z=>decide (z.1.d=done.length)&&MQ z.1.who) (keep:=fun _=>True) trivial (L.zip ns) [] (fun z hz=>⟨_,rfl,fun K hK=>?_,fun _ Q q=>?_⟩) (by rw[Tj,TJ,Um];have:=hn.1;exact hZ (by omega)) fun pc Ka=>?_
  ·have hz1:=UD (a:=z.1) (b:=z.2) hz
   have ok:=hL.ok _ hz1.1
   simp only[cS,List.reduceReplicate,SH,Tu,List.cons_append,List.nil_append,List.set_cons_zero,List.set_cons_succ,iP,aP,ah,v3,lk,c3,ae,Ln.pv,cx,cR,br,SJ]
   by_cases h:z.1.d=done.length
   ·have h':decide ((z.1.d:Int)=(done.length:Int))=true:=Tp (by omega)
    rw[h']
    simp only[TH]
    refine xP ok.who ?_
    rw[Tp h,Bool.true_and]at hK
    exact hK
   ·have h':decide ((z.1.d:Int)=(done.length:Int))=false:=Tc (by omega)
    rw[h']
    simp only[SD,Tt]
    rw[Tc h,Bool.false_and]at hK
    exact hK
  ·simp only[cS,List.reduceReplicate,SH,Tu,List.cons_append,List.nil_append,List.set_cons_zero,List.set_cons_succ,v3,lk]
   exact q
  rw[Tq]
  have ee:((L.zip ns).filter fun z=>decide (z.1.d=done.length)&&MQ z.1.who).map (fun z=>cf z.2)=((((L.zip ns).filter fun z=>decide (z.1.d=done.length)&&MQ z.1.who)).map (·.2)).map (cq 2520):=by rw[SV];rfl
  rw[ee]
  have sub:∀x∈(((L.zip ns).filter fun z=>decide (z.1.d=done.length)&&MQ z.1.who)).map (·.2),x.natAbs<=2 ^ 40:=fun x hx=>by
   obtain⟨z,hz,rfl⟩:=SQ.mp hx
   exact hn.2 _ (UD (a:=z.1) (b:=z.2) (Ug.mp hz).1).2
  have P4:((((L.zip ns).filter fun z=>decide (z.1.d=done.length)&&MQ z.1.who)).map (·.2)).length<=1000000:=by
   rw[Sm]
   refine Su (UG _ _) ?_
   rw[Um]
   have:=hn.1
   omega
  refine KC (by decide) (dj (by decide)) (Jm.sum ⟨P4,sub⟩) aa ?_
  have nc:pf≠pc:=fun h=>by rw[<-h,f2]at Ka;cases Ka
  simp only[bf,au nc,f2]
  refine⟨Tf (show _<=1000000 by rw[Sm,UB];omega) (by decide),hK _ _ ⟨by rw[Sn];exact hlt,(X2.trans (.new Ka)).put hpf,⟨_,rfl⟩,?_⟩⟩
  rw[aa,Sn,SK,List.range_succ,Te]
  rfl
 ·rintro σ S2 ⟨hdn,X2,⟨x4,rfl⟩,f2⟩
  refine hN _ _ ?_
  rw[Sm,UB]at f2
  walk_at "x"
  simp only[f2]
  exact kk S2 X2
def xQ{q:Qs}{js:Vs}{ds:List (Str×Bd)}(hP:HP js ds):LsOk js.length ds.length (vq q js ds):=⟨by have:=pJ (q:=q) hP;rw[lE,Sm]at this;exact this,fun l hl=>C_ hP hl⟩
abbrev kJ(w:aw):Prop:=∀{S:az} {js:Vs} {ds:List (Str×Bd)} {ns:Vu} {Q:bj} {E:bK},HP js ds->Jm ns->(∀hs S',LY js ds hs->Ext S S'->Q (p7 (vq (mq hs) js ds) js.length ds.length ns) S')->w [jF js ds,.tup (ns.map cf)] S Q E
theorem any_map{α:Type}(f:α->Bool)(l:List α):(l.map f).any id=l.any f:=by induction l with
 |nil=>rfl
 |cons x r ih=>rw[SH,VH,VH,ih];rfl
def xR{xl xs xw xt xm xx:aw}(KB:kI xl)(Mb:AS xs)(MG:sH xw)(KC:xK xt)(HA:xM xm)(LZ:pN xx):kJ (aR 5 (i5 xl xs xw xt xm xx)):=by
 intro S js ds ns Q E hP hn k
 unfold i5
 refine cC ?_
 rw[show ar 5 [jF js ds,.tup (ns.map cf)]=[some (jF js ds),some (.tup (ns.map cf)),none,none,none] from rfl]
 refine am fun N hN=>?_
 simp only[aq,ab,ak,v3,lk]
 refine KB hP fun hs S1 hf X1=>?_
 replace k:=fun S'=>k hs S' hf
 have hL:=xQ (q:=mq hs) hP
 rw[lE]
 generalize vq (mq hs) js ds=L at hL k
 have jl:js.length<=1000:=by have:=hP.jl;omega
 refine hN _ _ (am fun N hN=>?_)
 simp only[List.set_cons_zero,List.set_cons_succ]
 have z0:(.tup [.int 0,.int 1]:PV)=cq 2520 0:=pM (by decide)
 have F0:Fq 2520 0:=Fs (by decide) (by decide) (by decide)
 simp only[bq,lU,aP,ah,al,ak,v3,lk,bG,br,Sm]
 have bad:(ns.length≠L.length\/(ns.any fun n=>decide (n < 0))=true)->p7 L js.length ds.length ns = .non:=fun h=>by unfold p7;rw[if_pos h]
 by_cases e1':ns.length≠L.length
 ·rw[Tc (show ¬((ns.length:Int)=(L.length:Int)) by omega)]
  simp only[TF,Ui,TH,av,c3]
  have:=k S1 X1
  rw[bad (.inl e1')]at this
  exact this
 have e1:ns.length=L.length:=Decidable.not_not.mp e1'
 rw[Tp (show(ns.length:Int)=(L.length:Int) by omega)]
 simp only[TF,Uv,SD,Tt,aF,aE,v3,lk,bF]
 refine aQ cf (fun n=>.bl (decide (n < 0))) (keep:=fun _=>True) trivial ns [] (fun n hnm=>⟨_,rfl,fun Q q=>?_⟩) (by rw[Tj,TJ];exact hZ hn.1) fun pc Ka=>?_
 ·simp only[cS,List.reduceReplicate,Tu,Ti,List.set_cons_zero,ab,ak,ay,v3,lk,c3]
  rw[z0]
  exact Mb (Fs (by decide) (by decide) (Su (hn.2 n hnm) (by decide))) F0 q
 rw[Tq]
 have X2:Ext S (He S1 pc (.lst (ns.map fun n=>.bl (decide (n < 0))))):=X1.trans (.new Ka)
 have f2:(He S1 pc (.lst (ns.map fun n=>.bl (decide (n < 0))))) pc=some (.lst ((ns.map fun n=>decide (n < 0)).map PV.bl)):=by rw[aa,SV];rfl
 generalize He S1 pc (.lst (ns.map fun n=>.bl (decide (n < 0))))=S2 at X2 f2
 refine xL f2 ?_
 rw[any_map]
 cases e2:ns.any fun n=>decide (n < 0)with
 |true=>
  simp only[TH,av,c3]
  have:=k S2 X2
  rw[bad (.inr e2)]at this
  exact this
 |false=>
  simp only[SD,Tt,aN]
  refine hN _ _ (am fun N hN=>?_)
  simp only[bz,kj,al,ak,ah,v3,lk,c3,ae,jF,cx,bG,Sm]
  refine⟨by omega,by omega,?_⟩
  rw[Vf,show bM 0 js.length=(List.range js.length).map fun i:Nat=>PV.int (i:Int)from TV fun i _=>by rw[Int.zero_add]]
  refine bb (fun done σ S'=>done.length<=js.length/\Ext S S'/\(∃x3:Option PV,σ=[some (jF js ds),some (.tup (ns.map cf)),some (.tup (L.map Ln.pv)),x3,none])/\∀j,j < done.length->¬wj L ns j < 0) ⟨Tr _,X2,⟨_,rfl⟩,fun j hj=>absurd hj (Nat.not_lt_zero _)⟩ (fun _ _ _ _=>trivial) ?_ ?_
  ·rintro done x rest σ S3 K e ⟨hdn,X3,⟨x3,rfl⟩,h3⟩ hK
   have hget:((List.range js.length).map fun i:Nat=>PV.int (i:Int))[done.length]?=some x:=by rw[e];simp
   have hlt:done.length < js.length:=by have:=T6 List.length e;simp at this;omega
   obtain rfl:x = .int (done.length:Int):=by rw[SA,Up hlt]at hget;exact(Tz hget).symm
   simp only[Tg.put,List.set_cons_zero,List.set_cons_succ,bq,aP,ab,ak,aF,aE,v3,lk,bF]
   refine aQ Ln.pv (fun l=>.int (l.es.getD done.length 0)) (keep:=fun _=>True) trivial L [] (fun l hl=>⟨_,rfl,fun Q q=>?_⟩) (by rw[Tj,TJ];exact hZ hL.len) fun pw RY=>?_
   ·simp only[cS,List.reduceReplicate,SH,Tu,List.cons_append,List.nil_append,List.set_cons_zero,List.set_cons_succ,ah,v3,lk,c3,ae,Ln.pv,EW]
    have hle:done.length < l.es.length:=by rw[(hL.ok l hl).len];exact hlt
    rw[show Ii (l.es.map PV.int) (done.length:Int)=some (.int (l.es.getD done.length 0))from b9 (by rw[SA,SR hle,VP,SR hle];rfl)]
    exact q
   rw[Tq,show(L.map fun l=>PV.int (l.es.getD done.length 0))=(L.map fun l=>l.es.getD done.length 0).map PV.int by rw[SV];rfl]
   have X4:Ext S (He S3 pw (.lst ((L.map fun l=>l.es.getD done.length 0).map PV.int))):=X3.trans (.new RY)
   have f4:(He S3 pw (.lst ((L.map fun l=>l.es.getD done.length 0).map PV.int))) pw=some (.lst ((L.map fun l=>l.es.getD done.length 0).map PV.int)):=aa
   generalize He S3 pw (.lst ((L.map fun l=>l.es.getD done.length 0).map PV.int))=S4 at X4 f4
   have hes:=xN hL done.length
   refine MG (B:=2520) (by decide) (dj (by decide)) (dj (Tf (jU hn hes) (by decide))) (by rw[Sm];exact hL.len) (by rw[Sm];exact e1.symm) (fun i hi=>E8 (hes i hi)) (fun n hn'=>FJ (hn.2 n hn')) f4 fun S5 X5=>?_
   simp only[ay,ak,c3]
   rw[z0]
   refine Mb (Fs (by decide) (by decide) (Dd hn hes)) F0 ?_
   have e3:m6 (L.map fun l=>l.es.getD done.length 0) ns=wj L ns done.length:=rfl
   rw[e3]
   by_cases hneg:wj L ns done.length < 0
   ·rw[Tp hneg]
    simp only[TH,av,c3]
    have:=k S5 (X4.trans X5)
    have sv:p7 L js.length ds.length ns = .non:=by
     unfold p7
     rw[if_neg (by rw[e2];simp[e1]),if_pos (U1.mpr ⟨done.length,Uw.mpr hlt,Tp hneg⟩)]
    rw[sv]at this
    exact this
   ·rw[Tc hneg]
    simp only[SD,Tt,aN]
    refine hK _ _ ⟨by rw[Sn];exact hlt,X4.trans X5,⟨_,rfl⟩,fun j hj=>?_⟩
    rw[Sn,SK]at hj
    by_cases hj':j < done.length
    ·exact h3 j hj'
    ·rw[show j=done.length by omega];exact hneg
  ·rintro σ S3 ⟨hdn,X3,⟨x3,rfl⟩,h3⟩
   rw[Sm,UB]at h3
   refine hN _ _ (am fun N hN=>?_)
   simp only[aq,ab,ak,aF,lv,v3,lk]
   rw[xO]
   refine aQ (fun z:Ln×Int=>PV.tup [z.1.pv,cf z.2]) (fun z=>cq BB (z.1.c * z.2)) (keep:=fun _=>True) trivial (L.zip ns) [] (fun z hz=>⟨_,rfl,fun Q q=>?_⟩) (by rw[Tj,TJ,Um];have:=hn.1;exact hZ (by omega)) fun pt RZ=>?_
   ·have hz1:=UD (a:=z.1) (b:=z.2) hz
    have ok:=hL.ok _ hz1.1
    simp only[cS,List.reduceReplicate,Tu,Ti,List.set_cons_zero,List.set_cons_succ,ah,ab,ak,v3,lk,c3,ae,Ln.pv,tI]
    refine HA (Fs (by decide) (by decide) ?_) (Fs (by decide) (by decide) (Su (hn.2 _ hz1.2) (by decide))) q
    have:=ok.c0;have:=ok.c1
    exact Su (show z.1.c.natAbs<=2 ^ 30 by omega) (by decide)
   rw[Tq]
   have e5:(L.zip ns).map (fun z=>cq BB (z.1.c * z.2))=(iH (L.map (·.c)) ns).map (cq BB):=by
    unfold iH
    rw[List.zipWith_map_left]
    exact pD (fun(l:Ln) (n:Int)=>l.c * n) (cq BB) L ns
   rw[e5]
   have hcs:=AT hL
   refine KC (by decide) (dj (by decide)) (dj (Tf (jU hn hcs) (by decide))) aa ?_
   rw[dP]
   refine hN _ _ ?_
   simp only[av,ay,ak,ab,v3,lk,jF,List.set_cons_zero,List.set_cons_succ]
   refine LZ hL hn (by rw[Sm]) hP.dl fun S5 X5=>?_
   have:=k S5 ((X3.trans (.new RZ)).trans X5)
   have sv:p7 L js.length ds.length ns = .tup [.tup ((List.range ds.length).map fun d=>cf (iy L ns d)),cq BB (m6 (L.map (·.c)) ns)]:=by
    unfold p7
    rw[if_neg (by rw[e2];simp[e1]),if_neg]
    intro h
    obtain⟨j,hj,hw⟩:=U1.mp h
    exact h3 j (Uw.mp hj) (WU hw)
   rw[sv]at this
   exact this
theorem ot{α:Type}{g:Tg}{te:bc}{σ':cF}{keep:az->Prop}{fin:List PV->az->Prop}(enc f:α->PV){S0:az}(hk:∀S,Ext S0 S->keep S):∀(xs:List α) (ys:List PV) (S:az),Ext S0 S->ys.length+xs.length<=1000000->
  (∀x∈xs,∀S,Ext S0 S->∃σ2,g.put (enc x) σ'=some σ2/\∀K:bj,(∀S',Ext S S'->K (f x) S')->te σ2 S K dW)->
  (∀S',Ext S0 S'->fin (ys++xs.map f) S')->dA g bH te σ' keep fin (xs.map enc) ys S
 |[],ys,S,X,hl,_,hf=>⟨hk S X,hZ (by simpa using hl),by simpa using hf S X⟩
 |x::r,ys,S,X,hl,h,hf=>by
  obtain⟨σ2,e,h1⟩:=h x (by simp) S X
  refine⟨hk S X,hZ (by simp at hl ⊢;omega),?_⟩
  rw[e]
  simp only[bH,TH]
  refine h1 _ fun S' X'=>?_
  exact ot enc f hk r (ys++[f x]) S' (X.trans X') (by simp at hl ⊢;omega) (fun y hy=>h y (by simp[hy])) fun S2 X2=>by simpa using hf S2 X2
inductive Al:Nat->PV->Prop
 |non {n:Nat}:Al (n+1) .non
 |int {n:Nat} (i:Int):Al (n+1) (.int i)
 |tup {n:Nat} {xs:List PV} (l:xs.length<=1000000) (h:∀x∈xs,Al n x):Al (n+1) (.tup xs)
abbrev pO(n:Nat)(f:aw):Prop:=∀{S:az} {v:PV} {Q:bj} {E:bK},Al n v->(∀S',Ext S S'->Q (.bl true) S')->f [v,v] S Q E
def tW{s0:aw}{S:az}{v:PV}{t:String}{Q:bj}(h:yA S v=some t)(hn:oP t "tuple" = false)(q:∀Q2:bj,Q2 (.bl true) S->br false v v S Q2)(k:Q (.bl true) S) :
  CL.cL s0 { nx:=fun _ S'=>Q .non S',rt:=Q,ex:=dW } [some v,some v] S:=by
 unfold CL.cL
 refine am fun N hN=>?_
 simp only[bq,lU,aP,al,ak,v3,lk,c3]
 refine fY h (by decide +kernel) ?_
 rw[hn]
 simp only[SD,Tt]
 refine fY h (by decide +kernel) ?_
 rw[hn]
 simp only[SD,Tt,aN]
 refine hN _ _ ?_
 simp only[av,cH,ah,al,ak,v3,lk,c3]
 refine q _ ?_
 dsimp only
 rw[if_pos rfl]
 refine fY h (by decide +kernel) (fY h (by decide +kernel) ?_)
 rw[show ∀(b:Bool) (Q3:bj),br false (.bl b) (.bl b) S Q3=Q3 (.bl (false != decide (b=b))) S from fun b Q3=>rfl]
 rw[SJ,Tp rfl]
 exact k
def vg(xs:List PV):bh xs xs=xs.map fun x=>.tup [x,x]:=by
 unfold bh
 induction xs with
 |nil=>rfl
 |cons x r ih=>simp only[List.zip_cons_cons,SH];rw[ih]
def Mc{s0:aw}(n:Nat)(ih:pO n s0):pO (n+1) (aR 2 (CL.cL s0)):=by
 intro S v Q E h k
 refine cC ?_
 rw[show ar 2 [v,v]=[some v,some v] from rfl]
 cases h with
 |non=>exact tW (t:="NoneType") rfl (by decide +kernel) (fun Q2 q=>⟨.none,.none,.non,.non,by decide +kernel,by decide +kernel,by decide +kernel,q⟩) (k _ .refl)
 |int i=>exact tW (t:="int") rfl (by decide +kernel) (fun Q2 q=>by simp only[br,UM];exact q) (k _ .refl)
 |@tup _ xs l hx=>
  unfold CL.cL
  refine am fun N hN=>?_
  have ht:yA S (.tup xs)=some "tuple":=rfl
  have hi:oP "tuple" "tuple" = true:=by decide +kernel
  simp only[bq,lU,aP,al,ak,v3,lk,c3]
  refine fY ht (by decide +kernel) ?_
  rw[hi]
  simp only[TH]
  refine am fun N2 JV=>?_
  simp only[bq,lU,ni,aP,ah,al,ak,v3,lk,c3]
  refine fY ht (by decide +kernel) ?_
  rw[hi]
  simp only[Uv,SD,Tt]
  refine fY ht (by decide +kernel) ?_
  rw[hi]
  simp only[Uv,SD,Tt,bG,br,UM,TF,aN]
  refine JV _ _ ?_
  simp only[av,al,ak,aF,gB,v3,lk]
  rw[vg]
  refine ot (S0:=S) (fun x:PV=>.tup [x,x]) (fun _=>.bl true) (fun _ _=>trivial) xs [] S .refl (by simpa using l) (fun x hm S2 X2=>⟨_,rfl,fun K kk=>?_⟩) fun S2 X2 p2 hp2=>?_
  ·simp only[cS,List.reduceReplicate,Tu,Ti,List.set_cons_zero,List.set_cons_succ,ab,ak,v3,lk]
   exact ih (hx x hm) kk
  ·have f:(He S2 p2 (.lst ([]++xs.map fun _=>.bl true))) p2=some (.lst ((xs.map fun _=>true).map PV.bl)):=by rw[aa,Tq,SV];rfl
   simp only[zv,f,kB]
   rw[show((xs.map fun _=>true).all id)=true by simp]
   exact k _ (X2.trans (.new hp2))
def AU{n:Nat}(B a:Int):Al (n+2) (cq B a):=.tup (by simp) fun x hx=>by
 rcases Sv.mp hx with rfl|hx
 ·exact .int _
 ·rw[SM.mp hx];exact .int _
end CL
namespace CW
open PySem L2 L3 Wd
open C
def E9{xp:aw}(Hq:qR xp){S:az}{B f m c d:Int}{Q:bj}{E:bK}(hf:Fq B f)(hd:0 < d)(h1:c.natAbs<=jS)(h2:d.natAbs < jS)(e:c * B=m * d)(k:Q (cq B (f+m)) S):xp [cq B f,.tup [.int c,.int d]] S Q E:=by
 have sz:=hf.sz
 have:=hf.q1;have:=hf.n1;have q0:=hf.q0
 refine Hq sz.2.2 hd (by omega) (by omega) h1 h2 ?_
 have w:=M3.bC (t:=f) (b:=B) (by omega)
 rw[k_ (m:=f+m) (R:=B) (UY sz.2.2 hd) q0 (by
  calc (M3.aO f B * d+c * M3.aC f B) * B=(M3.aO f B * B) * d+(c * B) * M3.aC f B:=by grind
   _=_:=by rw[w,e];grind)]
 exact k
end CW
namespace G41
open PySem L2 L3
noncomputable def a_(i:Nat):Stmt:=PySem.Challenge.pw_dueworth_k41_what_shares_show.main.body.getD i (.Pass ⟨0,0,0,0⟩)
structure Txt (P:Program) (w:World) (K:Vo) (mg:Vr):Prop where
 o_common:aY K mg "common" (a_ 1) ["one","other"]
 o_fraction:aY K mg "fraction" (a_ 2) ["top","bottom"]
 o_plus:aY K mg "plus" (a_ 3) ["one","other"]
 o_times:aY K mg "times" (a_ 4) ["one","other"]
 o_less:aY K mg "less" (a_ 5) ["one","other"]
 o_together:aY K mg "together" (a_ 6) ["fractions"]
 o_worth_of:aY K mg "worth_of" (a_ 7) ["numbers","fractions"]
 o_sides_of:aY K mg "sides_of" (a_ 10) ["body"]
 o_parts_in:aY K mg "parts_in" (a_ 11) ["body"]
 o_parts:aY K mg "parts" (a_ 12) ["body"]
 o_chosen:aY K mg "chosen" (a_ 14) ["body","trace"]
 o_plain_trace:aY K mg "plain_trace" (a_ 15) ["body"]
 o_led_to_part:aY K mg "led_to_part" (a_ 16) ["body","place","trace"]
 o_parts_reached:qA K mg "parts_reached" (a_ 18) ["body","names","reached"]
 o_next_step:aY K mg "next_step" (a_ 19) ["house","names"]
 o_filling:aY K mg "filling" (a_ 20) ["house"]
 o_fillable:aY K mg "fillable" (a_ 21) ["house"]
 o_passes_of_then:aY K mg "passes_of_then" (a_ 23) ["body","names"]
 o_passes_of:aY K mg "passes_of" (a_ 24) ["body","names"]
 o_oftens_come_to:aY K mg "oftens_come_to" (a_ 25) ["body","names"]
 o_things_of:aY K mg "things_of" (a_ 27) ["jars","name","things"]
 o_added:aY K mg "added" (a_ 28) ["one","other"]
 o_multiplied:aY K mg "multiplied" (a_ 29) ["one","many"]
 o_no_tally:aY K mg "no_tally" (a_ 30) ["jars"]
 o_behind:aY K mg "behind" (a_ 31) ["one","other"]
 o_again:aY K mg "again" (a_ 32) ["one","many"]
 o_tally_of_often:aY K mg "tally_of_often" (a_ 33) ["jars","body","goings"]
 o_tally_of_take:aY K mg "tally_of_take" (a_ 34) ["jars","body"]
 o_tally_of:aY K mg "tally_of" (a_ 35) ["jars","body","trace"]
 o_numbered_bodies:aY K mg "numbered_bodies" (a_ 37) ["body","names"]
 o_lines:aY K mg "lines" (a_ 38) ["house"]
 o_mix_of:aY K mg "mix_of" (a_ 40) ["house","found","shares"]
 o_shown_by:aY K mg "shown_by" (a_ 41) ["house","shares"]
 o__law_deal:aY K mg "_law_deal" (a_ 43) ["_law_script","_law_base"]
 o__law_draw:aY K mg "_law_draw" (a_ 44) ["_law_deal_here","_law_many"]
 o__law_words:aY K mg "_law_words" (a_ 45) ["_law_deal_here","_law_many"]
 o__law_low:aY K mg "_law_low" (a_ 46) ["_law_top","_law_bottom"]
 o__law_plus:aY K mg "_law_plus" (a_ 47) ["_law_one_here","_law_other"]
 o__law_times:aY K mg "_law_times" (a_ 48) ["_law_one_here","_law_many"]
 o__law_cost:aY K mg "_law_cost" (a_ 49) ["_law_deal_here"]
 o__law_leaf:aY K mg "_law_leaf" (a_ 50) ["_law_deal_here","_law_jars"]
 o__law_body:aY K mg "_law_body" (a_ 51) ["_law_deal_here","_law_jars","_law_left","_law_down"]
 o__law_pass_count:aY K mg "_law_pass_count" (a_ 52) ["_law_body_here"]
 o__law_round_count:aY K mg "_law_round_count" (a_ 53) ["_law_body_here"]
 o__law_deed_body:aY K mg "_law_deed_body" (a_ 54) ["_law_deal_here","_law_jars","_law_room","_law_most"]
 o__law_house:aY K mg "_law_house" (a_ 55) ["_law_deal_here","_law_most_jars","_law_most_deeds","_law_room"]
 o__law_puts:aY K mg "_law_puts" (a_ 56) ["_law_body_here","_law_held","_law_found"]
 o__law_fillable:aY K mg "_law_fillable" (a_ 57) ["_law_house_here"]
 o__law_alike:aY K mg "_law_alike" (a_ 58) ["_law_found","_law_due"]
 o__law_one:aY K mg "_law_one" (a_ 59) ["_law_body_here","_law_jars"]
 o__law_behind:aY K mg "_law_behind" (a_ 60) ["_law_some","_law_side","_law_jars","_law_taken"]
 o__law_passes:aY K mg "_law_passes" (a_ 61) ["_law_body_here","_law_jars","_law_held"]
 o__law_rounds:aY K mg "_law_rounds" (a_ 62) ["_law_body_here","_law_jars","_law_held","_law_number","_law_live"]
 o__law_lines:aY K mg "_law_lines" (a_ 63) ["_law_house_here"]
 o__law_shown:aY K mg "_law_shown" (a_ 64) ["_law_rows","_law_jars","_law_deeds","_law_shares"]
 o__law_share:aY K mg "_law_share" (a_ 65) ["_law_deal_here"]
 o__law_drawn:aY K mg "_law_drawn" (a_ 66) ["_law_deal_here","_law_rows"]
 o__law_filled_up:aY K mg "_law_filled_up" (a_ 67) ["_law_deal_here","_law_rows","_law_shares"]
 o__law_spoilt:aY K mg "_law_spoilt" (a_ 68) ["_law_deal_here","_law_shares"]
 Of:mg "abs" = none
 Og:mg "all" = none
 MH:mg "any" = none
 MI:mg "bool" = none
 H_:mg "enumerate" = none
 Oh:mg "int" = none
 HF:mg "isinstance" = none
 Hx:mg "len" = none
 L0:mg "list" = none
 Me:mg "max" = none
 Oi:mg "min" = none
 JM:mg "range" = none
 L4:mg "reversed" = none
 Hn:mg "tuple" = none
 JG:mg "zip" = none
 Lf:∃a,mg "SIDES_FROM" = some (.ref a)/\KD P w K a (C.k_SIDES_FROM.map fun kv=>(kv.1,V.int kv.2))
section
variable {P:Program} {w:World} {K:Vo} {mg:Vr} {base:Heap}
def E_:(["number","one"]:Vs).Nodup:=by decide +kernel
def Gy:(["step","house"]:Vs).Nodup:=by decide +kernel
def Gz:(["other","one"]:Vs).Nodup:=by decide +kernel
def Fa:(["trace"]:Vs).Nodup:=by decide +kernel
def GA:(["found"]:Vs).Nodup:=by decide +kernel
def Fb:(["number","found"]:Vs).Nodup:=by decide +kernel
def GB:(["jar","name","things"]:Vs).Nodup:=by decide +kernel
def Fd:(["left","right"]:Vs).Nodup:=by decide +kernel
def GC:(["number","many"]:Vs).Nodup:=by decide +kernel
def De:(["effect","first","second"]:Vs).Nodup:=by decide +kernel
def AV:(["effect","asked","many"]:Vs).Nodup:=by decide +kernel
def AW:(["line","share","d"]:Vs).Nodup:=by decide +kernel
def Fe:(["share"]:Vs).Nodup:=by decide +kernel
def Ff:(["line","jar"]:Vs).Nodup:=by decide +kernel
def AX:(["line","share"]:Vs).Nodup:=by decide +kernel
def xS:(["_law_one_here"]:Vs).Nodup:=by decide +kernel
def Fg:(["_law_k","_law_deal_here","_law_letters"]:Vs).Nodup:=by decide +kernel
def Fh:(["_law_j","_law_deal_here","_law_letters"]:Vs).Nodup:=by decide +kernel
def Fi:(["_law_k","_law_deal_here","_law_first","_law_jars","_law_many","_law_room","_law_words_here"]:Vs).Nodup:=by decide +kernel
def AY:(["_law_one_here","_law_other"]:Vs).Nodup:=by decide +kernel
def AZ:(["_law_one_here","_law_more"]:Vs).Nodup:=by decide +kernel
def A0:(["_law_here","_law_there"]:Vs).Nodup:=by decide +kernel
def Fj:(["_law_one_here","_law_number"]:Vs).Nodup:=by decide +kernel
def A1:(["_law_one_here","_law_d"]:Vs).Nodup:=by decide +kernel
def Fk:(["_law_share_here"]:Vs).Nodup:=by decide +kernel
def A2:(["_law_one_here","_law_more","_law_share_here"]:Vs).Nodup:=by decide +kernel
def qU:aw:=aR 3 C.gT
def vh(T:Txt P w K mg):Hv P w K mg base 1 "common" 2 qU:=cQ ["one","other","left"] T.o_common (fun _ _ _ _ _ _ _ hr nd=>(ad (jy SX (DB hr (ac 1) af) (ad (s4 2 nd (aB gA (ac 0) (ac 1)))
  (ad (s4 0 nd (ac 1))
  (aj (s4 1 nd (ac 2))))))
  (aj (ap (cB Ez T.Of (l1 (ac 0))))))) rfl
def fZ:aw:=aR 3 (C.dX qU)
def ld(T:Txt P w K mg):Hv P w K mg base 2 "fraction" 2 fZ:=cQ ["top","bottom","part"] T.o_fraction (fun _ _ _ _ _ _ _ hr nd=>(ad (s4 2 nd (c4 (vh T) hr (lc (ac 0) (l1 (ac 1)))))
  (ad (ba (bv ko (ac 1) af (aV _)) (aj (s4 2 nd (gD bU (ac 2)))) aK)
  (aj (ap (ax (lc (aB kn (ac 0) (ac 2)) (l1 (aB kn (ac 1) (ac 2)))))))))) rfl
def mN:aw:=aR 2 (C.dY fZ)
def tX(T:Txt P w K mg):Hv P w K mg base 3 "plus" 2 mN:=cQ ["one","other"] T.o_plus (fun _ _ _ _ _ _ _ hr nd=>(aj (ap (c4 (ld T) hr (lc (aB aJ (aB bg (aH hr (ac 0)) (aH hr (ac 1))) (aB bg (aH hr (ac 1)) (aH hr (ac 0)))) (l1 (aB bg (aH hr (ac 0)) (aH hr (ac 1))))))))) rfl
def ix:aw:=aR 2 (C.fL fZ)
def mO(T:Txt P w K mg):Hv P w K mg base 3 "times" 2 ix:=cQ ["one","other"] T.o_times (fun _ _ _ _ _ _ _ hr nd=>(aj (ap (c4 (ld T) hr (lc (aB bg (aH hr (ac 0)) (aH hr (ac 1))) (l1 (aB bg (aH hr (ac 0)) (aH hr (ac 1))))))))) rfl
def xT:aw:=aR 2 CW.sr
def tY(T:Txt P w K mg):Hv P w K mg base 1 "less" 2 xT:=cQ ["one","other"] T.o_less (fun _ _ _ _ _ _ _ hr nd=>(aj (ap (fi ko (aB bg (aH hr (ac 0)) (aH hr (ac 1))) (aB bg (aH hr (ac 1)) (aH hr (ac 0))) (aV _))))) rfl
def d4:aw:=aR 3 (CW.i0 mN)
def h_(T:Txt P w K mg):Hv P w K mg base 4 "together" 1 d4:=cQ ["fractions","found","one"] T.o_together (fun _ _ _ _ _ _ _ hr nd=>(ad (s4 1 nd (ax (lc af (l1 af))))
  (ad (bZ SX rfl (bA (ac 0)) (gn 2 nd) (aj (s4 1 nd (c4 (tX T) hr (lc (ac 1) (l1 (ac 2)))))))
  (aj (ap (ac 1)))))) rfl
def i_:aw:=aR 2 (CL.i4 d4 ix)
def qV(T:Txt P w K mg):Hv P w K mg base 5 "worth_of" 2 i_:=cQ ["numbers","fractions"] T.o_worth_of (fun _ _ _ _ _ _ _ hr nd=>(aj (ap (c4 (h_ T) hr (l1 (m5 [] 2 [] ["number","one"] (me rfl rfl rfl T.JG (by decide +kernel) (lc (ac 0) (l1 (ac 1)))) (fun _=>(nZ rfl (aL (gn 0 E_) (aL (gn 1 E_) cA)))) (fun _=>bO) (fun _=>(c4 (mO T) hr (lc (ax (lc (ac 0) (l1 af))) (l1 (ac 1))))))))))) rfl
def f8:aw:=aR 1 C.iU
def lg(T:Txt P w K mg):Hv P w K mg base 1 "sides_of" 1 f8:=cQ ["body"] T.o_sides_of (fun _ _ _ _ _ _ _ hr nd=>(aj (ap (fH (ac 0) (fG (G6 hr T.Lf (aH hr (ac 0)) (cB bS T.Hx (l1 (ac 0))))) lW)))) rfl
noncomputable def f9:Nat->aw
 |0=>o8
 |n+1=>aR 3 (C.iV f8 (f9 n))
def mP:aw:=f9 12
def qW(T:Txt P w K mg):Hv P w K mg base 13 "parts_in" 1 mP:=mf (b:=1) (r:=f9) T.o_parts_in (fun n R0=>cQ ["body","found","side"] T.o_parts_in (fun _ _ _ _ _ _ _ hr nd=>(ad (s4 1 nd (bw (l1 (ac 0))))
  (ad (bZ SX rfl (bA (c4 (lg T) hr (l1 (ac 0)))) (gn 2 nd) (aj (bL (o9 ft gK (ac 1) (l1 (c4 R0 hr (l1 (ac 2))))))))
  (aj (ap (ac 1)))))) rfl) rfl rfl 12
def pP:aw:=aR 1 (C.oY mP)
def xU(T:Txt P w K mg):Hv P w K mg base 14 "parts" 1 pP:=cQ ["body"] T.o_parts (fun _ _ _ _ _ _ _ hr nd=>(aj (ap (cB bS T.Hx (l1 (c4 (qW T) hr (l1 (ac 0)))))))) rfl
def mQ:aw:=aR 2 C.l9
def vi(T:Txt P w K mg):Hv P w K mg base 1 "chosen" 2 mQ:=cQ ["body","trace"] T.o_chosen (fun _ _ _ _ _ _ _ hr nd=>(aj (ap (gC hr (ac 0) (aB aJ (gD bU af) (aH hr (ac 1))))))) rfl
noncomputable def dr:Nat->aw
 |0=>o8
 |n+1=>aR 1 (C.eU (dr n))
def iI:aw:=dr 12
def ie(T:Txt P w K mg):Hv P w K mg base 12 "plain_trace" 1 iI:=mf (b:=0) (r:=dr) T.o_plain_trace (fun n R0=>cQ ["body"] T.o_plain_trace (fun _ _ _ _ _ _ _ hr nd=>(ad (ba (fB hr (aH hr (ac 0)) aA) (aj (ap (ax (lc (c4 R0 hr (l1 (aH hr (ac 0)))) (l1 (c4 R0 hr (l1 (aH hr (ac 0))))))))) aK)
  (ad (ba (fB hr (aH hr (ac 0)) aA) (aj (ap (ax (lc af (l1 (c4 R0 hr (l1 (aH hr (ac 0))))))))) aK)
  (ad (ba (fB hr (aH hr (ac 0)) aA) (aj (ap (ax (lc af (l1 (c4 R0 hr (l1 (aH hr (ac 0))))))))) aK)
  (aj (ap (ax cG))))))) rfl) rfl rfl 12
noncomputable def du:Nat->aw
 |0=>o8
 |n+1=>aR 8 (C.eV pP iI (du n))
def iJ:aw:=du 12
def mR(T:Txt P w K mg):Hv P w K mg base 26 "led_to_part" 3 iJ:=mf (b:=14) (r:=du) T.o_led_to_part (fun n R0=>cQ ["body","place","trace","one","other","second","side","inner"] T.o_led_to_part (fun _ _ _ _ _ _ _ hr nd=>(ad (ba (fB hr (ac 1) af) (aj (ap (ac 2))) aK)
  (ad (ba (fB hr (aH hr (ac 0)) aA) (aj (ap (ax (l1 (ax (lc af (l1 (c4 R0 hr (lc (aH hr (ac 0)) (lc (aB dJ (ac 1) af) (l1 (ac 2)))))))))))) aK)
  (ad (s4 3 nd (gC hr (ac 0) (gD bU af)))
  (ad (s4 4 nd (gC hr (ac 0) (gD bU af)))
  (ad (s4 5 nd (aB aJ af (c4 (xU T) hr (l1 (ac 3)))))
  (ad (s4 6 nd (wn (bv ko (ac 1) (ac 5) (aV _)) af af))
  (ad (s4 7 nd (wn (fB hr (ac 6) af) (c4 R0 hr (lc (ac 3) (lc (aB dJ (ac 1) af) (l1 (ac 2))))) (c4 R0 hr (lc (ac 4) (lc (aB dJ (ac 1) (ac 5)) (l1 (ac 2)))))))
  (ad (ba (DB hr (aH hr (ac 0)) aA) (aj (ap (ax (lc (ac 6) (l1 (ac 7)))))) aK)
  (ad (ba (fB hr (ac 6) af) (aj (ap (ax (lc (ac 7) (l1 (c4 (ie T) hr (l1 (ac 4)))))))) aK)
  (aj (ap (ax (lc (c4 (ie T) hr (l1 (ac 3))) (l1 (ac 7)))))))))))))))) rfl) rfl rfl 12
noncomputable def cu:Nat->aw
 |0=>o8
 |n+1=>aR 7 (C.dF f8 (cu n))
def dH:aw:=cu 12
def fz(T:Txt P w K mg):M1 P w K mg base 13 "parts_reached" 3 dH:=EQ (b:=1) (r:=cu) T.o_parts_reached (fun n R0=>G7 ["body","names","reached","found","number","side","shut"] T.o_parts_reached (fun _ _ _ _ _ _ _ hr nd=>(ad (s4 3 nd (bw (l1 (ax (lc (ac 0) (l1 (ac 2)))))))
  (ad (bZ SX rfl (kl rfl rfl T.H_ (by decide +kernel) (l1 (c4 (lg T) hr (l1 (ac 0))))) (nZ rfl (aL (gn 4 nd) (aL (gn 5 nd) cA))) (ad (s4 6 nd (qo (fi (kY (iG hr)) (aH hr (ac 0)) aA (aV _)) (qo (fi (kY (iG hr)) (ac 4) af (aV _)) (qm (fi (gJ (fq hr)) (aH hr (ac 0)) (ac 1) rfl)))))
  (aj (bL (o9 ft gK (ac 3) (l1 (G8 R0 hr (lc (ac 5) (lc (ac 1) (l1 (qo (ac 2) (qm (Ep (ac 6))))))))))))))
  (aj (ap (ac 3)))))) rfl) rfl rfl 12
def ig:aw:=aR 7 (C.gX dH iJ)
def jV(T:Txt P w K mg):Hv P w K mg base 27 "next_step" 2 ig:=cQ ["house","names","d","deed","place","found","part"] T.o_next_step (fun _ _ _ _ _ _ _ hr nd=>(ad (bZ SX rfl (kl rfl rfl T.H_ (by decide +kernel) (l1 (aH hr (ac 0)))) (nZ rfl (aL (gn 2 nd) (aL (gn 3 nd) cA))) (aj (bZ SX rfl (kl rfl rfl T.H_ (by decide +kernel) (l1 (cD (fz T) hr (lc (aH hr (ac 3)) (l1 (ac 1)))))) (nZ rfl (aL (gn 4 nd) (aL (gn 5 nd) cA))) (ad (s4 6 nd (aH hr (ac 5)))
  (aj (ba (rB (lV (eA (aH hr (ac 5))) (lV (fB hr (aH hr (ac 6)) aA) (kg (bv (gJ (fq hr)) (aH hr (ac 6)) (ac 1) rfl))))) (aj (ap (ax (lc (wM VY Vn VZ md rfl (aH hr (ac 0)) (l1 (aH hr (ac 6)))) (lc (ac 2) (l1 (c4 (mR T) hr (lc (aH hr (ac 3)) (lc (ac 4) (l1 (ax cG))))))))))) aK))))))
  (aj (ap eu)))) rfl
def ou:aw:=aR 4 (C.ku ig)
def sI(T:Txt P w K mg):Hv P w K mg base 28 "filling" 1 ou:=cQ ["house","found","names","step"] T.o_filling (fun _ _ _ _ _ _ _ hr nd=>(ad (s4 1 nd (bw cG))
  (ad (s4 2 nd (bw cG))
  (ad (s4 3 nd (c4 (jV T) hr (lc (ac 0) (l1 (ac 2)))))
  (ad (jy SX (bv qq (ac 3) eu (aV _)) (ad (bL (o9 cj cI (ac 1) (l1 (ac 3))))
  (ad (bL (o9 cj cI (ac 2) (l1 (gC hr (aH hr (ac 0)) (aH hr (ac 3))))))
  (aj (s4 3 nd (c4 (jV T) hr (lc (ac 0) (l1 (ac 2)))))))))
  (aj (ap (ac 1)))))))) rfl
def ja:aw:=aR 1 (C.iZ ou)
def qX(T:Txt P w K mg):Hv P w K mg base 29 "fillable" 1 ja:=cQ ["house"] T.o_fillable (fun _ _ _ _ _ _ _ hr nd=>(aj (ap (m5 ["house"] 1 [0] ["step","house"] (bA (c4 (sI T) hr (l1 (ac 0)))) (fun _=>(gn 0 Gy)) (fun _=>bO) (fun _=>(gC hr (aH hr (ac 1)) (aH hr (ac 0)))))))) rfl
noncomputable def bm:Nat->aw×aw
 |0=>(o8,o8)
 |n+1=>(aR 5 (C.ci (bm n).1 (bm n).2),aR 3 (C.eC (bm n).1 (bm n).2))
def cZ(n:Nat):aw:=(bm n).1
def ij(n:Nat):aw:=(bm n).2
def jW(T:Txt P w K mg)(n:Nat){s0 s1:aw}(R0:Hv P w K mg base (0+n) "passes_of_then" 2 s0)(R1:Hv P w K mg base (0+n) "passes_of" 2 s1):Hv P w K mg base (0+n+1) "passes_of_then" 2 (aR 5 (C.ci s0 s1)):=cQ ["body","names","found","seconds","one"] T.o_passes_of_then (fun _ _ _ _ _ _ _ hr nd=>(ad (s4 2 nd (bw cG))
  (ad (s4 3 nd (c4 R1 hr (lc (aH hr (ac 0)) (l1 (ac 1)))))
  (ad (bZ SX rfl (bA (c4 R1 hr (lc (aH hr (ac 0)) (l1 (ac 1))))) (gn 4 nd) (aj (bL (o9 ft gK (ac 2) (l1 (m5 ["one"] 1 [4] ["other","one"] (bA (ac 3)) (fun _=>(gn 0 Gz)) (fun _=>bO) (fun _=>(ax (lc (ac 1) (l1 (ac 0)))))))))))
  (aj (ap (ac 2))))))) rfl
def pQ(T:Txt P w K mg)(n:Nat){s0 s1:aw}(R0:Hv P w K mg base (0+n) "passes_of_then" 2 s0)(R1:Hv P w K mg base (0+n) "passes_of" 2 s1):Hv P w K mg base (0+n+1) "passes_of" 2 (aR 3 (C.eC s0 s1)):=cQ ["body","names","others"] T.o_passes_of (fun _ _ _ _ _ _ _ hr nd=>(ad (ba (fB hr (aH hr (ac 0)) aA) (aj (ap (c4 R0 hr (lc (ac 0) (l1 (ac 1)))))) aK)
  (ad (ba (bv (gJ (fq hr)) (aH hr (ac 0)) (ax (lc aA (l1 aA))) rfl) (aj (ap (bw (l1 (ax cG))))) aK)
  (ad (AQ [] 1 [] ["trace"] 2 nd (bA (c4 R1 hr (lc (gC hr (ac 0) (gD bU af)) (l1 (ac 1))))) (fun _=>(gn 0 Fa)) (fun _=>bO) (fun _=>(ax (lc af (l1 (ac 0))))))
  (ad (ba (rB (lV (fB hr (aH hr (ac 0)) aA) (kg (bv (gJ (fq hr)) (aH hr (ac 0)) (ac 1) rfl)))) (aj (ap (ac 2))) aK)
  (aj (ap (aB aJ (m5 [] 1 [] ["trace"] (bA (c4 R1 hr (lc (gC hr (ac 0) (gD bU af)) (l1 (ac 1))))) (fun _=>(gn 0 Fa)) (fun _=>bO) (fun _=>(ax (lc af (l1 (ac 0)))))) (ac 2))))))))) rfl
theorem d5(T:Txt P w K mg):∀n:Nat,Hv P w K mg base (0+n) "passes_of_then" 2 (cZ n)/\Hv P w K mg base (0+n) "passes_of" 2 (ij n)
 |0=>⟨.zero T.o_passes_of_then,.zero T.o_passes_of⟩
 |n+1=>let ⟨h0,h1⟩:=d5 T n;⟨jW T n h0 h1,pQ T n h0 h1⟩
def lh:aw:=ij 12
def pR(T:Txt P w K mg):Hv P w K mg base 12 "passes_of" 2 lh:=(d5 T 12).2
def c_:aw:=aR 3 (C.cX dH)
def jX(T:Txt P w K mg):Hv P w K mg base 14 "oftens_come_to" 2 c_:=cQ ["body","names","oftens"] T.o_oftens_come_to (fun _ _ _ _ _ _ _ hr nd=>(ad (AQ [] 1 [] ["found"] 2 nd (bA (cD (fz T) hr (lc (ac 0) (l1 (ac 1))))) (fun _=>(gn 0 GA)) (fun _=>(tw (fB hr (aH hr (aH hr (ac 0))) aA))) (fun _=>(ac 0)))
  (aj (ap (m5 [] 2 [] ["number","found"] (kl rfl rfl T.H_ (by decide +kernel) (l1 (ac 2))) (fun _=>(nZ rfl (aL (gn 0 Fb) (aL (gn 1 Fb) cA)))) (fun _=>(tw (eA (aH hr (ac 1))))) (fun _=>(ax (lc (ac 0) (l1 (aH hr (aH hr (ac 1)))))))))))) rfl
def eG:aw:=aR 3 C.gU
def f_(T:Txt P w K mg):Hv P w K mg base 1 "things_of" 3 eG:=cQ ["jars","name","things"] T.o_things_of (fun _ _ _ _ _ _ _ hr nd=>(aj (ap (cT bV T.Hn (l1 (m5 ["things","name"] 1 [1,2] ["jar","name","things"] (bA (ac 0)) (fun _=>(gn 0 GB)) (fun _=>bO) (fun _=>(wn (fB hr (ac 0) (ac 1)) (ac 2) af)))))))) rfl
def tZ:aw:=aR 2 C.oW
def xV(T:Txt P w K mg):Hv P w K mg base 1 "added" 2 tZ:=cQ ["one","other"] T.o_added (fun _ _ _ _ _ _ _ hr nd=>(aj (ap (cT bV T.Hn (l1 (m5 [] 2 [] ["left","right"] (qu rfl rfl rfl T.JG (by decide +kernel) (lc (ac 0) (l1 (ac 1)))) (fun _=>(nZ rfl (aL (gn 0 Fd) (aL (gn 1 Fd) cA)))) (fun _=>bO) (fun _=>(aB aJ (ac 0) (ac 1))))))))) rfl
def jY:aw:=aR 2 C.fM
def nu(T:Txt P w K mg):Hv P w K mg base 1 "multiplied" 2 jY:=cQ ["one","many"] T.o_multiplied (fun _ _ _ _ _ _ _ hr nd=>(aj (ap (cT bV T.Hn (l1 (m5 ["many"] 1 [1] ["number","many"] (bA (ac 0)) (fun _=>(gn 0 GC)) (fun _=>bO) (fun _=>(aB bg (ac 0) (ac 1))))))))) rfl
def d6:aw:=aR 1 C.iW
def li(T:Txt P w K mg):Hv P w K mg base 1 "no_tally" 1 d6:=cQ ["jars"] T.o_no_tally (fun _ _ _ _ _ _ _ hr nd=>(aj (ap (ax (lc (ax (lc af (l1 af))) (lc (aB lC (ax (l1 af)) (cB bS T.Hx (l1 (ac 0)))) (l1 (aB lC (ax (l1 af)) (cB bS T.Hx (l1 (ac 0))))))))))) rfl
def fA:aw:=aR 3 (C.ma tZ mN)
def kK(T:Txt P w K mg):Hv P w K mg base 4 "behind" 2 fA:=cQ ["one","other","demand"] T.o_behind (fun _ _ _ _ _ _ _ hr nd=>(ad (AQ [] 3 [] ["effect","first","second"] 2 nd (Cv rfl rfl rfl T.JG (by decide +kernel) (lc (aH hr (ac 0)) (lc (aH hr (ac 0)) (l1 (aH hr (ac 1)))))) (fun _=>(nZ rfl (aL (gn 0 De) (aL (gn 1 De) (aL (gn 2 De) cA))))) (fun _=>bO) (fun _=>(cB (oN rfl) T.Me (lc (ac 1) (l1 (aB dJ (ac 2) (ac 0)))))))
  (aj (ap (ax (lc (c4 (tX T) hr (lc (aH hr (ac 0)) (l1 (aH hr (ac 1))))) (lc (c4 (xV T) hr (lc (aH hr (ac 0)) (l1 (aH hr (ac 1))))) (l1 (cT bV T.Hn (l1 (ac 2))))))))))) rfl
def lG:aw:=aR 3 (C.oX jY ix)
def xW(T:Txt P w K mg):Hv P w K mg base 4 "again" 2 lG:=cQ ["one","many","demand"] T.o_again (fun _ _ _ _ _ _ _ hr nd=>(ad (AQ ["many"] 2 [1] ["effect","asked","many"] 2 nd (qu rfl rfl rfl T.JG (by decide +kernel) (lc (aH hr (ac 0)) (l1 (aH hr (ac 0))))) (fun _=>(nZ rfl (aL (gn 0 AV) (aL (gn 1 AV) cA)))) (fun _=>bO) (fun _=>(aB aJ (ac 1) (cB (oN rfl) T.Me (lc af (l1 (aB bg (gD bU (ac 0)) (aB dJ (ac 2) af))))))))
  (aj (ap (ax (lc (c4 (mO T) hr (lc (aH hr (ac 0)) (l1 (ax (lc (ac 1) (l1 af)))))) (lc (c4 (nu T) hr (lc (aH hr (ac 0)) (l1 (ac 1)))) (l1 (cT bV T.Hn (l1 (ac 2))))))))))) rfl
def cv:aw:=aR 2 (C.dD eG)
def kL(T:Txt P w K mg):Hv P w K mg base 2 "tally_of_take" 2 cv:=cQ ["jars","body"] T.o_tally_of_take (fun _ _ _ _ _ _ _ hr nd=>(aj (ap (ax (lc (ax (lc af (l1 af))) (lc (c4 (f_ T) hr (lc (ac 0) (lc (aH hr (ac 1)) (l1 (gD bU (aH hr (ac 1))))))) (l1 (c4 (f_ T) hr (lc (ac 0) (lc (aH hr (ac 1)) (l1 (aH hr (ac 1))))))))))))) rfl
noncomputable def bo:Nat->aw×aw
 |0=>(o8,o8)
 |n+1=>(aR 5 (C.cg d6 fA lG (bo n).1 (bo n).2),aR 6 (C.fO d6 eG fA mQ cv (bo n).1 (bo n).2))
def de(n:Nat):aw:=(bo n).1
def jb(n:Nat):aw:=(bo n).2
def jZ(T:Txt P w K mg)(n:Nat){s0 s1:aw}(R0:Hv P w K mg base (4+n) "tally_of_often" 3 s0)(R1:Hv P w K mg base (4+n) "tally_of" 3 s1):Hv P w K mg base (4+n+1) "tally_of_often" 3 (aR 5 (C.cg d6 fA lG s0 s1)):=cQ ["jars","body","goings","found","going"] T.o_tally_of_often (fun _ _ _ _ _ _ _ hr nd=>(ad (s4 3 nd (c4 (li T) hr (l1 (ac 0))))
  (ad (bZ SX rfl (bA (ac 2)) (gn 4 nd) (aj (s4 3 nd (c4 (kK T) hr (lc (ac 3) (l1 (c4 (xW T) hr (lc (c4 R1 hr (lc (ac 0) (lc (aH hr (ac 1)) (l1 (aH hr (ac 4)))))) (l1 (aH hr (ac 4)))))))))))
  (aj (ap (ac 3)))))) rfl
def qY(T:Txt P w K mg)(n:Nat){s0 s1:aw}(R0:Hv P w K mg base (4+n) "tally_of_often" 3 s0)(R1:Hv P w K mg base (4+n) "tally_of" 3 s1):Hv P w K mg base (4+n+1) "tally_of" 3 (aR 6 (C.fO d6 eG fA mQ cv s0 s1)):=cQ ["jars","body","trace","head","nothing","side"] T.o_tally_of (fun _ _ _ _ _ _ _ hr nd=>(ad (s4 3 nd (aH hr (ac 1)))
  (ad (s4 4 nd (c4 (li T) hr (l1 (ac 0))))
  (ad (ba (fB hr (ac 3) aA) (aj (ap (ax (lc (aH hr (ac 1)) (lc (aH hr (ac 4)) (l1 (aH hr (ac 4)))))))) aK)
  (ad (ba (fB hr (ac 3) aA) (aj (ap (ax (lc (aH hr (ac 4)) (lc (c4 (f_ T) hr (lc (ac 0) (lc (aH hr (ac 1)) (l1 (aH hr (ac 1)))))) (l1 (aH hr (ac 4)))))))) aK)
  (ad (ba (fB hr (ac 3) aA) (aj (ap (c4 (kK T) hr (lc (c4 R1 hr (lc (ac 0) (lc (aH hr (ac 1)) (l1 (aH hr (ac 2)))))) (l1 (c4 R1 hr (lc (ac 0) (lc (aH hr (ac 1)) (l1 (aH hr (ac 2))))))))))) aK)
  (ad (ba (fB hr (ac 3) aA) (aj (ap (c4 R0 hr (lc (ac 0) (lc (ac 1) (l1 (ac 2))))))) aK)
  (ad (ba (bv (gJ (fq hr)) (ac 3) (ax (lc aA (l1 aA))) rfl) (aj (ap (ac 4))) aK)
  (ad (s4 5 nd (c4 R1 hr (lc (ac 0) (lc (c4 (vi T) hr (lc (ac 1) (l1 (ac 2)))) (l1 (aH hr (ac 2)))))))
  (ad (ba (rB (lV (fB hr (ac 3) aA) (kg (fB hr (aH hr (ac 2)) af)))) (aj (ap (c4 (kK T) hr (lc (c4 (kL T) hr (lc (ac 0) (l1 (ac 1)))) (l1 (ac 5)))))) aK)
  (aj (ap (ac 5))))))))))))) rfl
theorem d8(T:Txt P w K mg):∀n:Nat,Hv P w K mg base (4+n) "tally_of_often" 3 (de n)/\Hv P w K mg base (4+n) "tally_of" 3 (jb n)
 |0=>⟨.zero T.o_tally_of_often,.zero T.o_tally_of⟩
 |n+1=>let ⟨h0,h1⟩:=d8 T n;⟨jZ T n h0 h1,qY T n h0 h1⟩
def mS:aw:=jb 12
def qZ(T:Txt P w K mg):Hv P w K mg base 16 "tally_of" 3 mS:=(d8 T 12).2
def cM:aw:=aR 2 (CL.cK c_)
def jc(T:Txt P w K mg):Hv P w K mg base 15 "numbered_bodies" 2 cM:=cQ ["body","names"] T.o_numbered_bodies (fun _ _ _ _ _ _ _ hr nd=>(aj (ap (aB aJ (bw (l1 (ax (lc eu (l1 (ac 0)))))) (c4 (jX T) hr (lc (ac 0) (l1 (ac 1)))))))) rfl
def pS:aw:=aR 9 (CL.o_ ja cM lh mS)
def xX(T:Txt P w K mg):Hv P w K mg base 30 "lines" 1 pS:=cQ ["house","names","found","d","deed","number","body","trace","gone"] T.o_lines (fun _ _ _ _ _ _ _ hr nd=>(ad (s4 1 nd (c4 (qX T) hr (l1 (ac 0))))
  (ad (s4 2 nd (bw cG))
  (ad (bZ SX rfl (kl rfl rfl T.H_ (by decide +kernel) (l1 (aH hr (ac 0)))) (nZ rfl (aL (gn 3 nd) (aL (gn 4 nd) cA))) (aj (bZ SX rfl (bA (c4 (jc T) hr (lc (aH hr (ac 4)) (l1 (ac 1))))) (nZ rfl (aL (gn 5 nd) (aL (gn 6 nd) cA))) (aj (bZ SX rfl (bA (c4 (pR T) hr (lc (ac 6) (l1 (ac 1))))) (gn 7 nd) (ad (s4 8 nd (c4 (qZ T) hr (lc (aH hr (ac 0)) (lc (ac 6) (l1 (ac 7))))))
  (aj (bL (o9 cj cI (ac 2) (l1 (ax (lc (ac 3) (lc (ac 5) (lc (aH hr (ac 8)) (lc (aH hr (ac 8)) (l1 (ac 7)))))))))))))))))
  (aj (ap (cT bV T.Hn (l1 (ac 2))))))))) rfl
def mT:aw:=aR 5 (CL.mh d4)
def vj(T:Txt P w K mg):Hv P w K mg base 5 "mix_of" 3 mT:=cQ ["house","found","shares","mix","d"] T.o_mix_of (fun _ _ _ _ _ _ _ hr nd=>(ad (s4 3 nd (bw cG))
  (ad (bZ SX rfl (fo rfl rfl T.JM (l1 (cB bS T.Hx (l1 (aH hr (ac 0)))))) (gn 4 nd) (aj (bL (o9 cj cI (ac 3) (l1 (c4 (h_ T) hr (l1 (m5 ["d"] 2 [4] ["line","share","d"] (qu rfl rfl rfl T.JG (by decide +kernel) (lc (ac 1) (l1 (ac 2)))) (fun _=>(nZ rfl (aL (gn 0 AW) (aL (gn 1 AW) cA)))) (fun _=>(tw (rB (lV (fB hr (aH hr (ac 0)) (ac 2)) (kg (bv AL (aH hr (ac 0)) eu (aV _))))))) (fun _=>(ac 1))))))))))
  (aj (ap (cT bV T.Hn (l1 (ac 3)))))))) rfl
def jd:aw:=aR 5 (CL.i5 pS xT i_ d4 ix mT)
def lj(T:Txt P w K mg):Hv P w K mg base 31 "shown_by" 2 jd:=cQ ["house","shares","found","jar","cost"] T.o_shown_by (fun _ _ _ _ _ _ _ hr nd=>(ad (s4 2 nd (c4 (xX T) hr (l1 (ac 0))))
  (ad (ba (rB (ls (DB hr (cB bS T.Hx (l1 (ac 1))) (cB bS T.Hx (l1 (ac 2)))) (iC (eA (cB (ww rfl) T.MH (l1 (m5 [] 1 [] ["share"] (bA (ac 1)) (fun _=>(gn 0 Fe)) (fun _=>bO) (fun _=>(c4 (tY T) hr (lc (ac 0) (l1 (ax (lc af (l1 af)))))))))))))) (aj (ap eu)) aK)
  (ad (bZ SX rfl (fo rfl rfl T.JM (l1 (cB bS T.Hx (l1 (aH hr (ac 0)))))) (gn 3 nd) (aj (ba (eA (c4 (tY T) hr (lc (c4 (qV T) hr (lc (m5 ["jar"] 1 [3] ["line","jar"] (bA (ac 2)) (fun _=>(gn 0 Ff)) (fun _=>bO) (fun _=>(gC hr (aH hr (ac 0)) (ac 1)))) (l1 (ac 1)))) (l1 (ax (lc af (l1 af))))))) (aj (ap eu)) aK)))
  (ad (s4 4 nd (c4 (h_ T) hr (l1 (m5 [] 2 [] ["line","share"] (qu rfl rfl rfl T.JG (by decide +kernel) (lc (ac 2) (l1 (ac 1)))) (fun _=>(nZ rfl (aL (gn 0 AX) (aL (gn 1 AX) cA)))) (fun _=>bO) (fun _=>(c4 (mO T) hr (lc (aH hr (ac 0)) (l1 (ac 1)))))))))
  (aj (ap (ax (lc (c4 (vj T) hr (lc (ac 0) (lc (ac 2) (l1 (ac 1))))) (l1 (ac 4))))))))))) rfl
def ll:aw:=aR 5 C.gN
def pU(T:Txt P w K mg):Hv P w K mg base 1 "_law_deal" 2 ll:=cQ ["_law_script","_law_base","_law_one_here","_law_some","_law_number"] T.o__law_deal (fun _ _ _ _ _ _ _ hr nd=>(ad (AQ [] 1 [] ["_law_one_here"] 3 nd (bA (fH (ac 0) (fG (ac 1)) (fG af))) (fun _=>(gn 0 xS)) (fun _=>bO) (fun _=>(cB (oN rfl) T.Me (lc (ac 0) (l1 (aB dJ af (ac 0)))))))
  (ad (s4 4 nd (aB aJ af (ac 1)))
  (ad (bZ SX rfl (bA (ac 3)) (gn 2 nd) (aj (s4 4 nd (aB gA (aB aJ (aB bg (ac 4) af) (aB gA (ac 2) af)) af))))
  (aj (ap (Cr (oV aA (ac 4) (oV aA af (oV aA (Ct uy rfl (m5 [] 1 [] ["_law_one_here"] (bA (ac 3)) (fun _=>(gn 0 xS)) (fun _=>(tw (bv Gp (ac 0) (aB EI af af) (aV _)))) (fun _=>(ac 0))) rfl T.L0 rfl T.L4) Cq)))))))))) rfl
def w__law_draw:aw:=aR 5 C.gP
def ao(T:Txt P w K mg):Hv P w K mg base 1 "_law_draw" 2 w__law_draw:=cQ ["_law_deal_here","_law_many","_law_number","_law_one_here","_law_other"] T.o__law_draw (fun _ _ _ _ _ _ _ hr nd=>(ad (jy SX (rB (lV (fB hr (gC hr (ac 0) aA) af) (kg (bv zF (cB bS T.Hx (l1 (gC hr (ac 0) aA))) af (aV _))))) (aj (gL (tE hr) (Gx wN AM (gC hr (ac 0) aA)) (ac 0) aA)))
  (ad (s4 2 nd (gC hr (ac 0) aA))
  (ad (ba (bv zF (ac 2) af (aV _)) (ad (gL (tE hr) (aB kn (ac 2) (ac 1)) (ac 0) aA)
  (aj (ap (aB gA (ac 2) (ac 1))))) aK)
  (ad (s4 3 nd (aB gA (aB aJ (aB bg (gC hr (ac 0) aA) af) af) af))
  (ad (gL (tE hr) (aB gA (aB aJ (aB bg (ac 3) af) af) af) (ac 0) aA)
  (ad (s4 4 nd (aB gA (aB bg (gC hr (ac 0) aA) (gC hr (ac 0) aA)) af))
  (aj (ap (aB gA (aB aJ (aB bg (aB gA (aB bg (ac 3) (ac 3)) af) af) (ac 4)) (ac 1))))))))))) rfl
def gf:aw:=aR 11 (C.fJ w__law_draw)
def nv(T:Txt P w K mg):Hv P w K mg base 2 "_law_words" 2 gf:=cQ ["_law_deal_here","_law_many","_law_letters","_law_taken","_law_k","_law_core","_law_at","_law_turn","_law_near","_law_found","_law_name"] T.o__law_words (fun _ _ _ _ _ _ _ hr nd=>(ad (s4 2 nd aA)
  (ad (s4 3 nd (bw (lc aA (lc aA (lc aA (lc aA (lc aA (lc aA (lc aA (lc aA (lc aA (l1 aA))))))))))))
  (ad (s4 5 nd (o9 tG wB aA (l1 (m5 ["_law_letters","_law_deal_here"] 1 [0,2] ["_law_k","_law_deal_here","_law_letters"] (fo rfl rfl T.JM (l1 (c4 (ao T) hr (lc (ac 0) (l1 af))))) (fun _=>(gn 0 Fg)) (fun _=>bO) (fun _=>(gC hr (ac 2) (c4 (ao T) hr (lc (ac 1) (l1 af)))))))))
  (ad (zy (i:=6) (j:=7) (k:=8) rfl nd rfl rfl rfl rfl rfl rfl (ax (lc (c4 (ao T) hr (lc (ac 0) (l1 (aB aJ (cB bS T.Hx (l1 (ac 5))) af)))) (lc (c4 (ao T) hr (lc (ac 0) (l1 af))) (l1 (fi (kY (iG hr)) (c4 (ao T) hr (lc (ac 0) (l1 af))) af (aV _)))))))
  (ad (s4 9 nd (bw cG))
  (ad (bZ SX rfl (fo rfl rfl T.JM (l1 (ac 1))) (gn 4 nd) (ad (s4 10 nd (aB aJ (aB aJ (fH (ac 5) lW (fG (ac 6))) (gC hr (ac 2) (aB gA (aB aJ (ac 7) (ac 4)) af))) (fH (ac 5) (fG (ac 6)) lW)))
  (ad (ba (tm (eA (ac 8))) (aj (s4 10 nd (o9 tG wB aA (l1 (m5 ["_law_letters","_law_deal_here"] 1 [0,2] ["_law_j","_law_deal_here","_law_letters"] (fo rfl rfl T.JM (l1 (aB aJ af (c4 (ao T) hr (lc (ac 0) (l1 af)))))) (fun _=>(gn 0 Fh)) (fun _=>bO) (fun _=>(gC hr (ac 2) (c4 (ao T) hr (lc (ac 1) (l1 af)))))))))) aK)
  (ad (jy SX (rB (ls (bv (k5 (fq hr)) (ac 10) (ac 3) rfl) (iC (bv (k5 (fq hr)) (ac 10) (ac 9) rfl)))) (aj (s4 10 nd (aB aJ (gC hr (ac 2) (aB gA (aB aJ (o9 wO zx (ac 2) (l1 (aH hr (ac 10)))) af) af)) (fH (ac 10) (fG af) lW)))))
  (aj (bL (o9 cj cI (ac 9) (l1 (ac 10)))))))))
  (aj (ap (ac 9)))))))))) rfl
def b5:aw:=aR 4 C.iT
def dB(T:Txt P w K mg):Hv P w K mg base 1 "_law_low" 2 b5:=cQ ["_law_top","_law_bottom","_law_one_here","_law_other"] T.o__law_low (fun _ _ _ _ _ _ _ hr nd=>(ad (AN (i:=2) (j:=3) rfl nd rfl rfl (by decide) rfl rfl (lc (cB (oN rfl) T.Me (lc (ac 0) (l1 (aB dJ af (ac 0))))) (l1 (ac 1))))
  (ad (jy SX (bv zF (ac 3) af (aV _)) (aj (AN (i:=2) (j:=3) rfl nd rfl rfl (by decide) rfl rfl (lc (ac 3) (l1 (aB gA (ac 2) (ac 3)))))))
  (aj (ap (ax (lc (aB kn (ac 0) (ac 2)) (l1 (aB kn (ac 1) (ac 2)))))))))) rfl
def b8:aw:=aR 2 (C.b3 b5)
def cO(T:Txt P w K mg):Hv P w K mg base 2 "_law_plus" 2 b8:=cQ ["_law_one_here","_law_other"] T.o__law_plus (fun _ _ _ _ _ _ _ hr nd=>(aj (ap (c4 (dB T) hr (lc (aB aJ (aB bg (aH hr (ac 0)) (aH hr (ac 1))) (aB bg (aH hr (ac 1)) (aH hr (ac 0)))) (l1 (aB bg (aH hr (ac 0)) (aH hr (ac 1))))))))) rfl
def j0:aw:=aR 2 (CL.fP b5)
def ny(T:Txt P w K mg):Hv P w K mg base 2 "_law_times" 2 j0:=cQ ["_law_one_here","_law_many"] T.o__law_times (fun _ _ _ _ _ _ _ hr nd=>(aj (ap (c4 (dB T) hr (lc (aB bg (aH hr (ac 0)) (ac 1)) (l1 (aH hr (ac 0)))))))) rfl
def ik:aw:=aR 2 (C.gQ w__law_draw b5)
def pV(T:Txt P w K mg):Hv P w K mg base 2 "_law_cost" 1 ik:=cQ ["_law_deal_here","_law_form"] T.o__law_cost (fun _ _ _ _ _ _ _ hr nd=>(ad (s4 1 nd (c4 (ao T) hr (lc (ac 0) (l1 af))))
  (ad (ba (fB hr (ac 1) af) (aj (ap (ax (lc af (l1 af))))) aK)
  (ad (ba (bv ko (ac 1) af (aV _)) (aj (ap (ax (lc (aB aJ af (c4 (ao T) hr (lc (ac 0) (l1 af)))) (l1 af))))) aK)
  (aj (ap (c4 (dB T) hr (lc (c4 (ao T) hr (lc (ac 0) (l1 af))) (l1 (aB aJ af (c4 (ao T) hr (lc (ac 0) (l1 af))))))))))))) rfl
def eI:aw:=aR 4 (C.gR w__law_draw ik)
def gg(T:Txt P w K mg):Hv P w K mg base 3 "_law_leaf" 2 eI:=cQ ["_law_deal_here","_law_jars","_law_form","_law_many"] T.o__law_leaf (fun _ _ _ _ _ _ _ hr nd=>(ad (s4 2 nd (c4 (ao T) hr (lc (ac 0) (l1 af))))
  (ad (ba (fB hr (ac 2) af) (aj (ap (ax (l1 aA)))) aK)
  (ad (ba (rB (ls (bv ko (ac 2) af (aV _)) (iC (fB hr (cB bS T.Hx (l1 (ac 1))) af)))) (aj (ap (ax (lc aA (l1 (c4 (pV T) hr (l1 (ac 0)))))))) aK)
  (ad (s4 3 nd (gC hr (bw (lc af (lc af (l1 (aB aJ af (c4 (ao T) hr (lc (ac 0) (l1 af)))))))) (c4 (ao T) hr (lc (ac 0) (l1 af)))))
  (aj (ap (ax (lc aA (lc (gC hr (ac 1) (c4 (ao T) hr (lc (ac 0) (l1 (cB bS T.Hx (l1 (ac 1))))))) (l1 (ac 3)))))))))))) rfl
noncomputable def eJ:Nat->aw
 |0=>o8
 |n+1=>aR 8 (C.gS w__law_draw eI (eJ n))
def lm:aw:=eJ 12
def pW(T:Txt P w K mg):Hv P w K mg base 15 "_law_body" 4 lm:=mf (b:=3) (r:=eJ) T.o__law_body (fun n R0=>cQ ["_law_deal_here","_law_jars","_law_left","_law_down","_law_form","_law_one_here","_law_other","_law_many"] T.o__law_body (fun _ _ _ _ _ _ _ hr nd=>(ad (s4 4 nd (c4 (ao T) hr (lc (ac 0) (l1 af))))
  (ad (ba (rB (ls (fB hr (ac 3) af) (ls (bv ko (aH hr (ac 2)) af (aV _)) (iC (bv ko (ac 4) af (aV _)))))) (aj (ap (c4 (gg T) hr (lc (ac 0) (l1 (ac 1)))))) aK)
  (ad (ba (bv ko (ac 4) af (aV _)) (ad (gL (tE hr) (aB dJ (aH hr (ac 2)) af) (ac 2) af)
  (aj (ap (ax (lc aA (l1 (c4 R0 hr (lc (ac 0) (lc (ac 1) (lc (ac 2) (l1 (aB dJ (ac 3) af)))))))))))) aK)
  (ad (gL (tE hr) (aB dJ (aH hr (ac 2)) af) (ac 2) af)
  (ad (s4 5 nd (c4 R0 hr (lc (ac 0) (lc (ac 1) (lc (ac 2) (l1 (aB dJ (ac 3) af)))))))
  (ad (s4 6 nd (c4 R0 hr (lc (ac 0) (lc (ac 1) (lc (ac 2) (l1 (aB dJ (ac 3) af)))))))
  (ad (ba (bv ko (ac 4) af (aV _)) (aj (ap (ax (lc aA (lc (ac 5) (l1 (ac 6))))))) aK)
  (ad (ba (rB (ls (fB hr (ac 4) af) (iC (fB hr (cB bS T.Hx (l1 (ac 1))) af)))) (aj (ap (ax (lc aA (lc (ac 5) (l1 (ac 6))))))) aK)
  (ad (s4 7 nd (gC hr (bw (lc af (lc af (lc af (l1 (aB aJ af (c4 (ao T) hr (lc (ac 0) (l1 af))))))))) (c4 (ao T) hr (lc (ac 0) (l1 af)))))
  (aj (ap (ax (lc aA (lc (gC hr (ac 1) (c4 (ao T) hr (lc (ac 0) (l1 (cB bS T.Hx (l1 (ac 1))))))) (lc (ac 7) (lc (ac 5) (l1 (ac 6))))))))))))))))))) rfl) rfl rfl 12
noncomputable def bW:Nat->aw
 |0=>o8
 |n+1=>aR 1 (C.cJ (bW n))
def bX:aw:=bW 12
def d9(T:Txt P w K mg):Hv P w K mg base 12 "_law_pass_count" 1 bX:=mf (b:=0) (r:=bW) T.o__law_pass_count (fun n R0=>cQ ["_law_body_here"] T.o__law_pass_count (fun _ _ _ _ _ _ _ hr nd=>(ad (ba (fB hr (aH hr (ac 0)) aA) (aj (ap (aB bg (c4 R0 hr (l1 (aH hr (ac 0)))) (c4 R0 hr (l1 (aH hr (ac 0))))))) aK)
  (ad (ba (rB (ls (fB hr (aH hr (ac 0)) aA) (iC (fB hr (aH hr (ac 0)) aA)))) (aj (ap (aB aJ (c4 R0 hr (l1 (gC hr (ac 0) (gD bU af)))) (c4 R0 hr (l1 (gC hr (ac 0) (gD bU af))))))) aK)
  (aj (ap af))))) rfl) rfl rfl 12
noncomputable def bR:Nat->aw
 |0=>o8
 |n+1=>aR 1 (C.cw bX (bR n))
def d_:aw:=bR 12
def iz(T:Txt P w K mg):Hv P w K mg base 24 "_law_round_count" 1 d_:=mf (b:=12) (r:=bR) T.o__law_round_count (fun n R0=>cQ ["_law_body_here"] T.o__law_round_count (fun _ _ _ _ _ _ _ hr nd=>(ad (ba (fB hr (aH hr (ac 0)) aA) (aj (ap (aB aJ (c4 (d9 T) hr (l1 (aH hr (ac 0)))) (c4 R0 hr (l1 (aH hr (ac 0))))))) aK)
  (ad (ba (bv (k5 (fq hr)) (aH hr (ac 0)) (ax (lc aA (lc aA (l1 aA)))) rfl) (aj (ap (aB aJ (c4 R0 hr (l1 (gC hr (ac 0) (gD bU af)))) (c4 R0 hr (l1 (gC hr (ac 0) (gD bU af))))))) aK)
  (aj (ap af))))) rfl) rfl rfl 12
def df:aw:=aR 5 (C.cW lm bX d_ eI)
def j1(T:Txt P w K mg):Hv P w K mg base 25 "_law_deed_body" 4 df:=cQ ["_law_deal_here","_law_jars","_law_room","_law_most","_law_body_here"] T.o__law_deed_body (fun _ _ _ _ _ _ _ hr nd=>(ad (s4 4 nd (c4 (pW T) hr (lc (ac 0) (lc (ac 1) (lc (bw (l1 (aB dJ (ac 2) af))) (l1 af))))))
  (ad (ba (bv zF (aB aJ (c4 (d9 T) hr (l1 (ac 4))) (c4 (iz T) hr (l1 (ac 4)))) (ac 3) (aV _)) (aj (s4 4 nd (ax (lc aA (lc (ax (lc aA (l1 (c4 (gg T) hr (lc (ac 0) (l1 (ac 1))))))) (l1 (c4 (gg T) hr (lc (ac 0) (l1 (ac 1)))))))))) aK)
  (aj (ap (ac 4)))))) rfl
def gh:aw:=aR 9 (C.fK gf w__law_draw df)
def nA(T:Txt P w K mg):Hv P w K mg base 26 "_law_house" 4 gh:=cQ ["_law_deal_here","_law_most_jars","_law_most_deeds","_law_room","_law_words_here","_law_jars","_law_first","_law_many","_law_deeds"] T.o__law_house (fun _ _ _ _ _ _ _ hr nd=>(ad (s4 4 nd (c4 (nv T) hr (lc (ac 0) (l1 af))))
  (ad (s4 5 nd (cT bV T.Hn (l1 (fH (ac 4) lW (fG (c4 (ao T) hr (lc (ac 0) (l1 (aB aJ (ac 1) af)))))))))
  (ad (s4 6 nd (gC hr (bw (lc af (l1 af))) (c4 (ao T) hr (lc (ac 0) (l1 af)))))
  (ad (s4 7 nd (aB aJ af (c4 (ao T) hr (lc (ac 0) (l1 (ac 2))))))
  (ad (AQ ["_law_words_here","_law_room","_law_many","_law_jars","_law_first","_law_deal_here"] 1 [0,6,5,7,3,4] ["_law_k","_law_deal_here","_law_first","_law_jars","_law_many","_law_room","_law_words_here"] 8 nd (fo rfl rfl T.JM (l1 (ac 7))) (fun _=>(gn 0 Fi)) (fun _=>bO) (fun _=>(ax (lc (gC hr (ac 6) (aB aJ (ac 2) (ac 0))) (l1 (c4 (j1 T) hr (lc (ac 1) (lc (ac 3) (lc (ac 5) (l1 (aB kn af (ac 4))))))))))))
  (aj (ap (ax (lc (ac 5) (l1 (cT bV T.Hn (l1 (ac 8)))))))))))))) rfl
noncomputable def eM:Nat->aw
 |0=>o8
 |n+1=>aR 3 (C.gW (eM n))
def lq:aw:=eM 12
def pX(T:Txt P w K mg):Hv P w K mg base 12 "_law_puts" 3 lq:=mf (b:=0) (r:=eM) T.o__law_puts (fun n R0=>cQ ["_law_body_here","_law_held","_law_found"] T.o__law_puts (fun _ _ _ _ _ _ _ hr nd=>(ad (ba (fB hr (aH hr (ac 0)) aA) (aj (bL (o9 cj cI (ac 2) (l1 (aH hr (ac 0)))))) aK)
  (ad (ba (fB hr (aH hr (ac 0)) aA) (aj (bL (c4 R0 hr (lc (aH hr (ac 0)) (lc (ac 1) (l1 (ac 2))))))) aK)
  (aj (ba (bv (k5 (fq hr)) (aH hr (ac 0)) (ax (lc aA (lc aA (l1 aA)))) rfl) (ad (ba (rB (ls (DB hr (aH hr (ac 0)) aA) (iC (bv (k5 (fq hr)) (aH hr (ac 0)) (ac 1) rfl)))) (aj (bL (c4 R0 hr (lc (gC hr (ac 0) (gD bU af)) (lc (ac 1) (l1 (ac 2))))))) aK)
  (aj (bL (c4 R0 hr (lc (gC hr (ac 0) (gD bU af)) (lc (ac 1) (l1 (ac 2)))))))) aK))))) rfl) rfl rfl 12
def dI:aw:=aR 6 (C.dE lq)
def kM(T:Txt P w K mg):Hv P w K mg base 13 "_law_fillable" 1 dI:=cQ ["_law_house_here","_law_held","_law_turn","_law_found","_law_name","_law_body_here"] T.o__law_fillable (fun _ _ _ _ _ _ _ hr nd=>(ad (s4 1 nd (bw cG))
  (ad (bZ SX rfl (bA (aH hr (ac 0))) (gn 2 nd) (ad (s4 3 nd (bw cG))
  (ad (bZ SX rfl (bA (aH hr (ac 0))) (nZ rfl (aL (gn 4 nd) (aL (gn 5 nd) cA))) (aj (bL (c4 (pX T) hr (lc (ac 5) (lc (ac 1) (l1 (ac 3))))))))
  (aj (s4 1 nd (ac 3))))))
  (aj (ap (ac 1)))))) rfl
noncomputable def dO:Nat->aw
 |0=>o8
 |n+1=>aR 2 (CL.cL (dO n))
def j2:aw:=dO 12
def iK(T:Txt P w K mg):Hv P w K mg base 12 "_law_alike" 2 j2:=mf (b:=0) (r:=dO) T.o__law_alike (fun n R0=>cQ ["_law_found","_law_due"] T.o__law_alike (fun _ _ _ _ _ _ _ hr nd=>(ad (ba (rB (ls (eA (cB nX T.HF (lc (ac 1) (l1 (DC T.Hn))))) (iC (eA (cB nX T.HF (lc (ac 0) (l1 (DC T.Hn)))))))) (ad (ba (rB (ls (tm (eA (cB nX T.HF (lc (ac 0) (l1 (DC T.Hn)))))) (ls (tm (eA (cB nX T.HF (lc (ac 1) (l1 (DC T.Hn)))))) (iC (DB hr (cB bS T.Hx (l1 (ac 0))) (cB bS T.Hx (l1 (ac 1)))))))) (aj (ap Cf)) aK)
  (aj (ap (cB (EB rfl) T.Og (l1 (m5 [] 2 [] ["_law_one_here","_law_other"] (me rfl rfl rfl T.JG (by decide +kernel) (lc (ac 0) (l1 (ac 1)))) (fun _=>(nZ rfl (aL (gn 0 AY) (aL (gn 1 AY) cA)))) (fun _=>bO) (fun _=>(c4 R0 hr (lc (ac 0) (l1 (ac 1))))))))))) aK)
  (aj (ap (qo (fi (kY (iG hr)) (ac 0) (ac 1) (aV _)) (qm (fi (kY (iG hr)) (cB nX T.HF (lc (ac 0) (l1 (DC T.MI)))) (cB nX T.HF (lc (ac 1) (l1 (DC T.MI)))) (aV _)))))))) rfl) rfl rfl 12
def mU:aw:=aR 3 CL.i3
def q_(T:Txt P w K mg):Hv P w K mg base 1 "_law_one" 2 mU:=cQ ["_law_body_here","_law_jars","_law_effect"] T.o__law_one (fun _ _ _ _ _ _ _ hr nd=>(ad (s4 2 nd (aB bg (bw (l1 af)) (cB bS T.Hx (l1 (ac 1)))))
  (ad (ba (fB hr (aH hr (ac 0)) aA) (aj (gL (tE hr) (aH hr (ac 0)) (ac 2) (wM VY Vn VZ md rfl (ac 1) (l1 (aH hr (ac 0)))))) aK)
  (aj (ap (ax (lc (gC hr (bw (lc (ax (lc af (l1 af))) (l1 (gC hr (ac 0) (gD bU af))))) (cT EA T.Oh (l1 (fi (kY (iG hr)) (aH hr (ac 0)) aA (aV _))))) (lc (cT bV T.Hn (l1 (ac 2))) (l1 (ax cG)))))))))) rfl
def iL:aw:=aR 9 CL.eW
def cP(T:Txt P w K mg):Hv P w K mg base 1 "_law_behind" 4 iL:=cQ ["_law_some","_law_side","_law_jars","_law_taken","_law_found","_law_cost_here","_law_effect","_law_trace","_law_gone"] T.o__law_behind (fun _ _ _ _ _ _ _ hr nd=>(ad (s4 4 nd (bw cG))
  (ad (bZ SX rfl (bA (ac 0)) (nZ rfl (aL (gn 5 nd) (aL (gn 6 nd) (aL (gn 7 nd) cA)))) (ad (s4 8 nd (aB bg (bw (l1 af)) (cB bS T.Hx (l1 (ac 2)))))
  (ad (ba (bv qq (ac 3) eu (aV _)) (aj (gL (tE hr) (aH hr (ac 3)) (ac 8) (wM VY Vn VZ md rfl (ac 2) (l1 (aH hr (ac 3)))))) aK)
  (aj (bL (o9 cj cI (ac 4) (l1 (ax (lc (ac 5) (lc (cT bV T.Hn (l1 (m5 [] 2 [] ["_law_one_here","_law_more"] (me rfl rfl rfl T.JG (by decide +kernel) (lc (ac 6) (l1 (ac 8)))) (fun _=>(nZ rfl (aL (gn 0 AZ) (aL (gn 1 AZ) cA)))) (fun _=>bO) (fun _=>(aB dJ (ac 0) (ac 1)))))) (l1 (ax (lc (ac 1) (l1 (ac 7)))))))))))))))
  (aj (ap (ac 4)))))) rfl
noncomputable def dv:Nat->aw
 |0=>o8
 |n+1=>aR 8 (CL.eX b8 iL mU (dv n))
def dy:aw:=dv 12
def il(T:Txt P w K mg):Hv P w K mg base 14 "_law_passes" 3 dy:=mf (b:=2) (r:=dv) T.o__law_passes (fun n R0=>cQ ["_law_body_here","_law_jars","_law_held","_law_found","_law_one_here","_law_other","_law_effect","_law_first"] T.o__law_passes (fun _ _ _ _ _ _ _ hr nd=>(ad (ba (fB hr (aH hr (ac 0)) aA) (ad (s4 3 nd (bw cG))
  (ad (bZ SX rfl (bA (c4 R0 hr (lc (aH hr (ac 0)) (lc (ac 1) (l1 (ac 2)))))) (gn 4 nd) (aj (bZ SX rfl (bA (c4 R0 hr (lc (aH hr (ac 0)) (lc (ac 1) (l1 (ac 2)))))) (gn 5 nd) (ad (s4 6 nd (cT bV T.Hn (l1 (m5 [] 2 [] ["_law_here","_law_there"] (qu rfl rfl rfl T.JG (by decide +kernel) (lc (aH hr (ac 4)) (l1 (aH hr (ac 5))))) (fun _=>(nZ rfl (aL (gn 0 A0) (aL (gn 1 A0) cA)))) (fun _=>bO) (fun _=>(aB aJ (ac 0) (ac 1)))))))
  (aj (bL (o9 cj cI (ac 3) (l1 (ax (lc (c4 (cO T) hr (lc (aH hr (ac 4)) (l1 (aH hr (ac 5))))) (lc (ac 6) (l1 (ax (lc (aH hr (ac 4)) (l1 (aH hr (ac 5)))))))))))))))))
  (aj (ap (ac 3))))) aK)
  (ad (ba (fB hr (aH hr (ac 0)) aA) (ad (s4 7 nd (c4 (cP T) hr (lc (c4 R0 hr (lc (aH hr (ac 0)) (lc (ac 1) (l1 (ac 2))))) (lc af (lc (ac 1) (l1 eu))))))
  (aj (ap (aB aJ (ac 7) (c4 (cP T) hr (lc (c4 R0 hr (lc (aH hr (ac 0)) (lc (ac 1) (l1 (ac 2))))) (lc af (lc (ac 1) (l1 eu))))))))) aK)
  (ad (ba (fB hr (aH hr (ac 0)) aA) (ad (s4 7 nd (bw cG))
  (ad (ba (bv (k5 (fq hr)) (aH hr (ac 0)) (ac 2) rfl) (aj (s4 7 nd (c4 (cP T) hr (lc (c4 R0 hr (lc (aH hr (ac 0)) (lc (ac 1) (l1 (ac 2))))) (lc af (lc (ac 1) (l1 (fH (ac 0) (fG af) (fG af))))))))) aK)
  (aj (ap (aB aJ (ac 7) (c4 (cP T) hr (lc (c4 R0 hr (lc (aH hr (ac 0)) (lc (ac 1) (l1 (ac 2))))) (lc af (lc (ac 1) (l1 eu)))))))))) aK)
  (aj (ap (bw (l1 (c4 (q_ T) hr (lc (ac 0) (l1 (ac 1)))))))))))) rfl) rfl rfl 12
noncomputable def dz:Nat->aw
 |0=>o8
 |n+1=>aR 6 (CL.eY dy (dz n))
def eZ:aw:=dz 12
def mV(T:Txt P w K mg):Hv P w K mg base 26 "_law_rounds" 5 eZ:=mf (b:=14) (r:=dz) T.o__law_rounds (fun n R0=>cQ ["_law_body_here","_law_jars","_law_held","_law_number","_law_live","_law_found"] T.o__law_rounds (fun _ _ _ _ _ _ _ hr nd=>(ad (s4 5 nd (bw cG))
  (ad (ba (fB hr (aH hr (ac 0)) aA) (ad (gL (tE hr) (aB aJ (aH hr (ac 3)) af) (ac 3) af)
  (ad (ba (eA (ac 4)) (aj (AQ ["_law_number"] 1 [3] ["_law_one_here","_law_number"] 5 nd (bA (c4 (il T) hr (lc (aH hr (ac 0)) (lc (ac 1) (l1 (ac 2)))))) (fun _=>(gn 0 Fj)) (fun _=>bO) (fun _=>(aB aJ (ax (l1 (aB dJ (aH hr (ac 1)) af))) (ac 0))))) aK)
  (aj (ap (aB aJ (ac 5) (c4 R0 hr (lc (aH hr (ac 0)) (lc (ac 1) (lc (ac 2) (lc (ac 3) (l1 (ac 4)))))))))))) aK)
  (ad (ba (bv (k5 (fq hr)) (aH hr (ac 0)) (ax (lc aA (lc aA (l1 aA)))) rfl) (ad (s4 5 nd (c4 R0 hr (lc (gC hr (ac 0) (gD bU af)) (lc (ac 1) (lc (ac 2) (lc (ac 3) (l1 (qo (ac 4) (qm (Gj (fi (AK (iG hr)) (aH hr (ac 0)) aA (aV _)) (qm (fi (k5 (fq hr)) (aH hr (ac 0)) (ac 2) rfl))))))))))))
  (aj (ap (aB aJ (ac 5) (c4 R0 hr (lc (gC hr (ac 0) (gD bU af)) (lc (ac 1) (lc (ac 2) (lc (ac 3) (l1 (ac 4))))))))))) aK)
  (aj (ap (ac 5))))))) rfl) rfl rfl 12
def gi:aw:=aR 5 (CL.fQ dI dy eZ)
def nB(T:Txt P w K mg):Hv P w K mg base 27 "_law_lines" 1 gi:=cQ ["_law_house_here","_law_held","_law_found","_law_d","_law_deed"] T.o__law_lines (fun _ _ _ _ _ _ _ hr nd=>(ad (s4 1 nd (c4 (kM T) hr (l1 (ac 0))))
  (ad (s4 2 nd (bw cG))
  (ad (bZ SX rfl (kl rfl rfl T.H_ (by decide +kernel) (l1 (aH hr (ac 0)))) (nZ rfl (aL (gn 3 nd) (aL (gn 4 nd) cA))) (ad (bL (o9 ft gK (ac 2) (l1 (m5 ["_law_d"] 1 [3] ["_law_one_here","_law_d"] (bA (c4 (il T) hr (lc (aH hr (ac 4)) (lc (aH hr (ac 0)) (l1 (ac 1)))))) (fun _=>(gn 0 A1)) (fun _=>bO) (fun _=>(aB aJ (ax (lc (ac 1) (l1 eu))) (ac 0)))))))
  (aj (bL (o9 ft gK (ac 2) (l1 (m5 ["_law_d"] 1 [3] ["_law_one_here","_law_d"] (bA (c4 (mV T) hr (lc (aH hr (ac 4)) (lc (aH hr (ac 0)) (lc (ac 1) (lc (bw (l1 af)) (l1 Cf))))))) (fun _=>(gn 0 A1)) (fun _=>bO) (fun _=>(aB aJ (ax (l1 (ac 1))) (ac 0))))))))))
  (aj (ap (ac 2))))))) rfl
def gj(Hy Lg Hu:aw):bB:=(ai (bq (lU (aP (ah (br true) (al bG [(v3 3)]) (al bG [(v3 0)]))) (aP (al oO [(aF (aE (v3 3)) (.n 0) bH (ah l8 (ah ae (v3 0) (c3 (.int 0))) (c3 (.int 0))) 1 [])]))) (av (c3 .non)) aN)
  (ai (aq 5 (ah bJ (bx [(ay [(c3 (.int 0)),(c3 (.int 1))])]) (v3 1)))
  (ai (aq 6 (ah bJ (bx [(ay [(c3 (.int 0)),(c3 (.int 1))])]) (v3 2)))
  (ai (aq 7 (ay [(c3 (.int 0)),(c3 (.int 1))]))
  (ai (bz (gB (v3 3) (v3 0)) (.tp (.cons (.n 4) (.cons (.n 8) .nil))) (ai (aq 5 (aF (gB (v3 5) (ah ae (v3 8) (c3 (.int 3)))) (.tp (.cons (.n 0) (.cons (.n 1) .nil))) bH (ab Hy [(v3 0),(ab Lg [(v3 2),(v3 1)])]) 2 [4]))
  (ai (aq 7 (ab Hy [(v3 7),(ab Hu [(ah bJ (ah ae (v3 4) (c3 (.int 0))) (ah ae (ah ae (v3 8) (c3 (.int 2))) (c3 (.int 0)))),(ah bJ (ah ae (v3 4) (c3 (.int 1))) (ah ae (ah ae (v3 8) (c3 (.int 2))) (c3 (.int 1))))])]))
  (bq (aP (ah (qp false) (ah ae (v3 8) (c3 (.int 1))) (c3 .non))) (eg (ab Hy [(ah ae (v3 6) (ah ae (v3 8) (c3 (.int 0)))),(v3 4)]) (v3 6) (ah ae (v3 8) (c3 (.int 0)))) aN))))
  (ai (bq (aP (al oO [(aF (aE (v3 5)) (.n 0) bH (ah l8 (ah ae (v3 0) (c3 (.int 0))) (c3 (.int 0))) 1 [])])) (av (c3 .non)) aN)
  (av (ay [(al aZ [(v3 6)]),(v3 7)]))))))))
def gk:aw:=aR 9 (gj b8 j0 b5)
def nC(T:Txt P w K mg):Hv P w K mg base 3 "_law_shown" 4 gk:=cQ ["_law_rows","_law_jars","_law_deeds","_law_shares","_law_share_here","_law_effects","_law_mix","_law_cost_here","_law_each"] T.o__law_shown (fun _ _ _ _ _ _ _ hr nd=>(ad (ba (rB (ls (DB hr (cB bS T.Hx (l1 (ac 3))) (cB bS T.Hx (l1 (ac 0)))) (iC (eA (cB (ww rfl) T.MH (l1 (m5 [] 1 [] ["_law_share_here"] (bA (ac 3)) (fun _=>(gn 0 Fk)) (fun _=>bO) (fun _=>(fi ko (aH hr (ac 0)) af (aV _)))))))))) (aj (ap eu)) aK)
  (ad (s4 5 nd (aB bg (bw (l1 (ax (lc af (l1 af))))) (ac 1)))
  (ad (s4 6 nd (aB bg (bw (l1 (ax (lc af (l1 af))))) (ac 2)))
  (ad (s4 7 nd (ax (lc af (l1 af))))
  (ad (bZ SX rfl (me rfl rfl rfl T.JG (by decide +kernel) (lc (ac 3) (l1 (ac 0)))) (nZ rfl (aL (gn 4 nd) (aL (gn 8 nd) cA))) (ad (AQ ["_law_share_here"] 2 [4] ["_law_one_here","_law_more","_law_share_here"] 5 nd (me rfl rfl rfl T.JG (by decide +kernel) (lc (ac 5) (l1 (aH hr (ac 8))))) (fun _=>(nZ rfl (aL (gn 0 A2) (aL (gn 1 A2) cA)))) (fun _=>bO) (fun _=>(c4 (cO T) hr (lc (ac 0) (l1 (c4 (ny T) hr (lc (ac 2) (l1 (ac 1)))))))))
  (ad (s4 7 nd (c4 (cO T) hr (lc (ac 7) (l1 (c4 (dB T) hr (lc (aB bg (aH hr (ac 4)) (aH hr (aH hr (ac 8)))) (l1 (aB bg (aH hr (ac 4)) (aH hr (aH hr (ac 8)))))))))))
  (aj (ba (bv AL (aH hr (ac 8)) eu (aV _)) (aj (gL (tE hr) (c4 (cO T) hr (lc (gC hr (ac 6) (aH hr (ac 8))) (l1 (ac 4)))) (ac 6) (aH hr (ac 8)))) aK)))))
  (ad (ba (eA (cB (ww rfl) T.MH (l1 (m5 [] 1 [] ["_law_one_here"] (bA (ac 5)) (fun _=>(gn 0 xS)) (fun _=>bO) (fun _=>(fi ko (aH hr (ac 0)) af (aV _))))))) (aj (ap eu)) aK)
  (aj (ap (ax (lc (cT bV T.Hn (l1 (ac 6))) (l1 (ac 7))))))))))))) rfl
def gq(Hd Hu:aw):bB:=(ai (aq 1 (ab Hd [(v3 0),(c3 (.int 5))]))
  (ai (bq (aP (ah l8 (v3 1) (c3 (.int 2)))) (av (ay [(c3 (.int 0)),(c3 (.int 1))])) aN)
  (av (ab Hu [(ab Hd [(v3 0),(ah ae (bx [(c3 (.int 4)),(c3 (.int 30)),(c3 (.int 2000))]) (ah ck (v3 1) (c3 (.int 2))))]),(ah aU (c3 (.int 1)) (ab Hd [(v3 0),(c3 (.int 9))]))]))))
def gr:aw:=aR 2 (gq w__law_draw b5)
def nE(T:Txt P w K mg):Hv P w K mg base 2 "_law_share" 1 gr:=cQ ["_law_deal_here","_law_form"] T.o__law_share (fun _ _ _ _ _ _ _ hr nd=>(ad (s4 1 nd (c4 (ao T) hr (lc (ac 0) (l1 af))))
  (ad (ba (bv ko (ac 1) af (aV _)) (aj (ap (ax (lc af (l1 af))))) aK)
  (aj (ap (c4 (dB T) hr (lc (c4 (ao T) hr (lc (ac 0) (l1 (gC hr (bw (lc af (lc af (l1 af)))) (aB dJ (ac 1) af))))) (l1 (aB aJ af (c4 (ao T) hr (lc (ac 0) (l1 af)))))))))))) rfl
def gu(Hd Lh:aw):bB:=(ai (aq 2 (ah (br false) (ab Hd [(v3 0),(c3 (.int 2))]) (c3 (.int 0))))
  (ai (aq 3 (bx []))
  (ai (bz (aE (v3 1)) (.n 4) (ai (aq 5 (ab Lh [(v3 0)]))
  (ai (bq (iP (aP (v3 2)) (aP (ah l8 (ah tH (ah ae (v3 4) (c3 (.int 3))) (c3 (.int 0))) (c3 (.int 0))))) (aq 5 (ay [(c3 (.int 0)),(c3 (.int 1))])) aN)
  (aW (eR "list" bf (v3 3) [(v3 5)])))))
  (av (v3 3)))))
def gv:aw:=aR 6 (gu w__law_draw gr)
def nF(T:Txt P w K mg):Hv P w K mg base 3 "_law_drawn" 2 gv:=cQ ["_law_deal_here","_law_rows","_law_calm","_law_found","_law_each","_law_share_here"] T.o__law_drawn (fun _ _ _ _ _ _ _ hr nd=>(ad (s4 2 nd (fi (kY (iG hr)) (c4 (ao T) hr (lc (ac 0) (l1 af))) af (aV _)))
  (ad (s4 3 nd (bw cG))
  (ad (bZ SX rfl (bA (ac 1)) (gn 4 nd) (ad (s4 5 nd (c4 (nE T) hr (l1 (ac 0))))
  (ad (ba (rB (lV (eA (ac 2)) (kg (bv ko (G9 (Cz rfl) T.Oi (aH hr (ac 4)) af) af (aV _))))) (aj (s4 5 nd (ax (lc af (l1 af))))) aK)
  (aj (bL (o9 cj cI (ac 3) (l1 (ac 5))))))))
  (aj (ap (ac 3))))))) rfl
def dg(Hd Hy:aw):bB:=(ai (aq 3 (ab Hd [(v3 0),(al bG [(v3 1)])]))
  (ai (aq 4 (al fI [(v3 2)]))
  (ai (eg (ab Hy [(ah ae (v3 4) (v3 3)),(ay [(ab Hd [(v3 0),(c3 (.int 400))]),(ah aU (c3 (.int 1)) (ab Hd [(v3 0),(c3 (.int 3))]))])]) (v3 4) (v3 3))
  (av (v3 4)))))
def dh:aw:=aR 5 (dg w__law_draw b8)
def eN(T:Txt P w K mg):Hv P w K mg base 3 "_law_filled_up" 3 dh:=cQ ["_law_deal_here","_law_rows","_law_shares","_law_at","_law_found"] T.o__law_filled_up (fun _ _ _ _ _ _ _ hr nd=>(ad (s4 3 nd (c4 (ao T) hr (lc (ac 0) (l1 (cB bS T.Hx (l1 (ac 1)))))))
  (ad (s4 4 nd (cT (wv rfl) T.L0 (l1 (ac 2))))
  (ad (gL (tE hr) (c4 (cO T) hr (lc (gC hr (ac 4) (ac 3)) (l1 (ax (lc (c4 (ao T) hr (lc (ac 0) (l1 af))) (l1 (aB aJ af (c4 (ao T) hr (lc (ac 0) (l1 af)))))))))) (ac 4) (ac 3))
  (aj (ap (ac 4))))))) rfl
def e8(Hd:aw):bB:=(ai (aq 2 (ab Hd [(v3 0),(al bG [(v3 1)])]))
  (ai (aq 3 (ab Hd [(v3 0),(c3 (.int 4))]))
  (ai (aq 4 (al fI [(v3 1)]))
  (ai (bq (aP (ah (br false) (v3 3) (c3 (.int 0)))) (eg (ay [(gH bY (c3 (.int 1))),(ah aU (c3 (.int 1)) (ab Hd [(v3 0),(c3 (.int 9))]))]) (v3 4) (v3 2)) (bq (aP (ah (br false) (v3 3) (c3 (.int 1)))) (aW (eR "list" qt (v3 4) [(v3 2)])) (bq (aP (ah (br false) (v3 3) (c3 (.int 2)))) (aW (eR "list" lB (v3 4) [(v3 2),(ay [(c3 (.int 0)),(c3 (.int 1))])])) aN)))
  (av (v3 4))))))
def e9:aw:=aR 5 (e8 w__law_draw)
def mW(T:Txt P w K mg):Hv P w K mg base 2 "_law_spoilt" 2 e9:=cQ ["_law_deal_here","_law_shares","_law_at","_law_form","_law_found"] T.o__law_spoilt (fun _ _ _ _ _ _ _ hr nd=>(ad (s4 2 nd (c4 (ao T) hr (lc (ac 0) (l1 (cB bS T.Hx (l1 (ac 1)))))))
  (ad (s4 3 nd (c4 (ao T) hr (lc (ac 0) (l1 af))))
  (ad (s4 4 nd (cT (wv rfl) T.L0 (l1 (ac 1))))
  (ad (ba (fB hr (ac 3) af) (aj (gL (tE hr) (ax (lc (gD bU af) (l1 (aB aJ af (c4 (ao T) hr (lc (ac 0) (l1 af))))))) (ac 4) (ac 2))) (aj (ba (fB hr (ac 3) af) (aj (bL (o9 wN AM (ac 4) (l1 (ac 2))))) (aj (ba (fB hr (ac 3) af) (aj (bL (o9 uL wI (ac 4) (lc (ac 2) (l1 (ax (lc af (l1 af)))))))) aK)))))
  (aj (ap (ac 4)))))))) rfl
def xY(LF Li Lj Lk Jl KN Kb KE Ll:aw):bB:=(ai (aq 1 (ab LF [(v3 0),(c3 (.int 0))]))
  (ai (aq 2 (ab Li [(v3 1),(c3 (.int 3)),(c3 (.int 4)),(c3 (.int 14))]))
  (ai (aq 3 (ab Lj [(v3 2)]))
  (ai (aq 4 (ay [(al bG [(ah ae (v3 2) (c3 (.int 0)))]),(al bG [(ah ae (v3 2) (c3 (.int 1)))])]))
  (ai (aq 5 (ab Lk [(v3 1),(v3 3)]))
  (ai (aq 6 (ab Jl [(v3 1),(v3 3),(v3 5)]))
  (ai (bz (aE (ay [(v3 5),(v3 6),(ab KN [(v3 1),(v3 6)]),(ab Jl [(v3 1),(v3 3),(v3 6)]),(v3 5)])) (.n 7) (bq (ni (aP (ab Kb [(ab KE [(v3 2),(al aZ [(v3 7)])]),(ab Ll [(v3 3),(ah ae (v3 4) (c3 (.int 0))),(ah ae (v3 4) (c3 (.int 1))),(v3 7)])]))) (av (c3 (.bl false))) aN))
  (av (ab Kb [(ab KE [(v3 2),(ah k7 (ay [(ay [(c3 (.int 0)),(c3 (.int 1))])]) (al bG [(v3 3)]))]),(ay [(ah k7 (ay [(ay [(c3 (.int 0)),(c3 (.int 1))])]) (ah ae (v3 4) (c3 (.int 1)))),(ay [(c3 (.int 0)),(c3 (.int 1))])])])))))))))
def re:aw:=aR 8 (xY ll gh gi gv dh e9 j2 jd gk)
def Df(T:Txt P w K mg){f:Addr}{fd:FuncData}(O:FG K mg "law" (a_ 69) ["_law_script"] f fd):MN P w K mg base 32 f fd ["_law_script"] re:=G5 ["_law_script","_law_deal_here","_law_house_here","_law_rows","_law_many","_law_shares","_law_more","_law_some"] O (fun _ _ _ _ _ _ _ hr nd=>(ad (s4 1 nd (c4 (pU T) hr (lc (ac 0) (l1 af))))
  (ad (s4 2 nd (c4 (nA T) hr (lc (ac 1) (lc af (lc af (l1 af))))))
  (ad (s4 3 nd (c4 (nB T) hr (l1 (ac 2))))
  (ad (s4 4 nd (ax (lc (cB bS T.Hx (l1 (aH hr (ac 2)))) (l1 (cB bS T.Hx (l1 (aH hr (ac 2))))))))
  (ad (s4 5 nd (c4 (nF T) hr (lc (ac 1) (l1 (ac 3)))))
  (ad (s4 6 nd (c4 (eN T) hr (lc (ac 1) (lc (ac 3) (l1 (ac 5))))))
  (ad (bZ SX rfl (bA (ax (lc (ac 5) (lc (ac 6) (lc (c4 (mW T) hr (lc (ac 1) (l1 (ac 6)))) (lc (c4 (eN T) hr (lc (ac 1) (lc (ac 3) (l1 (ac 6))))) (l1 (ac 5)))))))) (gn 7 nd) (aj (ba (tm (eA (c4 (iK T) hr (lc (c4 (lj T) hr (lc (ac 2) (l1 (cT bV T.Hn (l1 (ac 7)))))) (l1 (c4 (nC T) hr (lc (ac 3) (lc (aH hr (ac 4)) (lc (aH hr (ac 4)) (l1 (ac 7))))))))))) (aj (ap Cf)) aK)))
  (aj (ap (c4 (iK T) hr (lc (c4 (lj T) hr (lc (ac 2) (l1 (aB lC (ax (l1 (ax (lc af (l1 af))))) (cB bS T.Hx (l1 (ac 3))))))) (l1 (ax (lc (aB lC (ax (l1 (ax (lc af (l1 af))))) (aH hr (ac 4))) (l1 (ax (lc af (l1 af))))))))))))))))))) rfl
end
end G41
namespace G41
open PySem L2 L3 Wd
open C CW CL
theorem mX{a b:Int}:∀{xs ys:Vu},xs.length=ys.length->m6 (xs++[a]) (ys++[b])=m6 xs ys+a * b
 |[],[],_=>by simp[m6]
 |x::xs,y::ys,h=>by
  have:=mX (a:=a) (b:=b) (xs:=xs) (ys:=ys) (WZ h)
  simp only[List.cons_append,m6]at this ⊢
  omega
def rf{L:List Ln}{ns:Vu}{l:Ln}{n:Int}{d:Nat}(h:L.length=ns.length):iy (L++[l]) (ns++[n]) d=iy L ns d+(if (decide (l.d=d)&&MQ l.who)=true then n else 0):=by
 unfold iy
 rw[List.zip_append h,U8,Te,List.sum_append]
 congr 1
 by_cases e:(decide (l.d=d)&&MQ l.who)=true
 ·rw[if_pos e];simp[e]
 ·rw[if_neg e];simp[e]
def xZ{α:Type}(a b:α->PV)(l:List α):bh (l.map a) (l.map b)=l.map fun x=>.tup [a x,b x]:=by
 unfold bh
 induction l with
 |nil=>rfl
 |cons x r ih=>simp only[SH,List.zip_cons_cons,ih]
def Dg{es:Vu}{k:Nat}(h:es.length=k):es.map PV.int=(List.range k).map fun j=>.int (es.getD j 0):=by
 apply WT
 intro i
 rw[SA,SA]
 by_cases hi:i < k
 ·rw[Up hi,SR (by omega),WC,WC,VP,SR (by omega)];rfl
 ·rw[Ua (by omega),Ua (by simp;omega)];rfl
abbrev pY(w:aw):Prop:=∀{S:az} {i B n:Int} {Q:bj} {E:bK},i.natAbs < jS->Fq B n->Q (cq B (n * i)) S->w [cq B n,.int i] S Q E
def vk{xl:aw}(Ij:qP xl):pY (aR 2 (CL.fP xl)):=by
 intro S i B n Q E hi h k
 unfold CL.fP
 refine cC ?_
 rw[show ar 2 [cq B n,.int i]=[some (.tup [.int (M3.aO n B),.int (M3.aC n B)]),some (.int i)] from rfl]
 simp only[av,ab,ak,ah,v3,lk,c3,ae,cx,cR,bJ]
 have a:=h.sz
 have:=h.q1;have:=h.n1;have q0:=h.q0
 refine⟨(cr (by omega)).mul (cr (by omega)),?_⟩
 refine Ij a.2.2 (cr (by omega)) ?_
 rw[k_ (m:=n * i) a.2.2 q0 (by have w:=M3.bC (t:=n) (b:=B) (by omega);grind)]
 exact k
noncomputable def sJ(L:List Ln)(ns:Vu)(k:Nat):List PV:=(List.range k).map fun j=>cf (wj L ns j)
noncomputable def ly(L:List Ln)(ns:Vu)(m:Nat):List PV:=(List.range m).map fun d=>cf (iy L ns d)
def x9{k:Nat}{f:Nat->Int}(h:∀j,f j=0):(List.replicate k [(.tup [.int 0,.int 1]:PV)]).flatten=(List.range k).map fun j=>cf (f j):=by
 have:(fun j=>cf (f j))=fun _:Nat=>(.tup [.int 0,.int 1]:PV):=by funext j;rw[h j,dN]
 rw[this]
 induction k with
 |zero=>rfl
 |succ k ih=>rw[List.replicate_succ',List.flatten_append,ih,List.range_succ,Te];rfl
def Dh(j:Nat):wj [] [] j=0:=rfl
def Ak{L:List Ln}{ns:Vu}{l:Ln}{n:Int}{j:Nat}(h:L.length=ns.length):wj (L++[l]) (ns++[n]) j=wj L ns j+n * l.es.getD j 0:=by
 unfold wj
 rw[Te,SH,Tu,mX (by rw[Sm];exact h),Vh n]
theorem Jm.take{ns:Vu}(h:Jm ns)(i:Nat):Jm (ns.take i):=⟨Su (by rw[TY];omega) h.1,fun n hn=>h.2 n (UL hn)⟩
theorem LsOk.take{k m:Nat}{L:List Ln}(h:LsOk k m L)(i:Nat):LsOk k m (L.take i):=⟨Su (by rw[TY];omega) h.len,fun l hl=>h.ok l (UL hl)⟩
def Di{L:List Ln}{ns:Vu}{d:Nat}(hn:Jm ns):(iy L ns d).natAbs<=2 ^ 200:=by
 unfold iy
 refine Su (jT _) (Su (lF (M:=2 ^ 40) _ fun x hx=>?_) ?_)
 ·obtain⟨z,hz,rfl⟩:=SQ.mp hx
  exact hn.2 _ (UD (a:=z.1) (b:=z.2) (Ug.mp hz).1).2
 ·refine Su (VO _ (m:=1000000) ?_) (by decide)
  rw[Sm]
  refine Su (UG _ _) ?_
  rw[Um]
  have:=hn.1
  omega
abbrev je(w:aw):Prop:=∀{S:az} {pr ps:Addr} {k m:Nat} {L:List Ln} {ns:Vu} {Q:bj} {E:bK},LsOk k m L->Jm ns->k<=1000->m<=1000->S pr=some (.lst (L.map Ln.pv))->S ps=some (.lst (ns.map cf))->(∀S',Ext S S'->Q (p7 L k m ns) S')->w [.ref pr,.int (k:Int),.int (m:Int),.ref ps] S Q E
def t4{S:az}{σ:cF}{i:Nat}{p:Addr}{fs:Vu}{Q:bj}{E:bK}(hs:lk σ i=some (.ref p))(hp:S p=some (.lst (fs.map cf)))(hl:fs.length<=1000000)(k:∀S',Ext S S'->Q (.bl (fs.any fun n=>decide (n < 0))) S') :
  al oO [aF (aE (v3 i)) (.n 0) bH (ah l8 (ah ae (v3 0) (c3 (.int 0))) (c3 (.int 0))) 1 []] σ S Q E:=by
 simp only[al,ak,aF,aE,v3,hs,bF,hp]
 refine aQ cf (fun n=>.bl (decide (n < 0))) hp fs [] (fun n hnm=>⟨_,rfl,fun Q q=>?_⟩) (by rw[Tj,TJ];exact hZ hl) fun pc Ka=>?_
 ·simp only[cS,List.reduceReplicate,Tu,Ti,List.set_cons_zero,ah,v3,lk,c3,ae,cf,cx,l8,fj]
  have:=(C6 (Q:=2520) (n:=n) (by decide)).1
  rw[show decide (M3.aO n 2520 < 0)=decide (n < 0)from WX.mpr this]
  exact q
 rw[Tq]
 have f2:(He S pc (.lst (fs.map fun n=>.bl (decide (n < 0))))) pc=some (.lst ((fs.map fun n=>decide (n < 0)).map PV.bl)):=by rw[aa,SV];rfl
 refine xL f2 ?_
 rw[any_map]
 exact k _ (.new Ka)
def Dj(L:List Ln)(ns:Vu):bh (ns.map cf) (L.map Ln.pv)=(ns.zip L).map fun z=>.tup [cf z.1,z.2.pv]:=by
 unfold bh
 rw[Wh,SV]
 rfl
def t5{S:az}{k:Nat}{f:Nat->Int}{Q:bj}(hk:k<=1000)(h:∀j,f j=0)(kk:∀p S',S p=none->Ext S S'->S' p=some (.lst ((List.range k).map fun j=>cf (f j)))->Q (.ref p) S') :
  ∀p,S p=none->bJ (.ref p) (.int (k:Int)) (He S p (.lst [.tup [.int 0,.int 1]])) Q:=by
 intro p0 hp0
 simp only[bJ,aa,Int.toNat_natCast]
 refine⟨by omega,by omega,bN (by simp only[List.length_singleton];omega),fun pz MF=>?_⟩
 rw[x9 h]
 exact kk pz _ ((Ext.new hp0).free MF) ((Ext.new hp0).trans (.new MF)) aa
def turn{xp xm xl:aw}(Hq:mM xp)(HA:pY xm)(Ij:qP xl){S0 S:az}{pr ps pe pm:Addr}{k m:Nat}{L:List Ln}{ns:Vu}{l:Ln}{n c:Int}{K:cF->az->Prop}{D:nV}{x0 x1 x2 x3:PV}
  (hL:LsOk k m L) (hn:Jm ns) (OI:L.length=ns.length) (hl:C9 k m l) (hn1:n.natAbs<=2 ^ 40) (hk:k<=1000) (hm:m<=1000) (X:Ext S0 S) (P5:S0 pm=none) (fe:S pe=some (.lst (sJ L ns k))) (fm:S pm=some (.lst (ly L ns m))) (hnk:D.nx=K)
  (hc:c=m6 (L.map (·.c)) ns)
  (hK:∀OJ S',Ext S0 S'->S' OJ=some (.lst (sJ (L++[l]) (ns++[n]) k))->S' pm=some (.lst (ly (L++[l]) (ns++[n]) m))->K [some x0,some x1,some x2,some x3,some (cf n),some (.ref OJ),some (.ref pm),some (cq BB (m6 ((L++[l]).map (·.c)) (ns++[n]))),some l.pv] S') :
  ai (aq 5 (aF (gB (v3 5) (ah ae (v3 8) (c3 (.int 3)))) (.tp (.cons (.n 0) (.cons (.n 1) .nil))) bH (ab xp [(v3 0),(ab xm [(v3 2),(v3 1)])]) 2 [4]))
  (ai (aq 7 (ab xp [(v3 7),(ab xl [(ah bJ (ah ae (v3 4) (c3 (.int 0))) (ah ae (ah ae (v3 8) (c3 (.int 2))) (c3 (.int 0)))),(ah bJ (ah ae (v3 4) (c3 (.int 1))) (ah ae (ah ae (v3 8) (c3 (.int 2))) (c3 (.int 1))))])]))
  (bq (aP (ah (qp false) (ah ae (v3 8) (c3 (.int 1))) (c3 .non))) (eg (ab xp [(ah ae (v3 6) (ah ae (v3 8) (c3 (.int 0)))),(v3 4)]) (v3 6) (ah ae (v3 8) (c3 (.int 0)))) aN)) D [some x0,some x1,some x2,some x3,some (cf n),some (.ref pe),some (.ref pm),some (cq BB c),some l.pv] S:=by
 have Fn:Fq 2520 n:=Fs (by decide) (by decide) (Su hn1 (by decide))
 have lc:l.c.natAbs<=2 ^ 30:=by have:=hl.c0;have:=hl.c1;omega
 have Fc:Fq 2520 l.c:=Fs (by decide) (by decide) (Su lc (by decide))
 refine am fun N hN=>?_
 simp only[aq,aF,gB,ah,v3,lk,c3,ae,Ln.pv,EW,fe]
 have ez:bh (sJ L ns k) (l.es.map PV.int)=(List.range k).map fun j:Nat=>PV.tup [cf (wj L ns j),.int (l.es.getD j 0)]:=by
  unfold sJ
  rw[Dg hl.len,xZ]
 rw[ez]
 refine aQ (fun j:Nat=>PV.tup [cf (wj L ns j),.int (l.es.getD j 0)]) (fun j=>cf (wj (L++[l]) (ns++[n]) j)) (keep:=fun S=>S pe=some (.lst (sJ L ns k))) fe (List.range k) [] (fun j hj=>⟨_,rfl,fun Q q=>?_⟩) (by rw[Tj,TJ,UB];exact bN hk) fun pc Ka=>?_
 ·simp only[cS,List.reduceReplicate,SH,Tu,List.cons_append,List.nil_append,List.set_cons_zero,List.set_cons_succ,ab,ak,v3,lk]
  have he:(l.es.getD j 0).natAbs<=2 ^ 30:=xN (L:=[l]) (k:=k) (m:=m) ⟨by simp,fun y hy=>by rw[SM.mp hy];exact hl⟩ j _ (by simp)
  refine HA (E8 he) Fn ?_
  have hw:(wj L ns j).natAbs<=1000000 * 2 ^ 70:=by
   unfold wj
   rw[<-dP]
   exact Su (jT _) (jU hn (xN hL j))
  have hp:(n * l.es.getD j 0).natAbs<=2 ^ 70:=by
   rw[VL]
   exact Su (VN hn1 he) (by decide)
  refine Hq (Fs (by decide) (by decide) (Su hw (by decide))) (Fs (by decide) (by decide) (Su hp (by decide))) ?_
  rw[Ak OI]at q
  exact q
 rw[Tq]
 simp only[List.set_cons_zero,List.set_cons_succ]
 have nm:pm≠pc:=fun h=>by rw[<-h,fm]at Ka;cases Ka
 have X1:Ext S0 (He S pc (.lst ((List.range k).map fun j=>cf (wj (L++[l]) (ns++[n]) j)))):=X.trans (.new Ka)
 have P6:(He S pc (.lst ((List.range k).map fun j=>cf (wj (L++[l]) (ns++[n]) j)))) pc=some (.lst (sJ (L++[l]) (ns++[n]) k)):=aa
 have OK:(He S pc (.lst ((List.range k).map fun j=>cf (wj (L++[l]) (ns++[n]) j)))) pm=some (.lst (ly L ns m)):=by rw[au nm];exact fm
 have R4:=X.free Ka
 generalize He S pc (.lst ((List.range k).map fun j=>cf (wj (L++[l]) (ns++[n]) j)))=S1 at X1 P6 OK
 refine hN _ _ (am fun N hN=>?_)
 simp only[aq,ab,ak,ah,v3,lk,c3,ae,cx,cR,tI,cf,bJ]
 refine⟨(Fn.ok Fc).2.2,(Fn.ok Fc).2.1,?_⟩
 have s1:=Fn.sz;have s2:=Fc.sz
 have:=Fn.q1;have:=Fc.q1
 refine Ij (UY s1.2.2 s2.2.2) (pL (by omega) (by omega)) ?_
 rw[qT Fn Fc]
 have hd:c.natAbs<=1000000 * 2 ^ 70:=by
  rw[hc,<-dP]
  exact Su (jT _) (jU hn (AT hL))
 have hp2:(n * l.c).natAbs<=2 ^ 70:=by
  rw[VL]
  exact Su (VN hn1 lc) (by decide)
 refine Hq (B:=2520 * 2520) (Fs (by decide) (by decide) (Su hd (by decide))) (Fs (by decide) (by decide) (Su hp2 (by decide))) ?_
 refine hN _ _ ?_
 rw[show c+n * l.c=m6 ((L++[l]).map (·.c)) (ns++[n]) by rw[Te,SH,Tu,mX (by rw[Sm];exact OI),hc,Vh n]]
 simp only[List.set_cons_zero,List.set_cons_succ,bq,aP,ah,v3,lk,c3,ae,cR]
 refine xP hl.who ?_
 cases hw:MQ l.who with
 |true=>
  simp only[TH,eg,ab,ak,ah,v3,lk,c3,ae,cx,OK]
  have hlt:l.d < (ly L ns m).length:=by unfold ly;rw[Sm,UB];exact hl.d
  rw[show Ii (ly L ns m) (l.d:Int)=some (cf (iy L ns l.d))from b9 (by unfold ly;rw[SA,Up hl.d];rfl)]
  refine Hq (B:=2520) (n:=iy L ns l.d) (m:=n) (Fs (by decide) (by decide) (Di hn)) Fn ?_
  simp only[dC,OK,lD hlt]
  rw[hnk]
  refine hK pc _ (X1.put P5) (by rw[au (UO nm)];exact P6) ?_
  rw[aa]
  congr 2
  unfold ly
  apply WT
  intro i
  rw[List.getElem?_set,SA,SA]
  by_cases hi:i < m
  ·rw[Up hi,WC,WC,rf OI]
   by_cases e:l.d=i
   ·rw[if_pos e,if_pos (by rw[Sm,UB];omega),if_pos (by simp[e,hw]),e];rfl
   ·rw[if_neg e,if_neg (by simp[e]),Int.add_zero]
  ·rw[if_neg (fun e=>hi (by rw[<-e];exact hl.d)),Ua (by simp;omega)]
   rfl
 |false=>
  simp only[SD,Tt,aN]
  rw[hnk]
  refine hK pc S1 X1 P6 ?_
  rw[OK]
  congr 2
  unfold ly
  exact TV fun d _=>by rw[rf OI,if_neg (by simp[hw]),Int.add_zero]
def vm{xp xm xl:aw}(Hq:mM xp)(HA:pY xm)(Ij:qP xl):je (aR 9 (gj xp xm xl)):=by
 intro S pr ps k m L ns Q E hL hn hk hm fr fs kk
 unfold gj
 refine cC ?_
 rw[show ar 9 [.ref pr,.int (k:Int),.int (m:Int),.ref ps]=[some (.ref pr),some (.int (k:Int)),some (.int (m:Int)),some (.ref ps),none,none,none,none,none] from rfl]
 refine am fun N hN=>?_
 have bad:(ns.length≠L.length\/(ns.any fun n=>decide (n < 0))=true)->p7 L k m ns = .non:=fun h=>by unfold p7;rw[if_pos h]
 simp only[bq,lU]
 have second:ns.length=L.length->aP (al oO [aF (aE (v3 3)) (.n 0) bH (ah l8 (ah ae (v3 0) (c3 (.int 0))) (c3 (.int 0))) 1 []]) [some (.ref pr),some (.int (k:Int)),some (.int (m:Int)),some (.ref ps),none,none,none,none,none] S
   (fun b S'=>if b=true then av (c3 .non) { nx:=N,rt:=Q,ex:=dW } [some (.ref pr),some (.int (k:Int)),some (.int (m:Int)),some (.ref ps),none,none,none,none,none] S' else aN { nx:=N,rt:=Q,ex:=dW } [some (.ref pr),some (.int (k:Int)),some (.int (m:Int)),some (.ref ps),none,none,none,none,none] S') dW:=by
  intro e1
  unfold aP
  refine t4 rfl fs hn.1 fun S1 X1=>?_
  cases e2:ns.any fun n=>decide (n < 0)with
  |true=>
   simp only[TH,av,c3]
   have:=kk S1 X1
   rw[bad (.inr e2)]at this
   exact this
  |false=>
   simp only[SD,Tt,aN]
   -- the sums
   refine hN _ _ (am fun N hN=>?_)
   simp only[aq,ah,bx,ay,ak,v3,lk,c3]
   refine t5 hk (f:=wj [] []) Dh fun pe S2 hpe X2 fe=>?_
   refine hN _ _ (am fun N hN=>?_)
   simp only[aq,ah,bx,ay,ak,v3,lk,c3,List.set_cons_zero,List.set_cons_succ]
   refine t5 hm (f:=iy [] []) (fun _=>rfl) fun pm S3 P5 X3 fm=>?_
   have P7:=(X1.trans X2).free P5
   refine hN _ _ (am fun N hN=>?_)
   simp only[aq,ay,ak,c3,List.set_cons_zero,List.set_cons_succ]
   refine hN _ _ (am fun N hN=>?_)
   have P8:=(X1.trans X2).trans X3
   have R5:=X3 _ _ fe
   simp only[bz,gB,v3,lk,P8 _ _ fs,P8 _ _ fr]
   rw[Dj]
   refine bb (fun done σ S'=>Ext S S'/\done.length<=ns.length/\∃(pe:Addr) (x4 x8:Option PV),σ=[some (.ref pr),some (.int (k:Int)),some (.int (m:Int)),some (.ref ps),x4,some (.ref pe),some (.ref pm),some (cq BB (m6 ((L.take done.length).map (·.c)) (ns.take done.length))),x8]/\S' pe=some (.lst (sJ (L.take done.length) (ns.take done.length) k))/\S' pm=some (.lst (ly (L.take done.length) (ns.take done.length) m))) ⟨P8,Tr _,pe,_,_,by rw[pM (B:=BB) (by decide)];rfl,R5,fm⟩ (fun _ _ _ ⟨X,_⟩=>⟨X _ _ fs,X _ _ fr⟩) ?_ ?_
   ·rintro done x rest σ S4 K e ⟨X4,QO,QP,x4,x8,rfl,OL,OM⟩ hK
    have hget:((ns.zip L).map fun z=>PV.tup [cf z.1,z.2.pv])[done.length]?=some x:=by rw[e];simp
    obtain⟨⟨n,l⟩,hz,rfl⟩:∃q,(ns.zip L)[done.length]?=some q/\PV.tup [cf q.1,q.2.pv]=x:=by rw[SA]at hget;exact To.mp hget
    obtain⟨h1,h2⟩:=UE.mp hz
    have hlt:done.length < ns.length:=(Td.mp h1).1
    simp only[Tg.put,Tg.Hi,List.set_cons_zero,List.set_cons_succ]
    have en:ns.take (done.length+1)=ns.take done.length++[n]:=by rw[Uj,h1];rfl
    have eL:L.take (done.length+1)=L.take done.length++[l]:=by rw[Uj,h2];rfl
    refine turn Hq HA Ij (S0:=S) (pr:=pr) (ps:=ps) (LsOk.take hL done.length) (Jm.take hn done.length) (by rw[TY,TY,e1]) (hL.ok l (SY h2)) (hn.2 n (SY h1)) hk hm X4 P7 OL OM rfl rfl fun OJ S5 X5 ON QQ=>?_
    rw[<-en,<-eL]at ON QQ ⊢
    refine hK _ _ ⟨X5,by rw[Sn,SK];exact hlt,OJ,some (cf n),some l.pv,?_,?_,?_⟩
    ·rw[Sn,SK]
    ·rw[Sn,SK];exact ON
    ·rw[Sn,SK];exact QQ
   ·rintro σ S4 ⟨X4,QO,QP,x4,x8,rfl,OL,OM⟩
    have el:((ns.zip L).map fun z=>PV.tup [cf z.1,z.2.pv]).length=ns.length:=by rw[Sm,Um,e1,Nat.min_self]
    rw[el,T3,e1,T3]at OL OM ⊢
    refine hN _ _ (am fun N hN=>?_)
    simp only[bq]
    unfold aP
    have ON:S4 QP=some (.lst (((List.range k).map fun j=>wj L ns j).map cf)):=by rw[OL,SV];rfl
    refine t4 rfl ON (by rw[Sm,UB];omega) fun S5 X5=>?_
    have ea:(((List.range k).map fun j=>wj L ns j).any fun n=>decide (n < 0))=(List.range k).any fun j=>decide (wj L ns j < 0):=by rw[List.any_map];rfl
    rw[ea]
    have good:¬(ns.length≠L.length\/(ns.any fun n=>decide (n < 0))=true):=by rw[e2];simp[e1]
    cases e3:(List.range k).any fun j=>decide (wj L ns j < 0)with
    |true=>
     simp only[TH,av,c3]
     have:=kk S5 (X4.trans X5)
     rw[show p7 L k m ns = .non by unfold p7;rw[if_neg good,if_pos e3]]at this
     exact this
    |false=>
     simp only[SD,Tt,aN]
     refine hN _ _ ?_
     simp only[av,ay,ak,al,v3,lk,aZ,jr,X5 _ _ OM]
     have:=kk S5 (X4.trans X5)
     rw[show p7 L k m ns = .tup [.tup (ly L ns m),cq BB (m6 (L.map (·.c)) ns)] by unfold p7 ly;rw[if_neg good,if_neg (by rw[e3];simp)]]at this
     exact this
 by_cases e1:ns.length=L.length
 ·simp only[aP,ah,al,ak,v3,lk,bG,fs,fr,br,Sm]
  rw[Tp (show(ns.length:Int)=(L.length:Int) by omega)]
  simp only[TF,Uv,SD,Tt]
  exact second e1
 ·simp only[aP,ah,al,ak,v3,lk,bG,fs,fr,br,Sm]
  rw[Tc (show ¬((ns.length:Int)=(L.length:Int)) by omega)]
  simp only[TF,Ui,TH,av,c3]
  have:=kk S .refl
  rw[bad (.inl e1)]at this
  exact this
def t6{t b:Int}(hb:1<=b)(h9:b<=9):cq b t=cf (t * (2520 / b)):=by
 refine k_ (by omega) (by decide) ?_
 have:b * (2520 / b)=2520:=by
  obtain rfl|rfl|rfl|rfl|rfl|rfl|rfl|rfl|rfl:b=1\/b=2\/b=3\/b=4\/b=5\/b=6\/b=7\/b=8\/b=9:=by omega
  all_goals decide
 rw[VX,Vh (2520 / b) b,this]
def sK{b:Int}(hb:1<=b):0<=2520 / b/\2520 / b<=2520:=⟨VG (by decide) (by omega),Wr _ (by decide)⟩
abbrev kN(w:aw):Prop:=∀{S:az} {d l:Addr} {Q:bj} {E:bK},Hl S d l->(∀n S',n.natAbs<=2 ^ 30->Hl S' d l->Iq d l S S'->Q (cf n) S')->w [.ref d] S Q E
def KF{xd xl:aw}(Hg:bT xd)(Ij:qP xl):kN (aR 2 (gq xd xl)):=by
 intro S d l Q E D k
 unfold gq
 refine cC ?_
 rw[show ar 2 [PV.ref d]=[some (.ref d),none] from rfl]
 refine am fun N hN=>?_
 walk_at "x"
 refine Hg D (by decide) (by decide) fun f S1 f0 f1 D1 O1=>?_
 refine hN _ _ (am fun N hN=>?_)
 walk_at "x"
 simp only[SE]
 split
 ·rw[dN]
  exact k 0 S1 (by decide) D1 O1
 refine hN _ _ ?_
 simp only[av,ab,ak,ah,bx,v3,lk,c3,ck,fj,ae]
 intro p hp
 have dp:=D1.free hp
 simp only[aa]
 obtain⟨g,hg,g0,g1⟩:∃g:Int,Ii [PV.int 4,.int 30,.int 2000] (f - 2)=some (.int g)/\0 < g/\g<=2000:=by
  obtain rfl|rfl|rfl:f=2\/f=3\/f=4:=by omega
  ·exact⟨4,rfl,by decide,by decide⟩
  ·exact⟨30,rfl,by decide,by decide⟩
  ·exact⟨2000,rfl,by decide,by decide⟩
 rw[hg]
 refine Hg (D1.new hp) g0 (by omega) fun a S2 a0 a1 D2 O2=>?_
 refine Hg D2 (by decide) (by decide) fun b S3 b0 b1 D3 O3=>?_
 simp only[aU]
 refine Ij (by omega) (cr (VA (FJ (by omega)))) ?_
 rw[t6 (by omega) (by omega)]
 refine k _ S3 ?_ D3 (O1.trans ((Iq.new hp).trans (O2.trans O3)))
 have q:=sK (b:=1+b) (by omega)
 have:a * (2520 / (1+b))<=2000 * 2520:=WM (by omega) q.2 q.1 (by decide)
 have:0<=a * (2520 / (1+b)):=Us a0 q.1
 omega
structure Dk (S:az) (p:Addr) (B:Nat) (ns:Vu):Prop where
 at':S p=some (.lst (ns.map cf))
 b:∀n∈ns,n.natAbs<=B
abbrev kO(w:aw):Prop:=∀{S:az} {d l pr:Addr} {k m:Nat} {L:List Ln} {Q:bj} {E:bK},Hl S d l->LsOk k m L->S pr=some (.lst (L.map Ln.pv))->pr≠d->pr≠l->(∀p ns S',S p=none->ns.length=L.length->Dk S' p (2 ^ 30) ns->Hl S' d l->Iq d l S S'->Q (.ref p) S')->w [.ref d,.ref pr] S Q E
def KG{xd xs:aw}(Hg:bT xd)(KF:kN xs):kO (aR 6 (gu xd xs)):=by
 intro S d l pr k m L Q E D hL hr nd nl kk
 unfold gu
 refine cC ?_
 rw[show ar 6 [PV.ref d,PV.ref pr]=[some (.ref d),some (.ref pr),none,none,none,none] from rfl]
 refine am fun N hN=>?_
 walk_at "x"
 refine Hg D (by decide) (by decide) fun f S1 f0 f1 D1 O1=>?_
 simp only[br,SJ]
 generalize decide (f=0)=calm
 refine hN _ _ (am fun N hN=>?_)
 walk_at "x"
 intro pf hpf
 have dp:=D1.free hpf
 have R6:pr≠pf:=fun h=>by rw[<-h,O1 _ _ hr nd nl]at hpf;cases hpf
 have LG:S pf=none:=by
  cases e:S pf with
  |none=>rfl
  |some o=>have:=O1 _ _ e dp.1 dp.2;rw[hpf]at this;cases this
 refine hN _ _ (am fun N hN=>?_)
 have hr2:=Iq.new (d:=d) (l:=l) (o:=.lst []) hpf _ _ (O1 _ _ hr nd nl) nd nl
 simp only[bz,aE,v3,lk,bF,hr2]
 refine bb (fun done σ S'=>Hl S' d l/\Kt d l pf S S'/\∃(ns:Vu) (x4 x5:Option PV),ns.length=done.length/\Dk S' pf (2 ^ 30) ns/\σ=[some (.ref d),some (.ref pr),some (.bl calm),some (.ref pf),x4,x5]) ⟨D1.new hpf,fun a o h h1 h2 h3=>by rw[au h3];exact O1 a o h h1 h2,[],_,_,rfl,⟨aa,fun n hn=>nomatch hn⟩,rfl⟩ (fun _ _ _ ⟨_,O,_⟩=>O _ _ hr nd nl R6) ?_ ?_
 ·rintro done x rest σ S2 K e ⟨D2,O2,ns,x4,x5,hl,sh,rfl⟩ hK
  have hget:(L.map Ln.pv)[done.length]?=some x:=by rw[e];simp
  obtain⟨y,hy,rfl⟩:∃q,L[done.length]?=some q/\Ln.pv q=x:=by rw[SA]at hget;exact To.mp hget
  have hlt:=(Td.mp hy).1
  simp only[Tg.put,List.set_cons_zero,List.set_cons_succ]
  refine am fun N2 JV=>?_
  simp only[aq,ab,ak,v3,lk]
  refine KF D2 fun n S3 QR D3 O3=>?_
  simp only[List.set_cons_zero,List.set_cons_succ]
  have f3:=O3 _ _ sh.at' dp.1 dp.2
  have last:∀(n:Int),n.natAbs<=2 ^ 30->∀x4,aW (eR "list" bf (v3 3) [v3 5]) { nx:=K,rt:=Q,ex:=dW,bk:=N,ct:=K } [some (.ref d),some (.ref pr),some (.bl calm),some (.ref pf),x4,some (cf n)] S3:=by
   intro n hn x4
   simp only[aW,eR,p5,ak,v3,lk,f3,Vz,bf]
   have:=hL.len
   refine⟨Tf (show _<=1000000 by rw[Sm];omega) (by decide),hK _ _ ⟨?_,?_,ns++[n],_,_,?_,⟨?_,?_⟩,rfl⟩⟩
   ·exact Hl.upd D3 dp.1 dp.2
   ·intro a o h h1 h2 h3
    rw[au h3]
    exact O3 _ _ (O2 a o h h1 h2 h3) h1 h2
   ·rw[Sn,Sn,hl];rfl
   ·rw[aa,Te];rfl
   ·intro y hy
    rcases SI.mp hy with hy|hy
    ·exact sh.b y hy
    ·rw[SM.mp hy];exact hn
  refine JV _ _ (am fun N3 Lm=>?_)
  simp only[bq,iP,aP,v3,lk]
  cases calm with
  |false=>
   simp only[SD,Tt,aN]
   exact Lm _ _ (last n QR _)
  |true=>
   simp only[TH,ah,v3,lk,c3,ae,Ln.pv,EW,tH,qy]
   intro M _
   simp only[l8,fj]
   split
   ·simp only[aq,ay,ak,c3,List.set_cons_zero,List.set_cons_succ]
    rw[dN]
    exact Lm _ _ (last 0 (by decide) _)
   ·exact Lm _ _ (last n QR _)
 ·rintro σ S2 ⟨D2,O2,ns,x4,x5,hl,sh,rfl⟩
  refine hN _ _ ?_
  rw[Sm]at hl
  walk_at "x"
  refine kk pf ns S2 LG hl sh D2 fun a o h h1 h2=>O2 a o h h1 h2 fun e=>?_
  rw[e,LG]at h
  cases h
def Dl{r n:Nat}(h:r < n):seqIndex? (r:Int) n=some r:=by
 unfold seqIndex?
 simp
 omega
theorem mY{α β:Type}(f:α->β):∀(xs:List α) (i:Nat),(xs.map f).eraseIdx i=(xs.eraseIdx i).map f
 |[],_=>rfl
 |_::_,0=>rfl
 |x::r,i+1=>by simp only[SH,List.eraseIdx_cons_succ];rw[mY f r i]
def Fl{ns:Vu}{i:Nat}{n:Int}(h:ns[i]?=some n):Ii (ns.map cf) (i:Int)=some (cf n):=b9 (by rw[SA,h];rfl)
def x_{ns:Vu}{i:Nat}{m:Int}:(ns.map cf).set i (cf m)=(ns.set i m).map cf:=by rw[List.map_set]
def rg{ns:Vu}{i:Nat}{m y:Int}(h:y∈ns.set i m):y∈ns\/y=m:=List.mem_or_eq_of_mem_set h
abbrev jf(w:aw):Prop:=∀{S:az} {d l pr ps:Addr} {B:Nat} {rows:List PV} {ns:Vu} {Q:bj} {E:bK},Hl S d l->1<=rows.length->rows.length<=4000->S pr=some (.lst rows)->pr≠d->pr≠l->Dk S ps B ns->B<=2 ^ 35->ps≠d->ps≠l->ns.length=rows.length->(∀p ns' S',S p=none->ns'.length=ns.length->Dk S' p (B+2 ^ 30) ns'->Hl S' d l->Iq d l S S'->Q (.ref p) S')->w [.ref d,.ref pr,.ref ps] S Q E
def vn{xd xp:aw}(Hg:bT xd)(Hq:qR xp):jf (aR 5 (dg xd xp)):=by
 intro S d l pr ps B rows ns Q E D h1 h2 hr nd nl sh hB OO OP hln kk
 unfold dg
 refine cC ?_
 rw[show ar 5 [PV.ref d,PV.ref pr,PV.ref ps]=[some (.ref d),some (.ref pr),some (.ref ps),none,none] from rfl]
 refine am fun N hN=>?_
 simp only[aq,ab,al,ak,v3,lk,bG,hr]
 refine Hg D (by omega) (by omega) fun r S1 r0 r1 D1 O1=>?_
 obtain⟨i,rfl⟩:∃i:Nat,r=(i:Int):=⟨r.toNat,by omega⟩
 have hi:i < ns.length:=by omega
 obtain⟨n,hn⟩:∃n,ns[i]?=some n:=⟨_,SR hi⟩
 have bn:=sh.b n (SY hn)
 have f1:=O1 _ _ sh.at' OO OP
 refine hN _ _ (am fun N hN=>?_)
 simp only[aq,al,ak,v3,lk,fI,jr,f1,List.set_cons_zero,List.set_cons_succ]
 intro pf hpf
 have dp:=D1.free hpf
 have LG:S pf=none:=by
  cases e:S pf with
  |none=>rfl
  |some o=>have:=O1 _ _ e dp.1 dp.2;rw[hpf]at this;cases this
 have D2:=D1.new (o:=.lst (ns.map cf)) hpf
 have O2:Iq d l S (He S1 pf (.lst (ns.map cf))):=O1.trans (.new hpf)
 have f2:(He S1 pf (.lst (ns.map cf))) pf=some (.lst (ns.map cf)):=aa
 generalize He S1 pf (.lst (ns.map cf))=S2 at D2 O2 f2
 refine hN _ _ (am fun N hN=>?_)
 simp only[eg,ab,ak,ah,ay,v3,lk,c3,ae,f2,Fl hn]
 refine Hg D2 (by decide) (by decide) fun a S3 a0 a1 D3 O3=>?_
 refine Hg D3 (by decide) (by decide) fun b S4 b0 b1 D4 O4=>?_
 simp only[aU]
 have f4:=O4 _ _ (O3 _ _ f2 dp.1 dp.2) dp.1 dp.2
 have q:=sK (b:=1+b) (by omega)
 have ed:(1+b) * (2520 / (1+b))=2520:=by
  obtain rfl|rfl|rfl:b=0\/b=1\/b=2:=by omega
  all_goals decide
 refine E9 Hq (B:=2520) (f:=n) (m:=a * (2520 / (1+b))) (Fs (by decide) (by decide) (Su bn (Su hB (by decide)))) (by omega) (VA (FJ (by omega))) (FJ (by omega)) (by rw[VX,Vh (2520 / (1+b)),ed]) ?_
 have hlt:i < (ns.map cf).length:=by rw[Sm];exact hi
 simp only[dC,f4,lD hlt]
 rw[show(cq 2520 (n+a * (2520 / (1+b))))=cf (n+a * (2520 / (1+b)))from rfl,x_]
 refine hN _ _ ?_
 walk_at "x"
 have u1:a * (2520 / (1+b))<=400 * 2520:=WM (by omega) q.2 q.1 (by decide)
 have u0:0<=a * (2520 / (1+b)):=Us a0 q.1
 refine kk pf _ _ LG (by rw[V0]) ⟨aa,fun y hy=>?_⟩ (Hl.upd D4 dp.1 dp.2) fun x o h n1 n2=>?_
 ·rcases rg hy with hy|rfl
  ·have:=sh.b y hy;omega
  ·omega
 ·rw[au fun e=>by rw[e,LG]at h;cases h]
  exact O4 _ _ (O3 _ _ (O2 _ _ h n1 n2) n1 n2) n1 n2
abbrev jg(w:aw):Prop:=∀{S:az} {d l ps:Addr} {B:Nat} {ns:Vu} {Q:bj} {E:bK},Hl S d l->1<=ns.length->ns.length<=4000->Dk S ps B ns->2 ^ 30<=B->ps≠d->ps≠l->(∀p ns' S',S p=none->ns'.length<=4001->Dk S' p B ns'->Hl S' d l->Iq d l S S'->Q (.ref p) S')->w [.ref d,.ref ps] S Q E
def vo{xd:aw}(Hg:bT xd):jg (aR 5 (e8 xd)):=by
 intro S d l ps B ns Q E D h1 h2 sh hB OO OP kk
 unfold e8
 refine cC ?_
 rw[show ar 5 [PV.ref d,PV.ref ps]=[some (.ref d),some (.ref ps),none,none,none] from rfl]
 refine am fun N hN=>?_
 simp only[aq,ab,al,ak,v3,lk,bG,sh.at',Sm]
 refine Hg D (by omega) (by omega) fun r S1 r0 r1 D1 O1=>?_
 obtain⟨i,rfl⟩:∃i:Nat,r=(i:Int):=⟨r.toNat,by omega⟩
 have hi:i < ns.length:=by omega
 have f1:=O1 _ _ sh.at' OO OP
 refine hN _ _ (am fun N hN=>?_)
 simp only[aq,ab,ak,v3,lk,c3,List.set_cons_zero,List.set_cons_succ]
 refine Hg D1 (by decide) (by decide) fun f S2 g0 g1 D2 O2=>?_
 have f2:=O2 _ _ f1 OO OP
 refine hN _ _ (am fun N hN=>?_)
 simp only[aq,al,ak,v3,lk,fI,jr,f2,List.set_cons_zero,List.set_cons_succ]
 intro pf hpf
 have dp:=D2.free hpf
 have QS:=O1.trans O2
 have LG:S pf=none:=by
  cases e:S pf with
  |none=>rfl
  |some o=>have:=QS _ _ e dp.1 dp.2;rw[hpf]at this;cases this
 have D3:=D2.new (o:=.lst (ns.map cf)) hpf
 have O3:Iq d l S (He S2 pf (.lst (ns.map cf))):=QS.trans (.new hpf)
 have f3:(He S2 pf (.lst (ns.map cf))) pf=some (.lst (ns.map cf)):=aa
 generalize He S2 pf (.lst (ns.map cf))=S3 at D3 O3 f3
 refine hN _ _ (am fun N hN=>?_)
 have fin:∀(ns':Vu) (S4:az),Hl S4 d l->Iq d l S S4->ns'.length<=4001->(∀n∈ns',n.natAbs<=B)->S4 pf=some (.lst (ns'.map cf))->N [some (.ref d),some (.ref ps),some (.int (i:Int)),some (.int f),some (.ref pf)] S4:=by
  intro ns' S4 D4 O4 l4 b4 f4
  refine hN _ _ ?_
  walk_at "x"
  exact kk pf ns' S4 LG l4 ⟨f4,b4⟩ D4 O4
 have put:∀{S4:az} {o:SO},Iq d l S S4->Iq d l S (He S4 pf o):=fun O x u h n1 n2=>by
  rw[au fun e=>by rw[e,LG]at h;cases h]
  exact O _ _ h n1 n2
 have hlt:i < (ns.map cf).length:=by rw[Sm];exact hi
 simp only[bq,aP,ah,v3,lk,c3,br,SJ,SE]
 by_cases h0:f=0
 ·rw[if_pos h0]
  simp only[eg,ab,ak,ah,ay,gH,bY,v3,lk,c3]
  refine Hg D3 (by decide) (by decide) fun b S4 b0 b1 D4 O4=>?_
  have f4:=O4 _ _ f3 dp.1 dp.2
  simp only[aU]
  have ec:PV.tup [.int (-1),.int (1+b)]=cf (-1 * (2520 / (1+b))):=by
   rw[xD (x:=-1) (y:=1+b) ⟨by omega,by rw[Int.gcd_comm];simp⟩]
   exact t6 (by omega) (by omega)
  rw[ec]
  simp only[dC,f4,lD hlt]
  rw[x_]
  have q:=sK (b:=1+b) (by omega)
  refine fin _ _ (Hl.upd D4 dp.1 dp.2) (put (O3.trans O4)) (by rw[V0];omega) (fun y hy=>?_) aa
  rcases rg hy with hy|rfl
  ·exact sh.b y hy
  ·omega
 rw[if_neg h0]
 by_cases h3:f=1
 ·rw[if_pos h3]
  simp only[aW,eR,p5,ak,v3,lk,f3,Vz,qt,Dl hlt,SR hlt]
  refine⟨by omega,by omega,?_⟩
  rw[mY]
  refine fin _ _ (Hl.upd D3 dp.1 dp.2) (put O3) (Su (List.length_eraseIdx_le ..) (by omega)) (fun y hy=>sh.b y (List.mem_of_mem_eraseIdx hy)) aa
 rw[if_neg h3]
 by_cases h4:f=2
 ·rw[if_pos h4]
  simp only[aW,eR,p5,ak,ay,c3,v3,lk,f3,Vz,lB,Sm,Int.toNat_natCast]
  refine⟨by omega,by omega,Tf (show _<=1000000 by omega) (by decide),?_⟩
  rw[dN,show(ns.map cf).take i++cf 0::(ns.map cf).drop i=(ns.take i++0::ns.drop i).map cf by simp]
  refine fin _ _ (Hl.upd D3 dp.1 dp.2) (put O3) (by simp;omega) (fun y hy=>?_) aa
  rcases SI.mp hy with hy|hy
  ·exact sh.b y (UL hy)
  ·rcases Sv.mp hy with rfl|hy
   ·simp
   ·exact sh.b y (Wy hy)
 rw[if_neg h4]
 simp only[aN]
 exact fin ns S3 D3 O3 (by omega) sh.b f3
def Fm{js:Vs}{ds:List (Str×Bd)}(h:C.JI 6 js [] ds)(pc:∀p∈ds,p.2.Hf+p.2.Hh<=1000):HP js ds where
 jw:=fun z hz=>pg (h.jw z hz)
 jl:=by have:=h.jl;omega
 dl:=by have:=h.dl;omega
 gd:=h.gd
 dp:=h.dq
 sz:=h.sz
 pc:=pc
def ya{q:Qs}{js:Vs}{ds:List (Str×Bd)}(hP:HP js ds)(h:ds.length<=4):(vq q js ds).length<=4000:=by
 have e:(CZ q js ds).length<=ds.zipIdx.length * 1000:=pI _ 1000 _ fun p hp=>Su (mH q js p.2 p.1.2) (hP.pc _ (Uk hp))
 rw[lE,Sm,V6]at e
 omega
theorem mZ:∀(xs:Vu) (n:Nat),m6 xs (List.replicate n 0)=0
 |[],_=>by cases ‹Nat›<;>rfl
 |_::_,0=>rfl
 |x::r,n+1=>by rw[Tw];unfold m6;rw[mZ r n];simp
def yb(L:List Ln)(n d:Nat):iy L (List.replicate n 0) d=0:=by
 unfold iy
 have:∀l:List Int,(∀x∈l,x=0)->l.sum=0:=fun l=>by
  induction l with
  |nil=>intro _;rfl
  |cons x r ih=>intro h;rw[Wu,h x (by simp),ih fun y hy=>h y (by simp[hy])];rfl
 refine this _ fun x hx=>?_
 obtain⟨z,hz,rfl⟩:=SQ.mp hx
 exact(WN.mp (UD (a:=z.1) (b:=z.2) (Ug.mp hz).1).2).2
def yc(L:List Ln)(k m:Nat):p7 L k m (List.replicate L.length 0) = .tup [.tup (List.replicate m (.tup [.int 0,.int 1])),.tup [.int 0,.int 1]]:=by
 unfold p7
 rw[if_neg,if_neg]
 ·have e1:(fun d=>cf (iy L (List.replicate L.length 0) d))=fun _:Nat=>(.tup [.int 0,.int 1]:PV):=by funext d;rw[yb,dN]
  rw[e1,mZ,<-pM (B:=BB) (by decide)]
  congr 3
  induction m with
  |zero=>rfl
  |succ m ih=>rw[List.range_succ,Te,ih,List.replicate_succ'];rfl
 ·intro h
  obtain⟨j,_,hj⟩:=U1.mp h
  unfold wj at hj
  rw[mZ]at hj
  simp at hj
 ·rintro(h|h)
  ·simp at h
  ·obtain⟨x,hx,hn⟩:=U1.mp h
   rw[(WN.mp hx).2]at hn
   simp at hn
def yd(L:List Ln)(k m:Nat)(ns:Vu)(hm:m<=1000):Al 12 (p7 L k m ns):=by
 unfold p7
 split
 ·exact .non
 ·split
  ·exact .non
  ·refine .tup (by simp) fun x hx=>?_
   rcases Sv.mp hx with rfl|hx
   ·refine .tup (by simp;omega) fun y hy=>?_
    obtain⟨d,_,rfl⟩:=SQ.mp hy
    exact AU 2520 _
   ·rw[SM.mp hx];exact AU _ _
abbrev Am(w:aw):Prop:=∀{ns:Vu} {S:az} {Q:bj} {E:bK},ns.length<=63->(∀S',Q (.bl true) S')->w [.cl (ns.map PV.int)] S Q E
def Dm{x0 x1 x2 x3 x4 x5 x6 x7 x8:aw}(KZ:qE x0)(MJ:hW x1)(Oj:mK x2)(KG:kO x3)(Ni:jf x4)(Ol:jg x5)(Mc:pO 12 x6)(Nj:kJ x7)(Om:je x8):Am (aR 8 (xY x0 x1 x2 x3 x4 x5 x6 x7 x8)):=by
 intro ns S Q E hl k
 unfold xY
 refine cC ?_
 rw[show ar 8 [PV.cl (ns.map PV.int)]=[some (.cl (ns.map PV.int)),none,none,none,none,none,none,none] from rfl]
 refine am fun N hN=>?_
 walk_at "x"
 refine KZ hl (by decide) (by decide) fun d l S1 _ _ D1 _=>?_
 refine hN _ _ (am fun N hN=>?_)
 walk_at "x"
 refine MJ (most:=3) (many:=4) (size:=14) D1 (by decide) (by decide) (by decide) (by decide) (by decide) fun js ds S2 hO hd1 R7 hj8 Ka D2 O2=>?_
 have hP:=Fm hO Ka
 refine hN _ _ (am fun N hN=>?_)
 simp only[aq,ab,ak,v3,lk,List.set_cons_zero,List.set_cons_succ]
 refine Oj hP hO.jn fun pr S3 OG X3 f3=>?_
 have hL:=xQ (q:=mq (held ds js.length)) hP
 have P9:=ya (q:=mq (held ds js.length)) hP R7
 have P_:=Dc (q:=mq (held ds js.length)) (js:=js) hd1
 rw[lE]at f3
 have shows:∀{hs:Vs},LY js ds hs->vq (mq hs) js ds=vq (mq (held ds js.length)) js ds:=fun hf=>by rw[zW hf]
 generalize vq (mq (held ds js.length)) js ds=L at hL P9 P_ f3 shows
 have Mf:=D2.free OG
 have D3:=D2.ext X3
 refine hN _ _ (am fun N hN=>?_)
 simp only[aq,ay,ak,al,ah,v3,lk,c3,ae,jF,cx,cR,bG,Sm,List.set_cons_zero,List.set_cons_succ]
 refine hN _ _ (am fun N hN=>?_)
 simp only[aq,ab,ak,v3,lk,List.set_cons_zero,List.set_cons_succ]
 refine KG D3 hL f3 Mf.1 Mf.2 fun ps1 R8 S4 Qa hl1 Qb D4 O4=>?_
 have d1:=D3.free Qa
 have f4:=O4 _ _ f3 Mf.1 Mf.2
 refine hN _ _ (am fun N hN=>?_)
 simp only[aq,ab,ak,v3,lk,List.set_cons_zero,List.set_cons_succ]
 refine Ni (rows:=L.map Ln.pv) D4 (by rw[Sm];exact P_) (by rw[Sm];exact P9) f4 Mf.1 Mf.2 Qb (by decide) d1.1 d1.2 (by rw[Sm];exact hl1) fun ps2 QT S5 Qc hl2 OQ D5 O5=>?_
 have d2:=D4.free Qc
 have f5:=O5 _ _ f4 Mf.1 Mf.2
 have Qd:=O5 _ _ Qb.at' d1.1 d1.2
 refine hN _ _ (am fun N hN=>?_)
 simp only[bz,aE,ay,ab,ak,v3,lk,List.set_cons_zero,List.set_cons_succ]
 refine Ol D5 (by omega) (by omega) OQ (by decide) d2.1 d2.2 fun R9 R_ S6 Qe hl3 QU D6 O6=>?_
 have d3:=D5.free Qe
 have f6:=O6 _ _ f5 Mf.1 Mf.2
 have On:Dk S6 ps2 (2 ^ 30+2 ^ 30) QT:=⟨O6 _ _ OQ.at' d2.1 d2.2,OQ.b⟩
 have Oo:=O6 _ _ Qd d1.1 d1.2
 refine Ni (rows:=L.map Ln.pv) D6 (by rw[Sm];exact P_) (by rw[Sm];exact P9) f6 Mf.1 Mf.2 On (by decide) d2.1 d2.2 (by rw[Sm];omega) fun Sc Sd S7 Se QO QV D7 O7=>?_
 have f7:=O7 _ _ f6 Mf.1 Mf.2
 have g1:=O7 _ _ Oo d1.1 d1.2
 have g2:=O7 _ _ On.at' d2.1 d2.2
 have g3:=O7 _ _ QU.at' d3.1 d3.2
 have g4:=QV.at'
 have QW:Jm R8:=⟨by omega,fun n hn=>Su (Qb.b n hn) (by decide)⟩
 have Sf:Jm QT:=⟨by omega,fun n hn=>Su (OQ.b n hn) (by decide)⟩
 have Sg:Jm R_:=⟨by omega,fun n hn=>Su (QU.b n hn) (by decide)⟩
 have Sh:Jm Sd:=⟨by omega,fun n hn=>Su (QV.b n hn) (by decide)⟩
 have jl:js.length<=1000:=by have:=hP.jl;omega
 simp only[bF]
 have each:∀v∈[PV.ref ps1,.ref ps2,.ref R9,.ref Sc,.ref ps1],∃p ns',v = .ref p/\S7 p=some (.lst (ns'.map cf))/\Jm ns':=by
  intro v hv
  simp only[Sv,SS,T9]at hv
  rcases hv with rfl|rfl|rfl|rfl|rfl
  ·exact⟨_,_,rfl,g1,QW⟩
  ·exact⟨_,_,rfl,g2,Sf⟩
  ·exact⟨_,_,rfl,g3,Sg⟩
  ·exact⟨_,_,rfl,g4,Sh⟩
  ·exact⟨_,_,rfl,g1,QW⟩
 refine bb (fun done σ S'=>Ext S7 S'/\∃x7:Option PV,σ=[some (.cl (ns.map PV.int)),some (.ref d),some (jF js ds),some (.ref pr),some (.tup [.int (js.length:Int),.int (ds.length:Int)]),some (.ref ps1),some (.ref ps2),x7]) ⟨.refl,_,rfl⟩ (fun _ _ _ _=>trivial) ?_ ?_
 ·rintro done x rest σ S8 K e ⟨X8,x7,rfl⟩ hK
  obtain⟨p,ns',rfl,fp,QX⟩:=each x (by rw[e];simp)
  simp only[Tg.put,List.set_cons_zero,List.set_cons_succ,bq,ni,aP,ab,ak,al,ah,v3,lk,c3,ae,cx,cR,aZ,jr,X8 _ _ fp]
  refine Nj hP QX fun hs S9 hf X9=>?_
  rw[shows hf]
  refine Om hL QX jl hP.dl (X9 _ _ (X8 _ _ f7)) (X9 _ _ (X8 _ _ fp)) fun QY Sj=>?_
  refine Mc (yd L js.length ds.length ns' hP.dl) fun S11 Sk=>?_
  simp only[Uv,SD,Tt,aN]
  exact hK _ _ ⟨X8.trans (X9.trans (Sj.trans Sk)),_,rfl⟩
 ·rintro σ S8 ⟨X8,x7,rfl⟩
  refine hN _ _ ?_
  simp only[av,ab,ak,al,ah,ay,v3,lk,c3,ae,cR,bG,X8 _ _ f7,Sm,k7,Int.toNat_natCast]
  refine⟨by omega,by omega,?_⟩
  rw[show List.replicate L.length (.tup [.int 0,.int 1]:PV)=(List.replicate L.length (0:Int)).map cf by rw[List.map_replicate,<-dN]]
  refine Nj hP ⟨by rw[TU];omega,fun n hn=>by rw[(WN.mp hn).2];decide⟩ fun hs S9 hf X9=>?_
  have:=hP.dl
  refine⟨by omega,by omega,?_⟩
  rw[shows hf,<-yc L js.length ds.length]
  exact Mc (yd _ _ _ _ hP.dl) fun QY _=>k QY
def gw:bT w__law_draw:=Hg
def ye:jA b5:=Ij
def An:kA gf:=Kx gw
def Dn:mn ik:=K1 gw ye
def yf:jC eI:=JK gw Dn
theorem yg:∀n,jD n (eJ n)
 |0=>fun _ _ _ _ _ _ _ h0 h1 _=>by omega
 |n+1=>K8 gw yf n (yg n)
theorem rh:∀n,cY n (bW n)
 |0=>fun h _ _=>absurd h (by have:=Bd.HC;exact UT.mpr (this _))
 |n+1=>uT n (rh n)
def rj:cY 12 bX:=rh 12
theorem rm:∀n,n<=12->fS n (bR n)
 |0,_=>fun h _ _=>absurd h (by have:=Bd.HC;exact UT.mpr (this _))
 |n+1,hn=>uU n 12 rj (rm n (by omega)) (by omega)
def GD:fT df:=ph 12 (by decide) (yg 12) rj (rm 12 (by decide)) yf
def Ao:hW gh:=sC An gw GD
theorem yh:∀n,iu n (eM n)
 |0=>fun h _ _ _ _ _ _ _ _=>absurd h (by have:=Bd.HC;exact UT.mpr (this _))
 |n+1=>xq n (yh n)
def Ap:kG dI:=xu fun h a b c e f g i j=>yh 12 (Su h (by decide)) a b c e f g i j
def t7:ip f8:=JE
theorem t8:∀n,eF n (f9 n)
 |0=>fun h _ _=>absurd h (by have:=Bd.HC;exact UT.mpr (this _))
 |n+1=>Ky t7 n (t8 n)
def yi:kC 12 pP:=uW 12 (t8 12)
theorem t9:∀n,ir n (dr n)
 |0=>fun h _=>absurd h (by have:=Bd.HC;exact UT.mpr (this _))
 |n+1=>wW n (t9 n)
theorem A3:∀n,n<=12->jI n (du n)
 |0,_=>fun h _ _ _=>absurd h (by have:=Bd.HC;exact UT.mpr (this _))
 |n+1,hn=>zP n 12 (by omega) yi (t9 12) (A3 n (by omega))
theorem Do:∀n,mC n (cu n)
 |0=>fun h _ _ _ _ _ _=>absurd h (by have:=Bd.HC;exact UT.mpr (this _))
 |n+1=>Lz t7 n (Do n)
def Dp:mD ig:=La (fun h a b c d e f=>Do 12 (Su h (by decide)) a b c d e f) (fun h a b c=>A3 12 (by decide) (Su h (by decide)) a b c)
def sL:fX ja:=qK (JX Dp)
theorem yj:∀n,hV ((n+1) / 2) (ij n)/\kH (n / 2) (cZ n)
 |0=>⟨fun h _ _ _ _ _ _=>absurd h (by have:=Bd.HC;exact UT.mpr (this _)),fun h _ _ _ _ _ _ _=>absurd h (by have:=Bd.HC;exact UT.mpr (this _))⟩
 |n+1=>by
  obtain⟨a,b⟩:=yj n
  refine⟨?_,?_⟩
  ·rw[show(n+1+1) / 2=n / 2+1 by omega]
   exact fun{S t js us hs nm Q E} h1 h2 h3 h4 h5 h6 h7=>Lc (n / 2) b (fun g1 g2 g3 g4 g5 g6 g7=>a (Su g1 (by omega)) g2 g3 g4 g5 g6 g7) (S:=S) (t:=t) (js:=js) (us:=us) (hs:=hs) (nm:=nm) (Q:=Q) (E:=E) h1 h2 h3 h4 h5 h6 h7
  ·exact fun{S x y js us hs nm Q E} h1 h2 h3 h4 h5 h6 h7 h8=>xv (s0:=cZ n) ((n+1) / 2) a (S:=S) (a:=x) (b:=y) (js:=js) (us:=us) (hs:=hs) (nm:=nm) (Q:=Q) (E:=E) h1 h2 h3 h4 h5 h6 h7 h8
def Dq:mG c_:=Ld fun h a b c d e f=>Do 12 (Su h (by decide)) a b c d e f
def Dr:fx mN:=Hq (Hm ID)
def Aq:kE ix:=HA (Hm ID)
def rq:fV fA:=IE Kz Dr
def Ar:kF lG:=KA K9 Aq
def yk:i7 cv:=Kj Il
theorem A4:∀n,jN ((n+1) / 2) (jb n)/\mz (n / 2) (de n)
 |0=>⟨fun _ _ _ _ h _=>absurd h (by have:=Bd.HC;exact UT.mpr (this _)),fun _ _ _ _ h _=>absurd h (by have:=Bd.HC;exact UT.mpr (this _))⟩
 |n+1=>by
  obtain⟨a,b⟩:=A4 n
  refine⟨?_,?_⟩
  ·rw[show(n+1+1) / 2=n / 2+1 by omega]
   exact fun{S js us t v Q E} h1 h2 h3 h4 h5 h6=>LW JL Il rq Ki yk (n / 2) b (fun g1 g2 g3 g4 g5 g6=>a g1 g2 g3 g4 (Su g5 (by omega)) g6) (S:=S) (js:=js) (us:=us) (t:=t) (v:=v) (Q:=Q) (E:=E) h1 h2 h3 h4 h5 h6
  ·exact fun{S js us t v Q E} h1 h2 h3 h4 h5 h6=>u5 (s0:=de n) JL rq Ar ((n+1) / 2) a (S:=S) (js:=js) (us:=us) (a:=t) (v:=v) (Q:=Q) (E:=E) h1 h2 h3 h4 h5 h6
def GE:sE cM:=CL.ME Dq
def As:kI pS:=CL.KB sL GE (yj 12).1 (A4 12).1
def pZ:mL fZ:=xF sF
def At:mM mN:=qQ pZ
def ym:sG ix:=vb pZ
def yn:xK d4:=Ai At
def Au:sH i_:=vf yn ym
def Fo:pN mT:=LZ yn
def Av:kJ jd:=xR As xH Au yn (ve pZ) Fo
def m4:qP b5:=Ah ye
def yo:fx b8:=wY ye
def yp:mM b8:=va m4
def yq:qR b8:=vc m4
theorem Fp:∀n,pO n (dO n)
 |0=>fun h _=>by cases h
 |n+1=>Mc n (Fp n)
theorem yr:∀n,d0 n (dv n)
 |0=>fun _ _ h _ _ _ _ _ _=>absurd h (by have:=Bd.HC;exact UT.mpr (this _))
 |n+1=>Af yo Ac Ab n (yr n)
def yt:d0 6 dy:=fun a b h c d e f g i=>yr 12 a b (Su h (by decide)) c d e f g i
theorem A5:∀n,jR n (dz n)
 |0=>fun _ _ h _ _ _ _ _ _ _ _ _=>absurd h (by have:=Bd.HC;exact UT.mpr (this _))
 |n+1=>C4 yt n (A5 n)
def Fr:jR 6 eZ:=fun a b h c d e f g i j k m=>A5 12 a b (Su h (by decide)) c d e f g i j k m
def Ds:mK gi:=Ag Ap yt Fr fun hP w hw=>hP.jw w (tP hP.toHG _ w hw)
def Aw:kN gr:=KF gw m4
def Ax:kO gv:=KG gw Aw
def yu:jf dh:=vn gw yq
def yv:jg e9:=vo gw
def yw:je gk:=vm yp (vk m4) m4
def yx:∀ns:List Int,ns.length<=63->re [.cl (ns.map PV.int)] (fun _=>none) (fun v _=>v = .bl true) dW:=fun ns h=>Dm KZ Ao Ds Ax yu yv (Fp 12) Av yw h fun _=>rfl
end G41
namespace L3
open PySem L2 Xc
def rC{P:List Value->Prop}(h:∀a,P [a])(us:Vv)(hl:us.length=1):P us:=match us,hl with|[_],_=>h _
def ji{P:List Value->Prop}(h:∀a b,P [a,b])(us:Vv)(hl:us.length=2):P us:=match us,hl with|[_,_],_=>h _ _
def Ay{P:List Value->Prop}(h:∀a b c,P [a,b,c])(us:Vv)(hl:us.length=3):P us:=match us,hl with|[_,_,_],_=>h _ _ _
def Ft{P:List Value->Prop}(h:∀a b c d,P [a,b,c,d])(us:Vv)(hl:us.length=4):P us:=match us,hl with|[_,_,_,_],_=>h _ _ _ _
def G_{P:List Value->Prop}(h:∀a b c d e,P [a,b,c,d,e])(us:Vv)(hl:us.length=5):P us:=match us,hl with|[_,_,_,_,_],_=>h _ _ _ _ _
section
variable {K:Vo} {h:Heap} {mg:Vr} {x c m q:Str} {st:Stmt} {ps fl:Vs}
noncomputable def Az:Option (Option Value)->Bool
 |some none=>true
 |_=>false
def AA{o:Option (Option Value)}(h:Az o=true):o=some none:=by
 unfold Az at h;split at h
 ·rfl
 ·cases h
def FnAt(K:Vo)(f:Addr)(m q:Str)(st:Stmt):Prop:=∃(oc kV doc pm cdv ct:Value) (od an:Option Addr) (osl:Array (Option Value)),
 K.lookup f=some ⟨oc,od,.func (PySem.W.fnOf m q (b_ st) (bi st) (aG st) .none kV doc pm an cdv ct),osl⟩/\PySem.W.codeIn K cdv q=true/\PySem.W.keepIn K (.ref f)=true
abbrev yy(m q:Str)(st:Stmt)(ps:Vs):Prop:=∀(kV doc pm:Value) (an:Option Addr) (cdv ct:Value) (us:Vv),us.length=ps.length->bindArgs (PySem.W.fnOf m q (b_ st) (bi st) (aG st) .none kV doc pm an cdv ct) ⟨us,[]⟩=pure (ps.zip us)
def FnAt.mk{f:Addr}(a:FnAt K f m q st)(hb:yy m q st ps):∃fd,M8 K m q st f fd/\Binds K fd ps []/\PySem.W.keepIn K (.ref f)=true:=by
 obtain⟨oc,kV,doc,pm,cdv,ct,od,an,osl,l,cc,k⟩:=a
 exact⟨_,oE l cc k,(oE l cc k).binds hb,k⟩
def HS(K:Vo)(x:Str)(st:Stmt):Prop:=∃f,PySem.W.nsIn K mainGlobals x=some (some (.ref f))/\FnAt K f x x st
def HS.own(X:K.In h)(G:h.Ns mainGlobals mg)(a:HS K x st)(hb:yy x x st ps):aY K mg x st ps:=by
 obtain⟨f,n,a⟩:=a
 obtain⟨fd,F,b,k⟩:=a.mk hb
 exact⟨f,fd,F,b,k,WW X G n⟩
def HS.law{fa:Addr}(X:K.In h)(G:h.Ns mainGlobals mg)(a:HS K x st)(hfa:mg x=some (.ref fa))(hb:yy x x st ps):∃kV doc pm an cdv ct,FG K mg x st ps fa (PySem.W.fnOf x x (b_ st) (bi st) (aG st) .none kV doc pm an cdv ct):=by
 obtain⟨f,n,oc,kV,doc,pm,cdv,ct,od,an,osl,l,cc,k⟩:=a
 cases hfa.symm.trans (WW X G n)
 exact⟨kV,doc,pm,an,cdv,ct,oE l cc k,(oE l cc k).binds hb,k,hfa⟩
def OR(P:Program)(w:World)(K:Vo)(x:Str)(kvs:List (bI×V)):Prop:=∃a o,PySem.W.nsIn K mainGlobals x=some (some (.ref a))/\K.lookup a=some o/\(a == sysModules)=false/\∃vs,KV kvs vs/\Obj.IsDictOf (bd P w) o vs
def OR.kd{P:Program}{w:World}{kvs:List (bI×V)}(X:K.In h)(G:h.Ns mainGlobals mg)(a:OR P w K x kvs):∃a,mg x=some (.ref a)/\KD P w K a kvs:=by
 obtain⟨a,o,n,l,s,vs,h1,h2⟩:=a
 exact⟨a,WW X G n,s,o,vs,l,h1,h2⟩
def jh(X:K.In h)(G:h.Ns mainGlobals mg){l:Vs}(a:(l.all fun x=>Az (PySem.W.nsIn K mainGlobals x))=true)(hx:x∈l:=by decide):mg x=none:=PySem.W.mg_none_of X G (AA (U0.mp a x hx))
section
variable {f C:Addr} {oc kV doc pm cdv ct:Value} {od an:Option Addr} {osl:Array (Option Value)}
def Ha(n:PySem.W.nsIn K mainGlobals x=some (some (.ref f)))(l:K.lookup f=some ⟨oc,od,.func (PySem.W.fnOf x x (b_ st) (bi st) (aG st) .none kV doc pm an cdv ct),osl⟩)(cc:PySem.W.codeIn K cdv x=true)(k:PySem.W.keepIn K (.ref f)=true):HS K x st:=⟨f,n,oc,kV,doc,pm,cdv,ct,od,an,osl,l,cc,k⟩
def Hb{P:Program}{w:World}{kvs:List (bI×V)}{o:Obj}(n:PySem.W.nsIn K mainGlobals x=some (some (.ref f)))(l:K.lookup f=some o)(s:(f == sysModules)=false)(v:∃vs,KV kvs vs/\Obj.IsDictOf (bd P w) o vs):OR P w K x kvs:=⟨f,o,n,l,s,v⟩
end
end
section
variable {K:Vo} {h:Heap} {mg:Vr} {x:Str} {st:Stmt} {ps:Vs}
def OS(K:Vo)(x:Str)(st:Stmt):Prop:=∃(f T:Addr) (oc kV doc pm cdv ct:Value) (od an:Option Addr) (osl:Array (Option Value)) (oT:Obj) (nT:Nat),PySem.W.nsIn K mainGlobals x=some (some (.ref f))/\
 K.lookup f=some ⟨oc,od,.func (PySem.W.fnOf x x (b_ st) (bi st) (aG st) (.ref T) kV doc pm an cdv ct),osl⟩/\PySem.W.codeIn K cdv x=true/\PySem.W.keepIn K (.ref f)=true/\K.lookup T=some oT/\oT.data = .seq #[.bool true] nT
abbrev A6(x:Str)(st:Stmt)(ps:Vs):Prop:=∀(s:Shared) (T:Addr) (oT:Obj) (nT:Nat) (kV doc pm cdv ct:Value) (an:Option Addr) (us:Vv),oT.data = .seq #[.bool true] nT->us.length=ps.length->s.heap.get? T=some oT->BindsTo s (PySem.W.fnOf x x (b_ st) (bi st) (aG st) (.ref T) kV doc pm an cdv ct) ⟨us,[]⟩ (ps.zip us)
abbrev A7(x:Str)(st:Stmt)(ps:Vs):Prop:=∀(s:Shared) (T:Addr) (oT:Obj) (nT:Nat) (kV doc pm cdv ct:Value) (an:Option Addr) (us:Vv),oT.data = .seq #[.bool true] nT->us.length+1=ps.length->s.heap.get? T=some oT->BindsTo s (PySem.W.fnOf x x (b_ st) (bi st) (aG st) (.ref T) kV doc pm an cdv ct) ⟨us,[]⟩ (ps.zip (us++[.bool true]))
def OS.own(X:K.In h)(G:h.Ns mainGlobals mg)(a:OS K x st)(hb:A6 x st ps)(hd:A7 x st ps):qA K mg x st ps:=by
 obtain⟨f,T,oc,kV,doc,pm,cdv,ct,od,an,osl,oT,nT,n,l,c,k,lT,sT⟩:=a
 exact⟨T,f,_,⟨⟨oc,od,kV,doc,pm,an,cdv,ct,osl,rfl,l,c⟩,k⟩,fun s us KI hl=>by rw[Ti]at hl ⊢;exact hb _ _ _ _ _ _ _ _ _ _ us sT hl (KI T oT lT),fun s us KI hl=>hd _ _ _ _ _ _ _ _ _ _ us sT (by rw[Sn]at hl;exact hl) (KI T oT lT),k,WW X G n⟩
def Hc{f T:Addr}{oc kV doc pm cdv ct:Value}{od an:Option Addr}{osl:Array (Option Value)}{oT:Obj}{nT:Nat}(n:PySem.W.nsIn K mainGlobals x=some (some (.ref f)))(l:K.lookup f=some ⟨oc,od,.func (PySem.W.fnOf x x (b_ st) (bi st) (aG st) (.ref T) kV doc pm an cdv ct),osl⟩)(c:PySem.W.codeIn K cdv x=true)(k:PySem.W.keepIn K (.ref f)=true)
  (lT:K.lookup T=some oT) (sT:oT.data = .seq #[.bool true] nT):OS K x st:=⟨f,T,oc,kV,doc,pm,cdv,ct,od,an,osl,oT,nT,n,l,c,k,lT,sT⟩
end
end L3
namespace G41
open PySem L2 L3
def kP:A6 "parts_reached" (a_ 18) ["body","names","reached"]:=fun _ _ _ _ _ _ _ _ _ _ us sT hl hT=>Ay (P:=fun us=>BindsTo _ _ ⟨us,[]⟩ ((["body","names","reached"]:Vs).zip us)) (fun _ _ _=>by refine BindsTo.of_defaults rfl hT sT rfl ?_;rfl) us hl
def kQ:A7 "parts_reached" (a_ 18) ["body","names","reached"]:=fun _ _ _ _ _ _ _ _ _ _ us sT hl hT=>ji (P:=fun us=>BindsTo _ _ ⟨us,[]⟩ ((["body","names","reached"]:Vs).zip (us++[.bool true]))) (fun _ _=>by refine BindsTo.of_defaults rfl hT sT rfl ?_;rfl) us (WZ hl)
def Dt{l:PySem.W.OpenLaw}{w:World}{K:Vo}{h:Heap}{mg:Vr}{fa:Addr}(X:K.In h)(G:h.Ns mainGlobals mg)(hfa:mg "law" = some (.ref fa))
  (JY:HS K "common" (a_ 1))
  (Jn:HS K "fraction" (a_ 2))
  (KH:HS K "plus" (a_ 3))
  (Kk:HS K "times" (a_ 4))
  (KJ:HS K "less" (a_ 5))
  (Jo:HS K "together" (a_ 6))
  (Jp:HS K "worth_of" (a_ 7))
  (Jq:HS K "sides_of" (a_ 10))
  (Jr:HS K "parts_in" (a_ 11))
  (Kl:HS K "parts" (a_ 12))
  (JZ:HS K "chosen" (a_ 14))
  (Ix:HS K "plain_trace" (a_ 15))
  (Iy:HS K "led_to_part" (a_ 16))
  (Ie:OS K "parts_reached" (a_ 18))
  (I9:HS K "next_step" (a_ 19))
  (JH:HS K "filling" (a_ 20))
  (Js:HS K "fillable" (a_ 21))
  (HU:HS K "passes_of_then" (a_ 23))
  (I_:HS K "passes_of" (a_ 24))
  (HV:HS K "oftens_come_to" (a_ 25))
  (Ja:HS K "things_of" (a_ 27))
  (Km:HS K "added" (a_ 28))
  (II:HS K "multiplied" (a_ 29))
  (Jt:HS K "no_tally" (a_ 30))
  (J3:HS K "behind" (a_ 31))
  (Kn:HS K "again" (a_ 32))
  (HW:HS K "tally_of_often" (a_ 33))
  (Ig:HS K "tally_of_take" (a_ 34))
  (Ju:HS K "tally_of" (a_ 35))
  (HJ:HS K "numbered_bodies" (a_ 37))
  (Ko:HS K "lines" (a_ 38))
  (J4:HS K "mix_of" (a_ 40))
  (Jv:HS K "shown_by" (a_ 41))
  (Jb:HS K "_law_deal" (a_ 43))
  (Jc:HS K "_law_draw" (a_ 44))
  (IJ:HS K "_law_words" (a_ 45))
  (Jw:HS K "_law_low" (a_ 46))
  (Jd:HS K "_law_plus" (a_ 47))
  (IK:HS K "_law_times" (a_ 48))
  (Je:HS K "_law_cost" (a_ 49))
  (Jf:HS K "_law_leaf" (a_ 50))
  (Jg:HS K "_law_body" (a_ 51))
  (HK:HS K "_law_pass_count" (a_ 52))
  (HB:HS K "_law_round_count" (a_ 53))
  (HX:HS K "_law_deed_body" (a_ 54))
  (IL:HS K "_law_house" (a_ 55))
  (Jh:HS K "_law_puts" (a_ 56))
  (Ih:HS K "_law_fillable" (a_ 57))
  (IM:HS K "_law_alike" (a_ 58))
  (Jx:HS K "_law_one" (a_ 59))
  (Iz:HS K "_law_behind" (a_ 60))
  (IA:HS K "_law_passes" (a_ 61))
  (IB:HS K "_law_rounds" (a_ 62))
  (IN:HS K "_law_lines" (a_ 63))
  (IP:HS K "_law_shown" (a_ 64))
  (IQ:HS K "_law_share" (a_ 65))
  (IR:HS K "_law_drawn" (a_ 66))
  (HY:HS K "_law_filled_up" (a_ 67))
  (IC:HS K "_law_spoilt" (a_ 68))
  (IS:OR l.prog w K "SIDES_FROM" (C.k_SIDES_FROM.map fun kv=>(kv.1,V.int kv.2)))
  (LH:((["abs","all","any","bool","enumerate","int","isinstance","len","list","max","min","range","reversed","tuple","zip"]:Vs).all fun x=>Az (PySem.W.nsIn K mainGlobals x))=true)
  (MK:HS K "law" (a_ 69))
  : ∃fd:FuncData,(∀(s:Shared) (v:Value),BindsTo s fd ⟨[v],[]⟩ [("_law_script",v)])/\∀base:Heap,K.In base->base.Ns mainGlobals mg->m9 l.prog w K mg base yz 32 fa fd ["_law_script"] (EF K 1 re):=by
 obtain⟨kV,doc,pm,an,cdv,ct,O⟩:=MK.law X G hfa (ps:=["_law_script"]) (fun _ _ _ _ _ _=>rC fun _=>rfl)
 exact⟨_,fun s v=>.of_eq rfl,fun base _ _=>(Df (P:=l.prog) (w:=w) (base:=base) ⟨JY.own X G (fun _ _ _ _ _ _=>ji fun _ _=>rfl),
  Jn.own X G (fun _ _ _ _ _ _=>ji fun _ _=>rfl),
  KH.own X G (fun _ _ _ _ _ _=>ji fun _ _=>rfl),
  Kk.own X G (fun _ _ _ _ _ _=>ji fun _ _=>rfl),
  KJ.own X G (fun _ _ _ _ _ _=>ji fun _ _=>rfl),
  Jo.own X G (fun _ _ _ _ _ _=>rC fun _=>rfl),
  Jp.own X G (fun _ _ _ _ _ _=>ji fun _ _=>rfl),
  Jq.own X G (fun _ _ _ _ _ _=>rC fun _=>rfl),
  Jr.own X G (fun _ _ _ _ _ _=>rC fun _=>rfl),
  Kl.own X G (fun _ _ _ _ _ _=>rC fun _=>rfl),
  JZ.own X G (fun _ _ _ _ _ _=>ji fun _ _=>rfl),
  Ix.own X G (fun _ _ _ _ _ _=>rC fun _=>rfl),
  Iy.own X G (fun _ _ _ _ _ _=>Ay fun _ _ _=>rfl),
  Ie.own X G kP kQ,
  I9.own X G (fun _ _ _ _ _ _=>ji fun _ _=>rfl),
  JH.own X G (fun _ _ _ _ _ _=>rC fun _=>rfl),
  Js.own X G (fun _ _ _ _ _ _=>rC fun _=>rfl),
  HU.own X G (fun _ _ _ _ _ _=>ji fun _ _=>rfl),
  I_.own X G (fun _ _ _ _ _ _=>ji fun _ _=>rfl),
  HV.own X G (fun _ _ _ _ _ _=>ji fun _ _=>rfl),
  Ja.own X G (fun _ _ _ _ _ _=>Ay fun _ _ _=>rfl),
  Km.own X G (fun _ _ _ _ _ _=>ji fun _ _=>rfl),
  II.own X G (fun _ _ _ _ _ _=>ji fun _ _=>rfl),
  Jt.own X G (fun _ _ _ _ _ _=>rC fun _=>rfl),
  J3.own X G (fun _ _ _ _ _ _=>ji fun _ _=>rfl),
  Kn.own X G (fun _ _ _ _ _ _=>ji fun _ _=>rfl),
  HW.own X G (fun _ _ _ _ _ _=>Ay fun _ _ _=>rfl),
  Ig.own X G (fun _ _ _ _ _ _=>ji fun _ _=>rfl),
  Ju.own X G (fun _ _ _ _ _ _=>Ay fun _ _ _=>rfl),
  HJ.own X G (fun _ _ _ _ _ _=>ji fun _ _=>rfl),
  Ko.own X G (fun _ _ _ _ _ _=>rC fun _=>rfl),
  J4.own X G (fun _ _ _ _ _ _=>Ay fun _ _ _=>rfl),
  Jv.own X G (fun _ _ _ _ _ _=>ji fun _ _=>rfl),
  Jb.own X G (fun _ _ _ _ _ _=>ji fun _ _=>rfl),
  Jc.own X G (fun _ _ _ _ _ _=>ji fun _ _=>rfl),
  IJ.own X G (fun _ _ _ _ _ _=>ji fun _ _=>rfl),
  Jw.own X G (fun _ _ _ _ _ _=>ji fun _ _=>rfl),
  Jd.own X G (fun _ _ _ _ _ _=>ji fun _ _=>rfl),
  IK.own X G (fun _ _ _ _ _ _=>ji fun _ _=>rfl),
  Je.own X G (fun _ _ _ _ _ _=>rC fun _=>rfl),
  Jf.own X G (fun _ _ _ _ _ _=>ji fun _ _=>rfl),
  Jg.own X G (fun _ _ _ _ _ _=>Ft fun _ _ _ _=>rfl),
  HK.own X G (fun _ _ _ _ _ _=>rC fun _=>rfl),
  HB.own X G (fun _ _ _ _ _ _=>rC fun _=>rfl),
  HX.own X G (fun _ _ _ _ _ _=>Ft fun _ _ _ _=>rfl),
  IL.own X G (fun _ _ _ _ _ _=>Ft fun _ _ _ _=>rfl),
  Jh.own X G (fun _ _ _ _ _ _=>Ay fun _ _ _=>rfl),
  Ih.own X G (fun _ _ _ _ _ _=>rC fun _=>rfl),
  IM.own X G (fun _ _ _ _ _ _=>ji fun _ _=>rfl),
  Jx.own X G (fun _ _ _ _ _ _=>ji fun _ _=>rfl),
  Iz.own X G (fun _ _ _ _ _ _=>Ft fun _ _ _ _=>rfl),
  IA.own X G (fun _ _ _ _ _ _=>Ay fun _ _ _=>rfl),
  IB.own X G (fun _ _ _ _ _ _=>G_ fun _ _ _ _ _=>rfl),
  IN.own X G (fun _ _ _ _ _ _=>rC fun _=>rfl),
  IP.own X G (fun _ _ _ _ _ _=>Ft fun _ _ _ _=>rfl),
  IQ.own X G (fun _ _ _ _ _ _=>rC fun _=>rfl),
  IR.own X G (fun _ _ _ _ _ _=>ji fun _ _=>rfl),
  HY.own X G (fun _ _ _ _ _ _=>Ay fun _ _ _=>rfl),
  IC.own X G (fun _ _ _ _ _ _=>ji fun _ _=>rfl),
  jh (x:="abs") X G LH,
  jh (x:="all") X G LH,
  jh (x:="any") X G LH,
  jh (x:="bool") X G LH,
  jh (x:="enumerate") X G LH,
  jh (x:="int") X G LH,
  jh (x:="isinstance") X G LH,
  jh (x:="len") X G LH,
  jh (x:="list") X G LH,
  jh (x:="max") X G LH,
  jh (x:="min") X G LH,
  jh (x:="range") X G LH,
  jh (x:="reversed") X G LH,
  jh (x:="tuple") X G LH,
  jh (x:="zip") X G LH,
  IS.kd X G⟩ O).ok⟩
def GF{l:PySem.W.OpenLaw}{q:Program}{loose:Vs}{XP:(Vr)->Heap->Prop}{YP:World->Heap->Prop}{d:DefRec}{K:Params->PySem.W.Frag}(hn:l.most=some 63)(hdf:d.params.defaults=[])
  (hY:∀(w:World) (h:Heap),YP w h->(K w.params).In h)
  (F:∀(w:World) (mg:Vr) (fa:Addr) (h:Heap),(K w.params).In h->h.Ns mainGlobals mg->mg d.name=some (.ref fa)->
   ∃fd:FuncData,(∀(s:Shared) (u:Value),BindsTo s fd ⟨[u],[]⟩ [("_law_script",u)])/\∀base:Heap,(K w.params).In base->base.Ns mainGlobals mg->m9 l.prog w (K w.params) mg base yz 32 fa fd ["_law_script"] (EF (K w.params) 1 re)) :
  PySem.W.WalkO q loose XP YP l.row.toRowW d [] (fun f vs=>PySem.call f vs):=
 L2.zb (n:=63) (k:=32) (x:="_law_script") (CX:=fun _=>yz) (sp:=fun w=>EF (K w.params) 1 re) hn (by decide) hdf ⟨rfl,by decide,by decide,rfl⟩ hY F (fun _ _ a ns hl hO hS=>Gq hO hS (yx ns hl)) fun _ _ _ _ _ z=>z
end G41
local macro_rules | `(tactic| walk_at "k")=>`(tactic| (apply L3.Ha; k_is; k_is; k_is; k_is))
local macro_rules | `(tactic| walk_at "d")=>`(tactic| (apply L3.Hc; k_is; k_is; k_is; k_is; k_is; rfl))
open PySem PySem.W PyProof.Rows
set_option maxRecDepth 100000 in
set_option maxHeartbeats 0 in
theorem PySem.Challenge.cw_dueworth_k41_what_shares_show_holds : PySem.Challenge.rw_dueworth_k41_what_shares_show.Holds := by
 w_on; refine holds_law E41.said fun said => ?_
 refine holds_open (q := E41.vw) (loose := ["SIDES_FROM", "parts_reached"]) (Xt := fun s => (xlAt E41.vw [] s && recOk (RowW.records E41.rr) s)) (XP := XL E41.vw []) (N := 3998)
  (Yf := Hook.obs E41.hk) (Ya := Hook.val E41.hk) (YP := Hook.says (kHook E41.early.heap_1 E41.as E41.GG)) E41.left (Hook.of E41.hk) (Hook.keeps E41.hk) (fun s e => xl_of s (VJ.mp e).1)
  XL.keeps rfl rfl rfl (fun s e => recFacts_of (VJ.mp e).2) rfl (by assumption)
  (by decide +kernel) ⟨rfl, rfl, rfl, rfl, rfl, by decide +kernel⟩ ?hw ?hc
 (case hw => w_witness2)
 k_fill
 refine G41.GF (l := PySem.Challenge.rw_dueworth_k41_what_shares_show) rfl rfl (fun w h Y => PySem.W.kIn_of Y) ?F
 case F =>
  intro w mg fa h KX G hmg
  refine' G41.Dt KX G hmg ?JY ?Jn ?KH ?Kk ?KJ ?Jo ?Jp ?Jq ?Jr ?Kl ?JZ ?Ix ?Iy ?Ie ?I9 ?JH ?Js ?HU ?I_ ?HV ?Ja ?Km ?II ?Jt ?J3 ?Kn ?HW ?Ig ?Ju ?HJ ?Ko ?J4 ?Jv ?Jb ?Jc ?IJ ?Jw ?Jd ?IK ?Je ?Jf ?Jg ?HK ?HB ?HX ?IL ?Jh ?Ih ?IM ?Jx ?Iz ?IA ?IB ?IN ?IP ?IQ ?IR ?HY ?IC ?IS ?LH ?MK
  (case JY => walk_at "k")
  (case Jn => walk_at "k")
  (case KH => walk_at "k")
  (case Kk => walk_at "k")
  (case KJ => walk_at "k")
  (case Jo => walk_at "k")
  (case Jp => walk_at "k")
  (case Jq => walk_at "k")
  (case Jr => walk_at "k")
  (case Kl => walk_at "k")
  (case JZ => walk_at "k")
  (case Ix => walk_at "k")
  (case Iy => walk_at "k")
  (case Ie => walk_at "d")
  (case I9 => walk_at "k")
  (case JH => walk_at "k")
  (case Js => walk_at "k")
  (case HU => walk_at "k")
  (case I_ => walk_at "k")
  (case HV => walk_at "k")
  (case Ja => walk_at "k")
  (case Km => walk_at "k")
  (case II => walk_at "k")
  (case Jt => walk_at "k")
  (case J3 => walk_at "k")
  (case Kn => walk_at "k")
  (case HW => walk_at "k")
  (case Ig => walk_at "k")
  (case Ju => walk_at "k")
  (case HJ => walk_at "k")
  (case Ko => walk_at "k")
  (case J4 => walk_at "k")
  (case Jv => walk_at "k")
  (case Jb => walk_at "k")
  (case Jc => walk_at "k")
  (case IJ => walk_at "k")
  (case Jw => walk_at "k")
  (case Jd => walk_at "k")
  (case IK => walk_at "k")
  (case Je => walk_at "k")
  (case Jf => walk_at "k")
  (case Jg => walk_at "k")
  (case HK => walk_at "k")
  (case HB => walk_at "k")
  (case HX => walk_at "k")
  (case IL => walk_at "k")
  (case Jh => walk_at "k")
  (case Ih => walk_at "k")
  (case IM => walk_at "k")
  (case Jx => walk_at "k")
  (case Iz => walk_at "k")
  (case IA => walk_at "k")
  (case IB => walk_at "k")
  (case IN => walk_at "k")
  (case IP => walk_at "k")
  (case IQ => walk_at "k")
  (case IR => walk_at "k")
  (case HY => walk_at "k")
  (case IC => walk_at "k")
  (case IS => apply L3.Hb; k_is; k_is; rfl; exact L2.Cb _ w [("then", 1, _, _), ("either", 1, _, _), ("take", 3, _, _), ("often", 1, _, _)] _ (by decide +kernel))
  (case LH => kernel_rfl)
  (case MK => walk_at "k")
#print axioms PySem.Challenge.cw_dueworth_k41_what_shares_show_holds
