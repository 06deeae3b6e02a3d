import PyProof.Rows.All
import Wide.All
import OpenK.AllK
import Wide.FinOn
import Lean
import PyProof.EqAt
import PyProof.EqKinds
import PyProof.TupleCall
import PySem.Challenge.RW_dueworth_k38_papers_looked_at
import Open.Tree
import Open.Head
section
set_option Elab.async false
set_option linter.all false
set_option maxRecDepth 100000
set_option maxHeartbeats 0
abbrev Tc:=@PySem.wpAny_bind
abbrev Td:=@PySem.Heap.get?_push_of_some
abbrev Te:=@List.length_append
abbrev Tf:=@PySem.wpAny_pure
abbrev Th:=@List.mem_cons
abbrev Ti:=@List.length_map
abbrev Tj:=@List.mem_append
abbrev Tn:=@PySem.Heap.get?_push_size
abbrev To:=@PySem.Heap.lt_size
abbrev Tp:=@List.getElem?_eq_getElem
abbrev Tq:=@Nat.le_refl
abbrev Tr:=@List.size_toArray
abbrev Tt:=@List.mem_singleton
abbrev Tu:=@Bool.false_eq_true
abbrev Tv:=@List.getElem?_map
abbrev Tw:=@decide_eq_false
abbrev Tz:=@Bool.false_bne
abbrev TF:=@decide_eq_true_eq
abbrev TH:=@List.length_singleton
abbrev TJ:=@List.not_mem_nil
abbrev TL:=@List.length_cons
abbrev TM:=@Nat.ne_of_lt
abbrev TN:=@decide_eq_true
abbrev TQ:=@List.map_cons
abbrev TR:=@Nat.le_trans
abbrev TU:=@Nat.lt_of_lt_of_le
abbrev TV:=@List.getElem?_eq_some_iff
abbrev TX:=@List.getElem?_append_left
abbrev TY:=@List.append_nil
abbrev TZ:=@List.map_nil
abbrev T3:=@List.filter_cons_of_pos
abbrev T4:=@Bool.false_ne_true
abbrev T5:=@List.getElem?_append_right
abbrev T6:=@PySem.PassesOwn.never
abbrev T7:=@List.nil_append
abbrev T9:=@List.mem_of_getElem?
abbrev Ua:=@if_true
abbrev Ub:=@if_false
abbrev Uc:=@List.mem_append_right
abbrev Ud:=@PySem.wpAny_newObj_type
abbrev Ue:=@List.mem_map
abbrev Ug:=@Nat.zero_le
abbrev Uh:=@List.map_append
abbrev Ui:=@PySem.wpAny_callSpecial?_slot
abbrev Uj:=@PySem.Heap.size_push
abbrev Uk:=@PyProof.Rows.callWith_type1
abbrev Ul:=@PySem.wpAny_pyIter_list
abbrev Um:=@PySem.wpAny_pyIter_tuple
abbrev Uo:=@PySem.wpAny_seqItems
abbrev Uq:=@or_false
abbrev Ur:=@PySem.Heap.get?_update_self
abbrev Us:=@PySem.wpAny_field
abbrev Ut:=@List.getElem?_zip_eq_some
abbrev Uu:=@congrArg
abbrev Uv:=@PySem.wpAny_call_entry
abbrev Uw:=@List.nodup_cons
abbrev Ux:=@List.filter_append
abbrev Uy:=@List.getElem?_eq_none
abbrev Uz:=@PySem.Heap.SameBut.update
abbrev UA:=@Classical.byContradiction
abbrev UB:=@Option.some.inj
abbrev UC:=@Option.map_eq_some_iff
abbrev UD:=@Bool.not_false
abbrev UE:=@PySem.wpAny_setField_rec
abbrev UG:=@PyProof.Rows.slot_tuple_getitem
abbrev UH:=@Array.length_toList
abbrev UI:=@Nat.le_add_right
abbrev UJ:=@List.filter_cons_of_neg
abbrev UK:=@Nat.lt_succ_of_lt
abbrev UL:=@List.mem_append_left
abbrev UM:=@PySem.Calls.spliced_cons
abbrev UN:=@PySem.Obj.data_mapFields
abbrev UO:=@Bool.true_bne
abbrev UP:=@List.map_map
abbrev UQ:=@PySem.wpAny_setState_of
abbrev UR:=@Int.eq_ofNat_of_zero_le
abbrev US:=@PySem.wpAny_holding
abbrev UT:=@Bool.not_true
abbrev UU:=@Nat.ne_of_gt
abbrev UW:=@Nat.lt_trans
abbrev UX:=@Array.getElem?_eq_none
abbrev UY:=@List.nodup_append
abbrev UZ:=@List.length_replicate
abbrev U0:=@Nat.lt_irrefl
abbrev U1:=@List.mem_cons_self
abbrev U3:=@PySem.wpAny_Call_Name_kw
abbrev U4:=@List.pairwise_cons
abbrev U5:=@List.mem_cons_of_mem
abbrev U6:=@PySem.Around.under_plainId
abbrev U7:=@List.mem_iff_getElem
abbrev U8:=@List.mem_flatMap
abbrev U9:=@List.mem_range
abbrev Vb:=@PySem.Calls.spliced_nil
abbrev Vc:=@PySem.Heap.IsTuple.push
abbrev Vd:=@List.take_of_length_le
abbrev Ve:=@List.replicate_succ
abbrev Vf:=@List.mem_filter
abbrev Vg:=@List.length_filter_le
abbrev Vh:=@List.length_drop
abbrev Vi:=@PySem.Heap.IsList.push
abbrev Vj:=@Nat.le_of_lt
abbrev Vk:=@Bool.and_true
abbrev Vl:=@Nat.pow_le_pow_right
abbrev Vm:=@List.getElem?_replicate
abbrev Vn:=@Option.some.injEq
abbrev Vp:=@PySem.wpAny_rule
abbrev Vt:=@List.length_nil
abbrev Vx:=@PySem.F.slot_zip_next
abbrev Vy:=@PySem.codeAny_builtin
abbrev Vz:=@Nat.not_le
abbrev VA:=@PySem.mem_of_lookup
abbrev VB:=@List.flatMap_append
abbrev VC:=@PySem.Heap.get?_update_other
abbrev VD:=@PySem.Calls.callWith_builtin
abbrev VE:=@List.length_take
abbrev VF:=@Nat.lt_succ_self
abbrev VG:=@List.getElem_mem
abbrev VH:=@PyProof.Rows.assignInOrder_cons
abbrev VI:=@PySem.F.slot_tuple_iterator_next
abbrev VJ:=@PySem.wpAny_setField
abbrev VL:=@Ne.symm
abbrev VM:=@PySem.F.slot_dict_get
abbrev VN:=@PySem.builtinLookup_eq_fast
abbrev VO:=@PySem.Obj.isFreed_of_fields
abbrev VP:=@PySem.wpAny_passesOwn
abbrev VQ:=@Bool.eq_iff_iff
abbrev VR:=@PySem.wpAny_truthy_bool
abbrev VS:=@List.flatten_cons
abbrev VT:=@List.mem_of_mem_take
abbrev VU:=@List.pairwise_append
abbrev VW:=@List.any_cons
abbrev VX:=@PySem.wpAny_onRaise
abbrev VY:=@List.length_erase_of_mem
abbrev VZ:=@Int.mul_ediv_cancel_left
abbrev V0:=@PySem.wpAny_isInstance
abbrev V1:=@Int.fdiv_eq_ediv_of_dvd
abbrev V2:=@List.take_succ
abbrev V3:=@Nat.le_succ
abbrev V4:=@decide_true
abbrev V5:=@PySem.wpAny_mono
abbrev V6:=@PySem.wpAny_typeOf
abbrev V7:=@PySem.tupleKind_room_in1
abbrev V8:=@PySem.F.called_set
abbrev V9:=@List.of_mem_zip
abbrev Wa:=@List.length_zip
abbrev Wb:=@PySem.plainId_quiet
abbrev Wc:=@PySem.wpAny_attempt
abbrev We:=@Array.getElem?_toList
abbrev Wf:=@Bool.and_eq_true_iff
abbrev Wg:=@PySem.Calls.evalArgs_plain
abbrev Wh:=@List.nodup_nil
abbrev Wi:=@List.mem_of_mem_drop
abbrev Wj:=@List.getElem?_mapIdx
abbrev Wl:=@Int.fdiv_eq_ediv_of_nonneg
abbrev Wm:=@Nat.pow_lt_pow_right
abbrev Wn:=@Bool.and_eq_true
abbrev Wo:=@Int.le_of_lt
abbrev Wq:=@List.take_length
abbrev Wr:=@Array.getElem?_eq_getElem
abbrev Ws:=@List.filterMap_cons
abbrev Wt:=@List.length_reverse
abbrev Wu:=@PySem.F.args_tuple_add_2
abbrev Ww:=@PySem.F.slot_tuple_index
abbrev Wx:=@PySem.F.slot_list_getattribute
abbrev Wy:=@List.foldl_cons
abbrev Wz:=@PySem.typeLookup_type
abbrev WA:=@List.forIn_cons
abbrev WB:=@PySem.wpAny_loadPart'
abbrev WC:=@List.cons.injEq
abbrev WE:=@Int.natCast_pos
abbrev WG:=@PySem.call_meets
abbrev WH:=@Int.emod_lt_of_pos
abbrev WI:=@List.length_mapIdx
abbrev WJ:=@PySem.sizeLine_eq
abbrev WK:=@PySem.F.entry_tuple_add
abbrev WL:=@PySem.F.args_dict_get_3
abbrev WM:=@PySem.wpAny_letGo
abbrev WN:=@PySem.F.plainAttrs_list
abbrev WO:=@List.length_eq_zero_iff
abbrev WQ:=@PyProof.Rows.F.plain_set_update_loop
abbrev WR:=@PySem.wpAny_bindName
abbrev WT:=@List.take_sublist
abbrev WU:=@PySem.F.slot_tuple_add
abbrev WV:=@List.reverse_cons
abbrev WW:=@List.append_assoc
abbrev WX:=@PySem.F.entry_dict_get
abbrev WY:=@List.ext_getElem?
abbrev WZ:=@PySem.Obj.cls_mapFields
abbrev W0:=@PySem.F.args_zip_next_1
abbrev W2:=@PySem.wpAny_pyIter_enum
abbrev W3:=@List.length_pos_of_mem
abbrev W4:=@Int.mul_comm
abbrev W5:=@decide_false
abbrev W6:=@List.eraseIdxIfInBounds_toArray
abbrev W7:=@Nat.le_of_ble_eq_true
abbrev W8:=@PyProof.Rows.callWith_builtin1
abbrev W9:=@List.all_eq_true
abbrev Xd:=@PySem.F.entry_zip_next
abbrev Xe:=@PySem.wpAny_pyIter_zip
abbrev Xf:=@List.any_eq_true
abbrev Xg:=@List.filter_cons
abbrev Xh:=@PySem.wpAny_updateSeq_pair
abbrev Xi:=@List.mem_erase_of_ne
abbrev Xj:=@PySem.wpAny_execs_nil
abbrev Xk:=@PySem.wpAny_updateSeq
abbrev Xl:=@Int.emod_nonneg
abbrev Xm:=@List.getElem?_range
abbrev Xn:=@PySem.codeAny_mono
abbrev Xo:=@Nat.zero_add
abbrev Xp:=@Int.sub_self
abbrev Xq:=@Nat.lt_of_le_of_lt
abbrev Xr:=@List.getElem?_drop
abbrev Xs:=@PySem.isSubtype_stop
abbrev Xu:=@Nat.mod_lt
abbrev Xv:=@Int.not_lt
abbrev Xw:=@List.Perm.refl
abbrev Xx:=@Int.mul_right_comm
abbrev Xy:=@List.map_singleton
abbrev Xz:=@Int.toNat_natCast
abbrev XA:=@Option.isSome_map
abbrev XC:=@PySem.wpAny_of_eq
abbrev XE:=@Int.neg_mul
abbrev XF:=@Bool.not_eq_true'
abbrev XG:=@Int.mul_assoc
abbrev XH:=@PySem.W.mg_of
abbrev XI:=@Nat.min_le_right
abbrev XJ:=@true_and
abbrev XM:=@List.map_fst_zip
abbrev XN:=@List.map_snd_zip
abbrev XO:=@Nat.le_of_eq
namespace ET
open PySem PySem.W PyProof.Rows
def jP(tb:String→Option Builtin)(p:Program)(w:World)(n₀:Nat)(ann:Option Value):Nat→SharedT→Thread→Option SharedT
 |0,_,_=>none
 |n+1,s,t=>match through t with
  |true=>some s
  |false=>match stepOk n₀ ann t with
   |false=>none
   |true=>match stepT (denote tb) p w s t with
    |some x=>jP tb p w n₀ ann n x.1 x.2
    |none=>none
theorem nM{tb:String→Option Builtin}{p:Program}{w:World}{n₀:Nat}{ann:Option Value}:∀{n:Nat} {s s':SharedT} {t:Thread},jP tb p w n₀ ann n s t=some s'→topRun tb p w n₀ ann n s.abs t=some s'.abs
 |0,_,_,_,h=>by cases h
 |n+1,s,s',t,h=>by
  unfold jP at h
  unfold topRun
  cases he:through t with
  |true=>rw[he]at h;cases h;rfl
  |false=>
   rw[he]at h
   cases hk:stepOk n₀ ann t with
   |false=>rw[hk]at h;cases h
   |true=>
    rw[hk]at h
    cases hs:stepT (denote tb) p w s t with
    |none=>rw[hs]at h;cases h
    |some r=>rw[hs]at h;rw[stepT_spec hs];exact nM h
def DK:List Obj→BT→Nat→Option (BT×Nat)
 |[],t,n=>some (t,n)
 |o::os,t,n=>match ((t.ins n o).get n).isSome with
  |true=>DK os (t.ins n o) (n+1)
  |false=>none
theorem tt{life:Life}:∀{os:List Obj} {t t':BT} {n n':Nat},DK os t n=some (t',n')→absHeap t' n' life=⟨(absHeap t n life).objs++os.toArray,life⟩
 |[],t,t',n,n',h=>by cases h;simp[absHeap]
 |o::os,t,t',n,n',h=>by
  unfold DK at h
  cases g:((t.ins n o).get n).isSome with
  |false=>rw[g]at h;cases h
  |true=>
   rw[g]at h
   rw[tt h,absHeap_ins g]
   simp[Heap.push]
def jQ(tb:String→Option Builtin)(p:Program)(w:World)(N:Nat)(s₀:Shared):Option Shared:=
 match s₀.heap.isNs mainGlobals&&s₀.gens.size == 0 with
 |true=>match DK s₀.heap.objs.toList .nil 0 with
  |some x=>match jP tb p w x.2 (s₀.heap.nsMap mainGlobals "__annotations__") N ⟨x.1,x.2,s₀.heap.life,s₀.gens,s₀.drawn,s₀.toks,s₀.os⟩ (topStub p)with
   |some s=>match staticsOk (importedModules p.main.body) s₀.heap s.abs.heap&&namesBound p s.abs.heap&&gensDone s.abs&&laidKept s₀.heap s.abs.heap with
    |true=>some s.abs
    |false=>none
   |none=>none
  |none=>none
 |false=>none
theorem rQ{tb:String→Option Builtin}{p:Program}{w:World}{N:Nat}{s₀ s:Shared}(h:jQ tb p w N s₀=some s):topFrom tb p w N s₀=some s:=by
 unfold jQ at h
 unfold topFrom
 cases h1:s₀.heap.isNs mainGlobals&&s₀.gens.size == 0 with
 |false=>rw[h1]at h;cases h
 |true=>
  rw[h1]at h
  dsimp only at h ⊢
  cases h2:DK s₀.heap.objs.toList .nil 0 with
  |none=>rw[h2]at h;cases h
  |some x=>
   rw[h2]at h
   dsimp only at h
   have e:=tt (life:=s₀.heap.life) h2
   have e':absHeap x.1 x.2 s₀.heap.life=s₀.heap:=by
    rw[e]
    simp[absHeap,BT.list]
   have n':x.2=s₀.heap.objs.size:=by rw[←e',absHeap_size]
   cases h3:jP tb p w x.2 (s₀.heap.nsMap mainGlobals "__annotations__") N ⟨x.1,x.2,s₀.heap.life,s₀.gens,s₀.drawn,s₀.toks,s₀.os⟩ (topStub p)with
   |none=>rw[h3]at h;cases h
   |some r=>
    rw[h3]at h
    dsimp only at h
    have ea:SharedT.abs ⟨x.1,x.2,s₀.heap.life,s₀.gens,s₀.drawn,s₀.toks,s₀.os⟩=s₀:=by
     unfold SharedT.abs
     rw[e']
    have:=nM h3
    rw[ea,n']at this
    rw[this]
    exact h
theorem rR{tb:String→Option Builtin}{p:Program}{w:World}{N:Nat}{s₀:Shared}{α:Type}{f:Shared→α}{a:α}(h:Option.map f (jQ tb p w N s₀)=some a):Option.map f (topFrom tb p w N s₀)=some a:=by
 obtain⟨s,h1,h2⟩:=UC.mp h
 rw[rQ h1]
 exact Uu some h2
def seenT(p q:Program)(loose:List Str)(Xt:Shared→Bool){α:Type}(Yf:Shared→α)(N:Nat)(u u':World):=
 Option.map (fun c=>Option.map (fun s=>(openSeen q loose (importedModules p.main.body) Xt true s,Yf s)) (jQ treeTable p u' N c)) (fencedOpening treeTable p u N)
lay_quick seenT
theorem tw{p q:Program}{loose:List Str}{Xt:Shared→Bool}{α:Type}{Yf:Shared→α}{N:Nat}{u u':World}{r}(h:PySem.W.Fast.tw2787559817927863336 p q loose Xt Yf N u u'=r):seenT p q loose Xt Yf N u u'=r:=by
 rw[PySem.W.Fast.te2787559817927863336]
 exact h
theorem Fu{p q:Program}{loose:List Str}{Xt:Shared→Bool}{α:Type}{Yf:Shared→α}{Ya:World→α}{N:Nat}
  (h:∀u:World,seenT p q loose Xt Yf N u u=some (some (openGood q loose,Ya u))):LeftO p q loose Xt Yf Ya N:=fun u=>by
 obtain⟨c,a,b⟩:=UC.mp (h u)
 unfold openEnds
 rw[a]
 exact rR b
theorem vT{p q:Program}{loose:List Str}{Xt:Shared→Bool}{α:Type}{Yf:Shared→α}{Ya:World→α}{N:Nat}(row:String)
  (h0:∀u:World,seenT p q loose Xt Yf N u (u.withFollow row false)=some (some (openGood q loose,Ya (u.withFollow row false))))
  (h1:∀u:World,seenT p q loose Xt Yf N u (u.withFollow row true)=some (some (openGood q loose,Ya (u.withFollow row true)))):LeftO p q loose Xt Yf Ya N:=fun u=>by
 obtain⟨c,a,b⟩:=UC.mp (h0 u)
 obtain⟨c',a',b'⟩:=UC.mp (h1 u)
 have hc:c'=c:=by rw[a]at a';cases a';rfl
 subst hc
 have b:=rR b
 have b':=rR b'
 have hu:=World.withFollow_self u row
 unfold openEnds
 rw[a]
 cases hb:u.params.followText row<;>rw[hb]at hu
 ·rw[hu]at b
  exact b
 ·rw[hu]at b'
  exact b'
end ET
namespace E38
open PySem PySem.W PyProof.Rows
abbrev tp(i:Nat):Stmt:=PySem.Challenge.pw_dueworth_k38_papers_looked_at.main.body.getD i (.Pass ⟨0,0,0,0⟩)
/-- the text without what says nothing -/
def vw:Program:={ PySem.Challenge.pw_dueworth_k38_papers_looked_at with main:={ PySem.Challenge.pw_dueworth_k38_papers_looked_at.main with body:=[tp 1,tp 2,tp 3,tp 4,tp 6,tp 7,tp 8,tp 9,tp 10,tp 11,tp 12,tp 13,tp 15,tp 16,tp 19,tp 20,tp 21,tp 23,tp 24,tp 25,tp 26,tp 27,tp 28,tp 29,tp 31,tp 32,tp 34,tp 35,tp 36,tp 37,tp 39,tp 40,tp 41,tp 42,tp 43,tp 44,tp 45,tp 46,tp 47,tp 48,tp 49,tp 50,tp 51,tp 52,tp 53,tp 54,tp 55,tp 56,tp 57,tp 58,tp 59,tp 60,tp 61,tp 62,tp 63,tp 64,tp 65,tp 66,tp 67,tp 68,tp 69,tp 70,tp 71,tp 72] } }
abbrev rr:RowW:=OpenRow.toRowW (OpenLaw.row PySem.Challenge.rw_dueworth_k38_papers_looked_at)
local macro_rules | `(tactic| o_head $H)=>`(tactic|
 refine holds_open (q:=vw) (loose:=["SIDES_FROM","parts_reached"]) (Xt:=fun s=>(xlAt vw [] s&&recOk (RowW.records rr) s)) (XP:=XL vw []) (N:=4260)
  (Yf:=Hook.obs $H) (Ya:=Hook.val $H) (YP:=Hook.says $H) ?hl (Hook.of $H) (Hook.keeps $H) (fun s e=>xl_of s (Wf.mp e).1)
  XL.keeps rfl rfl rfl (fun s e=>recFacts_of (Wf.mp e).2) rfl (by assumption)
  (by decide +kernel) ⟨rfl,rfl,rfl,rfl,rfl,by decide +kernel⟩ ?hw ?hc)
/-- the law is well said: by the quick twin of the look,with no twin of the program -/
theorem said:OpenLaw.wellSaid PySem.Challenge.rw_dueworth_k38_papers_looked_at=true:=(congrFun PySem.W.Fast.te9446332074065402090 _).trans (by kernel_rfl)
/-- says nothing; what lies in the heap is written down by the way -/
theorem early(h:∀P:Prop,P):PySem.Challenge.rw_dueworth_k38_papers_looked_at.Holds:=by
 w_on;refine holds_law said fun said=>?_;k_head
 all_goals exact h _
abbrev as:List Addr:=[2,3,15,16,18,19,21,22,23,25,26,28,29,30,32,33,35,36,37,39,40,42,43,44,47,48,49,51,52,54,55,56,58,59,61,62,63,65,66,68,69,70,72,73,75,76,77,79,80,82,83,84,86,87,89,90,91,93,94,96,97,98,100,101,103,104,105,106,108,109,111,112,113,115,116,118,119,120,122,123,125,126,127,130,131,132,134,135,137,138,139,141,142,144,145,146,148,149,151,152,153,155,156,158,159,160,162,163,165,166,167,169,170,172,173,174,176,177,179,180,181,184,185,186,189,190,191,194,195,196,198,199,201,202,203,206,207,208,211,212,213,216,217,218,220,221,223,224,225,228,229,230,232,233,235,236,237,239,240,242,243,244,246,247,249,250,251,253,254,256,257,258,260,261,263,264,265,267,268,270,271,272,274,275,277,278,279,281,282,284,285,286,288,289,291,292,293,296,297,298,300,301,303,304,305,307,308,310,311,312,315,316,317,319,320,322,323,324,326,327,329,330,331,333,334,336,337,338,341,342,343,345,346,348,349,350,352,353,355,356,357,359,360,362,363,364,367,368,369,372,373,374,377,378,379,382,383,384,386,387,389,390,391,393,394,396,397,398,401,402,403,405,406,408,409,410,413,414,415,417,418,420,421,422,424,425,427,428]
theorem GJ(P:Params):as=(early.heap_1 P).map (·.1):=by kernel_rfl
noncomputable abbrev hk:Hook:=kHook early.heap_1 as GJ
theorem DL(u:World):ET.seenT (OpenLaw.row PySem.Challenge.rw_dueworth_k38_papers_looked_at).prog vw ["SIDES_FROM","parts_reached"] (fun s=>(xlAt vw [] s&&recOk (RowW.records rr) s)) (Hook.obs hk) 4260 u (u.withFollow "special-get-raises" false)=some (some (openGood vw ["SIDES_FROM","parts_reached"],Hook.val hk (u.withFollow "special-get-raises" false))):=ET.tw (by kernel_rfl)
theorem DM(u:World):ET.seenT (OpenLaw.row PySem.Challenge.rw_dueworth_k38_papers_looked_at).prog vw ["SIDES_FROM","parts_reached"] (fun s=>(xlAt vw [] s&&recOk (RowW.records rr) s)) (Hook.obs hk) 4260 u (u.withFollow "special-get-raises" true)=some (some (openGood vw ["SIDES_FROM","parts_reached"],Hook.val hk (u.withFollow "special-get-raises" true))):=ET.tw (by kernel_rfl)
theorem left:LeftO (OpenLaw.row PySem.Challenge.rw_dueworth_k38_papers_looked_at).prog vw ["SIDES_FROM","parts_reached"] (fun s=>(xlAt vw [] s&&recOk (RowW.records rr) s)) (Hook.obs hk) (Hook.val hk) 4260:=ET.vT "special-get-raises" DL DM
end E38
end
open PySem in
abbrev Vq:=Value->Shared->Prop
open PySem in
abbrev Va:=List (Addr×Obj)
open PySem in
abbrev Vo:=PySem.W.Frag
open PySem in
abbrev Vr:=Str->Option Value
open PySem in
abbrev Vs:=List Str
open PySem in
abbrev Vu:=List Int
open PySem in
abbrev Vv:=List Value
open PySem in
abbrev Vw:=Array Value
set_option Elab.async false
set_option linter.all false
set_option maxRecDepth 100000
namespace L2
open PySem PySem.Spec PyProof.Rows
abbrev bf:=Sum Int Str
noncomputable def nN:bf->Value->Bool
 | .inl k,v=>Value.isInt k v
 | .inr x,v=>Value.isStrOf x v
noncomputable def FJ(w:World):bf->Int
 | .inl k=>hashInt k
 | .inr x=>hashStr w x
theorem bE:∀{k:bf} {v:Value},nN k v=true->(∃i t,k=Sum.inl i/\v=Value.int i t)\/(∃x t,k=Sum.inr x/\v=Value.str x t)
 | .inl i,v,h=>by
  obtain⟨t,e⟩:=Value.isInt_shape (k:=i) (v:=v) h
  exact .inl ⟨i,t,rfl,e⟩
 | .inr x,v,h=>by
  obtain⟨t,e⟩:=Value.isStrOf_shape (x:=x) (v:=v) h
  exact .inr ⟨x,t,rfl,e⟩
def uy(i:Int)(t:Tok):nN (.inl i) (.int i t)=true:=by simp[nN,Value.isInt]
def kz(x:Str)(t:Tok):nN (.inr x) (.str x t)=true:=by simp[nN,Value.isStrOf]
def BD(a b:Int):decide ((Sum.inl a:bf)=Sum.inl b)=(a == b):=by
 by_cases e:a=b
 ·subst e;simp
 ·have h:¬(Sum.inl a:bf)=Sum.inl b:=fun q=>e (Sum.inl.inj q)
  rw[Tw h]
  exact(beq_eq_false_iff_ne.mpr e).symm
def BE(a b:Str):decide ((Sum.inr a:bf)=Sum.inr b)=decide (a=b):=by
 by_cases e:a=b
 ·subst e;simp
 ·have h:¬(Sum.inr a:bf)=Sum.inr b:=fun q=>e (Sum.inr.inj q)
  rw[Tw h,Tw e]
def BF(a:Int)(b:Str):decide ((Sum.inl a:bf)=Sum.inr b)=false:=Tw (fun q=>nomatch q)
def BG(a:Str)(b:Int):decide ((Sum.inr a:bf)=Sum.inl b)=false:=Tw (fun q=>nomatch q)
noncomputable def aU(prog:Program)(w:World):PySem.KeyKind prog w bf where
 is:=nN
 hash:=FJ w
 inj:=fun v a b ha hb=>by
  rcases bE ha with⟨i,t,rfl,rfl⟩|⟨x,t,rfl,rfl⟩
  ·rcases bE hb with⟨j,u,rfl,e⟩|⟨y,u,rfl,e⟩
   ·injection e with e1 _;rw[e1]
   ·exact nomatch e
  ·rcases bE hb with⟨j,u,rfl,e⟩|⟨y,u,rfl,e⟩
   ·exact nomatch e
   ·injection e with e1 _;rw[e1]
 byValue:=fun k v h=>by
  rcases bE h with⟨i,t,rfl,rfl⟩|⟨x,t,rfl,rfl⟩<;>rfl
 pyHash:=fun hv h=>by
  rcases bE hv with⟨i,t,rfl,rfl⟩|⟨x,t,rfl,rfl⟩
  ·exact wpAny_pyHash_int h
  ·exact wpAny_pyHash_str h
 eqBool:=fun hu hv h=>by
  rcases bE hu with⟨i,t,rfl,rfl⟩|⟨x,t,rfl,rfl⟩
  ·rcases bE hv with⟨j,u,rfl,rfl⟩|⟨y,u,rfl,rfl⟩
   ·rw[BD]at h;exact wpAny_eqBool_int h
   ·rw[BF]at h;exact SeqAt.EqAt.int_str i t y u _ _ _ _ h
  ·rcases bE hv with⟨j,u,rfl,rfl⟩|⟨y,u,rfl,rfl⟩
   ·rw[BG]at h;exact SeqAt.EqAt.str_int x t j u _ _ _ _ h
   ·rw[BE]at h;exact wpAny_eqBool_str h
 «strs»:=fun k x t v h=>by
  rcases bE h with⟨i,u,rfl,e⟩|⟨y,u,rfl,e⟩
  ·exact nomatch e
  ·injection e with e1 _
   subst e1
   cases v<;>rfl
def qr(prog:Program)(w:World)(i:Int)(t:Tok):(aU prog w).is (.inl i) (.int i t)=true:=uy i t
def qt(prog:Program)(w:World)(x:Str)(t:Tok):(aU prog w).is (.inr x) (.str x t)=true:=kz x t
inductive V where
 |non|bl (b:Bool)|int (i:Int)|str (x:Str)|MW (b:Array UInt8)|P5 (b:UInt64)|ref (a:Addr)|ty (n:String)
 deriving DecidableEq
noncomputable def RelV:V->Value->Prop
 | .non,u=>u=Value.none
 | .bl b,u=>u=Value.bool b
 | .int i,u=>∃t,u=Value.int i t
 | .str x,u=>∃t,u=Value.str x t
 | .MW b,u=>∃t,u=Value.bytes b t
 | .P5 b,u=>∃t,u=Value.float b t
 | .ref a,u=>u=Value.ref a
 | .ty n,u=>u=Value.type n
noncomputable abbrev Vals:List V->List Value->Prop:=Paired RelV
theorem Vals.length{xs:List V}{us:Vv}(r:Vals xs us):xs.length=us.length:=Paired.length r
theorem Vals.get:∀{xs:List V} {us:Vv} {i:Nat} {x:V},Vals xs us->xs[i]?=some x->∃u,us[i]?=some u/\RelV x u
 |_,_,_,_,.nil,e=>by simp at e
 |_,_,0,_,.cons r _,e=>by simp at e;subst e;exact⟨_,rfl,r⟩
 |_,_,i+1,x,.cons _ t,e=>by
  obtain⟨u,h1,h2⟩:=Vals.get (i:=i) (x:=x) t (by simpa using e)
  exact⟨u,by simpa using h1,h2⟩
theorem Vals.set{x:V}{u:Value}(r:RelV x u):∀{xs:List V} {us:Vv} (i:Nat),Vals xs us->Vals (xs.set i x) (us.set i u)
 |_,_,_,.nil=>.nil
 |_,_,0,.cons _ t=>.cons r t
 |_,_,i+1,.cons q t=>.cons q (Vals.set r i t)
theorem Vals.append:∀{xs ys:List V} {us ws:Vv},Vals xs us->Vals ys ws->Vals (xs++ys) (us++ws)
 |_,_,_,_,.nil,s=>s
 |_,_,_,_,.cons r t,s=>.cons r (Vals.append t s)
theorem Vals.take:∀{xs:List V} {us:Vv} (n:Nat),Vals xs us->Vals (xs.take n) (us.take n)
 |_,_,0,_=>.nil
 |_,_,_+1,.nil=>.nil
 |_,_,n+1,.cons r t=>.cons r (Vals.take n t)
theorem Vals.drop:∀{xs:List V} {us:Vv} (n:Nat),Vals xs us->Vals (xs.drop n) (us.drop n)
 |_,_,0,r=>r
 |_,_,_+1,.nil=>.nil
 |_,_,n+1,.cons _ t=>Vals.drop n t
noncomputable def RelO:Option V->Option Value->Prop
 |some v,some u=>RelV v u
 |none,none=>True
 |_,_=>False
noncomputable def KV{κ:Type}:List (κ×V)->List (κ×Value)->Prop:=Paired fun(p:κ×V) (q:κ×Value)=>p.1=q.1/\RelV p.2 q.2
noncomputable def kV:bf->V
 | .inl i=>.int i
 | .inr x=>.str x
inductive HO where
 /-- a list -/
 |lst (xs:List V)
 /-- a tuple (never changes) -/
 |tup (xs:List V)
 /-- a dict whose keys are ints and texts; one whose keys are tuples of ints and texts (the empty one is both) -/
 |dK (kvs:List (bf×V))|dT (kvs:List (List bf×V))
 /-- a set of ints: its members,its size -/
 |set (S:Int->Bool) (n:Nat)
 /-- an instance of the class at C,its dict at dx,its attributes -/
 |ins (C dx:Addr) (fs:List (Str×V))
 /-- the dict of the instance at x -/
 |own (x:Addr)
 /-- the dict of an exception -/
 |xd (fs:List (Str×V))
 /-- a bound method,f of x -/
 |met (f x:Addr)
 /-- a range object lo,lo + 1,.. below hi -/
 |Ow (lo hi:Int)
 /-- a thing that is known to the object (the script; a dict while a loop walks it): read,never written while it is so -/
 |frz (o:Obj) (u:HO)
 /-- a code object's table -/
 |N0 (ps:Vw)
 /-- any other thing,by what is true of its one object (a def of Q_ own: R4 a S n:=HO.ext fun h=>..) -/
 |ext (φ:Heap->Prop)
abbrev Hp:=Addr->Option HO
noncomputable def upd(H:Hp)(a:Addr)(o:HO):Hp:=fun b=>if b=a then some o else H b
def aH{H:Hp}{a:Addr}{o:HO}:upd H a o a=some o:=by unfold upd;rw[if_pos rfl]
def aL{H:Hp}{a b:Addr}{o:HO}(h:b≠a):upd H a o b=H b:=by unfold upd;rw[if_neg h]
def DN{H:Hp}{a b:Addr}{o u:HO}(h:H a=some o)(h':H b=some u)(d:o≠u):a≠b:=by
 intro e;subst e;rw[h]at h';exact d (UB h')
def bz{H:Hp}{a b:Addr}{o:HO}(h:H a=some o)(h':H b=none):a≠b:=by
 intro e;subst e;rw[h]at h';cases h'
def IA(h:Heap)(a:Addr)(its:Vw):Prop:=∃o,h.get? a=some o/\o.dict=none/\o.cls = .type "tuple"/\∃n,o.data = .seq its n
def IA.tup{h:Heap}{a:Addr}{its:Vw}(x:IA h a its):IsTup h a its:=let ⟨o,e,_,c,d⟩:=x;⟨o,e,c,d⟩
def IA.new(h:Heap)(its:Vw):IA (h.push { cls:=.type "tuple",data:=.seq its }) h.objs.size its:=⟨_,Tn _ rfl,rfl,rfl,_,rfl⟩
section
variable (P:Program) (w:World)
noncomputable def HY(H:Hp)(h:Heap)(a:Addr):HO->Prop
 | .lst xs=>xs.length<=sizeLine/\∃(its:Vv) (n:Nat),Vals xs its/\h.get? a=some { cls:=.type "list",data:=.seq its.toArray n }
 | .tup xs=>xs.length<=sizeLine/\∃its:List Value,Vals xs its/\IA h a its.toArray
 | .dK kvs=>kvs.length<=sizeLine/\(a == sysModules)=false/\∃vs,KV kvs vs/\h.DictOf (aU P w) a vs
 | .dT kvs=>kvs.length<=sizeLine/\(a == sysModules)=false/\∃xs:List (List bf×Addr×Value),
   Paired (fun(p:List bf×V) (q:List bf×Addr×Value)=>p.1=q.1/\H q.2.1=some (.tup (p.1.map kV))/\RelV p.2 q.2.2) kvs xs/\
   ∃o es ep,h.get? a=some o/\o.ExactDict/\o.data = .dict es ep/\es.toList=xs.map (entryOfKey (tupleKind (aU P w)))/\(xs.map (·.1)).Nodup
 | .set S n=>h.SetOf (intKind P w) a S n
 | .ins C dx fs=>H dx=some (.own a)/\fs.length<=1000/\dx≠a/\h.get? a=some (PySem.W.instObj C dx)/\
   ∃mA,h.Ns1 dx mA/\(∀f,RelO (fs.lookup f) (mA f))/\PySem.Within mA (fs.map (·.1))
 | .own _=>∃o,h.get? a=some o
 | .xd fs=>∃mA,h.Ns1 a mA/\∀f,RelO (fs.lookup f) (mA f)
 | .Ow lo hi=>∃t u v,h.get? a=some { cls:=.type "range",data:=.fields #[.int lo t,.int hi u,.int 1 v] }
 | .frz o u=>h.get? a=some o/\HY H h a u
 | .N0 ps=>h.get? a=some { cls:=.none,data:=.fields ps }
 | .met f x=>h.get? a=some (PySem.W.methodObj (.ref f) (.ref x))
 | .ext φ=>φ h/\(∃o,h.get? a=some o)/\∀h1 h2:Heap,φ h1->(∀o,h1.get? a=some o->h2.get? a=some o)->φ h2
def Kq(H:Hp)(h:Heap):Prop:=∀a o,H a=some o->HY P w H h a o
end
section
variable {P:Program} {w:World} {H H':Hp} {h h':Heap} {a:Addr} {o:HO}
theorem HY.lt(x:HY P w H h a o):a < h.objs.size:=by
 cases o with
 |lst xs=>obtain⟨_,_,_,_,e⟩:=x;exact To e
 |tup xs=>obtain⟨_,_,_,p⟩:=x;exact p.tup.lt
 |dK kvs=>obtain⟨_,_,_,_,o,_,_,e,_⟩:=x;exact To e
 |dT kvs=>obtain⟨_,_,_,_,o,_,_,e,_⟩:=x;exact To e
 |set S n=>obtain⟨o,_,_,_,e,_⟩:=x;exact To e
 |ins C dx fs=>obtain⟨_,_,_,e,_⟩:=x;exact To e
 |own y=>obtain⟨_,e⟩:=x;exact To e
 |xd fs=>obtain⟨_,⟨_,_,_,e,_⟩,_⟩:=x;exact To e
 |Ow lo hi=>obtain⟨_,_,_,e⟩:=x;exact To e
 |frz ob u=>obtain⟨e,_⟩:=x;exact To e
 |N0 ps=>exact To (show h.get? a=some _ from x)
 |met f y=>exact To (show h.get? a=some _ from x)
 |ext φ=>obtain⟨_,⟨_,e⟩,_⟩:=x;exact To e
theorem Paired.N1{α β:Type}{F G:α->β->Prop}:∀{l₁:List α} {l₂:List β},Paired F l₁ l₂->(∀a b,F a b->G a b)->Paired G l₁ l₂
 |_,_,.nil,_=>.nil
 |_,_,.cons r t,f=>.cons (f _ _ r) (Paired.N1 t f)
def HY.stay(x:HY P w H h a o)(k:∀b u,(b=a\/H b=some (.own a))->h.get? b=some u->h'.get? b=some u)
  (ho:∀b,H b=some (.own a)->H' b=some (.own a)) (ht:∀b xs,H b=some (.tup xs)->H' b=some (.tup xs)):HY P w H' h' a o:=by
 induction o with
 |lst xs=>obtain⟨z,its,n,r,e⟩:=x;exact⟨z,its,n,r,k _ _ (.inl rfl) e⟩
 |tup xs=>obtain⟨z,its,r,ob,e,c⟩:=x;exact⟨z,its,r,ob,k _ _ (.inl rfl) e,c⟩
 |dK kvs=>obtain⟨z,y,vs,r,ob,es,ep,e,c⟩:=x;exact⟨z,y,vs,r,ob,es,ep,k _ _ (.inl rfl) e,c⟩
 |dT kvs=>
  obtain⟨z,y,xs,r,ob,es,ep,e,c⟩:=x
  exact⟨z,y,xs,Paired.N1 r fun p q z=>⟨z.1,ht _ _ z.2.1,z.2.2⟩,ob,es,ep,k _ _ (.inl rfl) e,c⟩
 |set S n=>obtain⟨ob,es,ep,t,e,c⟩:=x;exact⟨ob,es,ep,t,k _ _ (.inl rfl) e,c⟩
 |ins C dx fs=>
  obtain⟨d,z,ne,e,mA,⟨od,es,ep,e2,c⟩,r⟩:=x
  exact⟨ho _ d,z,ne,k _ _ (.inl rfl) e,mA,⟨od,es,ep,k _ _ (.inr d) e2,c⟩,r⟩
 |own y=>obtain⟨ob,e⟩:=x;exact⟨ob,k _ _ (.inl rfl) e⟩
 |xd fs=>obtain⟨mA,⟨od,es,ep,e,c⟩,r⟩:=x;exact⟨mA,⟨od,es,ep,k _ _ (.inl rfl) e,c⟩,r⟩
 |Ow lo hi=>obtain⟨t,u,v,e⟩:=x;exact⟨t,u,v,k _ _ (.inl rfl) e⟩
 |frz ob u ih=>obtain⟨e,q⟩:=x;exact⟨k _ _ (.inl rfl) e,ih q⟩
 |N0 ps=>
  have e:h.get? a=some { cls:=.none,data:=.fields ps }:=x
  show h'.get? a=some { cls:=.none,data:=.fields ps }
  exact k a _ (.inl rfl) e
 |met f y=>
  have e:h.get? a=some (PySem.W.methodObj (.ref f) (.ref y)):=x
  show h'.get? a=some (PySem.W.methodObj (.ref f) (.ref y))
  exact k a _ (.inl rfl) e
 |ext φ=>obtain⟨p,⟨o,e⟩,st⟩:=x;exact⟨st _ _ p fun o q=>k _ _ (.inl rfl) q,⟨o,k _ _ (.inl rfl) e⟩,st⟩
theorem Kq.lt(x:Kq P w H h)(e:H a=some o):a < h.objs.size:=(x a o e).lt
def Kq.fresh(x:Kq P w H h)(e:h.objs.size<=a):H a=none:=by
 cases q:H a with
 |none=>rfl
 |some u=>exact absurd (TU (x.lt q) e) (U0 _)
def Kq.kept(x:Kq P w H h)(k:∀b u,h.get? b=some u->h'.get? b=some u):Kq P w H h':=fun a o e=>
 (x a o e).stay (fun b u _ q=>k b u q) (fun _ q=>q) fun _ _ q=>q
def Kq.laid(x:Kq P w H h)(k:∀b u,h.get? b=some u->h'.get? b=some u)(hp:h.objs.size<=a)(new:HY P w (upd H a o) h' a o):Kq P w (upd H a o) h':=fun b u e=>by
 have hn:=x.fresh hp
 by_cases hb:b=a
 ·subst hb;rw[aH]at e;cases e;exact new
 ·rw[aL hb]at e
  exact(x b u e).stay (fun c v _ q=>k c v q) (fun c q=>by rw[aL (bz q hn)];exact q) fun c xs q=>by rw[aL (bz q hn)];exact q
end
def Rd(H:Hp)(a:Addr)(u:HO):Prop:=H a=some u\/∃o,H a=some (.frz o u)
def Rd.ok{P:Program}{w:World}{H:Hp}{h:Heap}{a:Addr}{u:HO}(r:Rd H a u)(x:Kq P w H h):HY P w H h a u:=by
 rcases r with r|⟨o,r⟩
 ·exact x a u r
 ·obtain⟨_,q⟩:=x a _ r
  exact q
noncomputable def DO:Option HO->Prop
 |some (.lst _)=>True
 |some (.dK _)=>True
 |some (.dT _)=>True
 |some (.set _ _)=>True
 |some (.ins _ _ _)=>True
 |some (.ext _)=>True
 |_=>False
section
variable {P:Program} {w:World} {H:Hp} {h h':Heap} {x e:Addr} {o':HO}
def Kq.write(ok:Kq P w H h)(mu:DO (H x))(he:e=x\/H e=some (.own x))(k:∀b u,b≠e->h.get? b=some u->h'.get? b=some u)(Ox:∃u,h'.get? e=some u)
  (new:HY P w (upd H x o') h' x o'):Kq P w (upd H x o') h':=fun b u q=>by
 have OK:∀c y,H c=some (.own y)->c≠x:=fun c y r z=>by subst z;rw[r]at mu;exact mu
 have P6:∀c xs,H c=some (.tup xs)->c≠x:=fun c xs r z=>by subst z;rw[r]at mu;exact mu
 by_cases hb:b=x
 ·subst hb;rw[aH]at q;cases q;exact new
 ·rw[aL hb]at q
  by_cases N4:b=e
  ·have q':H b=some (.own x):=by
    rcases he with z|z
    ·exact absurd (N4.trans z) hb
    ·rw[N4];exact z
   rw[q]at q';cases q'
   obtain⟨v,hv⟩:=Ox
   exact⟨v,by rw[N4];exact hv⟩
  ·refine(ok b u q).stay (fun c v hc r=>k c v ?_ r) (fun c r=>by rw[aL (OK c b r)];exact r) fun c xs r=>by rw[aL (P6 c xs r)];exact r
   rcases hc with rfl|hc
   ·exact N4
   ·rintro rfl
    rcases he with z|z
    ·exact OK c b hc z
    ·rw[hc]at z;cases z;exact hb rfl
end
structure Un (fs ex:List Addr) (H H':Hp) (h h':Heap):Prop where
 keep:∀b o,h.get? b=some o->H b=none->b ∉ fs->b ∉ ex->h'.get? b=some o
 slot:∀b o,h.get? b=some o->H b=none->b∈fs->b ∉ ex->∃sl,h'.get? b=some { o with slots:=sl }
 free:∀b o,h.get? b=some o->H b=none->b ∉ ex->H' b=none
 there:∀b o,h.get? b=some o->b ∉ ex->∃o',h'.get? b=some o'
 tups:∀b xs,H b=some (.tup xs)->H' b=some (.tup xs)
 LB:∀b o u,H b=some (.frz o u)->H' b=some (.frz o u)
 L_:∀b ps,H b=some (.N0 ps)->∃more,H' b=some (.N0 (ps++more))
section
variable {fs fs' ex ex':List Addr} {H H1 H2:Hp} {h h1 h2 h':Heap} {a x e:Addr} {o:HO}
def Un.any(u:Un fs ex H H1 h h1){b:Addr}{ob:Obj}(q:h.get? b=some ob)(n:H b=none)(hx:b ∉ ex):∃sl,h1.get? b=some { ob with slots:=sl }:=by
 by_cases hb:b∈fs
 ·exact u.slot b ob q n hb hx
 ·exact⟨ob.slots,u.keep b ob q n hb hx⟩
def Un.kept(k:∀b u,h.get? b=some u->h'.get? b=some u):Un fs ex H H h h':=
 ⟨fun b ob q _ _ _=>k b ob q,fun b ob q _ _ _=>⟨ob.slots,k b ob q⟩,fun _ _ _ n _=>n,fun b ob q _=>⟨ob,k b ob q⟩,fun _ _ q=>q,fun _ _ _ q=>q,fun _ ps q=>⟨#[],by rw[q];simp⟩⟩
def Un.refl:Un fs ex H H h h:=Un.kept fun _ _ q=>q
def Un.laid(k:∀b u,h.get? b=some u->h'.get? b=some u)(hp:h.objs.size<=a)(hn:H a=none):Un fs ex H (upd H a o) h h' where
 keep:=fun b u q _ _ _=>k b u q
 slot:=fun b u q _ _ _=>⟨u.slots,k b u q⟩
 free:=fun b u q n _=>by rw[aL (TM (TU (To q) hp))];exact n
 there:=fun b u q _=>⟨u,k b u q⟩
 tups:=fun b xs q=>by rw[aL (bz q hn)];exact q
 LB:=fun b u xs q=>by rw[aL (bz q hn)];exact q
 L_:=fun b ps q=>⟨#[],by rw[aL (bz q hn),q];simp⟩
def Un.write(mu:DO (H x))(he:e=x\/H e=some (.own x))(k:∀b u,b≠e->h.get? b=some u->h'.get? b=some u)(Ox:∃u,h'.get? e=some u):Un fs ex H (upd H x o) h h':=by
 have hx:∀b,H b=none->b≠x:=fun b n z=>by subst z;rw[n]at mu;exact mu
 have hb:∀b,H b=none->b≠e:=fun b n z=>by
  subst z
  rcases he with r|r
  ·exact hx b n r
  ·rw[n]at r;cases r
 have hm:∀b u,H b=some u->¬DO (some u)->b≠x:=fun b u q nm z=>by subst z;rw[q]at mu;exact nm mu
 refine⟨fun b u q n _ _=>k b u (hb b n) q,fun b u q n _ _=>⟨u.slots,k b u (hb b n) q⟩,fun b u q n _=>by rw[aL (hx b n)];exact n,fun b u q _=>?_,
  fun b xs q=>by rw[aL (hm b _ q fun z=>z)];exact q,fun b u xs q=>by rw[aL (hm b _ q fun z=>z)];exact q,fun b ps q=>⟨#[],by rw[aL (hm b _ q fun z=>z),q];simp⟩⟩
 by_cases N4:b=e
 ·subst N4;exact Ox
 ·exact⟨u,k b u N4 q⟩
end
noncomputable def Fv(h:Heap)(H:Hp):List Addr:=(List.range h.objs.size).filter fun a=>(H a).isSome
noncomputable def oJ(h:Heap)(H:Hp):Heap:=PySem.W.hideAll h (Fv h H)
def uz(h:Heap)(H:Hp):(oJ h H).objs.size=h.objs.size:=PySem.W.hideAll_size _ _
def vU{h:Heap}{H:Hp}{b:Addr}{o:Obj}(e:h.get? b=some o)(n:H b=none):(oJ h H).get? b=some o:=
 PySem.W.hideAll_get _ e fun hm=>by
  have q:(H b).isSome=true:=(Vf.mp hm).2
  rw[n]at q;simp at q
def yU{h:Heap}{H:Hp}{b:Addr}{o:Obj}(e:(oJ h H).get? b=some o):h.get? b=some o/\H b=none:=by
 have e':h.get? b=some o:=PySem.W.of_hideAll (Fv h H) e
 refine⟨e',?_⟩
 cases q:H b with
 |none=>rfl
 |some x=>
  have hm:b∈Fv h H:=Vf.mpr ⟨U9.mpr (To e'),by simp[q]⟩
  have z:(oJ h H).get? b=none:=PySem.W.hideAll_none (Fv h H) hm
  rw[z]at e;cases e
structure Mod (K:Vo) (mg:Vr) (base:Heap):Prop where
 P7:K.In base
 glob:base.Ns mainGlobals mg
 blt:∃mb,base.Ns builtinsNs mb/\∀x:Str,x ≠ "__name__"->mb x=bootBuiltins x
 nolimit:base.NoLimit
structure Cx where
 prog:Program
 w:World
 K:Vo
 mg:Vr
 base:Heap
 A:Around
 N:List Str
 s₀:Shared
 H₀:Hp
 env:Env
 outer:List Env
 stack:List Env
 ex:List Addr
 fn:Str->Bool
 calm:Bool
 pn:Va
 xe:Value->Shared->Prop
noncomputable def frs(l:List Env):List Addr:=l.filterMap (·.frame)
noncomputable abbrev Cx.fs(X:Cx):List Addr:=frs X.outer
def Fw(sc:Scope)(x:Str):Prop:=sc.names.lookup x=some .local\/sc.names.lookup x=some .cell\/sc.names.lookup x=some .free
def AW(sc:Scope)(x:Str):Prop:=sc.names.lookup x=some .local\/sc.names.lookup x=some .cell
def FK(env:Env)(h:Heap)(m:Vr)(x:Str)(u:Value):Prop:=
 (env.kindOf x=some .local/\m x=some u)\/((env.kindOf x=some .cell\/env.kindOf x=some .free)/\∃c,env.cells.lookup x=some c/\h.IsCell c (some u))
structure Cx.Ok (X:Cx):Prop where
 mod:Mod X.K X.mg X.base
 kind:X.env.scope.kind = .function
 glob:X.env.globals=mainGlobals
 blt:X.env.builtins=builtinsNs
 above:X.s₀.heap.objs.size<=X.env.locals
 inj:∀x y c,X.env.cells.lookup x=some c->X.env.cells.lookup y=some c->x=y
 has:∀x,(X.env.kindOf x=some .cell\/X.env.kindOf x=some .free)->∃c,X.env.cells.lookup x=some c
 Oy:∀x c,X.fn x=true->X.env.cells.lookup x=some c->X.s₀.heap.objs.size<=c
 hd:X.calm=true->X.A.handled=none
 frames:X.A.frames=some X.stack
 stk:X.stack=X.outer\/(X.stack=X.env::X.outer/\X.env.frame=some X.env.locals)
 P8:∀b∈X.ex,b≠X.env.locals/\∀x c,X.env.cells.lookup x=some c->c≠b
 bs:∀b o,X.base.get? b=some o->X.s₀.heap.get? b=some o/\X.H₀ b=none
 Nq:X.base.objs.size<=X.s₀.heap.objs.size
 MH:∀b o,X.base.get? b=some o->b ∉ X.ex
 MX:∀b∈X.ex,b ∉ X.fs
 K9:X.s₀.heap.FunFrames X.base X.outer
 N5:∀b∈X.fs,X.H₀ b=none
structure Inv (X:Cx) (pins:Va) (σ:List (Option V)) (H:Hp) (s:Shared):Prop where
 ok:X.Ok
 os:s.os=X.s₀.os
 bare:AllBare s.gens
 base:Un X.fs X.ex X.H₀ H X.s₀.heap s.heap
 loc:∃m,s.heap.Ns X.env.locals m/\∀(i:Nat) (x:Str) (v:V),X.N[i]?=some x->σ[i]?=some (some v)->Fw X.env.scope x->∃u,RelV v u/\FK X.env s.heap m x u
 cell:∀x c,X.env.cells.lookup x=some c->∃v,s.heap.IsCell c v
 free:H X.env.locals=none
 J3:∀x c,X.env.cells.lookup x=some c->H c=none
 pin:∀p∈X.pn++pins,s.heap.get? p.1=some p.2/\H p.1=none/\p.1≠X.env.locals/\p.1 ∉ X.fs/\∀v,p.2.data ≠ .cell v
 hok:Kq X.prog X.w H s.heap
 len:σ.length=X.N.length
section
variable {X:Cx} {pins:Va} {σ:List (Option V)} {H H':Hp} {s:Shared} {h':Heap}
def Cx.Ok.P9(ok:X.Ok){b:Addr}{o:Obj}(e:X.base.get? b=some o):b ∉ X.fs:=fun hb=>by
 have:=(ok.K9.mem hb).1
 rw[e]at this;cases this
theorem Inv.bs(I:Inv X pins σ H s):∀b o,X.base.get? b=some o->s.heap.get? b=some o/\H b=none:=fun b o e=>
 ⟨I.base.keep b o (I.ok.bs b o e).1 (I.ok.bs b o e).2 (I.ok.P9 e) (I.ok.MH b o e),I.base.free b o (I.ok.bs b o e).1 (I.ok.bs b o e).2 (I.ok.MH b o e)⟩
def Inv.bk(I:Inv X pins σ H s):∀b o,X.base.get? b=some o->s.heap.get? b=some o:=fun b o e=>(I.bs b o e).1
theorem Inv.mod(I:Inv X pins σ H s):Mod X.K X.mg X.base:=I.ok.mod
def Inv.MY(I:Inv X pins σ H s):X.K.In s.heap:=I.ok.mod.P7.keeps I.bk
theorem Inv.lt(I:Inv X pins σ H s):X.env.locals < s.heap.objs.size:=let ⟨_,hn,_⟩:=I.loc;hn.lt
def Inv.sz(I:Inv X pins σ H s):X.s₀.heap.objs.size<=s.heap.objs.size:=TR I.ok.above (Vj I.lt)
def Inv.OL(I:Inv X pins σ H s){a:Addr}(h:s.heap.objs.size<=a):a ∉ X.fs:=fun hb=>by
 obtain⟨_,o,ho,_⟩:=I.ok.K9.mem hb
 exact absurd (TU (To ho) (TR I.sz h)) (U0 _)
def Inv.N6(I:Inv X pins σ H s):∀x c,X.env.cells.lookup x=some c->c≠X.env.locals:=fun x c e z=>by
 obtain⟨v,o,ho,hd⟩:=I.cell x c e
 obtain⟨m,⟨o',es,ep,ho',hd',_⟩,_⟩:=I.loc
 rw[z,ho']at ho;cases ho;rw[hd']at hd;cases hd
theorem Inv.K9(I:Inv X pins σ H s):s.heap.FunFrames X.base X.outer:=by
 have all:∀(l:List Env),(∀b∈frs l,b∈X.fs)->X.s₀.heap.FunFrames X.base l->s.heap.FunFrames X.base l:=by
  intro l
  induction l with
  |nil=>intro _ _;trivial
  |cons env r ih=>
   intro hs hl
   obtain⟨hk,⟨L,o,hf,hn,ho,hd⟩,hr⟩:=hl
   have hL:L∈X.fs:=hs L (by unfold frs;rw[Ws,hf];exact U1)
   obtain⟨sl,e⟩:=I.base.slot L o ho (I.ok.N5 L hL) hL fun z=>I.ok.MX L z hL
   exact⟨hk,⟨L,_,hf,hn,e,hd⟩,ih (fun b hb=>hs b (by unfold frs;rw[Ws,hf];exact U5 _ hb)) hr⟩
 exact all X.outer (fun _ hb=>hb) I.ok.K9
theorem Inv.stack(I:Inv X pins σ H s):s.heap.FunFrames X.base X.stack:=by
 rcases I.ok.stk with e|⟨e,hf⟩
 ·rw[e];exact I.K9
 ·rw[e]
  obtain⟨m,hn,_⟩:=I.loc
  refine .cons (by rw[I.ok.kind];decide) hf hn ?_ I.K9
  exact Heap.get?_none_of_le (TR I.ok.Nq I.ok.above)
def Inv.KK(I:Inv X pins σ H s):∀b∈frs X.stack,b∈X.env.locals::X.fs:=fun b hb=>by
 rcases I.ok.stk with e|⟨e,hf⟩
 ·rw[e]at hb;exact U5 _ hb
 ·rw[e]at hb
  unfold frs at hb
  rw[Ws,hf]at hb
  exact hb
def Inv.Mz(I:Inv X pins σ H s):∀b∈frs X.stack,H b=none:=fun b hb=>by
 rcases Th.mp (I.KK b hb)with e|hb
 ·rw[e];exact I.free
 ·obtain⟨_,o,ho,_⟩:=I.ok.K9.mem hb
  exact I.base.free b o ho (I.ok.N5 b hb) fun z=>I.ok.MX b z hb
def Inv.step{g':Array GenState}{t':Nat}{d':Drawn}{ch:List Addr}(I:Inv X pins σ H s)
  (hch:∀b∈ch,(b∈X.ex\/X.s₀.heap.objs.size<=b)/\b≠X.env.locals/\(∀x c,X.env.cells.lookup x=some c->c≠b)/\∀p∈X.pn++pins,p.1≠b)
  (keep:∀b o,b≠X.env.locals->b ∉ X.fs->b ∉ ch->s.heap.get? b=some o->H b=none->h'.get? b=some o)
  (slot:∀b o,b≠X.env.locals->b∈X.fs->b ∉ ch->s.heap.get? b=some o->H b=none->∃sl,h'.get? b=some { o with slots:=sl }) (free:∀b o,b ∉ ch->s.heap.get? b=some o->H b=none->H' b=none)
  (there:∀b o,b ∉ ch->s.heap.get? b=some o->∃o',h'.get? b=some o')
  (tups:∀b xs,H b=some (.tup xs)->H' b=some (.tup xs)) (LB:∀b o u,H b=some (.frz o u)->H' b=some (.frz o u)) (L_:∀b ps,H b=some (.N0 ps)->∃more,H' b=some (.N0 (ps++more)))
  (ns:∀m,s.heap.Ns X.env.locals m->h'.Ns X.env.locals m) (hok:Kq X.prog X.w H' h') (hg:AllBare g') :
  Inv X pins σ H' { s with heap:=h',gens:=g',drawn:=d',toks:=t' }:=by
 have Ra:∀b o,X.s₀.heap.get? b=some o->b≠X.env.locals:=fun b o e=>TM (TU (To e) I.ok.above)
 have Pt:∀b o,X.s₀.heap.get? b=some o->b ∉ X.ex->b ∉ ch:=fun b o e hx hb=>by
  rcases(hch b hb).1 with z|z
  ·exact hx z
  ·exact absurd (TU (To e) z) (U0 _)
 have cellK:∀x c,X.env.cells.lookup x=some c->∀v,s.heap.IsCell c v->h'.IsCell c v:=fun x c e v ⟨o,ho,hd⟩=>by
  have OM:c ∉ ch:=fun z=>(hch c z).2.2.1 x c e rfl
  by_cases hc:c∈X.fs
  ·obtain⟨sl,q⟩:=slot c o (I.N6 x c e) hc OM ho (I.J3 x c e)
   exact⟨_,q,hd⟩
  ·exact⟨o,keep c o (I.N6 x c e) hc OM ho (I.J3 x c e),hd⟩
 refine⟨I.ok,I.os,hg,⟨fun b o e n hb hx=>?_,fun b o e n hb hx=>?_,fun b o e n hx=>?_,fun b o e hx=>?_,fun b xs e=>tups b xs (I.base.tups b xs e),fun b o xs e=>LB b o xs (I.base.LB b o xs e),fun b ps e=>?_⟩,?_,fun x c e=>?_,?_,fun x c e=>?_,fun p hp=>?_,hok,I.len⟩
 ·exact keep b o (Ra b o e) hb (Pt b o e hx) (I.base.keep b o e n hb hx) (I.base.free b o e n hx)
 ·obtain⟨sl,e1⟩:=I.base.slot b o e n hb hx
  obtain⟨sl',e2⟩:=slot b _ (Ra b o e) hb (Pt b o e hx) e1 (I.base.free b o e n hx)
  exact⟨sl',e2⟩
 ·obtain⟨o',e1⟩:=I.base.there b o e hx
  exact free b o' (Pt b o e hx) e1 (I.base.free b o e n hx)
 ·obtain⟨o',e1⟩:=I.base.there b o e hx
  exact there b o' (Pt b o e hx) e1
 ·obtain⟨m1,e1⟩:=I.base.L_ b ps e
  obtain⟨m2,e2⟩:=L_ b _ e1
  exact⟨m1++m2,by rw[e2,Array.append_assoc]⟩
 ·obtain⟨m,hn,hl⟩:=I.loc
  refine⟨m,ns m hn,fun i x v e1 e2 e3=>?_⟩
  obtain⟨u,r,l⟩:=hl i x v e1 e2 e3
  refine⟨u,r,?_⟩
  rcases l with l|⟨k,c,e,z⟩
  ·exact .inl l
  ·exact .inr ⟨k,c,e,cellK x c e _ z⟩
 ·obtain⟨v,z⟩:=I.cell x c e
  exact⟨v,cellK x c e v z⟩
 ·obtain⟨m,⟨o,_,_,ho,_⟩,_⟩:=I.loc
  exact free _ o (fun z=>(hch _ z).2.1 rfl) ho I.free
 ·obtain⟨v,o,ho,hd⟩:=I.cell x c e
  exact free c o (fun z=>(hch c z).2.2.1 x c e rfl) ho (I.J3 x c e)
 ·obtain⟨e,n,ne,nf,d⟩:=I.pin p hp
  have OM:p.1 ∉ ch:=fun z=>(hch p.1 z).2.2.2 p hp rfl
  exact⟨keep p.1 p.2 ne nf OM e n,free p.1 p.2 OM e n,ne,nf,d⟩
def Inv.un{t':Nat}(I:Inv X pins σ H s)(u:Un X.fs [] H H' s.heap h')(hok:Kq X.prog X.w H' h'):Inv X pins σ H' { s with heap:=h',toks:=t' }:=by
 obtain⟨m,⟨o,es,ep,ho,r⟩,_⟩:=id I.loc
 obtain⟨sl,hL⟩:=u.any ho I.free (by simp)
 exact I.step (g':=s.gens) (d':=s.drawn) (ch:=[]) (fun _ z=>nomatch z) (fun b o _ hb _ e n=>u.keep b o e n hb (by simp)) (fun b o _ hb _ e n=>u.slot b o e n hb (by simp)) (fun b o _ e n=>u.free b o e n (by simp)) (fun b o _ e=>u.there b o e (by simp)) u.tups u.LB u.L_ (fun m' hm=>by
  obtain⟨o',es',P_,ho',r'⟩:=hm
  rw[ho]at ho';cases ho'
  exact⟨_,es',P_,hL,r'⟩) hok I.bare
def Inv.call{g':Array GenState}{t':Nat}{d':Drawn}{ch:List Addr}(I:Inv X pins σ H s)(u:Un (frs X.stack) ch H H' s.heap h')(hok:Kq X.prog X.w H' h')(hg:AllBare g')
  (hch:∀b∈ch,(b∈X.ex\/X.s₀.heap.objs.size<=b)/\b≠X.env.locals/\(∀x c,X.env.cells.lookup x=some c->c≠b)/\∀p∈X.pn++pins,p.1≠b) :
  Inv X pins σ H' { s with heap:=h',gens:=g',drawn:=d',toks:=t' }:=by
 obtain⟨m,⟨o,es,ep,ho,r⟩,_⟩:=id I.loc
 obtain⟨sl,hL⟩:=u.any ho I.free fun z=>(hch _ z).2.1 rfl
 exact I.step (ch:=ch) hch (fun b o hL hb hc e n=>u.keep b o e n (fun z=>(Th.mp (I.KK b z)).elim hL hb) hc) (fun b o _ _ hc e n=>u.any e n hc) (fun b o hc e n=>u.free b o e n hc) (fun b o hc e=>u.there b o e hc) u.tups u.LB u.L_ (fun m' hm=>by
  obtain⟨o',es',P_,ho',r'⟩:=hm
  rw[ho]at ho';cases ho'
  exact⟨_,es',P_,hL,r'⟩) hok hg
def Inv.turned{t':Nat}{it:Addr}(I:Inv X pins σ H s)(k:∀b o,b≠it->s.heap.get? b=some o->h'.get? b=some o)(hn:H it=none)(hL:it≠X.env.locals)
  (h1:it∈X.ex\/X.s₀.heap.objs.size<=it) (h2:∀x c,X.env.cells.lookup x=some c->c≠it) (h3:∀p∈X.pn++pins,p.1≠it):Inv X pins σ H { s with heap:=h',toks:=t' }:=by
 have ON:∀b u,H b=some u->b≠it:=fun b u e z=>by rw[z,hn]at e;cases e
 refine I.step (g':=s.gens) (d':=s.drawn) (ch:=[it]) (fun b hb=>?_) (fun b o _ _ hc e _=>k b o (fun z=>hc (by simp[z])) e) (fun b o _ _ hc e _=>⟨o.slots,k b o (fun z=>hc (by simp[z])) e⟩) (fun _ _ _ _ n=>n)
  (fun b o hc e=>⟨o,k b o (fun z=>hc (by simp[z])) e⟩) (fun _ _ e=>e) (fun _ _ _ e=>e) (fun b ps e=>⟨#[],by rw[e];simp⟩) (fun m hm=>?_) (fun b u e=>?_) I.bare
 ·have e:b=it:=by simpa using hb
  subst e
  exact⟨h1,hL,h2,h3⟩
 ·obtain⟨o,es,ep,ho,r⟩:=hm
  exact⟨o,es,ep,k _ o (VL hL) ho,r⟩
 ·refine(I.hok b u e).stay (fun c v hc q=>k c v ?_ q) (fun _ q=>q) fun _ _ q=>q
  rcases hc with z|z
  ·rw[z];exact ON b u e
  ·exact ON c _ z
def Inv.tok(I:Inv X pins σ H s)(t:Nat):Inv X pins σ H { s with toks:=t }:=I.un (h':=s.heap) (t':=t) Un.refl I.hok
theorem Inv.kept{t':Nat}(I:Inv X pins σ H s)(k:∀b u,s.heap.get? b=some u->h'.get? b=some u):Inv X pins σ H { s with heap:=h',toks:=t' }:=I.un (Un.kept k) (I.hok.kept k)
theorem Inv.laid{a:Addr}{o:HO}{t':Nat}(I:Inv X pins σ H s)(k:∀b u,s.heap.get? b=some u->h'.get? b=some u)(hp:s.heap.objs.size<=a)(new:HY X.prog X.w (upd H a o) h' a o) :
  Inv X pins σ (upd H a o) { s with heap:=h',toks:=t' }:=I.un (Un.laid k hp (I.hok.fresh hp)) (I.hok.laid k hp new)
theorem Inv.write{x e:Addr}{o:HO}{t':Nat}(I:Inv X pins σ H s)(mu:DO (H x))(he:e=x\/H e=some (.own x))(k:∀b u,b≠e->s.heap.get? b=some u->h'.get? b=some u)(Ox:∃u,h'.get? e=some u)
  (new:HY X.prog X.w (upd H x o) h' x o):Inv X pins σ (upd H x o) { s with heap:=h',toks:=t' }:=I.un (Un.write mu he k Ox) (I.hok.write mu he k Ox new)
def Inv.weak{σ':List (Option V)}(I:Inv X pins σ H s)(hl:σ'.length=σ.length)(w:∀(i:Nat) v,σ'[i]?=some (some v)->σ[i]?=some (some v)):Inv X pins σ' H s:=
 ⟨I.ok,I.os,I.bare,I.base,let ⟨m,hn,hl'⟩:=I.loc;⟨m,hn,fun i x v e1 e2 e3=>hl' i x v e1 (w i v e2) e3⟩,I.cell,I.free,I.J3,I.pin,I.hok,hl.trans I.len⟩
def Inv.Lb{NP:Va}(I:Inv X pins σ H s)(h:∀p∈NP,s.heap.get? p.1=some p.2/\H p.1=none/\p.1≠X.env.locals/\p.1 ∉ X.fs/\∀v,p.2.data ≠ .cell v):Inv X NP σ H s:=
 ⟨I.ok,I.os,I.bare,I.base,I.loc,I.cell,I.free,I.J3,fun p hp=>(Tj.mp hp).elim (fun z=>I.pin p (UL _ z)) (h p),I.hok,I.len⟩
def qu{N:Vs}(hN:N.Nodup){i j:Nat}{x:Str}(a:N[i]?=some x)(b:N[j]?=some x):i=j:=by
 obtain⟨h1,e1⟩:=TV.mp a
 obtain⟨h2,e2⟩:=TV.mp b
 exact(List.getElem_inj hN).mp (e1.trans e2.symm)
def nO {M : Model} {A : Around} {E : Value -> Shared -> Prop} {i : Nat} {x : Str} {v : V} {u : Value} {Q : Unit -> Shared -> Prop} (I : Inv X pins σ H s) (hN : X.N.Nodup) (hi : X.N[i]? = some x) (hx : AW X.env.scope x) (r : RelV v u)
  (h : ∀ s', Inv X pins (σ.set i (some v)) H s' -> (∃ a, Heap.SameBut a s.heap s'.heap /\ (a = X.env.locals \/ X.env.cells.lookup x = some a)) -> Q () s') (hf : X.fn x = true \/ X.env.scope.names.lookup x = some .local := by first | exact .inl rfl | exact .inr rfl | assumption) : wpAny M A (storeName X.env x u) Q E s := by
 obtain ⟨m, hn, hl⟩ := id I.loc
 have hcls : (X.env.scope.kind == .class || (X.env.scope.kind == .module && X.env.locals != X.env.globals)) = false := by rw [I.ok.kind]; rfl
 have Rb : i < σ.length := by rw [I.len]; exact (TV.mp hi).1
 have N6 := I.N6
 have tracked : ∀ {a : Addr} {h' : Heap}, (∃ o, s.heap.get? a = some o /\ H a = none) -> Heap.SameBut a s.heap h' -> Kq X.prog X.w H h' := fun {a h'} ha hs b ob e => by
  obtain ⟨_, _, hfree⟩ := ha
  refine (I.hok b ob e).stay (fun c w' hc q => (hs.2 c ?_).trans q) (fun _ q => q) fun _ _ q => q
  rintro rfl
  rcases hc with rfl | hc
  ·rw [hfree] at e; cases e
  ·rw [hfree] at hc; cases hc
 rcases hx with hk | hk
 ·refine wpAny_storeName_local hk hn (fun h' hn' hs => ?_) hcls
  obtain ⟨oL, _, _, OO, _⟩ := id hn
  refine h _ ⟨I.ok, I.os, I.bare, ⟨fun b o e n hb hx => ?_, fun b o e n hb hx => ?_, I.base.free, fun b o e hx => ?_, I.base.tups, I.base.LB, I.base.L_⟩, ⟨_, hn', fun j y v' e1 e2 e3 => ?_⟩, fun y c e => ?_, I.free, I.J3, fun p hp => ?_, tracked ⟨oL, OO, I.free⟩ hs, by simpa using I.len⟩ ⟨_, hs, .inl rfl⟩
  ·exact (hs.2 b (TM (TU (To e) I.ok.above))).trans (I.base.keep b o e n hb hx)
  ·obtain ⟨sl, e1⟩ := I.base.slot b o e n hb hx
   exact ⟨sl, (hs.2 b (TM (TU (To e) I.ok.above))).trans e1⟩
  ·obtain ⟨o', e1⟩ := I.base.there b o e hx
   exact ⟨o', (hs.2 b (TM (TU (To e) I.ok.above))).trans e1⟩
  ·by_cases hj : j = i
   ·subst hj
    rw [hi] at e1; cases e1
    rw [List.getElem?_set_self Rb] at e2
    cases e2
    exact ⟨u, r, .inl ⟨hk, by simp⟩⟩
   ·rw [List.getElem?_set_ne (VL hj)] at e2
    obtain ⟨u', r', q⟩ := hl j y v' e1 e2 e3
    refine ⟨u', r', ?_⟩
    rcases q with ⟨k, e⟩ | ⟨k, c, e, z⟩
    ·refine .inl ⟨k, ?_⟩
     have : y ≠ x := fun e => hj (qu hN e1 (e ▸ hi))
     simp [this, e]
    ·exact .inr ⟨k, c, e, z.sameBut hs (N6 y c e)⟩
  ·obtain ⟨w', z⟩ := I.cell y c e
   exact ⟨w', z.sameBut hs (N6 y c e)⟩
  ·obtain ⟨e, n, ne, nf, d⟩ := I.pin p hp
   exact ⟨(hs.2 p.1 ne).trans e, n, ne, nf, d⟩
 ·have hfn : X.fn x = true := by
   rcases hf with z | z
   ·exact z
   ·rw [z] at hk; cases hk
  obtain ⟨c, hc⟩ := I.ok.has x (.inl hk)
  obtain ⟨w', z⟩ := I.cell x c hc
  refine wpAny_storeName_cell I.ok.kind hk hc z (fun h' hc' hs => ?_)
  obtain ⟨oc, hoc, Qa⟩ := id z
  refine h { s with heap := h' } ⟨I.ok, I.os, I.bare, ⟨fun b o e n hb hx => ?_, fun b o e n hb hx => ?_, I.base.free, fun b o e hx => ?_, I.base.tups, I.base.LB, I.base.L_⟩, ⟨m, hn.sameBut hs (VL (N6 x c hc)), fun j y v' e1 e2 e3 => ?_⟩, fun y c' e => ?_, I.free, I.J3, fun p hp => ?_, tracked ⟨oc, hoc, I.J3 x c hc⟩ hs, by simpa using I.len⟩ ⟨c, hs, .inr hc⟩
  ·exact (hs.2 b (TM (TU (To e) (I.ok.Oy x c hfn hc)))).trans (I.base.keep b o e n hb hx)
  ·obtain ⟨sl, e1⟩ := I.base.slot b o e n hb hx
   exact ⟨sl, (hs.2 b (TM (TU (To e) (I.ok.Oy x c hfn hc)))).trans e1⟩
  ·obtain ⟨o', e1⟩ := I.base.there b o e hx
   exact ⟨o', (hs.2 b (TM (TU (To e) (I.ok.Oy x c hfn hc)))).trans e1⟩
  ·by_cases hj : j = i
   ·subst hj
    rw [hi] at e1; cases e1
    rw [List.getElem?_set_self Rb] at e2
    cases e2
    exact ⟨u, r, .inr ⟨.inl hk, c, hc, hc'⟩⟩
   ·rw [List.getElem?_set_ne (VL hj)] at e2
    obtain ⟨u', r', q⟩ := hl j y v' e1 e2 e3
    refine ⟨u', r', ?_⟩
    rcases q with q | ⟨k, c', e, z'⟩
    ·exact .inl q
    ·refine .inr ⟨k, c', e, z'.sameBut hs ?_⟩
     rintro rfl
     exact hj (qu hN e1 (I.ok.inj _ _ _ e hc ▸ hi))
  ·by_cases hcc : c' = c
   ·subst hcc; exact ⟨_, hc'⟩
   ·obtain ⟨w2, z2⟩ := I.cell y c' e
    exact ⟨w2, z2.sameBut hs hcc⟩
  ·obtain ⟨e, n, ne, nf, d⟩ := I.pin p hp
   refine ⟨(hs.2 p.1 ?_).trans e, n, ne, nf, d⟩
   intro q
   rw [q, hoc] at e
   have q' : oc = p.2 := UB e
   exact d w' (by rw [<- q']; exact Qa)
def d6{M:Model}{A:Around}{E:Vq}{i:Nat}{x:Str}{v:V}{u:Value}{Q:Unit->Shared->Prop}(I:Inv X pins σ H s)(hN:X.N.Nodup)(hi:X.N[i]?=some x)(hx:AW X.env.scope x)(r:RelV v u)
  (h:∀s',Inv X pins (σ.set i (some v)) H s'->Q () s') (hf:X.fn x=true\/X.env.scope.names.lookup x=some .local:=by first|exact .inl rfl|exact .inr rfl|assumption):wpAny M A (storeName X.env x u) Q E s:=
 nO I hN hi hx r (fun s' I' _=>h s' I') hf
def Inv.OP{s':Shared}{ch:List Addr}(I:Inv X pins σ H s)(ho:s'.os=s.os)(u:Un (frs X.stack) ch H H' s.heap s'.heap)(hok:Kq X.prog X.w H' s'.heap)(hg:AllBare s'.gens)
  (hch:∀b∈ch,(b∈X.ex\/X.s₀.heap.objs.size<=b)/\b≠X.env.locals/\(∀x c,X.env.cells.lookup x=some c->c≠b)/\∀p∈X.pn++pins,p.1≠b):Inv X pins σ H' s':=by
 obtain⟨h',g',d',t',o'⟩:=s'
 have e:o'=s.os:=ho
 subst e
 exact I.call (g':=g') (t':=t') (d':=d') u hok hg hch
end
abbrev XK:=Value->Option Addr->Hp->Prop
abbrev St:=List (Option V)
abbrev VK:=V->Hp->Prop
abbrev TE:=St->Hp->VK->Prop
abbrev TT:=St->Hp->(Bool->Hp->Prop)->Prop
abbrev TA:=St->Hp->(List V->Hp->Prop)->Prop
structure rT where
 nx:St->Hp->Prop
 rt:VK
 bk:St->Hp->Prop:=fun _ _=>False
 ct:St->Hp->Prop:=fun _ _=>False
abbrev TS:=rT->St->Hp->Prop
def EP(X:Cx)(pins:Va)(σ:St)(Q:VK)(u:Value)(s':Shared):Prop:=∃v H',Inv X pins σ H' s'/\RelV v u/\Q v H'
def TP(X:Cx)(pins:Va)(σ:St)(Q:Bool->Hp->Prop)(b:Bool)(s':Shared):Prop:=∃H',Inv X pins σ H' s'/\Q b H'
def AP(X:Cx)(pins:Va)(σ:St)(Q:List V->Hp->Prop)(us:Vv)(s':Shared):Prop:=∃vs H',Inv X pins σ H' s'/\Vals vs us/\Q vs H'
def SP(X:Cx)(pins:Va)(D:rT)(f:Flow)(s':Shared):Prop:=
 match f with
 | .next=>∃σ' H',Inv X pins σ' H' s'/\D.nx σ' H'
 | .brk=>∃σ' H',Inv X pins σ' H' s'/\D.bk σ' H'
 | .cont=>∃σ' H',Inv X pins σ' H' s'/\D.ct σ' H'
 | .ret u=>∃v σ' H',Inv X pins σ' H' s'/\RelV v u/\D.rt v H'
def PE(X:Cx)(e:Expr)(t:TE):Prop:=
 ∀(pins:Va) (s:Shared) (σ:St) (H:Hp) (Q:VK),Inv X pins σ H s->t σ H Q->wpAny (model X.prog X.w) X.A (eval e X.env) (EP X pins σ Q) X.xe s
def PT(X:Cx)(e:Expr)(t:TT):Prop:=
 ∀(pins:Va) (s:Shared) (σ:St) (H:Hp) (Q:Bool->Hp->Prop),Inv X pins σ H s->t σ H Q->wpAny (model X.prog X.w) X.A (isTrue e X.env (eval e X.env)) (TP X pins σ Q) X.xe s
def PW(X:Cx)(e:Expr)(t:TT):Prop:=
 ∀(whole:Sem Value) (pins:Va) (s:Shared) (σ:St) (H:Hp) (Q:Bool->Hp->Prop),Inv X pins σ H s->t σ H Q->wpAny (model X.prog X.w) X.A (isTrue e X.env whole) (TP X pins σ Q) X.xe s
def PW.pt{X:Cx}{e:Expr}{t:TT}(h:PW X e t):PT X e t:=h _
def PA(X:Cx)(es:List Expr)(t:TA):Prop:=
 ∀(pos:Pos) (pins:Va) (s:Shared) (σ:St) (H:Hp) (Q:List V->Hp->Prop),Inv X pins σ H s->t σ H Q->wpAny (model X.prog X.w) X.A (spliced (backTo pos (starEach es X.env))) (AP X pins σ Q) X.xe s
def PS(X:Cx)(st:Stmt)(t:TS):Prop:=
 ∀(pins:Va) (s:Shared) (σ:St) (H:Hp) (D:rT),Inv X pins σ H s->t D σ H->wpAny (model X.prog X.w) X.A (exec st X.env) (SP X pins D) X.xe s
def Ma(X:Cx)(st:List Stmt)(t:TS):Prop:=
 ∀(pins:Va) (s:Shared) (σ:St) (H:Hp) (D:rT),Inv X pins σ H s->t D σ H->wpAny (model X.prog X.w) X.A (execs st X.env) (SP X pins D) X.xe s
def Ho{α:Type}{t:Sem α}{Q Q':α->Shared->Prop}{M:Model}{A:Around}{E:Vq}{s:Shared}(h:wpAny M A t Q E s)(hQ:∀a s,Q a s->Q' a s):wpAny M A t Q' E s:=V5 h hQ fun _ _ x=>x
section
variable {X:Cx}
def FL(i:Nat):TE:=fun σ H Q=>∃v,σ[i]?=some (some v)/\Q v H
def tC(v:V):TE:=fun _ H Q=>Q v H
def BH{i:Nat}{x:Str}{pos:Pos}(hN:X.N[i]?=some x)(hv:Fw X.env.scope x)(hd:(x == ("__debug__":Str))=false:=by decide)(hcd:(x == ("__classdict__":Str))=false:=by decide):PE X (.Name x pos) (FL i):=by
 intro pins s σ H Q I h
 obtain⟨v,e,h⟩:=h
 obtain⟨m,hn,hl⟩:=I.loc
 obtain⟨u,r,l⟩:=hl i x v hN e hv
 have fin:EP X pins σ Q u s:=⟨v,H,I,r,h⟩
 rcases l with⟨hk,hm⟩|⟨hk,c,hc,hcell⟩
 ·exact wpAny_Name (wpAny_loadName_local I.ok.kind hk hn hm fin) hd
 ·rcases hk with hk|hk
  ·exact wpAny_Name (wpAny_loadName_cell I.ok.kind hk hc hcell fin) hd
  ·exact wpAny_Name (wpAny_loadName_free I.ok.kind hk hc hcell fin hcd) hd
def BI{i j pos}:PE X (.Constant (.int i) j pos) (tC (.int i)):=fun _ _ _ H _ I h=>wpAny_Constant_int ⟨.int i,H,I.tok _,⟨_,rfl⟩,h⟩
def DP{b j pos}:PE X (.Constant (.bool b) j pos) (tC (.bl b)):=fun _ _ _ H _ I h=>Constant_bool ⟨.bl b,H,I,rfl,h⟩
def BJ{j pos}:PE X (.Constant .none j pos) (tC .non):=fun _ _ _ H _ I h=>Constant_none ⟨.non,H,I,rfl,h⟩
def BK{x j pos}:PE X (.Constant (.str x) j pos) (tC (.str x)):=fun _ _ _ H _ I h=>Calls.Constant_str ⟨.str x,H,I.tok _,⟨_,rfl⟩,h⟩
def Gl(X:Cx)(x:Str):Prop:=X.env.kindOf x=some .globalImplicit
def tD{E:Vq}{pins:Va}{s:Shared}{σ:St}{H:Hp}{x:Str}{u:Value}{pos:Pos}{Q:Vq}(I:Inv X pins σ H s)(hg:Gl X x)(hm:X.mg x=some u)(h:Q u s)
  (hd:(x == ("__debug__":Str))=false:=by decide):wpAny (model X.prog X.w) X.A (eval (.Name x pos) X.env) Q E s:=
 Calls.Name_function_global I.ok.kind hg (Calls.loadGlobal_global (by rw[I.ok.glob];exact I.mod.glob.keeps I.bk) hm h) hd
def dH{E:Vq}{pins:Va}{s:Shared}{σ:St}{H:Hp}{x:Str}{u:Value}{pos:Pos}{Q:Vq}(I:Inv X pins σ H s)(hg:Gl X x)(hm:X.mg x=none)(hv:bootBuiltins x=some u)(h:Q u s)
  (hn:x ≠ "__name__":=by decide) (hd:(x == ("__debug__":Str))=false:=by decide):wpAny (model X.prog X.w) X.A (eval (.Name x pos) X.env) Q E s:=by
 obtain⟨mb,h1,h2⟩:=I.mod.blt
 exact Calls.Name_function_global I.ok.kind hg (Calls.loadGlobal_builtin (by rw[I.ok.glob];exact I.mod.glob.keeps I.bk) hm (by rw[I.ok.blt];exact h1.keeps I.bk) ((h2 x hn).trans hv) h) hd
def yV{x:Str}{v:V}{u:Value}{pos:Pos}(hg:Gl X x)(hm:X.mg x=none)(hv:bootBuiltins x=some u)(r:RelV v u)(hn:x ≠ "__name__":=by decide)(hd:(x == ("__debug__":Str))=false:=by decide):PE X (.Name x pos) (tC v):=
 fun _ _ _ H _ I h=>dH I hg hm hv ⟨v,H,I,r,h⟩ hn hd
variable {a b:Expr} {ta tb:TE} {pos:Pos}
def tB(t:TE):TT:=fun σ H Q=>t σ H fun x H1=>∃c,x = .bl c/\Q c H1
def BL{e:Expr}{t:TE}(h:PE X e t)(he:∀whole,isTrue e X.env whole=(do let v <-whole;standAt e.pos;holding [v] (truthy v)):=by intro _;rfl):PT X e (tB t):=by
 intro pins s σ H Q I hw
 refine isTrue_plain (Ho (h pins s σ H _ I hw) fun v s1 ⟨x,H1,I1,r1,q1⟩=>?_) (he _)
 obtain⟨d,rfl,q⟩:=q1
 cases r1
 exact VR ⟨H1,I1,q⟩
variable {tA Pu:TT} {rest:List Expr}
def FM(t u:TT):TT:=fun σ H Q=>t σ H fun c H1=>if c=true then u σ H1 Q else Q false H1
def GT(t u:TT):TT:=fun σ H Q=>t σ H fun c H1=>if c=true then Q true H1 else u σ H1 Q
def FN(t:TT):TT:=fun σ H Q=>t σ H fun c H1=>Q (!c) H1
def yW(ha:PT X a tA):PW X (.BoolOp .And [a] pos) tA:=by
 intro wh pins s σ H Q I h
 refine isTrue_and (Ho (ha pins s σ H Q I h) fun c s1 e=>?_)
 cases c with
 |true=>exact isTrue_and_nil e
 |false=>exact e
def BM(ha:PT X a tA):PW X (.BoolOp .Or [a] pos) tA:=by
 intro wh pins s σ H Q I h
 refine isTrue_or (Ho (ha pins s σ H Q I h) fun c s1 e=>?_)
 cases c with
 |false=>exact isTrue_or_nil e
 |true=>exact e
def BN(ha:PT X a tA)(hb:PW X (.BoolOp .And (b::rest) pos) Pu):PW X (.BoolOp .And (a::b::rest) pos) (FM tA Pu):=by
 intro wh pins s σ H Q I h
 refine isTrue_and (Ho (ha pins s σ H _ I h) fun c s1 ⟨H1,I1,q1⟩=>?_)
 cases c with
 |true=>exact hb wh pins s1 σ H1 Q I1 q1
 |false=>exact⟨H1,I1,q1⟩
def DQ(ha:PT X a tA)(hb:PW X (.BoolOp .Or (b::rest) pos) Pu):PW X (.BoolOp .Or (a::b::rest) pos) (GT tA Pu):=by
 intro wh pins s σ H Q I h
 refine isTrue_or (Ho (ha pins s σ H _ I h) fun c s1 ⟨H1,I1,q1⟩=>?_)
 cases c with
 |true=>exact⟨H1,I1,q1⟩
 |false=>exact hb wh pins s1 σ H1 Q I1 q1
def BO(ha:PT X a tA):PT X (.UnaryOp .Not a pos) (FN tA):=by
 intro pins s σ H Q I h
 exact isTrue_not (ha pins s σ H (fun c H1=>Q (!c) H1) I h)
def DR(ta tb:TE):TE:=fun σ H Q=>ta σ H fun x H1=>∃c,x = .bl c/\if c=true then tb σ H1 Q else Q (.bl false) H1
def DS(ta:TE):TE:=fun σ H Q=>ta σ H fun x H1=>∃c,x = .bl c/\Q (.bl (!c)) H1
def BP{op}{t:TE}(h:PE X a t):PE X (.BoolOp op [a] pos) t:=fun pins s σ H Q I hw=>BoolOp_one (h pins s σ H Q I hw)
def BQ(ha:PE X a ta)(hb:PE X (.BoolOp .And (b::rest) pos) tb):PE X (.BoolOp .And (a::b::rest) pos) (DR ta tb):=by
 intro pins s σ H Q I h
 refine BoolOp_and (Ho (ha pins s σ H _ I h) fun v s1 ⟨x,H1,I1,r1,q1⟩=>?_)
 obtain⟨c,rfl,q1⟩:=q1
 cases r1
 refine VR ?_
 cases c with
 |true=>exact hb pins s1 σ H1 Q I1 q1
 |false=>exact⟨.bl false,H1,I1,rfl,q1⟩
def BR(ha:PE X a ta):PE X (.UnaryOp .Not a pos) (DS ta):=by
 intro pins s σ H Q I h
 refine UnaryOp_ (Ho (ha pins s σ H _ I h) fun v s1 ⟨x,H1,I1,r1,q1⟩=>?_)
 obtain⟨c,rfl,q1⟩:=q1
 cases r1
 exact not_of (VR ⟨.bl (!c),H1,I1,rfl,q1⟩)
def GU(t:TT)(ta tb:TE):TE:=fun σ H Q=>t σ H fun c H1=>if c=true then ta σ H1 Q else tb σ H1 Q
def vV{c:Expr}(hc:PT X c tA)(ha:PE X a ta)(hb:PE X b tb):PE X (.IfExp c a b pos) (GU tA ta tb):=by
 intro pins s σ H Q I h
 refine wpAny_IfExp (Ho (hc pins s σ H _ I h) fun d s1 ⟨H1,I1,q1⟩=>?_)
 cases d with
 |true=>exact ha pins s1 σ H1 Q I1 q1
 |false=>exact hb pins s1 σ H1 Q I1 q1
end
def SqL(K:Vo)(H:Hp)(a:Addr)(xs:List V):Prop:=
 Rd H a (.lst xs) \/
  ∃(o:Obj) (its:Vw) (n:Nat),K.lookup a=some o/\o.cls = .type "list"/\o.dict=none/\o.data = .seq its n/\its.size<=sizeLine/\Vals xs its.toList
def SqT(K:Vo)(H:Hp)(a:Addr)(xs:List V):Prop:=
 Rd H a (.tup xs) \/
  ∃(o:Obj) (its:Vw) (n:Nat),K.lookup a=some o/\o.cls = .type "tuple"/\o.dict=none/\o.data = .seq its n/\its.size<=sizeLine/\Vals xs its.toList
noncomputable def FO:Value->Option V
 | .none=>some .non
 | .bool b=>some (.bl b)
 | .int i _=>some (.int i)
 | .str x _=>some (.str x)
 | .bytes b _=>some (.MW b)
 | .float b _=>some (.P5 b)
 | .ref a=>some (.ref a)
 | .type n=>some (.ty n)
 |_=>none
def RelV.abs{x:V}{u:Value}(r:RelV x u):FO u=some x:=by
 cases x with
 |non=>cases r;rfl
 |bl _=>cases r;rfl
 |int _=>obtain⟨t,rfl⟩:=r;rfl
 |str _=>obtain⟨t,rfl⟩:=r;rfl
 |MW _=>obtain⟨t,rfl⟩:=r;rfl
 |P5 _=>obtain⟨t,rfl⟩:=r;rfl
 |ref _=>cases r;rfl
 |ty _=>cases r;rfl
theorem RelV.inj{x y:V}{u:Value}(r:RelV x u)(q:RelV y u):x=y:=UB (r.abs.symm.trans q.abs)
theorem Vals.inj:∀{xs ys:List V} {us:Vv},Vals xs us->Vals ys us->xs=ys
 |_,_,_,.nil,.nil=>rfl
 |_,_,_,.cons r t,.cons r' t'=>by rw[r.inj r',Vals.inj t t']
section
variable {X:Cx} {pins:Va} {σ:St} {H:Hp} {s:Shared} {a:Addr} {xs ys:List V}
def SqL.of{K:Vo}(h:H a=some (.lst xs)):SqL K H a xs:=.inl (.inl h)
def SqT.of{K:Vo}(h:H a=some (.tup xs)):SqT K H a xs:=.inl (.inl h)
def Inv.list(I:Inv X pins σ H s)(h:SqL X.K H a xs):∃its:List Value,Vals xs its/\PlainL s.heap a its.toArray/\xs.length<=sizeLine:=by
 rcases h with h|⟨o,its,n,hk,hc,hd,hs,hz,r⟩
 ·obtain⟨z,its,n,r,e⟩:=h.ok I.hok
  exact⟨its,r,⟨_,n,e,rfl,rfl,rfl⟩,z⟩
 ·refine⟨its.toList,r,⟨o,n,I.MY a o hk,hc,hd,by simpa using hs⟩,?_⟩
  have e:=r.length
  simp only[Array.length_toList]at e
  omega
def Inv.tuple(I:Inv X pins σ H s)(h:SqT X.K H a xs):∃its:List Value,Vals xs its/\IsTup s.heap a its.toArray/\xs.length<=sizeLine:=by
 rcases h with h|⟨o,its,n,hk,hc,_,hs,hz,r⟩
 ·obtain⟨z,its,r,p⟩:=h.ok I.hok
  exact⟨its,r,p.tup,z⟩
 ·refine⟨its.toList,r,⟨o,I.MY a o hk,hc,n,by simpa using hs⟩,?_⟩
  have e:=r.length
  simp only[Array.length_toList]at e
  omega
def Inv.KE(I:Inv X pins σ H s)(h:SqL X.K H a xs)(h':SqL X.K H a ys):xs=ys:=by
 obtain⟨its,r,⟨o,n,e,_,_,d⟩,_⟩:=I.list h
 obtain⟨its',r',⟨o',n',e',_,_,d'⟩,_⟩:=I.list h'
 rw[e]at e';cases e'
 rw[d]at d'
 injection d' with d1 _
 have:its=its':=by simpa using Uu Array.toList d1
 subst this
 exact r.inj r'
def Inv.KL(I:Inv X pins σ H s)(h:SqT X.K H a xs)(h':SqT X.K H a ys):xs=ys:=by
 obtain⟨its,r,⟨o,e,_,n,d⟩,_⟩:=I.tuple h
 obtain⟨its',r',⟨o',e',_,n',d'⟩,_⟩:=I.tuple h'
 rw[e]at e';cases e'
 rw[d]at d'
 injection d' with d1 _
 have:its=its':=by simpa using Uu Array.toList d1
 subst this
 exact r.inj r'
end
noncomputable abbrev Cx.wish(X:Cx)(E:Vq):Cx:={ X with xe:=E }
noncomputable abbrev Cx.N7(X:Cx):Cx:=X.wish fun _ _=>False
theorem Cx.Ok.wish{X:Cx}(ok:X.Ok)(E:Vq):(X.wish E).Ok:=
 ⟨ok.mod,ok.kind,ok.glob,ok.blt,ok.above,ok.inj,ok.has,ok.Oy,ok.hd,ok.frames,ok.stk,ok.P8,ok.bs,ok.Nq,ok.MH,ok.MX,ok.K9,ok.N5⟩
def Cx.Ok.J6{X:Cx}{E:Vq}(ok:(X.wish E).Ok):X.Ok:=
 ⟨ok.mod,ok.kind,ok.glob,ok.blt,ok.above,ok.inj,ok.has,ok.Oy,ok.hd,ok.frames,ok.stk,ok.P8,ok.bs,ok.Nq,ok.MH,ok.MX,ok.K9,ok.N5⟩
section
variable {X:Cx} {pins:Va} {σ:St} {H:Hp} {s:Shared} {E:Vq}
theorem Inv.wish(I:Inv X pins σ H s)(E:Vq):Inv (X.wish E) pins σ H s:=⟨I.ok.wish E,I.os,I.bare,I.base,I.loc,I.cell,I.free,I.J3,I.pin,I.hok,I.len⟩
theorem Inv.J6(I:Inv (X.wish E) pins σ H s):Inv X pins σ H s:=⟨I.ok.J6,I.os,I.bare,I.base,I.loc,I.cell,I.free,I.J3,I.pin,I.hok,I.len⟩
theorem SP.J6{D:rT}{f:Flow}{s':Shared}(h:SP (X.wish E) pins D f s'):SP X pins D f s':=by
 cases f with
 |next=>obtain⟨σ',H',I,q⟩:=h;exact⟨σ',H',I.J6,q⟩
 |brk=>obtain⟨σ',H',I,q⟩:=h;exact⟨σ',H',I.J6,q⟩
 |cont=>obtain⟨σ',H',I,q⟩:=h;exact⟨σ',H',I.J6,q⟩
 |ret u=>obtain⟨v,σ',H',I,r,q⟩:=h;exact⟨v,σ',H',I.J6,r,q⟩
theorem Ma.N7{st:List Stmt}{t:TS}(h:Ma X.N7 st t):Ma X st t:=fun pins s σ H D I hw=>
 V5 (h pins s σ H D (I.wish _) hw) (fun _ _ q=>q.J6) fun _ _ z=>False.elim z
end
section
variable {X:Cx} {st:Stmt} {rest:List Stmt} {t u:TS} {e:Expr} {te:TE} {pos:Pos}
def DT:TS:=fun D σ H=>D.nx σ H
def FP(t u:TS):TS:=fun D σ H=>t { D with nx:=u D } σ H
def yX:Ma X [] DT:=fun _ _ σ H _ I h=>Xj ⟨σ,H,I,h⟩
def vW(h1:PS X st t)(h2:Ma X rest u):Ma X (st::rest) (FP t u):=by
 intro pins s σ H D I h
 refine wpAny_execs_cons (Ho (h1 pins s σ H { D with nx:=u D } I h) fun f s1 q=>?_)
 cases f with
 |next=>
  obtain⟨σ',H',I',q⟩:=q
  exact h2 pins s1 σ' H' D I' q
 |ret v=>exact q
 |brk=>exact q
 |cont=>exact q
def yY(h1:PS X st t):Ma X [st] t:=by
 intro pins s σ H D I h
 refine wpAny_execs_cons (Ho (h1 pins s σ H D I h) fun f s1 q=>?_)
 cases f with
 |next=>exact Xj q
 |ret v=>exact q
 |brk=>exact q
 |cont=>exact q
def DU:TS:=fun D σ H=>D.ct σ H
def qv:PS X (.Continue pos) DU:=fun _ _ σ H _ I h=>wpAny_Continue ⟨σ,H,I,h⟩
def Inv.quiet{pins:Va}{σ:St}{H:Hp}{s:Shared}(I:Inv X pins σ H s):interactive X.env=false:=by simp[interactive,I.ok.kind]
def DV(te:TE):TS:=fun D σ H=>te σ H fun _ H1=>D.nx σ H1
def yZ(he:PE X e te)(hs:swapsWith e none pos.line X.env=pure false:=by rfl):PS X (.Expr e pos) (DV te):=by
 intro pins s σ H D I h
 exact wpAny_Expr_any (Ho (he pins s σ H _ I h) fun v s1 ⟨x,H1,I1,r1,q1⟩=>⟨σ,H1,I1,q1⟩) I.quiet hs
def FQ(te:TE):TS:=fun D σ H=>te σ H D.rt
def BS(he:PE X e te):PS X (.Return (some e) pos) (FQ te):=by
 intro pins s σ H D I h
 exact wpAny_Return_some (Ho (he pins s σ H _ I h) fun v s1 ⟨x,H1,I1,r1,q1⟩=>⟨x,σ,H1,I1,r1,q1⟩)
def FR(c:TT)(t u:TS):TS:=fun D σ H=>c σ H fun b H1=>if b=true then t D σ H1 else u D σ H1
def DW{c:Expr}{a b:List Stmt}{tc:TT}(hc:PT X c tc)(ha:Ma X a t)(hb:Ma X b u):PS X (.If c a b pos) (FR tc t u):=by
 intro pins s σ H D I h
 refine wpAny_If (Ho (hc pins s σ H _ I h) fun d s1 ⟨H1,I1,q1⟩=>?_)
 cases d with
 |true=>exact ha pins s1 σ H1 D I1 q1
 |false=>exact hb pins s1 σ H1 D I1 q1
end
abbrev TG:=V->St->Hp->(St->Hp->Prop)->Prop
abbrev AX:=List V->St->Hp->(St->Hp->Prop)->Prop
def PG(X:Cx)(target:Expr)(t:TG):Prop:=
 ∀(pins:Va) (s:Shared) (σ:St) (H:Hp) (v:V) (u:Value) (Q:St->Hp->Prop),Inv X pins σ H s->RelV v u->t v σ H Q->
  wpAny (model X.prog X.w) X.A (assign target X.env u) (fun _ s'=>∃σ' H',Inv X pins σ' H' s'/\Q σ' H') X.xe s
def DX(X:Cx)(ts:List Expr)(t:AX):Prop:=
 ∀(pins:Va) (s:Shared) (σ:St) (H:Hp) (vs:List V) (us:Vv) (Q:St->Hp->Prop),Inv X pins σ H s->Vals vs us->t vs σ H Q->
  wpAny (model X.prog X.w) X.A (assignInOrder ((assignEach ts X.env).map (·.2)) us) (fun _ s'=>∃σ' H',Inv X pins σ' H' s'/\Q σ' H') X.xe s
abbrev BU:=V->V->V->Hp->(Hp->Prop)->Prop
def y3(X:Cx)(t:BU):Prop:=
 ∀(pins:Va) (s:Shared) (σ:St) (H:Hp) (o i v:V) (ov iv u:Value) (Q:Hp->Prop),Inv X pins σ H s->RelV o ov->RelV i iv->RelV v u->t o i v H Q->
  wpAny (model X.prog X.w) X.A (setItem ov iv u) (fun _ s'=>∃H',Inv X pins σ H' s'/\Q H') X.xe s
section
variable {X:Cx} {pos:Pos}
def qw(i:Nat):TG:=fun v σ H Q=>Q (σ.set i (some v)) H
def y8{i:Nat}{x:Str}(hN:X.N.Nodup)(hi:X.N[i]?=some x)(hx:AW X.env.scope x)(hf:X.fn x=true\/X.env.scope.names.lookup x=some .local:=by first|exact .inl rfl|exact .inr rfl|assumption):PG X (.Name x pos) (qw i):=by
 intro pins s σ H v u Q I r h
 exact wpAny_assign_Name (d6 I hN hi hx r (fun s' I'=>⟨_,H,I',h⟩) hf)
noncomputable def DY:AX:=fun vs σ H Q=>vs=[]/\Q σ H
noncomputable def AY(t:TG)(u:AX):AX:=fun vs σ H Q=>∃v r,vs=v::r/\t v σ H fun σ' H'=>u r σ' H' Q
def y9:DX X [] DY:=by
 intro pins s σ H vs us Q I r h
 obtain⟨e,h⟩:=h
 subst e
 cases r
 exact assignInOrder_nil ⟨σ,H,I,h⟩
def vX{e:Expr}{es:List Expr}{t:TG}{u:AX}(h1:PG X e t)(h2:DX X es u)
  (hs:(assignEach (e::es) X.env).map (·.2)=assign e X.env::(assignEach es X.env).map (·.2):=by rfl):DX X (e::es) (AY t u):=by
 intro pins s σ H vs us Q I r h
 obtain⟨v,vr,e1,h⟩:=h
 subst e1
 cases r with
 |cons r rr=>
  rw[hs]
  refine VH (Ho (h1 pins s σ H _ _ _ I r h) fun _ s1 ⟨σ1,H1,I1,q1⟩=>?_)
  exact h2 pins s1 σ1 H1 _ _ Q I1 rr q1
def DZ(K:Vo)(n:Nat)(t:AX):TG:=fun v σ H Q=>∃a xs,v = .ref a/\SqT K H a xs/\xs.length=n/\t xs σ H Q
def BV{es:List Expr}{k:Nat}{t:AX}{n:Nat}(hc:X.calm=true)(h:DX X es t)
  (hn:(assignEach es X.env).length=n:=by rfl) (hst:(assignEach es X.env).findIdx? (·.1)=none:=by rfl):PG X (.Tuple es k pos) (DZ X.K n t):=by
 intro pins s σ H v u Q I r hw
 obtain⟨a,xs,e1,hq,hl,hw⟩:=hw
 subst e1
 cases r
 obtain⟨its,rv,ht,hz⟩:=I.tuple hq
 refine assign_Tuple_tuple (I.ok.hd hc) ht (by simp[hn,<-hl,rv.length]) hst fun h' hx=>?_
 have I1:Inv X pins σ H { s with heap:=h' }:=I.kept (t':=s.toks) fun b o e=>hx b o (TM (To e)) e
 exact h pins _ σ H xs _ Q I1 (by simpa using rv) hw
def FS(to ti:TE)(t:BU):TG:=fun v σ H Q=>to σ H fun o H1=>ti σ H1 fun i H2=>t o i v H2 fun H3=>Q σ H3
def BW{o i:Expr}{to ti:TE}{t:BU}(ho:PE X o to)(hi:PE X i ti)(hs:y3 X t)
  (ha:∀v,assign (.Subscript o i pos) X.env v=(do
   let ov <-holding [v] (eval o X.env)
   let iv <-holding [v,ov] (eval i X.env)
   standAt pos
   holding [v,ov,iv] (setItem ov iv v)
   release [v,ov,iv] []):=by intro _;rfl):PG X (.Subscript o i pos) (FS to ti t):=by
 intro pins s σ H v u Q I r h
 rw[ha]
 refine Tc (US (Ho (ho pins s σ H _ I h) fun ov s1 ⟨x,H1,I1,r1,q1⟩=>?_))
 refine Tc (US (Ho (hi pins s1 σ H1 _ I1 q1) fun iv s2 ⟨y,H2,I2,r2,q2⟩=>?_))
 refine Tc (wpAny_standAt (Tc (US (Ho (hs pins s2 σ H2 x y v ov iv u _ I2 r1 r2 r q2) fun _ s3 ⟨H3,I3,q3⟩=>?_))))
 exact wpAny_release ⟨σ,H3,I3,q3⟩
def y_(te:TE)(g:TG):TS:=fun D σ H=>te σ H fun x H1=>g x σ H1 D.nx
def vY{tg e:Expr}{te:TE}{g:TG}(he:PE X e te)(hg:PG X tg g)(hs:swapsWithSole [tg] e pos.line X.env=pure false:=by rfl)(hw:swappedStores [tg] e X.env=pure none:=by rfl)
  (h1:(assignEach [tg] X.env).map (·.2)=[assign tg X.env]:=by rfl):PS X (.Assign [tg] e pos) (y_ te g):=by
 intro pins s σ H D I h
 refine wpAny_Assign_stores (Ho (he pins s σ H _ I h) fun v s1 ⟨x,H1,I1,r1,q1⟩=>?_) hs hw
 rw[h1]
 exact Ho (hg pins s1 σ H1 x v _ I1 r1 q1) fun _ s2 q=>q
def BX{i:Nat}{x:Str}{e:Expr}{te:TE}{pos':Pos}(hN:X.N.Nodup)(hi:X.N[i]?=some x)(hx:AW X.env.scope x)(he:PE X e te)(hs:swapsWith e (some (.Name x pos')) pos.line X.env=pure false:=by rfl)(hf:X.fn x=true\/X.env.scope.names.lookup x=some .local:=by first|exact .inl rfl|exact .inr rfl|assumption) :
  PS X (.Assign [.Name x pos'] e pos) (y_ te (qw i)):=by
 intro pins s σ H D I h
 refine wpAny_Assign_Name (Ho (he pins s σ H _ I h) fun v s1 ⟨y,H1,I1,r1,q1⟩=>?_) hs
 exact d6 I1 hN hi hx r1 (fun s2 I2=>⟨_,H1,I2,q1⟩) hf
def FT(i j:Nat)(ta:TA):TS:=fun D σ H=>ta σ H fun vs H1=>∃v w,vs=[v,w]/\D.nx ((σ.set i (some v)).set j (some w)) H1
def BY{i j:Nat}{x y:Str}{a b:Expr}{ta:TA}{px py pt:Pos}{kt k2 N8}(hc:X.calm=true)(hN:X.N.Nodup)(hi:X.N[i]?=some x)(hj:X.N[j]?=some y)(hij:i≠j)
  (hx:X.env.scope.names.lookup x=some .local) (hy:X.env.scope.names.lookup y=some .local) (ha:PA X [a,b] ta)
  (hw:swappedStores [.Tuple [.Name x px,.Name y py] kt pt] (.Tuple [a,b] k2 N8) X.env=pure (some [x,y]))
  (hs:swapsWithSole [.Tuple [.Name x px,.Name y py] kt pt] (.Tuple [a,b] k2 N8) pos.line X.env=pure false:=by rfl) :
  PS X (.Assign [.Tuple [.Name x px,.Name y py] kt pt] (.Tuple [a,b] k2 N8) pos) (FT i j ta):=by
 intro pins s σ H D I h
 rw[exec_Assign_arm]
 refine Tc (wpAny_standAt ?_)
 rw[hs]
 refine Tc (Tf ?_)
 rw[if_neg (by decide)]
 refine Tc (Tuple_ (Ho (ha _ pins s σ H _ I h) fun us s1 ⟨vs,H1,I1,r1,q1⟩=>?_))
 obtain⟨v,w,e1,q1⟩:=q1
 subst e1
 obtain⟨u1,u2,rfl,rv,rw'⟩:∃u1 u2,us=[u1,u2]/\RelV v u1/\RelV w u2:=by
  cases r1 with
  |cons p q=>
   cases q with
   |cons p' q'=>
    cases q'
    exact⟨_,_,rfl,p,p'⟩
 refine Ud ?_ (by show 2<=sizeLine;decide)
 have I2:Inv X pins σ H1 { s1 with heap:=s1.heap.push { cls:=.type "tuple",data:=.seq [u1,u2].toArray } }:=I1.kept (t':=s1.toks) fun b o e=>Td _ e
 rw[hw]
 refine Tc (Tf ?_)
 show wpAny (model X.prog X.w) X.A (do rule "assign.swapped-stores"; let items <-unpackItems (.ref s1.heap.objs.size) 2 none;assignInOrder [fun v=>bindName X.env y v,fun v=>bindName X.env x v] items.reverse;pure Flow.next) _ _ _
 refine Tc (Vp (Tc (unpackItems_tuple (items:=#[u1,u2]) (I.ok.hd hc) (IsTup.new s1.heap _) fun h' hx'=>?_)))
 have I3:=I2.kept (h':=h') (t':=s1.toks) fun b o e=>hx' b o (TM (To e)) e
 show wpAny _ _ (assignInOrder [fun v=>bindName X.env y v,fun v=>bindName X.env x v] [u2,u1] >>= fun _=>pure Flow.next) _ _ _
 refine Tc (VH (WR (d6 I3 hN hj (.inl hy) rw' (fun s2 I4=>?_) (.inr hy))))
 refine VH (WR (d6 I4 hN hi (.inl hx) rv (fun s3 I5=>assignInOrder_nil (Tf ?_)) (.inr hx)))
 rw[List.set_comm _ _ (VL hij)]at I5
 exact⟨_,H1,I5,q1⟩
end
section
variable {X:Cx} {pos:Pos}
def BZ(c:TT)(tb:TS):TS:=fun D σ H=>∃W:Nat->St->Hp->Prop,(∃m,W m σ H)/\∀m σ H,W m σ H->
 c σ H fun b H1=>if b=true then ∃N:St->Hp->Prop,(∀σ' H',N σ' H'->∃m',m' < m/\W m' σ' H')/\tb { D with nx:=N,ct:=N,bk:=D.nx } σ H1 else D.nx σ H1
def vZ{c:Expr}{body:List Stmt}{tc:TT}{tb:TS}(hp:PassesOwn (model X.prog X.w) X.A X.env X.xe)(hc:PT X c tc)(hb:Ma X body tb):PS X (.While c body [] pos) (BZ tc tb):=by
 intro pins s σ H D I h
 obtain⟨W,⟨m0,w0⟩,turn⟩:=h
 refine wpAny_While (codeAny_whileLoop (fun n s'=>∃σ' H',Inv X pins σ' H' s'/\W n σ' H') ?_ m0 ⟨σ,H,I,w0⟩)
 rintro n s1 ⟨σ1,H1,I1,w1⟩
 refine VP hp (Ho (hc pins s1 σ1 H1 _ I1 (turn n σ1 H1 w1)) fun b s2 ⟨H2,I2,q2⟩=>?_)
 cases b with
 |true=>
  obtain⟨N,hN,q2⟩:=q2
  rw[if_pos rfl]
  refine VP hp (Ho (hb pins s2 σ1 H2 _ I2 q2) fun f s3 q3=>?_)
  cases f with
  |next=>
   obtain⟨σ3,H3,I3,n3⟩:=q3
   obtain⟨m',hm,w3⟩:=hN σ3 H3 n3
   exact⟨m',hm,σ3,H3,I3,w3⟩
  |cont=>
   obtain⟨σ3,H3,I3,n3⟩:=q3
   obtain⟨m',hm,w3⟩:=hN σ3 H3 n3
   exact⟨m',hm,σ3,H3,I3,w3⟩
  |brk=>exact q3
  |ret v=>exact q3
 |false=>
  rw[if_neg T4]
  exact Xj ⟨σ1,H2,I2,q2⟩
end
structure It where
 go:Nat->Hp->Prop
 Pv:Nat->Hp->V->Hp->Prop
 stop:Nat->Hp->Prop
def fL(X:Cx)(pins:Va)(H:Hp)(b:Addr):Prop:=
 H b=none/\b≠X.env.locals/\b ∉ X.fs/\(b∈X.ex\/X.s₀.heap.objs.size<=b)/\(∀x c,X.env.cells.lookup x=some c->c≠b)/\∀p∈X.pn++pins,p.1≠b
def Inv.Ku{X:Cx}{pins:Va}{σ:St}{H H':Hp}{s:Shared}{b:Addr}(I:Inv X pins σ H s)(hb:s.heap.objs.size<=b)(hn:H' b=none):fL X pins H' b:=by
 refine⟨hn,UU (TU I.lt hb),I.OL hb,.inr (TR I.sz hb),fun x c e z=>?_,fun p hp z=>?_⟩
 ·obtain⟨v,q⟩:=I.cell x c e
  exact absurd (TU q.lt (by rw[z];exact hb)) (U0 _)
 ·exact absurd (TU (To (I.pin p hp).1) (by rw[z];exact hb)) (U0 _)
structure l9 (P:Program) (w:World) (K:Vo) (tg:Expr) (J:It) (fp:List Addr) (it:Addr) (tn:Nat->Heap->Prop):Prop where
 mem:it∈fp
 obj:∀i h,tn i h->∀b∈fp,∃o,h.get? b=some o/\∀v,o.data ≠ .cell v
 keep:∀i h h',tn i h->(∀b∈fp,∀o,h.get? b=some o->h'.get? b=some o)->tn i h'
 item:∀(X:Cx),X.prog=P->X.w=w->X.K=K->X.calm=true->∀(i:Nat) (pins:Va) (s:Shared) (σ:St) (H:Hp) (E:Vq),Inv X pins σ H s->(∀b∈fp,fL X pins H b)->tn i s.heap->J.go i H->
  wpAny (model P w) X.A (pyNext (.ref it)) (fun r s1=>∃u,r=some u/\
   wpAny (model P w) X.A (letOwnedTupleGo tg (.ref it) u) (fun _ s2=>∃x H',Inv X pins σ H' s2/\RelV x u/\J.Pv i H x H'/\tn (i+1) s2.heap/\∀b∈fp,H' b=none) E s1) E s
 done:∀(X:Cx),X.prog=P->X.w=w->X.K=K->X.calm=true->∀(i:Nat) (pins:Va) (s:Shared) (σ:St) (H:Hp) (E:Vq),Inv X pins σ H s->(∀b∈fp,fL X pins H b)->tn i s.heap->J.stop i H->
  wpAny (model P w) X.A (pyNext (.ref it)) (fun r s1=>r=none/\Inv X pins σ H s1) E s
 self:∀(A:Around) (i:Nat) (s:Shared) (Q:Vq) (E:Vq),tn i s.heap->Q (.ref it) s->wpAny (model P w) A (pyIter (.ref it)) Q E s
abbrev TI:=St->Hp->(It->Hp->Prop)->Prop
def FU(X:Cx)(pins:Va)(σ:St)(tg:Expr)(R:It->Hp->Prop)(itv:Value)(s2:Shared):Prop:=
 ∃(it:Addr) (fp:List Addr) (tn:Nat->Heap->Prop) (J:It) (H':Hp),itv = .ref it/\Inv X pins σ H' s2/\l9 X.prog X.w X.K tg J fp it tn/\tn 0 s2.heap/\(∀b∈fp,fL X pins H' b)/\R J H'
def PI(X:Cx)(tg iter:Expr)(wi:TI):Prop:=
 ∀(pins:Va) (s:Shared) (σ:St) (H:Hp) (R:It->Hp->Prop),Inv X pins σ H s->wi σ H R->
  wpAny (model X.prog X.w) X.A (eval iter X.env) (fun v s1=>wpAny (model X.prog X.w) X.A (pyIter v) (FU X pins σ tg R) X.xe s1) X.xe s
def qx {M : Model} {A : Around} {E : Value -> Shared -> Prop} {s : Shared} {tg : Expr} {it : Addr} {u : Value} {o : Obj} {n : String} {vs : Array Value} {Q : Unit -> Shared -> Prop} (ho : s.heap.get? it = some o) (hc : o.cls = .type n) (hd : o.data = .fields vs)
    (hn : ["enumerate", "zip", "dict_itemiterator", "dict_reverseitemiterator", "odict_iterator", "itertools.zip_longest", "itertools.pairwise"].contains n = false) (hQ : Q () s) : wpAny M A (letOwnedTupleGo tg (.ref it) u) Q E s := by
  unfold letOwnedTupleGo
  cases tg <;> first
    | exact Tf hQ
    | (cases u <;> first
        | exact Tf hQ
        | (refine Tc (wpAny_load ho ?_)
           rw [hc, hd]
           show wpAny M A (if (["enumerate", "zip", "dict_itemiterator", "dict_reverseitemiterator", "odict_iterator", "itertools.zip_longest", "itertools.pairwise"].contains n && vs[0]? == some (rawInt _)) = true then _ else _) Q E s
           rw [if_neg (by intro h; rw [hn, Bool.false_and] at h; cases h)]
           exact Tf hQ))
noncomputable def Fx(K:Vo)(a:Addr):It:=
 ⟨fun i H=>∃xs x,SqL K H a xs/\xs[i]?=some x,fun i H x H'=>H'=H/\∀xs,SqL K H a xs->xs[i]?=some x,fun i H=>∃xs,SqL K H a xs/\xs.length<=i⟩
noncomputable def FV(K:Vo)(a:Addr):It:=
 ⟨fun i H=>∃xs x,SqT K H a xs/\xs[i]?=some x,fun i H x H'=>H'=H/\∀xs,SqT K H a xs->xs[i]?=some x,fun i H=>∃xs,SqT K H a xs/\xs.length<=i⟩
noncomputable def Fy(lo:Int)(n:Nat):It:=⟨fun i _=>i < n,fun i H x H'=>H'=H/\x = .int (lo+i),fun i _=>n<=i⟩
def uA{P:Program}{w:World}{K:Vo}{tg:Expr}(a it:Addr):l9 P w K tg (Fx K a) [it] it (fun i h=>h.IsListIter it a i) where
 mem:=by simp
 obj:=fun i h st b hb=>by
  have e:b=it:=by simpa using hb
  subst e
  obtain⟨o,e,c,d⟩:=st
  exact⟨o,e,fun v z=>by rw[d]at z;cases z⟩
 keep:=fun i h h' st k=>st.at fun o e=>k it (by simp) o e
 item:=by
  intro X hP hw hK hc i pins s σ H E I hf st hg
  subst hP hw hK
  obtain⟨xs,x,hq,hx⟩:=hg
  obtain⟨its,rv,p,hz⟩:=I.list hq
  obtain⟨u,hu,ru⟩:=rv.get hx
  obtain⟨f0,f1,f2,f3,f4,f5⟩:=hf it (by simp)
  refine wpAny_pyNext_list_item st p.isList (x:=u) (by simpa using hu) fun h' st' sb=>?_
  have I1:Inv X pins σ H { s with heap:=h' }:=I.turned (t':=s.toks) (fun b o hb e=>(sb.2 b hb).trans e) f0 f1 f3 f4 f5
  obtain⟨o,e,c,d⟩:=id st'
  exact⟨u,rfl,qx (s:={ s with heap:=h' }) e c d (by decide) ⟨x,H,I1,ru,⟨rfl,fun ys hy=>by rw[I.KE hy hq];exact hx⟩,st',fun b hb=>(hf b hb).1⟩⟩
 done:=by
  intro X hP hw hK hc i pins s σ H E I hf st hg
  subst hP hw hK
  obtain⟨xs,hq,hx⟩:=hg
  obtain⟨its,rv,p,hz⟩:=I.list hq
  obtain⟨f0,f1,f2,f3,f4,f5⟩:=hf it (by simp)
  have hl:=rv.length
  exact wpAny_pyNext_list_end (I.ok.hd hc) st p.isList (by simp;omega) fun h' eb=>⟨rfl,I.turned (t':=s.toks) (fun b o hb e=>eb b o hb e) f0 f1 f3 f4 f5⟩
 self:=fun _ _ _ _ _ st h=>wpAny_pyIter_listiter st h
def rV{P:Program}{w:World}{K:Vo}{tg:Expr}(a it:Addr):l9 P w K tg (FV K a) [it] it (fun i h=>h.IsTupleIter it a i) where
 mem:=by simp
 obj:=fun i h st b hb=>by
  have e:b=it:=by simpa using hb
  subst e
  obtain⟨o,e,c,d⟩:=st
  exact⟨o,e,fun v z=>by rw[d]at z;cases z⟩
 keep:=fun i h h' st k=>st.at fun o e=>k it (by simp) o e
 item:=by
  intro X hP hw hK hc i pins s σ H E I hf st hg
  subst hP hw hK
  obtain⟨xs,x,hq,hx⟩:=hg
  obtain⟨its,rv,p,hz⟩:=I.tuple hq
  obtain⟨u,hu,ru⟩:=rv.get hx
  obtain⟨f0,f1,f2,f3,f4,f5⟩:=hf it (by simp)
  refine wpAny_pyNext_tuple_item st (show s.heap.IsTuple a its.toArray from p) (x:=u) (by simpa using hu) fun h' st' sb=>?_
  have I1:Inv X pins σ H { s with heap:=h' }:=I.turned (t':=s.toks) (fun b o hb e=>(sb.2 b hb).trans e) f0 f1 f3 f4 f5
  obtain⟨o,e,c,d⟩:=id st'
  exact⟨u,rfl,qx (s:={ s with heap:=h' }) e c d (by decide) ⟨x,H,I1,ru,⟨rfl,fun ys hy=>by rw[I.KL hy hq];exact hx⟩,st',fun b hb=>(hf b hb).1⟩⟩
 done:=by
  intro X hP hw hK hc i pins s σ H E I hf st hg
  subst hP hw hK
  obtain⟨xs,hq,hx⟩:=hg
  obtain⟨its,rv,p,hz⟩:=I.tuple hq
  obtain⟨f0,f1,f2,f3,f4,f5⟩:=hf it (by simp)
  have hl:=rv.length
  exact wpAny_pyNext_tuple_end (I.ok.hd hc) st (show s.heap.IsTuple a its.toArray from p) (by simp;omega) fun h' eb=>⟨rfl,I.turned (t':=s.toks) (fun b o hb e=>eb b o hb e) f0 f1 f3 f4 f5⟩
 self:=fun _ _ _ _ _ st h=>wpAny_pyIter_tupleiter st h
def rW{P:Program}{w:World}{K:Vo}{tg:Expr}(it:Addr)(lo:Int)(n:Nat):l9 P w K tg (Fy lo n) [it] it (fun i h=>IsRangeIter h it (lo+(i:Nat) * 1) ((n:Int) - (i:Nat)) 1) where
 mem:=by simp
 obj:=fun i h st b hb=>by
  have e:b=it:=by simpa using hb
  subst e
  exact⟨_,st,fun v z=>by
   have z':Data.fields _=Data.cell v:=z
   cases z'⟩
 keep:=fun i h h' st k=>k it (by simp) _ st
 item:=by
  intro X hP hw hK hc i pins s σ H E I hf st hg
  subst hP hw hK
  obtain⟨f0,f1,f2,f3,f4,f5⟩:=hf it (by simp)
  have W:=Walks.range (prog:=X.prog) (w:=X.w) (I.ok.hd hc) it lo 1 n
  refine W.item i s _ _ hg st fun v h' tk hv st' kk=>?_
  obtain⟨t,rfl⟩:=hv
  have I1:Inv X pins σ H { s with heap:=h',toks:=tk }:=I.turned (fun b o hb e=>kk b o (by simpa using hb) e) f0 f1 f3 f4 f5
  refine⟨_,rfl,qx (s:={ s with heap:=h',toks:=tk }) (n:="range_iterator") st' rfl rfl (by decide) ⟨.int (lo+i),H,I1,⟨t,?_⟩,⟨rfl,rfl⟩,st',fun b hb=>(hf b hb).1⟩⟩
  rw[Int.mul_one]
 done:=by
  intro X hP hw hK hc i pins s σ H E I hf st hg
  subst hP hw hK
  obtain⟨f0,f1,f2,f3,f4,f5⟩:=hf it (by simp)
  exact wpAny_pyNext_range_end (I.ok.hd hc) st (by have:n<=i:=hg;omega) fun h' eb=>⟨rfl,I.turned (t':=s.toks) (fun b o hb e=>eb b o hb e) f0 f1 f3 f4 f5⟩
 self:=fun _ _ _ _ _ st h=>wpAny_pyIter_rangeiter st h
section
variable {X:Cx} {tg:Expr}
def v1{pins:Va}{σ:St}{H:Hp}{s:Shared}{R:It->Hp->Prop}{E:Vq}{lo hi:Int}{t u v:Tok}{tk:Nat}(I:Inv X pins σ H s)(h1:-(2 ^ 62)<=lo)(h2:lo < 2 ^ 62)(h3:-(2 ^ 62)<=hi)(h4:hi < 2 ^ 62)
  (q:R (Fy lo (hi - lo).toNat) H):wpAny (model X.prog X.w) X.A (pyIter (.ref s.heap.objs.size)) (FU X pins σ tg R) E { s with heap:=s.heap.push { cls:=.type "range",data:=.fields #[.int lo t,.int hi u,.int 1 v] },toks:=tk }:=by
 refine wpAny_pyIter_range (IsRange.new ..) (small_one h1 h2 h3 h4) ?_
 have I1:Inv X pins σ H { s with heap:=s.heap.push { cls:=.type "range",data:=.fields #[.int lo t,.int hi u,.int 1 v] },toks:=tk }:=I.kept fun b o e=>Td _ e
 refine⟨(s.heap.push { cls:=.type "range",data:=.fields #[.int lo t,.int hi u,.int 1 v] }).objs.size,[(s.heap.push { cls:=.type "range",data:=.fields #[.int lo t,.int hi u,.int 1 v] }).objs.size],_,_,H,rfl,
  I1.kept (t':=tk) fun b o e=>Td _ e,rW _ lo (hi - lo).toNat,?_,fun b hb=>?_,q⟩
 ·have e1:lo+((0:Nat):Int) * 1=lo:=by simp
  have e2:(((hi - lo).toNat:Nat):Int) - ((0:Nat):Int)=Builtin.Range.rangeSize lo hi 1:=by rw[rangeSize_one];split<;>omega
  show IsRangeIter _ _ (lo+((0:Nat):Int) * 1) ((((hi - lo).toNat:Nat):Int) - ((0:Nat):Int)) 1
  rw[e1,e2]
  exact Tn _ rfl
 ·have e:b=(s.heap.push { cls:=.type "range",data:=.fields #[.int lo t,.int hi u,.int 1 v] }).objs.size:=by simpa using hb
  subst e
  exact I1.Ku (Tq _) (I1.hok.fresh (Tq _))
def D_(ta:TA):TI:=fun σ H R=>ta σ H fun vs H1=>∃j:Int,vs=[.int j]/\-(2 ^ 62)<=j/\j < 2 ^ 62/\R (Fy 0 j.toNat) H1
def uB{a:Expr}{ta:TA}{p pos:Pos}(hg:Gl X "range")(hm:X.mg "range" = none)(ha:PA X [a] ta)(hs:starEach [a] X.env=[(false,eval a X.env)]:=by rfl):PI X tg (.Call (.Name "range" p) [a] [] pos) (D_ ta):=by
 intro pins s σ H R I h
 refine Call_ (dH I hg hm boot_range (Uk (Ho (ha pos pins s σ H _ I h) fun us s1 ⟨vs,H1,I1,r1,q1⟩=>?_) hs rfl))
 obtain⟨j,e,q1,q2,q⟩:=q1
 subst e
 cases r1 with
 |cons r rr=>
  cases rr
  obtain⟨t,rfl⟩:=r
  exact call_range_1 (v1 I1 (by omega) (by omega) q1 q2 (by simpa using q))
def FW(wi:TI)(g:TG)(tb:TS):TS:=fun D σ H=>wi σ H fun J H1=>∃W:Nat->Nat->St->Hp->Prop,(∃m,W 0 m σ H1)/\∀i m σ H,W i m σ H->
 (J.stop i H/\D.nx σ H)\/(J.go i H/\∃N:St->Hp->Prop,(∀σ' H',N σ' H'->∃m',m' < m/\W (i+1) m' σ' H')/\∀x H',J.Pv i H x H'->g x σ H' fun σ2 H2=>tb { D with nx:=N,ct:=N,bk:=D.nx } σ2 H2)
noncomputable def l_(fp:List Addr)(h:Heap):List (Addr×Obj):=fp.filterMap fun b=>(h.get? b).map fun o=>(b,o)
def jm{fp:List Addr}{h:Heap}{b:Addr}{o:Obj}(hb:b∈fp)(e:h.get? b=some o):(b,o)∈l_ fp h:=List.mem_filterMap.mpr ⟨b,hb,by rw[e];rfl⟩
def uC{fp:List Addr}{h:Heap}{p:Addr×Obj}(hp:p∈l_ fp h):p.1∈fp/\h.get? p.1=some p.2:=by
 obtain⟨b,hb,e⟩:=List.mem_filterMap.mp hp
 cases q:h.get? b with
 |none=>rw[q]at e;cases e
 |some o=>
  rw[q]at e
  have e':(b,o)=p:=UB e
  subst e'
  exact⟨hb,q⟩
def Inv.pinned{pins:Va}{σ:St}{H:Hp}{s:Shared}{fp:List Addr}(I:Inv X pins σ H s)(hf:∀b∈fp,fL X pins H b)(ho:∀b∈fp,∃o,s.heap.get? b=some o/\∀v,o.data ≠ .cell v):Inv X (pins++l_ fp s.heap) σ H s:=
 I.Lb fun p hp=>(Tj.mp hp).elim (fun z=>I.pin p (Uc _ z)) fun z=>by
  obtain⟨hb,e⟩:=uC z
  obtain⟨f0,f1,f2,_⟩:=hf p.1 hb
  obtain⟨o,e',d⟩:=ho p.1 hb
  rw[e]at e';cases e'
  exact⟨e,f0,f1,f2,d⟩
def Inv.KF{pins pl:Va}{σ:St}{H:Hp}{s:Shared}(I:Inv X (pins++pl) σ H s):Inv X pins σ H s:=I.Lb fun p hp=>I.pin p (Uc _ (UL _ hp))
def B1{iter:Expr}{body:List Stmt}{wi:TI}{g:TG}{tb:TS}{pos:Pos}(hp:PassesOwn (model X.prog X.w) X.A X.env X.xe)(hc:X.calm=true)(hi:PI X tg iter wi)(hg:PG X tg g)(hb:Ma X body tb)
  (hs:∀x,foldedSetIterable iter X.env x=pure x:=by intro _;rfl):PS X (.For tg iter body [] pos) (FW wi g tb):=by
 intro pins s σ H D I h
 refine wpAny_For (Ho (hi pins s σ H _ I h) fun v s1 h1=>Ho h1 fun itv s2 h2=>?_) hs
 obtain⟨it,fp,tn,J,H2,e,I2,T,st2,f2,W,⟨m0,w0⟩,turn⟩:=h2
 subst e
 -- what stays true of the iterator's objects through the loop
 have stat:∀{H':Hp},(∀b∈fp,H' b=none)->∀b∈fp,fL X pins H' b:=fun hn b hb=>⟨hn b hb,(f2 b hb).2⟩
 refine codeAny_forLoop_any (fun n s'=>∃i σ' H',Inv X pins σ' H' s'/\tn i s'.heap/\(∀b∈fp,H' b=none)/\W i n σ' H') ?_ m0 ⟨0,σ,H2,I2,st2,fun b hb=>(f2 b hb).1,w0⟩
 rintro n s3 ⟨i,σ3,H3,I3,st3,Rc,w3⟩
 rcases turn i n σ3 H3 w3 with⟨stop,qn⟩|⟨go,N,hN,step⟩
 ·refine VP hp (Ho (T.done X rfl rfl rfl hc i pins s3 σ3 H3 X.xe I3 (stat Rc) st3 stop) fun r s4 ⟨hr,I4⟩=>?_)
  subst hr
  exact Xj ⟨σ3,H3,I4,qn⟩
 ·refine VP hp (Ho (T.item X rfl rfl rfl hc i pins s3 σ3 H3 X.xe I3 (stat Rc) st3 go) fun r s4 ⟨u,hr,h4⟩=>?_)
  subst hr
  refine VP hp (Ho h4 fun _ s5 ⟨x,H5,I5,r5,y5,Nr,Qb⟩=>?_)
  have Qc:=I5.pinned (stat Qb) (T.obj _ _ Nr)
  refine VP hp (Ho (hg _ s5 σ3 H5 x u _ Qc r5 (step x H5 y5)) fun _ s6 ⟨σ6,H6,I6,q6⟩=>?_)
  refine VP hp (Ho (hb _ s6 σ6 H6 _ I6 q6) fun f s7 q7=>?_)
  have again:∀{σ7:St} {H7:Hp},Inv X (pins++l_ fp s5.heap) σ7 H7 s7->N σ7 H7->∃m,m < n/\∃i σ' H',Inv X pins σ' H' s7/\tn i s7.heap/\(∀b∈fp,H' b=none)/\W i m σ' H':=fun{σ7 H7} I7 n7=>by
   obtain⟨m',hm,w7⟩:=hN σ7 H7 n7
   refine⟨m',hm,i+1,σ7,H7,I7.KF,T.keep _ _ _ Nr fun b hb o e=>(I7.pin (b,o) (Uc _ (Uc _ (jm hb e)))).1,fun b hb=>?_,w7⟩
   obtain⟨o,e,d⟩:=T.obj _ _ Nr b hb
   exact(I7.pin (b,o) (Uc _ (Uc _ (jm hb e)))).2.1
  cases f with
  |next=>obtain⟨σ7,H7,I7,n7⟩:=q7;exact again I7 n7
  |cont=>obtain⟨σ7,H7,I7,n7⟩:=q7;exact again I7 n7
  |brk=>obtain⟨σ7,H7,I7,q7⟩:=q7;exact⟨σ7,H7,I7.KF,q7⟩
  |ret v=>obtain⟨x7,σ7,H7,I7,r7,q7⟩:=q7;exact⟨x7,σ7,H7,I7.KF,r7,q7⟩
end
abbrev R2:=V->V->Hp->VK->Prop
def jo(X:Cx)(f:Value->Value->Sem Value)(r:R2):Prop:=
 ∀(pins:Va) (s:Shared) (σ:St) (H:Hp) (x y:V) (v u:Value) (Q:VK),Inv X pins σ H s->RelV x v->RelV y u->r x y H Q->
  wpAny (model X.prog X.w) X.A (f v u) (EP X pins σ Q) X.xe s
def Fz(X:Cx)(f:Value->Sem Value)(r:V->Hp->VK->Prop):Prop:=
 ∀(pins:Va) (s:Shared) (σ:St) (H:Hp) (x:V) (v:Value) (Q:VK),Inv X pins σ H s->RelV x v->r x H Q->
  wpAny (model X.prog X.w) X.A (f v) (EP X pins σ Q) X.xe s
def dB(X:Cx)(f:Value)(r:List V->Hp->VK->Prop):Prop:=
 ∀(pins:Va) (s:Shared) (σ:St) (H:Hp) (xs:List V) (us:Vv) (Q:VK),Inv X pins σ H s->Vals xs us->r xs H Q->
  wpAny (model X.prog X.w) X.A (call f us) (EP X pins σ Q) X.xe s
def Ea(r:R2)(ta tb:TE):TE:=fun σ H Q=>ta σ H fun x H1=>tb σ H1 fun y H2=>r x y H2 Q
def GV(r:V->Hp->VK->Prop)(ta:TE):TE:=fun σ H Q=>ta σ H fun x H1=>r x H1 Q
def rI(C:Int->Int->Prop)(g:Int->Int->V):R2:=fun x y H Q=>∃i j,x = .int i/\y = .int j/\C i j/\Q (g i j) H
def zb(g:Int->Int->V):R2:=fun x y H Q=>∃i j,x = .int i/\y = .int j/\Q (g i j) H
noncomputable def rU(g:Int->V):V->Hp->VK->Prop:=fun x H Q=>∃i,x = .int i/\Q (g i) H
section
variable {X:Cx} {a b c:Expr} {ta tb tc:TE} {pos:Pos}
def B2(ha:PE X a ta)(hb:PE X b tb){pins:Va}{s:Shared}{σ:St}{H:Hp}{R:V->V->Hp->Prop}(I:Inv X pins σ H s)
  (h:ta σ H fun x H1=>tb σ H1 fun y H2=>R x y H2) {Q:Vq} {f:Value->Value->Sem Value}
  (hf:∀v u s2 x y H2,Inv X pins σ H2 s2->RelV x v->RelV y u->R x y H2->wpAny (model X.prog X.w) X.A (f v u) Q X.xe s2) :
  wpAny (model X.prog X.w) X.A (eval a X.env) (fun v s₁=>wpAny (model X.prog X.w) X.A (eval b X.env) (fun u s₂=>wpAny (model X.prog X.w) X.A (f v u) Q X.xe s₂) X.xe s₁) X.xe s:=by
 refine Ho (ha pins s σ H _ I h) fun v s1 ⟨x,H1,I1,r1,q1⟩=>?_
 refine Ho (hb pins s1 σ H1 _ I1 q1) fun u s2 ⟨y,H2,I2,r2,q2⟩=>?_
 exact hf v u s2 x y H2 I2 r1 r2 q2
def Eb{op:Operator}{r:R2}(ho:jo X (binaryOp op) r)(ha:PE X a ta)(hb:PE X b tb):PE X (.BinOp a op b pos) (Ea r ta tb):=by
 intro pins s σ H Q I h
 exact wpAny_BinOp (B2 ha hb I h fun v u s2 x y H2 I2 rx ry q=>ho pins s2 σ H2 x y v u Q I2 rx ry q)
def Ec{op:UnaryOp}{r:V->Hp->VK->Prop}(ho:Fz X (unaryOp op) r)(ha:PE X a ta):PE X (.UnaryOp op a pos) (GV r ta):=by
 intro pins s σ H Q I h
 exact UnaryOp_ (Ho (ha pins s σ H _ I h) fun v s1 ⟨x,H1,I1,r1,q1⟩=>ho pins s1 σ H1 x v Q I1 r1 q1)
def FA{f:Value->Value->Sem Value}{C:Int->Int->Prop}{g:Int->Int->Int}
  (rule:∀(i j:Int) (t u:Tok) (s:Shared) (Q:Vq) (E:Vq),C i j->Q (.int (g i j) s.toks) { s with toks:=s.toks+1 }->wpAny (model X.prog X.w) X.A (f (.int i t) (.int j u)) Q E s) :
  jo X f (rI C fun i j=>.int (g i j)):=by
 intro pins s σ H x y v u Q I rx ry h
 obtain⟨i,j,rfl,rfl,hc,q⟩:=h
 obtain⟨t,rfl⟩:=rx
 obtain⟨t',rfl⟩:=ry
 exact rule i j t t' s _ _ hc ⟨.int (g i j),H,I.tok _,⟨_,rfl⟩,q⟩
def Ed{f:Value->Value->Sem Value}{g:Int->Int->Int}
  (rule:∀(i j:Int) (t u:Tok) (s:Shared) (Q:Vq) (E:Vq),Q (.int (g i j) s.toks) { s with toks:=s.toks+1 }->wpAny (model X.prog X.w) X.A (f (.int i t) (.int j u)) Q E s) :
  jo X f (zb fun i j=>.int (g i j)):=by
 intro pins s σ H x y v u Q I rx ry h
 obtain⟨i,j,rfl,rfl,q⟩:=h
 obtain⟨t,rfl⟩:=rx
 obtain⟨t',rfl⟩:=ry
 exact rule i j t t' s _ _ ⟨.int (g i j),H,I.tok _,⟨_,rfl⟩,q⟩
def B3{f:Value->Value->Sem Value}{g:Int->Int->Bool}
  (rule:∀(i j:Int) (t u:Tok) (s:Shared) (Q:Vq) (E:Vq),Q (.bool (g i j)) s->wpAny (model X.prog X.w) X.A (f (.int i t) (.int j u)) Q E s) :
  jo X f (zb fun i j=>.bl (g i j)):=by
 intro pins s σ H x y v u Q I rx ry h
 obtain⟨i,j,rfl,rfl,q⟩:=h
 obtain⟨t,rfl⟩:=rx
 obtain⟨t',rfl⟩:=ry
 exact rule i j t t' s _ _ ⟨.bl (g i j),H,I,rfl,q⟩
def B4(i j:Int):Prop:=0<=j/\j<=1000000/\i.natAbs < 2 ^ 64
def Nt(i j:Int):Prop:=(-(2 ^ 64) < i/\i < 2 ^ 64)\/(-(2 ^ 64) < j/\j < 2 ^ 64)
def Nt.ok{i j:Int}(h:Nt i j):IntMulOk i j:=by
 rcases h with⟨h1,h2⟩|⟨h1,h2⟩
 ·exact .of_left (intBits_le_64 h1 h2)
 ·exact .of_right (intBits_le_64 h1 h2)
def B5:jo X (binaryOp .Add) (zb fun i j=>.int (i+j)):=Ed fun _ _ _ _ _ _ _ q=>add_int q
def B6:jo X (binaryOp .Sub) (zb fun i j=>.int (i - j)):=Ed fun _ _ _ _ _ _ _ q=>sub_int q
def zc:jo X (binaryOp .Mod) (rI (fun _ j=>j≠0) fun i j=>.int (i.fmod j)):=FA fun _ _ _ _ _ _ _ hc q=>mod_int' hc q
def B7:jo X (binaryOp .Pow) (rI B4 fun i j=>.int (i ^ j.toNat)):=FA fun _ _ _ _ _ _ _ hc q=>pow_int_small hc.1 hc.2.1 hc.2.2 q
def GW{f:Value->Sem Value}{g:Int->Int}
  (rule:∀(i:Int) (t:Tok) (s:Shared) (Q:Vq) (E:Vq),Q (.int (g i) s.toks) { s with toks:=s.toks+1 }->wpAny (model X.prog X.w) X.A (f (.int i t)) Q E s) :
  Fz X f (rU fun i=>.int (g i)):=by
 intro pins s σ H x v Q I rx h
 obtain⟨i,rfl,q⟩:=h
 obtain⟨t,rfl⟩:=rx
 exact rule i t s _ _ ⟨.int (g i),H,I.tok _,⟨_,rfl⟩,q⟩
def B8:Fz X (unaryOp .USub) (rU fun i=>.int (-i)):=GW fun _ _ _ _ _ q=>neg_int q
end
noncomputable def Ee:V->V->Bool
 | .non,.non=>true | .non,.int _=>true | .int _,.non=>true | .non,.bl _=>true | .bl _,.non=>true | .non,.str _=>true | .str _,.non=>true
 | .int _,.int _=>true | .bl _,.bl _=>true | .str _,.str _=>true | .MW _,.MW _=>true
 | .int _,.str _=>true | .str _,.int _=>true | .bl _,.str _=>true | .str _,.bl _=>true
 |_,_=>false
def GX:R2:=fun x y H Q=>Ee x y=true/\Q (.bl (decide (x=y))) H
def GY:R2:=fun x y H Q=>Ee x y=true/\Q (.bl (!decide (x=y))) H
def tE{i j:Int}:decide (V.int i=V.int j)=(i == j):=by
 rw[VQ]
 simp
def v5{i j:Bool}:decide (V.bl i=V.bl j)=(i == j):=by
 rw[VQ]
 simp
def tF{i j:Str}:decide (V.str i=V.str j)=(i == j):=by
 rw[VQ]
 simp
def tG{i j:Array UInt8}:decide (V.MW i=V.MW j)=(i.toList == j.toList):=by
 rw[VQ]
 cases i
 cases j
 simp
section
variable {X:Cx} {a b c:Expr} {ta tb tc:TE} {pos:Pos}
def aS{pins:Va}{σ:St}{H:Hp}{s:Shared}{Q:VK}{k k':Bool}(I:Inv X pins σ H s)(q:Q (.bl k) H)(e:k=k'):EP X pins σ Q (.bool k') s:=by
 subst e
 exact⟨.bl k,H,I,rfl,q⟩
def v6:jo X (compareOp .Eq) GX:=by
 intro pins s σ H x y v u Q I rx ry h
 obtain⟨hs,q⟩:=h
 cases x with
 |non=>
  cases rx
  cases y with
  |non=>cases ry;exact PySem.EqNone.eq_none_none (aS I q (by simp))
  |bl j=>cases ry;exact PySem.EqNone.eq_none_bool (aS I q (by simp))
  |int j=>obtain⟨t',rfl⟩:=ry;exact PySem.EqNone.eq_none_int (aS I q (by simp))
  |str j=>obtain⟨t',rfl⟩:=ry;exact PySem.EqNone.eq_none_str (aS I q (by simp))
  |_=>exact absurd (show false=true from hs) T4
 |bl i=>
  cases rx
  cases y with
  |non=>cases ry;exact PySem.EqNone.eq_bool_none (aS I q (by simp))
  |bl j=>cases ry;exact eq_bool (aS I q v5)
  |str j=>obtain⟨t',rfl⟩:=ry;exact PySem.EqMixed.eq_bool_str (aS I q (by simp))
  |_=>exact absurd (show false=true from hs) T4
 |int i=>
  obtain⟨t,rfl⟩:=rx
  cases y with
  |non=>cases ry;exact PySem.EqNone.eq_int_none (aS I q (by simp))
  |int j=>obtain⟨t',rfl⟩:=ry;exact eq_int (aS I q tE)
  |str j=>obtain⟨t',rfl⟩:=ry;exact PySem.EqMixed.eq_int_str (aS I q (by simp))
  |_=>exact absurd (show false=true from hs) T4
 |str i=>
  obtain⟨t,rfl⟩:=rx
  cases y with
  |non=>cases ry;exact PySem.EqNone.eq_str_none (aS I q (by simp))
  |bl j=>cases ry;exact PySem.EqMixed.eq_str_bool (aS I q (by simp))
  |int j=>obtain⟨t',rfl⟩:=ry;exact PySem.EqMixed.eq_str_int (aS I q (by simp))
  |str j=>obtain⟨t',rfl⟩:=ry;exact eq_str (aS I q tF)
  |_=>exact absurd (show false=true from hs) T4
 |MW i=>
  obtain⟨t,rfl⟩:=rx
  cases y with
  |MW j=>obtain⟨t',rfl⟩:=ry;exact PySem.W.eq_bytes (aS I q tG)
  |_=>exact absurd (show false=true from hs) T4
 |_=>cases y<;>exact absurd (show false=true from hs) T4
def v7:jo X (compareOp .NotEq) GY:=by
 intro pins s σ H x y v u Q I rx ry h
 obtain⟨hs,q⟩:=h
 cases x with
 |non=>
  cases rx
  cases y with
  |non=>cases ry;exact PySem.EqNone.ne_none_none (aS I q (by simp))
  |bl j=>cases ry;exact PySem.EqNone.ne_none_bool (aS I q (by simp))
  |int j=>obtain⟨t',rfl⟩:=ry;exact PySem.EqNone.ne_none_int (aS I q (by simp))
  |str j=>obtain⟨t',rfl⟩:=ry;exact PySem.EqNone.ne_none_str (aS I q (by simp))
  |_=>exact absurd (show false=true from hs) T4
 |bl i=>
  cases rx
  cases y with
  |non=>cases ry;exact PySem.EqNone.ne_bool_none (aS I q (by simp))
  |bl j=>cases ry;exact ne_bool (aS I q (Uu not v5))
  |str j=>obtain⟨t',rfl⟩:=ry;exact PySem.EqMixed.ne_bool_str (aS I q (by simp))
  |_=>exact absurd (show false=true from hs) T4
 |int i=>
  obtain⟨t,rfl⟩:=rx
  cases y with
  |non=>cases ry;exact PySem.EqNone.ne_int_none (aS I q (by simp))
  |int j=>obtain⟨t',rfl⟩:=ry;exact ne_int (aS I q (Uu not tE))
  |str j=>obtain⟨t',rfl⟩:=ry;exact PySem.EqMixed.ne_int_str (aS I q (by simp))
  |_=>exact absurd (show false=true from hs) T4
 |str i=>
  obtain⟨t,rfl⟩:=rx
  cases y with
  |non=>cases ry;exact PySem.EqNone.ne_str_none (aS I q (by simp))
  |bl j=>cases ry;exact PySem.EqMixed.ne_str_bool (aS I q (by simp))
  |int j=>obtain⟨t',rfl⟩:=ry;exact PySem.EqMixed.ne_str_int (aS I q (by simp))
  |str j=>obtain⟨t',rfl⟩:=ry;exact ne_str (aS I q (Uu not tF))
  |_=>exact absurd (show false=true from hs) T4
 |MW i=>
  obtain⟨t,rfl⟩:=rx
  cases y with
  |MW j=>obtain⟨t',rfl⟩:=ry;exact PySem.W.ne_bytes (aS I q (Uu not tG))
  |_=>exact absurd (show false=true from hs) T4
 |_=>cases y<;>exact absurd (show false=true from hs) T4
def Ef:jo X (compareOp .Lt) (zb fun i j=>.bl (decide (i < j))):=B3 fun _ _ _ _ _ _ _ q=>lt_int q
def Eg:jo X (compareOp .Gt) (zb fun i j=>.bl (decide (j < i))):=B3 fun _ _ _ _ _ _ _ q=>gt_int q
def Eh:jo X (compareOp .GtE) (zb fun i j=>.bl (decide (j<=i))):=B3 fun _ _ _ _ _ _ _ q=>ge_int q
def uD:jo X (compareOp .In) (fun x y H Q=>∃i j,x = .str i/\y = .str j/\Q (.bl (!(Builtin.Str.occurrences j i 0 j.length 1).isEmpty)) H):=by
 intro pins s σ H x y v u Q I rx ry h
 obtain⟨i,j,rfl,rfl,q⟩:=h
 obtain⟨t,rfl⟩:=rx
 obtain⟨t',rfl⟩:=ry
 exact in_str (aS I q rfl)
def B9:jo X (compareOp .Is) (fun x y H Q=>y = .non/\Q (.bl (decide (x = .non))) H):=by
 intro pins s σ H x y v u Q I rx ry h
 obtain⟨rfl,q⟩:=h
 cases ry
 refine is_none_gen (aS I q ?_)
 cases x<;>first
  |(cases rx;rfl)
  |(obtain⟨t,rfl⟩:=rx;rfl)
def zd:jo X (compareOp .IsNot) (fun x y H Q=>y = .non/\Q (.bl (!decide (x = .non))) H):=by
 intro pins s σ H x y v u Q I rx ry h
 obtain⟨rfl,q⟩:=h
 cases ry
 refine isnot_none_gen (aS I q ?_)
 cases x<;>first
  |(cases rx;rfl)
  |(obtain⟨t,rfl⟩:=rx;rfl)
def aX(b:Expr){op:CmpOp}(h:op ≠ .In:=by decide)(h2:op ≠ .NotIn:=by decide):behindInMarks op b=false:=by
 have e1:(op == CmpOp.In)=false:=by cases op<;>first|rfl|exact absurd rfl h
 have e2:(op == CmpOp.NotIn)=false:=by cases op<;>first|rfl|exact absurd rfl h2
 cases b<;>simp[behindInMarks,e1,e2]
def ze{op:CmpOp}{r:R2}(ho:jo X (compareOp op) r)(ha:PE X a ta)(hb:PE X b tb)(hm:behindInMarks op b=false):PE X (.Compare a [op] [b] pos) (Ea r ta tb):=by
 intro pins s σ H Q I h
 exact wpAny_Compare1 (B2 ha hb I h fun v u s2 x y H2 I2 rx ry q=>ho pins s2 σ H2 x y v u Q I2 rx ry q) hm
def Ei(t:TE):TT:=fun σ H Q=>t σ H fun x H'=>∃k,x = .bl k/\Q k H'
def zf{op:CmpOp}{r:R2}(ho:jo X (compareOp op) r)(ha:PE X a ta)(hb:PE X b tb)(hm:behindInMarks op b=false):PT X (.Compare a [op] [b] pos) (Ei (Ea r ta tb)):=by
 intro pins s σ H Q I h
 refine wpAny_isTrue_Compare1 (Ho (ha pins s σ H _ I h) fun v s1 ⟨x,H1,I1,r1,q1⟩=>Ho (hb pins s1 σ H1 _ I1 q1) fun u s2 ⟨y,H2,I2,r2,q2⟩=>
  Ho (ho pins s2 σ H2 x y v u _ I2 r1 r2 q2) fun c s3 ⟨z,H3,I3,r3,k,e,q3⟩=>?_) hm
 subst e
 cases r3
 exact VR ⟨H3,I3,q3⟩
def kA:(sizeLine:Nat) < 2 ^ 63:=by rw[WJ];decide
def rX:jo X (binaryOp .Add) (fun x y H Q=>∃i j,x = .str i/\y = .str j/\i.length+j.length<=sizeLine/\Q (.str (i++j)) H):=by
 intro pins s σ H x y v u Q I rx ry h
 obtain⟨i,j,rfl,rfl,hz,q⟩:=h
 obtain⟨t,rfl⟩:=rx
 obtain⟨t',rfl⟩:=ry
 exact add_str (fun t' tk=>⟨.str (i++j),H,I.tok _,⟨_,rfl⟩,q⟩) hz
def cV{x:V}{us:Vv}(r:Vals [x] us):∃u,us=[u]/\RelV x u:=by
 cases r with
 |cons r1 r2=>cases r2;exact⟨_,rfl,r1⟩
def v8{x y:V}{us:Vv}(r:Vals [x,y] us):∃u w',us=[u,w']/\RelV x u/\RelV y w':=by
 cases r with
 |cons r1 r2=>
  cases r2 with
  |cons r3 r4=>cases r4;exact⟨_,_,rfl,r1,r3⟩
def v9:dB X (.builtin "abs") (fun xs H Q=>∃i,xs=[.int i]/\Q (.int (if i < 0 then -i else i)) H):=by
 intro pins s σ H xs us Q I r h
 obtain⟨i,rfl,q⟩:=h
 obtain⟨u,rfl,t,rfl⟩:=cV r
 exact call_abs_int fun u tk=>⟨.int (if i < 0 then -i else i),H,I.tok _,⟨_,rfl⟩,q⟩
def uE(hc:X.calm=true):dB X (.builtin "max") (fun xs H Q=>∃i j,xs=[.int i,.int j]/\Q (.int (if j > i then j else i)) H):=by
 intro pins s σ H xs us Q I r h
 obtain⟨i,j,rfl,q⟩:=h
 obtain⟨u,w',rfl,⟨t,rfl⟩,⟨t',rfl⟩⟩:=v8 r
 refine max_two_ints (I.ok.hd hc) fun h' tk k=>⟨_,H,I.kept k,?_,q⟩
 by_cases hj:j > i
 ·rw[if_pos hj,if_pos hj];exact⟨_,rfl⟩
 ·rw[if_neg hj,if_neg hj];exact⟨_,rfl⟩
def nP:dB X (.type "int") (fun xs H Q=>(∃i,xs=[.int i]/\Q (.int i) H)\/∃k,xs=[.bl k]/\Q (.int (if k then 1 else 0)) H):=by
 intro pins s σ H xs us Q I r h
 rcases h with⟨i,rfl,q⟩|⟨k,rfl,q⟩
 ·obtain⟨u,rfl,t,rfl⟩:=cV r
  exact call_int_int ⟨.int i,H,I,⟨_,rfl⟩,q⟩
 ·obtain⟨u,rfl,r1⟩:=cV r
  cases r1
  exact call_int_bool ⟨.int (if k then 1 else 0),H,I.tok _,⟨_,rfl⟩,q⟩
end
def RelO.some_of{v:V}{o:Option Value}(r:RelO (some v) o):∃u,o=some u/\RelV v u:=by
 cases o with
 |none=>exact(show False from r).elim
 |some u=>exact⟨u,rfl,r⟩
structure Room (k:Nat) (A:Around):Prop where
 hd:A.handled=none
 dp:A.depth+3 * k+5 < recursionLimit
 un:A.units+16 * k+200 < cLine
 gd:A.guards=some []
def Room.mono{j k:Nat}{A:Around}(r:Room k A)(h:j<=k):Room j A:=⟨r.hd,by have:=r.dp;omega,by have:=r.un;omega,r.gd⟩
theorem Room.deeper{k:Nat}{A:Around}(r:Room (k+1) A)(env:Env):Room k (A.deeper env):=
 ⟨r.hd,by have:=r.dp;show A.depth+1+3 * k+5 < _;omega,by have:=r.un;show A.units+3+16 * k+200 < _;omega,r.gd⟩
theorem Room.depth{k:Nat}{A:Around}(r:Room k A):A.depth < recursionLimit:=by have:=r.dp;omega
def Ej:TA:=fun _ H Q=>Q [] H
def AZ(ta:TE)(tr:TA):TA:=fun σ H Q=>ta σ H fun x H1=>tr σ H1 fun xs H2=>Q (x::xs) H2
section
variable {X:Cx} {e:Expr} {es:List Expr} {te:TE} {t:TA} {pos:Pos}
def B_:PA X [] Ej:=fun _ _ _ _ H Q I h=>Vb ⟨[],H,I,.nil,h⟩
def zg(ha:PE X e te)(hr:PA X es t)(hs:starEach (e::es) X.env=(false,eval e X.env)::starEach es X.env:=by rfl):PA X (e::es) (AZ te t):=by
 intro pos pins s σ H Q I h
 rw[hs]
 show wpAny _ _ (spliced ((false,eval e X.env)::backTo pos (starEach es X.env))) _ _ s
 refine UM (Ho (ha pins s σ H _ I h) fun u s1 ⟨x,H1,I1,r1,q1⟩=>?_)
 exact Ho (hr pos pins s1 σ H1 _ I1 q1) fun us s2 ⟨xs,H2,I2,r2,q2⟩=>⟨x::xs,H2,I2,.cons r1 r2,q2⟩
def FX(t:TA):TE:=fun σ H Q=>t σ H fun xs H1=>xs.length<=sizeLine/\∀p,H1 p=none->Q (.ref p) (upd H1 p (.tup xs))
def FY(t:TA):TE:=fun σ H Q=>t σ H fun xs H1=>xs.length<=sizeLine/\∀p,H1 p=none->Q (.ref p) (upd H1 p (.lst xs))
def Ca{x1}(h:PA X es t):PE X (.Tuple es x1 pos) (FX t):=by
 intro pins s σ H Q I hq
 refine wpAny_Tuple_spliced (Ho (h pos pins s σ H _ I hq) fun us s1 ⟨xs,H1,I1,r,z,q⟩=>⟨by rw[<-r.length];exact z,?_⟩)
 have hf:H1 s1.heap.objs.size=none:=I1.hok.fresh (Tq _)
 refine⟨.ref s1.heap.objs.size,upd H1 s1.heap.objs.size (.tup xs),I1.laid (t':=s1.toks) (fun b u e=>Td _ e) (Tq _) ?_,rfl,q _ hf⟩
 exact⟨z,us,r,⟨_,Tn _ rfl,rfl,rfl,_,rfl⟩⟩
def Cb(h:PA X es t):PE X (.List es pos) (FY t):=by
 intro pins s σ H Q I hq
 refine wpAny_List_spliced (Ho (h pos pins s σ H _ I hq) fun us s1 ⟨xs,H1,I1,r,z,q⟩=>⟨by rw[<-r.length];exact z,?_⟩)
 have hf:H1 s1.heap.objs.size=none:=I1.hok.fresh (Tq _)
 refine⟨.ref s1.heap.objs.size,upd H1 s1.heap.objs.size (.lst xs),I1.laid (t':=s1.toks) (fun b u e=>Td _ e) (Tq _) ?_,rfl,q _ hf⟩
 exact⟨z,us,0,r,Tn _ rfl⟩
end
abbrev Sp:=List V->Hp->VK->XK->Prop
abbrev yQ:=List Env->Hp->Shared->XK->Value->Shared->Prop
structure zh (P:Program) (w:World) (K:Vo) (mg:Vr) (base:Heap) (A:Around) (outer:List Env) (s:Shared) (H:Hp):Prop where
 frames:A.frames=some outer
 mod:Mod K mg base
 bs:∀b o,base.get? b=some o->s.heap.get? b=some o/\H b=none
 Nq:base.objs.size<=s.heap.objs.size
 K9:s.heap.FunFrames base outer
 N5:∀b∈frs outer,H b=none
 hok:Kq P w H s.heap
 bare:AllBare s.gens
def CE(outer:List Env)(P:Program)(w:World)(H:Hp)(s:Shared)(Q:VK)(u:Value)(s':Shared):Prop:=
 ∃v H',s'.os=s.os/\AllBare s'.gens/\Un (frs outer) [] H H' s.heap s'.heap/\Kq P w H' s'.heap/\RelV v u/\Q v H'
def CR(CX:yQ)(outer:List Env)(P:Program)(w:World)(H:Hp)(s:Shared)(Q:VK)(E:XK)(r:Result)(s':Shared):Prop:=
 match r with
 | .ok (.ret u)=>CE outer P w H s Q u s'
 | .ok _=>False
 | .error e=>CX outer H s E e s'
structure nq (P:Program) (w:World) (K:Vo) (mg:Vr) (base:Heap) (CX:yQ) (k:Nat) (f:Addr) (fd:FuncData) (ps:Vs) (sp:Sp):Prop where
 len:∀vs H Q E,sp vs H Q E->vs.length=ps.length
 run:∀(A:Around) (outer:List Env) (s:Shared) (H:Hp) (args:Args) (us:Vv) (vs:List V) (Q:VK) (E:XK),Room k A->zh P w K mg base A outer s H->BindsTo s fd args (ps.zip us)->Vals vs us->sp vs H Q E->
  codeAny (model P w) A (.call (.ref f) args) (CR CX outer P w H s Q E) s
section
variable {X:Cx} {pins:Va} {σ:St} {H:Hp} {s s':Shared}
def Inv.Qd(I:Inv X pins σ H s):zh X.prog X.w X.K X.mg X.base X.A X.stack s H:=
 ⟨I.ok.frames,I.ok.mod,I.bs,TR I.ok.Nq I.sz,I.stack,I.Mz,I.hok,I.bare⟩
def Inv.after{Q:VK}{u:Value}(I:Inv X pins σ H s)(h:CE X.stack X.prog X.w H s Q u s'):EP X pins σ Q u s':=by
 obtain⟨v,H',os,bare,un,hok,r,q⟩:=h
 obtain⟨hh,g,d,t,os'⟩:=s'
 obtain rfl:os'=s.os:=os
 exact⟨v,H',I.call (h':=hh) (g':=g) (d':=d) (t':=t) (ch:=[]) un hok bare (fun b z=>absurd z (by simp)),r,q⟩
end
def Ek(sp:Sp)(dvs:List V)(E:XK)(t:TA):TE:=fun σ H Q=>t σ H fun vs H1=>sp (vs++dvs) H1 Q E
def Binds(K:Vo)(fd:FuncData)(ps:Vs)(ds:Vv):Prop:=
 ∀(s:Shared) (us:Vv),K.In s.heap->(us++ds).length=ps.length->BindsTo s fd ⟨us,[]⟩ (ps.zip (us++ds))
def Binds.all{K:Vo}{fd:FuncData}{ps:Vs}(h:∀us:List Value,us.length=ps.length->bindArgs fd ⟨us,[]⟩=pure (ps.zip us)):Binds K fd ps []:=fun s us _ hl=>by
 rw[TY]at hl ⊢
 exact .of_eq (h us hl)
def rY(CX:yQ)(X:Cx)(E:XK):Prop:=∀(pins:Va) (σ:St) (H:Hp) (s:Shared) (e:Value) (s':Shared),Inv X pins σ H s->CX X.stack H s E e s'->X.xe e s'
section
variable {X:Cx} {CX:yQ} {k:Nat} {f C:Addr} {fd:FuncData} {ps:Vs} {sp:Sp} {dvs:List V} {ds:Vv} {E:XK} {x m:Str} {p pos apos:Pos} {e o:Expr} {es:List Expr} {ta:TE} {t:TA}
def Cc{pins:Va}{σ:St}{H:Hp}{s:Shared}{Q:VK}{us:Vv}{vs:List V}(F:nq X.prog X.w X.K X.mg X.base CX k f fd ps sp)(hr:Room k X.A)(hb:Binds X.K fd ps ds)(hd:Vals dvs ds)(hx:rY CX X E)
  (I:Inv X pins σ H s) (r:Vals vs us) (h:sp (vs++dvs) H Q E):wpAny (model X.prog X.w) X.A (call (.ref f) us) (EP X pins σ Q) X.xe s:=by
 have r2:Vals (vs++dvs) (us++ds):=r.append hd
 have hl:(us++ds).length=ps.length:=by rw[<-r2.length];exact F.len _ _ _ _ h
 refine wpAny_call (Xn (F.run X.A X.stack s H ⟨us,[]⟩ (us++ds) (vs++dvs) Q E hr I.Qd (hb s us I.MY hl) r2 h) fun r s' hq=>?_)
 cases r with
 |error e=>exact hx pins σ H s e s' I hq
 |ok fl=>
  cases fl with
  |ret u=>exact I.after hq
  |next=>exact False.elim hq
  |brk=>exact False.elim hq
  |cont=>exact False.elim hq
def tH(F:nq X.prog X.w X.K X.mg X.base CX k f fd ps sp)(hr:Room k X.A)(hg:Gl X x)(hm:X.mg x=some (.ref f))(hk:PySem.W.keepIn X.K (.ref f)=true)(hb:Binds X.K fd ps ds)(hd:Vals dvs ds)(hx:rY CX X E)
  (ha:PA X (e::es) t) (hdb:(x == ("__debug__":Str))=false:=by decide) (he:starEach (e::es) X.env=(false,eval e X.env)::starEach es X.env:=by rfl) (hpl:(backTo pos (starEach es X.env)).any (·.1)=false:=by rfl) :
  PE X (.Call (.Name x p) (e::es) [] pos) (Ek sp dvs E t):=by
 intro pins s σ H Q I h
 refine U3 (tD I hg hm ?_ hdb)
 refine PySem.W.callWith_K (h₀:=X.base) I.ok.mod.P7 hk (Ho (ha pos pins s σ H _ I h) fun us s1 ⟨vs,H1,I1,r,q⟩=>⟨I1.MY,?_⟩) he hpl
 exact Cc F hr hb hd hx I1 r q
end
structure dS (N P:Vs) (sc:Scope):Prop where
 kind:sc.kind = .function
 co:sc.isCoroutine=false
 gen:sc.isGenerator=false
 nd:N.Nodup
 pre:N.take P.length=P
 par:∀x∈P,sc.names.lookup x=some .local\/sc.names.lookup x=some .cell
 N9:∀y∈sc.names,y.2 ≠ .free
theorem nQ{kindOf:Str->Option NameKind}{x:Str}:∀{binds:List (Str×Value)} {m:Vr},(∀v,(x,v) ∉ binds)->bindL kindOf binds m x=m x
 |[],_,_=>rfl
 |(n,v)::r,m,h=>by
  unfold bindL
  rw[nQ fun w hw=>h w (U5 _ hw)]
  split
  ·have:x≠n:=by rintro rfl;exact h v U1
   simp[this]
  ·rfl
theorem nR{kindOf:Str->Option NameKind}{x:Str}:∀{binds:List (Str×Value)} {m:Vr},(∀v,(x,v) ∉ binds)->bindC kindOf binds m x=m x
 |[],_,_=>rfl
 |(n,v)::r,m,h=>by
  unfold bindC
  rw[nR fun w hw=>h w (U5 _ hw)]
  split
  ·rfl
  ·have:x≠n:=by rintro rfl;exact h v U1
   simp[this]
theorem nS{kindOf:Str->Option NameKind}{x:Str}{v:Value}:∀{P:Vs} {vs:Vv} {i:Nat} {m:Vr},P.Nodup->P[i]?=some x->vs[i]?=some v->kindOf x=some .local->
  bindL kindOf (P.zip vs) m x=some v
 |[],_,_,_,_,h,_,_=>by simp at h
 |_::_,[],_,_,_,_,h,_=>by simp at h
 |p::P,w::vs,0,m,nd,h1,h2,hk=>by
  simp at h1 h2;subst h1;subst h2
  show bindL kindOf ((p,w)::P.zip vs) m p=_
  unfold bindL
  rw[nQ fun v hv=>(Uw.mp nd).1 (V9 hv).1,if_pos hk]
  simp
 |p::P,w::vs,i+1,m,nd,h1,h2,hk=>by
  show bindL kindOf ((p,w)::P.zip vs) m x=_
  unfold bindL
  exact nS (i:=i) (Uw.mp nd).2 (by simpa using h1) (by simpa using h2) hk
theorem nU{kindOf:Str->Option NameKind}{x:Str}{v:Value}:∀{P:Vs} {vs:Vv} {i:Nat} {m:Vr},P.Nodup->P[i]?=some x->vs[i]?=some v->kindOf x≠some .local->
  bindC kindOf (P.zip vs) m x=some v
 |[],_,_,_,_,h,_,_=>by simp at h
 |_::_,[],_,_,_,_,h,_=>by simp at h
 |p::P,w::vs,0,m,nd,h1,h2,hk=>by
  simp at h1 h2;subst h1;subst h2
  show bindC kindOf ((p,w)::P.zip vs) m p=_
  unfold bindC
  rw[nR fun v hv=>(Uw.mp nd).1 (V9 hv).1,if_neg hk]
  simp
 |p::P,w::vs,i+1,m,nd,h1,h2,hk=>by
  show bindC kindOf ((p,w)::P.zip vs) m x=_
  unfold bindC
  exact nU (i:=i) (Uw.mp nd).2 (by simpa using h1) (by simpa using h2) hk
noncomputable def start(N:Vs)(vs:List V):St:=vs.map some++List.replicate (N.length - vs.length) none
noncomputable def qy(CX:yQ)(P:Program)(w:World)(K:Vo)(mg:Vr)(base:Heap)(N:Vs)(qual:Str)(scope:Scope)(f:Addr)(cd:Value)(A:Around)(outer:List Env)(s:Shared)(H:Hp)(E:XK):Cx where
 prog:=P
 w:=w
 K:=K
 mg:=mg
 base:=base
 A:=A.deeper (envOfC qual scope s.heap.objs.size f cd)
 N:=N
 s₀:=s
 H₀:=H
 env:=envOfC qual scope s.heap.objs.size f cd
 outer:=outer
 stack:=envOfC qual scope s.heap.objs.size f cd::outer
 ex:=[]
 calm:=true
 fn:=fun _=>true
 pn:=[]
 xe:=fun e s'=>wpAny (model P w) (A.deeper (envOfC qual scope s.heap.objs.size f cd)) (leaving (envOfC qual scope s.heap.objs.size f cd) e) (fun _ s''=>CX outer H s E e s'') (fun e' s''=>CX outer H s E e' s'') s'
def qz{sc:Scope}{n:Nat}{x:Str}(h:sc.names.lookup x=some .cell):∃c,(cellsFrom n sc.names []).lookup x=some c:=by
 have q:=PySem.W.cellsFrom_some sc.names n [] (.inl h)
 exact Option.isSome_iff_exists.mp q
def uF{CX:yQ}{P:Program}{w:World}{K:Vo}{mg:Vr}{base:Heap}{N ps:Vs}{qual:Str}{scope:Scope}{f:Addr}{cd:Value}{A:Around}{outer:List Env}{s s1:Shared}{H:Hp}{E:XK}{us:Vv}{vs:List V}
  (S:dS N ps scope) (hd:A.handled=none) (e0:zh P w K mg base A outer s H) (hl:vs.length=ps.length) (r:Vals vs us)
  (x:InCallC s s.heap.objs.size (bindL (envOfC qual scope s.heap.objs.size f cd).kindOf (ps.zip us) fun _=>none) (cellsFrom (s.heap.objs.size+1) scope.names []) (bindC (envOfC qual scope s.heap.objs.size f cd).kindOf (ps.zip us) fun _=>none) s1) :
  Inv (qy CX P w K mg base N qual scope f cd A outer s H E) [] (start N vs) H s1:=by
 have hpl:ps.length<=N.length:=by have:=Uu List.length S.pre;rw[VE]at this;omega
 obtain⟨h1,tk,rfl,hk⟩:=x.done
 have OQ:∀b:Addr,b ∉ (qy CX P w K mg base N qual scope f cd A outer s H E).ex:=fun b z=>absurd (show b∈([]:List Addr)from z) (by simp)
 refine⟨⟨e0.mod,S.kind,rfl,rfl,Tq _,fun y z c h1 h2=>?_,fun y hy=>?_,fun y c _ h=>?_,fun _=>hd,Around.frames_deeper e0.frames,.inr ⟨rfl,rfl⟩,fun b z=>absurd z (OQ b),e0.bs,e0.Nq,fun b _ _=>OQ b,fun b z=>absurd z (OQ b),e0.K9,e0.N5⟩,
  rfl,e0.bare,Un.kept hk,⟨_,x.toInCall.ns,fun i y v h1 h2 h3=>?_⟩,fun y c h=>⟨_,x.cell y c h⟩,e0.hok.fresh (Tq _),fun y c h=>?_,fun p hp=>absurd (show p∈([]:Va)from hp) (by simp),e0.hok.kept hk,?_⟩
 ·exact name_of_addr x.apart (VA h1) (VA h2)
 ·have hy:scope.names.lookup y=some .cell\/scope.names.lookup y=some .free:=hy
  rcases hy with hy|hy
  ·exact qz hy
  ·exact absurd rfl (S.N9 _ (VA hy))
 ·exact Vj (x.above y c (VA h))
 ·have hi:i < vs.length:=by
   unfold start at h2
   by_cases hi:i < vs.length
   ·exact hi
   ·rw[T5 (by simpa using hi)]at h2
    rw[Vm]at h2
    split at h2<;>cases h2
  have ha:vs[i]?=some v:=by
   unfold start at h2
   rw[TX (by simpa using hi),Tv]at h2
   cases e:vs[i]? with
   |none=>rw[e]at h2;cases h2
   |some a=>rw[e]at h2;cases h2;rfl
  obtain⟨u,hu,rv⟩:=r.get ha
  have hp:ps[i]?=some y:=by
   rw[<-S.pre,List.getElem?_take_of_lt (by omega)];exact h1
  have Re:ps.Nodup:=by rw[<-S.pre];exact S.nd.sublist (WT _ _)
  refine⟨u,rv,?_⟩
  rcases S.par y (T9 hp)with k|k
  ·exact .inl ⟨k,nS Re hp hu k⟩
  ·obtain⟨c,e⟩:=qz (n:=s.heap.objs.size+1) k
   refine .inr ⟨.inl k,c,e,?_⟩
   have q:=x.cell y c e
   rw[nU Re hp hu (by show scope.names.lookup y≠_;rw[k];decide)]at q
   exact q
 ·exact e0.hok.fresh (Vj (x.above y c (VA h)))
 ·unfold start
  show _=N.length
  rw[Te,Ti,UZ]
  omega
def A0{CX:yQ}{P:Program}{w:World}{K:Vo}{mg:Vr}{base:Heap}{k:Nat}{f:Addr}{name qual:Str}{params:Arguments}{body:List Stmt}{scope:Scope}{dV kV doc pm cdv ct oc:Value}{an od:Option Addr}
  {osl:Array (Option Value)} {N ps:Vs} {sp:Sp} (lk:K.lookup f=some ⟨oc,od,.func (PySem.W.fnOf name qual params body scope dV kV doc pm an cdv ct),osl⟩) (hcd:PySem.W.codeIn K cdv qual=true) (S:dS N ps scope)
  (len:∀vs H Q E,sp vs H Q E->vs.length=ps.length)
  (hbody:∀(A:Around) (outer:List Env) (s:Shared) (H:Hp) (vs:List V) (Q:VK) (E:XK),Room k (A.deeper (envOfC qual scope s.heap.objs.size f cdv))->sp vs H Q E->
   ∃t,Ma (qy CX P w K mg base N qual scope f cdv A outer s H E) body t/\t { nx:=fun _ H'=>Q .non H',rt:=Q } (start N vs) H) :
  nq P w K mg base CX (k+1) f (PySem.W.fnOf name qual params body scope dV kV doc pm an cdv ct) ps sp:=by
 refine⟨len,fun A outer s H args us vs Q E hr e0 hb r Nm=>?_⟩
 have hl:=len _ _ _ _ Nm
 have KX:K.In s.heap:=e0.mod.P7.keeps fun b o e=>(e0.bs b o e).1
 have lim:s.heap.NoLimit:=e0.mod.nolimit.keeps fun b o e=>(e0.bs b o e).1
 have hkind:∀y∈ps.zip us,scope.names.lookup y.1=some .local\/(scope.names.lookup y.1=some .cell/\((cellsFrom (s.heap.objs.size+1) scope.names []).lookup y.1).isSome=true):=fun⟨n,v⟩ hy=>by
  rcases S.par n (V9 hy).1 with q|q
  ·exact .inl q
  ·exact .inr ⟨q,PySem.W.cellsFrom_some _ _ _ (.inl q)⟩
 refine codeAny_call_function hr.depth (KX _ _ lk) rfl S.co S.gen rfl (PySem.W.codeRec_of KX hcd) (hb _ _ _ _ ?_)
 refine wpAny_newFunctionEnv_cells S.kind hkind fun env he s1 x=>?_
 subst he
 refine⟨lim.keeps x.toInCall.keep,codeAny_func ?_⟩
 obtain⟨t,ht,hq⟩:=hbody A outer s H vs Q E (hr.deeper _) Nm
 have I:Inv (qy CX P w K mg base N qual scope f cdv A outer s H E) [] (start N vs) H s1:=uF S hr.hd e0 hl r x
 refine V5 (ht [] s1 (start N vs) H _ I hq) (fun fl s' hs=>?_) fun e s' hs=>hs
 have fin:∀{σ':St} {H':Hp} {v:V} {u:Value},Inv (qy CX P w K mg base N qual scope f cdv A outer s H E) [] σ' H' s'->RelV v u->Q v H'->CE outer P w H s Q u s':=
  fun{σ' H' v u} J rv q=>⟨v,H',J.os,J.bare,J.base,J.hok,rv,q⟩
 cases fl with
 |ret u=>
  obtain⟨v,σ',H',J,rv,q⟩:=hs
  exact fin J rv q
 |next=>
  obtain⟨σ',H',J,q⟩:=hs
  exact fin (v:=V.non) (u:=Value.none) J rfl q
 |brk=>
  obtain⟨_,_,_,q⟩:=hs
  exact False.elim q
 |cont=>
  obtain⟨_,_,_,q⟩:=hs
  exact False.elim q
section
variable {X:Cx} {x:Str} {p pos:Pos} {e:Expr} {es:List Expr} {t:TA} {id T:String} {r:List V->Hp->VK->Prop}
def GK(r:List V->Hp->VK->Prop)(t:TA):TE:=fun σ H Q=>t σ H fun vs H1=>r vs H1 Q
def v_(hc:dB X (.builtin id) r)(hg:Gl X x)(hm:X.mg x=none)(hv:bootBuiltins x=some (.builtin id))(ha:PA X (e::es) t)(hn:x ≠ "__name__":=by decide)(hdb:(x == ("__debug__":Str))=false:=by decide)
  (he:starEach (e::es) X.env=(false,eval e X.env)::starEach es X.env:=by rfl) (hpl:(backTo pos (starEach es X.env)).any (·.1)=false:=by rfl):PE X (.Call (.Name x p) (e::es) [] pos) (GK r t):=by
 intro pins s σ H Q I h
 refine U3 (dH I hg hm hv ?_ hn hdb)
 exact W8 (Ho (ha pos pins s σ H _ I h) fun us s1 ⟨vs,H1,I1,r1,q1⟩=>hc pins s1 σ H1 vs us Q I1 r1 q1) he hpl
def uG(hc:dB X (.type T) r)(hg:Gl X x)(hm:X.mg x=none)(hv:bootBuiltins x=some (.type T))(ha:PA X (e::es) t)(hn:x ≠ "__name__":=by decide)(hdb:(x == ("__debug__":Str))=false:=by decide)
  (he:starEach (e::es) X.env=(false,eval e X.env)::starEach es X.env:=by rfl) (hpl:(backTo pos (starEach es X.env)).any (·.1)=false:=by rfl):PE X (.Call (.Name x p) (e::es) [] pos) (GK r t):=by
 intro pins s σ H Q I h
 refine U3 (dH I hg hm hv ?_ hn hdb)
 exact Uk (Ho (ha pos pins s σ H _ I h) fun us s1 ⟨vs,H1,I1,r1,q1⟩=>hc pins s1 σ H1 vs us Q I1 r1 q1) he hpl
end
end L2
namespace HT
open PySem PyProof.Rows
section
open PySem.SeqAt
open PySem.AutoSeq1 (wpAny_loadPart')
open PySem.MeetsSeq PySem.MeetsSeq2 PySem.MeetsSeq3
end
section
variable {prog:Program} {w:World} {A:Around} {E:Vq} {s:Shared}
def zi{t b:Addr}{vs ws:Vv}{Q:Vq}(ht:IsTup s.heap t vs.toArray)(hb:IsTup s.heap b ws.toArray)(hv:vs≠[])
  (h1:ws=[]->Q (.ref t) s) (h2:ws≠[]->Q (.ref s.heap.objs.size) { s with heap:=s.heap.push { cls:=.type "tuple",data:=.seq (vs++ws).toArray } })
  (hsz:vs.length+ws.length<=sizeLine):wpAny (model prog w) A (binaryOp .Add (.ref t) (.ref b)) Q E s:=by
 obtain⟨⟨cls,dd,data,sl⟩,ho,hc,n,hd⟩:=id ht
 obtain⟨⟨Qe,dd2,data2,sl2⟩,ho2,hc2,n2,hd2⟩:=id hb
 simp only at hc hd hc2 hd2
 subst hc hd hc2 hd2
 have e:vs.toArray++ws.toArray=(vs++ws).toArray:=by simp
 by_cases hw:ws=[]
 ·exact concat_meets ⟨_,ho,rfl⟩ ⟨_,ho2,rfl⟩ noFill_tuple_add seq_tuple_add WU WK (Wu _ _)
   (tuple_addW1 t b vs.toArray ws.toArray n n2 dd dd2 sl sl2 (by simpa using hv) (by simp[hw])) ⟨ho,ho2,h1 hw⟩
 ·refine concat_meets ⟨_,ho,rfl⟩ ⟨_,ho2,rfl⟩ noFill_tuple_add seq_tuple_add WU WK (Wu _ _)
   (tuple_addW2 t b vs.toArray ws.toArray n n2 dd dd2 sl sl2 (by simpa using hv) (by simpa using hw) (by rw[Tr,Tr];exact hsz)) ⟨ho,ho2,?_⟩
  rw[e]
  exact h2 hw
noncomputable def H_(n d:Nat):Option Int->Nat
 |none=>d
 |some v=>if v < 0 then (v+(n:Int)).toNat else min v.toNat n
def jR(n d:Nat):H_ n d none=d:=rfl
def oK(n d k:Nat):H_ n d (some (k:Int))=min k n:=by
 show(if (k:Int) < 0 then ((k:Int)+(n:Int)).toNat else min (k:Int).toNat n)=min k n
 rw[if_neg (by omega),Xz]
def Cd(n d:Nat)(hd:d<=n)(o:Option Int):H_ n d o<=n:=by
 cases o with
 |none=>exact hd
 |some v=>
  show(if v < 0 then (v+(n:Int)).toNat else min v.toNat n)<=n
  by_cases hv:v < 0
  ·rw[if_pos hv];omega
  ·rw[if_neg hv];exact XI _ _
def tI(v:Int)(n d:Nat):(if v < 0 then max (v+(n:Int)) 0 else min v (n:Int))=((H_ n d (some v):Nat):Int):=by
 show(if v < 0 then max (v+(n:Int)) 0 else min v (n:Int))=(((if v < 0 then (v+(n:Int)).toNat else min v.toNat n):Nat):Int)
 by_cases hv:v < 0
 ·simp only[if_pos hv];omega
 ·simp only[if_neg hv];omega
def rZ(lo hi:Option Int)(n:Nat):Builtin.Slice.sliceAdjust lo hi 1 (n:Int)=(((H_ n 0 lo:Nat):Int),((H_ n n hi:Nat):Int)):=by
 have h1:¬((1:Int) < 0):=by omega
 unfold Builtin.Slice.sliceAdjust
 simp only[h1,Ub]
 refine Prod.ext ?_ ?_
 ·cases lo with
  |none=>rfl
  |some v=>exact tI v n 0
 ·cases hi with
  |none=>rfl
  |some v=>exact tI v n n
def r6(i j:Nat):Builtin.Slice.slicePlaces (i:Int) (j:Int) 1=j - i:=by
 unfold Builtin.Slice.slicePlaces
 have h1:(1:Int) > 0:=by omega
 simp only[h1,Ua,Int.ediv_one]
 split<;>omega
def ma{v:Value}{o:Option Int}{Q:Option Int->Shared->Prop}(p:IsPart v o)(h:Q o s):wpAny (model prog w) A (Builtin.Slice.slicePartIndex v) Q E s:=by
 cases p with
 |none=>exact slicePart_none h
 |int i t=>exact slicePart_int h
def fz{sl:Addr}{vl vu:Value}{lo hi:Option Int}{n:Nat}{Q:Int×Int×Nat->Shared->Prop}(hs:s.heap.IsSliceOf sl vl vu .none)(pl:IsPart vl lo)(pu:IsPart vu hi)
  (h:Q (((H_ n 0 lo:Nat):Int),1,H_ n n hi - H_ n 0 lo) s):wpAny (model prog w) A (Builtin.Slice.sliceApplied (.ref sl) (pure (n:Int))) Q E s:=by
 obtain⟨os,hos,hcs,hds⟩:=id hs
 unfold Builtin.Slice.sliceApplied Builtin.Slice.sliceFields
 refine Tc (Tc (Us hos hds (x:=vl) rfl (Tc (Us hos hds (x:=vu) rfl (Tc (Us hos hds (x:=.none) rfl (Tf ?_)))))))
 refine Tc (slicePart_none ?_)
 show wpAny _ _ (if ((1:Int) == 0)=true then _ else _) _ _ s
 rw[if_neg (by decide)]
 refine Tc (ma pl (Tc (ma pu (Tc (Tf ?_)))))
 show wpAny _ _ (match Builtin.Slice.sliceAdjust lo hi 1 (n:Int)with|(lo,hi)=>pure (lo,(1:Int),Builtin.Slice.slicePlaces lo hi 1)) _ _ s
 rw[rZ lo hi n]
 show wpAny _ _ (pure (((H_ n 0 lo:Nat):Int),(1:Int),Builtin.Slice.slicePlaces ((H_ n 0 lo:Nat):Int) ((H_ n n hi:Nat):Int) 1)) _ _ s
 rw[r6]
 exact Tf h
def wa(xs:Vw)(i k:Nat):((List.range k).filterMap fun(m:Nat)=>xs[((i:Int)+(m:Int) * 1).toNat]?).toArray=((xs.toList.drop i).take k).toArray:=by
 have e:(fun(m:Nat)=>xs[((i:Int)+(m:Int) * 1).toNat]?)=fun m=>xs[i+m]?:=by
  funext m
  have:((i:Int)+(m:Int) * 1).toNat=i+m:=by omega
  rw[this]
 rw[e]
 have:=pick_run xs i k
 rw[List.filterMap_map]at this
 have e2:((fun x=>xs[x]?) ∘ fun x=>i+x)=fun m=>xs[i+m]?:=rfl
 rw[e2]at this
 rw[this]
def jS{t sl:Addr}{items:Vw}{vl vu:Value}{lo hi:Option Int}{Q:Vq}(ht:IsTup s.heap t items)(hs:s.heap.IsSliceOf sl vl vu .none)(pl:IsPart vl lo)(pu:IsPart vu hi)
  (hw:¬(H_ items.size 0 lo=0/\H_ items.size items.size hi=items.size))
  (h:Q (.ref s.heap.objs.size) { s with heap:=s.heap.push { cls:=.type "tuple",data:=.seq ((items.toList.drop (H_ items.size 0 lo)).take (H_ items.size items.size hi - H_ items.size 0 lo)).toArray } })
  (hsz:items.size<=sizeLine):wpAny (model prog w) A (getItem (.ref t) (.ref sl)) Q E s:=by
 have MA:sizeOk (.seq ((items.toList.drop (H_ items.size 0 lo)).take (H_ items.size items.size hi - H_ items.size 0 lo)).toArray):=by
  show((items.toList.drop (H_ items.size 0 lo)).take (H_ items.size items.size hi - H_ items.size 0 lo)).toArray.size<=sizeLine
  rw[Tr,VE,Vh,UH]
  omega
 have hj:H_ items.size items.size hi<=items.size:=Cd _ _ (Tq _) hi
 obtain⟨os,hos,hcs,hds⟩:=id hs
 have Qf:s.TypeIs (.ref sl) "slice":=⟨os,hos,hcs⟩
 unfold getItem
 try with_reducible refine US ?_
 first|refine Tc (Tf ?_)|skip
 refine Tc (wpAny_sequenceKey ht.typeIs (by decide) ?_)
 refine Tc (Ui (name:=Str.ofString "__getitem__") ht.typeIs UG
  (Uv UG ht.typeIs entry_tuple_getitem ?_ (args_tuple_getitem _ _)))
 show wpAny _ _ (Builtin.Tuple.tupleItemsOf (.ref t) >>= _) _ _ s
 refine Tc (tupleItemsOf_ ht ?_)
 refine Tc (V6 Qf ?_)
 rw[if_pos (by decide)]
 refine Tc (fz hs pl pu ?_)
 have hno:¬((((H_ items.size 0 lo:Nat):Int) == 0&&(1:Int) == 1&&(H_ items.size items.size hi - H_ items.size 0 lo) == items.size)=true):=by
  intro q
  rw[Wn,Wn]at q
  have q1:((H_ items.size 0 lo:Nat):Int)=0:=eq_of_beq q.1.1
  have q2:H_ items.size items.size hi - H_ items.size 0 lo=items.size:=eq_of_beq q.2
  exact hw ⟨by omega,by omega⟩
 show wpAny _ _ (if (((H_ items.size 0 lo:Nat):Int) == 0&&(1:Int) == 1&&(H_ items.size items.size hi - H_ items.size 0 lo) == items.size)=true then _ else _) _ _ s
 rw[if_neg hno,wa]
 first
  |exact Tc (m:=Builtin.Tuple.tupleExact _) (Ud (Tf ⟨_,rfl,Tf h⟩) MA)
  |exact Tc (m:=Builtin.Tuple.tupleExact _) (Ud (Tc (Tf (Tf ⟨_,rfl,Tf h⟩))) MA)
  |exact Tc (Tc (m:=Builtin.Tuple.tupleExact _) (Ud (Tf (Tf ⟨_,rfl,Tf h⟩)) MA))
  |exact Tc (Tc (m:=Builtin.Tuple.tupleExact _) (Ud (Tf ⟨_,rfl,Tf h⟩) MA))
end
end HT
namespace L2
open PySem PySem.Spec PyProof.Rows
abbrev TO:=St->Hp->(Option Int->Hp->Prop)->Prop
def PO(X:Cx)(e:Option Expr)(t:TO):Prop:=
 ∀(pins:Va) (s:Shared) (σ:St) (H:Hp) (Q:Option Int->Hp->Prop),Inv X pins σ H s->t σ H Q->
  wpAny (model X.prog X.w) X.A (evalPart e X.env) (fun u s'=>∃o H',Inv X pins σ H' s'/\IsPart u o/\Q o H') X.xe s
noncomputable def zj:TO:=fun _ H Q=>Q none H
noncomputable def El(t:TE):TO:=fun σ H Q=>t σ H fun x H1=>∃i,x = .int i/\Q (some i) H1
def jp{ns:Vu}:∀{us:Vv},Vals (ns.map V.int) us->IntsAre us ns:=by
 induction ns with
 |nil=>intro us r;rw[TZ]at r;cases r;exact .nil
 |cons n ns ih=>
  intro us r
  rw[TQ]at r
  cases r with
  |cons r1 r2=>
   obtain⟨t,e⟩:=r1
   subst e
   exact .cons n t (ih r2)
section
variable {X:Cx} {e:Expr} {te:TE} {lo hi:Option Expr} {tl th:TO} {pos p2:Pos}
def zk:PO X none zj:=by
 intro pins s σ H Q I h
 rw[evalPart_none]
 exact Tf ⟨none,H,I,.none,h⟩
def zm(h:PE X e te):PO X (some e) (El te):=by
 intro pins s σ H Q I hw
 rw[evalPart_some]
 refine Ho (h pins s σ H _ I hw) fun u s1 ⟨x,H1,I1,r1,q1⟩=>?_
 obtain⟨i,rfl,q⟩:=q1
 obtain⟨t,rfl⟩:=r1
 exact⟨some i,H1,I1,.int i t,q⟩
def DC(X:Cx)(r:V->Option Int->Option Int->Hp->VK->Prop):Prop:=
 ∀(pins:Va) (s:Shared) (σ:St) (H:Hp) (x:V) (v vl vu:Value) (lo hi:Option Int) (sl:Addr) (Q:VK),Inv X pins σ H s->RelV x v->s.heap.IsSliceOf sl vl vu .none->IsPart vl lo->IsPart vu hi->r x lo hi H Q->
  ∃T id,typeLookup (.type T) "__getitem__" = pure (some (.builtin id))/\s.TypeIs v T/\wpAny (model X.prog X.w) X.A (getItem v (.ref sl)) (EP X pins σ Q) X.xe s
def GZ(r:V->Option Int->Option Int->Hp->VK->Prop)(te:TE)(tl th:TO):TE:=fun σ H Q=>te σ H fun x H1=>tl σ H1 fun l H2=>th σ H2 fun u H3=>r x l u H3 Q
def wb{r:V->Option Int->Option Int->Hp->VK->Prop}(hr:DC X r)(he:PE X e te)(hl:PO X lo tl)(hu:PO X hi th):PE X (.Subscript e (.Slice lo hi none p2) pos) (GZ r te tl th):=by
 intro pins s σ H Q I h
 refine Subscript_ (Ho (he pins s σ H _ I h) fun v s1 ⟨x,H1,I1,r1,q1⟩=>?_)
 refine wpAny_Slice (Ho (hl pins s1 σ H1 _ I1 q1) fun vl s2 ⟨l,H2,I2,pl,q2⟩=>Ho (hu pins s2 σ H2 _ I2 q2) fun vu s3 ⟨u,H3,I3,pu,q3⟩=>?_)
 rw[evalPart_none]
 refine Tf ?_
 have I4:Inv X pins σ H3 { s3 with heap:=s3.heap.push { cls:=.type "slice",data:=.fields #[vl,vu,.none] } }:=I3.kept (t':=s3.toks) fun b ob q=>Td _ q
 obtain⟨T,id,hT,ht,hg⟩:=hr pins { s3 with heap:=s3.heap.push { cls:=.type "slice",data:=.fields #[vl,vu,.none] } } σ H3 x v vl vu l u s3.heap.objs.size Q I4 r1 (Heap.IsSliceOf.new ..) pl pu q3
 show wpAny (model X.prog X.w) X.A (subscriptTail e (.Slice lo hi none p2) v (.ref s3.heap.objs.size)) (EP X pins σ Q) X.xe { s3 with heap:=s3.heap.push { cls:=.type "slice",data:=.fields #[vl,vu,.none] } }
 exact tail_any (ops:=[.ref s3.heap.objs.size,v]) ht hT hg (by with_unfolding_all rfl)
noncomputable def md(xs:List V)(lo hi:Option Int):List V:=(xs.drop (HT.H_ xs.length 0 lo)).take (HT.H_ xs.length xs.length hi - HT.H_ xs.length 0 lo)
def lq(xs:List V)(lo hi:Option Int):(md xs lo hi).length<=xs.length:=by
 unfold md
 rw[VE,Vh]
 omega
noncomputable def FZ(K:Vo):V->Option Int->Option Int->Hp->VK->Prop:=fun x lo hi H Q=>∃a xs,x = .ref a/\SqT K H a xs/\
 ¬(HT.H_ xs.length 0 lo=0/\HT.H_ xs.length xs.length hi=xs.length)/\∀p,H p=none->Q (.ref p) (upd H p (.tup (md xs lo hi)))
def Ce:DC X (FZ X.K):=by
 intro pins s σ H x v vl vu lo hi sl Q I rx hs pl pu h
 obtain⟨a,xs,rfl,hx,hw,q⟩:=h
 cases rx
 obtain⟨its,r,ht,hz⟩:=I.tuple hx
 have hlen:its.toArray.size=xs.length:=by rw[Tr];exact r.length.symm
 refine⟨"tuple",_,UG.lookup,ht.typeIs,?_⟩
 refine HT.jS ht hs pl pu (by rw[hlen];exact hw) ?_ (by rw[hlen];exact hz)
 rw[hlen]
 refine⟨.ref s.heap.objs.size,_,I.laid (t':=s.toks) (o:=.tup (md xs lo hi)) (fun b ob q=>Td _ q) (Tq _) ?_,rfl,q _ (I.hok.fresh (Tq _))⟩
 exact⟨TR (lq xs lo hi) hz,_,(r.drop (HT.H_ xs.length 0 lo)).take (HT.H_ xs.length xs.length hi - HT.H_ xs.length 0 lo),IA.new _ _⟩
def Em(K:Vo):R2:=fun x y H Q=>∃a b xs ys,x = .ref a/\y = .ref b/\SqT K H a xs/\SqT K H b ys/\xs≠[]/\xs.length+ys.length<=sizeLine/\
 (ys=[]->Q (.ref a) H)/\(ys≠[]->∀p,H p=none->Q (.ref p) (upd H p (.tup (xs++ys))))
def Vals.LD{xs:List V}{us:Vv}(r:Vals xs us):us=[]↔xs=[]:=by
 cases r with
 |nil=>simp
 |cons _ _=>simp
def zn:jo X (binaryOp .Add) (Em X.K):=by
 intro pins s σ H x y v u Q I rx ry h
 obtain⟨a,b,xs,ys,rfl,rfl,ha,hb,hx,hz,q1,q2⟩:=h
 cases rx
 cases ry
 obtain⟨its,r1,p1,_⟩:=I.tuple ha
 obtain⟨its2,r2,p2,_⟩:=I.tuple hb
 refine HT.zi p1 p2 (fun z=>hx (r1.LD.mp z)) (fun z=>⟨.ref a,H,I,rfl,q1 (r2.LD.mp z)⟩) (fun z=>?_) (by rw[<-r1.length,<-r2.length];exact hz)
 refine⟨.ref s.heap.objs.size,_,I.laid (t':=s.toks) (o:=.tup (xs++ys)) (fun b ob q=>Td _ q) (Tq _) ?_,rfl,q2 (fun w=>z (r2.LD.mpr w)) _ (I.hok.fresh (Tq _))⟩
 exact⟨by rw[Te];exact hz,_,r1.append r2,IA.new _ _⟩
end
noncomputable def uH(n:Nat)(i:Int):Option Nat:=if 0<=i then (if i < n then some i.toNat else none) else if -(n:Int)<=i then some (i+n).toNat else none
noncomputable def Ie{α:Type}(xs:List α)(i:Int):Option α:=(uH xs.length i).bind fun j=>xs[j]?
def tJ{n:Nat}{i:Int}{j:Nat}(h:uH n i=some j):seqIndex? i n=some j/\j < n/\-(n:Int)<=i/\i < n:=by
 unfold uH at h
 by_cases h0:0<=i
 ·rw[if_pos h0]at h
  by_cases h1:i < n
  ·rw[if_pos h1]at h
   have e:i.toNat=j:=UB h
   exact⟨by rw[seqIndex_of h0 h1,e],by omega,by omega,h1⟩
  ·rw[if_neg h1]at h;cases h
 ·rw[if_neg h0]at h
  by_cases h1:-(n:Int)<=i
  ·rw[if_pos h1]at h
   have e:(i+n).toNat=j:=UB h
   exact⟨by rw[seqIndex_neg (by omega) h1,e],by omega,h1,by omega⟩
  ·rw[if_neg h1]at h;cases h
def oM{α:Type}{xs:List α}{i:Int}{v:α}(h:Ie xs i=some v):∃j,seqIndex? i xs.length=some j/\xs[j]?=some v/\j < xs.length/\-(xs.length:Int)<=i/\i < xs.length:=by
 unfold Ie at h
 cases e:uH xs.length i with
 |none=>rw[e]at h;cases h
 |some j=>
  rw[e]at h
  obtain⟨h1,h2,h3,h4⟩:=tJ e
  exact⟨j,h1,h,h2,h3,h4⟩
def bC{α:Type}{xs:List α}{j:Nat}{v:α}(h:xs[j]?=some v):Ie xs (j:Int)=some v:=by
 have hj:j < xs.length:=(TV.mp h).1
 have e:uH xs.length (j:Int)=some j:=by
  unfold uH
  rw[if_pos (by omega),if_pos (by omega)];simp
 unfold Ie;rw[e];exact h
def lV(b:Expr):Prop:=∀o i,subscripted b false o i=operate [o,i] (getItem o i)
def DD(X:Cx)(r:R2):Prop:=
 ∀(value slice:Expr) (pins:Va) (s:Shared) (σ:St) (H:Hp) (x y:V) (v u:Value) (Q:VK),Inv X pins σ H s->RelV x v->RelV y u->r x y H Q->
  subscripted slice false v u=operate [v,u] (getItem v u)->wpAny (model X.prog X.w) X.A (subscriptTail value slice v u) (EP X pins σ Q) X.xe s
def Cf(X:Cx)(id:String)(r:V->List V->Hp->VK->Prop):Prop:=
 ∀(pins:Va) (s:Shared) (σ:St) (H:Hp) (x:V) (xs:List V) (v:Value) (us:Vv) (Q:VK),Inv X pins σ H s->RelV x v->Vals xs us->r x xs H Q->
  wpAny (model X.prog X.w) X.A (call (.builtin id) (v::us)) (EP X pins σ Q) X.xe s
section
variable {X:Cx} {a b:Expr} {ta tb:TE} {pos:Pos}
def En{r:R2}(hr:DD X r)(ha:PE X a ta)(hb:PE X b tb)(hs:lV b):PE X (.Subscript a b pos) (Ea r ta tb):=by
 intro pins s σ H Q I h
 exact Subscript_ (B2 ha hb I h fun v u s2 x y H2 I2 rx ry q=>hr a b pins s2 σ H2 x y v u Q I2 rx ry q (hs _ _))
def F0(K:Vo):R2:=fun x y H Q=>∃p xs i v,x = .ref p/\y = .int i/\SqL K H p xs/\Ie xs i=some v/\Q v H
def F1(K:Vo):R2:=fun x y H Q=>∃p xs i v,x = .ref p/\y = .int i/\SqT K H p xs/\Ie xs i=some v/\Q v H
def F2:R2:=fun x y H Q=>∃z i c,x = .str z/\y = .int i/\z.length<=sizeLine/\Ie z.cps.toList i=some c/\Q (.str ⟨#[c]⟩) H
def tK:DD X (F0 X.K):=by
 intro value slice pins s σ H x y v u Q I rx ry h hs
 obtain⟨p,xs,i,z,rfl,rfl,hq,he,q⟩:=h
 cases rx
 obtain⟨t,rfl⟩:=ry
 obtain⟨its,r,pl,hz⟩:=I.list hq
 obtain⟨j,h1,h2,h3,h4,h5⟩:=oM he
 obtain⟨w,ew,rw'⟩:=r.get h2
 have hl:=r.length
 have hn:=kA
 have fin:EP X pins σ Q w s:=⟨z,H,I,rw',q⟩
 by_cases h0:0<=i
 ·have hj:i.toNat=j:=by
   rw[seqIndex_of h0 h5]at h1
   exact UB h1
  exact item_listR pl.isList h0 (by omega) (by rw[hj];simpa using ew) fin hs
 ·have hj:(i+(its.toArray.size:Int)).toNat=j:=by
   rw[seqIndex_neg (by omega) h4]at h1
   rw[Tr,<-hl]
   exact UB h1
  exact subscriptTail_builtinR (x:=w) pl.isList.typeIs slot_list_getitem.lookup
   (wpAny_getItem_list_neg (Q:=fun r s'=>r=w/\EP X pins σ Q r s') pl.isList (by omega) (by rw[Tr]<;>omega) (by omega) (by rw[hj];simpa using ew) ⟨rfl,fin⟩) hs
def Cg:DD X (F1 X.K):=by
 intro value slice pins s σ H x y v u Q I rx ry h hs
 obtain⟨p,xs,i,z,rfl,rfl,hq,he,q⟩:=h
 cases rx
 obtain⟨t,rfl⟩:=ry
 obtain⟨its,r,pl,hz⟩:=I.tuple hq
 obtain⟨j,h1,h2,h3,h4,h5⟩:=oM he
 obtain⟨w,ew,rw'⟩:=r.get h2
 have hl:=r.length
 have hn:=kA
 have fin:EP X pins σ Q w s:=⟨z,H,I,rw',q⟩
 exact subscriptTail_builtinR (x:=w) pl.typeIs slot_tuple_getitem.lookup
  (getItem_tuple (j:=j) (Q:=fun r s'=>r=w/\EP X pins σ Q r s') pl (by omega) (by omega) (by rw[Tr,<-hl];exact h1) (by simpa using ew) ⟨rfl,fin⟩) hs
def Ch:DD X F2:=by
 intro value slice pins s σ H x y v u Q I rx ry h hs
 obtain⟨z,i,c,rfl,rfl,hz,he,q⟩:=h
 obtain⟨t,rfl⟩:=rx
 obtain⟨t',rfl⟩:=ry
 obtain⟨j,h1,h2,h3,h4,h5⟩:=oM he
 have hl:z.cps.toList.length=z.length:=by simp[Str.length]
 rw[hl]at h1 h4 h5
 have hn:=kA
 exact tail_any (typeIs_str s z t) slot_str_getitem.lookup (getItem_str (c:=c) (by
  have e1:decide (i < -(2 ^ 63:Int))=false:=Tw (by omega)
  have e2:decide (i>=2 ^ 63)=false:=Tw (by omega)
  rw[e1,e2,Bool.or_false]) (by rw[h1];simpa using h2) ⟨.str ⟨#[c]⟩,H,I.tok _,⟨_,rfl⟩,q⟩) hs
def r9(its:Vv)(n j:Nat)(u:Value):Obj.mapSeq (·.setIfInBounds j u) { cls:=.type "list",data:=.seq its.toArray n }={ cls:=.type "list",data:=.seq (its.set j u).toArray n }:=by
 simp[Obj.mapSeq]
theorem Inv.lst{pins:Va}{σ:St}{H:Hp}{s:Shared}{p:Addr}{xs:List V}(I:Inv X pins σ H s)(h:H p=some (.lst xs)) :
  ∃(its:Vv) (n:Nat),Vals xs its/\s.heap.get? p=some { cls:=.type "list",data:=.seq its.toArray n }/\xs.length<=sizeLine:=by
 obtain⟨z,its,n,r,e⟩:=I.hok p _ h
 exact⟨its,n,r,e,z⟩
def Inv.N_{pins:Va}{σ:St}{H:Hp}{s:Shared}{p:Addr}{xs ys:List V}{its its':Vv}{n n':Nat}{f:Obj->Obj}(I:Inv X pins σ H s)(h:H p=some (.lst xs))
  (ho:s.heap.get? p=some { cls:=.type "list",data:=.seq its.toArray n }) (hf:f { cls:=.type "list",data:=.seq its.toArray n }={ cls:=.type "list",data:=.seq its'.toArray n' }) (r:Vals ys its') (hz:ys.length<=sizeLine) (t:Nat) :
  Inv X pins σ (upd H p (.lst ys)) { s with heap:=s.heap.update p f,toks:=t }:=by
 have e:(s.heap.update p f).get? p=some { cls:=.type "list",data:=.seq its'.toArray n' }:=by
  rw[Ur f ho (by rw[hf]<;>rfl),hf]
 refine I.write (x:=p) (e:=p) (by rw[h];trivial) (.inl rfl) (fun b u hb q=>(VC _ _ (VL hb)).trans q) ⟨_,e⟩ ?_
 exact⟨hz,its',n',r,e⟩
noncomputable def Eo:V->V->V->Hp->(Hp->Prop)->Prop:=fun o i v H Q=>∃p xs k j,o = .ref p/\i = .int k/\H p=some (.lst xs)/\uH xs.length k=some j/\Q (upd H p (.lst (xs.set j v)))
def we:y3 X Eo:=by
 intro pins s σ H o i v ov iv u Q I ro ri rv h
 obtain⟨p,xs,k,j,rfl,rfl,hp,hj,q⟩:=h
 cases ro
 obtain⟨t,rfl⟩:=ri
 obtain⟨its,n,r,ho,hz⟩:=I.lst hp
 obtain⟨h1,h2,h3,h4⟩:=tJ hj
 have hl:=r.length
 have hn:=kA
 have I':Inv X pins σ (upd H p (.lst (xs.set j v))) { s with heap:=s.heap.update p (Obj.mapSeq (·.setIfInBounds j u)) }:=
  I.N_ hp ho (r9 its n j u) (r.set rv j) (by rw[List.length_set];exact hz) s.toks
 by_cases h0:0<=k
 ·have hk:k.toNat=j:=by
   rw[seqIndex_of h0 h4]at h1
   exact UB h1
  exact PySem.W.ki_setAt ho h0 (by omega) (by rw[Tr,<-hl];exact h4) (by rw[hk];exact⟨_,I',q⟩)
 ·have hk:(k+(its.toArray.size:Int)).toNat=j:=by
   rw[seqIndex_neg (by omega) h3]at h1
   rw[Tr,<-hl]
   exact UB h1
  exact PySem.W.ki_setBack ho (by omega) (by rw[Tr,<-hl];exact h3) (by omega) (by rw[hk];exact⟨_,I',q⟩)
def oN(lo hi:Option Int)(n:Nat):(sliceBounds lo hi none n).1=((HT.H_ n 0 lo:Nat):Int)/\(sliceBounds lo hi none n).2.1=((HT.H_ n n hi:Nat):Int)/\(sliceBounds lo hi none n).2.2=1:=by
 refine⟨?_,?_,rfl⟩
 ·cases lo with
  |none=>simp[sliceBounds,HT.H_]
  |some i=>
   simp only[sliceBounds,HT.H_,Option.getD_none,show(1:Int) > 0 by decide,Ua]
   by_cases h:i < 0
   ·simp only[h,Ua]<;>omega
   ·simp only[h,Ub]<;>omega
 ·cases hi with
  |none=>simp[sliceBounds,HT.H_]
  |some i=>
   simp only[sliceBounds,HT.H_,Option.getD_none,show(1:Int) > 0 by decide,Ua]
   by_cases h:i < 0
   ·simp only[h,Ua]<;>omega
   ·simp only[h,Ub]<;>omega
def nu(its:Vv)(lo hi:Option Int):slicePick its.toArray lo hi none=((its.drop (HT.H_ its.length 0 lo)).take (HT.H_ its.length its.length hi - HT.H_ its.length 0 lo)).toArray:=by
 obtain⟨h1,h2,h3⟩:=oN lo hi its.toArray.size
 unfold slicePick
 rw[h1,h2,h3]
 simp only[sliceRange_one,pick_run,Tr]<;>rfl
noncomputable def F3(K:Vo):V->Option Int->Option Int->Hp->VK->Prop:=fun x lo hi H Q=>∃a xs,x = .ref a/\SqL K H a xs/\∀p,H p=none->Q (.ref p) (upd H p (.lst (md xs lo hi)))
def tL:DC X (F3 X.K):=by
 intro pins s σ H x v vl vu lo hi sl Q I rx hs pl pu h
 obtain⟨a,xs,rfl,hx,q⟩:=h
 cases rx
 obtain⟨its,r,ht,hz⟩:=I.list hx
 have hlen:=r.length
 refine⟨"list",_,slot_list_getitem.lookup,ht.isList.typeIs,?_⟩
 refine wpAny_getItem_list_slice ht.isList hs pl pu .none (by simp) ?_ (by rw[Tr]<;>omega)
 rw[nu,<-hlen]
 refine⟨.ref s.heap.objs.size,_,I.laid (t':=s.toks) (o:=.lst (md xs lo hi)) (fun b ob q=>Td _ q) (Tq _) ?_,rfl,q _ (I.hok.fresh (Tq _))⟩
 exact⟨TR (lq xs lo hi) hz,_,0,(r.drop (HT.H_ xs.length 0 lo)).take (HT.H_ xs.length xs.length hi - HT.H_ xs.length 0 lo),Tn _ rfl⟩
def oO:jo X (compareOp .NotIn) (fun x y H Q=>∃i j,x = .str i/\y = .str j/\Q (.bl (!(!(Builtin.Str.occurrences j i 0 j.length 1).isEmpty))) H):=by
 intro pins s σ H x y v u Q I rx ry h
 obtain⟨i,j,rfl,rfl,q⟩:=h
 obtain⟨t,rfl⟩:=rx
 obtain⟨t',rfl⟩:=ry
 exact notIn_str ⟨.bl _,H,I,rfl,q⟩
def fM:dB X (.builtin "len") (fun xs H Q=>∃p ys,xs=[.ref p]/\(SqL X.K H p ys\/SqT X.K H p ys)/\Q (.int ys.length) H):=by
 intro pins s σ H xs us Q I r h
 obtain⟨p,ys,rfl,hq,q⟩:=h
 obtain⟨u,rfl,rx⟩:=cV r
 cases rx
 have hn:=kA
 rcases hq with hq|hq
 ·obtain⟨its,r',pl,hz⟩:=I.list hq
  have hlen:=r'.length
  exact Calls.call_len_list pl.isList (by simp only[Tr]<;>omega) ⟨.int ys.length,H,I.tok _,⟨s.toks+1,by rw[Tr,hlen]⟩,q⟩
 ·obtain⟨its,r',pl,hz⟩:=I.tuple hq
  have hlen:=r'.length
  exact len_tuple pl (by simp only[Tr]<;>omega) ⟨.int ys.length,H,I.tok _,⟨s.toks+1,by rw[Tr,hlen]⟩,q⟩
def oP:dB X (.builtin "len") (fun xs H Q=>∃z,xs=[.str z]/\z.length<=sizeLine/\Q (.int z.length) H):=by
 intro pins s σ H xs us Q I r h
 obtain⟨z,rfl,hz,q⟩:=h
 obtain⟨u,rfl,t,rfl⟩:=cV r
 have hn:=kA
 exact len_str (by omega) ⟨.int z.length,H,I.tok _,⟨_,rfl⟩,q⟩
def oQ:dB X (.type "list") (fun xs H Q=>∃p ys,xs=[.ref p]/\(SqL X.K H p ys\/SqT X.K H p ys)/\∀l,H l=none->Q (.ref l) (upd H l (.lst ys))):=by
 intro pins s σ H xs us Q I r h
 obtain⟨p,ys,rfl,hq,q⟩:=h
 obtain⟨u,rfl,rx⟩:=cV r
 cases rx
 have fin:∀(its:Vv),Vals ys its->ys.length<=sizeLine->∀(h':Heap) (c':Nat),(∀b o',s.heap.get? b=some o'->h'.get? b=some o')->
   h'.get? s.heap.objs.size=some { cls:=.type "list",dict:=none,data:=.seq its.toArray c',slots:=#[] }->EP X pins σ Q (.ref s.heap.objs.size) { s with heap:=h' }:=fun its r' hz h' c' kp e=>
  ⟨.ref s.heap.objs.size,_,I.laid (t':=s.toks) kp (Tq _) (show HY X.prog X.w _ h' _ (.lst ys)from ⟨hz,its,c',r',e⟩),rfl,q _ (I.hok.fresh (Tq _))⟩
 rcases hq with hq|hq
 ·obtain⟨its,r',pl,hz⟩:=I.list hq
  have hlen:=r'.length
  obtain⟨o,ho,hc,n,hd⟩:=pl.isList
  exact call_list_seq p (.inl rfl) ho hc hd (fun h' c' kp e=>fin its r' hz h' c' kp e) (by simp only[Tr]<;>omega)
 ·obtain⟨its,r',pl,hz⟩:=I.tuple hq
  have hlen:=r'.length
  obtain⟨o,ho,hc,n,hd⟩:=pl
  exact call_list_seq p (.inr rfl) ho hc hd (fun h' c' kp e=>fin its r' hz h' c' kp e) (by simp only[Tr]<;>omega)
def i9:dB X (.type "tuple") (fun xs H Q=>∃p ys,xs=[.ref p]/\((SqL X.K H p ys/\∀l,H l=none->Q (.ref l) (upd H l (.tup ys)))\/(SqT X.K H p ys/\Q (.ref p) H))):=by
 intro pins s σ H xs us Q I r h
 obtain⟨p,ys,rfl,h⟩:=h
 obtain⟨u,rfl,rx⟩:=cV r
 cases rx
 rcases h with⟨hq,q⟩|⟨hq,q⟩
 ·obtain⟨its,r',pl,hz⟩:=I.list hq
  have hlen:=r'.length
  refine call_tuple_list pl.isList (fun h' kp=>?_) (by simp only[Tr]<;>omega)
  have I1:Inv X pins σ H { s with heap:=h' }:=I.kept (t':=s.toks) kp
  have I2:Inv X pins σ (upd H h'.objs.size (.tup ys)) { s with heap:=h'.push { cls:=.type "tuple",data:=.seq its.toArray } }:=
   I1.laid (t':=s.toks) (fun b o e=>Td _ e) (Tq _) (show HY X.prog X.w _ _ _ (.tup ys)from ⟨hz,its,r',IA.new _ _⟩)
  exact⟨.ref h'.objs.size,_,I2,rfl,q _ (I1.hok.fresh (Tq _))⟩
 ·obtain⟨its,r',pl,hz⟩:=I.tuple hq
  exact call_tuple_same pl ⟨.ref p,H,I,rfl,q⟩
def FB(K:Vo)(T:String)(x:V)(H:Hp):Prop:=match x with
 | .str _=>T = "str"
 | .int _=>T = "int"
 | .ref p=>(T = "list"/\∃xs,SqL K H p xs)\/(T = "tuple"/\∃o,K.lookup p=some o/\o.cls = .type "tuple"/\o.dict=none) \/
   (T = "dict"/\((∃kvs,H p=some (.dK kvs))\/∃kvs,H p=some (.dT kvs)))\/(T = "set"/\∃S n,H p=some (.set S n))
 |_=>False
def wf{pins:Va}{σ:St}{H:Hp}{s:Shared}{T:String}{x:V}{v:Value}(I:Inv X pins σ H s)(r:RelV x v)(ty:FB X.K T x H) :
  s.TypeIs v T/\∀a,v = .ref a->∃ob,s.heap.get? a=some ob/\ob.dict=none:=by
 cases x with
 |str z=>
  obtain⟨t,rfl⟩:=r
  cases (show T = "str" from ty)
  exact⟨typeIs_str s z t,fun _ e=>nomatch e⟩
 |int i=>
  obtain⟨t,rfl⟩:=r
  cases (show T = "int" from ty)
  exact⟨typeIs_int s i t,fun _ e=>nomatch e⟩
 |ref p=>
  cases r
  rcases ty with⟨rfl,xs,hq⟩|⟨rfl,o,hk,hc,hd⟩|⟨rfl,hk⟩|⟨rfl,S,n,hk⟩
  ·obtain⟨its,_,pl,_⟩:=I.list hq
   refine⟨pl.isList.typeIs,fun a e=>?_⟩
   cases e
   obtain⟨o,n,e,c,hd,_⟩:=pl
   exact⟨o,e,hd⟩
  ·refine⟨⟨o,I.MY p o hk,hc⟩,fun a e=>?_⟩
   cases e
   exact⟨o,I.MY _ o hk,hd⟩
  ·have z:∃o,s.heap.get? p=some o/\o.ExactDict:=by
    rcases hk with⟨kvs,hk⟩|⟨kvs,hk⟩
    ·obtain⟨_,_,_,_,o,_,_,e,ex,_⟩:=I.hok p _ hk
     exact⟨o,e,ex⟩
    ·obtain⟨_,_,_,_,o,_,_,e,ex,_⟩:=I.hok p _ hk
     exact⟨o,e,ex⟩
   obtain⟨o,e,ex⟩:=z
   refine⟨⟨o,e,ex.1⟩,fun a e2=>?_⟩
   cases e2
   exact⟨o,e,ex.2.1⟩
  ·obtain⟨o,_,_,_,e,ex,_⟩:=I.hok p _ hk
   refine⟨⟨o,e,ex.1⟩,fun a e2=>?_⟩
   cases e2
   exact⟨o,e,ex.2.1⟩
 |_=>exact False.elim ty
def F4(K:Vo)(T:String)(r:V->List V->Hp->VK->Prop)(to:TE):TE:=fun σ H Q=>to σ H fun x H1=>FB K T x H1/\r x [] H1 Q
def G0(K:Vo)(T:String)(r:V->List V->Hp->VK->Prop)(to:TE)(t:TA):TE:=fun σ H Q=>to σ H fun x H1=>FB K T x H1/\t σ H1 fun xs H2=>r x xs H2 Q
variable {o e:Expr} {es:List Expr} {to:TE} {t:TA} {name:Str} {apos cpos:Pos} {T id:String} {r:V->List V->Hp->VK->Prop}
def Ci(pa:PlainAttrs T)(slot:Slot T name id)(hty:typeOf (.builtin id)=pure (.type "method_descriptor"))(hm:Cf X id r)(ho:PE X o to)
  (hbase:attributeBase o name X.env (eval o X.env)=eval o X.env:=by rfl) (hline:(apos.endLine == cpos.line)=true:=by rfl):PE X (.Call (.Attribute o name apos) [] [] cpos) (F4 X.K T r to):=by
 intro pins s σ H Q I h
 refine wpAny_Call_method0_late hbase hline (Ho (ho pins s σ H _ I h) fun v s1 ⟨x,H1,I1,r1,ty,q1⟩=>?_)
 obtain⟨h1,h2⟩:=wf I1 r1 ty
 exact⟨T,id,pa,slot,hty,h1,h2,VD rfl (PySem.evalArgs_none (hm pins s1 σ H1 x [] v [] Q I1 r1 .nil q1))⟩
def Ep(pa:PlainAttrs T)(slot:Slot T name id)(hty:typeOf (.builtin id)=pure (.type "method_descriptor"))(hm:Cf X id r)(ho:PE X o to)(ha:PA X (e::es) t)
  (hbase:attributeBase o name X.env (eval o X.env)=eval o X.env:=by rfl)
  (hfew:((backTo cpos (starEach (e::es) X.env)).all (fun x=>!x.1)&&(backToKw cpos (keywordEach [] X.env)).all (fun x=>x.1.isSome)
   && decide ((e::es).length+([]:List Keyword).length+(if ([]:List Keyword).isEmpty then 0 else 1) < 30))=true:=by rfl)
  (hline:(apos.endLine == cpos.line)=true:=by rfl) (hs:starEach (e::es) X.env=(false,eval e X.env)::starEach es X.env:=by rfl) (hplain:(backTo cpos (starEach es X.env)).any (·.1)=false:=by rfl) :
  PE X (.Call (.Attribute o name apos) (e::es) [] cpos) (G0 X.K T r to t):=by
 intro pins s σ H Q I h
 refine wpAny_Call_method_late hbase hfew hline rfl (Ho (ho pins s σ H _ I h) fun v s1 ⟨x,H1,I1,r1,ty,q1⟩=>?_)
 obtain⟨h1,h2⟩:=wf I1 r1 ty
 refine⟨T,id,pa,slot,hty,h1,h2,?_⟩
 have hA:=ha cpos pins s1 σ H1 _ I1 q1
 rw[hs]at hA ⊢
 refine VD (by show(false || (backTo cpos (starEach es X.env)).any (·.1))=false;rw[hplain]<;>rfl) (Wg ?_)
 exact Ho hA fun us s2 ⟨vs,H2,I2,r2,q2⟩=>hm pins s2 σ H2 x vs v us Q I2 r1 r2 q2
end
def FC(X:Cx)(id:String)(r:V->List V->Hp->VK->Prop):Prop:=
 ∀(pins:Va) (s:Shared) (σ:St) (H:Hp) (x:V) (xs:List V) (v:Value) (us:Vv) (Q:VK),Inv X pins σ H s->RelV x v->Vals xs us->r x xs H Q->
  wpAny (model X.prog X.w) X.A (call (.builtin id) (v::us)) (EP X pins σ Q) X.xe s
theorem Vals.one:∀{x:V} {us:Vv},Vals [x] us->∃u,us=[u]/\RelV x u
 |_,_,.cons r .nil=>⟨_,rfl,r⟩
theorem Vals.zero:∀{us:Vv},Vals [] us->us=[]
 |_,.nil=>rfl
theorem Vals.dropLast{xs:List V}{us:Vv}(h:Vals xs us):Vals xs.dropLast us.dropLast:=by
 induction h with
 |nil=>exact .nil
 |cons r t ih=>
  cases t with
  |nil=>exact .nil
  |cons q t'=>exact .cons r ih
theorem Vals.eraseIdx:∀{xs:List V} {us:Vv} (i:Nat),Vals xs us->Vals (xs.eraseIdx i) (us.eraseIdx i)
 |_,_,_,.nil=>.nil
 |_,_,0,.cons _ t=>t
 |_,_,i+1,.cons r t=>.cons r (Vals.eraseIdx i t)
theorem Vals.reverse{xs:List V}{us:Vv}(h:Vals xs us):Vals xs.reverse us.reverse:=by
 induction h with
 |nil=>exact .nil
 |cons r t ih=>rw[WV,WV];exact Vals.append ih (.cons r .nil)
theorem Vals.rep{xs:List V}{us:Vv}(h:Vals xs us):∀k:Nat,Vals (List.replicate k xs).flatten (List.replicate k us).flatten
 |0=>.nil
 |k+1=>by
  rw[Ve,Ve,VS,VS]
  exact Vals.append h (Vals.rep h k)
def r_{α:Type}(l:List α):l.eraseIdx (l.length - 1)=l.dropLast:=by
 induction l with
 |nil=>rfl
 |cons a r ih=>
  cases r with
  |nil=>rfl
  |cons b r=>
   have e:(a::b::r).length - 1=((b::r).length - 1)+1:=by
    have h1:(a::b::r).length=r.length+2:=rfl
    have h2:(b::r).length=r.length+1:=rfl
    omega
   rw[e,List.eraseIdx_cons_succ,ih]
   all_goals rfl
theorem nV{α:Type}:∀(l:List α) (i:Nat),(l.eraseIdx i).length<=l.length
 |[],_=>Tq _
 |_::_,0=>V3 _
 |_::r,i+1=>Nat.succ_le_succ (nV r i)
theorem nW(its:Vv):∀(k:Nat) (acc:Vv),
  List.foldl (fun x1 x2=>x1++x2) acc.toArray (List.replicate k its.toArray)=(acc++(List.replicate k its).flatten).toArray
 |0,acc=>by simp
 |k+1,acc=>by
  have e:acc.toArray++its.toArray=(acc++its).toArray:=by simp
  have e2:(acc++its)++(List.replicate k its).flatten=acc++(List.replicate (k+1) its).flatten:=by
   rw[Ve,VS,WW]
  rw[<-e2,<-nW its k (acc++its),<-e,Ve,Wy]
section
variable {X:Cx} {pins:Va} {σ:St} {H:Hp} {s:Shared} {l b:Addr} {xs ys zs:List V}
def Inv.Nu{its its':Vv}{n:Nat}{f:Array Value->Array Value}{t':Nat}(I:Inv X pins σ H s)(hH:H l=some (.lst xs))
  (e:s.heap.get? l=some { cls:=.type "list",data:=.seq its.toArray n }) (hf:f its.toArray=its'.toArray) (hv:Vals ys its') (hz:ys.length<=sizeLine) :
  Inv X pins σ (upd H l (.lst ys)) { s with heap:=s.heap.update l (Obj.mapSeq f),toks:=t' }:=by
 have q:=PySem.IsL.update e f
 rw[hf]at q
 refine I.write (x:=l) (e:=l) (by rw[hH];exact trivial) (.inl rfl) (fun b' u hb hu=>(VC s.heap (Obj.mapSeq f) (VL hb)).trans hu) ⟨_,q⟩ ?_
 exact⟨hz,its',_,hv,q⟩
def Inv.OR{its:Vv}{t':Nat}(I:Inv X pins σ H s)(hv:Vals ys its)(hz:ys.length<=sizeLine) :
  Inv X pins σ (upd H s.heap.objs.size (.lst ys)) { s with heap:=s.heap.push { cls:=.type "list",data:=.seq its.toArray },toks:=t' }:=
 I.laid (fun _ _ q=>Td _ q) (Tq _) ⟨hz,its,0,hv,Tn _ rfl⟩
theorem Inv.fresh(I:Inv X pins σ H s):H s.heap.objs.size=none:=I.hok.fresh (Tq _)
def Inv.Mb(I:Inv X pins σ H s)(hH:H l=some (.lst xs)):xs.length<=sizeLine/\∃(its:Vv) (n:Nat),Vals xs its/\xs.length=its.length/\s.heap.get? l=some { cls:=.type "list",data:=.seq its.toArray n }:=by
 obtain⟨z,its,n,r,e⟩:=I.hok l _ hH
 exact⟨z,its,n,r,r.length,e⟩
def qA{n:Nat}(h:n<=sizeLine):Builtin.List.listTooLong n=false:=by
 unfold Builtin.List.listTooLong
 exact Tw (by omega)
end
section
variable {X:Cx}
noncomputable def zo:V->List V->Hp->VK->Prop:=fun x vs H Q=>∃l xs y,x = .ref l/\vs=[y]/\H l=some (.lst xs)/\xs.length < sizeLine/\Q .non (upd H l (.lst (xs++[y])))
def uI:FC X "list.append" zo:=by
 intro pins s σ H x vs v us Q I rx rv h
 obtain⟨l,xs,y,rfl,rfl,hH,hz,q⟩:=h
 cases rx
 obtain⟨u,rfl,ru⟩:=rv.one
 obtain⟨z,its,n,r,hl,e⟩:=I.Mb hH
 refine WG F.slot_list_append ⟨_,e,rfl⟩ F.entry_list_append (F.args_list_append_2 _ _) (PySem.list_append l its.toArray n u (by rw[Tr];omega)) ⟨e,?_⟩
 refine⟨.non,_,I.Nu (its':=its++[u]) hH e (by simp) (r.append (.cons ru .nil)) ?_,rfl,q⟩
 rw[Te,TH]
 omega
noncomputable def zp:V->List V->Hp->VK->Prop:=fun x vs H Q=>∃l b xs zs,x = .ref l/\vs=[.ref b]/\H l=some (.lst xs)/\H b=some (.lst zs)/\xs.length+zs.length<=sizeLine/\Q .non (upd H l (.lst (xs++zs)))
def uJ:FC X "list.extend" zp:=by
 intro pins s σ H x vs v us Q I rx rv h
 obtain⟨l,b,xs,zs,rfl,rfl,hH,hB,hz,q⟩:=h
 cases rx
 obtain⟨u,rfl,ru⟩:=rv.one
 cases ru
 obtain⟨z,its,n,r,hl,e⟩:=I.Mb hH
 obtain⟨z2,its2,n2,r2,hl2,e2⟩:=I.Mb hB
 have hsz:its.toArray.size+its2.toArray.size<=sizeLine:=by rw[Tr,Tr];omega
 have MZ:¬(!its.toArray.isEmpty&&Builtin.List.listTooLong (its.toArray.size+its2.toArray.size))=true:=by
  rw[qA hsz,Bool.and_false]
  exact T4
 refine WG F.slot_list_extend ⟨_,e,rfl⟩ F.entry_list_extend (F.args_list_extend_2 _ _)
  (AutoSeq1.list_extend_list_list_0 l its.toArray n b its2.toArray n2 MZ (by rw[Tr];omega) (by omega)) ⟨e,e2,?_⟩
 refine⟨.non,_,I.Nu (its':=its++its2) hH e (by simp) (r.append r2) ?_,rfl,q⟩
 rw[Te]
 omega
noncomputable def F5:V->List V->Hp->VK->Prop:=fun x vs H Q=>∃l xs y,x = .ref l/\vs=[]/\H l=some (.lst xs)/\xs[xs.length - 1]?=some y/\Q y (upd H l (.lst xs.dropLast))
def Cj:FC X "list.pop" F5:=by
 intro pins s σ H x vs v us Q I rx rv h
 obtain⟨l,xs,y,rfl,rfl,hH,hy,q⟩:=h
 cases rx
 have R5:=rv.zero
 subst R5
 obtain⟨z,its,n,r,hl,e⟩:=I.Mb hH
 obtain⟨u,hu,ru⟩:=r.get hy
 have hy':its.toArray[its.toArray.size - 1]?=some u:=by
  show its.toArray[its.length - 1]?=some u
  rw[<-We,<-hl]
  exact hu
 refine WG F.slot_list_pop ⟨_,e,rfl⟩ F.entry_list_pop (F.args_list_pop_1 _) (MeetsSeq.list_pop_last l its.toArray n u hy' (by rw[Tr];omega)) ⟨e,?_⟩
 refine⟨y,_,I.Nu (its':=its.dropLast) hH e ?_ r.dropLast ?_,ru,q⟩
 ·show its.toArray.eraseIdxIfInBounds (its.toArray.size - 1)=its.dropLast.toArray
  rw[Tr,W6,r_]
 ·rw[List.length_dropLast]
  omega
noncomputable def Ck:V->List V->Hp->VK->Prop:=fun x vs H Q=>∃l xs i k y,x = .ref l/\vs=[.int i]/\H l=some (.lst xs)/\-(2 ^ 63)<=i/\i < 2 ^ 63/\seqIndex? i xs.length=some k/\xs[k]?=some y/\Q y (upd H l (.lst (xs.eraseIdx k)))
def wg:FC X "list.pop" Ck:=by
 intro pins s σ H x vs v us Q I rx rv h
 obtain⟨l,xs,i,k,y,rfl,rfl,hH,h1,h2,hk,hy,q⟩:=h
 cases rx
 obtain⟨u,rfl,ru⟩:=rv.one
 obtain⟨t,rfl⟩:=ru
 obtain⟨z,its,n,r,hl,e⟩:=I.Mb hH
 obtain⟨w,hw,rw'⟩:=r.get hy
 refine WG F.slot_list_pop ⟨_,e,rfl⟩ F.entry_list_pop (F.args_list_pop_2 _ _)
  (MeetsSeq.list_pop_at l its.toArray n i t k w (fitsIndex_both h1 h2) (by rw[Tr,<-hl];exact hk) (by rw[<-We];exact hw) (by rw[Tr];omega)) ⟨e,?_⟩
 refine⟨y,_,I.Nu (its':=its.eraseIdx k) hH e ?_ (r.eraseIdx k) ?_,rw',q⟩
 ·show its.toArray.eraseIdxIfInBounds k=(its.eraseIdx k).toArray
  rw[W6]
 ·have:=nV xs k
  omega
def F6:R2:=fun x y H Q=>∃l b xs zs,x = .ref l/\y = .ref b/\H l=some (.lst xs)/\H b=some (.lst zs)/\xs.length+zs.length<=sizeLine/\∀p,H p=none->Q (.ref p) (upd H p (.lst (xs++zs)))
def Cl:jo X (binaryOp .Add) F6:=by
 intro pins s σ H x y v u Q I rx ry h
 obtain⟨l,b,xs,zs,rfl,rfl,hH,hB,hz,q⟩:=h
 cases rx
 cases ry
 obtain⟨z,its,n,r,hl,e⟩:=I.Mb hH
 obtain⟨z2,its2,n2,r2,hl2,e2⟩:=I.Mb hB
 refine PySem.P.add_list e e2 ?_ (by rw[Tr,Tr];omega)
 have ea:its.toArray++its2.toArray=(its++its2).toArray:=by simp
 rw[ea]
 exact⟨.ref _,_,I.OR (t':=s.toks) (r.append r2) (by rw[Te];omega),rfl,q _ I.fresh⟩
def F7:R2:=fun x y H Q=>∃l k xs,x = .ref l/\y = .int k/\H l=some (.lst xs)/\-(2 ^ 63)<=k/\k < 2 ^ 63/\xs.length * k.toNat<=sizeLine/\
 ∀p,H p=none->Q (.ref p) (upd H p (.lst (List.replicate k.toNat xs).flatten))
def zq{α:Type}(xs:List α)(k:Nat):(List.replicate k xs).flatten.length=k * xs.length:=by
 induction k with
 |zero=>simp
 |succ k ih=>rw[Ve,VS,Te,ih,Nat.succ_mul,Nat.add_comm]
def Cm:jo X (binaryOp .Mult) F7:=by
 intro pins s σ H x y v u Q I rx ry h
 obtain⟨l,k,xs,rfl,rfl,hH,h1,h2,hz,q⟩:=h
 cases rx
 obtain⟨t,rfl⟩:=ry
 obtain⟨z,its,n,r,hl,e⟩:=I.Mb hH
 have hlen:its.toArray.size * k.toNat<=sizeLine:=by rw[Tr,<-hl];exact hz
 have hcap:¬its.toArray.size * k.toNat > (2 ^ 63 - 1) / 8:=by
  have:(sizeLine:Nat)<=(2 ^ 63 - 1) / 8:=by decide
  omega
 have hfit:¬(!Builtin.List.listFitsIndex k)=true:=by
  rw[fitsIndex_both h1 h2]
  exact T4
 have MZ:¬Builtin.List.listTooLong (its.toArray.size * k.toNat)=true:=by
  rw[qA hlen]
  exact T4
 have hnew:List.foldl (fun x1 x2=>x1++x2) #[] (List.replicate (if its.toArray.isEmpty=true then 0 else k.toNat) its.toArray)=(List.replicate k.toNat its).flatten.toArray:=by
  have f0:∀m:Nat,List.foldl (fun x1 x2=>x1++x2) #[] (List.replicate m its.toArray)=(List.replicate m its).flatten.toArray:=fun m=>by
   have:=nW its m []
   rw[T7]at this
   exact this
  rw[f0]
  cases its with
  |nil=>simp
  |cons a r'=>rw[if_neg (by simp)]
 refine wpAny_binaryOp_repeat_ref (T:="list") (U:="int") (by decide) ⟨_,e,rfl⟩ (fun s'=>typeIs_int s' k t) noFill_list_mul F.fills_int_mul F.slot_int_rmul repeat_list F.slot_int_index.lookup
  (WG F.slot_int_rmul (typeIs_int s k t) F.entry_int_rmul (F.args_int_rmul_2 _ _) (int___rmul___int_list k t l its.toArray n)
   ⟨e,rfl,⟨_,e,rfl⟩,WG F.slot_list_mul ⟨_,e,rfl⟩ F.entry_list_mul (F.args_list_mul_2 _ _) (AutoListH.list___mul___list_int_3 l its.toArray n k t hfit hcap MZ) ⟨e,?_⟩⟩)
 rw[hnew]
 exact⟨.ref _,_,I.OR (t':=s.toks) (r.rep k.toNat) (by rw[zq,Nat.mul_comm];exact hz),rfl,q _ I.fresh⟩
end
section
variable {κ:Type} [DecidableEq κ]
noncomputable def i0(kvs:List (κ×V))(k:κ):Option V:=(kvs.find? fun kv=>decide (kv.1=k)).map (·.2)
noncomputable def gT(kvs:List (κ×V))(k:κ)(v:V):List (κ×V):=
 if (kvs.any fun kv=>decide (kv.1=k))=true then kvs.map (fun kv=>if kv.1=k then (kv.1,v) else kv) else kvs++[(k,v)]
def JG{p:κ×V}{r:List (κ×V)}{k:κ}(e:p.1=k):i0 (p::r) k=some p.2:=by simp[i0,List.find?_cons,e]
def I9{p:κ×V}{r:List (κ×V)}{k:κ}(e:¬p.1=k):i0 (p::r) k=i0 r k:=by simp[i0,List.find?_cons,e]
theorem me(k:κ):∀kvs:List (κ×V),(kvs.any fun kv=>decide (kv.1=k))=(i0 kvs k).isSome
 |[]=>rfl
 |p::r=>by
  rw[VW]
  by_cases e:p.1=k
  ·simp only[JG e,TN e,Bool.true_or,Option.isSome_some]
  ·rw[I9 e,Tw e,Bool.false_or];exact me k r
def gU(kvs:List (κ×V))(k:κ)(v:V):(gT kvs k v).length<=kvs.length+1:=by
 unfold gT
 split
 ·rw[Ti];omega
 ·rw[Te,TL,Vt];omega
def RelO.JH{o:Option V}{u:Option Value}(r:RelO o u):o.isSome=u.isSome:=by
 cases o with
 |none=>cases u with
  |none=>rfl
  |some _=>exact(show False from r).elim
 |some _=>cases u with
  |none=>exact(show False from r).elim
  |some _=>rfl
theorem RelO.getD{o:Option V}{u:Option Value}{d:V}{d':Value}(r:RelO o u)(rd:RelV d d'):RelV (o.getD d) (u.getD d'):=by
 cases o with
 |none=>cases u with
  |none=>exact rd
  |some _=>exact(show False from r).elim
 |some _=>cases u with
  |none=>exact(show False from r).elim
  |some _=>exact r
def KV.val{kvs:List (κ×V)}{vs:List (κ×Value)}(r:KV kvs vs)(k:κ):RelO (i0 kvs k) (valueAt vs k):=by
 unfold KV at r
 induction r with
 |nil=>exact True.intro
 |@cons p q ps qs h t ih=>
  obtain⟨h1,h2⟩:=h
  by_cases e:p.1=k
  ·have e':q.1=k:=h1.symm.trans e
   have b:valueAt (q::qs) k=some q.2:=by simp[valueAt,List.find?_cons,e']
   rw[JG e,b];exact h2
  ·have e':¬q.1=k:=fun z=>e (h1.trans z)
   have b:valueAt (q::qs) k=valueAt qs k:=by simp[valueAt,List.find?_cons,e']
   rw[I9 e,b];exact ih
theorem KV.any{kvs:List (κ×V)}{vs:List (κ×Value)}(r:KV kvs vs)(k:κ):(kvs.any fun kv=>decide (kv.1=k))=vs.any fun kv=>decide (kv.1=k):=by
 unfold KV at r
 induction r with
 |nil=>rfl
 |cons h t ih=>rw[VW,VW,ih,h.1]
def KV.repl{kvs:List (κ×V)}{vs:List (κ×Value)}(r:KV kvs vs)(k:κ){y:V}{u:Value}(ry:RelV y u) :
  KV (kvs.map fun kv=>if kv.1=k then (kv.1,y) else kv) (vs.map fun kv=>if kv.1=k then (kv.1,u) else kv):=by
 unfold KV at r ⊢
 induction r with
 |nil=>exact .nil
 |@cons p q ps qs h t ih=>
  rw[TQ,TQ]
  refine .cons ?_ ih
  obtain⟨h1,h2⟩:=h
  by_cases e:p.1=k
  ·rw[if_pos e,if_pos (h1.symm.trans e)];exact⟨h1,ry⟩
  ·rw[if_neg e,if_neg (fun z=>e (h1.trans z))];exact⟨h1,h2⟩
def KV.put{kvs:List (κ×V)}{vs:List (κ×Value)}(r:KV kvs vs)(k:κ){y:V}{u:Value}(ry:RelV y u):KV (gT kvs k y) (stored vs k u):=by
 unfold gT stored
 rw[r.any k]
 by_cases e:(vs.any fun kv=>decide (kv.1=k))=true
 ·rw[if_pos e,if_pos e];exact r.repl k ry
 ·rw[if_neg e,if_neg e];exact Paired.snoc r ⟨rfl,ry⟩
theorem KV.length{kvs:List (κ×V)}{vs:List (κ×Value)}(r:KV kvs vs):kvs.length=vs.length:=Paired.length r
end
def jT{P:Program}{w:World}{k:bf}{u:Value}(r:RelV (kV k) u):(aU P w).is k u=true:=by
 cases k with
 |inl i=>obtain⟨t,e⟩:=(show ∃t,u=Value.int i t from r);subst e;exact qr P w i t
 |inr x=>obtain⟨t,e⟩:=(show ∃t,u=Value.str x t from r);subst e;exact qt P w x t
theorem nX{P:Program}{w:World}:∀{ks:List bf} {us:Vv},Vals (ks.map kV) us->ItemsAre (aU P w) ks us
 |[],_,r=>by rw[TZ]at r;cases r;exact .nil
 |k::ks,_,r=>by
  rw[TQ]at r
  cases r with
  |cons h t=>exact .cons (jT h) (nX t)
noncomputable abbrev KT(H:Hp):List (List bf×V)->List (List bf×Addr×Value)->Prop:=Paired fun p q=>p.1=q.1/\H q.2.1=some (.tup (p.1.map kV))/\RelV p.2 q.2.2
def KT.val{H:Hp}{kvs:List (List bf×V)}{xs:List (List bf×Addr×Value)}(r:KT H kvs xs)(k:List bf):RelO (i0 kvs k) ((atKey xs k).map (·.2)):=by
 induction r with
 |nil=>exact True.intro
 |@cons p q ps qs h t ih=>
  obtain⟨h1,_,h2⟩:=h
  by_cases e:p.1=k
  ·have e':q.1=k:=h1.symm.trans e
   have b:atKey (q::qs) k=some q.2:=by simp[atKey,List.find?_cons,e']
   rw[JG e,b];exact h2
  ·have e':¬q.1=k:=fun z=>e (h1.trans z)
   have b:atKey (q::qs) k=atKey qs k:=by simp[atKey,List.find?_cons,e']
   rw[I9 e,b];exact ih
def KT.repl{H:Hp}{kvs:List (List bf×V)}{xs:List (List bf×Addr×Value)}(r:KT H kvs xs)(k:List bf){y:V}{u:Value}(ry:RelV y u) :
  KT H (kvs.map fun kv=>if kv.1=k then (kv.1,y) else kv) (xs.map (putAt k u)):=by
 induction r with
 |nil=>exact .nil
 |@cons p q ps qs h t ih=>
  rw[TQ,TQ]
  refine .cons ?_ ih
  obtain⟨h1,h2,h3⟩:=h
  unfold putAt
  by_cases e:p.1=k
  ·rw[if_pos e,if_pos (h1.symm.trans e)];exact⟨h1,h2,ry⟩
  ·rw[if_neg e,if_neg (fun z=>e (h1.trans z))];exact⟨h1,h2,h3⟩
def KT.put{H:Hp}{kvs:List (List bf×V)}{xs:List (List bf×Addr×Value)}(r:KT H kvs xs)(k:List bf){b:Addr}{y:V}{u:Value}(hb:H b=some (.tup (k.map kV)))(ry:RelV y u) :
  KT H (gT kvs k y) (storedH xs k b u):=by
 have e:(kvs.any fun kv=>decide (kv.1=k))=(atKey xs k).isSome:=by
  rw[me,(r.val k).JH,XA]
 unfold gT storedH
 rw[e]
 by_cases q:(atKey xs k).isSome=true
 ·rw[if_pos q,if_pos q];exact r.repl k ry
 ·rw[if_neg q,if_neg q];exact Paired.snoc r ⟨rfl,hb,ry⟩
def KT.keeps{H H':Hp}{kvs:List (List bf×V)}{xs:List (List bf×Addr×Value)}(r:KT H kvs xs)(ht:∀b ys,H b=some (.tup ys)->H' b=some (.tup ys)):KT H' kvs xs:=
 Paired.N1 r fun _ _ z=>⟨z.1,ht _ _ z.2.1,z.2.2⟩
section
variable {P:Program} {w:World} {H:Hp} {h:Heap} {a:Addr}
def A1{u:HO}(ok:Kq P w H h)(e:Rd H a u):HY P w H h a u:=e.ok ok
def lr{kvs:List (bf×V)}(ok:Kq P w H h)(e:Rd H a (.dK kvs)):kvs.length<=sizeLine/\(a == sysModules)=false/\∃vs,KV kvs vs/\h.DictOf (aU P w) a vs:=
 show HY P w H h a (.dK kvs)from A1 ok e
def A2{kvs:List (bf×V)}(ok:Kq P w H h)(e:H a=some (.dK kvs)):kvs.length<=sizeLine/\(a == sysModules)=false/\∃vs,KV kvs vs/\h.DictOf (aU P w) a vs:=lr ok (.inl e)
def cW{ks:List bf}(ok:Kq P w H h)(e:H a=some (.tup (ks.map kV))):(tupleKind (aU P w)).is h ks a:=by
 obtain⟨_,its,r,o,h1,_,h2,n,h3⟩:=(show HY P w H h a (.tup (ks.map kV))from ok a _ e)
 exact⟨o,its.toArray,n,h1,h2,h3,by simpa using nX r⟩
def mf{kvs:List (List bf×V)}(ok:Kq P w H h)(e:Rd H a (.dT kvs)):kvs.length<=sizeLine/\(a == sysModules)=false/\
  ∃xs,KT H kvs xs/\h.DictOfH (tupleKind (aU P w)) a xs:=by
 obtain⟨z,y,xs,r,o,es,ep,h1,h2,h3,h4,h5⟩:=(show HY P w H h a (.dT kvs)from A1 ok e)
 refine⟨z,y,xs,r,o,es,ep,h1,h2,h3,h4,fun x hx=>?_,h5⟩
 have all:∀{l:List (List bf×V)} {m:List (List bf×Addr×Value)},KT H l m->∀x∈m,(tupleKind (aU P w)).is h x.1 x.2.1:=by
  intro l m q
  induction q with
  |nil=>intro x hx;exact nomatch hx
  |@cons p q ps qs hq t ih=>
   intro x hx
   rcases Th.mp hx with e|hx
   ·subst e
    exact cW ok (by rw[<-hq.1];exact hq.2.1)
   ·exact ih x hx
 exact all r x hx
def Er{kvs:List (List bf×V)}(ok:Kq P w H h)(e:H a=some (.dT kvs)):kvs.length<=sizeLine/\(a == sysModules)=false/\
  ∃xs,KT H kvs xs/\h.DictOfH (tupleKind (aU P w)) a xs:=mf ok (.inl e)
end
def DGet(H:Hp)(a:Addr)(y:V)(r:Option V):Prop:=
 (∃kvs k,Rd H a (.dK kvs)/\y=kV k/\r=i0 kvs k)\/∃kvs k b,Rd H a (.dT kvs)/\y = .ref b/\H b=some (.tup (k.map kV))/\r=i0 kvs k
def M0(H:Hp)(a:Addr)(y v:V)(H':Hp):Prop:=
 (∃kvs k,H a=some (.dK kvs)/\y=kV k/\kvs.length < sizeLine/\H'=upd H a (.dK (gT kvs k v))) \/
 ∃kvs k b,H a=some (.dT kvs)/\y = .ref b/\H b=some (.tup (k.map kV))/\kvs.length < sizeLine/\H'=upd H a (.dT (gT kvs k v))
theorem DGet.k{H:Hp}{a:Addr}{kvs:List (bf×V)}{k:bf}(e:H a=some (.dK kvs)):DGet H a (kV k) (i0 kvs k):=.inl ⟨kvs,k,.inl e,rfl,rfl⟩
theorem M0.k{H:Hp}{a:Addr}{kvs:List (bf×V)}{k:bf}{v:V}(e:H a=some (.dK kvs))(hl:kvs.length < sizeLine):M0 H a (kV k) v (upd H a (.dK (gT kvs k v))):=.inl ⟨kvs,k,e,rfl,hl,rfl⟩
section
variable {X:Cx} {pins:Va} {σ:St} {H:Hp} {s:Shared} {a:Addr} {y v:V} {u r:Value} {o:Option V} {A:Around} {E:Vq}
def Inv.big(I:Inv X pins σ H s):sysModules < s.heap.objs.size:=by
 have h:mainGlobals < s.heap.objs.size:=(I.mod.glob.keeps I.bk).lt
 exact UW (by decide) h
def uK{Q:Vq}(hu:A.units+1 < cLine)(I:Inv X pins σ H s)(g:DGet H a y (some v))(ry:RelV y u)(h:∀w' s',Inv X pins σ H s'->RelV v w'->Q w' s') :
  wpAny (model X.prog X.w) A (getItem (.ref a) u) Q E s:=by
 rcases g with⟨kvs,k,e,ey,l⟩|⟨kvs,k,b,e,ey,eb,l⟩
 ·subst ey
  obtain⟨z,hd,vs,rel,dd⟩:=lr I.hok e
  obtain⟨w',hw,rw'⟩:=RelO.some_of (v:=v) (o:=valueAt vs k) (by rw[l];exact rel.val k)
  exact wpAny_getItem_of (jT ry) dd.mapOf hw (h w' _ (I.tok _) rw')
 ·subst ey
  cases (show u=Value.ref b from ry)
  obtain⟨z,hd,xs,rel,dd⟩:=mf I.hok e
  obtain⟨w',hw,rw'⟩:=RelO.some_of (v:=v) (o:=(atKey xs k).map (·.2)) (by rw[l];exact rel.val k)
  obtain⟨p,hp,hp2⟩:=UC.mp hw
  refine wpAny_getItem_heap (V7 hu) (cW I.hok eb) dd hp ?_
  rw[hp2]
  exact h w' _ (I.tok _) rw'
def Es{Q:Vq}(hu:A.units+1 < cLine)(I:Inv X pins σ H s)(g:DGet H a y o)(ry:RelV y u)(h:∀s',Inv X pins σ H s'->Q (.bool o.isSome) s') :
  wpAny (model X.prog X.w) A (compareOp .In u (.ref a)) Q E s:=by
 rcases g with⟨kvs,k,e,ey,l⟩|⟨kvs,k,b,e,ey,eb,l⟩
 ·subst ey
  obtain⟨z,hd,vs,rel,dd⟩:=lr I.hok e
  refine wpAny_in_of (jT ry) hd dd.mapOf ?_
  rw[<-(rel.val k).JH,<-l]
  exact h _ (I.tok _)
 ·subst ey
  cases (show u=Value.ref b from ry)
  obtain⟨z,hd,xs,rel,dd⟩:=mf I.hok e
  refine wpAny_in_heap (V7 hu) (cW I.hok eb) hd dd ?_
  have q:=(rel.val k).JH
  rw[XA]at q
  rw[<-q,<-l]
  exact h _ (I.tok _)
def tM{Q:Vq}(hu:A.units+1 < cLine)(I:Inv X pins σ H s)(g:DGet H a y o)(ry:RelV y u)(h:∀s',Inv X pins σ H s'->Q (.bool (!o.isSome)) s') :
  wpAny (model X.prog X.w) A (compareOp .NotIn u (.ref a)) Q E s:=by
 rcases g with⟨kvs,k,e,ey,l⟩|⟨kvs,k,b,e,ey,eb,l⟩
 ·subst ey
  obtain⟨z,hd,vs,rel,dd⟩:=lr I.hok e
  refine wpAny_notIn_of (jT ry) hd dd.mapOf ?_
  rw[<-(rel.val k).JH,<-l]
  exact h _ (I.tok _)
 ·subst ey
  cases (show u=Value.ref b from ry)
  obtain⟨z,hd,xs,rel,dd⟩:=mf I.hok e
  refine wpAny_notIn_heap (V7 hu) (cW I.hok eb) hd dd ?_
  have q:=(rel.val k).JH
  rw[XA]at q
  rw[<-q,<-l]
  exact h _ (I.tok _)
def oR{h':Heap}{t':Nat}{ob:HO}(I:Inv X pins σ H s)(mu:DO (H a))(hs:Heap.SameBut a s.heap h')(he:∃q,h'.get? a=some q)(new:HY X.prog X.w (upd H a ob) h' a ob) :
  Inv X pins σ (upd H a ob) { s with heap:=h',toks:=t' }:=
 I.write (x:=a) (e:=a) mu (.inl rfl) (fun b q hb z=>(hs.2 b hb).trans z) he new
def wj{P:Program}{w:World}{H':Hp}{h':Heap}{kvs:List (bf×V)}{vs:List (bf×Value)}(z:kvs.length<=sizeLine)(hd:(a == sysModules)=false)(rel:KV kvs vs)(dd:h'.DictOf (aU P w) a vs) :
  HY P w H' h' a (.dK kvs):=⟨z,hd,vs,rel,dd⟩
def uL{H':Hp}{Q:Unit->Shared->Prop}(hu:A.units+1 < cLine)(I:Inv X pins σ H s)(g:M0 H a y v H')(ry:RelV y u)(rv:RelV v r)(h:∀s',Inv X pins σ H' s'->Q () s') :
  wpAny (model X.prog X.w) A (setItem (.ref a) u r) Q E s:=by
 rcases g with⟨kvs,k,e,ey,l,eH⟩|⟨kvs,k,b,e,ey,eb,l,eH⟩
 ·subst ey eH
  obtain⟨z,hd,vs,rel,dd⟩:=A2 I.hok e
  have hz:vs.length<=sizeLine:=by rw[<-rel.length];exact z
  have hl:(gT kvs k v).length<=sizeLine:=by have:=gU kvs k v;omega
  refine wpAny_setItem_pairs (hsz:=hz) (jT ry) dd fun h' Oc hs=>h _ ?_
  have he:∃q,h'.get? a=some q:=let ⟨q,_,_,hq,_⟩:=Oc;⟨q,hq⟩
  exact oR I (by rw[e];exact True.intro) hs he (wj hl hd (rel.put k rv) Oc)
 ·subst ey eH
  cases (show u=Value.ref b from ry)
  obtain⟨z,hd,xs,rel,dd⟩:=Er I.hok e
  have hz:xs.length<=sizeLine:=by rw[<-Paired.length rel];exact z
  have hl:(gT kvs k v).length<=sizeLine:=by have:=gU kvs k v;omega
  refine wpAny_setItem_heap (hsz:=hz) (V7 hu) (cW I.hok eb) dd fun h' Oc hs=>h _ ?_
  obtain⟨q,es,ep,hq,h2,h3,h4,_,h5⟩:=Oc
  refine oR I (by rw[e];exact True.intro) hs ⟨q,hq⟩ ⟨hl,hd,_,(rel.put k eb rv).keeps fun c ys ec=>?_,q,es,ep,hq,h2,h3,h4,h5⟩
  rw[aL (DN ec e (fun z=>nomatch z))]
  exact ec
end
section
variable {X:Cx} {pins:Va} {σ:St} {H:Hp} {s:Shared} {a:Addr} {kvs:List (bf×V)} {k:bf} {u:Value} {A:Around} {E:Vq}
def Eu{Q:Vq}(I:Inv X pins σ H s)(e:Rd H a (.dK kvs))(h:∀t s',Inv X pins σ H s'->Q (.int kvs.length t) s'):wpAny (model X.prog X.w) A (call (.builtin "len") [.ref a]) Q E s:=by
 obtain⟨z,hd,vs,rel,dd⟩:=lr I.hok e
 refine call_len_dict hd dd (by rw[<-rel.length];rw[WJ]at z;omega) ?_
 rw[<-rel.length]
 exact h _ _ (I.tok _)
end
def qB{X:Cx}{pins:Va}{σ:St}{H:Hp}{s:Shared}{a:Addr}{y:V}{o:Option V}(I:Inv X pins σ H s)(g:DGet H a y o):s.TypeIs (.ref a) "dict":=by
 rcases g with⟨kvs,k,e,_,_⟩|⟨kvs,k,b,e,_,_,_⟩
 ·obtain⟨_,_,vs,_,dd⟩:=lr I.hok e
  exact dd.typeIs
 ·obtain⟨_,_,xs,_,dd⟩:=mf I.hok e
  exact dd.typeIs
def qC{P:Program}{w:World}{H:Hp}(h:Heap)(hb:sysModules < h.objs.size):HY P w H (h.push { cls:=.type "dict",data:=.dict #[] }) h.objs.size (.dK []):=
 ⟨Ug _,beq_eq_false_iff_ne.mpr (VL (TM hb)),[],.nil,Heap.DictOf.new h⟩
noncomputable def oS:List (TE×TE)->St->Hp->(List (V×V)->Hp->Prop)->Prop
 |[],_,H,Q=>Q [] H
 |(tk,tv)::r,σ,H,Q=>tk σ H fun x H1=>tv σ H1 fun y H2=>oS r σ H2 fun ps H3=>Q ((x,y)::ps) H3
noncomputable abbrev VV:List (V×V)->List (Value×Value)->Prop:=Paired fun p q=>RelV p.1 q.1/\RelV p.2 q.2
def Ev(X:Cx)(pos:Pos)(keys:List (Option Expr))(values:List Expr)(Lc:List (TE×TE)):Prop:=
 ∀(pins:Va) (s:Shared) (σ:St) (H:Hp) (Q:List (V×V)->Hp->Prop),Inv X pins σ H s->oS Lc σ H Q->
  wpAny (model X.prog X.w) X.A (evalPairs (pairTrees keys values X.env pos)) (fun vs s'=>∃ps H',Inv X pins σ H' s'/\VV ps vs/\Q ps H') X.xe s
def zr{X:Cx}{pos:Pos}:Ev X pos [] [] []:=fun pins s σ H Q I h=>pairTrees_nil_walk ⟨[],H,I,.nil,h⟩
def wk{X:Cx}{pos:Pos}{k v:Expr}{ks:List (Option Expr)}{vs:List Expr}{tk tv:TE}{Lc:List (TE×TE)}(hk:PE X k tk)(hv:PE X v tv)(hr:Ev X pos ks vs Lc) :
  Ev X pos (some k::ks) (v::vs) ((tk,tv)::Lc):=fun pins s σ H Q I h=>
 pairTrees_cons_walk (Ho (hk pins s σ H _ I h) fun u s1 ⟨x,H1,I1,rx,q1⟩=>Ho (hv pins s1 σ H1 _ I1 q1) fun w2 s2 ⟨y,H2,I2,ry,q2⟩=>
  Ho (hr pins s2 σ H2 _ I2 q2) fun ws s3 ⟨ps,H3,I3,rel,q3⟩=>⟨(x,y)::ps,H3,I3,.cons ⟨rx,ry⟩ rel,q3⟩)
noncomputable def fN(kvs more:List (bf×V)):List (bf×V):=more.foldl (fun acc kv=>gT acc kv.1 kv.2) kvs
def KV.merge:∀{more:List (bf×V)} {rs:List (bf×Value)} {kvs:List (bf×V)} {vs:List (bf×Value)},KV more rs->KV kvs vs->KV (fN kvs more) (merged vs rs):=by
 intro more rs kvs vs r
 unfold KV at r
 induction r generalizing kvs vs with
 |nil=>intro q;exact q
 |@cons p q ps qs h t ih=>
  intro r0
  have e:KV (gT kvs p.1 p.2) (stored vs q.1 q.2):=by
   have:=r0.put p.1 h.2
   rw[<-h.1];exact this
  exact ih e
theorem fe:∀(more kvs:List (bf×V)),(fN kvs more).length<=kvs.length+more.length
 |[],kvs=>by show kvs.length<=kvs.length+0;omega
 |p::r,kvs=>by
  have h1:=fe r (gT kvs p.1 p.2)
  have h2:=gU kvs p.1 p.2
  show(fN (gT kvs p.1 p.2) r).length<=_
  rw[TL];omega
theorem mh{P:Program}{w:World}:∀{kvs:List (bf×V)} {ws:List (Value×Value)},VV (kvs.map fun kv=>(kV kv.1,kv.2)) ws->∃rs,Carries (aU P w) ws rs/\KV kvs rs
 |[],_,r=>by rw[TZ]at r;cases r;exact⟨[],True.intro,.nil⟩
 |p::kvs,_,r=>by
  rw[TQ]at r
  cases r with
  |@cons a b as bs h t=>
   obtain⟨rs,c,q⟩:=mh (P:=P) (w:=w) t
   obtain⟨b1,b2⟩:=b
   exact⟨(p.1,b2)::rs,⟨jT h.1,rfl,c⟩,.cons ⟨rfl,h.2⟩ q⟩
def Ew(Lc:List (TE×TE)):TE:=fun σ H Q=>∀p,H p=none->oS Lc σ (upd H p (.dK [])) fun ps H2=>H2 p=some (.dK [])/\∃kvs:List (bf×V),ps=kvs.map (fun kv=>(kV kv.1,kv.2))/\kvs.length<=15/\Q (.ref p) (upd H2 p (.dK (fN [] kvs)))
def zt{X:Cx}{pos:Pos}{keys:List (Option Expr)}{values:List Expr}{Lc:List (TE×TE)}(h:Ev X pos keys values Lc)(hall:keys.all (·.isSome)=true)(hl:keys.length=values.length)(h0:keys≠[])
  (Qg:keys.length<=15):PE X (.Dict keys values pos) (Ew Lc):=by
 intro pins s σ H Q I q
 have hn:=I.hok.fresh (Tq s.heap.objs.size)
 have I1:=I.laid (a:=s.heap.objs.size) (o:=.dK []) (h':=s.heap.push { cls:=.type "dict",data:=.dict #[] }) (t':=s.toks) (fun _ _ q=>Td _ q) (Tq _) (qC s.heap I.big)
 refine wpAny_Dict_walk (knd:=aU X.prog X.w) hall hl h0 Qg (Ho (h pins _ σ _ _ I1 (q _ hn)) fun ws s2 ⟨ps,H2,I2,rel,e,kvs,ep,lk,q2⟩=>?_)
 subst ep
 obtain⟨rs,c,rk⟩:=mh (P:=X.prog) (w:=X.w) rel
 obtain⟨z,hd,vs0,r0,dd⟩:=A2 I2.hok e
 cases r0
 refine⟨rs,c,dd,fun h' Oc hs=>⟨.ref s.heap.objs.size,_,?_,rfl,q2⟩⟩
 have hz:(fN [] kvs).length<=sizeLine:=by
  have h1:=fe kvs []
  rw[Vt]at h1
  rw[WJ];omega
 have he:∃q,h'.get? s.heap.objs.size=some q:=let ⟨q,_,_,hq,_⟩:=Oc;⟨q,hq⟩
 exact oR I2 (by rw[e];exact True.intro) hs he (wj hz hd (rk.merge .nil) Oc)
structure M2 (X:Cx) (o:Expr) (m:Str) (apos:Pos) (e f:Expr) (cpos:Pos):Prop where
 base:attributeBase o m X.env (eval o X.env)=eval o X.env
 few:((backTo cpos (starEach [e,f] X.env)).all (fun x=>!x.1)&&(backToKw cpos (keywordEach [] X.env)).all (fun x=>x.1.isSome)
  && decide (([e,f]:List Expr).length+([]:List Keyword).length+(if ([]:List Keyword).isEmpty then 0 else 1) < 30))=true
 line:(apos.endLine == cpos.line)=true
 trees:backTo cpos (starEach [e,f] X.env)=[(false,eval e X.env),(false,eval f X.env)]
def GL(H:Hp)(a:Addr):Prop:=(∃kvs,Rd H a (.dK kvs))\/∃kvs,Rd H a (.dT kvs)
def Cn{X:Cx}{pins:Va}{σ:St}{H:Hp}{s:Shared}{a:Addr}(I:Inv X pins σ H s)(d:GL H a) :
  s.TypeIs (.ref a) "dict"/\(∀b,Value.ref a = .ref b->∃ob,s.heap.get? b=some ob/\ob.dict=none)/\(a == sysModules)=false:=by
 rcases d with⟨kvs,e⟩|⟨kvs,e⟩
 ·obtain⟨_,hd,vs,_,dd⟩:=lr I.hok e
  refine⟨dd.typeIs,fun b q=>?_,hd⟩
  cases q
  obtain⟨ob,_,_,h1,h2,_⟩:=dd
  exact⟨ob,h1,h2.2.1⟩
 ·obtain⟨_,hd,xs,_,dd⟩:=mf I.hok e
  refine⟨dd.typeIs,fun b q=>?_,hd⟩
  cases q
  obtain⟨ob,_,_,h1,h2,_⟩:=dd
  exact⟨ob,h1,h2.2.1⟩
section
variable {X:Cx} {pins:Va} {σ:St} {H:Hp} {s:Shared} {a:Addr} {y d:V} {u r:Value} {o:Option V} {A:Around} {E:Vq}
def Co{Q:Vq}(hu:A.units+1 < cLine)(I:Inv X pins σ H s)(g:DGet H a y o)(ry:RelV y u)(rd:RelV d r)(h:∀w' s',Inv X pins σ H s'->RelV (o.getD d) w'->Q w' s') :
  wpAny (model X.prog X.w) A (call (.builtin "dict.get") [.ref a,u,r]) Q E s:=by
 rcases g with⟨kvs,k,e,ey,l⟩|⟨kvs,k,b,e,ey,eb,l⟩
 ·subst ey
  obtain⟨z,hd,vs,rel,dd⟩:=lr I.hok e
  refine call_meetsIn VM dd.typeIs WX (WL _ _ _) (meets_dict_get_default (aU X.prog X.w) a (jT ry) hd r) ⟨_,dd.mapOf,h _ _ (I.tok _) ?_⟩
  rw[l]
  exact(rel.val k).getD rd
 ·subst ey
  cases (show u=Value.ref b from ry)
  obtain⟨z,hd,xs,rel,dd⟩:=mf I.hok e
  refine call_meetsIn VM dd.typeIs WX (WL _ _ _) (meetsH_dict_get_default (tupleKind (aU X.prog X.w)) a b hd r) ⟨V7 hu,k,xs,cW I.hok eb,dd,h _ _ (I.tok _) ?_⟩
  rw[l]
  exact(rel.val k).getD rd
end
def Cp(td ty tx:TE):TE:=fun σ H Q=>td σ H fun x H1=>∃a,x = .ref a/\GL H1 a/\ty σ H1 fun y H2=>tx σ H2 fun z H3=>∃o,DGet H3 a y o/\Q (o.getD z) H3
section
variable {X:Cx} {o e f:Expr} {apos cpos:Pos} {td ty tx:TE}
def wm(hu:X.A.units+1 < cLine)(ho:PE X o td)(he:PE X e ty)(hf:PE X f tx)(m:M2 X o "get" apos e f cpos):PE X (.Call (.Attribute o "get" apos) [e,f] [] cpos) (Cp td ty tx):=by
 intro pins s σ H Q I h
 refine wpAny_Call_method m.base m.few m.line PySem.F.plainAttrs_dict VM PySem.F.type_dict_get (Ho (ho pins s σ H _ I h) fun u s1 ⟨x,H1,I1,rx,a,ex,d,q1⟩=>?_)
 subst ex
 obtain rfl:u=Value.ref a:=rx
 obtain⟨t1,t2,_⟩:=Cn I1 d
 refine⟨t1,t2,?_⟩
 rw[m.trees]
 refine VD rfl (Wg (UM (Ho (he pins s1 σ H1 _ I1 q1) fun iv s2 ⟨y,H2,I2,ry,q2⟩=>
  UM (Ho (hf pins s2 σ H2 _ I2 q2) fun fv s3 ⟨z,H3,I3,rz,ov,g,q3⟩=>Vb ?_))))
 exact Co hu I3 g ry rz fun w' s4 I4 rw'=>⟨_,H3,I4,rw',q3⟩
end
end L2
namespace Att
open PySem PySem.W PySem.Calls PyProof.Rows
def lN{P:Params}{h:Heap}:∀(ns:Vu) (vs:Vv),WellAll P h vs (ns.map WData.int)->IntsAre vs ns:=by
 intro ns
 induction ns with
 |nil=>
  intro vs w
  rw[TZ]at w
  cases w
  exact .nil
 |cons n ns ih=>
  intro vs w
  rw[TQ]at w
  cases w with
  |cons a b=>
   cases a
   exact .cons _ _ (ih _ b)
def uM{l:OpenLaw}{n:Nat}(hn:l.most=some n){P:Params}{h:Heap}{args:List WData}{vals:Vv}
  (hpre:l.row.toRowW.claim.pre args=true) (hwl:WellAll P h vals args) :
  ∃a vs ns,vals=[Value.ref a]/\args=[WData.list (ns.map WData.int)]/\h.get? a=some { cls:=.type "list",data:=.seq vs.toArray }/\IntsAre vs ns/\ns.length<=n:=by
 have hsh:WShape.hasAll [] args [.list .int]=true:=(pre_splitW hpre).1
 have hc:l.pre.holds [] { args:=args }=true:=(pre_splitW hpre).2
 obtain⟨d,r,rfl,h1,h2⟩:=hasAllW_cons hsh
 obtain rfl:=hasAllW_nil h2
 obtain⟨xs,rfl,h3⟩:=hasW_list h1
 obtain⟨ns,rfl⟩:=items_int h3
 have hlen:ns.length<=n:=by
  unfold OpenLaw.pre at hc
  have h4:(WTm.not (.lt (.lit (.int (n:Int))) (.len (.arg 0)))).holds [] { args:=[.list (ns.map .int)] }=true:=by
   have h4:=(holds_andW hc).1
   rw[hn]at h4
   exact h4
  have h5:=condW_of h4 (w_not (w_lt w_lit (w_len_list (w_arg rfl))))
  rw[Ti]at h5
  refine Nat.le_of_not_lt fun q=>?_
  have q':(n:Int) < ((ns.length:Nat):Int):=by omega
  first
   |(rw[TN q']at h5;exact absurd h5 (by decide))
   |(simp at h5;omega)
 cases hwl with
 |cons w1 w2=>
  cases w2
  cases w1 with
  |list ho hall=>exact⟨_,_,ns,rfl,rfl,ho,lN ns _ hall,hlen⟩
def uN(l:OpenLaw)(args:List WData):l.row.toRowW.claim.post args (.bool true) args=true:=
 postW_of (r:=l.row.toRowW) (X:=(true == true))
  (show WShape.has [] (.bool true) .bool=true by first|rfl|decide|simp[WShape.has,WShape.arms,WShape.armsAll])
  (show(WTm.eq .res (.lit (.bool true))).value [] { args:=args,res:=some (.bool true),after:=args }=some (.bool (true == true))from w_eq_bool (w_res rfl) w_lit) rfl
def qD{l:OpenLaw}{n:Nat}{q:Program}{loose:Vs}{XP:(Vr)->Heap->Prop}{YP:World->Heap->Prop}{d:DefRec}
  (hn:l.most=some n) (hdf:d.params.defaults=[])
  (call:∀(w:World) (s₀ s₁:Shared) (mg mb:Vr) (fa:Addr) (o:Obj) (pm cd doc:Value) (a:Addr) (vs:Vv) (ns:Vu),
   Ground q loose [] XP w s₀ mg mb s₁.heap->YP w s₁.heap->
   s₁.heap.get? fa=some o->o.data = .func (docDef d.name d.params d.body d.scope pm cd doc)->s₁.heap.CodeRec cd d.name->mg d.name=some (.ref fa)->
   s₁.heap.get? a=some { cls:=.type "list",data:=.seq vs.toArray }->IntsAre vs ns->ns.length<=n->s₁.gens=#[]->
   codeAny (model l.prog w) callerA (.call (.ref fa) ⟨[.ref a],[]⟩) (fun r s'=>r = .ok (.ret (.bool true))/\OldK s₁.heap s'.heap/\s'.os=s₁.os/\AllBare s'.gens) s₁) :
  WalkO q loose XP YP l.row.toRowW d [] (fun f vs=>PySem.call f vs):=by
 intro w s₀ s₁ mg mb G Y fa o pm cd doc dV kV ho hd hcd hD hmg hg args vals as hpre hlay hrd hwl hlo
 obtain rfl:dV = .none:=Dflts.none hD hdf
 obtain rfl:kV = .none:=Dflts.noKw hD
 obtain⟨a,vs,ns,rfl,rfl,hobj,hints,hlen⟩:=uM hn hpre hwl
 refine enter_call (Xn (call w s₀ s₁ mg mb fa o pm cd doc a vs ns G Y ho (fd_plain hd) hcd hmg hobj hints hlen hg) fun r s' hq=>?_)
 obtain⟨rfl,h2,h3,h4⟩:=hq
 exact⟨.inl ⟨.bool true,.bool true,[],rfl,fun _=>rfl,.bool true,uN l _,fun _=>⟨List.Pairwise.nil,fun _ hm=>(nomatch hm)⟩⟩,h2,h3,h4⟩
end Att
namespace L2
open PySem PySem.Spec PyProof.Rows
theorem iD:∀{vs:Vv} {ns:Vu},IntsAre vs ns->Vals (ns.map V.int) vs
 |_,_,.nil=>.nil
 |_,_,.cons n t h=>.cons ⟨t,rfl⟩ (iD h)
def zu(H:Hp):Prop:=∀b,H b=none\/∃o xs,H b=some (.frz o (.lst xs))
def wn{P:Program}{w:World}{K:Vo}{mg mb:Vr}{CX:yQ}{k:Nat}{fa a:Addr}{fd:FuncData}{x:Str}{sp:Sp}{s₁:Shared}{vs:Vv}{ns:Vu}
  (KX:K.In s₁.heap) (hns:s₁.heap.Ns mainGlobals mg) (hb:s₁.heap.Ns builtinsNs mb) (R6:∀x:Str,x ≠ "__name__"->mb x=bootBuiltins x) (hlim:s₁.heap.NoLimit) (hg:s₁.gens=#[])
  (ha:s₁.heap.get? a=some { cls:=.type "list",data:=.seq vs.toArray }) (hi:IntsAre vs ns) (hl:ns.length<=sizeLine) (hr:Room k callerA)
  (F:∀base:Heap,K.In base->base.Ns mainGlobals mg->nq P w K mg base CX k fa fd [x] sp) (hbind:∀(s:Shared) (u:Value),BindsTo s fd ⟨[u],[]⟩ [(x,u)])
  (Nm:∀H:Hp,zu H->SqL K H a (ns.map V.int)->sp [.ref a] H (fun v _=>v = .bl true) fun _ _ _=>False)
  (Qh:∀H e s',CX [] H s₁ (fun _ _ _=>False) e s'->False) :
  codeAny (model P w) callerA (.call (.ref fa) ⟨[.ref a],[]⟩) (fun r s'=>r = .ok (.ret (.bool true))/\OldK s₁.heap s'.heap/\s'.os=s₁.os/\AllBare s'.gens) s₁:=by
 have rv:=iD hi
 have Qi:=hi.length
 -- from an abstract heap in which nothing but the script may be tracked
 have core:∀H:Hp,zu H->SqL K H a (ns.map V.int)->Kq P w H s₁.heap->(∀b,H b≠none->b=a)->(H a≠none->K.lookup a=none)->
   codeAny (model P w) callerA (.call (.ref fa) ⟨[.ref a],[]⟩) (fun r s'=>r = .ok (.ret (.bool true))/\OldK s₁.heap s'.heap/\s'.os=s₁.os/\AllBare s'.gens) s₁:=by
  intro H hO hS hok hA hK
  have MB:∀{b:Addr} {o:Obj},s₁.heap.get? b=some o->H b=none->(oJ s₁.heap H).get? b=some o:=fun e n=>vU e n
  have OQ:∀{b:Addr} {o:Obj} {es:Array DictEntry} {ep:Nat},s₁.heap.get? b=some o->o.data = .dict es ep->H b=none:=fun{b o es ep} e d=>by
   cases q:H b with
   |none=>rfl
   |some u=>
    have e':b=a:=hA b (by rw[q];simp)
    subst e'
    rw[ha]at e;cases e
    have d':Data.seq vs.toArray _=Data.dict es ep:=d
    cases d'
  have Pw:∀{b:Addr} {m:Vr},s₁.heap.Ns b m->(oJ s₁.heap H).Ns b m:=fun{b m} ⟨o,es,ep,e,d,r⟩=>⟨o,es,ep,MB e (OQ e d),d,r⟩
  have Rf:K.In (oJ s₁.heap H):=fun b o e=>MB (KX b o e) (by
   cases q:H b with
   |none=>rfl
   |some u=>
    have e':b=a:=hA b (by rw[q];simp)
    subst e'
    rw[hK (by rw[q];simp)]at e;cases e)
  have hM:Mod K mg (oJ s₁.heap H):=⟨Rf,Pw hns,⟨mb,Pw hb,R6⟩,let ⟨mc,h1,h2⟩:=hlim;⟨mc,Pw h1,h2⟩⟩
  have e0:zh P w K mg (oJ s₁.heap H) callerA [] s₁ H:=⟨rfl,hM,fun b o e=>yU e,XO (uz _ _),trivial,fun b hb=>absurd (show b∈([]:List Addr)from hb) (by simp),hok,.of_eq hg⟩
  refine Xn ((F _ Rf (Pw hns)).run callerA [] s₁ H ⟨[.ref a],[]⟩ [.ref a] [.ref a] _ _ hr e0 (hbind s₁ (.ref a)) (.cons rfl .nil) (Nm H hO hS)) fun r s' h=>?_
  cases r with
  |error e=>exact(Qh H e s' h).elim
  |ok fl=>
   cases fl with
   |next=>exact False.elim h
   |brk=>exact False.elim h
   |cont=>exact False.elim h
   |ret u=>
    obtain⟨v,H',os,bare,un,Qj,r',q⟩:=h
    have q':v = .bl true:=q
    subst q'
    obtain rfl:u=Value.bool true:=r'
    refine⟨rfl,OldK.of_keep fun b o e=>?_,os,bare⟩
    cases q:H b with
    |none=>exact un.keep b o e q (by intro z;exact absurd (show b∈([]:List Addr)from z) (by simp)) (by simp)
    |some u=>
     rcases hO b with z|⟨ob,xs,z⟩
     ·rw[q]at z;cases z
     ·have z2:=un.LB b ob _ z
      obtain⟨e1,_⟩:=hok b _ z
      obtain⟨e2,_⟩:=Qj b _ z2
      rw[e]at e1;cases e1
      exact e2
 cases hk:K.lookup a with
 |some o=>
  -- the script is one of the module's own objects
  have e:=KX a o hk
  rw[ha]at e
  cases e
  refine core (fun _=>none) (fun _=>.inl rfl) (.inr ⟨_,vs.toArray,_,hk,rfl,rfl,rfl,by rw[Tr,Qi];exact hl,by simpa using rv⟩) (fun b u z=>by have z':(none:Option HO)=some u:=z;cases z') (fun b z=>absurd rfl z) fun z=>absurd rfl z
 |none=>
  refine core (fun b=>if b=a then some (.frz { cls:=.type "list",data:=.seq vs.toArray } (.lst (ns.map V.int))) else none) (fun b=>?_) (.inl (.inr ⟨{ cls:=.type "list",data:=.seq vs.toArray },if_pos rfl⟩)) (fun b u z=>?_) (fun b z=>?_) fun _=>hk
  ·by_cases hb:b=a
   ·exact .inr ⟨_,_,if_pos hb⟩
   ·exact .inl (if_neg hb)
  ·by_cases hb:b=a
   ·have z':=(if_pos hb).symm.trans z
    cases z'
    subst hb
    exact⟨ha,by rw[Ti];exact hl,vs,_,rv,ha⟩
   ·have z':=(if_neg hb).symm.trans z
    cases z'
  ·by_cases hb:b=a
   ·exact hb
   ·exact absurd (if_neg hb) z
def zv{l:PySem.W.OpenLaw}{n k:Nat}{q:Program}{loose:Vs}{XP:(Vr)->Heap->Prop}{YP:World->Heap->Prop}{d:DefRec}{K:Params->PySem.W.Frag}{CX:World->yQ}{sp:World->Sp}{x:Str}
  (hn:l.most=some n) (hn2:n<=sizeLine) (hdf:d.params.defaults=[]) (hr:Room k callerA)
  (hY:∀(w:World) (h:Heap),YP w h->(K w.params).In h)
  (F:∀(w:World) (mg:Vr) (fa:Addr) (h:Heap),(K w.params).In h->h.Ns mainGlobals mg->mg d.name=some (.ref fa)->
   ∃fd:FuncData,(∀(s:Shared) (u:Value),BindsTo s fd ⟨[u],[]⟩ [(x,u)])/\
    ∀base:Heap,(K w.params).In base->base.Ns mainGlobals mg->nq l.prog w (K w.params) mg base (CX w) k fa fd [x] (sp w))
  (Nm:∀(w:World) (H:Hp) (a:Addr) (ns:Vu),ns.length<=n->zu H->SqL (K w.params) H a (ns.map V.int)->sp w [.ref a] H (fun v _=>v = .bl true) fun _ _ _=>False)
  (Qh:∀(w:World) (H:Hp) (s:Shared) (e:Value) (s':Shared),CX w [] H s (fun _ _ _=>False) e s'->False) :
  PySem.W.WalkO q loose XP YP l.row.toRowW d [] (fun f vs=>PySem.call f vs):=by
 refine Att.qD hn hdf fun w s₀ s₁ mg mb fa o pm cd doc a vs ns G Y ho hd hcd hmg hobj hints hlen hg=>?_
 have KX:=hY w _ Y
 obtain⟨fd,hb,hF⟩:=F w mg fa _ KX G.T.g hmg
 exact wn KX G.T.g G.T.b G.T.builtins G.T.nolimit hg hobj hints (TR hlen hn2) hr hF hb (fun H hO hS=>Nm w H a ns hlen hO hS) fun H e s'=>Qh w H s₁ e s'
noncomputable def b8(s:Stmt):Arguments:=match s with
 | .FunctionDef _ a _ _ _ _ _ _ _ _=>a
 |_=>{ posonlyargs:=[],args:=[],vararg:=none,kwonlyargs:=[],kw_defaults:=[],kwarg:=none,defaults:=[] }
noncomputable def bj(s:Stmt):List Stmt:=match s with
 | .FunctionDef _ _ b _ _ _ _ _ _ _=>b
 |_=>[]
noncomputable def aJ(s:Stmt):Scope:=match s with
 | .FunctionDef _ _ _ _ _ _ sc _ _ _=>sc
 |_=>{ kind:=.function,names:=[],isGenerator:=false,isCoroutine:=false }
noncomputable abbrev yR:yQ:=fun _ _ _ _ _ _=>False
noncomputable abbrev E0:XK:=fun _ _ _=>False
def A3{X:Cx}:rY yR X E0:=fun _ _ _ _ _ _ _ h=>h.elim
structure NQ (K:Vo) (x qual:Str) (st:Stmt) (f:Addr) (fd:FuncData):Prop where
 ex:∃(oc:Value) (od:Option Addr) (kV doc pm:Value) (an:Option Addr) (cdv ct:Value) (osl:Array (Option Value)),
  fd=PySem.W.fnOf x qual (b8 st) (bj st) (aJ st) .none kV doc pm an cdv ct/\K.lookup f=some ⟨oc,od,.func fd,osl⟩/\PySem.W.codeIn K cdv qual=true
 kp:PySem.W.keepIn K (.ref f)=true
section
variable {P:Program} {w:World} {K:Vo} {mg:Vr} {base:Heap}
def NQ.ok{x qual:Str}{st:Stmt}{f:Addr}{fd:FuncData}{N ps:Vs}{k:Nat}{sp:Sp}(F:NQ K x qual st f fd)(S:dS N ps (aJ st))(len:∀vs H Q E,sp vs H Q E->vs.length=ps.length)
  (hbody:∀(cdv:Value) (A:Around) (outer:List Env) (s:Shared) (H:Hp) (vs:List V) (Q:VK) (E:XK),Room k (A.deeper (envOfC qual (aJ st) s.heap.objs.size f cdv))->sp vs H Q E->
   ∃t,Ma (qy yR P w K mg base N qual (aJ st) f cdv A outer s H E).N7 (bj st) t/\t { nx:=fun _ H'=>Q .non H',rt:=Q } (start N vs) H):nq P w K mg base yR (k+1) f fd ps sp:=by
 obtain⟨oc,od,kV,doc,pm,an,cdv,ct,osl,rfl,lk,hcd⟩:=F.ex
 refine A0 lk hcd S len fun A outer s H vs Q E hr Nm=>?_
 obtain⟨t,h,q⟩:=hbody cdv A outer s H vs Q E hr Nm
 exact⟨t,h.N7,q⟩
def NQ.binds{x qual:Str}{st:Stmt}{f:Addr}{fd:FuncData}{ps:Vs}(F:NQ K x qual st f fd)
  (h:∀(kV doc pm:Value) (an:Option Addr) (cdv ct:Value) (us:Vv),us.length=ps.length->bindArgs (PySem.W.fnOf x qual (b8 st) (bj st) (aJ st) .none kV doc pm an cdv ct) ⟨us,[]⟩=pure (ps.zip us)):Binds K fd ps []:=by
 obtain⟨oc,od,kV,doc,pm,an,cdv,ct,osl,rfl,lk,hcd⟩:=F.ex
 exact .all (h kV doc pm an cdv ct)
def oU{x qual:Str}{st:Stmt}{f:Addr}{oc:Value}{od an:Option Addr}{osl:Array (Option Value)}{kV doc pm cdv ct:Value}(l:K.lookup f=some ⟨oc,od,.func (PySem.W.fnOf x qual (b8 st) (bj st) (aJ st) .none kV doc pm an cdv ct),osl⟩)
  (c:PySem.W.codeIn K cdv qual=true) (k:PySem.W.keepIn K (.ref f)=true):NQ K x qual st f (PySem.W.fnOf x qual (b8 st) (bj st) (aJ st) .none kV doc pm an cdv ct):=⟨⟨oc,od,kV,doc,pm,an,cdv,ct,osl,rfl,l,c⟩,k⟩
end
def fA{n:Nat}(h:n<=1000):n < sizeLine:=Xq h (by decide)
section
variable {X:Cx}
def uO:dB X (.builtin "len") (fun xs H Q=>∃a kvs,xs=[V.ref a]/\H a=some (.dK kvs)/\Q (.int kvs.length) H):=by
 intro pins s σ H xs us Q I r h
 obtain⟨a,kvs,rfl,ha,q⟩:=h
 obtain⟨u,rfl,ru⟩:=cV r
 cases ru
 exact Eu I (.inl ha) fun t s' I'=>⟨.int kvs.length,H,I',⟨t,rfl⟩,q⟩
end
end L2
set_option maxHeartbeats 4000000
namespace L2
open PySem PySem.Spec PyProof.Rows
def oV{prog:Program}{w:World}{A:Around}{R:Result->Shared->Prop}{s:Shared}{elt target iter:Expr}{ifs:List Expr}{scope:Scope}{pos:Pos}{it acc:Value}{env:Env}(I:Nat->Shared->Prop)
  (turn:∀n s,I n s->wpAny (model prog w) A (pyNext it) (fun r s₁=>match r with
   |none=>R (.ok .next) s₁
   |some v=>wpAny (model prog w) A (letOwnedTupleGo target it v) (fun _ s₁'=>wpAny (model prog w) A (assign target env v) (fun _ s₂=>
     wpAny (model prog w) A (forIn ifs true fun c r=>if r=true then do let ok <-isTrue c env (eval c env);pure (ForInStep.yield ok) else pure (ForInStep.yield r)) (fun ok s₃=>
      if ok=true then wpAny (model prog w) A (eval elt env) (fun x s₄=>
       wpAny (model prog w) A (call (.builtin "list.append") [acc,x]) (fun _ s₅=>∃m,m < n/\I m s₅) (fun _ _=>False) s₄) (fun _ _=>False) s₃
      else ∃m,m < n/\I m s₃) (fun _ _=>False) s₂) (fun _ _=>False) s₁') (fun _ _=>False) s₁) (fun _ _=>False) s)
  (n:Nat) (h:I n s) :
  codeAny (model prog w) A (.compLoop (.ListComp elt [⟨target,iter,ifs,0⟩] scope pos) 0 it acc env) R s:=by
 refine codeAny_loop rfl I (fun n s hI=>?_) n h
 show wpAny _ A ((compTurn (.ListComp elt [⟨target,iter,ifs,0⟩] scope pos) 0 it acc env).onRaise (fun x=>do noteFrame x env;theTreesLotGoes x)) _ _ s
 refine wpAny_noted ?_
 rw[compTurn_list]
 refine Tc (wpAny_standAt (Tc (V5 (turn n s hI) (fun r s₁ h₁=>?_) fun _ _ h'=>h'.elim)))
 cases r with
 |none=>exact Tf h₁
 |some v=>
  refine Tc (V5 h₁ (fun _ s₁' h₁'=>?_) fun _ _ h'=>h'.elim)
  refine Tc (V5 h₁' (fun _ s₂ h₂=>Tc (V5 h₂ (fun ok s₃ h₃=>?_) fun _ _ h'=>h'.elim)) fun _ _ h'=>h'.elim)
  cases ok with
  |false=>exact Tf ⟨rfl,h₃⟩
  |true=>
   exact Tc (Tc (V5 h₃ (fun x s₄ h₄=>Tc (V5 h₄ (fun _ s₅ h₅=>Tf (Tf ⟨rfl,h₅⟩)) fun _ _ h'=>h'.elim)) fun _ _ h'=>h'.elim))
structure Bk where
 C:Addr
 s:Shared
 H:Hp
 fp:List Addr
 pn:Va
noncomputable def cX(env:Env)(fs:Vs):List (Str×Addr):=fs.map fun x=>(x,(env.cells.lookup x).getD 0)
noncomputable abbrev Cx.Km(X:Cx)(N:Vs)(scope:Scope)(fs:Vs)(B:Bk):Cx:=
 { X with N:=N,s₀:=B.s,H₀:=B.H,env:=compEnvC scope (cX X.env fs) B.C X.env,outer:=X.stack,ex:=B.fp,fn:=fun _=>false,pn:=B.pn,xe:=fun _ _=>False }
noncomputable def cK(env:Env):List Str->Prop
 |[]=>True
 |x::r=>(∃c,env.cells.lookup x=some c)/\cK env r
theorem lu{env:Env}:∀{fs:Vs},cK env fs->∀{x:Str} {c:Addr},(cX env fs).lookup x=some c->env.cells.lookup x=some c
 |[],_,x,c,h=>by cases h
 |y::r,k,x,c,h=>by
  obtain⟨⟨d,hd⟩,k⟩:=k
  have h':List.lookup x ((y,(env.cells.lookup y).getD 0)::cX env r)=some c:=h
  rw[List.lookup_cons]at h'
  cases e:x == y with
  |true=>
   rw[e]at h'
   have e':x=y:=by simpa using e
   subst e'
   rw[hd]at h'
   rw[hd]
   exact h'
  |false=>
   rw[e]at h'
   exact lu k h'
noncomputable def oW(names:List (Str×NameKind))(cl:List (Str×Addr)):Bool:=names.all fun y=>(y.2 != .cell&&y.2 != .free) || (cl.lookup y.1).isSome
def wo{names:List (Str×NameKind)}{cl:List (Str×Addr)}{x:Str}{k:NameKind}(h:oW names cl=true)(e:names.lookup x=some k)(hk:k = .cell\/k = .free):∃c,cl.lookup x=some c:=by
 have hm:(x,k)∈names:=VA e
 have q:=W9.mp h _ hm
 have z:(cl.lookup x).isSome=true:=by
  rcases hk with rfl|rfl
  ·simpa using q
  ·simpa using q
 exact Option.isSome_iff_exists.mp z
noncomputable def IJ(env:Env)(scope:Scope)(cl:List (Str×Addr)):List Str->Prop
 |[]=>True
 |x::r=>((env.scope.names.lookup x=some .cell\/env.scope.names.lookup x=some .free)/\((relabel scope env).names.lookup x=some .cell\/(relabel scope env).names.lookup x=some .free)/\cl.lookup x=env.cells.lookup x)/\IJ env scope cl r
theorem IJ.mem{env:Env}{scope:Scope}{cl:List (Str×Addr)}:∀{l:Vs},IJ env scope cl l->∀x∈l,
  (env.scope.names.lookup x=some .cell\/env.scope.names.lookup x=some .free)/\((relabel scope env).names.lookup x=some .cell\/(relabel scope env).names.lookup x=some .free)/\cl.lookup x=env.cells.lookup x
 |[],_,x,h=>nomatch h
 |y::r,k,x,h=>by
  rcases Th.mp h with rfl|h
  ·exact k.1
  ·exact IJ.mem k.2 x h
noncomputable def fB(own:Nat)(fr:List Nat)(σ:St):St:=List.replicate own none++fr.map fun j=>(σ[j]?).getD none
noncomputable abbrev kB(us:Vv):Obj:={ cls:=.type "list",data:=.seq us.toArray us.length }
def uP(us:Vv)(u:Value):({ cls:=.type "list",data:=.seq (us.toArray.push u) (us.length+1) }:Obj)=kB (us++[u]):=by
 show({ cls:=.type "list",data:=.seq (us.toArray.push u) (us.length+1) }:Obj)={ cls:=.type "list",data:=.seq (us++[u]).toArray (us++[u]).length }
 rw[Te,TH,List.push_toArray]
section
variable {X:Cx} {pins:Va} {σ:St} {H:Hp} {s:Shared}
def Inv.OS{D:Addr}{us:Vv}{n:Nat}{ys:List V}(I:Inv X pins σ H s)(f:fL X pins H D)(e:s.heap.get? D=some { cls:=.type "list",data:=.seq us.toArray n })(r:Vals ys us)(hz:ys.length<=sizeLine) :
  Inv X pins σ (upd H D (.lst ys)) s:=by
 obtain⟨f0,f1,f2,f3,f4,f5⟩:=f
 have nD:∀b u,H b=some u->b≠D:=fun b u q=>bz q f0
 have hok:Kq X.prog X.w (upd H D (.lst ys)) s.heap:=fun b u q=>by
  by_cases hb:b=D
  ·subst hb
   rw[aH]at q
   cases q
   exact⟨hz,us,n,r,e⟩
  ·rw[aL hb]at q
   exact(I.hok b u q).stay (fun _ _ _ z=>z) (fun c z=>by rw[aL (nD c _ z)];exact z) fun c xs z=>by rw[aL (nD c _ z)];exact z
 exact I.step (H':=upd H D (.lst ys)) (h':=s.heap) (g':=s.gens) (t':=s.toks) (d':=s.drawn) (ch:=[D])
  (fun b hb=>by
   have z:b=D:=by simpa using hb
   subst z
   exact⟨f3,f1,f4,f5⟩)
  (fun _ _ _ _ _ q _=>q) (fun _ o _ _ _ q _=>⟨o.slots,q⟩)
  (fun b o hb _ n=>by rw[aL (fun z=>hb (by simp[z]))];exact n)
  (fun _ o _ q=>⟨o,q⟩) (fun b xs q=>by rw[aL (nD b _ q)];exact q) (fun b o u q=>by rw[aL (nD b _ q)];exact q)
  (fun b ps q=>⟨#[],by rw[aL (nD b _ q),q];simp⟩) (fun _ q=>q) hok I.bare
def Cq{N:Vs}{scope:Scope}{fs:Vs}{C:Addr}{fp:List Addr}(I:Inv X pins σ H s)(hkind:scope.kind = .function)(hC:s.heap.objs.size<=C)(hcl:cK X.env fs)
  (hhas:oW (relabel scope X.env).names (cX X.env fs)=true) (hf:∀b∈fp,fL X pins H b) (hlt:∀b∈fp,b < s.heap.objs.size):(X.Km N scope fs ⟨C,s,H,fp,X.pn++pins⟩).Ok where
 mod:=I.ok.mod
 kind:=hkind
 glob:=I.ok.glob
 blt:=I.ok.blt
 above:=hC
 inj:=fun x y c h1 h2=>I.ok.inj x y c (lu hcl h1) (lu hcl h2)
 has:=fun x hx=>by
  rcases hx with e|e
  ·exact wo hhas e (.inl rfl)
  ·exact wo hhas e (.inr rfl)
 Oy:=fun x c h=>by cases h
 hd:=I.ok.hd
 frames:=I.ok.frames
 stk:=.inl rfl
 P8:=fun b hb=>⟨TM (TU (hlt b hb) hC),fun x c e=>(hf b hb).2.2.2.2.1 x c (lu hcl e)⟩
 bs:=I.bs
 Nq:=TR I.ok.Nq I.sz
 MH:=fun b o e hb=>(hf b hb).2.2.2.1.elim (fun z=>I.ok.MH b o e z) fun z=>absurd (TU (To e) (TR I.ok.Nq z)) (U0 _)
 MX:=fun b hb z=>(Th.mp (I.KK b z)).elim (hf b hb).2.1 (hf b hb).2.2.1
 K9:=I.stack
 N5:=I.Mz
def zw{N:Vs}{scope:Scope}{fs:Vs}{C D:Addr}{fp:List Addr}{own:Nat}{fr:List Nat}{h₁:Heap}{m0:Vr}{t':Nat}(I:Inv X pins σ H s)
  (ok:(X.Km N scope fs ⟨C,s,H,fp,X.pn++pins⟩).Ok) (hC:s.heap.objs.size<=C) (hD:s.heap.objs.size<=D) (hDC:D≠C) (hcl:cK X.env fs)
  (old:∀b o,s.heap.get? b=some o->h₁.get? b=some o) (hns:h₁.Ns C m0) (hacc:h₁.get? D=some (kB [])) (hlen:N.length=own+fr.length) (hN:(N.drop own).map some=fr.map fun j=>X.N[j]?)
  (hF:IJ X.env scope (cX X.env fs) (N.drop own)) :
  Inv (X.Km N scope fs ⟨C,s,H,fp,X.pn++pins⟩) [(D,kB [])] (fB own fr σ) H { s with heap:=h₁,toks:=t' }:=by
 refine⟨ok,rfl,I.bare,Un.kept old,⟨m0,hns,fun i x v e1 e2 e3=>?_⟩,fun x c e=>?_,I.hok.fresh hC,fun x c e=>I.J3 x c (lu hcl e),fun p hp=>?_,I.hok.kept old,?_⟩
 ·have e1:N[i]?=some x:=e1
  by_cases hi:i < own
  ·unfold fB at e2
   rw[TX (by rw[UZ];exact hi),Vm,if_pos hi]at e2
   cases e2
  ·obtain⟨k,rfl⟩:∃k,i=own+k:=⟨i - own,by omega⟩
   have e1':(N.drop own)[k]?=some x:=by rw[Xr];exact e1
   have q:=Uu (fun l=>l[k]?) hN
   simp only[Tv,e1',Option.map_some]at q
   unfold fB at e2
   rw[T5 (by rw[UZ];omega),UZ,Nat.add_sub_cancel_left,Tv]at e2
   cases hj:fr[k]? with
   |none=>rw[hj]at e2;cases e2
   |some j=>
    rw[hj]at e2 q
    simp only[Option.map_some,Vn]at e2 q
    have hσ:σ[j]?=some (some v):=by
     cases z:σ[j]? with
     |none=>rw[z]at e2;cases e2
     |some w=>rw[z]at e2;simp only[Option.getD_some]at e2;rw[e2]
    obtain⟨k1,k2,k3⟩:=hF.mem x (T9 e1')
    obtain⟨m,hn,hl⟩:=I.loc
    have vis:Fw X.env.scope x:=by
     rcases k1 with z|z
     ·exact .inr (.inl z)
     ·exact .inr (.inr z)
    obtain⟨u,ru,l⟩:=hl j x v q.symm hσ vis
    rcases l with⟨hk,_⟩|⟨_,c,hc,o,ho,hd⟩
    ·have hk':X.env.scope.names.lookup x=some .local:=hk
     rcases k1 with z|z
     ·rw[z]at hk';cases hk'
     ·rw[z]at hk';cases hk'
    ·exact⟨u,ru,.inr ⟨k2,c,k3.trans hc,o,old _ _ ho,hd⟩⟩
 ·obtain⟨v,o,ho,hd⟩:=I.cell x c (lu hcl e)
  exact⟨v,o,old _ _ ho,hd⟩
 ·rcases Tj.mp hp with z|z
  ·obtain⟨e,n,ne,nf,d⟩:=I.pin p z
   exact⟨old _ _ e,n,TM (TU (To e) hC),fun q=>(Th.mp (I.KK _ q)).elim ne nf,d⟩
  ·have z':p=(D,kB []):=by simpa using z
   subst z'
   exact⟨hacc,I.hok.fresh hD,hDC,fun q=>(Th.mp (I.KK _ q)).elim (fun e=>absurd e (UU (TU I.lt hD))) (I.OL hD),fun v z=>by cases z⟩
 ·show(fB own fr σ).length=N.length
  unfold fB
  rw[Te,UZ,Ti,hlen]
end
def PF(X:Cx)(ifs:List Expr)(t:TT):Prop:=
 ∀(pins:Va) (s:Shared) (σ:St) (H:Hp) (Q:Bool->Hp->Prop),Inv X pins σ H s->t σ H Q->
  wpAny (model X.prog X.w) X.A (forIn ifs true fun c r=>if r=true then do let ok <-isTrue c X.env (eval c X.env);pure (ForInStep.yield ok) else pure (ForInStep.yield r)) (TP X pins σ Q) X.xe s
def F8:TT:=fun _ H Q=>Q true H
def Cr{X:Cx}:PF X [] F8:=fun _ _ _ H _ I h=>wpAny_tests_nil ⟨H,I,h⟩
def Cs{X:Cx}{c:Expr}{t:TT}(h:PT X c t):PF X [c] t:=fun pins s σ H Q I q=>wpAny_tests_one (h pins s σ H Q I q)
def A4(J:It)(g:TG)(tc:TT)(te:TE)(own:Nat)(σ':St)(fin:List V->Hp->Prop)(H1:Hp):Prop:=
 ∃W:Nat->Nat->List V->Hp->Prop,(∃m,W 0 m [] H1)/\∀i m ys H,W i m ys H->
  (J.stop i H/\ys.length<=sizeLine/\fin ys H) \/
  (J.go i H/\ys.length<=sizeLine/\∃Nx:List V->Hp->Prop,(∀ys' H',Nx ys' H'->∃m',m' < m/\W (i+1) m' ys' H')/\∀x H',J.Pv i H x H'->g x σ' H' fun σ2 H2=>σ2.drop own=σ'.drop own/\tc σ2 H2 fun b H3=>
   if b=true then te σ2 H3 fun y H4=>Nx (ys++[y]) H4 else Nx ys H3)
section
variable {X:Cx} {pins:Va} {σ:St} {H:Hp} {s:Shared}
variable {elt iter tg:Expr} {ifs:List Expr} {scope:Scope} {pos:Pos} {N:Vs} {own:Nat} {fr:List Nat} {fs:Vs} {g:TG} {tc:TT} {te:TE}
def mi{J:It}{fp:List Addr}{it:Addr}{tn:Nat->Heap->Prop}{fin:List V->Hp->Prop}{E:Vq}{RR:Value->Addr->Result->Shared->Prop}
  (hc:X.calm=true) (hcell:∀y∈scope.names,y.2 ≠ .cell) (hkind:scope.kind = .function) (hcl:cK X.env fs) (hhas:oW (relabel scope X.env).names (cX X.env fs)=true)
  (hlen:N.length=own+fr.length) (hN:(N.drop own).map some=fr.map fun j=>X.N[j]?) (hF:IJ X.env scope (cX X.env fs) (N.drop own))
  (hg:∀B,PG (X.Km N scope fs B) tg g) (hf:∀B,PF (X.Km N scope fs B) ifs tc) (he:∀B,PE (X.Km N scope fs B) elt te)
  (I:Inv X pins σ H s) (T:l9 X.prog X.w X.K tg J fp it tn) (st:tn 0 s.heap) (f:∀b∈fp,fL X pins H b) (W:A4 J g tc te own (fB own fr σ) fin H)
  (hRR:∀D C s' ys H' m',Inv X pins σ (upd H' D (.lst ys)) s'->H' D=none->s'.heap.Ns C m'->fL X pins (upd H' D (.lst ys)) C->fin ys H'->RR (.ref D) C (.ok .next) s') :
  wpAny (model X.prog X.w) X.A (newList []) (fun acc s₃=>wpAny (model X.prog X.w) X.A (newFunctionEnv scope X.env.globals (cX X.env fs) [] X.env.qual none .none (some X.env)) (fun cenv s₄=>
   codeAny (model X.prog X.w) X.A (.compStart (.ListComp elt [⟨tg,iter,ifs,0⟩] scope pos) 0 (.ref it) acc { cenv with scope:=relabel scope X.env }) (RR acc cenv.locals) s₄) E s₃) E s:=by
 refine Ud (wpAny_newFunctionEnv hcell (by intro y hy;simp at hy) (fun h₁ Od Nv=>?_) hkind)
 dsimp only at Od Nv ⊢
 generalize Qk:s.heap.push { cls:=.type "list",dict:=none,data:=.seq ([]:Vv).toArray }=H2 at Od Nv ⊢
 have hC:H2.objs.size=s.heap.objs.size+1:=by rw[<-Qk,Uj]
 have Oe:s.heap.objs.size<=H2.objs.size:=by rw[hC];exact V3 _
 have hDC:s.heap.objs.size≠H2.objs.size:=by rw[hC];exact TM (VF _)
 have below:∀b,b < s.heap.objs.size->b≠H2.objs.size/\b≠s.heap.objs.size:=fun b hb=>⟨by rw[hC];exact TM (UK hb),TM hb⟩
 have old:∀b o,s.heap.get? b=some o->h₁.get? b=some o:=fun b o e=>Nv.extBut b o (below b (To e)).1 (Td _ (Qk▸Td _ e))
 have hacc:h₁.get? s.heap.objs.size=some (kB []):=Nv.extBut _ _ hDC (Td _ (Qk▸Tn _ rfl))
 have hlt:∀b∈fp,b < s.heap.objs.size:=fun b hb=>by
  obtain⟨o,e,_⟩:=T.obj 0 _ st b hb
  exact To e
 obtain⟨Wv,⟨m0,w0⟩,turn⟩:=W
 have ok:=Cq (N:=N) I hkind Oe hcl hhas f hlt
 have loop:∀s₃:Shared,s₃={ s with heap:=h₁,toks:=s.toks+([]:List (Str×Value)).length }->
   codeAny (model X.prog X.w) X.A (.compLoop (.ListComp elt [⟨tg,iter,ifs,0⟩] scope pos) 0 (.ref it) (.ref s.heap.objs.size) (compEnvC scope (cX X.env fs) H2.objs.size X.env))
    (RR (.ref s.heap.objs.size) H2.objs.size) s₃:=by
  rintro s₃ rfl
  have I0:=zw (own:=own) (fr:=fr) (t':=s.toks+([]:List (Str×Value)).length) I ok Oe (Tq _) hDC hcl old Od hacc hlen hN hF
  have Ql:tn 0 h₁:=T.keep 0 _ _ st fun b _ o e=>old b o e
  have stat:∀{us:Vv} {H':Hp},(∀b∈fp,H' b=none)->∀b∈fp,fL (X.Km N scope fs ⟨H2.objs.size,s,H,fp,X.pn++pins⟩) [(s.heap.objs.size,kB us)] H' b:=fun{us H'} hn b hb=>by
   obtain⟨f0,f1,f2,f3,f4,f5⟩:=f b hb
   refine⟨hn b hb,(below b (hlt b hb)).1,fun z=>(Th.mp (I.KK b z)).elim f1 f2,.inl hb,fun x c e=>f4 x c (lu hcl e),fun p hp=>?_⟩
   rcases Tj.mp hp with z|z
   ·exact f5 p z
   ·have z':p=(s.heap.objs.size,kB us):=by simpa using z
    subst z'
    exact VL (below b (hlt b hb)).2
  have Qm:∀p∈X.pn++pins,p.1 < s.heap.objs.size:=fun p hp=>To (I.pin p hp).1
  refine oV (fun k s'=>∃i ys us H',Inv (X.Km N scope fs ⟨H2.objs.size,s,H,fp,X.pn++pins⟩) [(s.heap.objs.size,kB us)] (fB own fr σ) H' s'/\Vals ys us/\tn i s'.heap/\(∀b∈fp,H' b=none)/\Wv i k ys H') ?_ m0
   ⟨0,[],[],H,I0,.nil,Ql,fun b hb=>(f b hb).1,w0⟩
  rintro n s' ⟨i,ys,us,H',I',rv,st',Rg,w'⟩
  rcases turn i n ys H' w' with⟨stop,hz,Qn⟩|⟨go,hz,Nx,Rh,step⟩
  ·refine Ho (T.done (X.Km N scope fs ⟨H2.objs.size,s,H,fp,X.pn++pins⟩) rfl rfl rfl hc i _ s' _ H' (fun _ _=>False) I' (stat Rg) st' stop) (fun r s1 ⟨hr,I1⟩=>?_)
   subst hr
   show RR _ _ (.ok .next) s1
   have IX:Inv X pins σ H' s1:=I.OP I1.os I1.base I1.hok I1.bare fun b hb=>by
    obtain⟨f0,f1,f2,f3,f4,f5⟩:=f b hb
    exact⟨f3,f1,f4,f5⟩
   obtain⟨eD,nD,_⟩:=I1.pin (s.heap.objs.size,kB us) (by simp)
   have IT:=IX.OS (I.Ku (H':=H') (Tq _) nD) eD rv hz
   obtain⟨m',hn',_⟩:=I1.loc
   exact hRR _ _ s1 ys H' m' IT nD hn' (I.Ku Oe (by rw[aL (VL hDC)];exact I1.free)) Qn
  ·refine Ho (T.item (X.Km N scope fs ⟨H2.objs.size,s,H,fp,X.pn++pins⟩) rfl rfl rfl hc i _ s' _ H' (fun _ _=>False) I' (stat Rg) st' go) (fun r s1 ⟨u,hr,h1⟩=>?_)
   subst hr
   show wpAny _ _ (letOwnedTupleGo tg (.ref it) u) _ _ s1
   refine Ho h1 (fun _ s5 ⟨x,H5,I5,r5,y5,Nr,Qb⟩=>?_)
   have Qc:=I5.pinned (stat Qb) (T.obj _ _ Nr)
   refine Ho (hg _ _ s5 _ H5 x u _ Qc r5 (step x H5 y5)) (fun _ s6 ⟨σ6,H6,I6,R7,q6⟩=>?_)
   refine Ho (hf _ _ s6 σ6 H6 _ I6 q6) (fun b s7 ⟨H7,I7,q7⟩=>?_)
   -- Of the turn's own names
   have forget:∀{H8:Hp} {s8:Shared} {pl:Va},Inv (X.Km N scope fs ⟨H2.objs.size,s,H,fp,X.pn++pins⟩) pl σ6 H8 s8->Inv (X.Km N scope fs ⟨H2.objs.size,s,H,fp,X.pn++pins⟩) pl (fB own fr σ) H8 s8:=fun{H8 s8 pl} I8=>by
    refine I8.weak (I0.len.trans I8.len.symm) fun j v e=>?_
    by_cases hj:j < own
    ·unfold fB at e
     rw[TX (by rw[UZ];exact hj),Vm,if_pos hj]at e
     cases e
    ·obtain⟨k,rfl⟩:∃k,j=own+k:=⟨j - own,by omega⟩
     rw[<-Xr]at e ⊢
     rw[R7]
     exact e
   have Px:∀{H8:Hp} {s8:Shared},Inv (X.Km N scope fs ⟨H2.objs.size,s,H,fp,X.pn++pins⟩) ([(s.heap.objs.size,kB us)]++l_ fp s5.heap) σ6 H8 s8->∀b∈fp,∀o,s5.heap.get? b=some o->s8.heap.get? b=some o/\H8 b=none:=fun I8 b hb o e=>
    let z:=I8.pin (b,o) (Uc _ (Uc _ (jm hb e)))
    ⟨z.1,z.2.1⟩
   cases b with
   |false=>
    show ∃m,m < n/\_
    obtain⟨m',hm,w7⟩:=Rh _ _ (show Nx ys H7 from q7)
    refine⟨m',hm,i+1,ys,us,H7,(forget I7).KF,rv,T.keep _ _ _ Nr fun b hb o e=>(Px I7 b hb o e).1,fun b hb=>?_,w7⟩
    obtain⟨o,e,_⟩:=T.obj _ _ Nr b hb
    exact(Px I7 b hb o e).2
   |true=>
    show wpAny _ _ (eval elt _) _ _ s7
    have R8:te σ6 H7 fun y H4=>Nx (ys++[y]) H4:=q7
    refine Ho (he _ _ s7 σ6 H7 _ I7 R8) (fun v s8 ⟨y,H8,I8,r8,n8⟩=>?_)
    obtain⟨m',hm,w8⟩:=Rh _ _ n8
    obtain⟨eD,nD,Ri,R9,_⟩:=I8.pin (s.heap.objs.size,kB us) (Uc _ (UL _ (by simp)))
    refine append_at (hsz:=by show us.toArray.size<=sizeLine;rw[Tr,<-rv.length];exact hz) eD fun h9 Qo R_=>?_
    have J0:Inv (X.Km N scope fs ⟨H2.objs.size,s,H,fp,X.pn++pins⟩) [] σ6 H8 s8:=I8.Lb fun p hp=>nomatch hp
    have J1:Inv (X.Km N scope fs ⟨H2.objs.size,s,H,fp,X.pn++pins⟩) [] σ6 H8 { s8 with heap:=h9 }:=J0.turned (t':=s8.toks) (it:=s.heap.objs.size) (fun b o hb e=>(Qo.2 b hb).trans e) nD Ri (.inr (Tq _))
     (fun x c e z=>by
      obtain⟨v',q⟩:=I.cell x c (lu hcl e)
      exact absurd (TU q.lt (by rw[z];exact Tq _)) (U0 _))
     (fun p hp=>by
      rw[TY]at hp
      exact TM (Qm p hp))
    have J2:Inv (X.Km N scope fs ⟨H2.objs.size,s,H,fp,X.pn++pins⟩) [(s.heap.objs.size,kB (us++[v]))] σ6 H8 { s8 with heap:=h9 }:=J1.Lb fun p hp=>by
     have z':p=(s.heap.objs.size,kB (us++[v])):=by simpa using hp
     subst z'
     exact⟨R_.trans (Uu some (uP us v)),nD,Ri,R9,fun v z=>by cases z⟩
    refine⟨m',hm,i+1,ys++[y],us++[v],H8,forget J2,Vals.append rv (.cons r8 .nil),T.keep _ _ _ Nr fun b hb o e=>(Qo.2 b (below b (hlt b hb)).2).trans (Px I8 b hb o e).1,fun b hb=>?_,w8⟩
    obtain⟨o,e,_⟩:=T.obj _ _ Nr b hb
    exact(Px I8 b hb o e).2
 exact codeAny_compStart_list (loop _ rfl) (T.self _ 0 _ _ _ (T.keep 0 _ _ st fun b _ o e=>old b o e) (loop _ rfl))
def wq(wi:TI)(g:TG)(tc:TT)(te:TE)(own:Nat)(fr:List Nat):TE:=fun σ H Q=>wi σ H fun J H1=>
 A4 J g tc te own (fB own fr σ) (fun ys H2=>∀D,H2 D=none->Q (.ref D) (upd H2 D (.lst ys))) H1
def zx(fs:Vs)(own:Nat)(fr:List Nat)(N:Vs){wi:TI}(hc:X.calm=true)(hclos:closureFor scope X.env=pure (cX X.env fs))(hcell:∀y∈scope.names,y.2 ≠ .cell)(hkind:scope.kind = .function)
  (hnames:∀x∈scope.names,x.2 = .local->scope.names.lookup x.1=some .local) (hcl:cK X.env fs) (hhas:oW (relabel scope X.env).names (cX X.env fs)=true)
  (hlen:N.length=own+fr.length) (hN:(N.drop own).map some=fr.map fun j=>X.N[j]?) (hF:IJ X.env scope (cX X.env fs) (N.drop own))
  (hi:PI X tg iter wi) (hg:∀B,PG (X.Km N scope fs B) tg g) (hf:∀B,PF (X.Km N scope fs B) ifs tc) (he:∀B,PE (X.Km N scope fs B) elt te)
  (hs:∀x,foldedSetIterable iter X.env x=pure x:=by intro _;rfl):PE X (.ListComp elt [⟨tg,iter,ifs,0⟩] scope pos) (wq wi g tc te own fr):=by
 intro pins s σ H Q I h
 rw[eval_ListComp]
 refine wpAny_comprehension_free (use:=none) (g:=⟨tg,iter,ifs,0⟩) (gs:=[]) rfl hs hclos hkind hnames (Ho (hi pins s σ H _ I h) fun v s1 h1=>Ho h1 fun itv s2 h2=>?_)
 obtain⟨it,fp,tn,J,H2,e,I2,T,st2,f2,W⟩:=h2
 subst e
 refine mi (RR:=fun acc C=>compPost (model X.prog X.w) X.A X.xe none (EP X pins σ Q) acc C) hc hcell hkind hcl hhas hlen hN hF hg hf he I2 T st2 f2 W ?_
 intro D C s' ys H' m' I' nD hn fC fin
 exact⟨m',hn,fun h' hs'=>⟨.ref D,_,I'.turned (t':=s'.toks) (fun b o hb e=>(hs'.2 b hb).trans e) fC.1 fC.2.1 fC.2.2.2.1 fC.2.2.2.2.1 fC.2.2.2.2.2,rfl,fin D nD⟩⟩
def zy(fs:Vs)(own:Nat)(fr:List Nat)(N:Vs){wi:TI}{i:Nat}{y:Str}{py spos:Pos}(hX:X.N.Nodup)(hix:X.N[i]?=some y)(hy:X.env.scope.names.lookup y=some .local)
  (hsw:swapsWith (.ListComp elt [⟨tg,iter,ifs,0⟩] scope pos) (some (.Name y py)) spos.line X.env=pure true)
  (hc:X.calm=true) (hclos:closureFor scope X.env=pure (cX X.env fs)) (hcell:∀y∈scope.names,y.2 ≠ .cell) (hkind:scope.kind = .function)
  (hnames:∀x∈scope.names,x.2 = .local->scope.names.lookup x.1=some .local) (hcl:cK X.env fs) (hhas:oW (relabel scope X.env).names (cX X.env fs)=true)
  (hlen:N.length=own+fr.length) (hN:(N.drop own).map some=fr.map fun j=>X.N[j]?) (hF:IJ X.env scope (cX X.env fs) (N.drop own))
  (hi:PI X tg iter wi) (hg:∀B,PG (X.Km N scope fs B) tg g) (hf:∀B,PF (X.Km N scope fs B) ifs tc) (he:∀B,PE (X.Km N scope fs B) elt te)
  (hs:∀x,foldedSetIterable iter X.env x=pure x:=by intro _;rfl):PS X (.Assign [.Name y py] (.ListComp elt [⟨tg,iter,ifs,0⟩] scope pos) spos) (y_ (wq wi g tc te own fr) (qw i)):=by
 intro pins s σ H D I h
 rw[exec_Assign_Name_used _ _ _ _ hsw]
 refine Tc (wpAny_standAt (Tc ?_))
 show wpAny _ X.A (do let _ <-comprehension (.ListComp elt [⟨tg,iter,ifs,0⟩] scope pos) scope X.env _ (newList []) false (eval iter X.env) (some (assign (.Name y py) X.env))) _ _ s
 refine Tc (V5 (wpAny_comprehension_free (use:=some (assign (.Name y py) X.env)) (Q:=fun _ s'=>SP X pins D .next s') (g:=⟨tg,iter,ifs,0⟩) (gs:=[]) rfl hs hclos hkind hnames
  (Ho (hi pins s σ H _ I h) fun v s1 h1=>Ho h1 fun itv s2 h2=>?_)) (fun _ s' hq=>Tf (Tf hq)) fun _ _ e=>e)
 obtain⟨it,fp,tn,J,H2,e,I2,T,st2,f2,W⟩:=h2
 subst e
 refine mi (RR:=fun acc C=>compPost (model X.prog X.w) X.A X.xe (some (assign (.Name y py) X.env)) (fun _ s'=>SP X pins D .next s') acc C) hc hcell hkind hcl hhas hlen hN hF hg hf he I2 T st2 f2 W ?_
 intro Da C s' ys H' m' I' nD hn fC fin
 show wpAny _ X.A (assign (.Name y py) X.env (.ref Da)) _ _ s'
 refine wpAny_assign_Name (nO (v:=.ref Da) I' hX hix (.inl hy) rfl (fun s2 I3 ⟨a,sb,ha⟩=>?_) (.inr hy))
 have ca:C≠a:=by
  rcases ha with z|z
  ·rw[z];exact fC.2.1
  ·exact VL (fC.2.2.2.2.1 _ _ z)
 exact⟨m',hn.sameBut sb ca,fun h' hs'=>⟨_,_,I3.turned (t':=s2.toks) (fun b o hb e=>(hs'.2 b hb).trans e) fC.1 fC.2.1 fC.2.2.2.1 fC.2.2.2.2.1 fC.2.2.2.2.2,fin Da nD⟩⟩
end
end L2
namespace PySem
open Sem (wp)
namespace F
def uQ:typeLookup (.type "list_reverseiterator") "__len__" = pure none:=by rw[Wz,VN];kernel_rfl
def wu:typeLookup (.type "list_reverseiterator") "__length_hint__" = pure (some (.builtin "list_reverseiterator.__length_hint__")):=by rw[Wz,VN];kernel_rfl
end F
section
variable {prog:Program} {w:World} {A:Around} {s:Shared} {R:Result->Shared->Prop}
variable {I:Addr} {fp wr:List Addr} {G:Array GenState->Array GenState->Prop} {n:Nat} {P:Nat->Value->Prop} {St:Nat->Shared->Prop}
def sa(W:WalksS prog w A.in1 I fp wr G n P St)(hT:∀i s,St i s->s.TypeIs (.ref I) "list_reverseiterator")(S:Addr)(res:Value)(c₀:Nat)(hst:St 0 s)(hSf:S ∉ fp)(hI:I∈fp)
  (hS:s.heap.get? S=some { cls:=.type "list",data:=.seq #[] c₀ })
  (hR:∀s' acc' c',Moved (S::wr) G s s'->s'.heap.get? S=some { cls:=.type "list",dict:=none,data:=.seq acc' c',slots:=#[] }->ItemsOf P acc' n->R (.ok (.ret res)) s') (hn:n<=sizeLine) :
  wpAny (model prog w) A.in1 (Builtin.List.listExtendWith (.ref S) (.ref I) res)
   (fun fin s'=>match fin with | .done f=>R (.ok f) s' | .again c'=>c'.quiet=true/\codeAny (model prog w) A c' R s') (fun e s'=>R (.error e) s') s:=by
 have hSI:S≠I:=fun e=>hSf (e▸hI)
 have h1:Builtin.List.listSameRef (.ref S) (.ref I)=false:=by simp[Builtin.List.listSameRef,hSI]
 unfold Builtin.List.listExtendWith
 refine Tc (V6 (hT 0 _ hst) ?_)
 rw[if_neg (by rw[h1];decide)]
 refine Tc (W.self 0 _ _ _ hst ?_)
 refine Tc (US ?_)
 unfold Builtin.List.listLengthHint
 refine Tc (wpAny_specialOf (hT 0 _ hst) F.uQ ?_)
 show wpAny _ A.in1 (specialOf (Value.ref I) (Str.ofString "__length_hint__") >>= _) _ _ _
 refine Tc (wpAny_specialOf (hT 0 _ hst) F.wu ?_)
 (generalize hid:("list_reverseiterator.__length_hint__":String)=Sc;wp_delta;rw[show splitId Sc=some ("list_reverseiterator","__length_hint__")from by subst hid;decide +kernel];subst hid)
 refine Tc (V0 (b:=true) (hT 0 _ hst) (by rw[isSubtype_type];kernel_rfl) ?_)
 refine Tf ?_
 rw[if_neg (by decide)]
 exact Tf ⟨Wb F.plain_extend_loop _,codeAny_extend_loopS W hn _ hSf _ n 0 _ _ _ rfl (Ug _) hst hS (ItemsOf.nil P) fun s' acc' c' hm hS' hacc=>hR s' acc' c' hm hS' hacc⟩
def nv(W:WalksS prog w A.in1 I fp wr G n P St)(hT:∀i s,St i s->s.TypeIs (.ref I) "list_reverseiterator")(S:Addr)(hst:St 0 s)(hSf:S ∉ fp)(hI:I∈fp)
  (hS:s.heap.get? S=some { cls:=.type "list",data:=.seq #[] })
  (hR:∀s' acc' c',Moved (S::wr) G s s'->s'.heap.get? S=some { cls:=.type "list",dict:=none,data:=.seq acc' c',slots:=#[] }->ItemsOf P acc' n->R (.ok (.ret .none)) s') (hn:n<=sizeLine) :
  wpAny (model prog w) A.in1 (Builtin.«list.__init__» ⟨[.ref S,.ref I],[]⟩)
   (fun fin s'=>match fin with | .done f=>R (.ok f) s' | .again c'=>c'.quiet=true/\codeAny (model prog w) A c' R s') (fun e s'=>R (.error e) s') s:=by
 show wpAny _ A.in1 (do let old <-Builtin.List.listItems (.ref S);Builtin.List.listUpdate (.ref S) (fun _=>#[]);letGo old.toList.reverse;Builtin.List.listExtendWith (.ref S) (.ref I) .none) _ _ s
 refine Tc ?_
 unfold Builtin.List.listItems
 refine Tc (Uo hS rfl (Tf ?_))
 show wpAny _ A.in1 (updateSeq S (fun _=>#[]) >>= fun _=>letGo (#[]:Vw).toList.reverse >>= fun _=>Builtin.List.listExtendWith (.ref S) (.ref I) .none) _ _ s
 refine Tc (Xk hS rfl ?_)
 have Py:=Ur (Obj.mapSeq (fun _=>(#[]:Vw))) hS rfl
 have Nw:∀b o,b≠S->s.heap.get? b=some o->(s.heap.update S (Obj.mapSeq (fun _=>(#[]:Vw)))).get? b=some o:=
  fun b o hb e=>(VC _ _ (VL hb)).trans e
 refine Tc (WM ?_)
 refine sa (hn:=hn) W hT S .none _ (W.frame 0 s _ s.toks hst (Tq _) fun b hb o e=>Nw b o (fun h=>hSf (h▸hb)) e) hSf hI Py fun s' acc' c' hm hS' hacc=>?_
 exact hR s' acc' c' (Moved.trans W.gtrans ((Moved.refl W.grefl).then_heap (Tq _) fun b o hb e=>Nw b o (fun h=>hb (h▸U1)) e) hm) hS' hacc
end
section
variable {prog:Program} {w:World} {A:Around} {E:Vq} {s:Shared}
def ny{I l:Addr}{items:Vw}{Q:Vq}(hh:A.handled=none)(hl:s.heap.IsList l items)(hit:s.heap.IsRevIter I l ((items.size:Int) - 1))(hne:l≠I)(hn:items.size<=sizeLine)
  (hQ:∀h' tk acc' c',(∀b o,b≠I->s.heap.get? b=some o->h'.get? b=some o)->h'.get? s.heap.objs.size=some { cls:=.type "list",dict:=none,data:=.seq acc' c',slots:=#[] }->
   acc'.toList=items.toList.reverse->Q (.ref s.heap.objs.size) { s with heap:=h',toks:=tk }) :
  wpAny (model prog w) A (call (.type "list") [.ref I]) Q E s:=by
 have W:=(Walks.listRev (prog:=prog) (w:=w) (A:=A.in1.in1) hh I l hne items).toS
 have Qp:I < s.heap.objs.size:=by obtain⟨o,ho,_⟩:=hit;exact To ho
 have Qq:l < s.heap.objs.size:=by obtain⟨o,ho,_⟩:=hl;exact To ho
 have hfp:∀b∈[I,l],b < s.heap.objs.size:=fun b hb=>by
  rcases Th.mp hb with rfl|hb
  ·exact Qp
  ·rw[Tt.mp hb];exact Qq
 have hSf:s.heap.objs.size ∉ [I,l]:=fun hm=>U0 _ (hfp _ hm)
 have hst:(fun i (s:Shared)=>i<=items.size/\s.heap.IsRevIter I l ((items.size:Int) - 1 - (i:Int))/\s.heap.IsList l items) 0 s:=⟨Ug _,by simpa using hit,hl⟩
 refine callType_codes (Q₁:=fun obj s₁=>obj = .ref s.heap.objs.size/\s₁={ s with heap:=s.heap.push { cls:=.type "list",data:=.seq #[] } }) F.called_list (F.typeCall_list_1 _) F.entry_list_init
  (code_list_new _ ⟨rfl,rfl⟩) fun obj s₁ h₁=>?_
 obtain⟨rfl,rfl⟩:=h₁
 have hS:(s.heap.push { cls:=.type "list",data:=.seq #[] }).get? s.heap.objs.size=some { cls:=.type "list",data:=.seq #[] }:=Tn _ rfl
 refine⟨⟨_,hS,rfl⟩,F.args_list_init_2 _ _,nv (hn:=hn) W (fun i s st=>st.2.1.typeIs) _ (W.frame 0 s _ s.toks hst (Tq _) fun b _ o e=>Td _ e) hSf (U1 ..) hS fun s' acc' c' hm hS' hacc=>?_⟩
 refine⟨rfl,?_⟩
 rw[hm.eq_with]
 refine hQ s'.heap s'.toks acc' c' (fun b o hb e=>hm.heap b o (fun z=>?_) (Td _ e)) hS' ?_
 ·rcases Th.mp z with z|z
  ·exact absurd (To e) (by rw[z];exact U0 _)
  ·exact hb (Tt.mp z)
 ·obtain⟨hsz,hP⟩:=hacc
  apply WY
  intro j
  by_cases hj:j < items.size
  ·have hj':j < acc'.size:=by rw[hsz];exact hj
   have q:=hP j acc'[j] (by simp[hj'])
   have e1:acc'.toList[j]?=some acc'[j]:=by simp[hj']
   rw[e1,List.getElem?_reverse (by simpa using hj)]
   simpa using q.symm
  ·rw[Uy (by simpa [hsz]using hj),Uy (by simpa using hj)]
end
end PySem
namespace L2
open PySem PySem.Spec PyProof.Rows
section
variable {X:Cx}
def wv(K:Vo)(te:TE):TE:=fun σ H Q=>te σ H fun x H1=>∃a xs,x = .ref a/\SqL K H1 a xs/\∀q,H1 q=none->Q (.ref q) (upd H1 q (.lst xs.reverse))
def sd{e:Expr}{te:TE}{p1 p2 q1 q2:Pos}(hc:X.calm=true)(he:PE X e te)(Qr:Gl X "list")(hm1:X.mg "list" = none)(Ny:Gl X "reversed")(hm2:X.mg "reversed" = none)
  (hs:starEach [e] X.env=[(false,eval e X.env)]:=by rfl) (hs2:starEach [.Call (.Name "reversed" p2) [e] [] q2] X.env=[(false,eval (.Call (.Name "reversed" p2) [e] [] q2) X.env)]:=by rfl) :
  PE X (.Call (.Name "list" p1) [.Call (.Name "reversed" p2) [e] [] q2] [] q1) (wv X.K te):=by
 intro pins s σ H Q I h
 refine U3 (dH I Qr hm1 (u:=.type "list") (by decide +kernel) ?_)
 refine Uk ?_ hs2 rfl
 rw[hs2]
 show wpAny _ _ (spliced ((false,eval (.Call (.Name "reversed" p2) [e] [] q2) X.env)::backTo q1 [])) _ _ s
 refine UM ?_
 refine U3 (dH I Ny hm2 (u:=.type "reversed") boot_reversed ?_)
 refine Uk ?_ hs rfl
 rw[hs]
 show wpAny _ _ (spliced ((false,eval e X.env)::backTo q2 [])) _ _ s
 refine UM (Ho (he pins s σ H _ I h) fun u s1 ⟨x,H1,I1,r1,a,xs,ex,hx,q⟩=>?_)
 subst ex
 cases r1
 obtain⟨its,rv,p,hz⟩:=I1.list hx
 have hl:=rv.length
 have hal:a < s1.heap.objs.size:=by obtain⟨o,ho,_⟩:=p.isList;exact To ho
 refine Vb (call_reversed_list p.isList ?_)
 refine Vb ?_
 refine ny (I.ok.hd hc) (p.isList.push _) ⟨_,Tn _ rfl,rfl,rfl⟩ (TM hal) (by rw[Tr,<-hl];exact hz) fun h' tk acc c hk hS ha=>?_
 have hsz:(s1.heap.push (revObj a ((its.toArray.size:Int) - 1))).objs.size=s1.heap.objs.size+1:=Uj _ _
 have hle:s1.heap.objs.size<=(s1.heap.push (revObj a ((its.toArray.size:Int) - 1))).objs.size:=by rw[hsz];exact V3 _
 refine⟨.ref _,_,I1.laid (a:=(s1.heap.push (revObj a ((its.toArray.size:Int) - 1))).objs.size) (o:=.lst xs.reverse) (h':=h') (t':=tk) (fun b u e=>hk b u (TM (To e)) (Td _ e)) hle ?_,rfl,q _ (I1.hok.fresh hle)⟩
 refine⟨by rw[Wt];exact hz,its.reverse,c,Vals.reverse rv,?_⟩
 rw[hS]
 have e:acc=its.reverse.toArray:=by
  apply Array.toList_inj.mp
  rw[ha]
 rw[e]
end
section
variable {X:Cx}
noncomputable abbrev kC(c:Nat):Str:=⟨#[c]⟩
noncomputable def F9(z:Str):It:=⟨fun i _=>i < z.cps.size,fun i H x H'=>H'=H/\∃c,z.cps[i]?=some c/\x = .str (kC c),fun i _=>z.cps.size<=i⟩
def ww{P:Program}{w:World}{K:Vo}{tg:Expr}{ty:String}(hty:ty = "str_ascii_iterator" \/ ty = "str_iterator")(it:Addr)(z:Str)(t:Tok):l9 P w K tg (F9 z) [it] it (fun i h=>i<=z.cps.size/\h.IsStrIter it ty z t i):=by
 have W:∀A':Around,A'.handled=none->Walks P w A' it [it] [it] z.cps.size (SignAt z) (fun i h=>h.IsStrIter it ty z t i):=fun A' hA=>by
  rcases hty with rfl|rfl
  ·exact Walks.strAscii hA it z t
  ·exact Walks.strWide hA it z t
 have nt:(["enumerate","zip","dict_itemiterator","dict_reverseitemiterator","odict_iterator","itertools.zip_longest","itertools.pairwise"].contains ty)=false:=by
  rcases hty with rfl|rfl<;>decide
 refine⟨by simp,fun i h st b hb=>?_,fun i h h' st k=>?_,?_,?_,?_⟩
 ·have e:b=it:=by simpa using hb
  subst e
  obtain⟨_,o,e,c,d⟩:=st
  exact⟨o,e,fun v q=>by rw[d]at q;cases q⟩
 ·obtain⟨hi,o,e,r⟩:=st
  exact⟨hi,o,k it (by simp) o e,r⟩
 ·intro X hP hw hK hc i pins s σ H E I hf st hg
  subst hP hw hK
  obtain⟨f0,f1,f2,f3,f4,f5⟩:=hf it (by simp)
  refine(W X.A (I.ok.hd hc)).item i s _ _ hg st.2 fun v h' tk hv st' kk=>?_
  obtain⟨c,u,hcp,rfl⟩:=hv
  have I1:Inv X pins σ H { s with heap:=h',toks:=tk }:=I.turned (fun b o hb e=>kk b o (by simpa using hb) e) f0 f1 f3 f4 f5
  obtain⟨o,e,co,d⟩:=id st'
  exact⟨_,rfl,qx (s:={ s with heap:=h',toks:=tk }) e co d nt ⟨.str (kC c),H,I1,⟨u,rfl⟩,⟨rfl,c,hcp,rfl⟩,⟨hg,st'⟩,fun b hb=>(hf b hb).1⟩⟩
 ·intro X hP hw hK hc i pins s σ H E I hf st hg
  subst hP hw hK
  obtain⟨f0,f1,f2,f3,f4,f5⟩:=hf it (by simp)
  have e:i=z.cps.size:=Nat.le_antisymm st.1 hg
  subst e
  exact(W X.A (I.ok.hd hc)).done s _ _ st.2 fun h' tk kk=>⟨rfl,I.turned (fun b o hb e=>kk b o (by simpa using hb) e) f0 f1 f3 f4 f5⟩
 ·intro A i s Q E st h
  rcases hty with rfl|rfl
  ·exact wpAny_pyIter_striter_ascii st.2 h
  ·exact wpAny_pyIter_striter_wide st.2 h
def zz{ys:Vs}:∀{us:Vv},Vals (ys.map V.str) us->StrsAre us ys:=by
 induction ys with
 |nil=>intro us r;rw[TZ]at r;cases r;exact .nil
 |cons n ns ih=>
  intro us r
  rw[TQ]at r
  cases r with
  |cons r1 r2=>
   obtain⟨t,e⟩:=r1
   subst e
   exact .cons n t (ih r2)
noncomputable def Ex(K:Vo):V->List V->Hp->VK->Prop:=fun x vs H Q=>∃sep p ys,x = .str sep/\vs=[.ref p]/\SqL K H p (ys.map V.str)/\(ys.map (·.length)).sum+ys.length * sep.length<=1000000/\Q (.str (Txt.join sep ys)) H
def zA:Cf X "str.join" (Ex X.K):=by
 intro pins s σ H x vs v us Q I rx rv h
 obtain⟨sep,p,ys,rfl,rfl,hp,hz,q⟩:=h
 obtain⟨t,rfl⟩:=rx
 obtain⟨u,rfl,ru⟩:=cV rv
 cases ru
 obtain⟨its,r,pl,_⟩:=I.list hp
 exact join_list pl.isList (by simpa using zz r) (by omega) fun t' k=>⟨.str _,H,I.tok k,⟨t',rfl⟩,q⟩
def se{z:Str}{acc:Vw}(h:ItemsOf (SignAt z) acc z.cps.size):Vals (z.cps.toList.map fun c=>V.str (kC c)) acc.toList:=by
 obtain⟨hs,hP⟩:=h
 have key:∀(cs:List Nat) (us:Vv),us.length=cs.length->(∀(j:Nat) (v:Value),us[j]?=some v->∃c u,cs[j]?=some c/\v = .str (kC c) u)->Vals (cs.map fun c=>V.str (kC c)) us:=by
  intro cs
  induction cs with
  |nil=>
   intro us hl _
   cases us with
   |nil=>exact .nil
   |cons u us=>cases hl
  |cons c cs ih=>
   intro us hl hu
   cases us with
   |nil=>cases hl
   |cons u us=>
    obtain⟨c',t,e1,e2⟩:=hu 0 u rfl
    have e1':c=c':=by simpa using e1
    subst e1'
    refine .cons ⟨t,e2⟩ (ih us (by simpa using hl) fun j v e=>?_)
    exact hu (j+1) v (by simpa using e)
 refine key z.cps.toList acc.toList (by simp[hs]) fun j v e=>?_
 obtain⟨c,u,e1,e2⟩:=hP j v (by simpa using e)
 exact⟨c,u,by simpa using e1,e2⟩
def kD(hc:X.calm=true):dB X (.type "list") (fun xs H Q=>∃z,xs=[.str z]/\z.length<=sizeLine/\∀l,H l=none->Q (.ref l) (upd H l (.lst (z.cps.toList.map fun c=>V.str (kC c))))):=by
 intro pins s σ H xs us Q I r h
 obtain⟨z,rfl,hz,q⟩:=h
 obtain⟨u,rfl,t,rfl⟩:=cV r
 refine call_list_str (I.ok.hd hc) z t (fun h' tk acc c hk hS ha=>?_) hz
 refine⟨.ref _,_,I.laid (a:=s.heap.objs.size) (o:=.lst (z.cps.toList.map fun c=>V.str (kC c))) (h':=h') (t':=tk) hk (Tq _) ?_,rfl,q _ (I.hok.fresh (Tq _))⟩
 exact⟨by rw[Ti,UH];exact hz,acc.toList,c,se ha,by rw[hS]⟩
def uR(hc:X.calm=true):dB X (.builtin "all") (fun xs H Q=>∃(p:Addr) (bs:List Bool),xs=[.ref p]/\SqL X.K H p (bs.map V.bl)/\Q (.bl (bs.all id)) H):=by
 intro pins s σ H xs us Q I r h
 obtain⟨p,bs,rfl,hp,q⟩:=h
 obtain⟨u,rfl,rx⟩:=cV r
 cases rx
 obtain⟨its,rv,pl,hz⟩:=I.list hp
 have hl:=rv.length
 rw[Ti]at hl
 have hlt:p < s.heap.objs.size:=by obtain⟨o,ho,_⟩:=pl.isList;exact To ho
 refine call_all_walk (Ul pl.isList ?_)
 have up:∀b o,s.heap.get? b=some o->(s.heap.push { cls:=.type "list_iterator",data:=.fields #[.ref p,.int 0 0] }).get? b=some o:=fun b o e=>Td _ e
 refine⟨s.heap.objs.size,_,_,_,_,_,fun i=>(bs[i]?).getD true,rfl,Walks.list (A:=X.A.in1) (I.ok.hd hc) s.heap.objs.size p (TM hlt) its.toArray,⟨⟨_,Tn _ rfl,rfl,rfl⟩,pl.isList.push _⟩,?_,fun h' tk hk=>?_⟩
 ·intro i v s' Q' E' hv hq
  have hi:i < its.length:=by
   by_cases z:i < its.length
   ·exact z
   ·rw[UX (by simpa using z)]at hv;cases hv
  obtain⟨u',e1,r1⟩:=rv.get (i:=i) (x:=.bl bs[i]) (by rw[Tv,Tp (by omega)];rfl)
  have e2:v=u':=by
   have z:its[i]?=some v:=by simpa using hv
   rw[z]at e1;exact UB e1
  subst e2
  cases (show v=Value.bool bs[i] from r1)
  refine VR ?_
  have hq':Q' ((bs[i]?).getD true) s':=hq
  rw[Tp (show i < bs.length by omega)]at hq'
  exact hq'
 ·have e:(List.range its.toArray.size).all (fun i=>(bs[i]?).getD true)=bs.all id:=by
   rw[Tr,<-hl,VQ,W9,W9]
   constructor
   ·intro h1 x hx
    obtain⟨j,hj,e⟩:=List.getElem_of_mem hx
    have q1:=h1 j (U9.mpr hj)
    rw[Tp hj]at q1
    rw[<-e];exact q1
   ·intro h1 j hj
    have hj':=U9.mp hj
    rw[Tp hj']
    exact h1 _ (VG hj')
  rw[e]
  exact⟨.bl _,H,(I.kept (t':=tk) (h':=h') fun b o eo=>hk b o (by
   intro hm
   have hb:b=s.heap.objs.size:=by simpa using hm
   exact absurd (To eo) (by rw[hb];exact U0 _)) (up b o eo)),rfl,q⟩
end
section
variable {X:Cx}
noncomputable def F_:V->Option Int->Option Int->Hp->VK->Prop:=fun x lo hi H Q=>∃z,x = .str z/\z.length<=sizeLine/\Q (.str (Txt.slice z lo hi)) H
def Ct:DC X F_:=by
 intro pins s σ H x v vl vu lo hi sl Q I rx hs pl pu h
 obtain⟨z,rfl,hz,q⟩:=h
 obtain⟨t,rfl⟩:=rx
 refine⟨"str",_,F.slot_str_getitem.lookup,typeIs_str _ _ _,?_⟩
 obtain⟨o,e,c,d⟩:=hs
 have fin:∀l u:Option (Int×Tok),(vl=partValue l/\lo=l.map (·.1))->(vu=partValue u/\hi=u.map (·.1))->wpAny (model X.prog X.w) X.A (getItem (.str z t) (.ref sl)) (EP X pins σ Q) X.xe s:=by
  rintro l u ⟨rfl,rfl⟩ ⟨rfl,rfl⟩
  exact wpAny_getItem_str_slice (l:=l) (u:=u) (st:=none) ⟨o,e,c,d⟩ rfl (post_val_or_str ⟨TR (Txt.slice_le z _ _) hz,fun t' k=>⟨.str _,H,I.tok k,⟨t',rfl⟩,q⟩⟩)
 cases pl with
 |none=>
  cases pu with
  |none=>exact fin none none ⟨rfl,rfl⟩ ⟨rfl,rfl⟩
  |int j uj=>exact fin none (some (j,uj)) ⟨rfl,rfl⟩ ⟨rfl,rfl⟩
 |int i ui=>
  cases pu with
  |none=>exact fin (some (i,ui)) none ⟨rfl,rfl⟩ ⟨rfl,rfl⟩
  |int j uj=>exact fin (some (i,ui)) (some (j,uj)) ⟨rfl,rfl⟩ ⟨rfl,rfl⟩
noncomputable def Cu:V->List V->Hp->VK->Prop:=fun x vs H Q=>∃a b i rest,x = .str a/\vs=[.str b]/\Builtin.Str.occurrences a b 0 a.length 1=i::rest/\Q (.int i) H
def wx:Cf X "str.index" Cu:=by
 intro pins s σ H x vs v us Q I rx rv h
 obtain⟨a,b,i,rest,rfl,rfl,ho,q⟩:=h
 obtain⟨t,rfl⟩:=rx
 obtain⟨w,rfl,u,rfl⟩:=cV rv
 exact call_gives F.slot_str_index (typeIs_str _ _ _) F.entry_str_index (F.args_str_index_2 _ _) (gives_str_index a b t u i rest ho) ⟨.int i,H,I.tok _,⟨_,rfl⟩,q⟩
def Cv(K:Vo)(i j k:Nat)(te:TE):TS:=fun D σ H=>te σ H fun x H1=>∃p v w u,x = .ref p/\SqT K H1 p [v,w,u]/\D.nx (((σ.set k (some u)).set j (some w)).set i (some v)) H1
def wy{i j k:Nat}{x y z:Str}{e:Expr}{te:TE}{px py pz pt:Pos}{kt:Nat}{pos:Pos}(hc:X.calm=true)(hN:X.N.Nodup)(hi:X.N[i]?=some x)(hj:X.N[j]?=some y)(hk:X.N[k]?=some z)
  (hx:X.env.scope.names.lookup x=some .local) (hy:X.env.scope.names.lookup y=some .local) (hz:X.env.scope.names.lookup z=some .local) (he:PE X e te)
  (hw:swappedStores [.Tuple [.Name x px,.Name y py,.Name z pz] kt pt] e X.env=pure (some [x,y,z]))
  (hs:swapsWithSole [.Tuple [.Name x px,.Name y py,.Name z pz] kt pt] e pos.line X.env=pure false) :
  PS X (.Assign [.Tuple [.Name x px,.Name y py,.Name z pz] kt pt] e pos) (Cv X.K i j k te):=by
 intro pins s σ H D I h
 refine Assign_Tuple_swapped (names:=[x,y,z]) (Ho (he pins s σ H _ I h) fun r s1 ⟨xr,H1,I1,r1,p,v,w,u,ex,hp,q⟩=>?_) hs hw
 subst ex
 cases r1
 obtain⟨its,rv,tp,_⟩:=I1.tuple hp
 obtain⟨u1,u2,u3,ei,a1,a2,a3⟩:∃u1 u2 u3,its=[u1,u2,u3]/\RelV v u1/\RelV w u2/\RelV u u3:=by
  cases rv with
  |cons a1 rv=>
   cases rv with
   |cons a2 rv=>
    cases rv with
    |cons a3 rv=>
     cases rv
     exact⟨_,_,_,rfl,a1,a2,a3⟩
 subst ei
 refine unpackItems_tuple (items:=#[u1,u2,u3]) (I.ok.hd hc) tp fun h' kp=>?_
 have I2:=I1.kept (h':=h') (t':=s1.toks) fun b o eb=>kp b o (TM (To eb)) eb
 refine VH (WR (d6 I2 hN hk (.inl hz) a3 (fun s2 I3=>?_) (.inr hz)))
 refine VH (WR (d6 I3 hN hj (.inl hy) a2 (fun s3 I4=>?_) (.inr hy)))
 exact VH (WR (d6 I4 hN hi (.inl hx) a1 (fun s4 I5=>assignInOrder_nil ⟨_,H1,I5,q⟩) (.inr hx)))
end
end L2
namespace Zt
open PySem
open Sem (wp)
def Si(kd:Bool)(h:Heap)(a t:Addr)(i:Nat):Prop:=cond kd (h.IsListIter a t i) (h.IsTupleIter a t i)
def Sq(kd:Bool)(h:Heap)(a:Addr)(xs:Vw):Prop:=cond kd (h.IsList a xs) (h.IsTuple a xs)
theorem Si.at{kd:Bool}{h h':Heap}{a t:Addr}{i:Nat}(x:Si kd h a t i)(e:∀o,h.get? a=some o->h'.get? a=some o):Si kd h' a t i:=match kd,x with|true,x=>Heap.IsListIter.at x e|false,x=>Heap.IsTupleIter.at x e
theorem Sq.at{kd:Bool}{h h':Heap}{a:Addr}{xs:Vw}(x:Sq kd h a xs)(e:∀o,h.get? a=some o->h'.get? a=some o):Sq kd h' a xs:=match kd,x with|true,x=>Heap.IsList.at x e|false,x=>Heap.IsTuple.at x e
def Sq.lt{kd:Bool}{h:Heap}{a:Addr}{xs:Vw}(x:Sq kd h a xs):a < h.objs.size:=match kd,x with|true,⟨_,e,_⟩=>To e|false,⟨_,e,_⟩=>To e
def Si.ob{kd:Bool}{h:Heap}{a t:Addr}{i:Nat}(x:Si kd h a t i):∃o f,h.get? a=some o/\o.data = .fields f:=match kd,x with|true,⟨o,e,_,d⟩=>⟨o,_,e,d⟩|false,⟨o,e,_,d⟩=>⟨o,_,e,d⟩
def Si.extBut{kd:Bool}{h h':Heap}{a c t:Addr}{i:Nat}(x:Si kd h a t i)(e:Heap.ExtBut c h h')(n:a≠c):Si kd h' a t i:=x.at fun _ q=>e _ _ n q
def Sq.extBut{kd:Bool}{h h':Heap}{a c:Addr}{xs:Vw}(x:Sq kd h a xs)(e:Heap.ExtBut c h h')(n:a≠c):Sq kd h' a xs:=x.at fun _ q=>e _ _ n q
section
variable {prog:Program} {w:World} {A:Around} {E:Vq} {s:Shared}
def nx{j t:Addr}{i:Nat}{its:Vw}{x:Value}{Q:Vq}(hj:s.heap.IsTupleIter j t i)(ht:s.heap.IsTuple t its)(hx:its[i]?=some x)
  (k:∀g:Heap,g.IsTupleIter j t (i+1)->Heap.SameBut j s.heap g->Q x { s with heap:=g }):wpAny (model prog w) A (Builtin.SmallTypes.nextOf (.ref j)) Q E s:=by
 obtain⟨ob,eb,kb,db⟩:=id hj
 obtain⟨oc,ec,_,nc,dc⟩:=ht
 unfold Builtin.SmallTypes.nextOf
 refine Tc (Ui (name:=Str.ofString "__next__") hj.typeIs VI (Uv VI hj.typeIs F.entry_tuple_iterator_next ?_ (F.args_tuple_iterator_next_1 _)))
 show wpAny _ _ (field (.ref j) 0 >>= _) _ _ s;refine Tc (Us eb db (x:=.ref t) rfl ?_)
 show wpAny _ _ (if (Value.ref t == Value.none)=true then _ else _) _ _ s;rw[if_neg (show ¬((Value.ref t == Value.none)=true)from T4)]
 show wpAny _ _ (field (.ref j) 1 >>= _) _ _ s;refine Tc (Us eb db (x:=.int i 0) rfl ?_)
 show wpAny _ _ (seqItems? (.ref t) >>= _) _ _ s;refine Tc (Uo ec dc ?_)
 simp only[Int.toNat_natCast,hx];refine Tc (VJ eb db (by simp) (Tf ⟨x,rfl,Tf (k _ ?_ (Uz ..))⟩))
 exact⟨_,Ur _ eb (VO (UN db _)),(WZ ..).trans kb,by rw[UN db];simp[rawInt]⟩
def GM{j t:Addr}{i:Nat}{its:Vw}{Q:Vq}(hh:A.handled=none)(hj:s.heap.IsTupleIter j t i)(ht:s.heap.IsTuple t its)(hx:its[i]?=none)
  (k:∀(g:Heap) (e:Addr),Heap.ExtBut j s.heap g->(∃o,g.get? e=some o/\o.cls = .type "StopIteration")->E (.ref e) { s with heap:=g }):wpAny (model prog w) A (Builtin.SmallTypes.nextOf (.ref j)) Q E s:=by
 obtain⟨ob,eb,kb,db⟩:=id hj
 obtain⟨oc,ec,_,nc,dc⟩:=ht
 unfold Builtin.SmallTypes.nextOf
 refine Tc (Ui (name:=Str.ofString "__next__") hj.typeIs VI (Uv VI hj.typeIs F.entry_tuple_iterator_next ?_ (F.args_tuple_iterator_next_1 _)))
 show wpAny _ _ (field (.ref j) 0 >>= _) _ _ s;refine Tc (Us eb db (x:=.ref t) rfl ?_)
 show wpAny _ _ (if (Value.ref t == Value.none)=true then _ else _) _ _ s;rw[if_neg (show ¬((Value.ref t == Value.none)=true)from T4)]
 show wpAny _ _ (field (.ref j) 1 >>= _) _ _ s;refine Tc (Us eb db (x:=.int i 0) rfl ?_)
 show wpAny _ _ (seqItems? (.ref t) >>= _) _ _ s;refine Tc (Uo ec dc ?_)
 simp only[Int.toNat_natCast,hx];refine Tc (Vp (Tc (VJ eb db (by simp) ?_)))
 show wpAny _ _ (newExc (.type "StopIteration") [] >>= _) _ _ _;refine Tc ?_
 simp only[newExc,newTuple];refine Tc (Ud ?_ (by size_fits))
 refine Tc (m:=firstArgMember _ _) (XC (a:=Value.none) (by first|rfl|(simp only[firstArgMember];rfl)) ?_);refine Ud ?_ (by size_fits)
 simp only[raiseNew];refine Tc (wpAny_handled ?_)
 first|(rw[hh])|(rw[show A.in1.handled=none from hh])
 exact Tc (Tf (wpAny_throw (k _ _ (((Uz ..).extBut.push _).push _) ⟨_,Tn _ rfl,rfl⟩)))
def DE{kd:Bool}{j t:Addr}{i:Nat}{its:Vw}{x:Value}{Q:Vq}(hj:Si kd s.heap j t i)(ht:Sq kd s.heap t its)(hx:its[i]?=some x)
  (k:∀g:Heap,Si kd g j t (i+1)->Heap.SameBut j s.heap g->Q x { s with heap:=g }):wpAny (model prog w) A (Builtin.SmallTypes.nextOf (.ref j)) Q E s:=by
 cases kd with
 |true=>exact wpAny_nextOf_list_item hj ht hx k
 |false=>exact nx hj ht hx k
def Cw{kd:Bool}{j t:Addr}{i:Nat}{its:Vw}{Q:Vq}(hh:A.handled=none)(hj:Si kd s.heap j t i)(ht:Sq kd s.heap t its)(hx:its[i]?=none)
  (k:∀(g:Heap) (e:Addr),Heap.ExtBut j s.heap g->(∃o,g.get? e=some o/\o.cls = .type "StopIteration")->E (.ref e) { s with heap:=g }):wpAny (model prog w) A (Builtin.SmallTypes.nextOf (.ref j)) Q E s:=by
 cases kd with
 |true=>exact wpAny_nextOf_list_end hh hj ht hx k
 |false=>exact GM hh hj ht hx k
variable {ka kb:Bool} {z TI TO i1 i2 l1 l2:Addr} {k1 k2:Nat} {xs ys:Vw} {x y a b:Value}
def oX{Q:Vq}(D:ZipApart z TI TO i1 i2 l1 l2)(gz:IsZip s.heap z TI TO .none)(gI:IsPair s.heap TI (.ref i1) (.ref i2))(gO:IsPair s.heap TO a b)
  (g1:Si ka s.heap i1 l1 k1) (g2:Si kb s.heap i2 l2 k2) (t1:Sq ka s.heap l1 xs) (t2:Sq kb s.heap l2 ys) (hx:xs[k1]?=some x) (hy:ys[k2]?=some y)
  (k:∀g,IsZip g z TI TO (rawInt s.heap.objs.size)->IsPair g TO x y->Si ka g i1 l1 (k1+1)->Si kb g i2 l2 (k2+1)->IsPair g s.heap.objs.size x y->
   (∀c o,c≠z->c≠TO->c≠i1->c≠i2->s.heap.get? c=some o->g.get? c=some o)->Q (.ref s.heap.objs.size) { s with heap:=g }) :
  wpAny (model prog w) A (Builtin.«zip.__next__» ⟨[.ref z],[]⟩) (fun fin s'=>∃v,fin = .done (.ret v)/\Q v s') E s:=by
 show wpAny _ _ (field (.ref z) 2 >>= _) _ _ _;refine Tc (Us gz rfl (x:=.bool false) rfl ?_)
 show wpAny _ _ (field (.ref z) 3 >>= _) _ _ _;refine Tc (Us gz rfl (x:=.ref TI) rfl (Tc (Uo gI rfl ?_)))
 show wpAny _ _ (Builtin.SmallTypes.ownedTupleIsFree (.ref z) >>= _) _ _ _;refine Tc ?_;unfold Builtin.SmallTypes.ownedTupleIsFree
 refine Tc (Us gz rfl (x:=.none) rfl (Tf ?_));simp only[Ua]
 refine Tc (Vp (Tc (Us gz rfl (x:=.ref TO) rfl (Tc (UE gz (by simp) fun h₁ z1 q1=>?_)))))
 replace z1:IsZip h₁ z TI TO .ellipsis:=z1
 refine Tc ?_;simp only[List.zipIdx_cons,List.zipIdx_nil,WA,List.forIn_nil]
 refine Tc (Tc (VX ?_));show wpAny _ _ (Builtin.SmallTypes.nextOf (.ref i1) >>= _) _ _ _
 refine Tc (DE (g1.extBut q1.extBut D.i1z) (t1.extBut q1.extBut D.l1z) hx fun h₂ n1 q2=>Tf ?_)
 have o2:IsPair h₂ TO a b:=q2.extBut _ _ D.TOi1 (q1.extBut _ _ D.TOz gO)
 refine Tc (Uo o2 rfl (Tc (Xh o2 fun h₃ o3 q3=>?_)))
 replace o3:IsPair h₃ TO x b:=o3
 refine Tc (WM (Tf ?_));refine Tc (Tc (VX ?_));show wpAny _ _ (Builtin.SmallTypes.nextOf (.ref i2) >>= _) _ _ _
 refine Tc (DE (((g2.extBut q1.extBut D.i2z).extBut q2.extBut D.i12.symm).extBut q3.extBut D.TOi2.symm) (((t2.extBut q1.extBut D.l2z).extBut q2.extBut D.l2i1).extBut q3.extBut D.l2TO) hy fun h₄ n2 q4=>Tf ?_)
 have o4:IsPair h₄ TO x b:=q4.extBut _ _ D.TOi2 o3
 refine Tc (Uo o4 rfl (Tc (Xh o4 fun h₅ o5 q5=>?_)))
 replace o5:IsPair h₅ TO x y:=o5
 refine Tc (WM (Tf (Tf ?_)));refine Tc (Uo o5 rfl (Tc (wpAny_newTuple ?_)))
 have sz:h₅.objs.size=s.heap.objs.size:=by rw[q5.1,q4.1,q3.1,q2.1,q1.1]
 have z5:IsZip h₅ z TI TO .ellipsis:=q5.extBut _ _ D.TOz.symm (q4.extBut _ _ D.i2z.symm (q3.extBut _ _ D.TOz.symm (q2.extBut _ _ D.i1z.symm z1)))
 have kk:∀c o,c≠z->c≠TO->c≠i1->c≠i2->s.heap.get? c=some o->h₅.get? c=some o:=fun c o c1 c2 c3 c4 e=>q5.extBut _ _ c2 (q4.extBut _ _ c4 (q3.extBut _ _ c2 (q2.extBut _ _ c3 (q1.extBut _ _ c1 e))))
 have m1:Si ka h₅ i1 l1 (k1+1):=((n1.extBut q3.extBut D.TOi1.symm).extBut q4.extBut D.i12).extBut q5.extBut D.TOi1.symm
 have m2:Si kb h₅ i2 l2 (k2+1):=n2.extBut q5.extBut D.TOi2.symm
 have zl:z < h₅.objs.size:=To z5
 show wpAny _ _ (Builtin.SmallTypes.ownedTupleHandOut (.ref z) (.ref h₅.objs.size) >>= _) _ _ _;refine Tc ?_;unfold Builtin.SmallTypes.ownedTupleHandOut
 have z6:IsZip (h₅.push { cls:=.type "tuple",data:=.seq #[x,y] }) z TI TO .ellipsis:=Td _ z5
 refine Tc (UE z6 (by simp) fun h₇ z7 q7=>?_)
 replace z7:IsZip h₇ z TI TO (rawInt h₅.objs.size):=z7
 refine UE z7 (by simp) fun h₈ z8 q8=>?_
 replace z8:IsZip h₈ z TI TO (rawInt h₅.objs.size):=z8
 have up:∀c o,c≠z->h₅.get? c=some o->h₈.get? c=some o:=fun c o c1 e=>q8.extBut _ _ c1 (q7.extBut _ _ c1 (Td _ e))
 have T8:IsPair h₈ h₅.objs.size x y:=q8.extBut _ _ (UU zl) (q7.extBut _ _ (UU zl) (Tn _ rfl))
 rw[sz]at z8 T8
 refine Tf ⟨_,rfl,?_⟩
 show Q (.ref h₅.objs.size) _
 rw[sz]
 exact k h₈ z8 (up _ _ D.TOz o5) (m1.at fun o e=>up _ o D.i1z e) (m2.at fun o e=>up _ o D.i2z e) T8 fun c o c1 c2 c3 c4 e=>up c o c1 (kk c o c1 c2 c3 c4 e)
def sf{Q:Fin->Shared->Prop}(hh:A.handled=none)(D:ZipApart z TI TO i1 i2 l1 l2)(gz:IsZip s.heap z TI TO .none)(gI:IsPair s.heap TI (.ref i1) (.ref i2))(gO:IsPair s.heap TO a b)
  (g1:Si ka s.heap i1 l1 k1) (g2:Si kb s.heap i2 l2 k2) (t1:Sq ka s.heap l1 xs) (t2:Sq kb s.heap l2 ys) (he:xs[k1]?=none\/ys[k2]?=none)
  (k:∀(g:Heap) (e:Addr),(∀c o,c≠z->c≠TO->c≠i1->c≠i2->s.heap.get? c=some o->g.get? c=some o)->(∃o,g.get? e=some o/\o.cls = .type "StopIteration")->E (.ref e) { s with heap:=g }) :
  wpAny (model prog w) A (Builtin.«zip.__next__» ⟨[.ref z],[]⟩) Q E s:=by
 show wpAny _ _ (field (.ref z) 2 >>= _) _ _ _;refine Tc (Us gz rfl (x:=.bool false) rfl ?_)
 show wpAny _ _ (field (.ref z) 3 >>= _) _ _ _;refine Tc (Us gz rfl (x:=.ref TI) rfl (Tc (Uo gI rfl ?_)))
 show wpAny _ _ (Builtin.SmallTypes.ownedTupleIsFree (.ref z) >>= _) _ _ _;refine Tc ?_;unfold Builtin.SmallTypes.ownedTupleIsFree
 refine Tc (Us gz rfl (x:=.none) rfl (Tf ?_));simp only[Ua]
 refine Tc (Vp (Tc (Us gz rfl (x:=.ref TO) rfl (Tc (UE gz (by simp) fun h₁ z1 q1=>?_)))))
 replace z1:IsZip h₁ z TI TO .ellipsis:=z1
 refine Tc ?_;simp only[List.zipIdx_cons,List.zipIdx_nil,WA,List.forIn_nil]
 refine Tc (Tc (VX ?_));show wpAny _ _ (Builtin.SmallTypes.nextOf (.ref i1) >>= _) _ _ _
 cases hx:xs[k1]? with
 |none=>
  refine Tc (Cw hh (g1.extBut q1.extBut D.i1z) (t1.extBut q1.extBut D.l1z) hx fun h₂ e q2 ⟨oe,ge,ce⟩=>?_)
  have z2:IsZip h₂ z TI TO .ellipsis:=q2 _ _ D.i1z.symm z1
  have ez:e≠z:=fun u=>by subst u;rw[z2]at ge;cases ge;simp at ce
  exact UE z2 (by simp) fun h₃ _ q3=>k h₃ e (fun c o c1 _ c3 _ u=>q3.extBut _ _ c1 (q2 _ _ c3 (q1.extBut _ _ c1 u))) ⟨oe,q3.extBut _ _ ez ge,ce⟩
 |some x=>
  have hy:ys[k2]?=none:=he.elim (fun q=>by rw[hx]at q;cases q) id
  refine Tc (DE (g1.extBut q1.extBut D.i1z) (t1.extBut q1.extBut D.l1z) hx fun h₂ n1 q2=>Tf ?_)
  have o2:IsPair h₂ TO a b:=q2.extBut _ _ D.TOi1 (q1.extBut _ _ D.TOz gO)
  refine Tc (Uo o2 rfl (Tc (Xh o2 fun h₃ o3 q3=>?_)))
  refine Tc (WM (Tf ?_));refine Tc (Tc (VX ?_));show wpAny _ _ (Builtin.SmallTypes.nextOf (.ref i2) >>= _) _ _ _
  refine Tc (Cw hh (((g2.extBut q1.extBut D.i2z).extBut q2.extBut D.i12.symm).extBut q3.extBut D.TOi2.symm) (((t2.extBut q1.extBut D.l2z).extBut q2.extBut D.l2i1).extBut q3.extBut D.l2TO) hy fun h₄ e q4 ⟨oe,ge,ce⟩=>?_)
  have z4:IsZip h₄ z TI TO .ellipsis:=q4 _ _ D.i2z.symm (q3.extBut _ _ D.TOz.symm (q2.extBut _ _ D.i1z.symm z1))
  have ez:e≠z:=fun u=>by subst u;rw[z4]at ge;cases ge;simp at ce
  exact UE z4 (by simp) fun h₅ _ q5=>k h₅ e (fun c o c1 c2 c3 c4 u=>q5.extBut _ _ c1 (q4 _ _ c4 (q3.extBut _ _ c2 (q2.extBut _ _ c3 (q1.extBut _ _ c1 u))))) ⟨oe,q5.extBut _ _ ez ge,ce⟩
def kE{Q:Option Value->Shared->Prop}(D:ZipApart z TI TO i1 i2 l1 l2)(gz:IsZip s.heap z TI TO .none)(gI:IsPair s.heap TI (.ref i1) (.ref i2))(gO:IsPair s.heap TO a b)
  (g1:Si ka s.heap i1 l1 k1) (g2:Si kb s.heap i2 l2 k2) (t1:Sq ka s.heap l1 xs) (t2:Sq kb s.heap l2 ys) (hx:xs[k1]?=some x) (hy:ys[k2]?=some y)
  (k:∀g,IsZip g z TI TO (rawInt s.heap.objs.size)->IsPair g TO x y->Si ka g i1 l1 (k1+1)->Si kb g i2 l2 (k2+1)->IsPair g s.heap.objs.size x y->
   (∀c o,c≠z->c≠TO->c≠i1->c≠i2->s.heap.get? c=some o->g.get? c=some o)->Q (some (.ref s.heap.objs.size)) { s with heap:=g }):wpAny (model prog w) A (pyNext (.ref z)) Q E s:=by
 have ty:s.TypeIs (.ref z) "zip":=⟨_,gz,rfl⟩
 unfold pyNext
 exact Tc (Wc (Ui (name:=Str.ofString "__next__") ty Vx (Uv Vx ty Xd
  (oX D gz gI gO g1 g2 t1 t2 hx hy fun g a1 a2 a3 a4 a5 a6=>Tf (k g a1 a2 a3 a4 a5 a6)) (W0 _))))
def mj{Q:Option Value->Shared->Prop}(hh:A.handled=none)(D:ZipApart z TI TO i1 i2 l1 l2)(gz:IsZip s.heap z TI TO .none)(gI:IsPair s.heap TI (.ref i1) (.ref i2))(gO:IsPair s.heap TO a b)
  (g1:Si ka s.heap i1 l1 k1) (g2:Si kb s.heap i2 l2 k2) (t1:Sq ka s.heap l1 xs) (t2:Sq kb s.heap l2 ys) (he:xs[k1]?=none\/ys[k2]?=none)
  (k:∀g:Heap,(∀c o,c≠z->c≠TO->c≠i1->c≠i2->s.heap.get? c=some o->g.get? c=some o)->Q none { s with heap:=g }):wpAny (model prog w) A (pyNext (.ref z)) Q E s:=by
 have ty:s.TypeIs (.ref z) "zip":=⟨_,gz,rfl⟩
 unfold pyNext
 refine Tc (Wc (Ui (name:=Str.ofString "__next__") ty Vx (Uv Vx ty Xd (sf hh D gz gI gO g1 g2 t1 t2 he fun g e kk ⟨o,ho,hc⟩=>?_) (W0 _))))
 exact Tc (V0 (T:="StopIteration") (b:=true) ⟨o,ho,hc⟩ Xs (Tf (k _ kk)))
end
noncomputable abbrev it(kd:Bool)(l:Addr):Obj:={ cls:=.type (cond kd "list_iterator" "tuple_iterator"),data:=.fields #[.ref l,.int 0 0] }
def Si.mk{kd:Bool}{h:Heap}{a l:Addr}(e:h.get? a=some (it kd l)):Si kd h a l 0:=match kd,e with|true,e=>⟨_,e,rfl,rfl⟩|false,e=>⟨_,e,rfl,rfl⟩
noncomputable abbrev H1(ka:Bool)(h:Heap)(l1:Addr):Heap:=h.push (it ka l1)
noncomputable abbrev H2(ka kb:Bool)(h:Heap)(l1 l2:Addr):Heap:=(H1 ka h l1).push (it kb l2)
noncomputable abbrev H3(ka kb:Bool)(h:Heap)(l1 l2:Addr):Heap:=(H2 ka kb h l1 l2).push { cls:=.type "tuple",data:=.seq #[.ref h.objs.size,.ref (H1 ka h l1).objs.size] }
noncomputable abbrev H4(ka kb:Bool)(h:Heap)(l1 l2:Addr):Heap:=(H3 ka kb h l1 l2).push { cls:=.type "tuple",data:=.seq #[.none,.none] }
noncomputable abbrev H5(ka kb:Bool)(h:Heap)(l1 l2:Addr):Heap:=(H4 ka kb h l1 l2).push { cls:=.type "zip",data:=.fields #[.none,.bool false,.bool false,.ref (H2 ka kb h l1 l2).objs.size,.ref (H3 ka kb h l1 l2).objs.size] }
def fD(ka kb:Bool)(l1 l2:Addr)(xs ys:Vw) :
  Meets (Builtin.«zip.__new__» ⟨[.type "zip",.ref l1,.ref l2],[]⟩) (fun _ R s=>Sq ka s.heap l1 xs/\Sq kb s.heap l2 ys/\R (.ok (.ret (.ref (H4 ka kb s.heap l1 l2).objs.size))) { s with heap:=H5 ka kb s.heap l1 l2 }):=
 .of_wp fun prog w A R s h=>by
  obtain⟨hp,g,d,tk,os⟩:=s;obtain⟨e1,e2,h⟩:=h
  have hsub:=sub_zip
  match ka,kb,e1,e2,h with
  |false,false,e1,e2,h=>
   have L1:Heap.IsTuple (Shared.heap ⟨hp,g,d,tk,os⟩) l1 xs:=e1
   have L2:Heap.IsTuple (Shared.heap ⟨hp.push { cls:=.type "tuple_iterator",data:=.fields #[.ref l1,.int 0 0] },g,d,tk,os⟩) l2 ys:=Vc e2 _
   wp_walk using Um L1,Um L2
   exact⟨_,rfl,h⟩
  |false,true,e1,e2,h=>
   have L1:Heap.IsTuple (Shared.heap ⟨hp,g,d,tk,os⟩) l1 xs:=e1
   have L2:Heap.IsList (Shared.heap ⟨hp.push { cls:=.type "tuple_iterator",data:=.fields #[.ref l1,.int 0 0] },g,d,tk,os⟩) l2 ys:=Vi e2 _
   wp_walk using Um L1,Ul L2
   exact⟨_,rfl,h⟩
  |true,false,e1,e2,h=>
   have L1:Heap.IsList (Shared.heap ⟨hp,g,d,tk,os⟩) l1 xs:=e1
   have L2:Heap.IsTuple (Shared.heap ⟨hp.push { cls:=.type "list_iterator",data:=.fields #[.ref l1,.int 0 0] },g,d,tk,os⟩) l2 ys:=Vc e2 _
   wp_walk using Ul L1,Um L2
   exact⟨_,rfl,h⟩
  |true,true,e1,e2,h=>
   have L1:Heap.IsList (Shared.heap ⟨hp,g,d,tk,os⟩) l1 xs:=e1
   have L2:Heap.IsList (Shared.heap ⟨hp.push { cls:=.type "list_iterator",data:=.fields #[.ref l1,.int 0 0] },g,d,tk,os⟩) l2 ys:=Vi e2 _
   wp_walk using Ul L1,Ul L2
   exact⟨_,rfl,h⟩
section
variable {ka kb:Bool} {prog:Program} {w:World} {A:Around} {E:Vq} {s:Shared}
def gV{l1 l2:Addr}{xs ys:Vw}{Q:Vq}(e1:Sq ka s.heap l1 xs)(e2:Sq kb s.heap l2 ys)
  (k:∀g,IsZip g (s.heap.objs.size+4) (s.heap.objs.size+2) (s.heap.objs.size+3) .none->IsPair g (s.heap.objs.size+2) (.ref s.heap.objs.size) (.ref (s.heap.objs.size+1))->
   IsPair g (s.heap.objs.size+3) .none .none->Si ka g s.heap.objs.size l1 0->Si kb g (s.heap.objs.size+1) l2 0->
   (∀c o,s.heap.get? c=some o->g.get? c=some o)->Q (.ref (s.heap.objs.size+4)) { s with heap:=g }) :
  wpAny (model prog w) A (call (.type "zip") [.ref l1,.ref l2]) Q E s:=by
 refine callType_new F.called_zip (by decide) (F.typeCall_zip_2 _ _) (F.newCall_zip_2 _ _) (fun obj=>F.args_object_init_3 obj _ _) F.entry_zip_new (fD ka kb l1 l2 xs ys) ⟨e1,e2,?_⟩
 have z1:(H1 ka s.heap l1).objs.size=s.heap.objs.size+1:=Uj ..
 have z2:(H2 ka kb s.heap l1 l2).objs.size=s.heap.objs.size+2:=by rw[Uj,z1]
 have z3:(H3 ka kb s.heap l1 l2).objs.size=s.heap.objs.size+3:=by rw[Uj,z2]
 have z4:(H4 ka kb s.heap l1 l2).objs.size=s.heap.objs.size+4:=by rw[Uj,z3]
 have g5:(H5 ka kb s.heap l1 l2).get? (H4 ka kb s.heap l1 l2).objs.size=some _:=Tn _ rfl
 have g4:(H5 ka kb s.heap l1 l2).get? (H3 ka kb s.heap l1 l2).objs.size=some _:=Td _ (Tn _ rfl)
 have g3:(H5 ka kb s.heap l1 l2).get? (H2 ka kb s.heap l1 l2).objs.size=some _:=Td _ (Td _ (Tn _ rfl))
 have g2:(H5 ka kb s.heap l1 l2).get? (H1 ka s.heap l1).objs.size=some _:=Td _ (Td _ (Td _ (Tn _ rfl)))
 have g1:(H5 ka kb s.heap l1 l2).get? s.heap.objs.size=some _:=Td _ (Td _ (Td _ (Td _ (Tn _ rfl))))
 show _/\_
 rw[z2,z3,z4]at g5
 rw[z1,z2]at g3
 rw[z3]at g4
 rw[z1]at g2
 rw[z4]
 exact⟨⟨_,g5,rfl⟩,k _ g5 g3 g4 (.mk g1) (.mk g2) fun c o e=>Td _ (Td _ (Td _ (Td _ (Td _ e))))⟩
end
end Zt
namespace L2
open PySem PySem.Spec PyProof.Rows
section
variable {X:Cx} {pins:Va} {σ:St} {H:Hp} {s:Shared} {h':Heap}
def Inv.Jt{t':Nat}{fp:List Addr}(I:Inv X pins σ H s)(k:∀b o,b ∉ fp->s.heap.get? b=some o->h'.get? b=some o)(hf:∀b∈fp,fL X pins H b):Inv X pins σ H { s with heap:=h',toks:=t' }:=by
 have ON:∀b u,H b=some u->b ∉ fp:=fun b u e z=>by rw[(hf b z).1]at e;cases e
 refine I.step (g':=s.gens) (d':=s.drawn) (ch:=fp) (fun b hb=>?_) (fun b o _ _ hc e _=>k b o hc e) (fun b o _ _ hc e _=>⟨o.slots,k b o hc e⟩) (fun _ _ _ _ n=>n)
  (fun b o hc e=>⟨o,k b o hc e⟩) (fun _ _ e=>e) (fun _ _ _ e=>e) (fun b ps e=>⟨#[],by rw[e];simp⟩) (fun m hm=>?_) (fun b u e=>?_) I.bare
 ·obtain⟨f0,f1,f2,f3,f4,f5⟩:=hf b hb
  exact⟨f3,f1,f4,f5⟩
 ·obtain⟨o,es,ep,ho,r⟩:=hm
  exact⟨o,es,ep,k _ o (fun z=>(hf _ z).2.1 rfl) ho,r⟩
 ·refine(I.hok b u e).stay (fun c v hc q=>k c v ?_ q) (fun _ q=>q) fun _ _ q=>q
  rcases hc with z|z
  ·rw[z];exact ON b u e
  ·exact ON c _ z
def Inv.LF{D:Addr}{us:Vv}{ys:List V}(I:Inv X pins σ H s)(f:fL X pins H D)(e:IA s.heap D us.toArray)(r:Vals ys us)(hz:ys.length<=sizeLine) :
  Inv X pins σ (upd H D (.tup ys)) s:=by
 obtain⟨f0,f1,f2,f3,f4,f5⟩:=f
 have nD:∀b u,H b=some u->b≠D:=fun b u q=>bz q f0
 have hok:Kq X.prog X.w (upd H D (.tup ys)) s.heap:=fun b u q=>by
  by_cases hb:b=D
  ·subst hb
   rw[aH]at q
   cases q
   exact⟨hz,us,r,e⟩
  ·rw[aL hb]at q
   exact(I.hok b u q).stay (fun _ _ _ z=>z) (fun c z=>by rw[aL (nD c _ z)];exact z) fun c xs z=>by rw[aL (nD c _ z)];exact z
 exact I.step (H':=upd H D (.tup ys)) (h':=s.heap) (g':=s.gens) (t':=s.toks) (d':=s.drawn) (ch:=[D])
  (fun b hb=>by
   have z:b=D:=by simpa using hb
   subst z
   exact⟨f3,f1,f4,f5⟩)
  (fun _ _ _ _ _ q _=>q) (fun _ o _ _ _ q _=>⟨o.slots,q⟩)
  (fun b o hb _ n=>by rw[aL (fun z=>hb (by simp[z]))];exact n)
  (fun _ o _ q=>⟨o,q⟩) (fun b xs q=>by rw[aL (nD b _ q)];exact q) (fun b o u q=>by rw[aL (nD b _ q)];exact q)
  (fun b ps q=>⟨#[],by rw[aL (nD b _ q),q];simp⟩) (fun _ q=>q) hok I.bare
end
def ml(kd:Bool)(K:Vo)(H:Hp)(a:Addr)(xs:List V):Prop:=cond kd (SqL K H a xs) (SqT K H a xs)
def Inv.KM{X:Cx}{pins:Va}{σ:St}{H:Hp}{s:Shared}{kd:Bool}{a:Addr}{xs:List V}(I:Inv X pins σ H s)(h:ml kd X.K H a xs):∃its:List Value,Vals xs its/\Zt.Sq kd s.heap a its.toArray:=by
 cases kd with
 |true=>obtain⟨i,r,p,z⟩:=I.list h;exact⟨i,r,p.isList⟩
 |false=>obtain⟨i,r,p,z⟩:=I.tuple h;exact⟨i,r,p⟩
def Inv.J7{X:Cx}{pins:Va}{σ:St}{H:Hp}{s:Shared}{kd:Bool}{a:Addr}{xs ys:List V}(I:Inv X pins σ H s)(h:ml kd X.K H a xs)(g:ml kd X.K H a ys):xs=ys:=by
 cases kd with
 |true=>exact I.KE h g
 |false=>exact I.KL h g
noncomputable def Ga(ka kb:Bool)(K:Vo)(a b:Addr):It:=
  ⟨fun i H=>∃xs ys x y,ml ka K H a xs/\ml kb K H b ys/\xs[i]?=some x/\ys[i]?=some y,
   fun i H v H'=>∃p x y,v = .ref p/\H p=none/\H'=upd H p (.tup [x,y])/\∀xs ys,ml ka K H a xs->ml kb K H b ys->xs[i]?=some x/\ys[i]?=some y,
   fun i H=>∃xs ys,ml ka K H a xs/\ml kb K H b ys/\(xs.length<=i\/ys.length<=i)⟩
def wA{ka kb:Bool}{P:Program}{w:World}{K:Vo}{elts:List Expr}{k0:Nat}{Jw:Pos}{z TI TO i1 i2 a b:Addr}(D:ZipApart z TI TO i1 i2 a b) :
  l9 P w K (.Tuple elts k0 Jw) (Ga ka kb K a b) [z,TI,TO,i1,i2] z (fun i h=>IsZip h z TI TO .none/\IsPair h TI (.ref i1) (.ref i2)/\(∃x y,IsPair h TO x y)/\Zt.Si ka h i1 a i/\Zt.Si kb h i2 b i) where
 mem:=by simp
 obj:=fun i h st c hc=>by
  obtain⟨gz,gI,⟨x,y,gO⟩,g1,g2⟩:=st
  obtain⟨o1,_,e1,d1⟩:=g1.ob;obtain⟨o2,_,e2,d2⟩:=g2.ob
  simp only[Th,TJ,Uq]at hc
  rcases hc with rfl|rfl|rfl|rfl|rfl
  ·exact⟨_,gz,fun v q=>by cases q⟩
  ·exact⟨_,gI,fun v q=>by cases q⟩
  ·exact⟨_,gO,fun v q=>by cases q⟩
  ·exact⟨_,e1,fun v q=>by rw[d1]at q;cases q⟩
  ·exact⟨_,e2,fun v q=>by rw[d2]at q;cases q⟩
 keep:=fun i h h' st k=>by
  obtain⟨gz,gI,⟨x,y,gO⟩,g1,g2⟩:=st
  exact⟨k z (by simp) _ gz,k TI (by simp) _ gI,⟨x,y,k TO (by simp) _ gO⟩,g1.at fun o e=>k i1 (by simp) o e,g2.at fun o e=>k i2 (by simp) o e⟩
 item:=by
  intro X hP hw hK hc i pins s σ H E I hf st hg
  subst hP hw hK
  obtain⟨gz,gI,⟨ta,tb,gO⟩,g1,g2⟩:=st
  obtain⟨xs,ys,x,y,LG,Og,hx,hy⟩:=hg
  obtain⟨ia,ra,pa⟩:=I.KM LG
  obtain⟨ib,rb,pb⟩:=I.KM Og
  obtain⟨u,hu,ru⟩:=ra.get hx
  obtain⟨v,hv,rv⟩:=rb.get hy
  refine Zt.kE D gz gI gO g1 g2 pa pb (x:=u) (y:=v) (by simpa using hu) (by simpa using hv) fun g a1 a2 a3 a4 a5 a6=>?_
  refine⟨_,rfl,wpAny_letOwnedTupleGo_zip (s:={ s with heap:=g }) a1 fun g' z' q'=>?_⟩
  have kk:∀c o,c ∉ [z,TI,TO,i1,i2]->s.heap.get? c=some o->g'.get? c=some o:=fun c o hc e=>by
   simp only[Th,TJ,Uq,not_or]at hc
   exact q'.extBut _ _ hc.1 (a6 c o hc.1 hc.2.2.1 hc.2.2.2.1 hc.2.2.2.2 e)
  have I1:Inv X pins σ H { s with heap:=g' }:=I.Jt (t':=s.toks) kk hf
  have f0:fL X pins H s.heap.objs.size:=I.Ku (Tq _) (I.hok.fresh (Tq _))
  have eT:IA g' s.heap.objs.size [u,v].toArray:=⟨_,q'.extBut _ _ (UU (To gz)) a5,rfl,rfl,_,rfl⟩
  have I2:=I1.LF f0 eT (.cons ru (.cons rv .nil)) (by show 2<=sizeLine;decide)
  refine⟨.ref s.heap.objs.size,_,I2,rfl,⟨s.heap.objs.size,x,y,rfl,f0.1,rfl,fun xs' ys' h1 h2=>by rw[I.J7 h1 LG,I.J7 h2 Og];exact⟨hx,hy⟩⟩,
   ⟨z',q'.extBut _ _ D.TIz (a6 TI _ D.TIz D.TITO D.TIi1 D.TIi2 gI),⟨_,_,q'.extBut _ _ D.TOz a2⟩,a3.extBut q'.extBut D.i1z,a4.extBut q'.extBut D.i2z⟩,fun c hc=>?_⟩
  have hlt:c < s.heap.objs.size:=by
   obtain⟨_,_,e1,_⟩:=g1.ob
   obtain⟨_,_,e2,_⟩:=g2.ob
   simp only[Th,TJ,Uq]at hc
   rcases hc with rfl|rfl|rfl|rfl|rfl
   ·exact To gz
   ·exact To gI
   ·exact To gO
   ·exact To e1
   ·exact To e2
  rw[aL (TM hlt)]
  exact(hf c hc).1
 done:=by
  intro X hP hw hK hc i pins s σ H E I hf st hg
  subst hP hw hK
  obtain⟨gz,gI,⟨ta,tb,gO⟩,g1,g2⟩:=st
  obtain⟨xs,ys,LG,Og,hl⟩:=hg
  obtain⟨ia,ra,pa⟩:=I.KM LG
  obtain⟨ib,rb,pb⟩:=I.KM Og
  have la:=ra.length
  have lb:=rb.length
  refine Zt.mj (I.ok.hd hc) D gz gI gO g1 g2 pa pb ?_ fun g kk=>⟨rfl,I.Jt (t':=s.toks) (fun c o hc e=>?_) hf⟩
  ·rcases hl with q|q
   ·exact .inl (by simp;omega)
   ·exact .inr (by simp;omega)
  ·simp only[Th,TJ,Uq,not_or]at hc
   exact kk c o hc.1 hc.2.2.1 hc.2.2.2.1 hc.2.2.2.2 e
 self:=fun _ _ _ _ _ st h=>Xe st.1 h
section
variable {X:Cx}
def Gb(K:Vo)(ta:TA):TI:=fun σ H R=>ta σ H fun vs H1=>∃ka kb a b,vs=[.ref a,.ref b]/\(∃xs,ml ka K H1 a xs)/\(∃ys,ml kb K H1 b ys)/\R (Ga ka kb K a b) H1
def wB{elts:List Expr}{k0:Nat}{Jw:Pos}{a b:Expr}{ta:TA}{p pos:Pos}(hg:Gl X "zip")(hm:X.mg "zip" = none)(hv:bootBuiltins "zip" = some (.type "zip"))(ha:PA X [a,b] ta)
  (hs:starEach [a,b] X.env=[(false,eval a X.env),(false,eval b X.env)]:=by rfl) (hs2:starEach [b] X.env=[(false,eval b X.env)]:=by rfl):PI X (.Tuple elts k0 Jw) (.Call (.Name "zip" p) [a,b] [] pos) (Gb X.K ta):=by
 intro pins s σ H R I h
 refine Call_ (dH I hg hm hv (Uk (Ho (ha pos pins s σ H _ I h) fun us s1 ⟨vs,H1,I1,r1,q1⟩=>?_) (by rw[hs,hs2]) (by rw[hs2];rfl)))
 obtain⟨ka,kb,a,b,e,⟨xs,qa⟩,⟨ys,qb⟩,q⟩:=q1
 subst e
 obtain⟨u,v,rfl,ru,rv⟩:=v8 r1
 cases ru
 cases rv
 obtain⟨ia,ra,pa⟩:=I1.KM qa
 obtain⟨ib,rb,pb⟩:=I1.KM qb
 have la:a < s1.heap.objs.size:=pa.lt
 have lb:b < s1.heap.objs.size:=pb.lt
 refine Zt.gV pa pb fun g gz gI gO g1 g2 kk=>?_
 refine Xe (s:={ s1 with heap:=g }) gz ?_
 refine⟨_,[s1.heap.objs.size+4,s1.heap.objs.size+2,s1.heap.objs.size+3,s1.heap.objs.size,s1.heap.objs.size+1],_,_,H1,rfl,I1.kept (t':=s1.toks) kk,wA (zipApart_new la lb),⟨gz,gI,⟨_,_,gO⟩,g1,g2⟩,fun c hc=>?_,q⟩
 have hle:s1.heap.objs.size<=c:=by
  simp only[Th,TJ,Uq]at hc
  rcases hc with rfl|rfl|rfl|rfl|rfl
  ·exact UI _ _
  ·exact UI _ _
  ·exact UI _ _
  ·exact Tq _
  ·exact UI _ _
 exact I1.Ku hle (I1.hok.fresh hle)
def KD(P:Program)(w:World)(K:Vo)(a:Addr)(kvs:List (bf×V)):Prop:=(a == sysModules)=false/\∃o vs,K.lookup a=some o/\KV kvs vs/\Obj.IsDictOf (aU P w) o vs
def Ey(a:Addr)(kvs:List (bf×V))(ty tx:TE):TE:=fun σ H Q=>ty σ H fun y H2=>tx σ H2 fun z H3=>∃k,y=kV k/\Q ((i0 kvs k).getD z) H3
def zB{x:Str}{e f:Expr}{px apos cpos:Pos}{ty tx:TE}{a:Addr}{kvs:List (bf×V)}(hu:X.A.units+1 < cLine)(hg:Gl X x)(hm:X.mg x=some (.ref a))(hD:KD X.prog X.w X.K a kvs)(he:PE X e ty)(hf:PE X f tx)(m:M2 X (.Name x px) "get" apos e f cpos)
  (hd:(x == ("__debug__":Str))=false:=by decide):PE X (.Call (.Attribute (.Name x px) "get" apos) [e,f] [] cpos) (Ey a kvs ty tx):=by
 intro pins s σ H Q I h
 obtain⟨hsys,o,vs,hk,rel,ii⟩:=hD
 have dd:∀{s1:Shared} {H1:Hp},Inv X pins σ H1 s1->s1.heap.DictOf (aU X.prog X.w) a vs:=fun I1=>Heap.dictOf_iff.mpr ⟨o,I1.MY a o hk,ii⟩
 refine wpAny_Call_method m.base m.few m.line PySem.F.plainAttrs_dict VM PySem.F.type_dict_get (tD I hg hm ?_ hd)
 refine⟨(dd I).typeIs,fun b q=>?_,?_⟩
 ·cases q
  obtain⟨ob,_,_,h1,h2,_⟩:=dd I
  exact⟨ob,h1,h2.2.1⟩
 rw[m.trees]
 refine VD rfl (Wg (UM (Ho (he pins s σ H _ I h) fun iv s2 ⟨y,H2,I2,ry,q2⟩=>
  UM (Ho (hf pins s2 σ H2 _ I2 q2) fun fv s3 ⟨z,H3,I3,rz,k,ey,q3⟩=>Vb ?_))))
 subst ey
 refine call_meetsIn VM (dd I3).typeIs WX (WL _ _ _) (meets_dict_get_default (aU X.prog X.w) a (jT ry) hsys fv) ⟨_,(dd I3).mapOf,⟨_,H3,I3.tok _,?_,q3⟩⟩
 exact(rel.val k).getD rz
end
section
variable {env:Env} {rest:List Expr} {pos:Pos}
def uS{g:Expr}{es:List Expr}{ks:List Keyword}:starEach (.Call g es ks pos::rest) env=(false,eval (.Call g es ks pos) env)::starEach rest env:=rfl
def wC{a b:Expr}:starEach (.Subscript a b pos::rest) env=(false,eval (.Subscript a b pos) env)::starEach rest env:=rfl
def uT{a:Expr}{gs:List Comprehension}{sc:Scope}:starEach (.ListComp a gs sc pos::rest) env=(false,eval (.ListComp a gs sc pos) env)::starEach rest env:=rfl
end
noncomputable def Gc(K:Vo)(a:Addr):It:=
  ⟨fun i H=>∃xs x,SqL K H a xs/\xs[i]?=some x,
   fun i H v H'=>∃p x,v = .ref p/\H p=none/\H'=upd H p (.tup [.int (i:Nat),x])/\∀xs,SqL K H a xs->xs[i]?=some x,
   fun i H=>∃xs,SqL K H a xs/\xs.length<=i⟩
def uU{P:Program}{w:World}{K:Vo}{elts:List Expr}{k0:Nat}{Jw:Pos}{e it a:Addr}(hei:e≠it) :
  l9 P w K (.Tuple elts k0 Jw) (Gc K a) [e,it] e (fun i h=>(∃old,IsEnum h e it i old)/\h.IsListIter it a i) where
 mem:=by simp
 obj:=fun i h st c hc=>by
  obtain⟨⟨old,ge⟩,⟨o1,e1,_,d1⟩⟩:=st
  simp only[Th,TJ,Uq]at hc
  rcases hc with rfl|rfl
  ·exact⟨_,ge,fun v q=>by cases q⟩
  ·exact⟨_,e1,fun v q=>by rw[d1]at q;cases q⟩
 keep:=fun i h h' st k=>by
  obtain⟨⟨old,ge⟩,g1⟩:=st
  exact⟨⟨old,k e (by simp) _ ge⟩,g1.at fun o q=>k it (by simp) o q⟩
 item:=by
  intro X hP hw hK hc i pins s σ H E I hf st hg
  subst hP hw hK
  obtain⟨⟨old,ge⟩,g1⟩:=st
  obtain⟨xs,x,LG,hx⟩:=hg
  obtain⟨ia,ra,pa,za⟩:=I.list LG
  obtain⟨u,hu,ru⟩:=ra.get hx
  refine wpAny_pyNext_enum_item ge g1 pa.isList (x:=u) (by simpa using hu) hei fun g a1 a2 a3 a4 a5=>?_
  refine⟨_,rfl,wpAny_letOwnedTupleGo_enum (s:={ s with heap:=g,toks:=s.toks+1 }) a1 fun g' z' q'=>?_⟩
  have kk:∀c o,c ∉ [e,it]->s.heap.get? c=some o->g'.get? c=some o:=fun c o hc q=>by
   simp only[Th,TJ,Uq,not_or]at hc
   exact(q'.2 c hc.1).trans (a5 c o hc.1 hc.2 q)
  have I1:Inv X pins σ H { s with heap:=g',toks:=s.toks+1 }:=I.Jt kk hf
  have f0:fL X pins H s.heap.objs.size:=I.Ku (Tq _) (I.hok.fresh (Tq _))
  have Qt:s.heap.objs.size≠e:=UU (To ge)
  have eT:IA g' s.heap.objs.size [Value.int i s.toks,u].toArray:=⟨_,(q'.2 _ Qt).trans a3,rfl,rfl,_,rfl⟩
  have I2:=I1.LF (ys:=[.int i,x]) f0 eT (.cons ⟨_,rfl⟩ (.cons ru .nil)) (by show 2<=sizeLine;decide)
  refine⟨.ref s.heap.objs.size,_,I2,rfl,⟨s.heap.objs.size,x,rfl,f0.1,rfl,fun xs' h1=>by rw[I.KE h1 LG];exact hx⟩,⟨⟨u,by simpa using z'⟩,a2.at fun o q=>(q'.2 it hei.symm).trans q⟩,fun c hc=>?_⟩
  have hlt:c < s.heap.objs.size:=by
   obtain⟨o1,e1,_⟩:=g1
   simp only[Th,TJ,Uq]at hc
   rcases hc with rfl|rfl
   ·exact To ge
   ·exact To e1
  rw[aL (TM hlt)]
  exact(hf c hc).1
 done:=by
  intro X hP hw hK hc i pins s σ H E I hf st hg
  subst hP hw hK
  obtain⟨⟨old,ge⟩,g1⟩:=st
  obtain⟨xs,LG,hl⟩:=hg
  obtain⟨ia,ra,pa,za⟩:=I.list LG
  have la:=ra.length
  refine wpAny_pyNext_enum_end (I.ok.hd hc) ge g1 pa.isList (by simp;omega) fun g kk=>⟨rfl,I.Jt (t':=s.toks) (fun c o hc q=>?_) hf⟩
  simp only[Th,TJ,Uq,not_or]at hc
  exact kk c o hc.2 q
 self:=fun _ _ _ _ _ st h=>by
  obtain⟨⟨old,ge⟩,_⟩:=st
  exact W2 ge h
end L2
namespace Et
open PySem
open Sem (wp)
open AutoSeq1 (wpAny_loadPart')
def A5{P:Program}{w:World}{A:Around}(hh:A.handled=none)(it t:Addr)(hne:t≠it)(its:Vw) :
  Draws P w A it [it,t] its.size (fun i v=>its[i]?=some v) (fun i h=>h.IsTupleIter it t i/\h.IsTuple t its) where
 live:=fun i h st=>let ⟨⟨o,e,_⟩,_⟩:=st;⟨o,e⟩
 frame:=fun i h h' st k=>⟨st.1.at fun o e=>k it (by simp) o e,let ⟨o,e,r⟩:=st.2;⟨o,k t (by simp) o e,r⟩⟩
 item:=fun i s Q E hi st hQ=>Zt.nx st.1 st.2 (Wr hi) fun g a b=>hQ _ g s.toks (Wr hi) ⟨a,st.2.extBut b.extBut hne⟩ b
 done:=fun s Q E st hE=>Zt.GM hh st.1 st.2 (UX (Tq _)) hE
noncomputable abbrev E1(h:Heap)(l:Addr):Heap:=h.push { cls:=.type "tuple_iterator",data:=.fields #[.ref l,.int 0 0] }
noncomputable abbrev E2(h:Heap)(l:Addr):Heap:=(E1 h l).push { cls:=.type "enumerate",data:=.fields #[.none,.bool false,.ref h.objs.size,rawInt 0,.none,.none] }
def fD(l:Addr)(its:Vw)(n:Nat)(dct:Option Addr)(sl:Array (Option Value)) :
  Meets (Builtin.«enumerate.__new__» ⟨[.type "enumerate",.ref l],[]⟩) (fun _ R s=>s.heap.get? l=some { cls:=.type "tuple",dict:=dct,data:=.seq its n,slots:=sl }/\R (.ok (.ret (.ref (E1 s.heap l).objs.size))) { s with heap:=E2 s.heap l }):=
 .of_wp fun prog w A R s h=>by
  obtain⟨hp,g,d,tk,os⟩:=s;obtain⟨hl,h⟩:=h
  have hsub:=sub_enumerate
  have T:Heap.IsTuple (Shared.heap ⟨hp,g,d,tk,os⟩) l its:=⟨_,hl,rfl,n,rfl⟩
  wp_walk using WB hl
  refine wpAny_stack_any fun st=>Tf ?_
  split
  ·rename_i c _ _ _ _ _
   cases (c == Value.type "enumerate")
   ·wp_walk using WB hl,Um T
    exact⟨_,rfl,h⟩
   ·wp_walk using WB hl,Um T
    exact⟨_,rfl,h⟩
  ·wp_walk using WB hl,Um T
   exact⟨_,rfl,h⟩
def gV{P:Program}{w:World}{A:Around}{E:Vq}{s:Shared}{l:Addr}{its:Vw}{Q:Vq}(hT:s.heap.IsTuple l its)
  (k:∀g,IsEnum g (s.heap.objs.size+1) s.heap.objs.size 0 .none->g.IsTupleIter s.heap.objs.size l 0->(∀b o,s.heap.get? b=some o->g.get? b=some o)->Q (.ref (s.heap.objs.size+1)) { s with heap:=g }) :
  wpAny (model P w) A (call (.type "enumerate") [.ref l]) Q E s:=by
 obtain⟨⟨c,dct,dt,sl⟩,hl,hc,n,hd⟩:=hT
 replace hc:c = .type "tuple":=hc
 replace hd:dt = .seq its n:=hd
 subst hc hd
 refine callType_new F.called_enumerate (by decide) (F.typeCall_enumerate_1 _) (F.newCall_enumerate_1 _) (fun obj=>F.args_object_init_2 obj _) F.entry_enumerate_new (fD l its n dct sl) ⟨hl,?_⟩
 have hz:(E1 s.heap l).objs.size=s.heap.objs.size+1:=Uj ..
 show _/\_
 rw[hz]
 have he:IsEnum (E2 s.heap l) (s.heap.objs.size+1) s.heap.objs.size 0 .none:=by
  have q:=Tn (E1 s.heap l) (o:={ cls:=.type "enumerate",data:=.fields #[.none,.bool false,.ref s.heap.objs.size,rawInt 0,.none,.none] }) rfl
  rw[hz]at q
  exact q
 exact⟨⟨_,he,rfl⟩,k _ he ⟨_,Td _ (Tn _ rfl),rfl,rfl⟩ fun b o x=>Td _ (Td _ x)⟩
end Et
namespace L2
open PySem PySem.Spec PyProof.Rows
noncomputable def Gd(K:Vo)(a:Addr):It:=
  ⟨fun i H=>∃xs x,SqT K H a xs/\xs[i]?=some x,
   fun i H v H'=>∃p x,v = .ref p/\H p=none/\H'=upd H p (.tup [.int (i:Nat),x])/\∀xs,SqT K H a xs->xs[i]?=some x,
   fun i H=>∃xs,SqT K H a xs/\xs.length=i⟩
def sg{P:Program}{w:World}{K:Vo}{elts:List Expr}{k0:Nat}{Jw:Pos}{e it a:Addr}(hei:e≠it)(Sd:a≠e)(hai:a≠it) :
  l9 P w K (.Tuple elts k0 Jw) (Gd K a) [e,it] e (fun i h=>(∃old,IsEnum h e it i old)/\h.IsTupleIter it a i) where
 mem:=by simp
 obj:=fun i h st c hc=>by
  obtain⟨⟨old,ge⟩,⟨o1,e1,_,d1⟩⟩:=st
  simp only[Th,TJ,Uq]at hc
  rcases hc with rfl|rfl
  ·exact⟨_,ge,fun v q=>by cases q⟩
  ·exact⟨_,e1,fun v q=>by rw[d1]at q;cases q⟩
 keep:=fun i h h' st k=>by
  obtain⟨⟨old,ge⟩,g1⟩:=st
  exact⟨⟨old,k e (by simp) _ ge⟩,g1.at fun o q=>k it (by simp) o q⟩
 item:=by
  intro X hP hw hK hc i pins s σ H E I hf st hg
  subst hP hw hK
  obtain⟨⟨old,ge⟩,g1⟩:=st
  obtain⟨xs,x,LG,hx⟩:=hg
  obtain⟨ia,ra,pa,za⟩:=I.tuple LG
  obtain⟨u,hu,ru⟩:=ra.get hx
  have hil:i < ia.toArray.size:=by
   rcases Nat.lt_or_ge i ia.length with q|q
   ·simpa using q
   ·rw[Uy q]at hu;cases hu
  refine wpAny_pyNext_enum_itemD (Et.A5 (P:=X.prog) (w:=X.w) (A:=X.A.in1) (I.ok.hd hc) it a hai ia.toArray) ge ⟨g1,(show s.heap.IsTuple a ia.toArray from pa)⟩ hil hei (by simp[hei,VL Sd]) fun v g tk hv a1 a2 a3 a4 a5=>?_
  have ev:v=u:=by
   have q:ia[i]?=some v:=by simpa using hv
   rw[q]at hu
   exact UB hu
  subst ev
  refine⟨_,rfl,wpAny_letOwnedTupleGo_enum (s:={ s with heap:=g,toks:=tk+1 }) a1 fun g' z' q'=>?_⟩
  have kk:∀c o,c ∉ [e,it]->s.heap.get? c=some o->g'.get? c=some o:=fun c o hc q=>by
   simp only[Th,TJ,Uq,not_or]at hc
   exact(q'.2 c hc.1).trans (a5 c o hc.1 hc.2 q)
  have I1:Inv X pins σ H { s with heap:=g',toks:=tk+1 }:=I.Jt kk hf
  have f0:fL X pins H s.heap.objs.size:=I.Ku (Tq _) (I.hok.fresh (Tq _))
  have Qt:s.heap.objs.size≠e:=UU (To ge)
  have eT:IA g' s.heap.objs.size [Value.int i tk,v].toArray:=⟨_,(q'.2 _ Qt).trans a3,rfl,rfl,_,rfl⟩
  have I2:=I1.LF (ys:=[.int i,x]) f0 eT (.cons ⟨_,rfl⟩ (.cons ru .nil)) (by show 2<=sizeLine;decide)
  refine⟨.ref s.heap.objs.size,_,I2,rfl,⟨s.heap.objs.size,x,rfl,f0.1,rfl,fun xs' h1=>by rw[I.KL h1 LG];exact hx⟩,⟨⟨v,by simpa using z'⟩,a2.1.at fun o q=>(q'.2 it hei.symm).trans q⟩,fun c hc=>?_⟩
  have hlt:c < s.heap.objs.size:=by
   obtain⟨o1,e1,_⟩:=g1
   simp only[Th,TJ,Uq]at hc
   rcases hc with rfl|rfl
   ·exact To ge
   ·exact To e1
  rw[aL (TM hlt)]
  exact(hf c hc).1
 done:=by
  intro X hP hw hK hc i pins s σ H E I hf st hg
  subst hP hw hK
  obtain⟨⟨old,ge⟩,g1⟩:=st
  obtain⟨xs,LG,hl⟩:=hg
  obtain⟨ia,ra,pa,za⟩:=I.tuple LG
  have la:=ra.length
  have ei:i=ia.toArray.size:=by simp;omega
  subst ei
  refine wpAny_pyNext_enum_endD (Et.A5 (P:=X.prog) (w:=X.w) (A:=X.A.in1) (I.ok.hd hc) it a hai ia.toArray) ge ⟨g1,(show s.heap.IsTuple a ia.toArray from pa)⟩ fun g kk=>⟨rfl,I.Jt (t':=s.toks) (fun c o hc q=>?_) hf⟩
  simp only[Th,TJ,Uq,not_or]at hc
  exact kk c o hc.2 q
 self:=fun _ _ _ _ _ st h=>by
  obtain⟨⟨old,ge⟩,_⟩:=st
  exact W2 ge h
section
variable {X:Cx}
def Cy:jo X (compareOp .Is) (fun x y H Q=>x = .bl true/\y = .bl true/\Q (.bl true) H):=by
 intro pins s σ H x y v u Q I rx ry h
 obtain⟨rfl,rfl,q⟩:=h
 cases (show v=Value.bool true from rx)
 cases (show u=Value.bool true from ry)
 exact wpAny_is_self rfl ⟨.bl true,H,I,rfl,q⟩
def uV:jo X (compareOp .IsNot) (fun x y H Q=>x = .bl true/\y = .bl true/\Q (.bl false) H):=by
 intro pins s σ H x y v u Q I rx ry h
 obtain⟨rfl,rfl,q⟩:=h
 cases (show v=Value.bool true from rx)
 cases (show u=Value.bool true from ry)
 exact wpAny_isNot_self rfl ⟨.bl false,H,I,rfl,q⟩
end
def wD(w:World)(x:Str):PyData.keyHash w.params x=hashStr w x:=rfl
noncomputable abbrev FD(w:World)(x:Str×Int×Tok×Tok):DictEntry:=⟨PyData.keyHash w.params x.1,.str x.1 x.2.2.1,.int x.2.1 x.2.2.2⟩
def Cz(P:Program)(w:World)(xs:List (Str×Int×Tok×Tok))(ep:Nat)(nd:(xs.map (·.1)).Nodup) :
  ∃vs,KV (xs.map fun x=>((Sum.inr x.1:bf),V.int x.2.1)) vs/\Obj.IsDictOf (aU P w) { cls:=.type "dict",data:=.dict (xs.map (FD w)).toArray ep } vs:=by
 refine⟨xs.map fun x=>((Sum.inr x.1:bf),Value.int x.2.1 x.2.2.2),?_,(xs.map (FD w)).toArray,ep,⟨rfl,rfl,rfl⟩,rfl,?_,?_,?_⟩
 ·induction xs with
  |nil=>exact .nil
  |cons x xs ih=>exact .cons ⟨rfl,_,rfl⟩ (ih (by simpa using(Uw.mp (by simpa using nd)).2))
 ·intro e he
  have he':e∈xs.map (FD w):=by simpa using he
  obtain⟨x,_,rfl⟩:=Ue.mp he'
  exact⟨Sum.inr x.1,kz x.1 x.2.2.1,wD w x.1⟩
 ·have key:∀ys:List (Str×Int×Tok×Tok),Pairs (aU P w) (ys.map (FD w)) (ys.map fun x=>((Sum.inr x.1:bf),Value.int x.2.1 x.2.2.2)):=by
   intro ys
   induction ys with
   |nil=>exact .nil
   |cons y ys ih=>exact .cons (kz y.1 y.2.2.1) rfl ih
  exact key xs
 ·rw[UP]
  have e:((fun x:bf×Value=>x.1) ∘ fun x:Str×Int×Tok×Tok=>((Sum.inr x.1:bf),Value.int x.2.1 x.2.2.2))=fun x=>Sum.inr x.1:=rfl
  have key:∀ys:List (Str×Int×Tok×Tok),(ys.map (·.1)).Nodup->(ys.map fun x=>(Sum.inr x.1:bf)).Nodup:=by
   intro ys
   induction ys with
   |nil=>intro _;exact Wh
   |cons y ys ih=>
    intro h
    rw[TQ,Uw]at h ⊢
    refine⟨fun hm=>h.1 ?_,ih h.2⟩
    obtain⟨z,hz,e⟩:=Ue.mp hm
    have e':z.1=y.1:=Sum.inr.inj e
    exact Ue.mpr ⟨z,hz,e'⟩
  exact key xs nd
end L2
namespace Wd
open PySem L2 PyProof.Rows
noncomputable def abc:Str:="abcdefghijklmnopqrstuvwxyz"
noncomputable def I_:List Str:=["jars","deed","rest","pay","put","then","either","take","often","use"]
def CA:∀i,i < 26->abc.cps.toList[i]?=some (97+i):=by decide +kernel
def lW:abc.length<=sizeLine/\abc.cps.toList.length=26:=by decide +kernel
def wE:∀i,i < 26->Builtin.Str.occurrences abc (kC (97+i)) 0 abc.length 1=[i]:=by decide +kernel
theorem jU{α:Type} [BEq α] [LawfulBEq α]:∀{xs ys:List α},xs.Nodup->(∀x∈xs,x∈ys)->xs.length<=ys.length
 |[],ys,_,_=>Ug _
 |x::xs,ys,nd,h=>by
  have hx:=h x (U1 ..)
  have q:=jU (xs:=xs) (ys:=ys.erase x) (Uw.mp nd).2 fun y hy=>by
   have ne:y≠x:=fun e=>(Uw.mp nd).1 (e▸hy)
   exact(Xi ne).mpr (h y (U5 _ hy))
  rw[VY hx]at q
  have:=W3 hx
  rw[TL]
  omega
noncomputable def cand(r:List Nat)(i:Nat):Str:=⟨((97+i % 26)::r).toArray⟩
def wF{r:List Nat}{i j:Nat}(h:cand r i=cand r j):i % 26=j % 26:=by
 have e:(((97+i % 26)::r).toArray).toList=(((97+j % 26)::r).toArray).toList:=Uu (fun z:Str=>z.cps.toList) h
 simp only[WC]at e
 omega
def sh(r:List Nat)(c:Nat):((List.range 26).map fun i=>cand r (c+i)).Nodup:=by
 refine List.pairwise_map.mpr (List.Pairwise.imp_of_mem (R:=(·≠·)) ?_ List.nodup_range)
 intro a b ha hb ne e
 have h1:=U9.mp ha
 have h2:=U9.mp hb
 have h3:=wF e
 omega
def uW(r:List Nat)(c:Nat)(bad:Vs)(h:bad.length < 26):∃j,j < 26/\cand r (c+j) ∉ bad:=by
 refine UA fun no=>?_
 have q:=jU (sh r c) (ys:=bad) fun x hx=>by
  obtain⟨j,hj,rfl⟩:=Ue.mp hx
  exact UA fun z=>no ⟨j,U9.mp hj,z⟩
 rw[Ti,List.length_range]at q
 omega
structure Mc (z:Str):Prop where
 ne:z.cps.toList≠[]
 le:z.cps.toList.length<=6
 sm:∀c∈z.cps.toList,97<=c/\c<=122
theorem Mc.cand{z:Str}(h:Mc z):∃i r,z=Wd.cand r i/\i < 26/\r.length<=5/\∀c∈r,97<=c/\c<=122:=by
 obtain⟨⟨⟨l⟩⟩,ne,le,sm⟩:∃z',_/\_/\_:=⟨z,h.ne,h.le,h.sm⟩
 obtain⟨⟨l⟩⟩:=z
 cases l with
 |nil=>exact absurd rfl h.ne
 |cons c r=>
  have q:=h.sm c (U1 ..)
  refine⟨c - 97,r,?_,by omega,by have:=h.le;simp at this;omega,fun d hd=>h.sm d (U5 _ hd)⟩
  unfold Wd.cand
  rw[show 97+(c - 97) % 26=c by omega]
def wG{r:List Nat}(h:r.length<=5)(hs:∀c∈r,97<=c/\c<=122)(i:Nat):Mc (cand r i):=by
 refine⟨by simp[cand],by simp[cand];omega,fun c hc=>?_⟩
 have hc':c∈(97+i % 26)::r:=hc
 rcases Th.mp hc' with e|e
 ·omega
 ·exact hs c e
def Mc.len{z:Str}(h:Mc z):z.length<=6:=by have q:=h.le;rw[UH]at q;exact q
def Mc.line{z:Str}(h:Mc z):z.length<=sizeLine:=TR h.len (by decide)
def nY(r:List Nat)(i:Nat):Ie (cand r i).cps.toList 0=some (97+i % 26):=bC (j:=0) rfl
def iE(r:List Nat)(i:Nat):Txt.slice (cand r i) (some 1) none=⟨r.toArray⟩:=by
 have e:Txt.slice (cand r i) (some 1) none=StrLaws.sliceText (cand r i) (some 1) none:=rfl
 rw[e,StrLaws.sliceText_from ⟨by decide,by simp[cand];omega⟩]
 simp[cand]
def nZ(r:List Nat)(i:Nat):(kC (97+(i+1) % 26):Str)++(⟨r.toArray⟩:Str)=cand r (i+1):=by
 refine Str.ext' ?_
 show #[97+(i+1) % 26]++r.toArray=_
 simp[cand]
def oY(i:Nat):Ie abc.cps.toList ((i % 26:Nat):Int)=some (97+i % 26):=bC (CA _ (Xu _ (by decide)))
def mn(cs:List Nat):Txt.join "" (cs.map kC)=⟨cs.toArray⟩:=by
 have q:=join_nil_signs ⟨cs.toArray⟩
 have e:Txt.join "" (cs.map kC)=Str.join ⟨#[]⟩ (cs.map kC):=StrLaws.glued_eq_join _ _
 rw[e]
 exact q
def zC(cs:List Nat):((cs.map kC).map (·.length)).sum=cs.length:=by
 induction cs with
 |nil=>rfl
 |cons c r ih=>rw[TQ,TQ,List.sum_cons,ih,TL];show 1+r.length=_;omega
def zD{cs:List Nat}{a i:Nat}(h:cs.length<=5)(hs:∀c∈cs,97<=c/\c<=122)(ha:a<=cs.length)(hi:i < 26) :
  Mc (Txt.slice ⟨cs.toArray⟩ none (some (a:Int))++(kC (97+i):Str)++Txt.slice ⟨cs.toArray⟩ (some (a:Int)) none)/\(Txt.slice ⟨cs.toArray⟩ none (some (a:Int))).length<=5/\(Txt.slice ⟨cs.toArray⟩ (some (a:Int)) none).length<=5:=by
 have e1:Txt.slice ⟨cs.toArray⟩ none (some (a:Int))=⟨(cs.take a).toArray⟩:=by
  have e:Txt.slice ⟨cs.toArray⟩ none (some (a:Int))=StrLaws.sliceText ⟨cs.toArray⟩ none (some (a:Int)):=rfl
  rw[e,StrLaws.sliceText_to ⟨by omega,by simp;omega⟩]
  simp
 have e2:Txt.slice ⟨cs.toArray⟩ (some (a:Int)) none=⟨(cs.drop a).toArray⟩:=by
  have e:Txt.slice ⟨cs.toArray⟩ (some (a:Int)) none=StrLaws.sliceText ⟨cs.toArray⟩ (some (a:Int)) none:=rfl
  rw[e,StrLaws.sliceText_from ⟨by omega,by simp;omega⟩]
  refine Str.ext' ?_
  show((cs.drop (a:Int).toNat).take ((cs.length:Int) - a).toNat).toArray=(cs.drop a).toArray
  rw[Xz,Vd (by rw[Vh];omega)]
 rw[e1,e2]
 have e3:((⟨(cs.take a).toArray⟩:Str)++(kC (97+i):Str)++(⟨(cs.drop a).toArray⟩:Str)).cps.toList=cs.take a++[97+i]++cs.drop a:=by
  show((cs.take a).toArray++#[97+i]++(cs.drop a).toArray).toList=_
  simp
 refine⟨⟨by rw[e3];simp,by rw[e3];simp;omega,fun c hc=>?_⟩,?_,?_⟩
 ·rw[e3]at hc
  rcases Tj.mp hc with hc|hc
  ·rcases Tj.mp hc with hc|hc
   ·exact hs c (VT hc)
   ·rw[Tt.mp hc];omega
  ·exact hs c (Wi hc)
 ·show(cs.take a).toArray.size<=5
  rw[Tr,VE];omega
 ·show(cs.drop a).toArray.size<=5
  rw[Tr,Vh];omega
end Wd
namespace M3
noncomputable def br(t b:Int):Int:=(if b < 0 then -t else t) / (Int.gcd t b:Int)
noncomputable def aT(t b:Int):Int:=(if b < 0 then -b else b) / (Int.gcd t b:Int)
def iF{t b:Int}(h:b≠0):0 < Int.gcd t b:=Nat.gcd_pos_of_pos_right _ (by omega)
def wH{t b:Int}(h:b≠0):(Int.gcd t b:Int)<=b.natAbs:=by
 have q:Nat.gcd t.natAbs b.natAbs<=b.natAbs:=Nat.gcd_le_right _ (by omega)
 have e:Int.gcd t b=Nat.gcd t.natAbs b.natAbs:=rfl
 omega
def wI(t b:Int):Int.gcd (-t) (-b)=Int.gcd t b:=by rw[Int.gcd_neg,Int.neg_gcd]
def parts(t b:Int):∃x y:Int,t=(Int.gcd t b:Int) * x/\b=(Int.gcd t b:Int) * y:=by
 obtain⟨x,hx⟩:=Int.gcd_dvd_left t b
 obtain⟨y,hy⟩:=Int.gcd_dvd_right t b
 exact⟨x,y,hx,hy⟩
def si{t b x y g:Int}(hg:g=(Int.gcd t b:Int))(h:b≠0)(ht:t=g * x)(hb:b=g * y):br t b=(if y < 0 then -x else x)/\aT t b=(if y < 0 then -y else y):=by
 have gp:0 < g:=by rw[hg];exact WE.mpr (iF h)
 have hy:b < 0↔y < 0:=by
  rw[hb]
  constructor
  ·intro q
   by_cases z:y < 0
   ·exact z
   ·have:=Int.mul_nonneg (Wo gp) (Xv.mp z)
    omega
  ·intro q
   exact Int.mul_neg_of_pos_of_neg gp q
 unfold br aT
 rw[<-hg]
 by_cases z:y < 0
 ·rw[if_pos (hy.mpr z),if_pos (hy.mpr z),if_pos z,if_pos z]
  constructor
  ·rw[ht,<-Int.mul_neg,VZ _ (by omega)]
  ·rw[hb,<-Int.mul_neg,VZ _ (by omega)]
 ·rw[if_neg (fun q=>z (hy.mp q)),if_neg (fun q=>z (hy.mp q)),if_neg z,if_neg z]
  constructor
  ·rw[ht,VZ _ (by omega)]
  ·rw[hb,VZ _ (by omega)]
def zE{t b x y:Int}(h:b≠0)(ht:t=(Int.gcd t b:Int) * x)(hb:b=(Int.gcd t b:Int) * y):Int.gcd x y=1:=by
 have gp:=iF (t:=t) h
 have q:Int.gcd ((Int.gcd t b:Int) * x) ((Int.gcd t b:Int) * y)=(Int.gcd t b:Int).natAbs * Int.gcd x y:=Int.gcd_mul_left _ _ _
 rw[<-ht,<-hb,Int.natAbs_natCast]at q
 have q2:Int.gcd t b * 1=Int.gcd t b * Int.gcd x y:=by omega
 exact(Nat.eq_of_mul_eq_mul_left gp q2).symm
structure DF (a b:Int):Prop where
 pos:0 < b
 one:Int.gcd a b=1
def jV{t b:Int}(h:b≠0):DF (br t b) (aT t b):=by
 obtain⟨x,y,ht,hb⟩:=parts t b
 have c:=zE h ht hb
 obtain⟨e1,e2⟩:=si rfl h ht hb
 have y0:y≠0:=fun z=>h (by rw[hb,z,Int.mul_zero])
 rw[e1,e2]
 by_cases z:y < 0
 ·rw[if_pos z,if_pos z]
  exact⟨by omega,by rw[wI];exact c⟩
 ·rw[if_neg z,if_neg z]
  exact⟨by omega,c⟩
def cY{a b x y:Int}(L:DF a b)(hy:0 < y)(e:x * b=a * y):br x y=a/\aT x y=b:=by
 have b0:=L.pos
 have d1:b.natAbs ∣ a.natAbs * y.natAbs:=by
  rw[<-Int.natAbs_mul,<-e,Int.natAbs_mul]
  exact Nat.dvd_mul_left _ _
 have c:Nat.Coprime b.natAbs a.natAbs:=by
  show Nat.gcd b.natAbs a.natAbs=1
  rw[Nat.gcd_comm]
  exact L.one
 obtain⟨k,hk⟩:=Int.natAbs_dvd_natAbs.mp (c.dvd_of_dvd_mul_left d1)
 have k0:0 < k:=by
  by_cases z:0 < k
  ·exact z
  ·have:=Int.mul_nonneg (Wo b0) (show 0 <= -k by omega)
   rw[Int.mul_neg]at this
   omega
 have hx:x=a * k:=by
  have q:x * b=a * k * b:=by rw[e,hk,XG,W4 k b]
  exact Int.eq_of_mul_eq_mul_right (by omega) q
 have g:(Int.gcd x y:Int)=k:=by
  rw[hx,hk,Int.gcd_mul_right,L.one,Nat.one_mul]
  omega
 have q:=si (g:=k) (x:=a) (y:=b) (t:=x) (b:=y) g.symm (by omega) (by rw[hx,W4]) (by rw[hk,W4])
 rw[if_neg (by omega),if_neg (by omega)]at q
 exact q
def wJ{a b:Int}(L:DF a b):br a b=a/\aT a b=b:=cY L L.pos rfl
def iG{t b:Int}(h:b≠0):br t b * b=t * aT t b:=by
 obtain⟨x,y,ht,hb⟩:=parts t b
 obtain⟨e1,e2⟩:=si rfl h ht hb
 rw[e1,e2]
 have q:x * b=t * y:=by
  have e3:x * ((Int.gcd t b:Int) * y)=(Int.gcd t b:Int) * x * y:=by rw[<-XG,W4 x]
  rw[<-ht,<-hb]at e3
  exact e3
 by_cases z:y < 0
 ·rw[if_pos z,if_pos z,XE,Int.mul_neg,q]
 ·rw[if_neg z,if_neg z]
  exact q
def CB{g x y:Int}(h:g≠0)(e:x * g=y * g):x=y:=Int.eq_of_mul_eq_mul_right h e
def qE{t b:Int}(h:b≠0):t.fdiv (if b < 0 then -(Int.gcd t b:Int) else (Int.gcd t b:Int))=br t b/\b.fdiv (if b < 0 then -(Int.gcd t b:Int) else (Int.gcd t b:Int))=aT t b:=by
 have gp:(0:Int) < (Int.gcd t b:Int):=WE.mpr (iF h)
 have d1:=Int.gcd_dvd_left t b
 have d2:=Int.gcd_dvd_right t b
 unfold br aT
 by_cases z:b < 0
 ·rw[if_pos z,if_pos z,if_pos z,Int.fdiv_neg (by omega),if_pos d1,Int.fdiv_neg (by omega),if_pos d2,V1 d1,V1 d2,Int.neg_ediv_of_dvd d1,Int.neg_ediv_of_dvd d2]
  exact⟨rfl,rfl⟩
 ·rw[if_neg z,if_neg z,if_neg z,V1 d1,V1 d2]
  exact⟨rfl,rfl⟩
def qF(x y:Int):Int.gcd y (x.fmod y)=Int.gcd x y:=by
 have q:=Int.mul_fdiv_add_fmod x y
 have e:Int.gcd y (x.fmod y+x.fdiv y * y)=Int.gcd y (x.fmod y):=Int.gcd_add_mul_right_right _ _ _
 rw[<-e,W4 (x.fdiv y) y,Int.add_comm,q,Int.gcd_comm]
def wK{t b T B:Int}(h:b≠0)(h1:-T<=t)(h2:t<=T)(h3:-B<=b)(h4:b<=B)(hT:0<=T)(hB:0<=B):-T<=br t b/\br t b<=T/\0 < aT t b/\aT t b<=B:=by
 have gp:(0:Int) < (Int.gcd t b:Int):=WE.mpr (iF h)
 have L:=(jV (t:=t) h).pos
 have key:∀z M:Int,0<=M->-M<=z->z<=M->-M<=z / (Int.gcd t b:Int)/\z / (Int.gcd t b:Int)<=M:=fun z M hM z1 z2=>by
  generalize (Int.gcd t b:Int)=g at gp
  have m2:M * 1<=M * g:=Int.mul_le_mul_of_nonneg_left (by omega) hM
  have m3:-M * g = -(M * g):=XE M g
  exact⟨Int.le_ediv_of_mul_le gp (by omega),Int.ediv_le_of_le_mul gp (by omega)⟩
 have k1:=key (if b < 0 then -t else t) T hT (by split<;>omega) (by split<;>omega)
 have k2:=key (if b < 0 then -b else b) B hB (by split<;>omega) (by split<;>omega)
 exact⟨k1.1,k1.2,L,k2.2⟩
end M3
namespace Xc
open PySem PySem.W PySem.Calls PyProof.Rows Builtin Builtin.ObjectAttr
structure Ge (h:Heap) (e:Addr) (oe:Obj) (vs:Vw):Prop where
 at_:h.get? e=some oe
 dat:oe.data = .fields vs
 tb:vs[1]?=some .none\/∃T oT ts,vs[1]?=some (.ref T)/\T≠e/\h.get? T=some oT/\oT.data = .fields ts/\ts[3]?=some .none
end Xc
namespace L2
open PySem PySem.Spec PyProof.Rows Xc
def G1(X:Cx)(pins:Va)(H:Hp)(h:Heap)(a C dx:Addr):Prop:=
 ∃oe vs,Ge h a oe vs/\oe.cls = .ref C/\oe.dict=some dx/\fL X pins H a/\∀T,vs[1]?=some (.ref T)->fL X pins H T
def XD(dx:Addr)(fs:List (Str×V))(h:Heap):Prop:=∃mA,h.Ns1 dx mA/\(∀f,RelO (fs.lookup f) (mA f))/\PySem.Within mA (fs.map (·.1))
end L2
namespace L3
open PySem L2
inductive PV where
 |non|bl (b:Bool)|int (i:Int)|str (x:Str)|tup (xs:List PV)|cl (xs:List PV)|ref (a:Addr)|ty (n:String)|exc (c:Str) (ks:Vs) (ps:List PV)|cls (c:Str)
def OC(K:Vo)(H:Hp)(a:Addr)(xs:List V):Prop:=
 (∃o,H a=some (.frz o (.lst xs))) \/
  ∃(o:Obj) (its:Vw) (n:Nat),K.lookup a=some o/\o.cls = .type "list"/\o.dict=none/\o.data = .seq its n/\its.size<=sizeLine/\Vals xs its.toList
def OC.sq{K:Vo}{H:Hp}{a:Addr}{xs:List V}(h:OC K H a xs):SqL K H a xs:=h.elim (fun z=>.inl (.inr z)) .inr
def Pz(H:Hp)(a C:Addr)(ks:Vs)(vs:List V):Prop:=
 ∃oe dx od,H a=some (.frz oe (.ext fun _=>True))/\oe.cls = .ref C/\oe.dict=some dx/\(∀c,oe.data ≠ .cls c)/\H dx=some (.frz od (.ext (XD dx (ks.zip vs))))
def zF(K:Vo)(c:Str)(C:Addr):Prop:=PySem.W.nsIn K mainGlobals c=some (some (.ref C))
mutual
inductive Rep (K:Vo) (H:Hp):V->PV->Prop
 |non:Rep K H .non .non
 |bl (b:Bool):Rep K H (.bl b) (.bl b)
 |int (i:Int):Rep K H (.int i) (.int i)
 |str (x:Str):Rep K H (.str x) (.str x)
 |ty (n:String):Rep K H (.ty n) (.ty n)
 |ref (a:Addr):Rep K H (.ref a) (.ref a)
 |tup {a:Addr} {vs:List V} {ps:List PV}:SqT K H a vs->Reps K H vs ps->Rep K H (.ref a) (.tup ps)
 |cl {a:Addr} {vs:List V} {ps:List PV}:OC K H a vs->Reps K H vs ps->Rep K H (.ref a) (.cl ps)
 |exc {a C:Addr} {c:Str} {ks:Vs} {vs:List V} {ps:List PV}:zF K c C->Pz H a C ks vs->Reps K H vs ps->Rep K H (.ref a) (.exc c ks ps)
 |cls {C:Addr} {c:Str}:zF K c C->Rep K H (.ref C) (.cls c)
inductive Reps (K:Vo) (H:Hp):List V->List PV->Prop
 |nil:Reps K H [] []
 |cons {v:V} {p:PV} {vs:List V} {ps:List PV}:Rep K H v p->Reps K H vs ps->Reps K H (v::vs) (p::ps)
end
structure Grow (K:Vo) (H H':Hp):Prop where
 t:∀a vs,SqT K H a vs->SqT K H' a vs
 c:∀a vs,OC K H a vs->OC K H' a vs
 x:∀a o u,H a=some (.frz o u)->H' a=some (.frz o u)
def Grow.refl{K:Vo}{H:Hp}:Grow K H H:=⟨fun _ _ h=>h,fun _ _ h=>h,fun _ _ _ h=>h⟩
def Grow.trans{K:Vo}{H H1 H2:Hp}(a:Grow K H H1)(b:Grow K H1 H2):Grow K H H2:=⟨fun x vs h=>b.t x vs (a.t x vs h),fun x vs h=>b.c x vs (a.c x vs h),fun x o u h=>b.x x o u (a.x x o u h)⟩
def Pz.mono{K:Vo}{H H':Hp}(g:Grow K H H'){a C:Addr}{ks:Vs}{vs:List V}(h:Pz H a C ks vs):Pz H' a C ks vs:=let ⟨oe,dx,od,h1,h2,h3,h4,h5⟩:=h;⟨oe,dx,od,g.x _ _ _ h1,h2,h3,h4,g.x _ _ _ h5⟩
def Grow.of{K:Vo}{H H':Hp}(h:∀a xs,H a=some (.tup xs)->H' a=some (.tup xs))(h2:∀a o u,H a=some (.frz o u)->H' a=some (.frz o u)):Grow K H H':=by
 refine⟨fun a vs q=>?_,fun a vs q=>?_,h2⟩
 ·rcases q with(q|⟨o,q⟩)|q
  ·exact .inl (.inl (h a vs q))
  ·exact .inl (.inr ⟨o,h2 a o _ q⟩)
  ·exact .inr q
 ·rcases q with⟨o,q⟩|q
  ·exact .inl ⟨o,h2 a o _ q⟩
  ·exact .inr q
def Grow.same{K:Vo}{H H':Hp}(h:∀c o,H c=some o->H' c=some o):Grow K H H':=.of (fun a _ q=>h a _ q) (fun a _ _ q=>h a _ q)
def Grow.new{K:Vo}{H:Hp}{p:Addr}{o:HO}(h:H p=none):Grow K H (upd H p o):=.same fun c u q=>by rw[aL (bz q h)];exact q
noncomputable def Mu:HO->Prop
 | .tup _=>False
 | .frz _ _=>False
 |_=>True
def Grow.mut{K:Vo}{H:Hp}{p:Addr}{o u:HO}(h:H p=some u)(m:Mu u):Grow K H (upd H p o):=
 .of (fun a xs q=>by rw[aL (fun e=>by subst e;rw[h]at q;cases q;exact m)];exact q) (fun a _ _ q=>by rw[aL (fun e=>by subst e;rw[h]at q;cases q;exact m)];exact q)
mutual
theorem Rep.mono{K:Vo}{H H':Hp}(g:Grow K H H'):∀{v:V} {p:PV},Rep K H v p->Rep K H' v p
 |_,_,.non=>.non
 |_,_,.bl b=>.bl b
 |_,_,.int i=>.int i
 |_,_,.str x=>.str x
 |_,_,.ty n=>.ty n
 |_,_,.ref a=>.ref a
 |_,_,.tup h r=>.tup (g.t _ _ h) (Reps.mono g r)
 |_,_,.cl h r=>.cl (g.c _ _ h) (Reps.mono g r)
 |_,_,.exc n h r=>.exc n (h.mono g) (Reps.mono g r)
 |_,_,.cls n=>.cls n
theorem Reps.mono{K:Vo}{H H':Hp}(g:Grow K H H'):∀{vs:List V} {ps:List PV},Reps K H vs ps->Reps K H' vs ps
 |_,_,.nil=>.nil
 |_,_,.cons a r=>.cons (Rep.mono g a) (Reps.mono g r)
end
theorem Reps.length{K:Vo}{H:Hp}:∀{vs:List V} {ps:List PV},Reps K H vs ps->vs.length=ps.length
 |_,_,.nil=>rfl
 |_,_,.cons _ r=>by rw[TL,TL,Reps.length r]
theorem Reps.append{K:Vo}{H:Hp}:∀{vs us:List V} {ps qs:List PV},Reps K H vs ps->Reps K H us qs->Reps K H (vs++us) (ps++qs)
 |_,_,_,_,.nil,s=>s
 |_,_,_,_,.cons a r,s=>.cons a (Reps.append r s)
theorem Reps.get{K:Vo}{H:Hp}:∀{vs:List V} {ps:List PV} {i:Nat} {p:PV},Reps K H vs ps->ps[i]?=some p->∃v,vs[i]?=some v/\Rep K H v p
 |_,_,_,_,.nil,e=>by simp at e
 |_,_,0,_,.cons a r,e=>by simp at e;subst e;exact⟨_,rfl,a⟩
 |_,_,i+1,p,.cons a r,e=>by
  obtain⟨v,h1,h2⟩:=Reps.get (i:=i) (p:=p) r (by simpa using e)
  exact⟨v,by simpa using h1,h2⟩
theorem Reps.take{K:Vo}{H:Hp}:∀{vs:List V} {ps:List PV} (n:Nat),Reps K H vs ps->Reps K H (vs.take n) (ps.take n)
 |_,_,0,_=>.nil
 |_,_,_+1,.nil=>.nil
 |_,_,n+1,.cons a r=>.cons a (Reps.take n r)
theorem Reps.drop{K:Vo}{H:Hp}:∀{vs:List V} {ps:List PV} (n:Nat),Reps K H vs ps->Reps K H (vs.drop n) (ps.drop n)
 |_,_,0,r=>r
 |_,_,_+1,.nil=>.nil
 |_,_,n+1,.cons _ r=>Reps.drop n r
theorem Reps.set{K:Vo}{H:Hp}{v:V}{p:PV}(q:Rep K H v p):∀{vs:List V} {ps:List PV} (n:Nat),Reps K H vs ps->Reps K H (vs.set n v) (ps.set n p)
 |_,_,_,.nil=>.nil
 |_,_,0,.cons _ r=>.cons q r
 |_,_,n+1,.cons a r=>.cons a (Reps.set q n r)
theorem Reps.eraseIdx{K:Vo}{H:Hp}:∀{vs:List V} {ps:List PV} (n:Nat),Reps K H vs ps->Reps K H (vs.eraseIdx n) (ps.eraseIdx n)
 |_,_,_,.nil=>.nil
 |_,_,0,.cons _ r=>r
 |_,_,n+1,.cons a r=>.cons a (Reps.eraseIdx n r)
theorem Reps.reverse{K:Vo}{H:Hp}:∀{vs:List V} {ps:List PV},Reps K H vs ps->Reps K H vs.reverse ps.reverse
 |_,_,.nil=>.nil
 |_,_,.cons a r=>by rw[WV,WV];exact(Reps.reverse r).append (.cons a .nil)
theorem Reps.dropLast{K:Vo}{H:Hp}{vs:List V}{ps:List PV}(r:Reps K H vs ps):Reps K H vs.dropLast ps.dropLast:=by
 rw[List.dropLast_eq_take,List.dropLast_eq_take,r.length]
 exact r.take _
inductive SO where
 |lst (xs:List PV)
 |dct (kvs:List (bf×PV))
 |ins (c:Str) (fs:List (Str×PV))
abbrev az:=Addr->Option SO
noncomputable def Hk(S:az)(a:Addr)(o:SO):az:=fun b=>if b=a then some o else S b
def aa{S:az}{a:Addr}{o:SO}:Hk S a o a=some o:=by unfold Hk;rw[if_pos rfl]
def aD{S:az}{a b:Addr}{o:SO}(h:b≠a):Hk S a o b=S b:=by unfold Hk;rw[if_neg h]
inductive HP (K:Vo) (H:Hp) {κ:Type}:List (κ×V)->List (κ×PV)->Prop
 |nil:HP K H [] []
 |cons {k:κ} {v:V} {p:PV} {vs:List (κ×V)} {ps:List (κ×PV)}:Rep K H v p->HP K H vs ps->HP K H ((k,v)::vs) ((k,p)::ps)
theorem HP.mono{K:Vo}{H H':Hp}(g:Grow K H H'){κ:Type}:∀{vs:List (κ×V)} {ps:List (κ×PV)},HP K H vs ps->HP K H' vs ps
 |_,_,.nil=>.nil
 |_,_,.cons a r=>.cons (a.mono g) (HP.mono g r)
theorem HP.length{K:Vo}{H:Hp}{κ:Type}:∀{vs:List (κ×V)} {ps:List (κ×PV)},HP K H vs ps->vs.length=ps.length
 |_,_,.nil=>rfl
 |_,_,.cons _ r=>by rw[TL,TL,HP.length r]
noncomputable def Me(K:Vo)(H:Hp)(a:Addr):SO->Prop
 | .lst xs=>∃vs,H a=some (.lst vs)/\Reps K H vs xs
 | .dct kvs=>∃kv,H a=some (.dK kv)/\HP K H kv kvs
 | .ins c fs=>∃C dx f',zF K c C/\H a=some (.ins C dx f')/\HP K H f' fs
theorem Me.stay{K:Vo}{H H':Hp}(g:Grow K H H'){a:Addr}(e:H' a=H a):∀{o:SO},Me K H a o->Me K H' a o
 | .lst _,⟨vs,h,r⟩=>⟨vs,e.trans h,r.mono g⟩
 | .dct _,⟨vs,h,r⟩=>⟨vs,e.trans h,r.mono g⟩
 | .ins _ _,⟨C,dx,vs,n,h,r⟩=>⟨C,dx,vs,n,e.trans h,r.mono g⟩
theorem Me.some{K:Vo}{H:Hp}{a:Addr}:∀{o:SO},Me K H a o->∃u,H a=Option.some u/\Mu u
 | .lst _,⟨_,h,_⟩=>⟨_,h,trivial⟩
 | .dct _,⟨_,h,_⟩=>⟨_,h,trivial⟩
 | .ins _ _,⟨_,_,_,_,h,_⟩=>⟨_,h,trivial⟩
def Ht(K:Vo)(H:Hp)(S:az):Prop:=∀a o,S a=some o->Me K H a o
def Ht.free{K:Vo}{H:Hp}{S:az}(r:Ht K H S){p:Addr}(h:H p=none):S p=none:=by
 cases e:S p with
 |none=>rfl
 |some o=>
  obtain⟨u,q,_⟩:=(r p o e).some
  rw[h]at q;cases q
def Ht.grow{K:Vo}{H H':Hp}{S:az}(r:Ht K H S)(h:∀c o,H c=some o->H' c=some o):Ht K H' S:=fun a o e=>by
 obtain⟨u,q,_⟩:=(r a o e).some
 exact(r a o e).stay (.same h) ((h a u q).trans q.symm)
def Ht.other{K:Vo}{H:Hp}{S:az}(r:Ht K H S){p:Addr}{o:HO}(h:H p=none):Ht K (upd H p o) S:=r.grow fun c u q=>by rw[aL (bz q h)];exact q
theorem Ht.new{K:Vo}{H:Hp}{S:az}(r:Ht K H S){p:Addr}{u:HO}{o:SO}(h:H p=none)(q:Me K (upd H p u) p o):Ht K (upd H p u) (Hk S p o):=fun a x e=>by
 by_cases z:a=p
 ·subst z;rw[aa]at e;cases e;exact q
 ·rw[aD z]at e;exact(r a x e).stay (.new h) (aL z)
def Ht.put{K:Vo}{H:Hp}{S:az}(r:Ht K H S){p:Addr}{u0 u:HO}{o:SO}(h:H p=some u0)(m:Mu u0)(q:Me K (upd H p u) p o):Ht K (upd H p u) (Hk S p o):=fun a x e=>by
 by_cases z:a=p
 ·subst z;rw[aa]at e;cases e;exact q
 ·rw[aD z]at e;exact(r a x e).stay (.mut h m) (aL z)
abbrev cy:=List (Option PV)
noncomputable def lk:cy->Nat->Option PV
 |[],_=>none
 |x::_,0=>x
 |_::r,i+1=>lk r i
def wL{σ:cy}{i:Nat}{p:PV}(h:lk σ i=some p):σ[i]?=some (some p):=by
 induction σ generalizing i with
 |nil=>cases h
 |cons x r ih=>
  cases i with
  |zero=>exact Uu some h
  |succ i=>exact ih h
structure HC (K:Vo) (H:Hp) (σ:St) (σ3:cy):Prop where
 len:σ.length=σ3.length
 at':∀(i:Nat) (p:PV),σ3[i]?=some (some p)->∃v,σ[i]?=some (some v)/\Rep K H v p
theorem HC.mono{K:Vo}{H H':Hp}{σ:St}{σ3:cy}(r:HC K H σ σ3)(g:Grow K H H'):HC K H' σ σ3:=⟨r.len,fun i p e=>let ⟨v,h,q⟩:=r.at' i p e;⟨v,h,q.mono g⟩⟩
theorem HC.set{K:Vo}{H:Hp}{σ:St}{σ3:cy}(r:HC K H σ σ3){v:V}{p:PV}(q:Rep K H v p)(i:Nat):HC K H (σ.set i (some v)) (σ3.set i (some p)):=by
 refine⟨by rw[List.length_set,List.length_set,r.len],fun j x e=>?_⟩
 rw[List.getElem?_set]at e ⊢
 split at e
 ·rename_i hij
  rw[if_pos hij]
  subst hij
  split at e
  ·rename_i hl
   cases e
   rw[if_pos (by rw[r.len];exact hl)]
   exact⟨v,rfl,q⟩
  ·cases e
 ·rename_i hij
  rw[if_neg hij]
  exact r.at' j x e
abbrev bn:=PV->az->Prop
abbrev bJ:=PV->cy->az->Prop
abbrev aZ:=cy->az->bn->bJ->Prop
abbrev kw:=cy->az->(Bool->az->Prop)->bJ->Prop
abbrev G2:=cy->az->(List PV->az->Prop)->bJ->Prop
structure jW where
 nx:cy->az->Prop
 rt:bn
 ex:bJ
 bk:cy->az->Prop:=fun _ _=>False
 ct:cy->az->Prop:=fun _ _=>False
abbrev bv:=jW->cy->az->Prop
def MT(X:Cx)(H:Hp)(E:bJ):Prop:=∀(c:Str) (ks:Vs) (ps:List PV) (σ3:cy) (S':az) (H':Hp) (pins:Va) (σ:St) (s':Shared) (a C dx:Addr) (od:Obj) (vs:List V),E (.exc c ks ps) σ3 S'->zF X.K c C->vs.length=ks.length->
 H' dx=some (.frz od (.ext (XD dx (ks.zip vs))))->Reps X.K H' vs ps->Ht X.K H' S'->HC X.K H' σ σ3->Grow X.K H H'->Inv X pins σ H' s'->G1 X pins H' s'.heap a C dx->X.xe (.ref a) s'
def MT.mono{X:Cx}{H H':Hp}{E:bJ}(x:MT X H E)(g:Grow X.K H H'):MT X H' E:=fun c ks ps σ3 S' H2 pins σ s' a C dx od vs h1 h2 h3 h4 h5 h6 h7 h8 h9 PC=>x c ks ps σ3 S' H2 pins σ s' a C dx od vs h1 h2 h3 h4 h5 h6 h7 (g.trans h8) h9 PC
def MU(K:Vo)(H:Hp)(Q3:bn)(Q:VK):Prop:=∀p S' v H',Q3 p S'->Rep K H' v p->Ht K H' S'->Grow K H H'->Q v H'
def MU.mono{K:Vo}{H H':Hp}{Q3:bn}{Q:VK}(r:MU K H Q3 Q)(g:Grow K H H'):MU K H' Q3 Q:=fun p S' v H2 h1 h2 h3 h4=>r p S' v H2 h1 h2 h3 (g.trans h4)
def OD(K:Vo)(H:Hp)(N3:cy->az->Prop)(N:St->Hp->Prop):Prop:=∀σ3 S' σ H',N3 σ3 S'->HC K H' σ σ3->Ht K H' S'->Grow K H H'->N σ H'
def OD.mono{K:Vo}{H H':Hp}{Q3:cy->az->Prop}{Q:St->Hp->Prop}(r:OD K H Q3 Q)(g:Grow K H H'):OD K H' Q3 Q:=fun p S' v H2 h1 h2 h3 h4=>r p S' v H2 h1 h2 h3 (g.trans h4)
inductive LE (X:Cx) (t:aZ) (σ:L2.St) (H:Hp) (Q:VK):Prop
 |mk (σ3 S Q3 E3) (rσ:HC X.K H σ σ3) (rS:Ht X.K H S) (h:t σ3 S Q3 E3) (xo:MT X H E3) (k:MU X.K H Q3 Q):LE X t σ H Q
inductive LT (X:Cx) (t:kw) (σ:L2.St) (H:Hp) (Q:Bool->Hp->Prop):Prop
 |mk (σ3 S Q3 E3) (rσ:HC X.K H σ σ3) (rS:Ht X.K H S) (h:t σ3 S Q3 E3) (xo:MT X H E3) (k:∀b S' H',Q3 b S'->Ht X.K H' S'->Grow X.K H H'->Q b H'):LT X t σ H Q
inductive LS (X:Cx) (t:bv) (D:rT) (σ:L2.St) (H:Hp):Prop
 |mk (σ3 S D3) (rσ:HC X.K H σ σ3) (rS:Ht X.K H S) (h:t D3 σ3 S) (xo:MT X H D3.ex) (nx:OD X.K H D3.nx D.nx) (rt:MU X.K H D3.rt D.rt) (bk:OD X.K H D3.bk D.bk) (ct:OD X.K H D3.ct D.ct):LS X t D σ H
structure bp (X:Cx) (e:Expr) (t:aZ):Prop where
 ok:PE X e (LE X t)
structure sj (X:Cx) (e:Expr) (t:kw):Prop where
 ok:PT X e (LT X t)
structure CC (X:Cx) (e:Expr) (t:kw):Prop where
 ok:PW X e (LT X t)
structure rP (X:Cx) (st:Stmt) (t:bv):Prop where
 ok:PS X st (LS X t)
structure kF (X:Cx) (st:List Stmt) (t:bv):Prop where
 ok:Ma X st (LS X t)
def ba{X:Cx}{e:Expr}{t t':TE}(h:PE X e t)(k:∀σ H Q,t' σ H Q->t σ H Q):PE X e t':=fun pins s σ H Q I q=>h pins s σ H Q I (k σ H Q q)
def sk{X:Cx}{e:Expr}{t t':TT}(h:PT X e t)(k:∀σ H Q,t' σ H Q->t σ H Q):PT X e t':=fun pins s σ H Q I q=>h pins s σ H Q I (k σ H Q q)
def wM{X:Cx}{e:Expr}{t t':TT}(h:PW X e t)(k:∀σ H Q,t' σ H Q->t σ H Q):PW X e t':=fun wh pins s σ H Q I q=>h wh pins s σ H Q I (k σ H Q q)
def dI{X:Cx}{e:Stmt}{t t':TS}(h:PS X e t)(k:∀D σ H,t' D σ H->t D σ H):PS X e t':=fun pins s σ H D I q=>h pins s σ H D I (k D σ H q)
def tN{X:Cx}{e:List Stmt}{t t':TS}(h:Ma X e t)(k:∀D σ H,t' D σ H->t D σ H):Ma X e t':=fun pins s σ H D I q=>h pins s σ H D I (k D σ H q)
section
variable {X:Cx} {a b c e o:Expr} {es:List Expr} {ta tb tc te:aZ} {pos:Pos}
def v3(i:Nat):aZ:=fun σ S Q _=>match lk σ i with|some p=>Q p S|none=>False
def ad(i:Nat){x:Str}(hN:X.N[i]?=some x:=by rfl)(hv:Fw X.env.scope x:=by first|exact Or.inl rfl|exact Or.inr (Or.inl rfl)|exact Or.inr (Or.inr rfl))(hd:(x == ("__debug__":Str))=false:=by decide)
  (hcd:(x == ("__classdict__":Str))=false:=by decide):bp X (.Name x pos) (v3 i):=
 ⟨ba (BH hN hv hd hcd) fun σ H Q ⟨σ3,S,Q3,E3,rσ,rS,h,xo,k⟩=>by
  unfold v3 at h
  split at h
  ·rename_i p e
   obtain⟨v,ev,rv⟩:=rσ.at' i p (wL e)
   exact⟨v,ev,k p S v H h rv rS .refl⟩
  ·exact h.elim⟩
def c3(p:PV):aZ:=fun _ S Q _=>Q p S
def ae{i:Int}{j:Nat}:bp X (.Constant (.int i) j pos) (c3 (.int i)):=⟨ba BI fun σ H Q ⟨σ3,S,Q3,E3,rσ,rS,h,xo,k⟩=>k _ S _ H h (.int i) rS .refl⟩
def nA{i:Bool}{j:Nat}:bp X (.Constant (.bool i) j pos) (c3 (.bl i)):=⟨ba DP fun σ H Q ⟨σ3,S,Q3,E3,rσ,rS,h,xo,k⟩=>k _ S _ H h (.bl i) rS .refl⟩
def ax{i:Str}{j:Nat}:bp X (.Constant (.str i) j pos) (c3 (.str i)):=⟨ba BK fun σ H Q ⟨σ3,S,Q3,E3,rσ,rS,h,xo,k⟩=>k _ S _ H h (.str i) rS .refl⟩
def n9{j:Nat}:bp X (.Constant .none j pos) (c3 .non):=⟨ba BJ fun σ H Q ⟨σ3,S,Q3,E3,rσ,rS,h,xo,k⟩=>k _ S _ H h .non rS .refl⟩
def Gf{x:Str}{n:String}(hg:Gl X x)(hm:X.mg x=none)(hv:bootBuiltins x=some (.type n))(hn:x ≠ "__name__":=by decide)(hd:(x == ("__debug__":Str))=false:=by decide):bp X (.Name x pos) (c3 (.ty n)):=
 ⟨ba (yV (v:=.ty n) hg hm hv rfl hn hd) fun σ H Q ⟨σ3,S,Q3,E3,rσ,rS,h,xo,k⟩=>k _ S _ H h (.ty n) rS .refl⟩
noncomputable def ak:List aZ->G2
 |[],_,S,Q,_=>Q [] S
 |t::ts,σ,S,Q,E=>t σ S (fun x S1=>ak ts σ S1 (fun xs S2=>Q (x::xs) S2) E) E
noncomputable def FE:List TE->TA
 |[]=>Ej
 |t::ts=>AZ t (FE ts)
structure lv (X:Cx) (es:List Expr) (ts:List aZ):Prop where
 ok:PA X es (FE (ts.map (LE X)))
def d8:lv X [] []:=⟨B_⟩
def wN{ts:List aZ}(hs:starEach (e::es) X.env=(false,eval e X.env)::starEach es X.env)(ha:bp X e te)(hr:lv X es ts):lv X (e::es) (te::ts):=⟨zg ha.ok hr.ok hs⟩
theorem cz:∀{ts:List aZ} {σ:L2.St} {H:Hp} {Q:List V->Hp->Prop} {σ3:cy} {S:az} {Q3:List PV->az->Prop} {E3:bJ},HC X.K H σ σ3->Ht X.K H S->ak ts σ3 S Q3 E3->MT X H E3->
  (∀ps S' vs H',ps.length=ts.length->Q3 ps S'->Reps X.K H' vs ps->Ht X.K H' S'->Grow X.K H H'->Q vs H')->FE (ts.map (LE X)) σ H Q
 |[],σ,H,Q,σ3,S,Q3,E3,rσ,rS,h,xo,k=>k [] S [] H rfl h .nil rS .refl
 |t::ts,σ,H,Q,σ3,S,Q3,E3,rσ,rS,h,xo,k=>
  ⟨σ3,S,_,E3,rσ,rS,h,xo,fun p S1 v H1 h1 rv Hz g1=>cz (rσ.mono g1) Hz h1 (xo.mono g1) fun ps S2 vs H2 hl h2 Qu J4 g2=>k (p::ps) S2 (v::vs) H2 (by rw[TL,TL,hl]) h2 (.cons (rv.mono g2) Qu) J4 (g1.trans g2)⟩
def aC(ts:List aZ):aZ:=fun σ S Q E=>ak ts σ S (fun xs S1=>Q (.tup xs) S1) E
def aB{ts:List aZ}{x1:Nat}(h:lv X es ts)(hn:ts.length<=1000:=by exact W7 rfl):bp X (.Tuple es x1 pos) (aC ts):=
 ⟨ba (Ca h.ok) fun σ H Q ⟨σ3,S,Q3,E3,rσ,rS,hq,xo,k⟩=>cz rσ rS hq xo fun ps S' vs H' hl q rv Kr g=>
  ⟨Vj (fA (by rw[rv.length,hl];exact hn)),fun p hp=>k _ S' _ _ q (.tup (SqT.of aH) (rv.mono (.new hp))) (Kr.other hp) (g.trans (.new hp))⟩⟩
def bb(ts:List aZ):aZ:=fun σ S Q E=>ak ts σ S (fun xs S1=>∀p,S1 p=none->Q (.ref p) (Hk S1 p (.lst xs))) E
def aV{ts:List aZ}(h:lv X es ts)(hn:ts.length<=1000:=by exact W7 rfl):bp X (.List es pos) (bb ts):=
 ⟨ba (Cb h.ok) fun σ H Q ⟨σ3,S,Q3,E3,rσ,rS,hq,xo,k⟩=>cz rσ rS hq xo fun ps S' vs H' hl q rv Kr g=>
  ⟨Vj (fA (by rw[rv.length,hl];exact hn)),fun p hp=>k _ _ _ _ (q p (Kr.free hp)) (.ref p) (Kr.new hp ⟨vs,aH,rv.mono (.new hp)⟩) (g.trans (.new hp))⟩⟩
abbrev R3:=PV->PV->az->bn->Prop
inductive LR (X:Cx) (r:R3) (x y:V) (H:Hp) (Q:VK):Prop
 |mk (px py S Q3) (rx:Rep X.K H x px) (ry:Rep X.K H y py) (rS:Ht X.K H S) (h:r px py S Q3) (k:MU X.K H Q3 Q):LR X r x y H Q
structure ky (X:Cx) (f:Value->Value->Sem Value) (r:R3):Prop where
 ok:jo X f (LR X r)
def ag(r:R3)(ta tb:aZ):aZ:=fun σ S Q E=>ta σ S (fun x S1=>tb σ S1 (fun y S2=>r x y S2 Q) E) E
def lX{r:R3}{σ:L2.St}{H:Hp}{Q:VK}:LE X (ag r ta tb) σ H Q->Ea (LR X r) (LE X ta) (LE X tb) σ H Q:=fun⟨σ3,S,Q3,E3,rσ,rS,h,xo,k⟩=>
 ⟨σ3,S,_,E3,rσ,rS,h,xo,fun x S1 v H1 h1 rx Hz g1=>⟨σ3,S1,_,E3,rσ.mono g1,Hz,h1,xo.mono g1,fun y S2 u H2 h2 ry J4 g2=>⟨x,y,S2,Q3,rx.mono g2,ry,J4,h2,k.mono (g1.trans g2)⟩⟩⟩
def aA{op:Operator}{r:R3}(ho:ky X (binaryOp op) r)(ha:bp X a ta)(hb:bp X b tb):bp X (.BinOp a op b pos) (ag r ta tb):=⟨ba (Eb ho.ok ha.ok hb.ok) fun _ _ _=>lX⟩
def d9{op:CmpOp}{r:R3}(ho:ky X (compareOp op) r)(ha:bp X a ta)(hb:bp X b tb)(hm:behindInMarks op b=false):bp X (.Compare a [op] [b] pos) (ag r ta tb):=⟨ba (ze ho.ok ha.ok hb.ok hm) fun _ _ _=>lX⟩
def aM(t:aZ):kw:=fun σ S Q E=>t σ S (fun v S'=>match v with | .bl k=>Q k S'|_=>False) E
def wO{σ:L2.St}{H:Hp}{Q:Bool->Hp->Prop}:LT X (aM te) σ H Q->LE X te σ H (fun x H'=>∃k,x = .bl k/\Q k H'):=fun⟨σ3,S,Q3,E3,rσ,rS,h,xo,k⟩=>
 ⟨σ3,S,_,E3,rσ,rS,h,xo,fun p S' v H' h1 rv Kr g=>by
  cases p with
  |bl z=>cases rv;exact⟨z,rfl,k z S' H' h1 Kr g⟩
  |_=>exact h1.elim⟩
def bh{op:CmpOp}{r:R3}(ho:ky X (compareOp op) r)(ha:bp X a ta)(hb:bp X b tb)(hm:behindInMarks op b=false):sj X (.Compare a [op] [b] pos) (aM (ag r ta tb)):=
 ⟨sk (zf ho.ok ha.ok hb.ok hm) fun σ H Q ⟨σ3,S,Q3,E3,rσ,rS,h,xo,k⟩=>lX ⟨σ3,S,_,E3,rσ,rS,h,xo,fun p S' v H' h1 rv Kr g=>by
  cases p with
  |bl z=>cases rv;exact⟨z,rfl,k z S' H' h1 Kr g⟩
  |_=>exact h1.elim⟩⟩
def fE(h:bp X e te)(he:∀whole,isTrue e X.env whole=(do let v <-whole;standAt e.pos;holding [v] (truthy v)):=by intro _;rfl):sj X e (aM te):=
 ⟨sk (BL h.ok he) fun σ H Q q=>wO q⟩
end
section
variable {X:Cx} {a b c:Expr} {rest:List Expr} {ta tb te:aZ} {tA tB:kw} {pos:Pos}
def kG(t u:kw):kw:=fun σ S Q E=>t σ S (fun c S1=>if c=true then u σ S1 Q E else Q false S1) E
def lw(t u:kw):kw:=fun σ S Q E=>t σ S (fun c S1=>if c=true then Q true S1 else u σ S1 Q E) E
def i3(t:kw):kw:=fun σ S Q E=>t σ S (fun c S1=>Q (!c) S1) E
def mo(ha:sj X a tA):CC X (.BoolOp .And [a] pos) tA:=⟨yW ha.ok⟩
def gF(ha:sj X a tA):CC X (.BoolOp .Or [a] pos) tA:=⟨BM ha.ok⟩
def n_(ha:sj X a tA)(hb:CC X (.BoolOp .And (b::rest) pos) tB):CC X (.BoolOp .And (a::b::rest) pos) (kG tA tB):=
 ⟨wM (BN ha.ok hb.ok) fun σ H Q ⟨σ3,S,Q3,E3,rσ,rS,h,xo,k⟩=>⟨σ3,S,_,E3,rσ,rS,h,xo,fun c S1 H1 h1 Hz g1=>by
  cases c with
  |true=>rw[if_pos rfl]at h1 ⊢;exact⟨σ3,S1,Q3,E3,rσ.mono g1,Hz,h1,xo.mono g1,fun b S2 H2 h2 J4 g2=>k b S2 H2 h2 J4 (g1.trans g2)⟩
  |false=>rw[if_neg (by decide)]at h1 ⊢;exact k false S1 H1 h1 Hz g1⟩⟩
def kH(ha:sj X a tA)(hb:CC X (.BoolOp .Or (b::rest) pos) tB):CC X (.BoolOp .Or (a::b::rest) pos) (lw tA tB):=
 ⟨wM (DQ ha.ok hb.ok) fun σ H Q ⟨σ3,S,Q3,E3,rσ,rS,h,xo,k⟩=>⟨σ3,S,_,E3,rσ,rS,h,xo,fun c S1 H1 h1 Hz g1=>by
  cases c with
  |true=>rw[if_pos rfl]at h1 ⊢;exact k true S1 H1 h1 Hz g1
  |false=>rw[if_neg (by decide)]at h1 ⊢;exact⟨σ3,S1,Q3,E3,rσ.mono g1,Hz,h1,xo.mono g1,fun b S2 H2 h2 J4 g2=>k b S2 H2 h2 J4 (g1.trans g2)⟩⟩⟩
def qG(h:CC X a tA):sj X a tA:=⟨h.ok.pt⟩
def og(ha:sj X a tA):sj X (.UnaryOp .Not a pos) (i3 tA):=
 ⟨sk (BO ha.ok) fun σ H Q ⟨σ3,S,Q3,E3,rσ,rS,h,xo,k⟩=>⟨σ3,S,_,E3,rσ,rS,h,xo,fun c S1 H1 h1 Hz g1=>k (!c) S1 H1 h1 Hz g1⟩⟩
def gW(t u:aZ):aZ:=fun σ S Q E=>t σ S (fun v S1=>match v with | .bl c=>if c=true then u σ S1 Q E else Q (.bl false) S1|_=>False) E
def lx(t:aZ):aZ:=fun σ S Q E=>t σ S (fun v S1=>match v with | .bl c=>Q (.bl (!c)) S1|_=>False) E
def A6{op:BoolOp}(h:bp X a ta):bp X (.BoolOp op [a] pos) ta:=⟨BP h.ok⟩
def wP(ha:bp X a ta)(hb:bp X (.BoolOp .And (b::rest) pos) tb):bp X (.BoolOp .And (a::b::rest) pos) (gW ta tb):=
 ⟨ba (BQ ha.ok hb.ok) fun σ H Q ⟨σ3,S,Q3,E3,rσ,rS,h,xo,k⟩=>⟨σ3,S,_,E3,rσ,rS,h,xo,fun p S1 v H1 h1 rv Hz g1=>by
  cases p with
  |bl z=>
   cases rv
   refine⟨z,rfl,?_⟩
   cases z with
   |true=>rw[if_pos rfl];exact⟨σ3,S1,Q3,E3,rσ.mono g1,Hz,h1,xo.mono g1,k.mono g1⟩
   |false=>rw[if_neg (by decide)];exact k _ S1 _ H1 h1 (.bl false) Hz g1
  |_=>exact h1.elim⟩⟩
def A7(ha:bp X a ta):bp X (.UnaryOp .Not a pos) (lx ta):=
 ⟨ba (BR ha.ok) fun σ H Q ⟨σ3,S,Q3,E3,rσ,rS,h,xo,k⟩=>⟨σ3,S,_,E3,rσ,rS,h,xo,fun p S1 v H1 h1 rv Hz g1=>by
  cases p with
  |bl z=>cases rv;exact⟨z,rfl,k _ S1 _ H1 h1 (.bl _) Hz g1⟩
  |_=>exact h1.elim⟩⟩
def uX(t:kw)(ta tb:aZ):aZ:=fun σ S Q E=>t σ S (fun c S1=>if c=true then ta σ S1 Q E else tb σ S1 Q E) E
def A8(hc:sj X c tA)(ha:bp X a ta)(hb:bp X b tb):bp X (.IfExp c a b pos) (uX tA ta tb):=
 ⟨ba (vV hc.ok ha.ok hb.ok) fun σ H Q ⟨σ3,S,Q3,E3,rσ,rS,h,xo,k⟩=>⟨σ3,S,_,E3,rσ,rS,h,xo,fun c S1 H1 h1 Hz g1=>by
  cases c with
  |true=>rw[if_pos rfl]at h1 ⊢;exact⟨σ3,S1,Q3,E3,rσ.mono g1,Hz,h1,xo.mono g1,k.mono g1⟩
  |false=>rw[if_neg (by decide)]at h1 ⊢;exact⟨σ3,S1,Q3,E3,rσ.mono g1,Hz,h1,xo.mono g1,k.mono g1⟩⟩⟩
abbrev Ez:=PV->az->bn->Prop
noncomputable def G3(X:Cx)(r:Ez):V->Hp->VK->Prop:=fun x H Q=>∃px S Q3,Rep X.K H x px/\Ht X.K H S/\r px S Q3/\MU X.K H Q3 Q
structure GN (X:Cx) (f:Value->Sem Value) (r:Ez):Prop where
 ok:Fz X f (G3 X r)
def fx(r:Ez)(ta:aZ):aZ:=fun σ S Q E=>ta σ S (fun x S1=>r x S1 Q) E
def dU{op:UnaryOp}{r:Ez}(ho:GN X (unaryOp op) r)(ha:bp X a ta):bp X (.UnaryOp op a pos) (fx r ta):=
 ⟨ba (Ec ho.ok ha.ok) fun σ H Q ⟨σ3,S,Q3,E3,rσ,rS,h,xo,k⟩=>⟨σ3,S,_,E3,rσ,rS,h,xo,fun p S1 v H1 h1 rv Hz g1=>⟨p,S1,Q3,rv,Hz,h1,k.mono g1⟩⟩⟩
noncomputable def bG:Ez:=fun x S Q=>match x with | .int i=>Q (.int (-i)) S|_=>False
def bt:GN X (unaryOp .USub) bG:=⟨fun pins s σ H x v Q I rx ⟨px,S,Q3,r1,rS,h,k⟩=>by
 cases px with
 |int i=>cases r1;exact B8 pins s σ H _ v Q I rx ⟨i,rfl,k _ S _ H h (.int _) rS .refl⟩
 |_=>exact h.elim⟩
end
section
variable {X:Cx}
def dW(g:Int->Int->PV):R3:=fun x y S Q=>match x,y with | .int i,.int j=>Q (g i j) S|_,_=>False
def gX(C:Int->Int->Prop)(g:Int->Int->PV):R3:=fun x y S Q=>match x,y with | .int i,.int j=>C i j/\Q (g i j) S|_,_=>False
def CD{f:Value->Value->Sem Value}{g:Int->Int->Int}(h:jo X f (zb fun i j=>.int (g i j))):ky X f (dW fun i j=>.int (g i j)):=⟨fun pins s σ H x y v u Q I rx ry ⟨px,py,S,Q3,r1,r2,rS,q,k⟩=>by
 cases px with
 |int i=>
  cases py with
  |int j=>cases r1;cases r2;exact h pins s σ H _ _ v u Q I rx ry ⟨i,j,rfl,rfl,k _ S _ H q (.int _) rS .refl⟩
  |_=>exact q.elim
 |_=>exact q.elim⟩
def oZ{f:Value->Value->Sem Value}{g:Int->Int->Bool}(h:jo X f (zb fun i j=>.bl (g i j))):ky X f (dW fun i j=>.bl (g i j)):=⟨fun pins s σ H x y v u Q I rx ry ⟨px,py,S,Q3,r1,r2,rS,q,k⟩=>by
 cases px with
 |int i=>
  cases py with
  |int j=>cases r1;cases r2;exact h pins s σ H _ _ v u Q I rx ry ⟨i,j,rfl,rfl,k _ S _ H q (.bl _) rS .refl⟩
  |_=>exact q.elim
 |_=>exact q.elim⟩
def o0{f:Value->Value->Sem Value}{C:Int->Int->Prop}{g:Int->Int->Int}(h:jo X f (rI C fun i j=>.int (g i j))):ky X f (gX C fun i j=>.int (g i j)):=⟨fun pins s σ H x y v u Q I rx ry ⟨px,py,S,Q3,r1,r2,rS,q,k⟩=>by
 cases px with
 |int i=>
  cases py with
  |int j=>cases r1;cases r2;exact h pins s σ H _ _ v u Q I rx ry ⟨i,j,rfl,rfl,q.1,k _ S _ H q.2 (.int _) rS .refl⟩
  |_=>exact q.elim
 |_=>exact q.elim⟩
def mr(i j:Int):Prop:=j≠0/\j.natAbs < 2 ^ 8000
def sn{n:Nat}(h:n < 2 ^ 8000):n.log2 < 9000:=by
 by_cases z:n=0
 ·rw[z];decide +kernel
 ·exact UW ((Nat.log2_lt z).mpr h) (by decide)
def CF:ky X (binaryOp .Sub) (dW fun i j=>.int (i - j)):=CD B6
def CG:ky X (binaryOp .Mod) (gX (fun _ j=>j≠0) fun i j=>.int (i.fmod j)):=o0 zc
def zG:ky X (binaryOp .FloorDiv) (gX mr fun i j=>.int (i.fdiv j)):=o0 (FA fun _ _ _ _ _ _ _ hc q=>PyProof.Rows.floordiv_int hc.1 q (.inl (PyProof.noPylong_of_log2 (sn hc.2))))
def CH:ky X (binaryOp .Pow) (gX B4 fun i j=>.int (i ^ j.toNat)):=o0 B7
def EA:ky X (compareOp .Lt) (dW fun i j=>.bl (decide (i < j))):=oZ Ef
def EB:ky X (compareOp .Gt) (dW fun i j=>.bl (decide (j < i))):=oZ Eg
def EC:ky X (compareOp .GtE) (dW fun i j=>.bl (decide (j<=i))):=oZ Eh
end
end L3
namespace L2
open PySem PySem.Spec PyProof.Rows
section
variable {X:Cx}
def ED(K:Vo):R2:=fun x y H Q=>∃a b xs ys,x = .ref a/\y = .ref b/\SqT K H a xs/\SqT K H b ys/\xs.length+ys.length<=sizeLine/\∀r H',(∀c o,H c=some o->H' c=some o)->SqT K H' r (xs++ys)->Q (.ref r) H'
def zH:jo X (binaryOp .Add) (ED X.K):=by
 intro pins s σ H x y v u Q I rx ry h
 obtain⟨a,b,xs,ys,rfl,rfl,ha,hb,hz,q⟩:=h
 by_cases hx:xs=[]
 ·subst hx
  cases rx
  cases ry
  obtain⟨its,r1,p1,_⟩:=I.tuple ha
  obtain⟨its2,r2,p2,_⟩:=I.tuple hb
  cases r1
  obtain⟨⟨cls,dd,data,sl⟩,ho,hc,n,hd⟩:=id p1
  obtain⟨⟨Qe,dd2,data2,sl2⟩,ho2,hc2,n2,hd2⟩:=id p2
  simp only at hc hd hc2 hd2
  subst hc hd hc2 hd2
  exact concat_meets ⟨_,ho,rfl⟩ ⟨_,ho2,rfl⟩ noFill_tuple_add seq_tuple_add WU WK (Wu _ _)
   (tuple_addW0 a b _ its2.toArray n n2 dd dd2 sl sl2 rfl) ⟨ho,ho2,⟨.ref b,H,I,rfl,q b H (fun _ _ e=>e) hb⟩⟩
 ·exact zn pins s σ H _ _ v u Q I rx ry ⟨a,b,xs,ys,rfl,rfl,ha,hb,hx,hz,fun e=>q a H (fun _ _ e=>e) (by rw[e,TY];exact ha),
   fun _ p hp=>q p _ (fun c o e=>by rw[aL (bz e hp)];exact e) (SqT.of aH)⟩
end
end L2
namespace L3
open PySem L2
section
variable {X:Cx}
def aK:R3:=fun x y S Q=>match x,y with
 | .int i,.int j=>Q (.int (i+j)) S
 | .str i,.str j=>i.length+j.length<=sizeLine/\Q (.str (i++j)) S
 | .tup i,.tup j=>i.length+j.length<=sizeLine/\Q (.tup (i++j)) S
 | .ref i,.ref j=>match S i,S j with
  |some (.lst xs),some (.lst ys)=>xs.length+ys.length<=sizeLine/\∀p,S p=none->Q (.ref p) (Hk S p (.lst (xs++ys)))
  |_,_=>False
 |_,_=>False
def av:ky X (binaryOp .Add) aK:=⟨fun pins s σ H x y v u Q I rx ry ⟨px,py,S,Q3,r1,r2,rS,q,k⟩=>by
 unfold aK at q
 split at q
 ·cases r1;cases r2
  exact B5 pins s σ H _ _ v u Q I rx ry ⟨_,_,rfl,rfl,k _ S _ H q (.int _) rS .refl⟩
 ·cases r1;cases r2
  exact rX pins s σ H _ _ v u Q I rx ry ⟨_,_,rfl,rfl,q.1,k _ S _ H q.2 (.str _) rS .refl⟩
 ·cases r1 with
  |tup h1 s1=>
   cases r2 with
   |tup h2 s2=>
    refine zH pins s σ H _ _ v u Q I rx ry ⟨_,_,_,_,rfl,rfl,h1,h2,by rw[s1.length,s2.length];exact q.1,fun r H' hs hr=>?_⟩
    exact k _ S _ H' q.2 (.tup hr ((s1.mono (.same hs)).append (s2.mono (.same hs)))) (rS.grow hs) (.same hs)
 ·cases r1;cases r2
  split at q
  ·rename_i i j xs ys e1 e2
   obtain⟨vs,h1,s1⟩:=rS _ _ e1
   obtain⟨us,h2,s2⟩:=rS _ _ e2
   exact Cl pins s σ H _ _ v u Q I rx ry ⟨_,_,_,_,rfl,rfl,h1,h2,by rw[s1.length,s2.length];exact q.1,fun p hp=>k _ _ _ _ (q.2 p (rS.free hp)) (.ref p) (rS.new hp ⟨_,aH,(s1.append s2).mono (.new hp)⟩) (.new hp)⟩
  ·exact q.elim
 ·exact q.elim⟩
end
mutual
inductive Dat (S:az):PV->PyData->Prop
 |non:Dat S .non .none
 |bl (b:Bool):Dat S (.bl b) (.bool b)
 |int (i:Int):Dat S (.int i) (.int i)
 |str (x:Str):Dat S (.str x) (.str x)
 |tup {ps:List PV} {ds:List PyData}:J5 S ps ds->Dat S (.tup ps) (.tuple ds)
 |cl {ps:List PV} {ds:List PyData}:J5 S ps ds->Dat S (.cl ps) (.list ds)
 |ref {a:Addr} {ps:List PV} {ds:List PyData}:S a=some (.lst ps)->J5 S ps ds->Dat S (.ref a) (.list ds)
inductive J5 (S:az):List PV->List PyData->Prop
 |nil:J5 S [] []
 |cons {p:PV} {d:PyData} {ps:List PV} {ds:List PyData}:Dat S p d->J5 S ps ds->J5 S (p::ps) (d::ds)
end
section
variable {X:Cx} {pins:Va} {σ:L2.St} {H:Hp} {s:Shared} {S:az}
def sr(I:Inv X pins σ H s)(rS:Ht X.K H S):(∀{p:PV} {d:PyData},Dat S p d->∀{v:V} {u:Value},Rep X.K H v p->RelV v u->∃as,Reads s.heap u d as)/\∀{ps:List PV} {ds:List PyData},J5 S ps ds->∀{vs:List V} {us:Vv},Reps X.K H vs ps->Vals vs us->∃as,ReadsAll s.heap us ds as:=by
 have one:=@Dat.rec S (motive_1:=fun p d _=>∀{v:V} {u:Value},Rep X.K H v p->RelV v u->∃as,Reads s.heap u d as) (motive_2:=fun ps ds _=>∀{vs:List V} {us:Vv},Reps X.K H vs ps->Vals vs us->∃as,ReadsAll s.heap us ds as)
 have two:=@J5.rec S (motive_1:=fun p d _=>∀{v:V} {u:Value},Rep X.K H v p->RelV v u->∃as,Reads s.heap u d as) (motive_2:=fun ps ds _=>∀{vs:List V} {us:Vv},Reps X.K H vs ps->Vals vs us->∃as,ReadsAll s.heap us ds as)
 have c1:∀{v:V} {u:Value},Rep X.K H v .non->RelV v u->∃as,Reads s.heap u .none as:=fun h r=>by cases h;cases r;exact⟨_,.none⟩
 have c2:∀(b:Bool) {v:V} {u:Value},Rep X.K H v (.bl b)->RelV v u->∃as,Reads s.heap u (.bool b) as:=fun b _ _ h r=>by cases h;cases r;exact⟨_,.bool b⟩
 have c3:∀(i:Int) {v:V} {u:Value},Rep X.K H v (.int i)->RelV v u->∃as,Reads s.heap u (.int i) as:=fun i _ _ h r=>by cases h;obtain⟨t,rfl⟩:=r;exact⟨_,.int i t⟩
 have c4:∀(x:Str) {v:V} {u:Value},Rep X.K H v (.str x)->RelV v u->∃as,Reads s.heap u (.str x) as:=fun x _ _ h r=>by cases h;obtain⟨t,rfl⟩:=r;exact⟨_,.str x t⟩
 have c5:∀{ps:List PV} {ds:List PyData},J5 S ps ds->(∀{vs:List V} {us:Vv},Reps X.K H vs ps->Vals vs us->∃as,ReadsAll s.heap us ds as)->∀{v:V} {u:Value},Rep X.K H v (.tup ps)->RelV v u->∃as,Reads s.heap u (.tuple ds) as:=fun _ ih _ _ h r=>by
  cases h with
  |tup h rs=>
   cases r
   obtain⟨its,rv,⟨o,ho,hc,n,hd⟩,hz⟩:=I.tuple h
   obtain⟨as,q⟩:=ih rs rv
   exact⟨as,.tuple ho hc hd (by simpa using q)⟩
 have c6:∀{ps:List PV} {ds:List PyData},J5 S ps ds->(∀{vs:List V} {us:Vv},Reps X.K H vs ps->Vals vs us->∃as,ReadsAll s.heap us ds as)->∀{v:V} {u:Value},Rep X.K H v (.cl ps)->RelV v u->∃as,Reads s.heap u (.list ds) as:=fun _ ih _ _ h r=>by
  cases h with
  |cl h rs=>
   cases r
   obtain⟨its,rv,⟨o,n,ho,hc,_,hd⟩,hz⟩:=I.list h.sq
   obtain⟨as,q⟩:=ih rs rv
   exact⟨_,.list ho hc hd (by simpa using q)⟩
 have c7:∀{a:Addr} {ps:List PV} {ds:List PyData},S a=some (.lst ps)->J5 S ps ds->(∀{vs:List V} {us:Vv},Reps X.K H vs ps->Vals vs us->∃as,ReadsAll s.heap us ds as)->∀{v:V} {u:Value},Rep X.K H v (.ref a)->RelV v u->∃as,Reads s.heap u (.list ds) as:=fun e _ ih _ _ h r=>by
  cases h
  cases r
  obtain⟨vs,hv,rs⟩:=rS _ _ e
  obtain⟨its,rv,⟨o,n,ho,hc,_,hd⟩,hz⟩:=I.list (SqL.of hv)
  obtain⟨as,q⟩:=ih rs rv
  exact⟨_,.list ho hc hd (by simpa using q)⟩
 have c8:∀{vs:List V} {us:Vv},Reps X.K H vs []->Vals vs us->∃as,ReadsAll s.heap us [] as:=fun h r=>by cases h;cases r;exact⟨_,.nil⟩
 have c9:∀{p:PV} {d:PyData} {ps:List PV} {ds:List PyData},Dat S p d->J5 S ps ds->(∀{v:V} {u:Value},Rep X.K H v p->RelV v u->∃as,Reads s.heap u d as)->(∀{vs:List V} {us:Vv},Reps X.K H vs ps->Vals vs us->∃as,ReadsAll s.heap us ds as)->∀{vs:List V} {us:Vv},Reps X.K H vs (p::ps)->Vals vs us->∃as,ReadsAll s.heap us (d::ds) as:=fun _ _ i1 i2 _ _ h r=>by
  cases h with
  |cons a rs=>
   cases r with
   |cons r1 r2=>
    obtain⟨as,q⟩:=i1 a r1
    obtain⟨bs,q2⟩:=i2 rs r2
    exact⟨_,.cons q q2⟩
 exact⟨fun h=>one c1 c2 c3 c4 c5 c6 c7 c8 c9 h,fun h=>two c1 c2 c3 c4 c5 c6 c7 c8 c9 h⟩
def Dat.reads(I:Inv X pins σ H s)(rS:Ht X.K H S){p:PV}{d:PyData}{v:V}{u:Value}(h:Dat S p d)(r:Rep X.K H v p)(r2:RelV v u):∃as,Reads s.heap u d as:=(sr I rS).1 h r r2
end
section
variable {X:Cx}
def bq(neg:Bool):R3:=fun x y S Q=>match x,y with
 | .int i,.int j=>Q (.bl (neg != decide (i=j))) S
 | .str i,.str j=>Q (.bl (neg != decide (i=j))) S
 | .bl i,.bl j=>Q (.bl (neg != decide (i=j))) S
 |x,y=>∃d d',Dat S x d/\Dat S y d'/\d.canLay0=true/\d'.canLay0=true/\min d.depth d'.depth<=150/\Q (.bl (neg != PyData.eqv d d')) S
def mw(hu:X.A.units+150 < cLine):ky X (compareOp .Eq) (bq false):=⟨fun pins s σ H x y v u Q I rx ry ⟨px,py,S,Q3,r1,r2,rS,q,k⟩=>by
 unfold bq at q
 split at q
 ·cases r1;cases r2
  exact v6 pins s σ H _ _ v u Q I rx ry ⟨rfl,k _ S _ H (by simpa using q) (.bl _) rS .refl⟩
 ·cases r1;cases r2
  exact v6 pins s σ H _ _ v u Q I rx ry ⟨rfl,k _ S _ H (by simpa using q) (.bl _) rS .refl⟩
 ·cases r1;cases r2
  exact v6 pins s σ H _ _ v u Q I rx ry ⟨rfl,k _ S _ H (by simpa using q) (.bl _) rS .refl⟩
 ·obtain⟨d,d',h1,h2,c1,c2,hd,q⟩:=q
  obtain⟨as,a1⟩:=h1.reads I rS r1 rx
  obtain⟨bs,a2⟩:=h2.reads I rS r2 ry
  exact SeqAt.compareEq_reads a1 a2 c1 c2 (by omega) ⟨.bl _,H,I,rfl,k _ S _ H (by simpa using q) (.bl _) rS .refl⟩⟩
def wQ(hu:X.A.units+150 < cLine):ky X (compareOp .NotEq) (bq true):=⟨fun pins s σ H x y v u Q I rx ry ⟨px,py,S,Q3,r1,r2,rS,q,k⟩=>by
 unfold bq at q
 split at q
 ·cases r1;cases r2
  exact v7 pins s σ H _ _ v u Q I rx ry ⟨rfl,k _ S _ H (by simpa using q) (.bl _) rS .refl⟩
 ·cases r1;cases r2
  exact v7 pins s σ H _ _ v u Q I rx ry ⟨rfl,k _ S _ H (by simpa using q) (.bl _) rS .refl⟩
 ·cases r1;cases r2
  exact v7 pins s σ H _ _ v u Q I rx ry ⟨rfl,k _ S _ H (by simpa using q) (.bl _) rS .refl⟩
 ·obtain⟨d,d',h1,h2,c1,c2,hd,q⟩:=q
  obtain⟨as,a1⟩:=h1.reads I rS r1 rx
  obtain⟨bs,a2⟩:=h2.reads I rS r2 ry
  exact SeqAt.compareNe_reads a1 a2 c1 c2 (by omega) ⟨.bl _,H,I,rfl,k _ S _ H (by simpa using q) (.bl _) rS .refl⟩⟩
def uY(neg:Bool):R3:=fun x y S Q=>match y with
 | .non=>Q (.bl (neg != match x with | .non=>true|_=>false)) S
 | .bl true=>match x with | .bl true=>Q (.bl (neg != true)) S|_=>False
 |_=>False
def EE:ky X (compareOp .Is) (uY false):=⟨fun pins s σ H x y v u Q I rx ry ⟨px,py,S,Q3,r1,r2,rS,q,k⟩=>by
 unfold uY at q
 split at q
 ·cases r2
  refine B9 pins s σ H _ _ v u Q I rx ry ⟨rfl,?_⟩
  cases r1<;>exact k _ S _ H (by simpa using q) (.bl _) rS .refl
 ·cases r2
  split at q
  ·cases r1
   exact Cy pins s σ H _ _ v u Q I rx ry ⟨rfl,rfl,k _ S _ H (by simpa using q) (.bl _) rS .refl⟩
  ·exact q.elim
 ·exact q.elim⟩
def wR:ky X (compareOp .IsNot) (uY true):=⟨fun pins s σ H x y v u Q I rx ry ⟨px,py,S,Q3,r1,r2,rS,q,k⟩=>by
 unfold uY at q
 split at q
 ·cases r2
  refine zd pins s σ H _ _ v u Q I rx ry ⟨rfl,?_⟩
  cases r1<;>exact k _ S _ H (by simpa using q) (.bl _) rS .refl
 ·cases r2
  split at q
  ·cases r1
   exact uV pins s σ H _ _ v u Q I rx ry ⟨rfl,rfl,k _ S _ H (by simpa using q) (.bl _) rS .refl⟩
  ·exact q.elim
 ·exact q.elim⟩
noncomputable def i4(S:az):PV->Option (List PV)
 | .tup xs=>some xs
 | .cl xs=>some xs
 | .ref a=>match S a with|some (.lst xs)=>some xs|_=>none
 |_=>none
def wS{H:Hp}{S:az}{v:V}{p:PV}{xs:List PV}(rS:Ht X.K H S)(r:Rep X.K H v p)(h:i4 S p=some xs):∃a vs,v = .ref a/\(SqL X.K H a vs\/SqT X.K H a vs)/\Reps X.K H vs xs:=by
 unfold i4 at h
 split at h
 ·cases h;cases r with|tup h1 rs=>exact⟨_,_,rfl,.inr h1,rs⟩
 ·cases h;cases r with|cl h1 rs=>exact⟨_,_,rfl,.inl h1.sq,rs⟩
 ·cases r
  split at h
  ·rename_i e
   cases h
   obtain⟨vs,hv,rs⟩:=rS _ _ e
   exact⟨_,vs,rfl,.inl (SqL.of hv),rs⟩
  ·cases h
 ·cases h
noncomputable def gG(x:PyData)(xs:List PyData):Bool:=xs.any fun y=>PyData.eqv y x
def fJ(neg:Bool):R3:=fun x y S Q=>match x,y with
 | .str i,.str j=>Q (.bl (neg != !(Builtin.Str.occurrences j i 0 j.length 1).isEmpty)) S
 |x,y=>match y with
  | .ref a=>match S a with
   |some (.lst xs)=>∃d ds,Dat S x d/\J5 S xs ds/\d.canLay0=true/\PyData.canLayAll0 ds=true/\d.depth<=150/\Q (.bl (neg != gG d ds)) S
   |some (.dct kvs)=>match x with
    | .str z=>Q (.bl (neg != (kvs.any fun kv=>decide (kv.1=Sum.inr z)))) S
    | .int z=>Q (.bl (neg != (kvs.any fun kv=>decide (kv.1=Sum.inl z)))) S
    |_=>False
   |_=>False
  | .tup xs=>∃d ds,Dat S x d/\J5 S xs ds/\d.canLay0=true/\PyData.canLayAll0 ds=true/\d.depth<=150/\Q (.bl (neg != gG d ds)) S
  |_=>False
theorem HP.any{K:Vo}{H:Hp}{κ:Type} [DecidableEq κ](k:κ):∀{vs:List (κ×V)} {ps:List (κ×PV)},HP K H vs ps->(i0 vs k).isSome=ps.any fun kv=>decide (kv.1=k)
 |_,_,.nil=>rfl
 |_,_,.cons (k:=k') a r=>by
  rw[VW,<-HP.any k r]
  by_cases e:k'=k
  ·rw[JG e];simp[e]
  ·rw[I9 e];simp[e]
def gH(hu:X.A.units+160 < cLine):ky X (compareOp .In) (fJ false):=⟨fun pins s σ H x y v u Q I rx ry ⟨px,py,S,Q3,r1,r2,rS,q,k⟩=>by
 unfold fJ at q
 split at q
 ·cases r1;cases r2
  exact uD pins s σ H _ _ v u Q I rx ry ⟨_,_,rfl,rfl,k _ S _ H (by simpa using q) (.bl _) rS .refl⟩
 ·split at q
  ·cases r2
   cases ry
   split at q
   ·rename_i xs e
    obtain⟨d,ds,h1,h2,c1,c2,hd,q⟩:=q
    obtain⟨as,a1⟩:=h1.reads I rS r1 rx
    obtain⟨bs,a2⟩:=(Dat.ref e h2).reads I rS (.ref _) (rfl:RelV (.ref _) (.ref _))
    exact SeqAt.in_list_reads a2 a1 c2 c1 (by omega) ⟨.bl _,H,I,rfl,k _ S _ H (by simpa [gG]using q) (.bl _) rS .refl⟩
   ·rename_i kvs e
    obtain⟨kv,hv,rk⟩:=rS _ _ e
    split at q
    ·cases r1
     exact Es (by omega) I (DGet.k (k:=Sum.inr _) hv) rx fun s3 I3=>⟨.bl _,H,I3,rfl,k _ S _ H (by rw[rk.any];simpa using q) (.bl _) rS .refl⟩
    ·cases r1
     exact Es (by omega) I (DGet.k (k:=Sum.inl _) hv) rx fun s3 I3=>⟨.bl _,H,I3,rfl,k _ S _ H (by rw[rk.any];simpa using q) (.bl _) rS .refl⟩
    ·exact q.elim
   ·exact q.elim
  ·rename_i xs
   obtain⟨d,ds,h1,h2,c1,c2,hd,q⟩:=q
   obtain⟨as,a1⟩:=h1.reads I rS r1 rx
   obtain⟨bs,a2⟩:=(Dat.tup h2).reads I rS r2 ry
   exact SeqAt.in_tuple_reads a2 a1 c2 c1 (by omega) ⟨.bl _,H,I,rfl,k _ S _ H (by simpa [gG]using q) (.bl _) rS .refl⟩
  ·exact q.elim⟩
def dC(hu:X.A.units+160 < cLine):ky X (compareOp .NotIn) (fJ true):=⟨fun pins s σ H x y v u Q I rx ry ⟨px,py,S,Q3,r1,r2,rS,q,k⟩=>by
 unfold fJ at q
 split at q
 ·cases r1;cases r2
  exact oO pins s σ H _ _ v u Q I rx ry ⟨_,_,rfl,rfl,k _ S _ H (by simpa using q) (.bl _) rS .refl⟩
 ·split at q
  ·cases r2
   cases ry
   split at q
   ·rename_i xs e
    obtain⟨d,ds,h1,h2,c1,c2,hd,q⟩:=q
    obtain⟨as,a1⟩:=h1.reads I rS r1 rx
    obtain⟨bs,a2⟩:=(Dat.ref e h2).reads I rS (.ref _) (rfl:RelV (.ref _) (.ref _))
    exact SeqAt.notIn_list_reads a2 a1 c2 c1 (by omega) ⟨.bl _,H,I,rfl,k _ S _ H (by simpa [gG]using q) (.bl _) rS .refl⟩
   ·rename_i kvs e
    obtain⟨kv,hv,rk⟩:=rS _ _ e
    split at q
    ·cases r1
     exact tM (by omega) I (DGet.k (k:=Sum.inr _) hv) rx fun s3 I3=>⟨.bl _,H,I3,rfl,k _ S _ H (by rw[rk.any];simpa using q) (.bl _) rS .refl⟩
    ·cases r1
     exact tM (by omega) I (DGet.k (k:=Sum.inl _) hv) rx fun s3 I3=>⟨.bl _,H,I3,rfl,k _ S _ H (by rw[rk.any];simpa using q) (.bl _) rS .refl⟩
    ·exact q.elim
   ·exact q.elim
  ·rename_i xs
   obtain⟨d,ds,h1,h2,c1,c2,hd,q⟩:=q
   obtain⟨as,a1⟩:=h1.reads I rS r1 rx
   obtain⟨bs,a2⟩:=(Dat.tup h2).reads I rS r2 ry
   exact SeqAt.notIn_tuple_reads a2 a1 c2 c1 (by omega) ⟨.bl _,H,I,rfl,k _ S _ H (by simpa [gG]using q) (.bl _) rS .refl⟩
  ·exact q.elim⟩
end
end L3
namespace HT
open PySem PySem.Spec PyProof.Rows
section
variable {prog:Program} {w:World} {A:Around} {E:Vq} {s:Shared}
def jX{t sl:Addr}{items:Vw}{vl vu:Value}{lo hi:Option Int}{Q:Vq}(ht:IsTup s.heap t items)(hs:s.heap.IsSliceOf sl vl vu .none)(pl:IsPart vl lo)(pu:IsPart vu hi)
  (hw:H_ items.size 0 lo=0/\H_ items.size items.size hi=items.size)
  (h:Q (.ref t) s):wpAny (model prog w) A (getItem (.ref t) (.ref sl)) Q E s:=by
 obtain⟨os,hos,hcs,hds⟩:=id hs
 have Qf:s.TypeIs (.ref sl) "slice":=⟨os,hos,hcs⟩
 unfold getItem
 try with_reducible refine US ?_
 first|refine Tc (Tf ?_)|skip
 refine Tc (wpAny_sequenceKey ht.typeIs (by decide) ?_)
 refine Tc (Ui (name:=Str.ofString "__getitem__") ht.typeIs UG
  (Uv UG ht.typeIs entry_tuple_getitem ?_ (args_tuple_getitem _ _)))
 show wpAny _ _ (Builtin.Tuple.tupleItemsOf (.ref t) >>= _) _ _ s
 refine Tc (tupleItemsOf_ ht ?_)
 refine Tc (V6 Qf ?_)
 rw[if_pos (by decide)]
 refine Tc (fz hs pl pu ?_)
 have hyes:(((H_ items.size 0 lo:Nat):Int) == 0&&(1:Int) == 1&&(H_ items.size items.size hi - H_ items.size 0 lo) == items.size)=true:=by
  rw[hw.1,hw.2];simp
 show wpAny _ _ (if (((H_ items.size 0 lo:Nat):Int) == 0&&(1:Int) == 1&&(H_ items.size items.size hi - H_ items.size 0 lo) == items.size)=true then _ else _) _ _ s
 rw[if_pos hyes]
 unfold Builtin.Tuple.tupleIsExact
 refine Tc (Tc (V6 ht.typeIs (Tf ?_)))
 rw[if_pos (by decide)]
 first
  |exact Tc (Vp (Tf ⟨_,rfl,Tf h⟩))
  |exact Tc (Vp (Tc (Tf (Tf ⟨_,rfl,Tf h⟩))))
  |exact Tc (Vp (Tc (Tf ⟨_,rfl,Tf h⟩)))
end
end HT
namespace L2
open PySem PySem.Spec PyProof.Rows
section
variable {X:Cx}
noncomputable def EF(K:Vo):V->Option Int->Option Int->Hp->VK->Prop:=fun x lo hi H Q=>∃a xs,x = .ref a/\SqT K H a xs/\∀r H',(∀c o,H c=some o->H' c=some o)->SqT K H' r (md xs lo hi)->Q (.ref r) H'
def zI:DC X (EF X.K):=by
 intro pins s σ H x v vl vu lo hi sl Q I rx hs pl pu h
 obtain⟨a,xs,rfl,hx,q⟩:=h
 by_cases hw:HT.H_ xs.length 0 lo=0/\HT.H_ xs.length xs.length hi=xs.length
 ·cases rx
  obtain⟨its,r,ht,hz⟩:=I.tuple hx
  have hlen:its.toArray.size=xs.length:=by rw[Tr];exact r.length.symm
  refine⟨"tuple",_,UG.lookup,ht.typeIs,HT.jX ht hs pl pu (by rw[hlen];exact hw) ⟨.ref a,H,I,rfl,q a H (fun _ _ e=>e) ?_⟩⟩
  have e:md xs lo hi=xs:=by unfold md;rw[hw.1,hw.2];simp
  rw[e];exact hx
 ·exact Ce pins s σ H _ v vl vu lo hi sl Q I rx hs pl pu ⟨a,xs,rfl,hx,hw,fun p hp=>q p _ (fun c o e=>by rw[aL (bz e hp)];exact e) (SqT.of aH)⟩
def zJ(hu:X.A.units+1 < cLine):DD X (fun x y H Q=>∃a v,x = .ref a/\DGet H a y (some v)/\Q v H):=by
 intro value slice pins s σ H x y v u Q I rx ry h hs
 obtain⟨a,z,rfl,g,q⟩:=h
 cases rx
 exact tail_any (qB I g) PySem.F.slot_dict_getitem.lookup (uK hu I g ry fun w' s3 I3 rw'=>⟨z,H,I3,rw',q⟩) hs
def wT(hu:X.A.units+1 < cLine):y3 X (fun o i v H Q=>∃a H',o = .ref a/\M0 H a i v H'/\Q H'):=by
 intro pins s σ H o i v ov iv u Q I ro ri rv h
 obtain⟨a,H',rfl,g,q⟩:=h
 cases ro
 exact uL hu I g ri rv fun s' I'=>⟨H',I',q⟩
end
end L2
namespace L3
open PySem L2
theorem Reps.Ie{K:Vo}{H:Hp}{vs:List V}{ps:List PV}{i:Int}{p:PV}(r:Reps K H vs ps)(h:L2.Ie ps i=some p):∃v,L2.Ie vs i=some v/\Rep K H v p:=by
 unfold L2.Ie at h ⊢
 rw[r.length]
 cases e:uH ps.length i with
 |none=>rw[e]at h;cases h
 |some j=>
  rw[e]at h
  obtain⟨v,h1,h2⟩:=r.get h
  exact⟨v,h1,h2⟩
noncomputable def i5:PV->Option bf
 | .int i=>some (.inl i)
 | .str x=>some (.inr x)
 |_=>none
def cW{K:Vo}{H:Hp}{v:V}{p:PV}{k:bf}(r:Rep K H v p)(h:i5 p=some k):v=kV k:=by
 cases p with
 |int i=>cases h;cases r;rfl
 |str i=>cases h;cases r;rfl
 |_=>cases h
noncomputable def ff{κ:Type} [DecidableEq κ]:List (κ×PV)->κ->Option PV
 |[],_=>none
 |(k',v)::r,k=>if k'=k then some v else ff r k
theorem HP.val{K:Vo}{H:Hp}{κ:Type} [DecidableEq κ]{k:κ}{p:PV}:∀{vs:List (κ×V)} {ps:List (κ×PV)},HP K H vs ps->ff ps k=some p->∃v,i0 vs k=some v/\Rep K H v p
 |_,_,.nil,h=>by cases h
 |_,_,.cons (k:=k') a r,h=>by
  unfold ff at h
  split at h
  ·rename_i e;cases h;exact⟨_,JG e,a⟩
  ·rename_i e;rw[I9 e];exact HP.val r h
theorem HP.valN{K:Vo}{H:Hp}{κ:Type} [DecidableEq κ]{k:κ}:∀{vs:List (κ×V)} {ps:List (κ×PV)},HP K H vs ps->ff ps k=none->i0 vs k=none
 |_,_,.nil,_=>rfl
 |_,_,.cons (k:=k') a r,h=>by
  unfold ff at h
  split at h
  ·cases h
  ·rename_i e;rw[I9 e];exact HP.valN r h
section
variable {X:Cx} {a b e lo hi:Expr} {ta tb te:aZ} {pos p2:Pos}
structure GO (X:Cx) (r:R3):Prop where
 ok:DD X (LR X r)
def EG{r:R3}(hr:GO X r)(ha:bp X a ta)(hb:bp X b tb)(hs:lV b):bp X (.Subscript a b pos) (ag r ta tb):=⟨ba (En hr.ok ha.ok hb.ok hs) fun _ _ _=>lX⟩
def af:R3:=fun x y S Q=>match x with
 | .tup xs=>match y with | .int i=>(match Ie xs i with|some v=>Q v S|none=>False)|_=>False
 | .cl xs=>match y with | .int i=>(match Ie xs i with|some v=>Q v S|none=>False)|_=>False
 | .str z=>match y with | .int i=>z.length<=sizeLine/\(match Ie z.cps.toList i with|some c=>Q (.str ⟨#[c]⟩) S|none=>False)|_=>False
 | .ref a=>match S a with
  |some (.lst xs)=>(match y with | .int i=>(match Ie xs i with|some v=>Q v S|none=>False)|_=>False)
  |some (.dct kvs)=>(match i5 y with|some k=>(match ff kvs k with|some v=>Q v S|none=>False)|none=>False)
  |_=>False
 |_=>False
def GP(hu:X.A.units+1 < cLine):GO X af:=⟨fun value slice pins s σ H x y v u Q I rx ry ⟨px,py,S,Q3,r1,r2,rS,q,k⟩ hs=>by
 unfold af at q
 split at q
 ·split at q
  ·split at q
   ·rename_i e
    cases r2
    cases r1 with
    |tup h1 rs=>
     obtain⟨w,hw,rw'⟩:=rs.Ie e
     exact Cg value slice pins s σ H _ _ v u Q I rx ry ⟨_,_,_,w,rfl,rfl,h1,hw,k _ S _ H q rw' rS .refl⟩ hs
   ·exact q.elim
  ·exact q.elim
 ·split at q
  ·split at q
   ·rename_i e
    cases r2
    cases r1 with
    |cl h1 rs=>
     obtain⟨w,hw,rw'⟩:=rs.Ie e
     exact tK value slice pins s σ H _ _ v u Q I rx ry ⟨_,_,_,w,rfl,rfl,h1.sq,hw,k _ S _ H q rw' rS .refl⟩ hs
   ·exact q.elim
  ·exact q.elim
 ·split at q
  ·obtain⟨hz,q⟩:=q
   split at q
   ·rename_i e
    cases r1;cases r2
    exact Ch value slice pins s σ H _ _ v u Q I rx ry ⟨_,_,_,rfl,rfl,hz,e,k _ S _ H q (.str _) rS .refl⟩ hs
   ·exact q.elim
  ·exact q.elim
 ·split at q
  ·rename_i e0
   split at q
   ·split at q
    ·rename_i e
     cases r1;cases r2
     obtain⟨vs,hv,rs⟩:=rS _ _ e0
     obtain⟨w,hw,rw'⟩:=rs.Ie e
     exact tK value slice pins s σ H _ _ v u Q I rx ry ⟨_,_,_,w,rfl,rfl,SqL.of hv,hw,k _ S _ H q rw' rS .refl⟩ hs
    ·exact q.elim
   ·exact q.elim
  ·rename_i e0
   split at q
   ·rename_i ek
    split at q
    ·rename_i ev
     cases r1
     have e1:=cW r2 ek
     subst e1
     obtain⟨kv,hv,rk⟩:=rS _ _ e0
     obtain⟨w,hw,rw'⟩:=rk.val ev
     refine zJ hu value slice pins s σ H _ _ v u Q I rx ry ⟨_,w,rfl,?_,k _ S _ H q rw' rS .refl⟩ hs
     rw[<-hw]
     exact DGet.k hv
    ·exact q.elim
   ·exact q.elim
  ·exact q.elim
 ·exact q.elim⟩
abbrev DG:=cy->az->(Option Int->az->Prop)->bJ->Prop
inductive LO (X:Cx) (t:DG) (σ:L2.St) (H:Hp) (Q:Option Int->Hp->Prop):Prop
 |mk (σ3 S Q3 E3) (rσ:HC X.K H σ σ3) (rS:Ht X.K H S) (h:t σ3 S Q3 E3) (xo:MT X H E3) (k:∀o S' H',Q3 o S'->Ht X.K H' S'->Grow X.K H H'->Q o H'):LO X t σ H Q
structure FF (X:Cx) (e:Option Expr) (t:DG):Prop where
 ok:PO X e (LO X t)
noncomputable def jq:DG:=fun _ S Q _=>Q none S
noncomputable def i6(t:aZ):DG:=fun σ S Q E=>t σ S (fun v S'=>match v with | .int i=>Q (some i) S'|_=>False) E
def wU{e:Option Expr}{t t':TO}(h:PO X e t)(k:∀σ H Q,t' σ H Q->t σ H Q):PO X e t':=fun pins s σ H Q I q=>h pins s σ H Q I (k σ H Q q)
def bW:FF X none jq:=⟨wU zk fun σ H Q ⟨σ3,S,Q3,E3,rσ,rS,h,xo,k⟩=>k none S H h rS .refl⟩
def bN(h:bp X e te):FF X (some e) (i6 te):=⟨wU (zm h.ok) fun σ H Q ⟨σ3,S,Q3,E3,rσ,rS,h,xo,k⟩=>⟨σ3,S,_,E3,rσ,rS,h,xo,fun p S' v H' h1 rv Kr g=>by
 cases p with
 |int i=>cases rv;exact⟨i,rfl,k _ S' H' h1 Kr g⟩
 |_=>exact h1.elim⟩⟩
noncomputable def b9{α:Type}(xs:List α)(lo hi:Option Int):List α:=(xs.drop (HT.H_ xs.length 0 lo)).take (HT.H_ xs.length xs.length hi - HT.H_ xs.length 0 lo)
def Reps.cut{K:Vo}{H:Hp}{vs:List V}{ps:List PV}(r:Reps K H vs ps)(lo hi:Option Int):Reps K H (md vs lo hi) (b9 ps lo hi):=by
 unfold md b9
 rw[r.length]
 exact(r.drop _).take _
def jr(x:PV)(lo hi:Option Int)(S:az)(Q:bn):Prop:=match x with
 | .tup xs=>Q (.tup (b9 xs lo hi)) S
 | .cl xs=>∀p,S p=none->Q (.ref p) (Hk S p (.lst (b9 xs lo hi)))
 | .str z=>z.length<=sizeLine/\Q (.str (Txt.slice z lo hi)) S
 | .ref a=>match S a with|some (.lst xs)=>∀p,S p=none->Q (.ref p) (Hk S p (.lst (b9 xs lo hi)))|_=>False
 |_=>False
noncomputable def G4(X:Cx):V->Option Int->Option Int->Hp->VK->Prop:=fun x lo hi H Q=>∃px S Q3,Rep X.K H x px/\Ht X.K H S/\jr px lo hi S Q3/\MU X.K H Q3 Q
def G5:DC X (G4 X):=by
 intro pins s σ H x v vl vu lo hi sl Q I rx hs pl pu ⟨px,S,Q3,r1,rS,q,k⟩
 unfold jr at q
 split at q
 ·cases r1 with
  |tup h1 rs=>exact zI pins s σ H _ v vl vu lo hi sl Q I rx hs pl pu ⟨_,_,rfl,h1,fun r H' hh hr=>k _ S _ H' q (.tup hr ((rs.cut lo hi).mono (.same hh))) (rS.grow hh) (.same hh)⟩
 ·cases r1 with
  |cl h1 rs=>exact tL pins s σ H _ v vl vu lo hi sl Q I rx hs pl pu ⟨_,_,rfl,h1.sq,fun p hp=>k _ _ _ _ (q p (rS.free hp)) (.ref p) (rS.new hp ⟨_,aH,(rs.cut lo hi).mono (.new hp)⟩) (.new hp)⟩
 ·cases r1
  exact Ct pins s σ H _ v vl vu lo hi sl Q I rx hs pl pu ⟨_,rfl,q.1,k _ S _ H q.2 (.str _) rS .refl⟩
 ·split at q
  ·rename_i e
   cases r1
   obtain⟨vs,hv,rs⟩:=rS _ _ e
   exact tL pins s σ H _ v vl vu lo hi sl Q I rx hs pl pu ⟨_,_,rfl,SqL.of hv,fun p hp=>k _ _ _ _ (q p (rS.free hp)) (.ref p) (rS.new hp ⟨_,aH,(rs.cut lo hi).mono (.new hp)⟩) (.new hp)⟩
  ·exact q.elim
 ·exact q.elim
def aY(te:aZ)(tl th:DG):aZ:=fun σ S Q E=>te σ S (fun x S1=>tl σ S1 (fun l S2=>th σ S2 (fun u S3=>jr x l u S3 Q) E) E) E
def bD{lo hi:Option Expr}{tl th:DG}(he:bp X e te)(hl:FF X lo tl)(hu:FF X hi th):bp X (.Subscript e (.Slice lo hi none p2) pos) (aY te tl th):=
 ⟨ba (wb G5 he.ok hl.ok hu.ok) fun σ H Q ⟨σ3,S,Q3,E3,rσ,rS,h,xo,k⟩=>⟨σ3,S,_,E3,rσ,rS,h,xo,fun x S1 v H1 h1 rx Hz g1=>⟨σ3,S1,_,E3,rσ.mono g1,Hz,h1,xo.mono g1,fun l S2 H2 h2 J4 g2=>
  ⟨σ3,S2,_,E3,rσ.mono (g1.trans g2),J4,h2,xo.mono (g1.trans g2),fun u S3 H3 h3 MI g3=>⟨x,S3,Q3,rx.mono (g2.trans g3),MI,h3,k.mono (g1.trans (g2.trans g3))⟩⟩⟩⟩⟩
def zK:jo X (binaryOp .Mult) (rI IntMulOk fun i j=>.int (i * j)):=FA fun _ _ _ _ _ _ _ hc q=>PyProof.Rows.mul_int q hc
def bX:R3:=fun x y S Q=>match x,y with
 | .int i,.int j=>IntMulOk i j/\Q (.int (i * j)) S
 | .ref a,.int j=>(match S a with|some (.lst xs)=>-(2 ^ 63)<=j/\j < 2 ^ 63/\xs.length * j.toNat<=sizeLine/\∀p,S p=none->Q (.ref p) (Hk S p (.lst (List.replicate j.toNat xs).flatten))|_=>False)
 |_,_=>False
theorem Reps.rep{K:Vo}{H:Hp}{vs:List V}{ps:List PV}(r:Reps K H vs ps):∀n:Nat,Reps K H (List.replicate n vs).flatten (List.replicate n ps).flatten
 |0=>.nil
 |n+1=>by
  rw[Ve,Ve,VS,VS]
  exact r.append (Reps.rep r n)
def bi:ky X (binaryOp .Mult) bX:=⟨fun pins s σ H x y v u Q I rx ry ⟨px,py,S,Q3,r1,r2,rS,q,k⟩=>by
 unfold bX at q
 split at q
 ·cases r1;cases r2
  exact zK pins s σ H _ _ v u Q I rx ry ⟨_,_,rfl,rfl,q.1,k _ S _ H q.2 (.int _) rS .refl⟩
 ·split at q
  ·rename_i e
   cases r1;cases r2
   obtain⟨vs,hv,rs⟩:=rS _ _ e
   exact Cm pins s σ H _ _ v u Q I rx ry ⟨_,_,_,rfl,rfl,hv,q.1,q.2.1,by rw[rs.length];exact q.2.2.1,fun p hp=>k _ _ _ _ (q.2.2.2 p (rS.free hp)) (.ref p) (rS.new hp ⟨_,aH,(rs.rep _).mono (.new hp)⟩) (.new hp)⟩
  ·exact q.elim
 ·exact q.elim⟩
end
end L3
namespace L2
open PySem PySem.Spec PyProof.Rows
section
variable {X:Cx}
def uZ(hc:X.calm=true):dB X (.builtin "any") (fun xs H Q=>∃(p:Addr) (bs:List Bool),xs=[.ref p]/\SqL X.K H p (bs.map V.bl)/\Q (.bl (bs.any id)) H):=by
 intro pins s σ H xs us Q I r h
 obtain⟨p,bs,rfl,hp,q⟩:=h
 obtain⟨u,rfl,rx⟩:=cV r
 cases rx
 obtain⟨its,rv,pl,hz⟩:=I.list hp
 have hl:=rv.length
 rw[Ti]at hl
 have hlt:p < s.heap.objs.size:=by obtain⟨o,ho,_⟩:=pl.isList;exact To ho
 refine call_any_walk (Ul pl.isList ?_)
 have up:∀b o,s.heap.get? b=some o->(s.heap.push { cls:=.type "list_iterator",data:=.fields #[.ref p,.int 0 0] }).get? b=some o:=fun b o e=>Td _ e
 refine⟨s.heap.objs.size,_,_,_,_,_,fun i=>(bs[i]?).getD false,rfl,Walks.list (A:=X.A.in1) (I.ok.hd hc) s.heap.objs.size p (TM hlt) its.toArray,⟨⟨_,Tn _ rfl,rfl,rfl⟩,pl.isList.push _⟩,?_,fun h' tk hk=>?_⟩
 ·intro i v s' Q' E' hv hq
  have hi:i < its.length:=by
   by_cases z:i < its.length
   ·exact z
   ·rw[UX (by simpa using z)]at hv;cases hv
  obtain⟨u',e1,r1⟩:=rv.get (i:=i) (x:=.bl bs[i]) (by rw[Tv,Tp (by omega)];rfl)
  have e2:v=u':=by
   have z:its[i]?=some v:=by simpa using hv
   rw[z]at e1;exact UB e1
  subst e2
  cases (show v=Value.bool bs[i] from r1)
  refine VR ?_
  have hq':Q' ((bs[i]?).getD false) s':=hq
  rw[Tp (show i < bs.length by omega)]at hq'
  exact hq'
 ·have e:(List.range its.toArray.size).any (fun i=>(bs[i]?).getD false)=bs.any id:=by
   rw[Tr,<-hl,VQ,Xf,Xf]
   constructor
   ·rintro⟨i,hi,h1⟩
    have hi':i < bs.length:=U9.mp hi
    rw[Tp hi']at h1
    exact⟨bs[i],VG hi',h1⟩
   ·rintro⟨x,hx,h1⟩
    obtain⟨i,hi,e⟩:=List.getElem_of_mem hx
    exact⟨i,U9.mpr hi,by rw[Tp hi,e];exact h1⟩
  refine⟨.bl (bs.any id),H,?_,by rw[e];rfl,q⟩
  exact I.kept (t':=tk) fun b o z=>hk b o (by
   intro q2
   have q3:b=s.heap.objs.size:=by simpa using q2
   rw[q3]at z
   exact absurd (To z) (U0 _)) (up b o z)
def su{pins:Va}{σ:St}{H:Hp}{s:Shared}{x:Value}{t:Value}{p:Heap->Prop}{vs:List V}{tp:Addr}{b:Bool}{Q:Vq}{E:Vq}(I:Inv X pins σ H s)(Z:PySem.W.KitX X.K x t p)(hp:p s.heap)(hx:x ≠ .builtin "__main__.__loader__#opaque")
  (ht:SqT X.K H tp vs) (e:∀its,Vals vs its->PySem.W.kitAny X.K t its=some b) (h:∀tk,Q (.bool b) { s with toks:=tk }):wpAny (model X.prog X.w) X.A (call (.builtin "isinstance") [x,.ref tp]) Q E s:=by
 obtain⟨its,rv,⟨⟨cls,dd,data,sl⟩,ho,hc,n,hd⟩,hz⟩:=I.tuple ht
 simp only at hc hd
 subst hc hd
 exact PySem.W.kia_tup Z I.MY hp ho (e its rv) hx h
end
end L2
namespace L3
open PySem L2
abbrev oh:=List PV->az->bn->Prop
section
variable {X:Cx} {e o:Expr} {es:List Expr} {te to:aZ} {ts:List aZ} {x:Str} {p pos apos cpos:Pos}
inductive LC (X:Cx) (r:oh) (xs:List V) (H:Hp) (Q:VK):Prop
 |mk (ps S Q3) (rx:Reps X.K H xs ps) (rS:Ht X.K H S) (h:r ps S Q3) (k:MU X.K H Q3 Q):LC X r xs H Q
structure dQ (X:Cx) (f:Value) (r:oh):Prop where
 ok:dB X f (LC X r)
def al(r:oh)(ts:List aZ):aZ:=fun σ S Q E=>ak ts σ S (fun ps S1=>r ps S1 Q) E
def tO{r:oh}{σ:L2.St}{H:Hp}{Q:VK}:LE X (al r ts) σ H Q->FE (ts.map (LE X)) σ H fun vs H1=>LC X r vs H1 Q:=fun⟨σ3,S,Q3,E3,rσ,rS,h,xo,k⟩=>
 cz rσ rS h xo fun ps S' vs H' hl q rv Kr g=>⟨ps,S',Q3,rv,Kr,q,k.mono g⟩
def zL{id:String}{r:oh}(hc:dQ X (.builtin id) r)(hg:Gl X x)(hm:X.mg x=none)(hv:bootBuiltins x=some (.builtin id))(he:starEach (e::es) X.env=(false,eval e X.env)::starEach es X.env)(ha:lv X (e::es) ts)
  (hn:x ≠ "__name__":=by decide) (hdb:(x == ("__debug__":Str))=false:=by decide) (hpl:(backTo pos (starEach es X.env)).any (·.1)=false:=by rfl):bp X (.Call (.Name x p) (e::es) [] pos) (al r ts):=
 ⟨ba (v_ hc.ok hg hm hv ha.ok hn hdb he hpl) fun _ _ _=>tO⟩
def zM{id:String}{r:oh}(hc:dQ X (.type id) r)(hg:Gl X x)(hm:X.mg x=none)(hv:bootBuiltins x=some (.type id))(he:starEach (e::es) X.env=(false,eval e X.env)::starEach es X.env)(ha:lv X (e::es) ts)
  (hn:x ≠ "__name__":=by decide) (hdb:(x == ("__debug__":Str))=false:=by decide) (hpl:(backTo pos (starEach es X.env)).any (·.1)=false:=by rfl):bp X (.Call (.Name x p) (e::es) [] pos) (al r ts):=
 ⟨ba (uG hc.ok hg hm hv ha.ok hn hdb he hpl) fun _ _ _=>tO⟩
def bA:oh:=fun ps S Q=>match ps with
 |[.tup xs]=>Q (.int xs.length) S
 |[.cl xs]=>Q (.int xs.length) S
 |[.str z]=>z.length<=sizeLine/\Q (.int z.length) S
 |[.ref a]=>(match S a with|some (.lst xs)=>Q (.int xs.length) S|some (.dct kvs)=>Q (.int kvs.length) S|_=>False)
 |_=>False
def bK:dQ X (.builtin "len") bA:=⟨fun pins s σ H xs us Q I r ⟨ps,S,Q3,rp,rS,q,k⟩=>by
 unfold bA at q
 split at q
 ·cases rp with|cons a rr=>cases rr;cases a with|tup h rs=>exact fM pins s σ H _ us Q I r ⟨_,_,rfl,.inr h,by rw[rs.length];exact k _ S _ H q (.int _) rS .refl⟩
 ·cases rp with|cons a rr=>cases rr;cases a with|cl h rs=>exact fM pins s σ H _ us Q I r ⟨_,_,rfl,.inl h.sq,by rw[rs.length];exact k _ S _ H q (.int _) rS .refl⟩
 ·cases rp with|cons a rr=>cases rr;cases a;exact oP pins s σ H _ us Q I r ⟨_,rfl,q.1,k _ S _ H q.2 (.int _) rS .refl⟩
 ·cases rp with
  |cons a rr=>
   cases rr;cases a
   split at q
   ·rename_i e
    obtain⟨vs,hv,rs⟩:=rS _ _ e
    exact fM pins s σ H _ us Q I r ⟨_,_,rfl,.inl (SqL.of hv),by rw[rs.length];exact k _ S _ H q (.int _) rS .refl⟩
   ·rename_i e
    obtain⟨vs,hv,rs⟩:=rS _ _ e
    exact uO pins s σ H _ us Q I r ⟨_,_,rfl,hv,by rw[rs.length];exact k _ S _ H q (.int _) rS .refl⟩
   ·exact q.elim
 ·exact q.elim⟩
def u4:oh:=fun ps S Q=>match ps with|[.int i]=>Q (.int (if i < 0 then -i else i)) S|_=>False
def EH:dQ X (.builtin "abs") u4:=⟨fun pins s σ H xs us Q I r ⟨ps,S,Q3,rp,rS,q,k⟩=>by
 unfold u4 at q
 split at q
 ·cases rp with|cons a rr=>cases rr;cases a;exact v9 pins s σ H _ us Q I r ⟨_,rfl,k _ S _ H q (.int _) rS .refl⟩
 ·exact q.elim⟩
def mx:oh:=fun ps S Q=>match ps with|[.int i,.int j]=>Q (.int (if j > i then j else i)) S|_=>False
def wV(hc:X.calm=true):dQ X (.builtin "max") mx:=⟨fun pins s σ H xs us Q I r ⟨ps,S,Q3,rp,rS,q,k⟩=>by
 unfold mx at q
 split at q
 ·cases rp with|cons a rr=>cases rr with|cons b r3=>cases r3;cases a;cases b;exact uE hc pins s σ H _ us Q I r ⟨_,_,rfl,k _ S _ H q (.int _) rS .refl⟩
 ·exact q.elim⟩
def eR:oh:=fun ps S Q=>match ps with|[.int i]=>Q (.int i) S|[.bl b]=>Q (.int (if b then 1 else 0)) S|_=>False
def oi:dQ X (.type "int") eR:=⟨fun pins s σ H xs us Q I r ⟨ps,S,Q3,rp,rS,q,k⟩=>by
 unfold eR at q
 split at q
 ·cases rp with|cons a rr=>cases rr;cases a;exact nP pins s σ H _ us Q I r (.inl ⟨_,rfl,k _ S _ H q (.int _) rS .refl⟩)
 ·cases rp with|cons a rr=>cases rr;cases a;exact nP pins s σ H _ us Q I r (.inr ⟨_,rfl,k _ S _ H q (.int _) rS .refl⟩)
 ·exact q.elim⟩
def jt:oh:=fun ps S Q=>match ps with
 |[.str z]=>z.length<=sizeLine/\∀p,S p=none->Q (.ref p) (Hk S p (.lst (z.cps.toList.map fun c=>.str (kC c))))
 |[v]=>(match i4 S v with|some xs=>∀p,S p=none->Q (.ref p) (Hk S p (.lst xs))|none=>False)
 |_=>False
theorem my{K:Vo}{H:Hp}:∀cs:List Nat,Reps K H (cs.map fun c=>V.str (kC c)) (cs.map fun c=>PV.str (kC c))
 |[]=>.nil
 |c::r=>.cons (.str _) (my r)
def wW(hc:X.calm=true):dQ X (.type "list") jt:=⟨fun pins s σ H xs us Q I r ⟨ps,S,Q3,rp,rS,q,k⟩=>by
 unfold jt at q
 split at q
 ·cases rp with|cons a rr=>cases rr;cases a;exact kD hc pins s σ H _ us Q I r ⟨_,rfl,q.1,fun p hp=>k _ _ _ _ (q.2 p (rS.free hp)) (.ref p) (rS.new hp ⟨_,aH,(my _)⟩) (.new hp)⟩
 ·cases rp with
  |cons a rr=>
   cases rr
   split at q
   ·rename_i e
    obtain⟨b,vs,rfl,hs,rs⟩:=wS rS a e
    exact oQ pins s σ H _ us Q I r ⟨_,_,rfl,hs,fun p hp=>k _ _ _ _ (q p (rS.free hp)) (.ref p) (rS.new hp ⟨_,aH,rs.mono (.new hp)⟩) (.new hp)⟩
   ·exact q.elim
 ·exact q.elim⟩
def aP:oh:=fun ps S Q=>match ps with
 |[v]=>(match i4 S v with|some xs=>Q (.tup xs) S|none=>False)
 |_=>False
def cn:dQ X (.type "tuple") aP:=⟨fun pins s σ H xs us Q I r ⟨ps,S,Q3,rp,rS,q,k⟩=>by
 unfold aP at q
 split at q
 ·cases rp with
  |cons a rr=>
   cases rr
   split at q
   ·rename_i e
    obtain⟨b,vs,rfl,hs,rs⟩:=wS rS a e
    rcases hs with hs|hs
    ·exact i9 pins s σ H _ us Q I r ⟨_,_,rfl,.inl ⟨hs,fun p hp=>k _ S _ _ q (.tup (SqT.of aH) (rs.mono (.new hp))) (rS.other hp) (.new hp)⟩⟩
    ·exact i9 pins s σ H _ us Q I r ⟨_,_,rfl,.inr ⟨hs,k _ S _ _ q (.tup hs rs) rS .refl⟩⟩
   ·exact q.elim
 ·exact q.elim⟩
noncomputable def ly:List PV->Option (List Bool)
 |[]=>some []
 | .bl b::r=>(ly r).map (b::·)
 |_::_=>none
theorem ju{K:Vo}{H:Hp}:∀{vs:List V} {ps:List PV} {bs:List Bool},Reps K H vs ps->ly ps=some bs->vs=bs.map V.bl
 |_,_,_,.nil,h=>by cases h;rfl
 |_,_,bs,.cons (p:=p) a r,h=>by
  cases p with
  |bl b=>
   cases a
   unfold ly at h
   cases e:ly _ with
   |none=>rw[e]at h;cases h
   |some l=>rw[e]at h;cases h;rw[ju r e];rfl
  |_=>cases h
def sv:oh:=fun ps S Q=>match ps with
 |[.ref a]=>(match S a with|some (.lst xs)=>(match ly xs with|some bs=>Q (.bl (bs.all id)) S|none=>False)|_=>False)
 |_=>False
def wX(hc:X.calm=true):dQ X (.builtin "all") sv:=⟨fun pins s σ H xs us Q I r ⟨ps,S,Q3,rp,rS,q,k⟩=>by
 unfold sv at q
 split at q
 ·cases rp with
  |cons a rr=>
   cases rr;cases a
   split at q
   ·rename_i e
    split at q
    ·rename_i eb
     obtain⟨vs,hv,rs⟩:=rS _ _ e
     have e2:=ju rs eb
     subst e2
     exact uR hc pins s σ H _ us Q I r ⟨_,_,rfl,SqL.of hv,k _ S _ H q (.bl _) rS .refl⟩
    ·exact q.elim
   ·exact q.elim
 ·exact q.elim⟩
def u5:oh:=fun ps S Q=>match ps with
 |[.ref a]=>(match S a with|some (.lst xs)=>(match ly xs with|some bs=>Q (.bl (bs.any id)) S|none=>False)|_=>False)
 |_=>False
def A9(hc:X.calm=true):dQ X (.builtin "any") u5:=⟨fun pins s σ H xs us Q I r ⟨ps,S,Q3,rp,rS,q,k⟩=>by
 unfold u5 at q
 split at q
 ·cases rp with
  |cons a rr=>
   cases rr;cases a
   split at q
   ·rename_i e
    split at q
    ·rename_i eb
     obtain⟨vs,hv,rs⟩:=rS _ _ e
     have e2:=ju rs eb
     subst e2
     exact uZ hc pins s σ H _ us Q I r ⟨_,_,rfl,SqL.of hv,k _ S _ H q (.bl _) rS .refl⟩
    ·exact q.elim
   ·exact q.elim
 ·exact q.elim⟩
end
noncomputable def wY(t c:String):Bool:=t == c || (t == "bool" && c == "int")
noncomputable def DH(S:az):PV->Option String
 | .non=>some "NoneType"
 | .bl _=>some "bool"
 | .int _=>some "int"
 | .str _=>some "str"
 | .tup _=>some "tuple"
 | .cl _=>some "list"
 | .ref a=>(match S a with|some (.lst _)=>some "list" | some (.dct _)=>some "dict" | _=>none)
 | .ty _=>none
 | .exc _ _ _=>none
 | .cls _=>none
noncomputable def cN(c:String):Bool:=["int","str","bool","tuple","list","dict"].contains c
def wZ(K:Vo)(t c:String):PySem.W.kitCls K (.type t) (.type c)=(if PySem.W.kitMeta c=true then (PySem.fastBuiltinMro t).map (·.contains (Value.type c)) else none):=rfl
def tP{K:Vo}{t c:String}(ht:t∈["NoneType","bool","int","str","tuple","list","dict"])(hc:cN c=true):PySem.W.kitOne K (.type t) (.type c)=some (wY t c):=by
 have hc':c∈["int","str","bool","tuple","list","dict"]:=by
  have:=hc
  unfold cN at this
  simpa using this
 simp only[Th,TJ,Uq]at ht hc'
 rcases ht with rfl|rfl|rfl|rfl|rfl|rfl|rfl<;>rcases hc' with rfl|rfl|rfl|rfl|rfl|rfl <;>
  first
   |(unfold PySem.W.kitOne;rw[if_pos (by decide)];rfl)
   |(unfold PySem.W.kitOne;rw[if_neg (by decide),wZ];decide +kernel)
def w4{S:az}{p:PV}{t:String}(h:DH S p=some t):t∈["NoneType","bool","int","str","tuple","list","dict"]:=by
 unfold DH at h
 split at h<;>first|(cases h;decide)|(split at h<;>first|(cases h;decide)|cases h)|cases h
section
variable {X:Cx}
noncomputable def EI:List PV->Option (List String)
 |[]=>some []
 | .ty c::r=>if cN c then (EI r).map (c::·) else none
 |_::_=>none
def w5:oh:=fun ps S Q=>match ps with
 |[x,.ty c]=>(match DH S x with|some t=>cN c=true/\Q (.bl (wY t c)) S|none=>False)
 |[x,.tup cs]=>(match DH S x,EI cs with|some t,some l=>Q (.bl (l.any (wY t))) S|_,_=>False)
 |_=>False
def zN{K:Vo}{H:Hp}{t:String}(ht:t∈["NoneType","bool","int","str","tuple","list","dict"]):∀(cs:List PV) {l:List String} {vs:List V} {its:Vv},EI cs=some l->Reps K H vs cs->Vals vs its->PySem.W.kitAny K (.type t) its=some (l.any (wY t)):=by
 intro cs
 induction cs with
 |nil=>intro l vs its h rs r;cases h;cases rs;cases r;rfl
 |cons p cs ih=>
  intro l vs its h rs r
  cases p with
  |ty c=>
   unfold EI at h
   split at h
   ·rename_i hc
    cases e:EI cs with
    |none=>rw[e]at h;cases h
    |some l'=>
     rw[e]at h
     cases h
     cases rs with
     |cons a rs=>
      cases a
      cases r with
      |@cons _ u _ us r1 r2=>
       cases (show u=Value.type c from r1)
       show(match PySem.W.kitOne K (.type t) (.type c)with|some true=>some true|some false=>PySem.W.kitAny K (.type t) us|none=>none)=_
       rw[tP ht hc,VW]
       cases wY t c with
       |true=>rfl
       |false=>exact ih e rs r2
   ·cases h
  |_=>cases h
def A_:dQ X (.builtin "isinstance") w5:=⟨fun pins s σ H xs us Q I r ⟨ps,S,Q3,rp,rS,q,k⟩=>by
 have main:∀{v:PV} {x:V} {u:Value} {t:String},Rep X.K H x v->RelV x u->DH S v=some t->∃(h:Heap->Prop),PySem.W.KitX X.K u (.type t) h/\h s.heap/\u ≠ .builtin "__main__.__loader__#opaque":=by
  intro v x u t rv rx ht
  cases rv with
  |non=>cases ht;cases rx;exact⟨_,PySem.W.kitx_none,True.intro,fun z=>nomatch z⟩
  |bl b=>cases ht;cases rx;exact⟨_,PySem.W.kitx_bool,True.intro,fun z=>nomatch z⟩
  |int b=>cases ht;obtain⟨t,rfl⟩:=rx;exact⟨_,PySem.W.kitx_int,True.intro,fun z=>nomatch z⟩
  |str b=>cases ht;obtain⟨t,rfl⟩:=rx;exact⟨_,PySem.W.kitx_str,True.intro,fun z=>nomatch z⟩
  |ty b=>cases ht
  |exc _ _ _=>cases ht
  |cls _=>cases ht
  |tup h rs=>
   cases ht;cases rx
   obtain⟨its,_,⟨o,ho,hc,_⟩,_⟩:=I.tuple h
   exact⟨_,PySem.W.kitx_tuple,⟨o,ho,hc⟩,fun z=>nomatch z⟩
  |cl h rs=>
   cases ht;cases rx
   obtain⟨its,_,⟨o,n,ho,hc,_⟩,_⟩:=I.list h.sq
   exact⟨_,PySem.W.kitx_list,⟨o,ho,hc⟩,fun z=>nomatch z⟩
  |ref a=>
   cases rx
   unfold DH at ht
   simp only at ht
   split at ht
   ·rename_i e
    cases ht
    obtain⟨vs,hv,_⟩:=rS _ _ e
    obtain⟨its,_,⟨o,n,ho,hc,_⟩,_⟩:=I.list (SqL.of hv)
    exact⟨_,PySem.W.kitx_list,⟨o,ho,hc⟩,fun z=>nomatch z⟩
   ·rename_i e
    cases ht
    obtain⟨vs,hv,_⟩:=rS _ _ e
    obtain⟨_,_,vs',_,p⟩:=(show HY X.prog X.w H s.heap _ (.dK vs)from I.hok _ _ hv)
    obtain⟨o,es,ep,h1,h2,_⟩:=p
    exact⟨_,PySem.W.kitx_dict,⟨o,h1,h2.1⟩,fun z=>nomatch z⟩
   ·cases ht
 unfold w5 at q
 split at q
 ·split at q
  ·rename_i ht
   cases rp with
   |cons a rr=>
    cases rr with
    |cons b r3=>
     cases r3;cases b
     cases r with
     |cons r1 r2=>
      cases r2 with
      |cons r4 r5=>
       cases r5
       cases (show _=Value.type _ from r4)
       obtain⟨h,Z,hp,hx⟩:=main a r1 ht
       exact PySem.W.kia_one Z I.MY hp (tP (w4 ht) q.1) hx fun tk=>⟨.bl _,H,I.tok _,rfl,k _ S _ H q.2 (.bl _) rS .refl⟩
  ·exact q.elim
 ·split at q
  ·rename_i ht hl
   cases rp with
   |cons a rr=>
    cases rr with
    |cons b r3=>
     cases r3
     cases b with
     |tup h1 rs=>
      cases r with
      |cons r1 r2=>
       cases r2 with
       |cons r4 r5=>
        cases r5
        cases r4
        obtain⟨h,Z,hp,hx⟩:=main a r1 ht
        exact su I Z hp hx h1 (fun its rv=>zN (w4 ht) _ hl rs rv) fun tk=>⟨.bl _,H,I.tok _,rfl,k _ S _ H q (.bl _) rS .refl⟩
  ·exact q.elim
 ·exact q.elim⟩
end
abbrev tQ:=PV->List PV->az->bn->Prop
section
variable {X:Cx} {e o:Expr} {es:List Expr} {te to:aZ} {ts:List aZ} {name:Str} {p pos apos cpos:Pos} {T id:String}
inductive LM (X:Cx) (r:tQ) (x:V) (xs:List V) (H:Hp) (Q:VK):Prop
 |mk (px ps S Q3) (rx:Rep X.K H x px) (rs:Reps X.K H xs ps) (rS:Ht X.K H S) (h:r px ps S Q3) (k:MU X.K H Q3 Q):LM X r x xs H Q
structure w9 (X:Cx) (id:String) (r:tQ):Prop where
 ok:Cf X id (LM X r)
def zO(T:String)(x:PV)(S:az):Prop:=match x with
 | .str _=>T = "str"
 | .ref a=>(match S a with|some (.lst _)=>T = "list" | some (.dct _)=>T = "dict" | _=>False)
 | .cl _=>T = "list"
 |_=>False
def w_{H:Hp}{S:az}{v:V}{p:PV}(rS:Ht X.K H S)(r:Rep X.K H v p)(h:zO T p S):FB X.K T v H:=by
 cases r with
 |str x=>exact h
 |ref a=>
  unfold zO at h
  simp only at h
  split at h
  ·rename_i e
   obtain⟨vs,hv,_⟩:=rS _ _ e
   exact .inl ⟨h,_,SqL.of hv⟩
  ·rename_i e
   obtain⟨vs,hv,_⟩:=rS _ _ e
   exact .inr (.inr (.inl ⟨h,.inl ⟨_,hv⟩⟩))
  ·exact h.elim
 |cl h1 _=>exact .inl ⟨h,_,h1.sq⟩
 |_=>exact h.elim
def lz(T:String)(r:tQ)(to:aZ)(ts:List aZ):aZ:=fun σ S Q E=>to σ S (fun x S1=>zO T x S1/\ak ts σ S1 (fun ps S2=>r x ps S2 Q) E) E
def Gg{r:tQ}(pa:PlainAttrs T)(slot:Slot T name id)(hty:typeOf (.builtin id)=pure (.type "method_descriptor"))(hm:w9 X id r)(hs:starEach (e::es) X.env=(false,eval e X.env)::starEach es X.env)(ho:bp X o to)(ha:lv X (e::es) ts)
  (hbase:attributeBase o name X.env (eval o X.env)=eval o X.env:=by rfl)
  (hfew:((backTo cpos (starEach (e::es) X.env)).all (fun x=>!x.1)&&(backToKw cpos (keywordEach [] X.env)).all (fun x=>x.1.isSome)
   && decide ((e::es).length+([]:List Keyword).length+(if ([]:List Keyword).isEmpty then 0 else 1) < 30))=true:=by rfl)
  (hline:(apos.endLine == cpos.line)=true:=by rfl) (hplain:(backTo cpos (starEach es X.env)).any (·.1)=false:=by rfl):bp X (.Call (.Attribute o name apos) (e::es) [] cpos) (lz T r to ts):=
 ⟨ba (Ep pa slot hty hm.ok ho.ok ha.ok hbase hfew hline hs hplain) fun σ H Q ⟨σ3,S,Q3,E3,rσ,rS,h,xo,k⟩=>⟨σ3,S,_,E3,rσ,rS,h,xo,fun x S1 v H1 h1 rx Hz g1=>
  ⟨w_ Hz rx h1.1,cz (rσ.mono g1) Hz h1.2 (xo.mono g1) fun ps S2 vs H2 hl q rv J4 g2=>⟨x,ps,S2,Q3,rx.mono g2,rv,J4,q,k.mono (g1.trans g2)⟩⟩⟩⟩
def EJ{r:tQ}(pa:PlainAttrs T)(slot:Slot T name id)(hty:typeOf (.builtin id)=pure (.type "method_descriptor"))(hm:w9 X id r)(ho:bp X o to)
  (hbase:attributeBase o name X.env (eval o X.env)=eval o X.env:=by rfl) (hline:(apos.endLine == cpos.line)=true:=by rfl):bp X (.Call (.Attribute o name apos) [] [] cpos) (lz T r to []):=
 ⟨ba (Ci pa slot hty hm.ok ho.ok hbase hline) fun σ H Q ⟨σ3,S,Q3,E3,rσ,rS,h,xo,k⟩=>⟨σ3,S,_,E3,rσ,rS,h,xo,fun x S1 v H1 h1 rx Hz g1=>
  ⟨w_ Hz rx h1.1,⟨x,[],S1,Q3,rx,.nil,Hz,h1.2,k.mono g1⟩⟩⟩⟩
def bO:tQ:=fun x ps S Q=>match x,ps with
 | .ref a,[y]=>(match S a with|some (.lst xs)=>xs.length < sizeLine/\Q .non (Hk S a (.lst (xs++[y])))|_=>False)
 |_,_=>False
def d_:w9 X "list.append" bO:=⟨fun pins s σ H x xs v us Q I rx rs ⟨px,ps,S,Q3,r1,rp,rS,q,k⟩=>by
 unfold bO at q
 split at q
 ·split at q
  ·rename_i e
   cases r1
   cases rp with
   |cons b rr=>
    cases rr
    obtain⟨vs,hv,rl⟩:=rS _ _ e
    exact uI pins s σ H _ _ v us Q I rx rs ⟨_,_,_,rfl,rfl,hv,by rw[rl.length];exact q.1,k _ _ _ _ q.2 .non (rS.put hv trivial ⟨_,aH,(rl.append (.cons b .nil)).mono (.mut hv trivial)⟩) (.mut hv trivial)⟩
  ·exact q.elim
 ·exact q.elim⟩
def dv:tQ:=fun x ps S Q=>match x,ps with
 | .ref a,[.ref b]=>(match S a,S b with|some (.lst xs),some (.lst ys)=>xs.length+ys.length<=sizeLine/\Q .non (Hk S a (.lst (xs++ys)))|_,_=>False)
 |_,_=>False
def mz:w9 X "list.extend" dv:=⟨fun pins s σ H x xs v us Q I rx rs ⟨px,ps,S,Q3,r1,rp,rS,q,k⟩=>by
 unfold dv at q
 split at q
 ·split at q
  ·rename_i e e2
   cases r1
   cases rp with
   |cons b rr=>
    cases rr
    cases b
    obtain⟨vs,hv,rl⟩:=rS _ _ e
    obtain⟨us',hu,ru⟩:=rS _ _ e2
    exact uJ pins s σ H _ _ v us Q I rx rs ⟨_,_,_,_,rfl,rfl,hv,hu,by rw[rl.length,ru.length];exact q.1,k _ _ _ _ q.2 .non (rS.put hv trivial ⟨_,aH,(rl.append ru).mono (.mut hv trivial)⟩) (.mut hv trivial)⟩
  ·exact q.elim
 ·exact q.elim⟩
def u6:tQ:=fun x ps S Q=>match x,ps with
 | .ref a,[]=>(match S a with|some (.lst xs)=>(match xs[xs.length - 1]? with|some y=>Q y (Hk S a (.lst xs.dropLast))|none=>False)|_=>False)
 | .ref a,[.int i]=>(match S a with|some (.lst xs)=>-(2 ^ 63)<=i/\i < 2 ^ 63/\(match seqIndex? i xs.length with|some j=>(match xs[j]? with|some y=>Q y (Hk S a (.lst (xs.eraseIdx j)))|none=>False)|none=>False)|_=>False)
 |_,_=>False
def EK:w9 X "list.pop" u6:=⟨fun pins s σ H x xs v us Q I rx rs ⟨px,ps,S,Q3,r1,rp,rS,q,k⟩=>by
 unfold u6 at q
 split at q
 ·split at q
  ·rename_i e
   split at q
   ·rename_i ey
    cases r1
    cases rp
    obtain⟨vs,hv,rl⟩:=rS _ _ e
    rw[<-rl.length]at ey
    obtain⟨y',Qv,ry⟩:=rl.get ey
    exact Cj pins s σ H _ _ v us Q I rx rs ⟨_,_,_,rfl,rfl,hv,Qv,k _ _ _ _ q (ry.mono (.mut hv trivial)) (rS.put hv trivial ⟨_,aH,rl.dropLast.mono (.mut hv trivial)⟩) (.mut hv trivial)⟩
   ·exact q.elim
  ·exact q.elim
 ·split at q
  ·rename_i e
   obtain⟨h1,h2,q⟩:=q
   split at q
   ·rename_i ej
    split at q
    ·rename_i ey
     cases r1
     cases rp with
     |cons b rr=>
      cases rr;cases b
      obtain⟨vs,hv,rl⟩:=rS _ _ e
      obtain⟨y',Qv,ry⟩:=rl.get ey
      rw[<-rl.length]at ej
      exact wg pins s σ H _ _ v us Q I rx rs ⟨_,_,_,_,_,rfl,rfl,hv,h1,h2,ej,Qv,k _ _ _ _ q (ry.mono (.mut hv trivial)) (rS.put hv trivial ⟨_,aH,(rl.eraseIdx _).mono (.mut hv trivial)⟩) (.mut hv trivial)⟩
    ·exact q.elim
   ·exact q.elim
  ·exact q.elim
 ·exact q.elim⟩
noncomputable def texts:List PV->Option (List Str)
 |[]=>some []
 | .str b::r=>(texts r).map (b::·)
 |_::_=>none
theorem mB{K:Vo}{H:Hp}:∀{vs:List V} {ps:List PV} {bs:Vs},Reps K H vs ps->texts ps=some bs->vs=bs.map V.str
 |_,_,_,.nil,h=>by cases h;rfl
 |_,_,bs,.cons (p:=p) a r,h=>by
  cases p with
  |str b=>
   cases a
   unfold texts at h
   cases e:texts _ with
   |none=>rw[e]at h;cases h
   |some l=>rw[e]at h;cases h;rw[mB r e];rfl
  |_=>cases h
def oj:tQ:=fun x ps S Q=>match x,ps with
 | .str z,[.ref a]=>(match S a with|some (.lst xs)=>(match texts xs with|some ys=>(ys.map (·.length)).sum+ys.length * z.length<=1000000/\Q (.str (Txt.join z ys)) S|none=>False)|_=>False)
 |_,_=>False
def xi:w9 X "str.join" oj:=⟨fun pins s σ H x xs v us Q I rx rs ⟨px,ps,S,Q3,r1,rp,rS,q,k⟩=>by
 unfold oj at q
 split at q
 ·split at q
  ·rename_i e
   split at q
   ·rename_i et
    cases r1
    cases rp with
    |cons b rr=>
     cases rr;cases b
     obtain⟨vs,hv,rl⟩:=rS _ _ e
     have e2:=mB rl et
     subst e2
     exact zA pins s σ H _ _ v us Q I rx rs ⟨_,_,_,rfl,rfl,SqL.of hv,q.1,k _ S _ H q.2 (.str _) rS .refl⟩
   ·exact q.elim
  ·exact q.elim
 ·exact q.elim⟩
def kI:tQ:=fun x ps S Q=>match x,ps with
 | .str a,[.str b]=>(match Builtin.Str.occurrences a b 0 a.length 1 with|i::_=>Q (.int i) S|[]=>False)
 |_,_=>False
def zP:w9 X "str.index" kI:=⟨fun pins s σ H x xs v us Q I rx rs ⟨px,ps,S,Q3,r1,rp,rS,q,k⟩=>by
 unfold kI at q
 split at q
 ·split at q
  ·rename_i e
   cases r1
   cases rp with
   |cons b rr=>
    cases rr;cases b
    exact wx pins s σ H _ _ v us Q I rx rs ⟨_,_,_,_,rfl,rfl,e,k _ S _ H q (.int _) rS .refl⟩
  ·exact q.elim
 ·exact q.elim⟩
end
section
variable {X:Cx} {e c:Expr} {te:aZ} {st:Stmt} {rest a b:List Stmt} {t u:bv} {tc:kw} {pos:Pos}
def aI:bv:=fun D σ S=>D.nx σ S
def ah(t u:bv):bv:=fun D σ S=>t { D with nx:=u D } σ S
def aE:kF X [] aI:=⟨tN yX fun D σ H ⟨σ3,S,D3,rσ,rS,h,xo,n,r,bk,ct⟩=>n σ3 S σ H h rσ rS .refl⟩
def ac(h1:rP X st t)(h2:kF X rest u):kF X (st::rest) (ah t u):=
 ⟨tN (vW h1.ok h2.ok) fun D σ H ⟨σ3,S,D3,rσ,rS,h,xo,n,r,bk,ct⟩=>⟨σ3,S,{ D3 with nx:=u D3 },rσ,rS,h,xo,fun σ4 S' σ' H' h' Nn Kr g=>⟨σ4,S',D3,Nn,Kr,h',xo.mono g,n.mono g,r.mono g,bk.mono g,ct.mono g⟩,r,bk,ct⟩⟩
def ai(h1:rP X st t):kF X [st] t:=⟨yY h1.ok⟩
def zQ:bv:=fun D σ S=>D.ct σ S
def EL:rP X (.Continue pos) zQ:=⟨dI qv fun D σ H ⟨σ3,S,D3,rσ,rS,h,xo,n,r,bk,ct⟩=>ct σ3 S σ H h rσ rS .refl⟩
def bL(te:aZ):bv:=fun D σ S=>te σ S (fun _ S1=>D.nx σ S1) D.ex
def cL(he:bp X e te)(hs:swapsWith e none pos.line X.env=pure false:=by rfl):rP X (.Expr e pos) (bL te):=
 ⟨dI (yZ he.ok hs) fun D σ H ⟨σ3,S,D3,rσ,rS,h,xo,n,r,bk,ct⟩=>⟨σ3,S,_,D3.ex,rσ,rS,h,xo,fun p S1 v H1 h1 rv Hz g1=>n σ3 S1 σ H1 h1 (rσ.mono g1) Hz g1⟩⟩
def ar(te:aZ):bv:=fun D σ S=>te σ S D.rt D.ex
def ao(he:bp X e te):rP X (.Return (some e) pos) (ar te):=
 ⟨dI (BS he.ok) fun D σ H ⟨σ3,S,D3,rσ,rS,h,xo,n,r,bk,ct⟩=>⟨σ3,S,D3.rt,D3.ex,rσ,rS,h,xo,r⟩⟩
def bd(c:kw)(t u:bv):bv:=fun D σ S=>c σ S (fun b S1=>if b=true then t D σ S1 else u D σ S1) D.ex
def aQ(hc:sj X c tc)(ha:kF X a t)(hb:kF X b u):rP X (.If c a b pos) (bd tc t u):=
 ⟨dI (DW hc.ok ha.ok hb.ok) fun D σ H ⟨σ3,S,D3,rσ,rS,h,xo,n,r,bk,ct⟩=>⟨σ3,S,_,D3.ex,rσ,rS,h,xo,fun z S1 H1 h1 Hz g1=>by
  cases z with
  |true=>rw[if_pos rfl]at h1 ⊢;exact⟨σ3,S1,D3,rσ.mono g1,Hz,h1,xo.mono g1,n.mono g1,r.mono g1,bk.mono g1,ct.mono g1⟩
  |false=>rw[if_neg (by decide)]at h1 ⊢;exact⟨σ3,S1,D3,rσ.mono g1,Hz,h1,xo.mono g1,n.mono g1,r.mono g1,bk.mono g1,ct.mono g1⟩⟩⟩
def aq(i:Nat)(te:aZ):bv:=fun D σ S=>te σ S (fun v S1=>D.nx (σ.set i (some v)) S1) D.ex
def xj{i:Nat}{D:rT}{σ:L2.St}{H:Hp}:LS X (aq i te) D σ H->y_ (LE X te) (qw i) D σ H:=fun⟨σ3,S,D3,rσ,rS,h,xo,n,r,bk,ct⟩=>
 ⟨σ3,S,_,D3.ex,rσ,rS,h,xo,fun p S1 v H1 h1 rv Hz g1=>n _ S1 _ H1 h1 ((rσ.mono g1).set rv i) Hz g1⟩
def EM{i:Nat}{x:Str}{pos':Pos}(hN:X.N.Nodup)(hi:X.N[i]?=some x)(hx:AW X.env.scope x)(he:bp X e te)(hs:swapsWith e (some (.Name x pos')) pos.line X.env=pure false:=by rfl)
  (hf:X.fn x=true\/X.env.scope.names.lookup x=some .local:=by first|exact .inl rfl|exact .inr rfl|assumption):rP X (.Assign [.Name x pos'] e pos) (aq i te):=⟨dI (BX hN hi hx he.ok hs hf) fun _ _ _=>xj⟩
def u7(i j:Nat)(ta tb:aZ):bv:=fun D σ S=>ta σ S (fun v S1=>tb σ S1 (fun w S2=>D.nx ((σ.set i (some v)).set j (some w)) S2) D.ex) D.ex
def Ba{i j:Nat}{x y:Str}{a b:Expr}{ta tb:aZ}{px py pt:Pos}{kt k2 N8}(hc:X.calm=true)(hN:X.N.Nodup)(hi:X.N[i]?=some x)(hj:X.N[j]?=some y)(hij:i≠j)
  (hx:X.env.scope.names.lookup x=some .local) (hy:X.env.scope.names.lookup y=some .local) (ha:lv X [a,b] [ta,tb])
  (hw:swappedStores [.Tuple [.Name x px,.Name y py] kt pt] (.Tuple [a,b] k2 N8) X.env=pure (some [x,y]):=by rfl)
  (hs:swapsWithSole [.Tuple [.Name x px,.Name y py] kt pt] (.Tuple [a,b] k2 N8) pos.line X.env=pure false:=by rfl) :
  rP X (.Assign [.Tuple [.Name x px,.Name y py] kt pt] (.Tuple [a,b] k2 N8) pos) (u7 i j ta tb):=
 ⟨dI (BY hc hN hi hj hij hx hy ha.ok hw hs) fun D σ H ⟨σ3,S,D3,rσ,rS,h,xo,n,r,bk,ct⟩=>
  ⟨σ3,S,_,D3.ex,rσ,rS,h,xo,fun v S1 v' H1 h1 rv Hz g1=>⟨σ3,S1,_,D3.ex,rσ.mono g1,Hz,h1,xo.mono g1,fun w S2 w' H2 h2 rw' J4 g2=>
   ⟨v',w',rfl,n _ S2 _ H2 h2 (((rσ.mono (g1.trans g2)).set (rv.mono g2) i).set rw' j) J4 (g1.trans g2)⟩⟩⟩⟩
def mC(i j k:Nat)(te:aZ):bv:=fun D σ S=>te σ S (fun p S1=>match p with | .tup [v,w,u]=>D.nx (((σ.set k (some u)).set j (some w)).set i (some v)) S1|_=>False) D.ex
def zR{i j k:Nat}{x y z:Str}{px py pz pt:Pos}{kt:Nat}(hc:X.calm=true)(hN:X.N.Nodup)(hi:X.N[i]?=some x)(hj:X.N[j]?=some y)(hk:X.N[k]?=some z)
  (hx:X.env.scope.names.lookup x=some .local) (hy:X.env.scope.names.lookup y=some .local) (hz:X.env.scope.names.lookup z=some .local) (he:bp X e te)
  (hw:swappedStores [.Tuple [.Name x px,.Name y py,.Name z pz] kt pt] e X.env=pure (some [x,y,z]):=by rfl)
  (hs:swapsWithSole [.Tuple [.Name x px,.Name y py,.Name z pz] kt pt] e pos.line X.env=pure false:=by rfl):rP X (.Assign [.Tuple [.Name x px,.Name y py,.Name z pz] kt pt] e pos) (mC i j k te):=
 ⟨dI (wy hc hN hi hj hk hx hy hz he.ok hw hs) fun D σ H ⟨σ3,S,D3,rσ,rS,h,xo,n,r,bk,ct⟩=>⟨σ3,S,_,D3.ex,rσ,rS,h,xo,fun p S1 v H1 h1 rv Hz g1=>by
  try dsimp only at h1
  split at h1
  ·cases rv with
   |tup hq rs=>
    cases rs with
    |cons r1 rs=>
     cases rs with
     |cons r2 rs=>
      cases rs with
      |cons r3 rs=>
       cases rs
       exact⟨_,_,_,_,rfl,hq,n _ S1 _ H1 h1 ((((rσ.mono g1).set r3 k).set r2 j).set r1 i) Hz g1⟩
  ·exact h1.elim⟩⟩
inductive Tg where
 |n (i:Nat)|tp (l:Tg)|nil|cons (a r:Tg)
mutual
noncomputable def Tg.put:Tg->PV->cy->Option cy
 | .n i,p,σ=>some (σ.set i (some p))
 | .tp l,.tup xs,σ=>l.Hn xs σ
 |_,_,_=>none
noncomputable def Tg.Hn:Tg->List PV->cy->Option cy
 | .nil,[],σ=>some σ
 | .cons a r,x::xs,σ=>(match a.put x σ with|some σ'=>r.Hn xs σ'|none=>none)
 |_,_,_=>none
end
noncomputable def Tg.len:Tg->Nat
 | .cons _ r=>r.len+1
 |_=>0
mutual
noncomputable def Tg.g2(K:Vo):Tg->TG
 | .n i=>qw i
 | .tp l=>DZ K l.len (l.NR K)
 |_=>fun _ _ _ _=>False
noncomputable def Tg.NR(K:Vo):Tg->AX
 | .nil=>DY
 | .cons a r=>AY (a.g2 K) (r.NR K)
 |_=>fun _ _ _ _=>False
end
noncomputable def Tg.under(own:Nat):Tg->Bool
 | .n i=>decide (i < own)
 | .tp l=>l.under own
 | .nil=>true
 | .cons a r=>a.under own&&r.under own
theorem Tg.HM:∀(g:Tg) {ps:List PV} {σ3 σ4:cy},g.Hn ps σ3=some σ4->ps.length=g.len
 | .nil,ps,σ3,σ4,h=>by
  cases ps with
  |nil=>rfl
  |cons _ _=>unfold Tg.Hn at h;cases h
 | .cons a r,ps,σ3,σ4,h=>by
  cases ps with
  |nil=>unfold Tg.Hn at h;cases h
  |cons x xs=>
   unfold Tg.Hn at h
   split at h
   ·rw[TL,Tg.HM r h];rfl
   ·cases h
 | .n _,ps,σ3,σ4,h=>by unfold Tg.Hn at h;cases h
 | .tp _,ps,σ3,σ4,h=>by unfold Tg.Hn at h;cases h
mutual
theorem Tg.LH{K:Vo}{H:Hp}{own:Nat}:∀(g:Tg) {v:V} {p:PV} {σ:L2.St} {σ3 σ4:cy} {Q:L2.St->Hp->Prop},Rep K H v p->HC K H σ σ3->g.put p σ3=some σ4->(∀σ',HC K H σ' σ4->(g.under own=true->σ'.drop own=σ.drop own)->Q σ' H)->g.g2 K v σ H Q
 | .n i,v,p,σ,σ3,σ4,Q,r,rσ,h,k=>by
  unfold Tg.put at h
  cases h
  unfold Tg.g2
  refine k _ (rσ.set r i) fun hb=>?_
  have hi:i < own:=of_decide_eq_true hb
  rw[List.drop_set]
  rw[if_pos hi]
 | .tp l,v,p,σ,σ3,σ4,Q,r,rσ,h,k=>by
  cases p with
  |tup xs=>
   unfold Tg.put at h
   cases r with
   |tup hq rs=>
    have hg:=Tg.MC (own:=own) l rs rσ h k
    unfold Tg.g2
    exact⟨_,_,rfl,hq,rs.length.trans (Tg.HM l h),hg⟩
  |_=>unfold Tg.put at h;cases h
 | .nil,v,p,σ,σ3,σ4,Q,r,rσ,h,k=>by unfold Tg.put at h;cases h
 | .cons _ _,v,p,σ,σ3,σ4,Q,r,rσ,h,k=>by unfold Tg.put at h;cases h
theorem Tg.MC{K:Vo}{H:Hp}{own:Nat}:∀(g:Tg) {vs:List V} {ps:List PV} {σ:L2.St} {σ3 σ4:cy} {Q:L2.St->Hp->Prop},Reps K H vs ps->HC K H σ σ3->g.Hn ps σ3=some σ4->(∀σ',HC K H σ' σ4->(g.under own=true->σ'.drop own=σ.drop own)->Q σ' H)->g.NR K vs σ H Q
 | .nil,vs,ps,σ,σ3,σ4,Q,r,rσ,h,k=>by
  cases ps with
  |nil=>
   unfold Tg.Hn at h
   cases h
   cases r
   unfold Tg.NR
   exact⟨rfl,k _ rσ fun _=>rfl⟩
  |cons _ _=>unfold Tg.Hn at h;cases h
 | .cons a r',vs,ps,σ,σ3,σ4,Q,r,rσ,h,k=>by
  cases ps with
  |nil=>unfold Tg.Hn at h;cases h
  |cons x xs=>
   unfold Tg.Hn at h
   split at h
   ·rename_i σ5 e5
    cases r with
    |cons r1 r2=>
     unfold Tg.NR
     refine⟨_,_,rfl,Tg.LH (own:=own) a r1 rσ e5 fun σ' Nn d1=>Tg.MC (own:=own) r' r2 Nn h fun Se Qw d2=>k Se Qw fun hb=>?_⟩
     have hb':a.under own=true/\r'.under own=true:=by simpa [Tg.under]using hb
     rw[d2 hb'.2,d1 hb'.1]
   ·cases h
 | .n _,vs,ps,σ,σ3,σ4,Q,r,rσ,h,k=>by unfold Tg.Hn at h;cases h
 | .tp _,vs,ps,σ,σ3,σ4,Q,r,rσ,h,k=>by unfold Tg.Hn at h;cases h
end
structure yS (X:Cx) (e:Expr) (g:Tg):Prop where
 ok:PG X e (g.g2 X.K)
structure zS (X:Cx) (es:List Expr) (g:Tg):Prop where
 ok:DX X es (g.NR X.K)
 len:(assignEach es X.env).length=g.len
def G6(i:Nat){x:Str}(hN:X.N.Nodup)(hi:X.N[i]?=some x)(hx:AW X.env.scope x)(hf:X.fn x=true\/X.env.scope.names.lookup x=some .local:=by first|exact .inl rfl|exact .inr rfl|assumption):yS X (.Name x pos) (.n i):=⟨by
 have h:=y8 (pos:=pos) hN hi hx hf
 unfold Tg.g2
 exact h⟩
def gJ:zS X [] .nil:=⟨by unfold Tg.NR;exact y9,rfl⟩
def bo{es:List Expr}{a r:Tg}(h1:yS X e a)(h2:zS X es r)(hs:(assignEach (e::es) X.env).map (·.2)=assign e X.env::(assignEach es X.env).map (·.2):=by rfl)(hl:(assignEach (e::es) X.env).length=(assignEach es X.env).length+1:=by rfl):zS X (e::es) (.cons a r):=
 ⟨by unfold Tg.NR;exact vX h1.ok h2.ok hs,by rw[hl,h2.len];rfl⟩
def vP{es:List Expr}{k:Nat}{l:Tg}(hc:X.calm=true)(h:zS X es l)(hst:(assignEach es X.env).findIdx? (·.1)=none:=by rfl):yS X (.Tuple es k pos) (.tp l):=⟨by
 have h:=BV (pos:=pos) (k:=k) hc h.ok h.len hst
 unfold Tg.g2
 exact h⟩
def qH(te:aZ)(g:Tg):bv:=fun D σ S=>te σ S (fun v S1=>match g.put v σ with|some σ'=>D.nx σ' S1|none=>False) D.ex
def Bb{tg:Expr}{g:Tg}(he:bp X e te)(hg:yS X tg g)(hs:swapsWithSole [tg] e pos.line X.env=pure false:=by rfl)(hw:swappedStores [tg] e X.env=pure none:=by rfl)
  (h1:(assignEach [tg] X.env).map (·.2)=[assign tg X.env]:=by rfl):rP X (.Assign [tg] e pos) (qH te g):=
 ⟨dI (vY he.ok hg.ok hs hw h1) fun D σ H ⟨σ3,S,D3,rσ,rS,h,xo,n,r,bk,ct⟩=>⟨σ3,S,_,D3.ex,rσ,rS,h,xo,fun p S1 v H1 h1 rv Hz g1=>by
  try dsimp only at h1
  split at h1
  ·rename_i σ' e'
   exact Tg.LH (own:=0) g rv (rσ.mono g1) e' fun σ2 Sf _=>n _ S1 _ H1 h1 Sf Hz g1
  ·exact h1.elim⟩⟩
end
noncomputable def kJ{κ:Type} [DecidableEq κ](kvs:List (κ×PV))(k:κ)(v:PV):List (κ×PV):=
 if (kvs.any fun kv=>decide (kv.1=k))=true then kvs.map (fun kv=>if kv.1=k then (kv.1,v) else kv) else kvs++[(k,v)]
theorem HP.append{K:Vo}{H:Hp}{κ:Type}:∀{vs us:List (κ×V)} {ps qs:List (κ×PV)},HP K H vs ps->HP K H us qs->HP K H (vs++us) (ps++qs)
 |_,_,_,_,.nil,s=>s
 |_,_,_,_,.cons a r,s=>.cons a (HP.append r s)
def HP.put{K:Vo}{H:Hp}{κ:Type} [DecidableEq κ]{k:κ}{v:V}{p:PV}(q:Rep K H v p){vs:List (κ×V)}{ps:List (κ×PV)}(r:HP K H vs ps):HP K H (gT vs k v) (kJ ps k p):=by
 have e:(vs.any fun kv=>decide (kv.1=k))=(ps.any fun kv=>decide (kv.1=k)):=by rw[me,r.any]
 unfold gT kJ
 rw[e]
 split
 ·clear e
  rename_i h
  clear h
  induction r with
  |nil=>exact .nil
  |@cons k' v' p' vs' ps' a r ih=>
   rw[TQ,TQ]
   by_cases z:k'=k
   ·rw[if_pos z,if_pos z];exact .cons q ih
   ·rw[if_neg z,if_neg z];exact .cons a ih
 ·exact r.append (.cons q .nil)
def jv(o i v:PV)(S:az)(Q:az->Prop):Prop:=match o with
 | .ref a=>(match S a with
  |some (.lst xs)=>(match i with | .int k=>(match uH xs.length k with|some j=>Q (Hk S a (.lst (xs.set j v)))|none=>False)|_=>False)
  |some (.dct kvs)=>(match i5 i with|some k=>kvs.length < sizeLine/\Q (Hk S a (.dct (kJ kvs k v)))|none=>False)
  |_=>False)
 |_=>False
section
variable {X:Cx} {e o i:Expr} {te to ti:aZ} {pos pos':Pos}
noncomputable def Gh(X:Cx):V->V->V->Hp->(Hp->Prop)->Prop:=fun o i v H Q=>∃po pi pv S Q3,Rep X.K H o po/\Rep X.K H i pi/\Rep X.K H v pv/\Ht X.K H S/\jv po pi pv S Q3/\∀S' H',Q3 S'->Ht X.K H' S'->Grow X.K H H'->Q H'
def CI(hu:X.A.units+1 < cLine):y3 X (Gh X):=by
 intro pins s σ H o i v ov iv u Q I ro ri rv ⟨po,pi,pv,S,Q3,r1,r2,r3,rS,q,k⟩
 unfold jv at q
 split at q
 ·split at q
  ·rename_i e
   split at q
   ·split at q
    ·rename_i ej
     cases r1;cases r2
     obtain⟨vs,hv,rl⟩:=rS _ _ e
     rw[<-rl.length]at ej
     exact we pins s σ H _ _ _ ov iv u Q I ro ri rv ⟨_,_,_,_,rfl,rfl,hv,ej,k _ _ q (rS.put hv trivial ⟨_,aH,((rl.set r3 _).mono (.mut hv trivial))⟩) (.mut hv trivial)⟩
    ·exact q.elim
   ·exact q.elim
  ·rename_i e
   split at q
   ·rename_i ek
    cases r1
    have e1:=cW r2 ek
    subst e1
    obtain⟨kv,hv,rk⟩:=rS _ _ e
    exact wT hu pins s σ H _ _ _ ov iv u Q I ro ri rv ⟨_,_,rfl,M0.k hv (by rw[rk.length];exact q.1),k _ _ q.2 (rS.put hv trivial ⟨_,aH,(rk.put r3).mono (.mut hv trivial)⟩) (.mut hv trivial)⟩
   ·exact q.elim
  ·exact q.elim
 ·exact q.elim
def kK(te to ti:aZ):bv:=fun D σ S=>te σ S (fun v S1=>to σ S1 (fun o S2=>ti σ S2 (fun i S3=>jv o i v S3 (fun S4=>D.nx σ S4)) D.ex) D.ex) D.ex
def om(hu:X.A.units+1 < cLine)(he:bp X e te)(ho:bp X o to)(hi:bp X i ti)
  (ha:∀v,assign (.Subscript o i pos') X.env v=(do
   let ov <-holding [v] (eval o X.env)
   let iv <-holding [v,ov] (eval i X.env)
   standAt pos'
   holding [v,ov,iv] (setItem ov iv v)
   release [v,ov,iv] []):=by intro _;rfl)
  (hs:swapsWithSole [.Subscript o i pos'] e pos.line X.env=pure false:=by rfl) (hw:swappedStores [.Subscript o i pos'] e X.env=pure none:=by rfl)
  (h1:(assignEach [.Subscript o i pos'] X.env).map (·.2)=[assign (.Subscript o i pos') X.env]:=by rfl):rP X (.Assign [.Subscript o i pos'] e pos) (kK te to ti):=
 ⟨dI (vY he.ok (BW ho.ok hi.ok (CI hu) ha) hs hw h1) fun D σ H ⟨σ3,S,D3,rσ,rS,h,xo,n,r,bk,ct⟩=>⟨σ3,S,_,D3.ex,rσ,rS,h,xo,fun v S1 v' H1 h1 rv Hz g1=>
  ⟨σ3,S1,_,D3.ex,rσ.mono g1,Hz,h1,xo.mono g1,fun o S2 o' H2 h2 ro J4 g2=>⟨σ3,S2,_,D3.ex,rσ.mono (g1.trans g2),J4,h2,xo.mono (g1.trans g2),fun i S3 i' H3 h3 ri MI g3=>
   ⟨o,i,v,S3,_,ro.mono g3,ri,rv.mono (g2.trans g3),MI,h3,fun S4 H4 h4 Sg g4=>n _ S4 _ H4 h4 (rσ.mono (g1.trans (g2.trans (g3.trans g4)))) Sg (g1.trans (g2.trans (g3.trans g4)))⟩⟩⟩⟩⟩
end
end L3
namespace L2
open PySem PySem.Spec PyProof.Rows
section
variable {X:Cx} {tg:Expr}
def Gi(K:Vo)(tl:TE):TI:=fun σ H R=>tl σ H fun x H1=>(∃a,x = .ref a/\(∃xs,SqL K H1 a xs)/\R (Fx K a) H1)\/(∃a,x = .ref a/\(∃xs,SqT K H1 a xs)/\R (FV K a) H1)\/∃z,x = .str z/\R (F9 z) H1
def CJ{l:Expr}{tl:TE}(hl:PE X l tl):PI X tg l (Gi X.K tl):=by
 intro pins s σ H R I h
 refine Ho (hl pins s σ H _ I h) fun v s1 ⟨x,H1,I1,r1,q1⟩=>?_
 rcases q1 with⟨a,e,⟨xs,hq⟩,q⟩|⟨a,e,⟨xs,hq⟩,q⟩|⟨z,e,q⟩
 ·subst e
  cases r1
  obtain⟨its,rv,p,hz⟩:=I1.list hq
  refine Ul p.isList ?_
  refine⟨s1.heap.objs.size,[s1.heap.objs.size],_,_,H1,rfl,I1.kept (t':=s1.toks) fun b o e=>Td _ e,uA a _,⟨_,Tn _ rfl,rfl,rfl⟩,fun b hb=>?_,q⟩
  have e:b=s1.heap.objs.size:=by simpa using hb
  subst e
  exact I1.Ku (Tq _) (I1.hok.fresh (Tq _))
 ·subst e
  cases r1
  obtain⟨its,rv,p,hz⟩:=I1.tuple hq
  refine Um (show s1.heap.IsTuple a its.toArray from p) ?_
  refine⟨s1.heap.objs.size,[s1.heap.objs.size],_,_,H1,rfl,I1.kept (t':=s1.toks) fun b o e=>Td _ e,rV a _,⟨_,Tn _ rfl,rfl,rfl⟩,fun b hb=>?_,q⟩
  have e:b=s1.heap.objs.size:=by simpa using hb
  subst e
  exact I1.Ku (Tq _) (I1.hok.fresh (Tq _))
 ·subst e
  obtain⟨t,rfl⟩:=r1
  have fin:∀ty,(ty = "str_ascii_iterator" \/ ty = "str_iterator")->FU X pins σ tg R (.ref s1.heap.objs.size) { s1 with heap:=s1.heap.push { cls:=.type ty,data:=.fields #[.str z t,.int 0 0] } }:=fun ty hty=>by
   refine⟨s1.heap.objs.size,[s1.heap.objs.size],_,_,H1,rfl,I1.kept (t':=s1.toks) fun b o e=>Td _ e,ww hty _ z t,⟨Ug _,_,Tn _ rfl,rfl,rfl⟩,fun b hb=>?_,q⟩
   have e:b=s1.heap.objs.size:=by simpa using hb
   subst e
   exact I1.Ku (Tq _) (I1.hok.fresh (Tq _))
  cases ha:z.cps.all (· < 128)
  ·exact wpAny_pyIter_wide ha (fin _ (.inr rfl))
  ·exact wpAny_pyIter_ascii ha (fin _ (.inl rfl))
def CK(K:Vo)(ta:TA):TI:=fun σ H R=>ta σ H fun vs H1=>∃a,vs=[.ref a]/\(((∃xs,SqL K H1 a xs)/\R (Gc K a) H1)\/((∃xs,SqT K H1 a xs)/\R (Gd K a) H1))
def xq{elts:List Expr}{k0:Nat}{Jw:Pos}{a:Expr}{ta:TA}{p pos:Pos}(hg:Gl X "enumerate")(hm:X.mg "enumerate" = none)(hv:bootBuiltins "enumerate" = some (.type "enumerate"))(ha:PA X [a] ta)
  (hs:starEach [a] X.env=[(false,eval a X.env)]:=by rfl):PI X (.Tuple elts k0 Jw) (.Call (.Name "enumerate" p) [a] [] pos) (CK X.K ta):=by
 intro pins s σ H R I h
 refine Call_ (dH I hg hm hv (Uk (Ho (ha pos pins s σ H _ I h) fun us s1 ⟨vs,H1,I1,r1,q1⟩=>?_) hs rfl))
 obtain⟨a,e,q⟩:=q1
 subst e
 obtain⟨u,rfl,ru⟩:=cV r1
 cases ru
 rcases q with⟨⟨xs,qa⟩,q⟩|⟨⟨xs,qa⟩,q⟩
 ·obtain⟨ia,ra,pa,za⟩:=I1.list qa
  refine call_enumerate_list pa.isList fun g ge g1 gz kk=>?_
  refine W2 (s:={ s1 with heap:=g }) ge ?_
  refine⟨_,[s1.heap.objs.size+1,s1.heap.objs.size],_,_,H1,rfl,I1.kept (t':=s1.toks) kk,uU (Nat.succ_ne_self _),⟨⟨_,ge⟩,g1⟩,fun c hc=>?_,q⟩
  have hle:s1.heap.objs.size<=c:=by
   simp only[Th,TJ,Uq]at hc
   rcases hc with rfl|rfl
   ·exact UI _ _
   ·exact Tq _
  exact I1.Ku hle (I1.hok.fresh hle)
 ·obtain⟨ia,ra,pa,za⟩:=I1.tuple qa
  have la:a < s1.heap.objs.size:=by obtain⟨o,e,_⟩:=pa;exact To e
  refine Et.gV (show s1.heap.IsTuple a ia.toArray from pa) fun g ge g1 kk=>?_
  refine W2 (s:={ s1 with heap:=g }) ge ?_
  refine⟨_,[s1.heap.objs.size+1,s1.heap.objs.size],_,_,H1,rfl,I1.kept (t':=s1.toks) kk,sg (Nat.succ_ne_self _) (TM (UK la)) (TM la),⟨⟨_,ge⟩,g1⟩,fun c hc=>?_,q⟩
  have hle:s1.heap.objs.size<=c:=by
   simp only[Th,TJ,Uq]at hc
   rcases hc with rfl|rfl
   ·exact UI _ _
   ·exact Tq _
  exact I1.Ku hle (I1.hok.fresh hle)
end
end L2
namespace L3
open PySem L2
structure Gj where
 items:List PV
 keep:az->Prop
def gY(K:Vo)(H0:Hp)(J:It)(src:Gj):Prop:=∀(i:Nat) (S:az) (H:Hp),Grow K H0 H->Ht K H S->src.keep S->
 (∀p,src.items[i]?=some p->J.go i H/\∀x H',J.Pv i H x H'->Rep K H' x p/\Ht K H' S/\Grow K H H')/\(i=src.items.length->J.stop i H)
abbrev tR:=cy->az->(Gj->az->Prop)->bJ->Prop
inductive LI (X:Cx) (t:tR) (σ:L2.St) (H:Hp) (R:It->Hp->Prop):Prop
 |mk (σ3 S R3 E3) (rσ:HC X.K H σ σ3) (rS:Ht X.K H S) (h:t σ3 S R3 E3) (xo:MT X H E3) (k:∀src S' J H',R3 src S'->gY X.K H' J src->Ht X.K H' S'->Grow X.K H H'->R J H'):LI X t σ H R
structure vQ (X:Cx) (tg iter:Expr) (t:tR):Prop where
 ok:PI X tg iter (LI X t)
def jx{X:Cx}{tg iter:Expr}{t t':TI}(h:PI X tg iter t)(k:∀σ H R,t' σ H R->t σ H R):PI X tg iter t':=fun pins s σ H R I q=>h pins s σ H R I (k σ H R q)
section
variable {X:Cx} {e tg:Expr} {es:List Expr} {te:aZ} {ts:List aZ} {p pos:Pos}
noncomputable def bu(S:az):PV->Option Gj
 | .tup xs=>some ⟨xs,fun _=>True⟩
 | .cl xs=>some ⟨xs,fun _=>True⟩
 | .str z=>some ⟨z.cps.toList.map fun c=>.str (kC c),fun _=>True⟩
 | .ref a=>(match S a with|some (.lst xs)=>some ⟨xs,fun S'=>S' a=some (.lst xs)⟩|_=>none)
 |_=>none
def aF(te:aZ):tR:=fun σ S R E=>te σ S (fun v S1=>match bu S1 v with|some src=>R src S1|none=>False) E
end
section
variable {X:Cx} {e tg a b:Expr} {es:List Expr} {te ta tb:aZ} {ts:List aZ} {p pos:Pos}
def xu{K:Vo}{H0:Hp}{a:Addr}{xs:List PV}:gY K H0 (Fx K a) ⟨xs,fun S'=>S' a=some (.lst xs)⟩:=by
 intro i S H g rS hk
 obtain⟨vs,hv,rs⟩:=rS a _ hk
 refine⟨fun p hp=>?_,fun hi=>⟨vs,SqL.of hv,by rw[rs.length,hi];exact Tq _⟩⟩
 obtain⟨v,hx,rv⟩:=rs.get hp
 refine⟨⟨vs,v,SqL.of hv,hx⟩,fun x H' ⟨e,h⟩=>?_⟩
 subst e
 have:=h vs (SqL.of hv)
 rw[hx]at this
 cases this
 exact⟨rv,rS,.refl⟩
def zT{K:Vo}{H0:Hp}{a:Addr}{vs:List V}{xs:List PV}(h:SqT K H0 a vs)(rs:Reps K H0 vs xs):gY K H0 (FV K a) ⟨xs,fun _=>True⟩:=by
 intro i S H g rS _
 have hv:=g.t _ _ h
 refine⟨fun p hp=>?_,fun hi=>⟨vs,hv,by rw[rs.length,hi];exact Tq _⟩⟩
 obtain⟨v,hx,rv⟩:=rs.get hp
 refine⟨⟨vs,v,hv,hx⟩,fun x H' ⟨e,h⟩=>?_⟩
 subst e
 have:=h vs hv
 rw[hx]at this
 cases this
 exact⟨rv.mono g,rS,.refl⟩
def CL{K:Vo}{H0:Hp}{a:Addr}{vs:List V}{xs:List PV}(h:OC K H0 a vs)(rs:Reps K H0 vs xs):gY K H0 (Fx K a) ⟨xs,fun _=>True⟩:=by
 intro i S H g rS _
 have hv:=(g.c _ _ h).sq
 refine⟨fun p hp=>?_,fun hi=>⟨vs,hv,by rw[rs.length,hi];exact Tq _⟩⟩
 obtain⟨v,hx,rv⟩:=rs.get hp
 refine⟨⟨vs,v,hv,hx⟩,fun x H' ⟨e,h⟩=>?_⟩
 subst e
 have:=h vs hv
 rw[hx]at this
 cases this
 exact⟨rv.mono g,rS,.refl⟩
def zU{K:Vo}{H0:Hp}{z:Str}:gY K H0 (F9 z) ⟨z.cps.toList.map fun c=>.str (kC c),fun _=>True⟩:=by
 intro i S H g rS _
 refine⟨fun p hp=>?_,fun hi=>by show z.cps.size<=i;rw[hi,Ti,UH];exact Tq _⟩
 rw[Tv]at hp
 cases hc:z.cps.toList[i]? with
 |none=>rw[hc]at hp;cases hp
 |some c=>
  rw[hc]at hp
  cases hp
  have hc':z.cps[i]?=some c:=by simpa using hc
  refine⟨?_,fun x H' ⟨e,c',h1,h2⟩=>?_⟩
  ·show i < z.cps.size
   by_cases hi:i < z.cps.size
   ·exact hi
   ·rw[UX (by omega)]at hc';cases hc'
  ·subst e
   rw[hc']at h1
   cases h1
   subst h2
   exact⟨.str _,rS,.refl⟩
def bm(he:bp X e te):vQ X tg e (aF te):=⟨jx (CJ he.ok) fun σ H R ⟨σ3,S,R3,E3,rσ,rS,h,xo,k⟩=>⟨σ3,S,_,E3,rσ,rS,h,xo,fun v S1 v' H1 h1 rv Hz g1=>by
 split at h1
 ·rename_i src hs
  unfold bu at hs
  split at hs
  ·cases hs
   cases rv with
   |tup hq rs=>exact .inr (.inl ⟨_,rfl,⟨_,hq⟩,k _ S1 _ H1 h1 (zT hq rs) Hz g1⟩)
  ·cases hs
   cases rv with
   |cl hq rs=>exact .inl ⟨_,rfl,⟨_,hq.sq⟩,k _ S1 _ H1 h1 (CL hq rs) Hz g1⟩
  ·cases hs
   cases rv
   exact .inr (.inr ⟨_,rfl,k _ S1 _ H1 h1 zU Hz g1⟩)
  ·cases rv
   split at hs
   ·rename_i ea
    cases hs
    obtain⟨vs,hv,rs⟩:=Hz _ _ ea
    exact .inl ⟨_,rfl,⟨_,SqL.of hv⟩,k _ S1 _ H1 h1 xu Hz g1⟩
   ·cases hs
  ·cases hs
 ·exact h1.elim⟩⟩
noncomputable def bR(lo:Int)(n:Nat):List PV:=(List.range n).map fun(i:Nat)=>PV.int (lo+i)
def u8{K:Vo}{H0:Hp}{lo:Int}{n:Nat}:gY K H0 (Fy lo n) ⟨bR lo n,fun _=>True⟩:=by
 intro i S H g rS _
 refine⟨fun p hp=>?_,fun hi=>by show n<=i;rw[hi];simp[bR]⟩
 unfold bR at hp
 rw[Tv]at hp
 by_cases hi:i < n
 ·rw[Xm hi]at hp
  cases hp
  refine⟨hi,fun x H' ⟨e,h⟩=>?_⟩
  subst e h
  exact⟨.int _,rS,.refl⟩
 ·rw[Uy (by simpa using hi)]at hp
  cases hp
def jy(ta:aZ):tR:=fun σ S R E=>ta σ S (fun v S1=>match v with | .int j=>-(2 ^ 62)<=j/\j < 2 ^ 62/\R ⟨bR 0 j.toNat,fun _=>True⟩ S1|_=>False) E
def ee(hs:starEach [a] X.env=[(false,eval a X.env)])(hg:Gl X "range")(hm:X.mg "range" = none)(ha:lv X [a] [ta]):vQ X tg (.Call (.Name "range" p) [a] [] pos) (jy ta):=
 ⟨jx (uB hg hm ha.ok hs) fun σ H R ⟨σ3,S,R3,E3,rσ,rS,h,xo,k⟩=>⟨σ3,S,_,E3,rσ,rS,h,xo,fun v S1 v' H1 h1 rv Hz g1=>by
  split at h1
  ·cases rv
   exact⟨_,rfl,h1.1,h1.2.1,k _ S1 _ H1 h1.2.2 u8 Hz g1⟩
  ·exact h1.elim⟩⟩
noncomputable def bc(xs:List PV):List PV:=xs.mapIdx fun i x=>.tup [.int i,x]
def u9{K:Vo}{H0:Hp}{a:Addr}{xs:List PV}:gY K H0 (Gc K a) ⟨bc xs,fun S'=>S' a=some (.lst xs)⟩:=by
 intro i S H g rS hk
 obtain⟨vs,hv,rs⟩:=rS a _ hk
 refine⟨fun p hp=>?_,fun hi=>⟨vs,SqL.of hv,by rw[rs.length,hi];simp[bc]⟩⟩
 unfold bc at hp
 rw[Wj]at hp
 cases hx:xs[i]? with
 |none=>rw[hx]at hp;cases hp
 |some y=>
  rw[hx]at hp
  cases hp
  obtain⟨v,hx',rv⟩:=rs.get hx
  refine⟨⟨vs,v,SqL.of hv,hx'⟩,fun x H' ⟨q,x2,e1,hq,e2,h⟩=>?_⟩
  subst e1 e2
  have:=h vs (SqL.of hv)
  rw[hx']at this
  cases this
  exact⟨.tup (SqT.of aH) (.cons (.int _) (.cons (rv.mono (.new hq)) .nil)),rS.other hq,.new hq⟩
def u_{K:Vo}{H0:Hp}{a:Addr}{vs:List V}{xs:List PV}(h0:SqT K H0 a vs)(rs:Reps K H0 vs xs):gY K H0 (Gd K a) ⟨bc xs,fun _=>True⟩:=by
 intro i S H g rS _
 have hv:=g.t _ _ h0
 refine⟨fun p hp=>?_,fun hi=>⟨vs,hv,by rw[rs.length,hi];simp[bc]⟩⟩
 unfold bc at hp
 rw[Wj]at hp
 cases hx:xs[i]? with
 |none=>rw[hx]at hp;cases hp
 |some y=>
  rw[hx]at hp
  cases hp
  obtain⟨v,hx',rv⟩:=rs.get hx
  refine⟨⟨vs,v,hv,hx'⟩,fun x H' ⟨q,x2,e1,hq,e2,h⟩=>?_⟩
  subst e1 e2
  have:=h vs hv
  rw[hx']at this
  cases this
  exact⟨.tup (SqT.of aH) (.cons (.int _) (.cons ((rv.mono g).mono (.new hq)) .nil)),rS.other hq,.new hq⟩
def gZ(ta:aZ):tR:=fun σ S R E=>ta σ S (fun v S1=>match v with
 | .tup xs=>R ⟨bc xs,fun _=>True⟩ S1
 | .ref a=>(match S1 a with|some (.lst xs)=>R ⟨bc xs,fun S'=>S' a=some (.lst xs)⟩ S1|_=>False)
 |_=>False) E
def o8{elts:List Expr}{k0:Nat}{Jw:Pos}(hs:starEach [a] X.env=[(false,eval a X.env)])(hg:Gl X "enumerate")(hm:X.mg "enumerate" = none)(hv:bootBuiltins "enumerate" = some (.type "enumerate"))(ha:lv X [a] [ta]):vQ X (.Tuple elts k0 Jw) (.Call (.Name "enumerate" p) [a] [] pos) (gZ ta):=
 ⟨jx (xq hg hm hv ha.ok hs) fun σ H R ⟨σ3,S,R3,E3,rσ,rS,h,xo,k⟩=>⟨σ3,S,_,E3,rσ,rS,h,xo,fun v S1 v' H1 h1 rv Hz g1=>by
  split at h1
  ·cases rv with
   |tup hq rs=>exact⟨_,rfl,.inr ⟨⟨_,hq⟩,k _ S1 _ H1 h1 (u_ hq rs) Hz g1⟩⟩
  ·cases rv
   split at h1
   ·rename_i ea
    obtain⟨vs,hv,rs⟩:=Hz _ _ ea
    exact⟨_,rfl,.inl ⟨⟨_,SqL.of hv⟩,k _ S1 _ H1 h1 u9 Hz g1⟩⟩
   ·exact h1.elim
  ·exact h1.elim⟩⟩
noncomputable def cZ(xs ys:List PV):List PV:=(xs.zip ys).map fun z=>.tup [z.1,z.2]
def MJ(K:Vo)(H0:Hp)(ka:Bool)(a:Addr)(xs:List PV)(keep:az->Prop):Prop:=∀S H,Grow K H0 H->Ht K H S->keep S->∃vs,ml ka K H a vs/\Reps K H vs xs
def MJ.tup{K:Vo}{H0:Hp}{a:Addr}{vs:List V}{xs:List PV}{keep:az->Prop}(h:SqT K H0 a vs)(r:Reps K H0 vs xs):MJ K H0 false a xs keep:=fun _ _ g _ _=>⟨vs,g.t _ _ h,r.mono g⟩
theorem MJ.lst{K:Vo}{H0:Hp}{a:Addr}{xs:List PV}{keep:az->Prop}(h:∀S,keep S->S a=some (.lst xs)):MJ K H0 true a xs keep:=fun S _ _ rS k=>let ⟨vs,hv,r⟩:=rS _ _ (h S k);⟨vs,SqL.of hv,r⟩
def jY{K:Vo}{H0:Hp}{ka kb:Bool}{a b:Addr}{xs ys:List PV}{keep:az->Prop}(h1:MJ K H0 ka a xs keep)(h2:MJ K H0 kb b ys keep):gY K H0 (Ga ka kb K a b) ⟨cZ xs ys,keep⟩:=by
 intro i S H g rS kp
 obtain⟨vs,hv,r1⟩:=h1 S H g rS kp
 obtain⟨us,hu,r2⟩:=h2 S H g rS kp
 have l1:=r1.length
 have l2:=r2.length
 refine⟨fun p hp=>?_,fun hi=>⟨vs,us,hv,hu,?_⟩⟩
 ·unfold cZ at hp
  rw[Tv]at hp
  cases hz:(xs.zip ys)[i]? with
  |none=>rw[hz]at hp;cases hp
  |some z=>
   rw[hz]at hp
   cases hp
   obtain⟨e1,e2⟩:=Ut.mp hz
   obtain⟨v,hx',rv⟩:=r1.get e1
   obtain⟨u,hy',ru⟩:=r2.get e2
   refine⟨⟨vs,us,v,u,hv,hu,hx',hy'⟩,fun x H' ⟨q,x2,y2,e3,hq,e4,h⟩=>?_⟩
   subst e3 e4
   obtain⟨k1,k2⟩:=h vs us hv hu
   rw[hx']at k1
   rw[hy']at k2
   cases k1;cases k2
   exact⟨.tup (SqT.of aH) (.cons (rv.mono (.new hq)) (.cons (ru.mono (.new hq)) .nil)),rS.other hq,.new hq⟩
 ·have e:(cZ xs ys).length=min xs.length ys.length:=by simp[cZ]
  rw[e]at hi
  by_cases hle:xs.length<=ys.length
  ·exact .inl (by omega)
  ·exact .inr (by omega)
def va(ta tb:aZ):tR:=fun σ S R E=>ta σ S (fun v S1=>tb σ S1 (fun w S2=>match v,w with
 | .tup xs,.tup ys=>R ⟨cZ xs ys,fun _=>True⟩ S2
 |_,_=>False) E) E
def EN{elts:List Expr}{k0:Nat}{Jw:Pos}(hs:starEach [a,b] X.env=[(false,eval a X.env),(false,eval b X.env)])(hs2:starEach [b] X.env=[(false,eval b X.env)])(hg:Gl X "zip")(hm:X.mg "zip" = none)(hv:bootBuiltins "zip" = some (.type "zip"))(ha:lv X [a,b] [ta,tb]) :
  vQ X (.Tuple elts k0 Jw) (.Call (.Name "zip" p) [a,b] [] pos) (va ta tb):=
 ⟨jx (wB hg hm hv ha.ok hs hs2) fun σ H R ⟨σ3,S,R3,E3,rσ,rS,h,xo,k⟩=>⟨σ3,S,_,E3,rσ,rS,h,xo,fun v S1 v' H1 h1 rv Hz g1=>⟨σ3,S1,_,E3,rσ.mono g1,Hz,h1,xo.mono g1,fun w S2 w' H2 h2 rw' J4 g2=>by
  split at h2
  ·cases rv with
   |tup hq rs=>
    cases rw' with
    |tup hq2 Oh=>exact⟨false,false,_,_,rfl,⟨_,g2.t _ _ hq⟩,⟨_,hq2⟩,k _ S2 _ H2 h2 (jY (.tup (g2.t _ _ hq) (rs.mono g2)) (.tup hq2 Oh)) J4 (g1.trans g2)⟩
  ·exact h2.elim⟩⟩⟩
end
section
variable {X:Cx} {iter tg c:Expr} {body:List Stmt} {ti:tR} {g:Tg} {tb:bv} {tc:kw} {pos:Pos}
noncomputable def o9(g:Tg)(tb:bv)(D:jW)(keep:az->Prop):List PV->cy->az->Prop
 |[],σ,S=>keep S/\D.nx σ S
 |x::r,σ,S=>keep S/\match g.put x σ with|some σ'=>tb { D with nx:=o9 g tb D keep r,ct:=o9 g tb D keep r,bk:=D.nx } σ' S|none=>False
def b_(ti:tR)(g:Tg)(tb:bv):bv:=fun D σ S=>ti σ S (fun src S1=>o9 g tb D src.keep src.items σ S1) D.ex
def dR(hp:PassesOwn (model X.prog X.w) X.A X.env X.xe)(hc:X.calm=true)(hi:vQ X tg iter ti)(hg:yS X tg g)(hb:kF X body tb)(hs:∀x,foldedSetIterable iter X.env x=pure x:=by intro _;rfl):rP X (.For tg iter body [] pos) (b_ ti g tb):=
 ⟨dI (B1 hp hc hi.ok hg.ok hb.ok hs) fun D σ H ⟨σ3,S,D3,rσ,rS,h,xo,n,r,bk,ct⟩=>⟨σ3,S,_,D3.ex,rσ,rS,h,xo,fun src S1 J H1 h1 sim Hz g1=>by
  refine⟨fun i m σ' H'=>i+m=src.items.length/\∃σ4 S',HC X.K H' σ' σ4/\Ht X.K H' S'/\Grow X.K H1 H'/\o9 g tb D3 src.keep (src.items.drop i) σ4 S',⟨src.items.length,Xo _,σ3,S1,rσ.mono g1,Hz,.refl,by simpa using h1⟩,?_⟩
  rintro i m σ' H' ⟨hm,σ4,S',Nn,Kr,g',hw⟩
  cases hd:src.items.drop i with
  |nil=>
   rw[hd]at hw
   have hi:i=src.items.length:=by
    have:=Uu List.length hd
    rw[Vh,Vt]at this
    omega
   exact .inl ⟨(sim i S' H' g' Kr hw.1).2 hi,n _ S' _ H' hw.2 Nn Kr (g1.trans g')⟩
  |cons x rest=>
   rw[hd]at hw
   have hx:src.items[i]?=some x:=by
    have:=Uu (fun l=>l[0]?) hd
    simpa using this
   have hrest:src.items.drop (i+1)=rest:=by
    have:=Uu List.tail hd
    simpa [List.tail_drop]using this
   have hlt:i < src.items.length:=by
    by_cases z:i < src.items.length
    ·exact z
    ·rw[Uy (by omega)]at hx;cases hx
   obtain⟨go,yl⟩:=(sim i S' H' g' Kr hw.1).1 x hx
   refine .inr ⟨go,fun σ5 H5=>∃σ6 S6,HC X.K H5 σ5 σ6/\Ht X.K H5 S6/\Grow X.K H1 H5/\o9 g tb D3 src.keep rest σ6 S6,?_,fun v H5 hv=>?_⟩
   ·rintro σ5 H5 ⟨σ6,S6,q1,q2,q3,q4⟩
    exact⟨m - 1,by omega,by omega,σ6,S6,q1,q2,q3,by rw[hrest];exact q4⟩
   ·obtain⟨rv,Qx,g5⟩:=yl v H5 hv
    obtain⟨_,hw⟩:=hw
    split at hw
    ·rename_i σ6 e6
     refine Tg.LH (own:=0) g rv (Nn.mono g5) e6 fun σ7 PD _=>?_
     exact⟨σ6,S',_,PD,Qx,hw,xo.mono (g1.trans (g'.trans g5)),fun σ8 S8 σ9 H9 q1 q2 q3 q4=>⟨σ8,S8,q2,q3,g'.trans (g5.trans q4),q1⟩,r.mono (g1.trans (g'.trans g5)),n.mono (g1.trans (g'.trans g5)),
      fun σ8 S8 σ9 H9 q1 q2 q3 q4=>⟨σ8,S8,q2,q3,g'.trans (g5.trans q4),q1⟩⟩
    ·exact hw.elim⟩⟩
def g_(tc:kw)(tb:bv):bv:=fun D σ S=>∃W:Nat->cy->az->Prop,(∃m,W m σ S)/\∀m σ S,W m σ S->
 tc σ S (fun b S1=>if b=true then ∃N:cy->az->Prop,(∀σ' S',N σ' S'->∃m',m' < m/\W m' σ' S')/\tb { D with nx:=N,ct:=N,bk:=D.nx } σ S1 else D.nx σ S1) D.ex
def iH(hp:PassesOwn (model X.prog X.w) X.A X.env X.xe)(hc:sj X c tc)(hb:kF X body tb):rP X (.While c body [] pos) (g_ tc tb):=
 ⟨dI (vZ hp hc.ok hb.ok) fun D σ H ⟨σ3,S,D3,rσ,rS,⟨W,⟨m0,w0⟩,turn⟩,xo,n,r,bk,ct⟩=>by
  refine⟨fun m σ' H'=>∃σ4 S',HC X.K H' σ' σ4/\Ht X.K H' S'/\Grow X.K H H'/\W m σ4 S',⟨m0,σ3,S,rσ,rS,.refl,w0⟩,?_⟩
  rintro m σ' H' ⟨σ4,S',Nn,Kr,g',w'⟩
  refine⟨σ4,S',_,D3.ex,Nn,Kr,turn m σ4 S' w',xo.mono g',fun b S1 H1 h1 Hz g1=>?_⟩
  cases b with
  |true=>
   rw[if_pos rfl]at h1 ⊢
   obtain⟨N,hN,h1⟩:=h1
   refine⟨fun σ5 H5=>∃σ6 S6,HC X.K H5 σ5 σ6/\Ht X.K H5 S6/\Grow X.K H H5/\N σ6 S6,?_,?_⟩
   ·rintro σ5 H5 ⟨σ6,S6,q1,q2,q3,q4⟩
    obtain⟨m',hm,w6⟩:=hN σ6 S6 q4
    exact⟨m',hm,σ6,S6,q1,q2,q3,w6⟩
   ·exact⟨σ4,S1,_,Nn.mono g1,Hz,h1,xo.mono (g'.trans g1),fun σ8 S8 σ9 H9 q1 q2 q3 q4=>⟨σ8,S8,q2,q3,g'.trans (g1.trans q4),q1⟩,r.mono (g'.trans g1),n.mono (g'.trans g1),
     fun σ8 S8 σ9 H9 q1 q2 q3 q4=>⟨σ8,S8,q2,q3,g'.trans (g1.trans q4),q1⟩⟩
  |false=>
   rw[if_neg (by decide)]at h1 ⊢
   exact n _ S1 _ H1 h1 (Nn.mono g1) Hz (g'.trans g1)⟩
end
noncomputable def fK:bJ:=fun _ _ _=>False
def MT.no{X:Cx}{H:Hp}:MT X H fK:=fun _ _ _ _ _ _ _ _ _ _ _ _ _ _ h=>h.elim
section
variable {X:Cx} {elt iter tg c:Expr} {ifs:List Expr} {scope:Scope} {pos:Pos} {ti:tR} {g:Tg} {tc:kw} {te:aZ} {fs N:Vs} {own:Nat} {fr:List Nat}
noncomputable def bY(g:Tg)(tc:kw)(te:aZ)(σ':cy)(keep:az->Prop)(fin:List PV->az->Prop):List PV->List PV->az->Prop
 |[],ys,S=>keep S/\ys.length<=sizeLine/\fin ys S
 |x::r,ys,S=>keep S/\ys.length<=sizeLine/\match g.put x σ' with
  |some σ2=>tc σ2 S (fun b S3=>if b=true then te σ2 S3 (fun y S4=>bY g tc te σ' keep fin r (ys++[y]) S4) fK else bY g tc te σ' keep fin r ys S3) fK
  |none=>False
def bx:kw:=fun _ S Q _=>Q true S
structure DI (X:Cx) (ifs:List Expr) (t:kw):Prop where
 ok:PF X ifs (LT X t)
def sw{t t':TT}(h:PF X ifs t)(k:∀σ H Q,t' σ H Q->t σ H Q):PF X ifs t':=fun pins s σ H Q I q=>h pins s σ H Q I (k σ H Q q)
def bM:DI X [] bx:=⟨sw Cr fun σ H Q ⟨σ3,S,Q3,E3,rσ,rS,h,xo,k⟩=>k true S H h rS .refl⟩
def mD(h:sj X c tc):DI X [c] tc:=⟨Cs h.ok⟩
noncomputable def cm(own:Nat)(fr:List Nat)(σ:cy):cy:=List.replicate own none++fr.map fun j=>lk σ j
def zV{K:Vo}{H:Hp}{σ:L2.St}{σ3:cy}(r:HC K H σ σ3)(own:Nat)(fr:List Nat):HC K H (fB own fr σ) (cm own fr σ3):=by
 refine⟨by unfold fB cm;simp,fun i p e=>?_⟩
 unfold cm at e
 unfold fB
 by_cases hi:i < own
 ·rw[TX (by simpa using hi),Vm,if_pos hi]at e
  cases e
 ·rw[T5 (by simpa using hi),UZ,Tv]at e ⊢
  cases hj:fr[i - own]? with
  |none=>rw[hj]at e;cases e
  |some j=>
   rw[hj]at e
   simp only[Option.map_some,Vn]at e ⊢
   obtain⟨v,hv,rv⟩:=r.at' j p (wL e)
   exact⟨v,by rw[hv];rfl,rv⟩
def aG(ti:tR)(g:Tg)(tc:kw)(te:aZ)(own:Nat)(fr:List Nat):aZ:=fun σ S Q E=>ti σ S (fun src S1=>bY g tc te (cm own fr σ) src.keep (fun ys S2=>∀p,S2 p=none->Q (.ref p) (Hk S2 p (.lst ys))) src.items [] S1) E
def oq{σ:L2.St}{H:Hp}{Q:VK}(Nz:g.under own=true)(B0:Bk):LE X (aG ti g tc te own fr) σ H Q->wq (LI X ti) (g.g2 X.K) (fun σ H Q=>∃σ3 S Q3,HC X.K H σ σ3/\Ht X.K H S/\tc σ3 S Q3 fK/\∀b S' H',Q3 b S'->Ht X.K H' S'->Grow X.K H H'->Q b H')
  (fun σ H Q=>∃σ3 S Q3,HC X.K H σ σ3/\Ht X.K H S/\te σ3 S Q3 fK/\MU X.K H Q3 Q) own fr σ H Q:=fun⟨σ3,S,Q3,E3,rσ,rS,h,xo,k⟩=>by
 refine⟨σ3,S,_,E3,rσ,rS,h,xo,fun src S1 J H1 h1 sim Hz g1=>?_⟩
 refine⟨fun i m ys H'=>i+m=src.items.length/\∃zs S',Reps X.K H' ys zs/\Ht X.K H' S'/\Grow X.K H1 H'/\bY g tc te (cm own fr σ3) src.keep (fun ys S2=>∀p,S2 p=none->Q3 (.ref p) (Hk S2 p (.lst ys))) (src.items.drop i) zs S',⟨src.items.length,Xo _,[],S1,.nil,Hz,.refl,by simpa using h1⟩,?_⟩
 rintro i m ys H' ⟨hm,zs,S',rz,Kr,g',hw⟩
 cases hd:src.items.drop i with
 |nil=>
  rw[hd]at hw
  have hi:i=src.items.length:=by
   have:=Uu List.length hd
   rw[Vh,Vt]at this
   omega
  refine .inl ⟨(sim i S' H' g' Kr hw.1).2 hi,by rw[rz.length];exact hw.2.1,fun D hD=>?_⟩
  exact k _ _ _ _ (hw.2.2 D (Kr.free hD)) (.ref D) (Kr.new hD ⟨_,aH,rz.mono (.new hD)⟩) (g1.trans (g'.trans (.new hD)))
 |cons x rest=>
  rw[hd]at hw
  have hx:src.items[i]?=some x:=by
   have:=Uu (fun l=>l[0]?) hd
   simpa using this
  have hrest:src.items.drop (i+1)=rest:=by
   have:=Uu List.tail hd
   simpa [List.tail_drop]using this
  have hlt:i < src.items.length:=by
   by_cases z:i < src.items.length
   ·exact z
   ·rw[Uy (by omega)]at hx;cases hx
  obtain⟨go,yl⟩:=(sim i S' H' g' Kr hw.1).1 x hx
  refine .inr ⟨go,by rw[rz.length];exact hw.2.1,fun ys' H5=>∃zs' S6,Reps X.K H5 ys' zs'/\Ht X.K H5 S6/\Grow X.K H1 H5/\bY g tc te (cm own fr σ3) src.keep (fun ys S2=>∀p,S2 p=none->Q3 (.ref p) (Hk S2 p (.lst ys))) rest zs' S6,?_,fun v H5 hv=>?_⟩
  ·rintro ys' H5 ⟨zs',S6,q1,q2,q3,q4⟩
   exact⟨m - 1,by omega,by omega,zs',S6,q1,q2,q3,by rw[hrest];exact q4⟩
  ·obtain⟨rv,Qx,g5⟩:=yl v H5 hv
   obtain⟨_,_,hw⟩:=hw
   split at hw
   ·rename_i σ6 e6
    refine Tg.LH (own:=own) g rv ((zV rσ own fr).mono (g1.trans (g'.trans g5))) e6 fun σ7 PD d7=>⟨d7 Nz,?_⟩
    refine⟨σ6,S',_,PD,Qx,hw,fun b S8 H8 h8 Rj g8=>?_⟩
    cases b with
    |true=>
     rw[if_pos rfl]at h8 ⊢
     exact⟨σ6,S8,_,PD.mono g8,Rj,h8,fun y S9 y' H9 h9 ry Sh g9=>⟨zs++[y],S9,(rz.mono (g5.trans (g8.trans g9))).append (.cons ry .nil),Sh,g'.trans (g5.trans (g8.trans g9)),h9⟩⟩
    |false=>
     rw[if_neg (by decide)]at h8 ⊢
     exact⟨zs,S8,rz.mono (g5.trans g8),Rj,g'.trans (g5.trans g8),h8⟩
   ·exact hw.elim
def CM(fs:Vs)(own:Nat)(fr:List Nat)(N:Vs)(Nz:g.under own=true)(hc:X.calm=true)(hclos:closureFor scope X.env=pure (cX X.env fs))(hcell:∀y∈scope.names,y.2 ≠ .cell)(hkind:scope.kind = .function)
  (hnames:∀x∈scope.names,x.2 = .local->scope.names.lookup x.1=some .local) (hcl:cK X.env fs) (hhas:oW (relabel scope X.env).names (cX X.env fs)=true)
  (hlen:N.length=own+fr.length) (hN:(N.drop own).map some=fr.map fun j=>X.N[j]?) (hF:IJ X.env scope (cX X.env fs) (N.drop own))
  (hi:vQ X tg iter ti) (hg:∀B,yS (X.Km N scope fs B) tg g) (hf:∀B,DI (X.Km N scope fs B) ifs tc) (he:∀B,bp (X.Km N scope fs B) elt te)
  (hs:∀x,foldedSetIterable iter X.env x=pure x:=by intro _;rfl):bp X (.ListComp elt [⟨tg,iter,ifs,0⟩] scope pos) (aG ti g tc te own fr):=
 ⟨ba (zx fs own fr N hc hclos hcell hkind hnames hcl hhas hlen hN hF hi.ok (fun B=>(hg B).ok)
  (fun B=>sw (hf B).ok fun σ H Q ⟨σ3,S,Q3,rσ,rS,h,k⟩=>⟨σ3,S,Q3,fK,rσ,rS,h,.no,k⟩) (fun B=>ba (he B).ok fun σ H Q ⟨σ3,S,Q3,rσ,rS,h,k⟩=>⟨σ3,S,Q3,fK,rσ,rS,h,.no,k⟩) hs) fun _ _ _=>oq Nz ⟨0,X.s₀,X.H₀,[],[]⟩⟩
def CN(fs:Vs)(own:Nat)(fr:List Nat)(N:Vs){i:Nat}{y:Str}{py spos:Pos}(hX:X.N.Nodup)(hix:X.N[i]?=some y)(hy:X.env.scope.names.lookup y=some .local)
  (hsw:swapsWith (.ListComp elt [⟨tg,iter,ifs,0⟩] scope pos) (some (.Name y py)) spos.line X.env=pure true)
  (Nz:g.under own=true) (hc:X.calm=true) (hclos:closureFor scope X.env=pure (cX X.env fs)) (hcell:∀y∈scope.names,y.2 ≠ .cell) (hkind:scope.kind = .function)
  (hnames:∀x∈scope.names,x.2 = .local->scope.names.lookup x.1=some .local) (hcl:cK X.env fs) (hhas:oW (relabel scope X.env).names (cX X.env fs)=true)
  (hlen:N.length=own+fr.length) (hN:(N.drop own).map some=fr.map fun j=>X.N[j]?) (hF:IJ X.env scope (cX X.env fs) (N.drop own))
  (hi:vQ X tg iter ti) (hg:∀B,yS (X.Km N scope fs B) tg g) (hf:∀B,DI (X.Km N scope fs B) ifs tc) (he:∀B,bp (X.Km N scope fs B) elt te)
  (hs:∀x,foldedSetIterable iter X.env x=pure x:=by intro _;rfl):rP X (.Assign [.Name y py] (.ListComp elt [⟨tg,iter,ifs,0⟩] scope pos) spos) (aq i (aG ti g tc te own fr)):=
 ⟨dI (zy fs own fr N hX hix hy hsw hc hclos hcell hkind hnames hcl hhas hlen hN hF hi.ok (fun B=>(hg B).ok)
  (fun B=>sw (hf B).ok fun σ H Q ⟨σ3,S,Q3,rσ,rS,h,k⟩=>⟨σ3,S,Q3,fK,rσ,rS,h,.no,k⟩) (fun B=>ba (he B).ok fun σ H Q ⟨σ3,S,Q3,rσ,rS,h,k⟩=>⟨σ3,S,Q3,fK,rσ,rS,h,.no,k⟩) hs)
  fun D σ H ⟨σ3,S,D3,rσ,rS,h,xo,n,r,bk,ct⟩=>oq Nz ⟨0,X.s₀,X.H₀,[],[]⟩ ⟨σ3,S,_,D3.ex,rσ,rS,h,xo,fun p S1 v H1 h1 rv Hz g1=>n _ S1 _ H1 h1 ((rσ.mono g1).set rv i) Hz g1⟩⟩
end
abbrev au:=List PV->az->bn->bJ->Prop
noncomputable def EO(K:Vo)(n:Nat)(sp:au):Sp:=fun vs H Q _=>vs.length=n/\∃ps S Q3 E3,Reps K H vs ps/\Ht K H S/\sp ps S Q3 E3/\MU K H Q3 Q
structure No (P:Program) (w:World) (K:Vo) (mg:Vr) (base:Heap) (k:Nat) (f:Addr) (fd:FuncData) (ps:Vs) (sp:au):Prop where
 ok:nq P w K mg base yR k f fd ps (EO K ps.length sp)
section
variable {X:Cx} {e o:Expr} {es:List Expr} {te to:aZ} {ts:List aZ} {x:Str} {p pos apos cpos:Pos} {k:Nat} {f:Addr} {fd:FuncData} {ps:Vs} {sp:au}
def ab(sp:au)(ts:List aZ):aZ:=fun σ S Q E=>ak ts σ S (fun ps S1=>sp ps S1 Q E) E
def xv(F:No X.prog X.w X.K X.mg X.base k f fd ps sp)(hr:Room k X.A)(hg:Gl X x)(hm:X.mg x=some (.ref f))(hk:PySem.W.keepIn X.K (.ref f)=true)(hb:Binds X.K fd ps [])(he:starEach (e::es) X.env=(false,eval e X.env)::starEach es X.env)(ha:lv X (e::es) ts)
  (hl:ts.length=ps.length:=by rfl) (hdb:(x == ("__debug__":Str))=false:=by decide) (hpl:(backTo pos (starEach es X.env)).any (·.1)=false:=by rfl):bp X (.Call (.Name x p) (e::es) [] pos) (ab sp ts):=
 ⟨ba (tH F.ok hr hg hm hk hb .nil A3 ha.ok hdb he hpl) fun σ H Q ⟨σ3,S,Q3,E3,rσ,rS,h,xo,k⟩=>cz rσ rS h xo fun ps' S' vs H' hl' q rv Kr g=>by
  rw[TY]
  exact⟨by rw[rv.length,hl',hl],ps',S',Q3,E3,rv,Kr,q,k.mono g⟩⟩
end
noncomputable def ap(n:Nat)(args:List PV):cy:=args.map some++List.replicate (n - args.length) none
def aR(n:Nat)(t:bv):au:=fun args S Q _=>t { nx:=fun _ S'=>Q .non S',rt:=Q,ex:=fK } (ap n args) S
def ou{K:Vo}{H:Hp}{N:Vs}{vs:List V}{ps:List PV}(r:Reps K H vs ps):HC K H (L2.start N vs) (ap N.length ps):=by
 refine⟨by unfold L2.start ap;simp[r.length],fun i p e=>?_⟩
 unfold ap at e
 unfold L2.start
 by_cases hi:i < ps.length
 ·rw[TX (by simpa using hi),Tv]at e
  cases hp:ps[i]? with
  |none=>rw[hp]at e;cases e
  |some q=>
   rw[hp]at e
   cases e
   obtain⟨v,hv,rv⟩:=r.get hp
   rw[TX (by rw[Ti,r.length];exact hi),Tv,hv]
   exact⟨v,rfl,rv⟩
 ·rw[T5 (by simpa using hi),Vm]at e
  split at e
  ·cases e
  ·cases e
section
variable {P:Program} {w:World} {K:Vo} {mg:Vr} {base:Heap}
noncomputable abbrev EQ(P:Program)(w:World)(K:Vo)(mg:Vr)(base:Heap)(N:Vs)(qual:Str)(st:Stmt)(f:Addr)(cdv:Value)(A:Around)(outer:List Env)(s:Shared)(H:Hp)(E:XK):Cx:=(qy yR P w K mg base N qual (aJ st) f cdv A outer s H E).N7
def GQ{x qual:Str}{st:Stmt}{f:Addr}{fd:FuncData}{N ps:Vs}{k:Nat}{t:bv}(F:NQ K x qual st f fd)(S:dS N ps (aJ st))
  (hbody:∀(cdv:Value) (A:Around) (outer:List Env) (s:Shared) (H:Hp) (E:XK),Room k (A.deeper (PyProof.Rows.envOfC qual (aJ st) s.heap.objs.size f cdv))->kF (EQ P w K mg base N qual st f cdv A outer s H E) (bj st) t) :
  No P w K mg base (k+1) f fd ps (aR N.length t):=
 ⟨F.ok S (fun vs H Q E h=>h.1) fun cdv A outer s H vs Q E hr ⟨hl,ps',S',Q3,E3,rv,rS,q,kk⟩=>⟨_,(hbody cdv A outer s H E hr).ok,ap N.length ps',S',_,ou rv,rS,q,.no,fun σ3 S2 σ2 H2 h2 _ J4 g2=>kk _ S2 _ H2 h2 .non J4 g2,kk,fun _ _ _ _ h2=>h2.elim,fun _ _ _ _ h2=>h2.elim⟩⟩
end
section
variable {X:Cx} {o e f:Expr} {to te tf:aZ} {pos apos cpos:Pos}
noncomputable def jz:List (aZ×aZ)->cy->az->(List (PV×PV)->az->Prop)->bJ->Prop
 |[],_,S,Q,_=>Q [] S
 |(tk,tv)::r,σ,S,Q,E=>tk σ S (fun x S1=>tv σ S1 (fun y S2=>jz r σ S2 (fun ps S3=>Q ((x,y)::ps) S3) E) E) E
noncomputable def ow:List (PV×PV)->Option (List (bf×PV))
 |[]=>some []
 |(x,y)::r=>match i5 x,ow r with|some k,some l=>some ((k,y)::l)|_,_=>none
noncomputable def Ja(kvs more:List (bf×PV)):List (bf×PV):=more.foldl (fun acc kv=>kJ acc kv.1 kv.2) kvs
structure FG (X:Cx) (pos:Pos) (keys:List (Option Expr)) (values:List Expr) (Lc:List (aZ×aZ)):Prop where
 ok:Ev X pos keys values (Lc.map fun t=>(LE X t.1,LE X t.2))
def xx:FG X pos [] [] []:=⟨zr⟩
def lY{k v:Expr}{ks:List (Option Expr)}{vs:List Expr}{tk tv:aZ}{Lc:List (aZ×aZ)}(hk:bp X k tk)(hv:bp X v tv)(hr:FG X pos ks vs Lc):FG X pos (some k::ks) (v::vs) ((tk,tv)::Lc):=⟨wk hk.ok hv.ok hr.ok⟩
inductive ox (K:Vo) (H:Hp):List (V×V)->List (PV×PV)->Prop
 |nil:ox K H [] []
 |cons {a b:V} {p q:PV} {vs:List (V×V)} {ps:List (PV×PV)}:Rep K H a p->Rep K H b q->ox K H vs ps->ox K H ((a,b)::vs) ((p,q)::ps)
theorem mE:∀{Lc:List (aZ×aZ)} {σ:L2.St} {H:Hp} {Q:List (V×V)->Hp->Prop} {σ3:cy} {S:az} {Q3:List (PV×PV)->az->Prop} {E3:bJ},HC X.K H σ σ3->Ht X.K H S->jz Lc σ3 S Q3 E3->MT X H E3->
  (∀ps S' vs H',ps.length=Lc.length->Q3 ps S'->ox X.K H' vs ps->Ht X.K H' S'->Grow X.K H H'->Q vs H')->oS (Lc.map fun t=>(LE X t.1,LE X t.2)) σ H Q
 |[],σ,H,Q,σ3,S,Q3,E3,rσ,rS,h,xo,k=>k [] S [] H rfl h .nil rS .refl
 |(tk,tv)::ts,σ,H,Q,σ3,S,Q3,E3,rσ,rS,h,xo,k=>
  ⟨σ3,S,_,E3,rσ,rS,h,xo,fun p S1 v H1 h1 rv Hz g1=>⟨σ3,S1,_,E3,rσ.mono g1,Hz,h1,xo.mono g1,fun p2 S2 v2 H2 h2 Sj J4 g2=>mE (rσ.mono (g1.trans g2)) J4 h2 (xo.mono (g1.trans g2)) fun ps S3 vs H3 hl h3 Qu MI g3=>
   k ((p,p2)::ps) S3 ((v,v2)::vs) H3 (by rw[TL,TL,hl]) h3 (.cons (rv.mono (g2.trans g3)) (Sj.mono g3) Qu) MI (g1.trans (g2.trans g3))⟩⟩
theorem oy{K:Vo}{H:Hp}:∀{vs:List (V×V)} {ps:List (PV×PV)} {l:List (bf×PV)},ox K H vs ps->ow ps=some l->∃kvs:List (bf×V),vs=kvs.map (fun kv=>(kV kv.1,kv.2))/\HP K H kvs l
 |_,_,_,.nil,h=>by cases h;exact⟨[],rfl,.nil⟩
 |_,_,l,.cons a b r,h=>by
  unfold ow at h
  split at h
  ·rename_i k l' ek el
   cases h
   obtain⟨kvs,e,q⟩:=oy r el
   refine⟨(k,_)::kvs,?_,.cons b q⟩
   rw[TQ,<-e,cW a ek]
  ·cases h
def HP.merge{K:Vo}{H:Hp}{more:List (bf×V)}{m3:List (bf×PV)}(r:HP K H more m3):∀{kvs:List (bf×V)} {k3:List (bf×PV)},HP K H kvs k3->HP K H (fN kvs more) (Ja k3 m3):=by
 induction r with
 |nil=>intro kvs k3 q;exact q
 |cons a r ih=>intro kvs k3 q;exact ih (q.put a)
def mF(Lc:List (aZ×aZ)):aZ:=fun σ S Q E=>∀p,S p=none->jz Lc σ (Hk S p (.dct [])) (fun ps S2=>S2 p=some (.dct [])/\match ow ps with|some kvs=>Q (.ref p) (Hk S2 p (.dct (Ja [] kvs)))|none=>False) E
def xy{keys:List (Option Expr)}{values:List Expr}{Lc:List (aZ×aZ)}(h:FG X pos keys values Lc)(hall:keys.all (·.isSome)=true:=by rfl)(hl:keys.length=values.length:=by rfl)(h0:keys≠[]:=by exact List.cons_ne_nil _ _)(Qg:keys.length<=15:=by decide)
  (ht:Lc.length<=15:=by exact W7 rfl):bp X (.Dict keys values pos) (mF Lc):=
 ⟨ba (zt h.ok hall hl h0 Qg) fun σ H Q ⟨σ3,S,Q3,E3,rσ,rS,hq,xo,k⟩=>fun p hp=>by
  have g0:Grow X.K H (upd H p (.dK [])):=.new hp
  refine mE (rσ.mono g0) (rS.new hp (o:=.dct []) ⟨[],aH,.nil⟩) (hq p (rS.free hp)) (xo.mono g0) fun ps S' vs H' hl' q rv Kr g=>?_
  obtain⟨e,q⟩:=q
  obtain⟨kv,hv,rk⟩:=Kr _ _ e
  cases rk
  refine⟨hv,?_⟩
  split at q
  ·rename_i kvs ek
   obtain⟨l,el,rl⟩:=oy rv ek
   refine⟨l,el,?_,k _ _ _ _ q (.ref p) (Kr.put hv trivial ⟨_,aH,(HP.merge rl .nil).mono (.mut hv trivial)⟩) (g0.trans (g.trans (.mut hv trivial)))⟩
   have z1:∀{vs:List (V×V)} {ps:List (PV×PV)},ox X.K H' vs ps->vs.length=ps.length:=by
    intro vs ps r
    induction r with
    |nil=>rfl
    |cons _ _ _ ih=>rw[TL,TL,ih]
   have z2:=Uu List.length el
   rw[Ti,z1 rv,hl']at z2
   omega
  ·exact q.elim⟩
def tS(to te tf:aZ):aZ:=fun σ S Q E=>to σ S (fun x S1=>match x with
 | .ref a=>(match S1 a with
  |some (.dct _)=>te σ S1 (fun y S2=>tf σ S2 (fun z S3=>match S3 a,i5 y with|some (.dct kvs),some k=>Q ((ff kvs k).getD z) S3|_,_=>False) E) E
  |_=>False)
 |_=>False) E
def CO(hu:X.A.units+1 < cLine)(ho:bp X o to)(he:bp X e te)(hf:bp X f tf)(m:M2 X o "get" apos e f cpos):bp X (.Call (.Attribute o "get" apos) [e,f] [] cpos) (tS to te tf):=
 ⟨ba (wm hu ho.ok he.ok hf.ok m) fun σ H Q ⟨σ3,S,Q3,E3,rσ,rS,h,xo,k⟩=>⟨σ3,S,_,E3,rσ,rS,h,xo,fun x S1 v H1 h1 rx Hz g1=>by
  split at h1
  ·cases rx
   split at h1
   ·rename_i ea
    obtain⟨kv,hv,rk⟩:=Hz _ _ ea
    refine⟨_,rfl,.inl ⟨_,.inl hv⟩,σ3,S1,_,E3,rσ.mono g1,Hz,h1,xo.mono g1,fun y S2 y' H2 h2 ry J4 g2=>⟨σ3,S2,_,E3,rσ.mono (g1.trans g2),J4,h2,xo.mono (g1.trans g2),fun z S3 z' H3 h3 rz MI g3=>?_⟩⟩
    split at h3
    ·rename_i kvs k' eb ek
     obtain⟨kv3,Qy,Rk⟩:=MI _ _ eb
     have e1:=cW (ry.mono g3) ek
     subst e1
     refine⟨_,DGet.k Qy,k _ S3 _ H3 h3 ?_ MI (g1.trans (g2.trans g3))⟩
     cases ev:ff kvs k' with
     |none=>rw[Rk.valN ev];exact rz
     |some w=>
      obtain⟨w',hw,rw'⟩:=Rk.val ev
      rw[hw];exact rw'
    ·exact h3.elim
   ·exact h1.elim
  ·exact h1.elim⟩⟩
def tT(kvs:List (bf×Int))(te tf:aZ):aZ:=fun σ S Q E=>te σ S (fun y S2=>tf σ S2 (fun z S3=>match i5 y with|some k=>Q (((kvs.find? fun kv=>decide (kv.1=k)).map fun kv=>PV.int kv.2).getD z) S3|none=>False) E) E
def CP{x:Str}{px:Pos}{a:Addr}{kvs:List (bf×Int)}(hu:X.A.units+1 < cLine)(hg:Gl X x)(hm:X.mg x=some (.ref a))(hD:KD X.prog X.w X.K a (kvs.map fun kv=>(kv.1,V.int kv.2)))(he:bp X e te)(hf:bp X f tf)(m:M2 X (.Name x px) "get" apos e f cpos)
  (hd:(x == ("__debug__":Str))=false:=by decide):bp X (.Call (.Attribute (.Name x px) "get" apos) [e,f] [] cpos) (tT kvs te tf):=
 ⟨ba (zB hu hg hm hD he.ok hf.ok m hd) fun σ H Q ⟨σ3,S,Q3,E3,rσ,rS,h,xo,k⟩=>⟨σ3,S,_,E3,rσ,rS,h,xo,fun y S2 y' H2 h2 ry J4 g2=>⟨σ3,S2,_,E3,rσ.mono g2,J4,h2,xo.mono g2,fun z S3 z' H3 h3 rz MI g3=>by
  split at h3
  ·rename_i k' ek
   have e1:=cW (ry.mono g3) ek
   subst e1
   refine⟨_,rfl,k _ S3 _ H3 h3 ?_ MI (g2.trans g3)⟩
   have:∀l:List (bf×Int),Rep X.K H3 ((i0 (l.map fun kv=>(kv.1,V.int kv.2)) k').getD z') (((l.find? fun kv=>decide (kv.1=k')).map fun kv=>PV.int kv.2).getD z):=by
    intro l
    induction l with
    |nil=>exact rz
    |cons q r ih=>
     rw[TQ,List.find?_cons]
     by_cases e:q.1=k'
     ·rw[JG e,TN e];exact .int _
     ·rw[I9 e,Tw e];exact ih
   exact this kvs
  ·exact h3.elim⟩⟩⟩
def qI(te:aZ):aZ:=fun σ S Q E=>te σ S (fun x S1=>match x with
 | .ref a=>(match S1 a with|some (.lst xs)=>∀p,S1 p=none->Q (.ref p) (Hk S1 p (.lst xs.reverse))|_=>False)
 |_=>False) E
def CQ{p1 p2 q1 q2:Pos}(hs:starEach [e] X.env=[(false,eval e X.env)])(hc:X.calm=true)(he:bp X e te)(Qr:Gl X "list")(hm1:X.mg "list" = none)(Ny:Gl X "reversed")(hm2:X.mg "reversed" = none):bp X (.Call (.Name "list" p1) [.Call (.Name "reversed" p2) [e] [] q2] [] q1) (qI te):=
 ⟨ba (sd hc he.ok Qr hm1 Ny hm2 hs rfl) fun σ H Q ⟨σ3,S,Q3,E3,rσ,rS,h,xo,k⟩=>⟨σ3,S,_,E3,rσ,rS,h,xo,fun x S1 v H1 h1 rx Hz g1=>by
  split at h1
  ·cases rx
   split at h1
   ·rename_i ea
    obtain⟨vs,hv,rs⟩:=Hz _ _ ea
    exact⟨_,_,rfl,SqL.of hv,fun q hq=>k _ _ _ _ (h1 q (Hz.free hq)) (.ref q) (Hz.new hq ⟨_,aH,rs.reverse.mono (.new hq)⟩) (g1.trans (.new hq))⟩
   ·exact h1.elim
  ·exact h1.elim⟩⟩
end
def ci:R3:=dW fun i j=>.int (i - j)
def hU:R3:=gX (fun _ j=>j≠0) fun i j=>.int (i.fmod j)
def gK:R3:=gX mr fun i j=>.int (i.fdiv j)
def xz:R3:=gX B4 fun i j=>.int (i ^ j.toNat)
def qp:R3:=dW fun i j=>.bl (decide (i < j))
def xA:R3:=dW fun i j=>.bl (decide (j < i))
def xB:R3:=dW fun i j=>.bl (decide (j<=i))
section
variable {X:Cx}
def eu:ky X (binaryOp .Sub) ci:=CF
def gL:ky X (binaryOp .Mod) hU:=CG
def jA:ky X (binaryOp .FloorDiv) gK:=zG
def ER:ky X (binaryOp .Pow) xz:=CH
def mG:ky X (compareOp .Lt) qp:=EA
def xC:ky X (compareOp .Gt) xA:=EB
def zW:ky X (compareOp .GtE) xB:=EC
end
def yT{A:Around}{k:Nat}(hr:Room k A):A.units+1 < cLine:=by have:=hr.un;omega
def i_{A:Around}{k:Nat}(hr:Room k A):A.units+150 < cLine:=by have:=hr.un;omega
def cA{A:Around}{k:Nat}(hr:Room k A):A.units+160 < cLine:=by have:=hr.un;omega
structure FH (K:Vo) (mg:Vr) (x:Str) (st:Stmt) (ps:Vs) (f:Addr) (fd:FuncData):Prop where
 F:NQ K x x st f fd
 b:Binds K fd ps []
 k:PySem.W.keepIn K (.ref f)=true
 m:mg x=some (.ref f)
def No.zero{P:Program}{w:World}{K:Vo}{mg:Vr}{base:Heap}{k:Nat}{f:Addr}{fd:FuncData}{ps:Vs}{sp:au}(h:sp=fun _ _ _ _=>False):No P w K mg base k f fd ps sp:=by
 subst h
 exact⟨⟨fun vs H Q E q=>q.1,fun A outer s H args us vs Q E _ _ _ _ ⟨_,_,_,_,_,_,_,q,_⟩=>q.elim⟩⟩
def Gk{K:Vo}{H:Hp}{a:Addr}{ns:Vu}{sp:au}(hO:zu H)(hS:SqL K H a (ns.map V.int))(h:sp [.cl (ns.map PV.int)] (fun _=>none) (fun v _=>v = .bl true) fK):EO K 1 sp [.ref a] H (fun v _=>v = .bl true) fun _ _ _=>False:=by
 have hr:∀l:List Int,Reps K H (l.map V.int) (l.map PV.int):=by
  intro l
  induction l with
  |nil=>exact .nil
  |cons x r ih=>exact .cons (.int x) ih
 refine⟨rfl,[.cl (ns.map PV.int)],fun _=>none,_,fK,.cons (.cl (vs:=ns.map V.int) ?_ (hr ns)) .nil,(fun b o e=>by simp at e),h,fun p S' v H' q rv rS g=>?_⟩
 ·rcases hS with(q|q)|q
  ·rcases hO a with z|⟨o,xs,z⟩
   ·rw[z]at q;cases q
   ·rw[z]at q;cases q
  ·exact .inl q
  ·exact .inr q
 ·subst q
  cases rv
  rfl
end L3
namespace L2
open PySem PySem.Spec PyProof.Rows
section
variable {X:Cx}
def vb(hc:X.calm=true):dB X (.builtin "sum") (fun xs H Q=>∃(p:Addr) (ns:Vu),xs=[.ref p]/\SqL X.K H p (ns.map V.int)/\Q (.int ns.sum) H):=by
 intro pins s σ H xs us Q I r h
 obtain⟨p,ns,rfl,hp,q⟩:=h
 obtain⟨u,rfl,rx⟩:=cV r
 cases rx
 obtain⟨its,rv,pl,hz⟩:=I.list hp
 have hi:IntsAre its ns:=jp rv
 obtain⟨ys,ey⟩:=hi.allInts.items
 have hl:=pl.isList
 rw[ey]at hl
 refine sum_intListG (I.ok.hd hc) hl fun h' tk t' hk=>?_
 have e1:preSum (numAt ys) ys.size=ns.sum:=by
  have e2:=nums_intItems ys
  rw[<-ey]at e2
  have e3:numsOf its=ns:=hi.numsOf
  rw[preSum_eq,Vd (by simp),<-e2]
  rw[show its.toArray.toList=its from rfl,e3]
 rw[e1]
 exact⟨.int _,H,(I.kept (t':=tk) (h':=h') hk),⟨_,rfl⟩,q⟩
end
end L2
namespace HT
open PySem PySem.Spec PyProof.Rows
end HT
namespace L2
open PySem PySem.Spec PyProof.Rows
end L2
namespace L3
open PySem L2
section
variable {X:Cx} {e st:Expr} {te ts:aZ} {p2 pos:Pos}
noncomputable def fg:List PV->Option (List Int)
 |[]=>some []
 | .int i::r=>(fg r).map (i::·)
 |_::_=>none
theorem jZ:∀ns:List Int,fg (ns.map PV.int)=some ns
 |[]=>rfl
 |n::ns=>by rw[TQ];unfold fg;rw[jZ ns];rfl
theorem iI{K:Vo}{H:Hp}:∀{vs:List V} {ps:List PV} {ns:Vu},Reps K H vs ps->fg ps=some ns->vs=ns.map V.int
 |_,_,_,.nil,h=>by cases h;rfl
 |_,_,ns,.cons (p:=p) a r,h=>by
  cases p with
  |int b=>
   cases a
   unfold fg at h
   cases e:fg _ with
   |none=>rw[e]at h;cases h
   |some l=>rw[e]at h;cases h;rw[iI r e];rfl
  |_=>cases h
def vc:oh:=fun ps S Q=>match ps with
 |[.ref a]=>(match S a with|some (.lst xs)=>(match fg xs with|some ns=>Q (.int ns.sum) S|none=>False)|_=>False)
 |_=>False
def Bc(hc:X.calm=true):dQ X (.builtin "sum") vc:=⟨fun pins s σ H xs us Q I r ⟨ps,S,Q3,rp,rS,q,k⟩=>by
 unfold vc at q
 split at q
 ·cases rp with
  |cons a rr=>
   cases rr;cases a
   split at q
   ·rename_i e
    split at q
    ·rename_i eb
     obtain⟨vs,hv,rs⟩:=rS _ _ e
     have e2:=iI rs eb
     subst e2
     exact vb hc pins s σ H _ us Q I r ⟨_,_,rfl,SqL.of hv,k _ S _ H q (.int _) rS .refl⟩
    ·exact q.elim
   ·exact q.elim
 ·exact q.elim⟩
end
end L3
namespace L2
open PySem PySem.Spec PyProof.Rows
end L2
namespace L3
open PySem L2
end L3
namespace L2
open PySem PySem.Spec PyProof.Rows PySem.AutoSeq1
end L2
namespace L3
open PySem L2
end L3
namespace C
open PySem L2 L3
noncomputable def k_SIDES_FROM:List (bf×Int):=[(Sum.inr "then",1),(Sum.inr "either",1),(Sum.inr "take",3),(Sum.inr "often",1)]
def hV:bv:=(ah (aq 3 (aG (aF (aY (v3 0) (i6 (v3 1)) (i6 (c3 (.int 63))))) (.n 0) bx (al mx [(v3 0),(ag ci (c3 (.int 0)) (v3 0))]) 1 []))
  (ah (aq 4 (ag aK (c3 (.int 7919)) (v3 1)))
  (ah (b_ (aF (v3 3)) (.n 2) (aq 4 (ag hU (ag aK (ag bX (v3 4) (c3 (.int 48271))) (ag hU (v3 2) (c3 (.int 2147483629)))) (c3 (.int 2147483647)))))
  (ar (mF [((c3 (.str "seed")),(v3 4)),((c3 (.str "number")),(c3 (.int 0))),((c3 (.str "left")),(qI (aG (aF (v3 3)) (.n 0) (aM (ag xB (v3 0) (ag xz (c3 (.int 10)) (c3 (.int 18))))) (v3 0) 1 [])))])))))
def hW:bv:=(ah (g_ (kG (aM (ag (bq false) (ag af (v3 0) (c3 (.str "number"))) (c3 (.int 0)))) (aM (ag xA (al bA [(ag af (v3 0) (c3 (.str "left")))]) (c3 (.int 0))))) (kK (lz "list" u6 (ag af (v3 0) (c3 (.str "left"))) []) (v3 0) (c3 (.str "number"))))
  (ah (aq 2 (ag af (v3 0) (c3 (.str "number"))))
  (ah (bd (aM (ag xA (v3 2) (c3 (.int 0)))) (ah (kK (ag gK (v3 2) (v3 1)) (v3 0) (c3 (.str "number")))
  (ar (ag hU (v3 2) (v3 1)))) aI)
  (ah (aq 3 (ag hU (ag aK (ag bX (ag af (v3 0) (c3 (.str "seed"))) (c3 (.int 48271))) (c3 (.int 7919))) (c3 (.int 2147483647))))
  (ah (kK (ag hU (ag aK (ag bX (v3 3) (c3 (.int 40692))) (c3 (.int 104729))) (c3 (.int 2147483399))) (v3 0) (c3 (.str "seed")))
  (ah (aq 4 (ag hU (ag bX (ag af (v3 0) (c3 (.str "seed"))) (ag af (v3 0) (c3 (.str "seed")))) (c3 (.int 2147483563))))
  (ar (ag hU (ag aK (ag bX (ag hU (ag bX (v3 3) (v3 3)) (c3 (.int 2147483629))) (c3 (.int 2147483563))) (v3 4)) (v3 1)))))))))
def jB:bv:=(ah (u7 2 3 (al mx [(v3 0),(ag ci (c3 (.int 0)) (v3 0))]) (v3 1))
  (ah (g_ (aM (ag xA (v3 3) (c3 (.int 0)))) (u7 2 3 (v3 3) (ag hU (v3 2) (v3 3))))
  (ar (aC [(ag gK (v3 0) (v3 2)),(ag gK (v3 1) (v3 2))]))))
def fO(Hj:au):bv:=(ah (aq 2 (c3 (.str "abcdefghijklmnopqrstuvwxyz")))
  (ah (aq 3 (bb [(c3 (.str "jars")),(c3 (.str "deed")),(c3 (.str "rest")),(c3 (.str "pay")),(c3 (.str "put")),(c3 (.str "then")),(c3 (.str "either")),(c3 (.str "take")),(c3 (.str "often")),(c3 (.str "use"))]))
  (ah (aq 5 (lz "str" oj (c3 (.str "")) [(aG (jy (ab Hj [(v3 0),(c3 (.int 6))])) (.n 0) bx (ag af (v3 2) (ab Hj [(v3 1),(c3 (.int 26))])) 1 [0,2])]))
  (ah (mC 6 7 8 (aC [(ab Hj [(v3 0),(ag aK (al bA [(v3 5)]) (c3 (.int 1)))]),(ab Hj [(v3 0),(c3 (.int 26))]),(ag (bq false) (ab Hj [(v3 0),(c3 (.int 2))]) (c3 (.int 0)))]))
  (ah (aq 9 (bb []))
  (ah (b_ (jy (v3 1)) (.n 4) (ah (aq 10 (ag aK (ag aK (aY (v3 5) jq (i6 (v3 6))) (ag af (v3 2) (ag hU (ag aK (v3 7) (v3 4)) (c3 (.int 26))))) (aY (v3 5) (i6 (v3 6)) jq)))
  (ah (bd (i3 (aM (v3 8))) (aq 10 (lz "str" oj (c3 (.str "")) [(aG (jy (ag aK (c3 (.int 1)) (ab Hj [(v3 0),(c3 (.int 6))]))) (.n 0) bx (ag af (v3 2) (ab Hj [(v3 1),(c3 (.int 26))])) 1 [0,2])])) aI)
  (ah (g_ (lw (aM (ag (fJ false) (v3 10) (v3 3))) (aM (ag (fJ false) (v3 10) (v3 9)))) (aq 10 (ag aK (ag af (v3 2) (ag hU (ag aK (lz "str" kI (v3 2) [(ag af (v3 10) (c3 (.int 0)))]) (c3 (.int 1))) (c3 (.int 26)))) (aY (v3 10) (i6 (c3 (.int 1))) jq))))
  (bL (lz "list" bO (v3 9) [(v3 10)]))))))
  (ar (v3 9))))))))
def hZ(Hj HB:au):bv:=(ah (aq 1 (ab Hj [(v3 0),(c3 (.int 4))]))
  (ah (bd (aM (ag (bq false) (v3 1) (c3 (.int 0)))) (ar (aC [(c3 (.int 0)),(c3 (.int 1))])) aI)
  (ah (bd (aM (ag qp (v3 1) (c3 (.int 3)))) (ar (aC [(ag aK (c3 (.int 1)) (ab Hj [(v3 0),(c3 (.int 5))])),(c3 (.int 1))])) aI)
  (ar (ab HB [(ab Hj [(v3 0),(c3 (.int 1000))]),(ag aK (c3 (.int 1)) (ab Hj [(v3 0),(c3 (.int 9))]))])))))
def h_(Hj Mf:au):bv:=(ah (aq 2 (ab Hj [(v3 0),(c3 (.int 7))]))
  (ah (bd (aM (ag (bq false) (v3 2) (c3 (.int 0)))) (ar (aC [(c3 (.str "rest"))])) aI)
  (ah (bd (lw (aM (ag qp (v3 2) (c3 (.int 4)))) (aM (ag (bq false) (al bA [(v3 1)]) (c3 (.int 0))))) (ar (aC [(c3 (.str "pay")),(ab Mf [(v3 0)])])) aI)
  (ah (aq 3 (ag af (bb [(c3 (.int 1)),(c3 (.int 2)),(ag aK (c3 (.int 1)) (ab Hj [(v3 0),(c3 (.int 9))]))]) (ab Hj [(v3 0),(c3 (.int 3))])))
  (ar (aC [(c3 (.str "put")),(ag af (v3 1) (ab Hj [(v3 0),(al bA [(v3 1)])])),(v3 3)]))))))
def ie(Hj Ju s0:au):bv:=(ah (aq 4 (ab Hj [(v3 0),(c3 (.int 12))]))
  (ah (bd (lw (aM (ag (bq false) (v3 3) (c3 (.int 0)))) (lw (aM (ag qp (ag af (v3 2) (c3 (.int 0))) (c3 (.int 2)))) (aM (ag qp (v3 4) (c3 (.int 3)))))) (ar (ab Ju [(v3 0),(v3 1)])) aI)
  (ah (bd (aM (ag qp (v3 4) (c3 (.int 5)))) (ah (kK (ag ci (ag af (v3 2) (c3 (.int 0))) (c3 (.int 1))) (v3 2) (c3 (.int 0)))
  (ar (aC [(c3 (.str "often")),(ab s0 [(v3 0),(v3 1),(v3 2),(ag ci (v3 3) (c3 (.int 1)))])]))) aI)
  (ah (kK (ag ci (ag af (v3 2) (c3 (.int 0))) (c3 (.int 2))) (v3 2) (c3 (.int 0)))
  (ah (aq 5 (ab s0 [(v3 0),(v3 1),(v3 2),(ag ci (v3 3) (c3 (.int 1)))]))
  (ah (aq 6 (ab s0 [(v3 0),(v3 1),(v3 2),(ag ci (v3 3) (c3 (.int 1)))]))
  (ah (bd (aM (ag qp (v3 4) (c3 (.int 8)))) (ar (aC [(c3 (.str "then")),(v3 5),(v3 6)])) aI)
  (ah (bd (lw (aM (ag (bq false) (v3 4) (c3 (.int 8)))) (aM (ag (bq false) (al bA [(v3 1)]) (c3 (.int 0))))) (ar (aC [(c3 (.str "either")),(v3 5),(v3 6)])) aI)
  (ah (aq 7 (ag af (bb [(c3 (.int 1)),(c3 (.int 1)),(c3 (.int 2)),(ag aK (c3 (.int 1)) (ab Hj [(v3 0),(c3 (.int 9))]))]) (ab Hj [(v3 0),(c3 (.int 4))])))
  (ar (aC [(c3 (.str "take")),(ag af (v3 1) (ab Hj [(v3 0),(al bA [(v3 1)])])),(v3 7),(v3 5),(v3 6)])))))))))))
def cM(s0:au):bv:=(ah (bd (aM (ag (bq false) (ag af (v3 0) (c3 (.int 0))) (c3 (.str "then")))) (ar (ag bX (ab s0 [(ag af (v3 0) (c3 (.int 1)))]) (ab s0 [(ag af (v3 0) (c3 (.int 2)))]))) aI)
  (ah (bd (lw (aM (ag (bq false) (ag af (v3 0) (c3 (.int 0))) (c3 (.str "either")))) (aM (ag (bq false) (ag af (v3 0) (c3 (.int 0))) (c3 (.str "take"))))) (ar (ag aK (ab s0 [(ag af (v3 0) (fx bG (c3 (.int 2))))]) (ab s0 [(ag af (v3 0) (fx bG (c3 (.int 1))))]))) aI)
  (ar (c3 (.int 1)))))
def cx(Io s0:au):bv:=(ah (bd (aM (ag (bq false) (ag af (v3 0) (c3 (.int 0))) (c3 (.str "often")))) (ar (ag aK (ab Io [(ag af (v3 0) (c3 (.int 1)))]) (ab s0 [(ag af (v3 0) (c3 (.int 1)))]))) aI)
  (ah (bd (aM (ag (fJ false) (ag af (v3 0) (c3 (.int 0))) (aC [(c3 (.str "then")),(c3 (.str "either")),(c3 (.str "take"))]))) (ar (ag aK (ab s0 [(ag af (v3 0) (fx bG (c3 (.int 2))))]) (ab s0 [(ag af (v3 0) (fx bG (c3 (.int 1))))]))) aI)
  (ar (c3 (.int 0)))))
def c_(Mg Io Kv Ju:au):bv:=(ah (aq 4 (ab Mg [(v3 0),(v3 1),(bb [(ag ci (v3 2) (c3 (.int 1)))]),(c3 (.int 5))]))
  (ah (bd (aM (ag xA (ag aK (ab Io [(v3 4)]) (ab Kv [(v3 4)])) (v3 3))) (aq 4 (aC [(c3 (.str "then")),(aC [(c3 (.str "often")),(ab Ju [(v3 0),(v3 1)])]),(ab Ju [(v3 0),(v3 1)])])) aI)
  (ar (v3 4))))
def fP(LJ Hj KN:au):bv:=(ah (aq 4 (ab LJ [(v3 0),(c3 (.int 8))]))
  (ah (aq 5 (al aP [(aY (v3 4) jq (i6 (ab Hj [(v3 0),(ag aK (v3 1) (c3 (.int 1)))])))]))
  (ah (aq 6 (ag af (bb [(c3 (.int 0)),(c3 (.int 4))]) (ab Hj [(v3 0),(c3 (.int 2))])))
  (ah (aq 7 (ag aK (c3 (.int 1)) (ab Hj [(v3 0),(v3 2)])))
  (ah (aq 8 (aG (jy (v3 7)) (.n 0) bx (aC [(ag af (v3 6) (ag aK (v3 2) (v3 0))),(ab KN [(v3 1),(v3 3),(v3 5),(ag gK (c3 (.int 24)) (v3 4))])]) 1 [0,6,5,7,3,4]))
  (ar (aC [(v3 5),(al aP [(v3 8)])])))))))
def jC:bv:=(ar (aY (v3 0) (i6 (tT C.k_SIDES_FROM (ag af (v3 0) (c3 (.int 0))) (al bA [(v3 0)]))) jq))
def jD(Kw s0:au):bv:=(ah (aq 1 (bb [(v3 0)]))
  (ah (b_ (aF (ab Kw [(v3 0)])) (.n 2) (bL (lz "list" dv (v3 1) [(ab s0 [(v3 2)])])))
  (ar (v3 1))))
def mH:bv:=(ah (g_ (aM (ag (bq true) (v3 1) (c3 (.int 0)))) (ah (aq 2 (ag hU (v3 0) (v3 1)))
  (ah (aq 0 (v3 1))
  (aq 1 (v3 2)))))
  (ar (al u4 [(v3 0)])))
def jE(M1:au):bv:=(ah (aq 2 (ab M1 [(v3 0),(v3 1)]))
  (ah (bd (aM (ag qp (v3 1) (c3 (.int 0)))) (aq 2 (fx bG (v3 2))) aI)
  (ar (aC [(ag gK (v3 0) (v3 2)),(ag gK (v3 1) (v3 2))]))))
def sx(Jb:au):bv:=(ar (ab Jb [(ag aK (ag bX (ag af (v3 0) (c3 (.int 0))) (ag af (v3 1) (c3 (.int 1)))) (ag bX (ag af (v3 1) (c3 (.int 0))) (ag af (v3 0) (c3 (.int 1))))),(ag bX (ag af (v3 0) (c3 (.int 1))) (ag af (v3 1) (c3 (.int 1))))]))
def o_(Jb:au):bv:=(ar (ab Jb [(ag bX (ag af (v3 0) (c3 (.int 0))) (ag af (v3 1) (c3 (.int 0)))),(ag bX (ag af (v3 0) (c3 (.int 1))) (ag af (v3 1) (c3 (.int 1))))]))
def lA(HB:au):bv:=(ar (ab HB [(ag aK (ag bX (ag af (v3 0) (c3 (.int 0))) (ag af (v3 1) (c3 (.int 1)))) (ag bX (ag af (v3 1) (c3 (.int 0))) (ag af (v3 0) (c3 (.int 1))))),(ag bX (ag af (v3 0) (c3 (.int 1))) (ag af (v3 1) (c3 (.int 1))))]))
def pd(Kx:au):bv:=(ar (al bA [(ab Kx [(v3 0)])]))
def kL:bv:=(ar (ag (fJ true) (ag af (v3 0) (c3 (.int 0))) (aC [(c3 (.str "rest")),(c3 (.str "then"))])))
def kM(Kx KO:au):bv:=(ar (al bA [(aG (aF (ab Kx [(v3 0)])) (.n 0) (aM (ab KO [(v3 0)])) (v3 0) 1 [])]))
def pe(IB:au):bv:=(ah (bd (aM (ag (bq false) (ab IB [(v3 0)]) (c3 (.int 0)))) (ar (v3 2)) aI)
  (ar (v3 1)))
def cO(IB Kn s0 s1 s2 s3:au):bv:=(ah (aq 3 (ag aK (v3 1) (ab IB [(ag af (v3 0) (c3 (.int 1)))])))
  (ah (aq 4 (ab Kn [(ag af (v3 0) (c3 (.int 2))),(v3 3),(v3 2)]))
  (ar (ag aK (ab s3 [(ag af (v3 0) (c3 (.int 1))),(v3 1),(v3 4)]) (ab s3 [(ag af (v3 0) (c3 (.int 2))),(v3 3),(v3 2)])))))
def cb(IB Kn s0 s1 s2 s3:au):bv:=(ah (aq 3 (ag af (v3 0) (fx bG (c3 (.int 2)))))
  (ah (aq 4 (ag af (v3 0) (fx bG (c3 (.int 1)))))
  (ah (aq 5 (ag aK (ag aK (v3 1) (c3 (.int 1))) (ab IB [(v3 3)])))
  (ah (aq 6 (ag aK (aY (v3 0) jq (i6 (fx bG (c3 (.int 2))))) (aC [(ab Kn [(v3 3),(ag aK (v3 1) (c3 (.int 1))),(v3 2)]),(ab Kn [(v3 4),(v3 5),(v3 2)])])))
  (ar (ag aK (ag aK (aC [(v3 6)]) (ab s3 [(v3 3),(ag aK (v3 1) (c3 (.int 1))),(v3 2)])) (ab s3 [(v3 4),(v3 5),(v3 2)])))))))
def cp(Kn s0 s1 s2 s3:au):bv:=(ah (aq 3 (aC [(c3 (.str "often")),(ab Kn [(ag af (v3 0) (c3 (.int 1))),(ag aK (v3 1) (c3 (.int 1))),(v3 1)]),(v3 2)]))
  (ar (ag aK (aC [(v3 3)]) (ab s3 [(ag af (v3 0) (c3 (.int 1))),(ag aK (v3 1) (c3 (.int 1))),(v3 1)]))))
def iJ(s0 s1 s2 s3:au):bv:=(ah (aq 3 (ag af (v3 0) (c3 (.int 0))))
  (ah (bd (aM (ag (bq false) (v3 3) (c3 (.str "rest")))) (ar (aC [])) aI)
  (ah (bd (aM (ag (bq false) (v3 3) (c3 (.str "then")))) (ar (ab s0 [(v3 0),(v3 1),(v3 2)])) aI)
  (ah (bd (aM (ag (bq false) (v3 3) (c3 (.str "often")))) (ar (ab s2 [(v3 0),(v3 1),(v3 2)])) aI)
  (ah (bd (aM (ag (fJ false) (v3 3) (aC [(c3 (.str "either")),(c3 (.str "take"))]))) (ar (ab s1 [(v3 0),(v3 1),(v3 2)])) aI)
  (ar (aC [(ag aK (v3 0) (aC [(v3 2)]))])))))))
def pg(MK IB:au):bv:=(ar (ag aK (ab MK [(v3 0),(c3 (.int 0)),(ab IB [(v3 0)])]) (aC [(aC [(c3 (.str "end"))])])))
def fh(s0:au):bv:=(ah (bd (aM (ag (bq false) (ag af (v3 0) (c3 (.int 0))) (c3 (.str "then")))) (ar (aC [(ab s0 [(ag af (v3 0) (c3 (.int 1)))]),(ab s0 [(ag af (v3 0) (c3 (.int 2)))])])) aI)
  (ah (bd (aM (ag (bq false) (ag af (v3 0) (c3 (.int 0))) (c3 (.str "either")))) (ar (aC [(c3 (.int 0)),(ab s0 [(ag af (v3 0) (c3 (.int 1)))])])) aI)
  (ah (bd (aM (ag (bq false) (ag af (v3 0) (c3 (.int 0))) (c3 (.str "take")))) (ar (aC [(c3 (.int 1)),(ab s0 [(ag af (v3 0) (c3 (.int 4)))])])) aI)
  (ar (aC [])))))
def fi(NA Ks s0:au):bv:=(ah (bd (aM (ag (bq false) (v3 1) (c3 (.int 0)))) (ar (v3 2)) aI)
  (ah (bd (aM (ag (bq false) (ag af (v3 0) (c3 (.int 0))) (c3 (.str "often")))) (ar (aC [(aC [(c3 (.int 1)),(ab s0 [(ag af (v3 0) (c3 (.int 1))),(ag ci (v3 1) (c3 (.int 1))),(v3 2)])])])) aI)
  (ah (aq 3 (ag af (v3 0) (fx bG (c3 (.int 2)))))
  (ah (aq 4 (ag af (v3 0) (fx bG (c3 (.int 1)))))
  (ah (aq 5 (ag aK (c3 (.int 1)) (ab NA [(v3 3)])))
  (ah (aq 6 (uX (aM (ag qp (v3 1) (v3 5))) (c3 (.int 0)) (c3 (.int 1))))
  (ah (aq 7 (uX (aM (ag (bq false) (v3 6) (c3 (.int 0)))) (ab s0 [(v3 3),(ag ci (v3 1) (c3 (.int 1))),(v3 2)]) (ab s0 [(v3 4),(ag ci (v3 1) (v3 5)),(v3 2)])))
  (ah (bd (aM (ag (bq true) (ag af (v3 0) (c3 (.int 0))) (c3 (.str "then")))) (ar (aC [(v3 6),(v3 7)])) aI)
  (ah (bd (aM (ag (bq false) (v3 6) (c3 (.int 0)))) (ar (aC [(v3 7),(ab Ks [(v3 4)])])) aI)
  (ar (aC [(ab Ks [(v3 3)]),(v3 7)])))))))))))
def ig(s0:au):bv:=(ah (bd (aM (ag (bq false) (ag af (v3 0) (c3 (.int 0))) (c3 (.str "put")))) (bL (lz "list" bO (v3 2) [(ag af (v3 0) (c3 (.int 1)))])) aI)
  (ah (bd (aM (ag (bq false) (ag af (v3 0) (c3 (.int 0))) (c3 (.str "often")))) (bL (ab s0 [(ag af (v3 0) (c3 (.int 1))),(v3 1),(v3 2)])) aI)
  (bd (aM (ag (fJ false) (ag af (v3 0) (c3 (.int 0))) (aC [(c3 (.str "then")),(c3 (.str "either")),(c3 (.str "take"))]))) (ah (bd (lw (aM (ag (bq true) (ag af (v3 0) (c3 (.int 0))) (c3 (.str "take")))) (aM (ag (fJ false) (ag af (v3 0) (c3 (.int 1))) (v3 1)))) (bL (ab s0 [(ag af (v3 0) (fx bG (c3 (.int 2)))),(v3 1),(v3 2)])) aI)
  (bL (ab s0 [(ag af (v3 0) (fx bG (c3 (.int 1)))),(v3 1),(v3 2)]))) aI)))
def dJ(Mh:au):bv:=(ah (aq 1 (bb []))
  (ah (b_ (aF (ag af (v3 0) (c3 (.int 0)))) (.n 2) (ah (aq 3 (bb []))
  (ah (b_ (aF (ag af (v3 0) (c3 (.int 1)))) (.tp (.cons (.n 4) (.cons (.n 5) .nil))) (bL (ab Mh [(v3 5),(v3 1),(v3 3)])))
  (aq 1 (v3 3)))))
  (ar (v3 1))))
end C
namespace Zu
open PySem Zt
open Sem (wp)
def nn{a b:Nat}(h:a≠b):@Ne Addr a b:=h
abbrev cj(h:Heap)(T:Nat)(a b c:Value):Prop:=h.get? T=some { cls:=.type "tuple",data:=.seq #[a,b,c] }
section
variable {kd kc:Bool} {prog:Program} {w:World} {A:Around} {E:Vq} {s:Shared}
def ph{T:Addr}{a b c x:Value}{k:Nat}{Q:Unit->Shared->Prop}(hT:cj s.heap T a b c)
  (h:∀h',h'.get? T=some { cls:=.type "tuple",data:=.seq ((#[a,b,c]:Vw).setIfInBounds k x) }->Heap.SameBut T s.heap h'->Q () { s with heap:=h' }) :
  wpAny (model prog w) A (updateSeq T (·.setIfInBounds k x)) Q E s:=by
 refine Xk hT rfl (h _ ?_ (Uz ..))
 rw[Ur _ hT rfl]
 simp[Obj.mapSeq]
variable {n l1 l2 l3:Nat} {i:Nat} {xs ys zs:Vw} {x y z a b c:Value}
def oX{Q:Vq}(d1:l1 < n)(d2:l2 < n)(d3:l3 < n)(gz:IsZip s.heap (n+5) (n+3) (n+4) .none)(gI:cj s.heap (n+3) (.ref n) (.ref (n+1)) (.ref (n+2)))(gO:cj s.heap (n+4) a b c)
  (g1:Si kd s.heap n l1 i) (g2:Si kc s.heap (n+1) l2 i) (g3:Si kc s.heap (n+2) l3 i) (t1:Sq kd s.heap l1 xs) (t2:Sq kc s.heap l2 ys) (t3:Sq kc s.heap l3 zs) (hx:xs[i]?=some x) (hy:ys[i]?=some y) (hz:zs[i]?=some z)
  (k:∀g,IsZip g (n+5) (n+3) (n+4) (rawInt s.heap.objs.size)->cj g (n+4) x y z->Si kd g n l1 (i+1)->Si kc g (n+1) l2 (i+1)->Si kc g (n+2) l3 (i+1)->cj g s.heap.objs.size x y z->
   (∀c o,c≠n+5->c≠n+4->c≠n->c≠n+1->c≠n+2->s.heap.get? c=some o->g.get? c=some o)->Q (.ref s.heap.objs.size) { s with heap:=g }) :
  wpAny (model prog w) A (Builtin.«zip.__next__» ⟨[.ref (n+5)],[]⟩) (fun fin s'=>∃v,fin = .done (.ret v)/\Q v s') E s:=by
 show wpAny _ _ (field (.ref (n+5)) 2 >>= _) _ _ _;refine Tc (Us gz rfl (x:=.bool false) rfl ?_)
 show wpAny _ _ (field (.ref (n+5)) 3 >>= _) _ _ _;refine Tc (Us gz rfl (x:=.ref (n+3)) rfl (Tc (Uo gI rfl ?_)))
 show wpAny _ _ (Builtin.SmallTypes.ownedTupleIsFree (.ref (n+5)) >>= _) _ _ _;refine Tc ?_;unfold Builtin.SmallTypes.ownedTupleIsFree
 refine Tc (Us gz rfl (x:=.none) rfl (Tf ?_));simp only[Ua]
 refine Tc (Vp (Tc (Us gz rfl (x:=.ref (n+4)) rfl (Tc (UE gz (by simp) fun h₁ z1 q1=>?_)))))
 replace z1:IsZip h₁ (n+5) (n+3) (n+4) .ellipsis:=z1
 refine Tc ?_;simp only[List.zipIdx_cons,List.zipIdx_nil,WA,List.forIn_nil]
 refine Tc (Tc (VX ?_));show wpAny _ _ (Builtin.SmallTypes.nextOf (.ref n) >>= _) _ _ _
 refine Tc (DE (g1.extBut q1.extBut (nn (by omega))) (t1.extBut q1.extBut (nn (by omega))) hx fun h₂ n1 q2=>Tf ?_)
 have o2:cj h₂ (n+4) a b c:=q2.extBut _ _ (nn (by omega)) (q1.extBut _ _ (nn (by omega)) gO)
 refine Tc (Uo o2 rfl (Tc (ph o2 fun h₃ o3 q3=>?_)))
 replace o3:cj h₃ (n+4) x b c:=o3
 refine Tc (WM (Tf ?_));refine Tc (Tc (VX ?_));show wpAny _ _ (Builtin.SmallTypes.nextOf (.ref (n+1)) >>= _) _ _ _
 refine Tc (DE (((g2.extBut q1.extBut (nn (by omega))).extBut q2.extBut (nn (by omega))).extBut q3.extBut (nn (by omega))) (((t2.extBut q1.extBut (nn (by omega))).extBut q2.extBut (nn (by omega))).extBut q3.extBut (nn (by omega))) hy fun h₄ n2 q4=>Tf ?_)
 have o4:cj h₄ (n+4) x b c:=q4.extBut _ _ (nn (by omega)) o3
 refine Tc (Uo o4 rfl (Tc (ph o4 fun h₅ o5 q5=>?_)))
 replace o5:cj h₅ (n+4) x y c:=o5
 refine Tc (WM (Tf ?_));refine Tc (Tc (VX ?_));show wpAny _ _ (Builtin.SmallTypes.nextOf (.ref (n+2)) >>= _) _ _ _
 refine Tc (DE (((((g3.extBut q1.extBut (nn (by omega))).extBut q2.extBut (nn (by omega))).extBut q3.extBut (nn (by omega))).extBut q4.extBut (nn (by omega))).extBut q5.extBut (nn (by omega))) (((((t3.extBut q1.extBut (nn (by omega))).extBut q2.extBut (nn (by omega))).extBut q3.extBut (nn (by omega))).extBut q4.extBut (nn (by omega))).extBut q5.extBut (nn (by omega))) hz fun h₆ n3 q6=>Tf ?_)
 have o6:cj h₆ (n+4) x y c:=q6.extBut _ _ (nn (by omega)) o5
 refine Tc (Uo o6 rfl (Tc (ph o6 fun h₇ o7 q7=>?_)))
 replace o7:cj h₇ (n+4) x y z:=o7
 refine Tc (WM (Tf (Tf ?_)));refine Tc (Uo o7 rfl (Tc (wpAny_newTuple ?_)))
 have sz:h₇.objs.size=s.heap.objs.size:=by rw[q7.1,q6.1,q5.1,q4.1,q3.1,q2.1,q1.1]
 have kk:∀c o,c≠n+5->c≠n+4->c≠n->c≠n+1->c≠n+2->s.heap.get? c=some o->h₇.get? c=some o:=fun c o c1 c2 c3 c4 c5 e=>q7.extBut _ _ c2 (q6.extBut _ _ c5 (q5.extBut _ _ c2 (q4.extBut _ _ c4 (q3.extBut _ _ c2 (q2.extBut _ _ c3 (q1.extBut _ _ c1 e))))))
 have z7:IsZip h₇ (n+5) (n+3) (n+4) .ellipsis:=q7.extBut _ _ (nn (by omega)) (q6.extBut _ _ (nn (by omega)) (q5.extBut _ _ (nn (by omega)) (q4.extBut _ _ (nn (by omega)) (q3.extBut _ _ (nn (by omega)) (q2.extBut _ _ (nn (by omega)) z1)))))
 have m1:Si kd h₇ n l1 (i+1):=((((n1.extBut q3.extBut (nn (by omega))).extBut q4.extBut (nn (by omega))).extBut q5.extBut (nn (by omega))).extBut q6.extBut (nn (by omega))).extBut q7.extBut (nn (by omega))
 have m2:Si kc h₇ (n+1) l2 (i+1):=((n2.extBut q5.extBut (nn (by omega))).extBut q6.extBut (nn (by omega))).extBut q7.extBut (nn (by omega))
 have m3:Si kc h₇ (n+2) l3 (i+1):=n3.extBut q7.extBut (nn (by omega))
 have zl:n+5 < h₇.objs.size:=To z7
 show wpAny _ _ (Builtin.SmallTypes.ownedTupleHandOut (.ref (n+5)) (.ref h₇.objs.size) >>= _) _ _ _;refine Tc ?_;unfold Builtin.SmallTypes.ownedTupleHandOut
 have z8:IsZip (h₇.push { cls:=.type "tuple",data:=.seq #[x,y,z] }) (n+5) (n+3) (n+4) .ellipsis:=Td _ z7
 refine Tc (UE z8 (by simp) fun h₉ z9 q9=>?_)
 replace z9:IsZip h₉ (n+5) (n+3) (n+4) (rawInt h₇.objs.size):=z9
 refine UE z9 (by simp) fun g za qa=>?_
 replace za:IsZip g (n+5) (n+3) (n+4) (rawInt h₇.objs.size):=za
 have up:∀c o,c≠n+5->h₇.get? c=some o->g.get? c=some o:=fun c o c1 e=>qa.extBut _ _ c1 (q9.extBut _ _ c1 (Td _ e))
 have T8:cj g h₇.objs.size x y z:=qa.extBut _ _ (UU zl) (q9.extBut _ _ (UU zl) (Tn _ rfl))
 rw[sz]at za T8
 refine Tf ⟨_,rfl,?_⟩
 show Q (.ref h₇.objs.size) _
 rw[sz]
 exact k g za (up _ _ (nn (by omega)) o7) (m1.at fun o e=>up _ o (nn (by omega)) e) (m2.at fun o e=>up _ o (nn (by omega)) e) (m3.at fun o e=>up _ o (nn (by omega)) e) T8 fun c o c1 c2 c3 c4 c5 e=>up c o c1 (kk c o c1 c2 c3 c4 c5 e)
def sf{Q:Fin->Shared->Prop}(hh:A.handled=none)(d1:l1 < n)(gz:IsZip s.heap (n+5) (n+3) (n+4) .none)(gI:cj s.heap (n+3) (.ref n) (.ref (n+1)) (.ref (n+2)))
  (g1:Si kd s.heap n l1 i) (t1:Sq kd s.heap l1 xs) (hx:xs[i]?=none)
  (k:∀(g:Heap) (e:Addr),(∀c o,c≠n+5->c≠n+4->c≠n->c≠n+1->c≠n+2->s.heap.get? c=some o->g.get? c=some o)->(∃o,g.get? e=some o/\o.cls = .type "StopIteration")->E (.ref e) { s with heap:=g }) :
  wpAny (model prog w) A (Builtin.«zip.__next__» ⟨[.ref (n+5)],[]⟩) Q E s:=by
 show wpAny _ _ (field (.ref (n+5)) 2 >>= _) _ _ _;refine Tc (Us gz rfl (x:=.bool false) rfl ?_)
 show wpAny _ _ (field (.ref (n+5)) 3 >>= _) _ _ _;refine Tc (Us gz rfl (x:=.ref (n+3)) rfl (Tc (Uo gI rfl ?_)))
 show wpAny _ _ (Builtin.SmallTypes.ownedTupleIsFree (.ref (n+5)) >>= _) _ _ _;refine Tc ?_;unfold Builtin.SmallTypes.ownedTupleIsFree
 refine Tc (Us gz rfl (x:=.none) rfl (Tf ?_));simp only[Ua]
 refine Tc (Vp (Tc (Us gz rfl (x:=.ref (n+4)) rfl (Tc (UE gz (by simp) fun h₁ z1 q1=>?_)))))
 replace z1:IsZip h₁ (n+5) (n+3) (n+4) .ellipsis:=z1
 refine Tc ?_;simp only[List.zipIdx_cons,List.zipIdx_nil,WA,List.forIn_nil]
 refine Tc (Tc (VX ?_));show wpAny _ _ (Builtin.SmallTypes.nextOf (.ref n) >>= _) _ _ _
 refine Tc (Cw hh (g1.extBut q1.extBut (nn (by omega))) (t1.extBut q1.extBut (nn (by omega))) hx fun h₂ e q2 ⟨oe,ge,ce⟩=>?_)
 have z2:IsZip h₂ (n+5) (n+3) (n+4) .ellipsis:=q2 _ _ (nn (by omega)) z1
 have ez:e≠n+5:=fun u=>by subst u;rw[z2]at ge;cases ge;simp at ce
 exact UE z2 (by simp) fun h₃ _ q3=>k h₃ e (fun c o c1 _ c3 _ _ u=>q3.extBut _ _ c1 (q2 _ _ c3 (q1.extBut _ _ c1 u))) ⟨oe,q3.extBut _ _ ez ge,ce⟩
def kE{Q:Option Value->Shared->Prop}(d1:l1 < n)(d2:l2 < n)(d3:l3 < n)(gz:IsZip s.heap (n+5) (n+3) (n+4) .none)(gI:cj s.heap (n+3) (.ref n) (.ref (n+1)) (.ref (n+2)))(gO:cj s.heap (n+4) a b c)
  (g1:Si kd s.heap n l1 i) (g2:Si kc s.heap (n+1) l2 i) (g3:Si kc s.heap (n+2) l3 i) (t1:Sq kd s.heap l1 xs) (t2:Sq kc s.heap l2 ys) (t3:Sq kc s.heap l3 zs) (hx:xs[i]?=some x) (hy:ys[i]?=some y) (hz:zs[i]?=some z)
  (k:∀g,IsZip g (n+5) (n+3) (n+4) (rawInt s.heap.objs.size)->cj g (n+4) x y z->Si kd g n l1 (i+1)->Si kc g (n+1) l2 (i+1)->Si kc g (n+2) l3 (i+1)->cj g s.heap.objs.size x y z->
   (∀c o,c≠n+5->c≠n+4->c≠n->c≠n+1->c≠n+2->s.heap.get? c=some o->g.get? c=some o)->Q (some (.ref s.heap.objs.size)) { s with heap:=g }):wpAny (model prog w) A (pyNext (.ref (n+5))) Q E s:=by
 have ty:s.TypeIs (.ref (n+5)) "zip":=⟨_,gz,rfl⟩
 unfold pyNext
 exact Tc (Wc (Ui (name:=Str.ofString "__next__") ty Vx (Uv Vx ty Xd
  (oX d1 d2 d3 gz gI gO g1 g2 g3 t1 t2 t3 hx hy hz fun g a1 a2 a3 a4 a5 a6 a7=>Tf (k g a1 a2 a3 a4 a5 a6 a7)) (W0 _))))
def mj{Q:Option Value->Shared->Prop}(hh:A.handled=none)(d1:l1 < n)(gz:IsZip s.heap (n+5) (n+3) (n+4) .none)(gI:cj s.heap (n+3) (.ref n) (.ref (n+1)) (.ref (n+2)))
  (g1:Si kd s.heap n l1 i) (t1:Sq kd s.heap l1 xs) (hx:xs[i]?=none)
  (k:∀g:Heap,(∀c o,c≠n+5->c≠n+4->c≠n->c≠n+1->c≠n+2->s.heap.get? c=some o->g.get? c=some o)->Q none { s with heap:=g }):wpAny (model prog w) A (pyNext (.ref (n+5))) Q E s:=by
 have ty:s.TypeIs (.ref (n+5)) "zip":=⟨_,gz,rfl⟩
 unfold pyNext
 refine Tc (Wc (Ui (name:=Str.ofString "__next__") ty Vx (Uv Vx ty Xd (sf hh d1 gz gI g1 t1 hx fun g e kk ⟨o,ho,hc⟩=>?_) (W0 _))))
 exact Tc (V0 (T:="StopIteration") (b:=true) ⟨o,ho,hc⟩ Xs (Tf (k _ kk)))
end
def G7(a b c:Value):checkTypeCall "zip" ⟨[a,b,c],[]⟩=pure ():=by kernel_rfl
def G8(a b c:Value):checkBuiltinCall "zip.__new__" ⟨[.type "zip",a,b,c],[]⟩=pure ():=by kernel_rfl
def G9(a b c d:Value):argsOk "object.__init__" ⟨[a,b,c,d],[]⟩:=by
 unfold argsOk;rw[signature?_of (id:="object.__init__") (n:="__init__".toList.reverse) (o:="object".toList.reverse) (by kernel_rfl) F.owner_object];kernel_rfl
noncomputable abbrev K3(kd kc:Bool)(h:Heap)(l1 l2 l3:Addr):Heap:=((h.push (it kd l1)).push (it kc l2)).push (it kc l3)
noncomputable abbrev K4(kd kc:Bool)(h:Heap)(l1 l2 l3:Addr):Heap:=(K3 kd kc h l1 l2 l3).push { cls:=.type "tuple",data:=.seq #[.ref h.objs.size,.ref (h.push (it kd l1)).objs.size,.ref ((h.push (it kd l1)).push (it kc l2)).objs.size] }
noncomputable abbrev K5(kd kc:Bool)(h:Heap)(l1 l2 l3:Addr):Heap:=(K4 kd kc h l1 l2 l3).push { cls:=.type "tuple",data:=.seq #[.none,.none,.none] }
noncomputable abbrev K6(kd kc:Bool)(h:Heap)(l1 l2 l3:Addr):Heap:=(K5 kd kc h l1 l2 l3).push { cls:=.type "zip",data:=.fields #[.none,.bool false,.bool false,.ref (K3 kd kc h l1 l2 l3).objs.size,.ref (K4 kd kc h l1 l2 l3).objs.size] }
def fD(kd kc:Bool)(l1 l2 l3:Addr)(xs ys zs:Vw) :
  Meets (Builtin.«zip.__new__» ⟨[.type "zip",.ref l1,.ref l2,.ref l3],[]⟩) (fun _ R s=>Sq kd s.heap l1 xs/\Sq kc s.heap l2 ys/\Sq kc s.heap l3 zs/\R (.ok (.ret (.ref (K5 kd kc s.heap l1 l2 l3).objs.size))) { s with heap:=K6 kd kc s.heap l1 l2 l3 }):=
 .of_wp fun prog w A R s h=>by
  obtain⟨hp,g,d,tk,os⟩:=s;obtain⟨e1,e2,e3,h⟩:=h
  have hsub:=sub_zip
  cases kd with
  |false=>
   cases kc with
   |false=>
    have L1:Heap.IsTuple (Shared.heap ⟨hp,g,d,tk,os⟩) l1 xs:=e1
    have L2:Heap.IsTuple (Shared.heap ⟨hp.push { cls:=.type "tuple_iterator",data:=.fields #[.ref l1,.int 0 0] },g,d,tk,os⟩) l2 ys:=Vc e2 _
    have L3:Heap.IsTuple (Shared.heap ⟨(hp.push { cls:=.type "tuple_iterator",data:=.fields #[.ref l1,.int 0 0] }).push { cls:=.type "tuple_iterator",data:=.fields #[.ref l2,.int 0 0] },g,d,tk,os⟩) l3 zs:=Vc (Vc e3 _) _
    wp_walk using Um L1,Um L2,Um L3
    exact⟨_,rfl,h⟩
   |true=>
    have L1:Heap.IsTuple (Shared.heap ⟨hp,g,d,tk,os⟩) l1 xs:=e1
    have L2:Heap.IsList (Shared.heap ⟨hp.push { cls:=.type "tuple_iterator",data:=.fields #[.ref l1,.int 0 0] },g,d,tk,os⟩) l2 ys:=Vi e2 _
    have L3:Heap.IsList (Shared.heap ⟨(hp.push { cls:=.type "tuple_iterator",data:=.fields #[.ref l1,.int 0 0] }).push { cls:=.type "list_iterator",data:=.fields #[.ref l2,.int 0 0] },g,d,tk,os⟩) l3 zs:=Vi (Vi e3 _) _
    wp_walk using Um L1,Ul L2,Ul L3
    exact⟨_,rfl,h⟩
  |true=>
   cases kc with
   |false=>
    have L1:Heap.IsList (Shared.heap ⟨hp,g,d,tk,os⟩) l1 xs:=e1
    have L2:Heap.IsTuple (Shared.heap ⟨hp.push { cls:=.type "list_iterator",data:=.fields #[.ref l1,.int 0 0] },g,d,tk,os⟩) l2 ys:=Vc e2 _
    have L3:Heap.IsTuple (Shared.heap ⟨(hp.push { cls:=.type "list_iterator",data:=.fields #[.ref l1,.int 0 0] }).push { cls:=.type "tuple_iterator",data:=.fields #[.ref l2,.int 0 0] },g,d,tk,os⟩) l3 zs:=Vc (Vc e3 _) _
    wp_walk using Ul L1,Um L2,Um L3
    exact⟨_,rfl,h⟩
   |true=>
    have L1:Heap.IsList (Shared.heap ⟨hp,g,d,tk,os⟩) l1 xs:=e1
    have L2:Heap.IsList (Shared.heap ⟨hp.push { cls:=.type "list_iterator",data:=.fields #[.ref l1,.int 0 0] },g,d,tk,os⟩) l2 ys:=Vi e2 _
    have L3:Heap.IsList (Shared.heap ⟨(hp.push { cls:=.type "list_iterator",data:=.fields #[.ref l1,.int 0 0] }).push { cls:=.type "list_iterator",data:=.fields #[.ref l2,.int 0 0] },g,d,tk,os⟩) l3 zs:=Vi (Vi e3 _) _
    wp_walk using Ul L1,Ul L2,Ul L3
    exact⟨_,rfl,h⟩
section
variable {kd kc:Bool} {prog:Program} {w:World} {A:Around} {E:Vq} {s:Shared}
def gV{l1 l2 l3:Addr}{xs ys zs:Vw}{Q:Vq}(e1:Sq kd s.heap l1 xs)(e2:Sq kc s.heap l2 ys)(e3:Sq kc s.heap l3 zs)
  (k:∀g,IsZip g (s.heap.objs.size+5) (s.heap.objs.size+3) (s.heap.objs.size+4) .none->cj g (s.heap.objs.size+3) (.ref s.heap.objs.size) (.ref (s.heap.objs.size+1)) (.ref (s.heap.objs.size+2))->
   cj g (s.heap.objs.size+4) .none .none .none->Si kd g s.heap.objs.size l1 0->Si kc g (s.heap.objs.size+1) l2 0->Si kc g (s.heap.objs.size+2) l3 0->
   (∀c o,s.heap.get? c=some o->g.get? c=some o)->Q (.ref (s.heap.objs.size+5)) { s with heap:=g }) :
  wpAny (model prog w) A (call (.type "zip") [.ref l1,.ref l2,.ref l3]) Q E s:=by
 refine callType_new F.called_zip (by decide) (G7 _ _ _) (G8 _ _ _) (fun obj=>G9 obj _ _ _) F.entry_zip_new (fD kd kc l1 l2 l3 xs ys zs) ⟨e1,e2,e3,?_⟩
 have z1:(s.heap.push (it kd l1)).objs.size=s.heap.objs.size+1:=Uj ..
 have z2:((s.heap.push (it kd l1)).push (it kc l2)).objs.size=s.heap.objs.size+2:=by rw[Uj,z1]
 have z3:(K3 kd kc s.heap l1 l2 l3).objs.size=s.heap.objs.size+3:=by rw[Uj,z2]
 have z4:(K4 kd kc s.heap l1 l2 l3).objs.size=s.heap.objs.size+4:=by rw[Uj,z3]
 have z5:(K5 kd kc s.heap l1 l2 l3).objs.size=s.heap.objs.size+5:=by rw[Uj,z4]
 have p:∀{h:Heap} {b:Addr} {o o':Obj},h.get? b=some o->(h.push o').get? b=some o:=fun e=>Td _ e
 have g6:(K6 kd kc s.heap l1 l2 l3).get? (K5 kd kc s.heap l1 l2 l3).objs.size=some _:=Tn _ rfl
 have g5:(K6 kd kc s.heap l1 l2 l3).get? (K4 kd kc s.heap l1 l2 l3).objs.size=some _:=p (Tn _ rfl)
 have g4:(K6 kd kc s.heap l1 l2 l3).get? (K3 kd kc s.heap l1 l2 l3).objs.size=some _:=p (p (Tn _ rfl))
 have g3:(K6 kd kc s.heap l1 l2 l3).get? ((s.heap.push (it kd l1)).push (it kc l2)).objs.size=some _:=p (p (p (Tn _ rfl)))
 have g2:(K6 kd kc s.heap l1 l2 l3).get? (s.heap.push (it kd l1)).objs.size=some _:=p (p (p (p (Tn _ rfl))))
 have g1:(K6 kd kc s.heap l1 l2 l3).get? s.heap.objs.size=some _:=p (p (p (p (p (Tn _ rfl)))))
 show _/\_
 rw[z3,z4,z5]at g6
 rw[z4]at g5
 rw[z1,z2,z3]at g4
 rw[z2]at g3
 rw[z1]at g2
 rw[z5]
 exact⟨⟨_,g6,rfl⟩,k _ g6 g4 g5 (.mk g1) (.mk g2) (.mk g3) fun c o x=>p (p (p (p (p (p x)))))⟩
end
end Zu
namespace L2
open PySem PySem.Spec PyProof.Rows
noncomputable def Gm(kd kc:Bool)(K:Vo)(a b c:Addr):It:=
  ⟨fun i H=>∃xs ys zs x y z,ml kd K H a xs/\ml kc K H b ys/\ml kc K H c zs/\xs[i]?=some x/\ys[i]?=some y/\zs[i]?=some z,
   fun i H v H'=>∃p x y z,v = .ref p/\H p=none/\H'=upd H p (.tup [x,y,z])/\∀xs ys zs,ml kd K H a xs->ml kc K H b ys->ml kc K H c zs->xs[i]?=some x/\ys[i]?=some y/\zs[i]?=some z,
   fun i H=>∃xs,ml kd K H a xs/\xs.length<=i⟩
def xD{kd kc:Bool}{P:Program}{w:World}{K:Vo}{elts:List Expr}{k0:Nat}{Jw:Pos}{n a b c:Nat}(d1:a < n)(d2:b < n)(d3:c < n) :
  l9 P w K (.Tuple elts k0 Jw) (Gm kd kc K a b c) [n+5,n+3,n+4,n,n+1,n+2] (n+5) (fun i h=>IsZip h (n+5) (n+3) (n+4) .none/\Zu.cj h (n+3) (.ref n) (.ref (n+1)) (.ref (n+2))/\(∃x y z,Zu.cj h (n+4) x y z)/\Zt.Si kd h n a i/\Zt.Si kc h (n+1) b i/\Zt.Si kc h (n+2) c i) where
 mem:=by simp
 obj:=fun i h st c hc=>by
  obtain⟨gz,gI,⟨x,y,z,gO⟩,g1,g2,g3⟩:=st
  obtain⟨o1,_,e1,f1⟩:=g1.ob;obtain⟨o2,_,e2,f2⟩:=g2.ob;obtain⟨o3,_,e3,f3⟩:=g3.ob
  simp only[Th,TJ,Uq]at hc
  rcases hc with rfl|rfl|rfl|rfl|rfl|rfl
  ·exact⟨_,gz,fun v q=>by cases q⟩
  ·exact⟨_,gI,fun v q=>by cases q⟩
  ·exact⟨_,gO,fun v q=>by cases q⟩
  ·exact⟨_,e1,fun v q=>by rw[f1]at q;cases q⟩
  ·exact⟨_,e2,fun v q=>by rw[f2]at q;cases q⟩
  ·exact⟨_,e3,fun v q=>by rw[f3]at q;cases q⟩
 keep:=fun i h h' st k=>by
  obtain⟨gz,gI,⟨x,y,z,gO⟩,g1,g2,g3⟩:=st
  exact⟨k _ (by simp) _ gz,k _ (by simp) _ gI,⟨x,y,z,k _ (by simp) _ gO⟩,g1.at fun o e=>k _ (by simp) o e,g2.at fun o e=>k _ (by simp) o e,g3.at fun o e=>k _ (by simp) o e⟩
 item:=by
  intro X hP hw hK hc i pins s σ H E I hf st hg
  subst hP hw hK
  obtain⟨gz,gI,⟨ta,tb,tc,gO⟩,g1,g2,g3⟩:=st
  obtain⟨xs,ys,zs,x,y,z,LG,Og,Rl,hx,hy,hz⟩:=hg
  obtain⟨ia,ra,pa⟩:=I.KM LG
  obtain⟨ib,rb,pb⟩:=I.KM Og
  obtain⟨ic,rc,pc⟩:=I.KM Rl
  obtain⟨u,hu,ru⟩:=ra.get hx
  obtain⟨v,hv,rv⟩:=rb.get hy
  obtain⟨t,ht,rt⟩:=rc.get hz
  refine Zu.kE (kd:=kd) (kc:=kc) d1 d2 d3 gz gI gO g1 g2 g3 pa pb pc (x:=u) (y:=v) (z:=t) (by simpa using hu) (by simpa using hv) (by simpa using ht) fun g a1 a2 a3 a4 a5 a6 a7=>?_
  refine⟨_,rfl,wpAny_letOwnedTupleGo_zip (s:={ s with heap:=g }) a1 fun g' z' q'=>?_⟩
  have kk:∀c o,c ∉ ([n+5,n+3,n+4,n,n+1,n+2]:List Addr)->s.heap.get? c=some o->g'.get? c=some o:=fun c o hc e=>by
   simp only[Th,TJ,Uq,not_or]at hc
   exact q'.extBut _ _ hc.1 (a7 c o hc.1 hc.2.2.1 hc.2.2.2.1 hc.2.2.2.2.1 hc.2.2.2.2.2 e)
  have I1:Inv X pins σ H { s with heap:=g' }:=I.Jt (t':=s.toks) kk hf
  have f0:fL X pins H s.heap.objs.size:=I.Ku (Tq _) (I.hok.fresh (Tq _))
  have eT:IA g' s.heap.objs.size [u,v,t].toArray:=⟨_,q'.extBut _ _ (UU (To gz)) a6,rfl,rfl,_,rfl⟩
  have I2:=I1.LF f0 eT (.cons ru (.cons rv (.cons rt .nil))) (by show 3<=sizeLine;decide)
  refine⟨.ref s.heap.objs.size,_,I2,rfl,⟨s.heap.objs.size,x,y,z,rfl,f0.1,rfl,fun xs' ys' zs' h1 h2 h3=>by rw[I.J7 h1 LG,I.J7 h2 Og,I.J7 h3 Rl];exact⟨hx,hy,hz⟩⟩,
   ⟨z',q'.extBut _ _ (Zu.nn (by omega)) (a7 _ _ (Zu.nn (by omega)) (Zu.nn (by omega)) (Zu.nn (by omega)) (Zu.nn (by omega)) (Zu.nn (by omega)) gI),⟨_,_,_,q'.extBut _ _ (Zu.nn (by omega)) a2⟩,a3.extBut q'.extBut (Zu.nn (by omega)),a4.extBut q'.extBut (Zu.nn (by omega)),a5.extBut q'.extBut (Zu.nn (by omega))⟩,fun c hc=>?_⟩
  have hlt:c < s.heap.objs.size:=by
   obtain⟨_,_,e1,_⟩:=g1.ob
   obtain⟨_,_,e2,_⟩:=g2.ob
   obtain⟨_,_,e3,_⟩:=g3.ob
   simp only[Th,TJ,Uq]at hc
   rcases hc with rfl|rfl|rfl|rfl|rfl|rfl
   ·exact To gz
   ·exact To gI
   ·exact To gO
   ·exact To e1
   ·exact To e2
   ·exact To e3
  rw[aL (TM hlt)]
  exact(hf c hc).1
 done:=by
  intro X hP hw hK hc i pins s σ H E I hf st hg
  subst hP hw hK
  obtain⟨gz,gI,⟨ta,tb,tc,gO⟩,g1,g2,g3⟩:=st
  obtain⟨xs,LG,hl⟩:=hg
  obtain⟨ia,ra,pa⟩:=I.KM LG
  have la:=ra.length
  refine Zu.mj (kd:=kd) (I.ok.hd hc) d1 gz gI g1 pa (by simp;omega) fun g kk=>⟨rfl,I.Jt (t':=s.toks) (fun c o hc e=>?_) hf⟩
  simp only[Th,TJ,Uq,not_or]at hc
  exact kk c o hc.1 hc.2.2.1 hc.2.2.2.1 hc.2.2.2.2.1 hc.2.2.2.2.2 e
 self:=fun _ _ _ _ _ st h=>Xe st.1 h
section
variable {X:Cx}
def Gn(kd kc:Bool)(K:Vo)(ta:TA):TI:=fun σ H R=>ta σ H fun vs H1=>∃a b c,vs=[.ref a,.ref b,.ref c]/\(∃xs,ml kd K H1 a xs)/\(∃ys,ml kc K H1 b ys)/\(∃zs,ml kc K H1 c zs)/\R (Gm kd kc K a b c) H1
def CS{kd kc:Bool}{elts:List Expr}{k0:Nat}{Jw:Pos}{a b c:Expr}{ta:TA}{p pos:Pos}(hg:Gl X "zip")(hm:X.mg "zip" = none)(hv:bootBuiltins "zip" = some (.type "zip"))(ha:PA X [a,b,c] ta)
  (hs:starEach [a,b,c] X.env=[(false,eval a X.env),(false,eval b X.env),(false,eval c X.env)]) (hs2:starEach [b,c] X.env=[(false,eval b X.env),(false,eval c X.env)]):PI X (.Tuple elts k0 Jw) (.Call (.Name "zip" p) [a,b,c] [] pos) (Gn kd kc X.K ta):=by
 intro pins s σ H R I h
 refine Call_ (dH I hg hm hv (Uk (Ho (ha pos pins s σ H _ I h) fun us s1 ⟨vs,H1,I1,r1,q1⟩=>?_) (by rw[hs,hs2]) (by rw[hs2];rfl)))
 obtain⟨a,b,c,e,⟨xs,qa⟩,⟨ys,qb⟩,⟨zs,qc⟩,q⟩:=q1
 subst e
 obtain⟨u,us,rfl⟩:∃u us',us=u::us':=by cases r1;exact⟨_,_,rfl⟩
 cases r1 with
 |cons ru r1=>
 obtain⟨v,t,rfl,rv,rt⟩:=v8 r1
 cases ru
 cases rv
 cases rt
 obtain⟨ia,ra,pa⟩:=I1.KM qa
 obtain⟨ib,rb,pb⟩:=I1.KM qb
 obtain⟨ic,rc,pc⟩:=I1.KM qc
 have la:a < s1.heap.objs.size:=pa.lt
 have lb:b < s1.heap.objs.size:=pb.lt
 have lc:c < s1.heap.objs.size:=pc.lt
 refine Zu.gV (kd:=kd) (kc:=kc) pa pb pc fun g gz gI gO g1 g2 g3 kk=>?_
 refine Xe (s:={ s1 with heap:=g }) gz ?_
 refine⟨_,[s1.heap.objs.size+5,s1.heap.objs.size+3,s1.heap.objs.size+4,s1.heap.objs.size,s1.heap.objs.size+1,s1.heap.objs.size+2],_,_,H1,rfl,I1.kept (t':=s1.toks) kk,xD la lb lc,⟨gz,gI,⟨_,_,_,gO⟩,g1,g2,g3⟩,fun c hc=>?_,q⟩
 have hle:s1.heap.objs.size<=c:=by
  simp only[Th,TJ,Uq]at hc
  rcases hc with rfl|rfl|rfl|rfl|rfl|rfl
  ·exact UI _ _
  ·exact UI _ _
  ·exact UI _ _
  ·exact Tq _
  ·exact UI _ _
  ·exact UI _ _
 exact I1.Ku hle (I1.hok.fresh hle)
end
end L2
namespace L3
open PySem L2
section
variable {X:Cx} {a b c:Expr} {ta tb tc:aZ} {p pos:Pos}
noncomputable def Go(z:PV×PV×PV):PV:=.tup [z.1,z.2.1,z.2.2]
noncomputable def fQ(xs ys zs:List PV):List PV:=(xs.zip (ys.zip zs)).map Go
end
end L3
namespace L2
open PySem PySem.Spec PyProof.Rows
end L2
namespace L3
open PySem L2
end L3
namespace C
open PySem L2 L3
end C
namespace Zv
open PySem
open Sem (wp)
end Zv
namespace L2
open PySem PySem.Spec PyProof.Rows
structure NB (K:Vo) (x:Str) (st:Stmt) (T:Addr) (f:Addr) (fd:FuncData):Prop where
 ex:∃(oc:Value) (od:Option Addr) (kV doc pm:Value) (an:Option Addr) (cdv ct:Value) (osl:Array (Option Value)),
  fd=PySem.W.fnOf x x (b8 st) (bj st) (aJ st) (.ref T) kV doc pm an cdv ct/\K.lookup f=some ⟨oc,od,.func fd,osl⟩/\PySem.W.codeIn K cdv x=true
 kp:PySem.W.keepIn K (.ref f)=true
section
variable {P:Program} {w:World} {K:Vo} {mg:Vr} {base:Heap}
def NB.ok{x:Str}{st:Stmt}{T f:Addr}{fd:FuncData}{N ps:Vs}{k:Nat}{sp:Sp}(F:NB K x st T f fd)(S:dS N ps (aJ st))(len:∀vs H Q E,sp vs H Q E->vs.length=ps.length)
  (hbody:∀(cdv:Value) (A:Around) (outer:List Env) (s:Shared) (H:Hp) (vs:List V) (Q:VK) (E:XK),Room k (A.deeper (envOfC x (aJ st) s.heap.objs.size f cdv))->sp vs H Q E->
   ∃t,Ma (qy yR P w K mg base N x (aJ st) f cdv A outer s H E).N7 (bj st) t/\t { nx:=fun _ H'=>Q .non H',rt:=Q } (start N vs) H):nq P w K mg base yR (k+1) f fd ps sp:=by
 obtain⟨oc,od,kV,doc,pm,an,cdv,ct,osl,rfl,lk,hcd⟩:=F.ex
 refine A0 lk hcd S len fun A outer s H vs Q E hr Nm=>?_
 obtain⟨t,h,q⟩:=hbody cdv A outer s H vs Q E hr Nm
 exact⟨t,h.N7,q⟩
end
end L2
namespace L3
open PySem L2
section
variable {P:Program} {w:World} {K:Vo} {mg:Vr} {base:Heap}
def Gp{x:Str}{st:Stmt}{T f:Addr}{fd:FuncData}{N ps:Vs}{k:Nat}{t:bv}(F:NB K x st T f fd)(S:dS N ps (aJ st))
  (hbody:∀(cdv:Value) (A:Around) (outer:List Env) (s:Shared) (H:Hp) (E:XK),Room k (A.deeper (PyProof.Rows.envOfC x (aJ st) s.heap.objs.size f cdv))->kF (EQ P w K mg base N x st f cdv A outer s H E) (bj st) t) :
  No P w K mg base (k+1) f fd ps (aR N.length t):=
 ⟨F.ok S (fun vs H Q E h=>h.1) fun cdv A outer s H vs Q E hr ⟨hl,ps',S',Q3,E3,rv,rS,q,kk⟩=>⟨_,(hbody cdv A outer s H E hr).ok,ap N.length ps',S',_,ou rv,rS,q,.no,fun σ3 S2 σ2 H2 h2 _ J4 g2=>kk _ S2 _ H2 h2 .non J4 g2,kk,fun _ _ _ _ h2=>h2.elim,fun _ _ _ _ h2=>h2.elim⟩⟩
structure Gq (K:Vo) (mg:Vr) (x:Str) (st:Stmt) (ps:Vs) (T:Addr) (f:Addr) (fd:FuncData):Prop where
 F:NB K x st T f fd
 b:Binds K fd ps []
 d:Binds K fd ps [.bool true]
 k:PySem.W.keepIn K (.ref f)=true
 m:mg x=some (.ref f)
end
section
variable {X:Cx} {e o:Expr} {es:List Expr} {te to:aZ} {ts:List aZ} {x:Str} {p pos apos cpos:Pos} {k:Nat} {f:Addr} {fd:FuncData} {ps:Vs} {sp:au}
def kN(sp:au)(ts:List aZ):aZ:=fun σ S Q E=>ak ts σ S (fun ps S1=>sp (ps++[.bl true]) S1 Q E) E
def zX(F:No X.prog X.w X.K X.mg X.base k f fd ps sp)(hr:Room k X.A)(hg:Gl X x)(hm:X.mg x=some (.ref f))(hk:PySem.W.keepIn X.K (.ref f)=true)(hb:Binds X.K fd ps [.bool true])(he:starEach (e::es) X.env=(false,eval e X.env)::starEach es X.env)(ha:lv X (e::es) ts)
  (hl:ts.length+1=ps.length:=by rfl) (hdb:(x == ("__debug__":Str))=false:=by decide) (hpl:(backTo pos (starEach es X.env)).any (·.1)=false:=by rfl):bp X (.Call (.Name x p) (e::es) [] pos) (kN sp ts):=
 ⟨ba (tH (dvs:=[.bl true]) F.ok hr hg hm hk hb (.cons rfl .nil) A3 ha.ok hdb he hpl) fun σ H Q ⟨σ3,S,Q3,E3,rσ,rS,h,xo,k⟩=>cz rσ rS h xo fun ps' S' vs H' hl' q rv Kr g=>by
  refine⟨by rw[Te,rv.length,hl'];exact hl,ps'++[.bl true],S',Q3,E3,rv.append (.cons (.bl true) .nil),Kr,q,k.mono g⟩⟩
end
end L3
namespace L2
open PySem PySem.Spec PyProof.Rows
noncomputable def j2(its:Vw)(z:Str)(u:Tok)(i:Nat)(_:Option Fin×Unit):Sem (ForInStep (Option Fin×Unit)):=
 match its[i]? with
 |some y=>do
  let __do_lift <-eqBool y (Value.str z u)
  if __do_lift=true then do
   let __do_lift <-retInt (i:Int)
   pure (ForInStep.done (some __do_lift,()))
  else pure (ForInStep.yield (none,()))
 |_=>pure (ForInStep.yield (none,()))
theorem qJ{prog:Program}{w:World}{A:Around}{E:Vq}{z:Str}{u:Tok}{its:Vw}{k:Nat}{Q:Option Fin×Unit->Shared->Prop}(hk:∃t,its[k]?=some (.str z t)) :
  ∀(m i:Nat) (s:Shared),i+m=its.size->i<=k->(∀j v,i<=j->j < k->its[j]?=some v->∃a t,v = .str a t/\a≠z)->(∀tk,Q (some (.done (.ret (.int k tk))),()) { s with toks:=s.toks+1 })->
  wpAny (model prog w) A (forIn (List.range' i m 1) ((none,()):Option Fin×Unit) (j2 its z u)) Q E s
 |0,i,s,hm,hi,h,q=>by
  obtain⟨t,hk⟩:=hk
  have:=(Array.getElem?_eq_some_iff.mp hk).1
  omega
 |m+1,i,s,hm,hi,h,q=>by
  rw[List.range'_succ,WA]
  have hlt:i < its.size:=by omega
  by_cases e:i=k
  ·subst e
   obtain⟨t,hk⟩:=hk
   refine Tc ?_
   unfold j2
   rw[hk]
   refine Tc (wpAny_eqBool_str ?_)
   rw[TN rfl,if_pos rfl]
   exact Tc (Tc (wpAny_mkInt (Tf (Tf (Tf (q _))))))
  ·have hv:=Wr hlt
   obtain⟨a,t,ea,ne⟩:=h i _ (Tq _) (by omega) hv
   refine Tc ?_
   have eb:j2 its z u i (none,())=(do let __do_lift <-eqBool (Value.str a t) (Value.str z u);if __do_lift=true then do { let __do_lift <-retInt (i:Int);pure (ForInStep.done (some __do_lift,())) } else pure (ForInStep.yield (none,()))):=by
    unfold j2
    rw[hv,ea]
   rw[eb]
   refine Tc (wpAny_eqBool_str ?_)
   rw[Tw ne,if_neg (by decide)]
   exact Tf (qJ hk m (i+1) s (by omega) (by omega) (fun j v h1 h2=>h j v (by omega) h2) q)
def CT(l:Addr)(its:Vw)(n:Nat)(dd:Option Addr)(sl:Array (Option Value))(z:Str)(u:Tok)(k:Nat)(hk:∃t,its[k]?=some (.str z t))(h:∀j v,j < k->its[j]?=some v->∃a t,v = .str a t/\a≠z) :
  Meets (Builtin.«tuple.index» ⟨[.ref l,.str z u],[]⟩) (fun _ R s=>s.heap.get? l=some { cls:=.type "tuple",dict:=dd,data:=.seq its n,slots:=sl }/\∀tk,R (.ok (.ret (.int k tk))) { s with toks:=s.toks+1 }):=
 .of_wp fun prog w A R s hh=>by
  obtain⟨hp,g,d,tk,os⟩:=s;obtain⟨hl,q⟩:=hh
  wp_walk using WB hl
  show wpAny _ _ (forIn (⟨0,min its.size its.size,1,Nat.one_pos⟩:Std.Legacy.Range) ((none,()):Option Fin×Unit) (j2 its z u)) _ _ _
  rw[Std.Legacy.Range.forIn_eq_forIn_range']
  have e:Std.Legacy.Range.size ⟨0,min its.size its.size,1,Nat.one_pos⟩=its.size:=by unfold Std.Legacy.Range.size;simp
  rw[e]
  exact qJ hk its.size 0 _ (by omega) (Ug _) (fun j v _ hj hv=>h j v hj hv) fun tk'=>Tf ⟨_,rfl,q tk'⟩
section
variable {X:Cx}
noncomputable def zY(K:Vo):V->List V->Hp->VK->Prop:=fun x vs H Q=>∃(l:Addr) (zs:Vs) (z:Str) (k:Nat),x = .ref l/\vs=[.str z]/\SqT K H l (zs.map V.str)/\zs[k]?=some z/\(∀j:Nat,j < k->zs[j]?≠some z)/\Q (.int k) H
def vd:Cf X "tuple.index" (zY X.K):=by
 intro pins s σ H x vs v us Q I rx rv h
 obtain⟨l,zs,z,k,rfl,rfl,hT,hk,hf,q⟩:=h
 cases rx
 obtain⟨w,rfl,u,rfl⟩:=cV rv
 obtain⟨its,r1,p1,_⟩:=I.tuple hT
 obtain⟨⟨cls,dd,data,sl⟩,ho,hc,n,hd⟩:=id p1
 simp only at hc hd
 subst hc hd
 refine WG Ww ⟨_,ho,rfl⟩ PySem.F.entry_tuple_index (PySem.F.args_tuple_index_2 _ _) (CT l its.toArray n dd sl z u k ?_ ?_) ⟨ho,fun tk=>⟨.int k,H,I.tok _,⟨_,rfl⟩,q⟩⟩
 ·obtain⟨v,hv,t,rfl⟩:=r1.get (i:=k) (x:=.str z) (by rw[Tv,hk];rfl)
  exact⟨t,by simpa using hv⟩
 ·intro j v hj hv
  have hjl:j < its.length:=by simpa using(Array.getElem?_eq_some_iff.mp hv).1
  have hl:=r1.length
  rw[Ti]at hl
  obtain⟨v',hv',t,rfl⟩:=r1.get (i:=j) (x:=.str (zs[j]'(by omega))) (by rw[Tv,Tp (by omega)];rfl)
  have e:v = .str (zs[j]'(by omega)) t:=by
   have h1:its[j]?=some v:=by simpa using hv
   rw[hv']at h1;cases h1;rfl
  exact⟨_,t,e,fun h=>hf j hj (by rw[Tp (by omega),h])⟩
def zZ{pins:Va}{σ:St}{H:Hp}{s:Shared}{a:Addr}{xs:List V}(I:Inv X pins σ H s)(h:SqT X.K H a xs):s.TypeIs (.ref a) "tuple"/\∀b,Value.ref a = .ref b->∃ob,s.heap.get? b=some ob/\ob.dict=none:=by
 rcases h with h|⟨o,its,n,hk,hc,hd,_⟩
 ·obtain⟨z,its,r,o,e,hd,hc,_⟩:=h.ok I.hok
  exact⟨⟨o,e,hc⟩,fun b q=>by cases q;exact⟨o,e,hd⟩⟩
 ·exact⟨⟨o,I.MY a o hk,hc⟩,fun b q=>by cases q;exact⟨o,I.MY _ o hk,hd⟩⟩
variable {o e:Expr} {es:List Expr} {to:TE} {t:TA} {name:Str} {apos cpos:Pos} {id:String} {r:V->List V->Hp->VK->Prop}
def Gs(K:Vo)(r:V->List V->Hp->VK->Prop)(to:TE)(t:TA):TE:=fun σ H Q=>to σ H fun x H1=>(∃a xs,x = .ref a/\SqT K H1 a xs)/\t σ H1 fun xs H2=>r x xs H2 Q
def CU(pa:PlainAttrs "tuple")(slot:Slot "tuple" name id)(hty:typeOf (.builtin id)=pure (.type "method_descriptor"))(hm:Cf X id r)(ho:PE X o to)(ha:PA X (e::es) t)
  (hbase:attributeBase o name X.env (eval o X.env)=eval o X.env:=by rfl)
  (hfew:((backTo cpos (starEach (e::es) X.env)).all (fun x=>!x.1)&&(backToKw cpos (keywordEach [] X.env)).all (fun x=>x.1.isSome)
   && decide ((e::es).length+([]:List Keyword).length+(if ([]:List Keyword).isEmpty then 0 else 1) < 30))=true:=by rfl)
  (hline:(apos.endLine == cpos.line)=true:=by rfl) (hs:starEach (e::es) X.env=(false,eval e X.env)::starEach es X.env:=by rfl) (hplain:(backTo cpos (starEach es X.env)).any (·.1)=false:=by rfl) :
  PE X (.Call (.Attribute o name apos) (e::es) [] cpos) (Gs X.K r to t):=by
 intro pins s σ H Q I h
 refine wpAny_Call_method_late hbase hfew hline rfl (Ho (ho pins s σ H _ I h) fun v s1 ⟨x,H1,I1,r1,⟨a,xs,ex,hT⟩,q1⟩=>?_)
 subst ex
 have r1':=r1
 cases r1
 obtain⟨h1,h2⟩:=zZ I1 hT
 refine⟨"tuple",id,pa,slot,hty,h1,h2,?_⟩
 have hA:=ha cpos pins s1 σ H1 _ I1 q1
 rw[hs]at hA ⊢
 refine VD (by show(false || (backTo cpos (starEach es X.env)).any (·.1))=false;rw[hplain]<;>rfl) (Wg ?_)
 exact Ho hA fun us s2 ⟨vs,H2,I2,r2,q2⟩=>hm pins s2 σ H2 _ vs _ us Q I2 r1' r2 q2
end
end L2
namespace L3
open PySem L2
section
variable {X:Cx}
noncomputable def jF:List PV->Option (List Str)
 |[]=>some []
 | .str z::r=>(jF r).map (z::·)
 |_::_=>none
theorem jG:∀zs:List Str,jF (zs.map PV.str)=some zs
 |[]=>rfl
 |z::r=>by show(jF (r.map PV.str)).map (z::·)=_;rw[jG r];rfl
theorem oz:∀{ps:List PV} {zs:Vs},jF ps=some zs->ps=zs.map PV.str
 |[],zs,h=>by cases h;rfl
 | .str z::r,zs,h=>by
  unfold jF at h
  cases e:jF r with
  |none=>rw[e]at h;cases h
  |some ws=>rw[e]at h;cases h;rw[oz e];rfl
def iK:tQ:=fun x ps S Q=>match x,ps with
 | .tup xs,[.str z]=>(match jF xs with|some zs=>∃k:Nat,zs[k]?=some z/\(∀j:Nat,j < k->zs[j]?≠some z)/\Q (.int k) S|none=>False)
 |_,_=>False
theorem oA{K:Vo}{H:Hp}:∀{vs:List V} {zs:Vs},Reps K H vs (zs.map PV.str)->vs=zs.map V.str
 |[],[],_=>rfl
 |v::vs,z::zs,.cons a r=>by cases a;rw[oA r];rfl
def qK:w9 X "tuple.index" iK:=⟨fun pins s σ H x xs v us Q I rx rs ⟨px,ps,S,Q3,r1,rp,rS,q,k⟩=>by
 unfold iK at q
 split at q
 ·split at q
  ·rename_i e
   obtain⟨j,hk,hf,q⟩:=q
   cases r1 with
   |tup hq rs'=>
    rw[oz e]at rs'
    have ev:=oA rs'
    subst ev
    cases rp with
    |cons b rr=>
     cases rr;cases b
     exact vd pins s σ H _ _ v us Q I rx rs ⟨_,_,_,j,rfl,rfl,hq,hk,hf,k _ S _ H q (.int _) rS .refl⟩
  ·exact q.elim
 ·exact q.elim⟩
variable {o e:Expr} {es:List Expr} {to:aZ} {ts:List aZ} {name:Str} {apos cpos:Pos} {id:String}
def xE(r:tQ)(to:aZ)(ts:List aZ):aZ:=fun σ S Q E=>to σ S (fun x S1=>match x with | .tup _=>ak ts σ S1 (fun ps S2=>r x ps S2 Q) E|_=>False) E
def Be{r:tQ}(pa:PlainAttrs "tuple")(slot:Slot "tuple" name id)(hty:typeOf (.builtin id)=pure (.type "method_descriptor"))(hm:w9 X id r)(hs:starEach (e::es) X.env=(false,eval e X.env)::starEach es X.env)(ho:bp X o to)(ha:lv X (e::es) ts)
  (hbase:attributeBase o name X.env (eval o X.env)=eval o X.env:=by rfl)
  (hfew:((backTo cpos (starEach (e::es) X.env)).all (fun x=>!x.1)&&(backToKw cpos (keywordEach [] X.env)).all (fun x=>x.1.isSome)
   && decide ((e::es).length+([]:List Keyword).length+(if ([]:List Keyword).isEmpty then 0 else 1) < 30))=true:=by rfl)
  (hline:(apos.endLine == cpos.line)=true:=by rfl) (hplain:(backTo cpos (starEach es X.env)).any (·.1)=false:=by rfl):bp X (.Call (.Attribute o name apos) (e::es) [] cpos) (xE r to ts):=
 ⟨ba (CU pa slot hty hm.ok ho.ok ha.ok hbase hfew hline hs hplain) fun σ H Q ⟨σ3,S,Q3,E3,rσ,rS,h,xo,k⟩=>⟨σ3,S,_,E3,rσ,rS,h,xo,fun x S1 v H1 h1 rx Hz g1=>by
  split at h1
  ·have Qz:=rx
   cases rx with
   |tup hq rs=>exact⟨⟨_,_,rfl,hq⟩,cz (rσ.mono g1) Hz h1 (xo.mono g1) fun ps S2 vs H2 hl q rv J4 g2=>⟨_,ps,S2,Q3,Qz.mono g2,rv,J4,q,k.mono (g1.trans g2)⟩⟩
  ·exact h1.elim⟩⟩
end
section
variable {X:Cx} {a b:Expr} {ta tb:aZ} {p pos:Pos}
def xF(ta tb:aZ):tR:=fun σ S R E=>ta σ S (fun v S1=>tb σ S1 (fun w S2=>match v,w with
 | .tup xs,.tup ys=>R ⟨cZ xs ys,fun _=>True⟩ S2
 | .ref a,.ref b=>(match S2 a,S2 b with|some (.lst xs),some (.lst ys)=>R ⟨cZ xs ys,fun S'=>S' a=some (.lst xs)/\S' b=some (.lst ys)⟩ S2|_,_=>False)
 | .ref a,.tup ys=>(match S2 a with|some (.lst xs)=>R ⟨cZ xs ys,fun S'=>S' a=some (.lst xs)⟩ S2|_=>False)
 | .tup xs,.ref b=>(match S2 b with|some (.lst ys)=>R ⟨cZ xs ys,fun S'=>S' b=some (.lst ys)⟩ S2|_=>False)
 |_,_=>False) E) E
def CV{elts:List Expr}{k0:Nat}{Jw:Pos}(hs:starEach [a,b] X.env=[(false,eval a X.env),(false,eval b X.env)])(hs2:starEach [b] X.env=[(false,eval b X.env)])(hg:Gl X "zip")(hm:X.mg "zip" = none)(hv:bootBuiltins "zip" = some (.type "zip"))(ha:lv X [a,b] [ta,tb]) :
  vQ X (.Tuple elts k0 Jw) (.Call (.Name "zip" p) [a,b] [] pos) (xF ta tb):=
 ⟨jx (wB hg hm hv ha.ok hs hs2) fun σ H R ⟨σ3,S,R3,E3,rσ,rS,h,xo,k⟩=>⟨σ3,S,_,E3,rσ,rS,h,xo,fun v S1 v' H1 h1 rv Hz g1=>⟨σ3,S1,_,E3,rσ.mono g1,Hz,h1,xo.mono g1,fun w S2 w' H2 h2 rw' J4 g2=>by
  have L:∀{a:Addr} {xs:List PV},S2 a=some (.lst xs)->∃vs,ml true X.K H2 a vs:=fun e=>let ⟨_,h,_⟩:=J4 _ _ e;⟨_,SqL.of h⟩
  split at h2
  ·cases rv with
   |tup hq rs=>
    cases rw' with
    |tup hq2 Oh=>exact⟨false,false,_,_,rfl,⟨_,g2.t _ _ hq⟩,⟨_,hq2⟩,k _ S2 _ H2 h2 (jY (.tup (g2.t _ _ hq) (rs.mono g2)) (.tup hq2 Oh)) J4 (g1.trans g2)⟩
  ·cases rv
   cases rw'
   split at h2
   ·rename_i ea eb
    exact⟨true,true,_,_,rfl,L ea,L eb,k _ S2 _ H2 h2 (jY (.lst fun _ q=>q.1) (.lst fun _ q=>q.2)) J4 (g1.trans g2)⟩
   ·exact h2.elim
  ·cases rv
   cases rw' with
   |tup hq2 Oh=>
    split at h2
    ·rename_i ea
     exact⟨true,false,_,_,rfl,L ea,⟨_,hq2⟩,k _ S2 _ H2 h2 (jY (.lst fun _ q=>q) (.tup hq2 Oh)) J4 (g1.trans g2)⟩
    ·exact h2.elim
  ·cases rv with
   |tup hq rs=>
    cases rw'
    split at h2
    ·rename_i eb
     exact⟨false,true,_,_,rfl,⟨_,g2.t _ _ hq⟩,L eb,k _ S2 _ H2 h2 (jY (.tup (g2.t _ _ hq) (rs.mono g2)) (.lst fun _ q=>q)) J4 (g1.trans g2)⟩
    ·exact h2.elim
  ·exact h2.elim⟩⟩⟩
end
end L3
namespace C
open PySem L2 L3
def dL(Kw s0:au):bv:=(ah (aq 3 (bb [(aC [(v3 0),(v3 2)])]))
  (ah (b_ (gZ (ab Kw [(v3 0)])) (.tp (.cons (.n 4) (.cons (.n 5) .nil))) (ah (aq 6 (gW (ag (bq false) (ag af (v3 0) (c3 (.int 0))) (c3 (.str "take"))) (gW (ag (bq false) (v3 4) (c3 (.int 0))) (ag (fJ true) (ag af (v3 0) (c3 (.int 1))) (v3 1)))))
  (bL (lz "list" dv (v3 3) [(ab s0 [(v3 5),(v3 1),(gW (v3 2) (lx (v3 6)))])]))))
  (ar (v3 3))))
def ij(IK Lu:au):bv:=(ah (b_ (gZ (ag af (v3 0) (c3 (.int 1)))) (.tp (.cons (.n 2) (.cons (.n 3) .nil))) (b_ (gZ (kN IK [(ag af (v3 3) (c3 (.int 1))),(v3 1)])) (.tp (.cons (.n 4) (.cons (.n 5) .nil))) (ah (aq 6 (ag af (v3 5) (c3 (.int 0))))
  (bd (kG (aM (ag af (v3 5) (c3 (.int 1)))) (kG (aM (ag (bq false) (ag af (v3 6) (c3 (.int 0))) (c3 (.str "put")))) (aM (ag (fJ true) (ag af (v3 6) (c3 (.int 1))) (v3 1))))) (ar (aC [(xE iK (ag af (v3 0) (c3 (.int 0))) [(ag af (v3 6) (c3 (.int 1)))]),(v3 2),(ab Lu [(ag af (v3 3) (c3 (.int 1))),(v3 4),(aC [])])])) aI))))
  (ar (c3 .non)))
def kO(K1:au):bv:=(ah (aq 1 (bb []))
  (ah (aq 2 (bb []))
  (ah (aq 3 (ab K1 [(v3 0),(v3 2)]))
  (ah (g_ (aM (ag (uY true) (v3 3) (c3 .non))) (ah (bL (lz "list" bO (v3 1) [(v3 3)]))
  (ah (bL (lz "list" bO (v3 2) [(ag af (ag af (v3 0) (c3 (.int 0))) (ag af (v3 3) (c3 (.int 0))))]))
  (aq 3 (ab K1 [(v3 0),(v3 2)])))))
  (ar (v3 1))))))
def jH(ML:au):bv:=(ar (aG (aF (ab ML [(v3 0)])) (.n 0) bx (ag af (ag af (v3 1) (c3 (.int 0))) (ag af (v3 0) (c3 (.int 0)))) 1 [0]))
def eA(IK KO:au):bv:=(ah (aq 2 (aG (aF (kN IK [(v3 0),(v3 1)])) (.n 0) (aM (ab KO [(ag af (v3 0) (c3 (.int 0)))])) (v3 0) 1 []))
  (ah (aq 3 (aG (gZ (v3 2)) (.tp (.cons (.n 0) (.cons (.n 1) .nil))) (aM (ag af (v3 1) (c3 (.int 1)))) (v3 0) 2 []))
  (ar (al aP [(ag aK (v3 3) (bb [(al bA [(v3 2)])]))]))))
def eB(Ky Le:au):bv:=(ah (aq 1 (ab Ky [(v3 0)]))
  (ar (al aP [(aG (aF (ag af (v3 0) (c3 (.int 1)))) (.n 0) bx (ab Le [(ag af (v3 0) (c3 (.int 1))),(v3 1)]) 1 [1])])))
end C
namespace L3
open PySem L2 Xc
end L3
namespace L3
open PySem L2
end L3
namespace L2
open PySem PySem.Spec PyProof.Rows Xc
end L2
namespace L3
open PySem L2 Xc
section
variable {P:Program} {w:World} {K:Vo} {mg:Vr} {base:Heap}
structure aW (K:Vo) (mg:Vr) (x:Str) (st:Stmt) (ps:Vs):Prop where
 ex:∃f fd,FH K mg x st ps f fd
structure Hy (P:Program) (w:World) (K:Vo) (mg:Vr) (base:Heap) (k:Nat) (x:Str) (n:Nat) (sp:au):Prop where
 ex:∃f fd ps,ps.length=n/\No P w K mg base k f fd ps sp/\mg x=some (.ref f)/\PySem.W.keepIn K (.ref f)=true/\Binds K fd ps []
def cC{x:Str}{st:Stmt}{ps:Vs}{k n:Nat}{t:bv}{sp:au}(N:Vs)(O:aW K mg x st ps)
  (hbody:∀(f:Addr) (cdv:Value) (A:Around) (outer:List Env) (s:Shared) (H:Hp) (E:XK),Room k (A.deeper (PyProof.Rows.envOfC x (aJ st) s.heap.objs.size f cdv))->N.Nodup->kF (EQ P w K mg base N x st f cdv A outer s H E) (bj st) t) (e:sp=aR N.length t)
  (hn:ps.length=n:=by rfl) (S:dS N ps (aJ st):=by exact⟨rfl,rfl,rfl,by decide +kernel,rfl,by decide +kernel,by decide +kernel⟩):Hy P w K mg base (k+1) x n sp:=by
 subst e
 obtain⟨f,fd,o⟩:=O.ex
 exact⟨f,fd,ps,hn,GQ o.F S fun cdv A outer s H E hr=>hbody f cdv A outer s H E hr S.nd,o.m,o.k,o.b⟩
def G_{x:Str}{st:Stmt}{ps:Vs}{k:Nat}{t:bv}{sp:au}{f:Addr}{fd:FuncData}(N:Vs)(o:FH K mg x st ps f fd)
  (hbody:∀(f:Addr) (cdv:Value) (A:Around) (outer:List Env) (s:Shared) (H:Hp) (E:XK),Room k (A.deeper (PyProof.Rows.envOfC x (aJ st) s.heap.objs.size f cdv))->N.Nodup->kF (EQ P w K mg base N x st f cdv A outer s H E) (bj st) t) (e:sp=aR N.length t)
  (S:dS N ps (aJ st):=by exact⟨rfl,rfl,rfl,by decide +kernel,rfl,by decide +kernel,by decide +kernel⟩):No P w K mg base (k+1) f fd ps sp:=by
 subst e
 exact GQ o.F S fun cdv A outer s H E hr=>hbody f cdv A outer s H E hr S.nd
def qq:au:=fun _ _ _ _=>False
theorem Hy.zero{x:Str}{st:Stmt}{ps:Vs}{k n:Nat}(O:aW K mg x st ps)(hn:ps.length=n:=by rfl):Hy P w K mg base k x n qq:=by
 obtain⟨f,fd,o⟩:=O.ex
 exact⟨f,fd,ps,hn,.zero rfl,o.m,o.k,o.b⟩
theorem nB{b n:Nat}{x:Str}{st:Stmt}{ps:Vs}{r:Nat->au}(O:aW K mg x st ps)(h:∀j,Hy P w K mg base (b+j) x n (r j)->Hy P w K mg base (b+j+1) x n (r (j+1)))(h0:r 0=qq)(hn:ps.length=n:=by rfl):∀j,Hy P w K mg base (b+j) x n (r j)
 |0=>by rw[h0];exact .zero O hn
 |j+1=>h j (nB O h h0 hn j)
end
section
variable {X:Cx} {a b e o:Expr} {es:List Expr} {ta tb te to:aZ} {ts:List aZ} {x c m f:Str} {p pos apos cpos:Pos} {j k n:Nat} {sp:au}
def c4(O:Hy X.prog X.w X.K X.mg X.base k x n sp)(hr:Room j X.A)(ha:lv X (e::es) ts)(hj:k<=j:=by omega)(hl:ts.length=n:=by rfl)(hg:Gl X x:=by rfl)(he:starEach (e::es) X.env=(false,eval e X.env)::starEach es X.env:=by rfl)(hdb:(x == ("__debug__":Str))=false:=by decide)(hpl:(backTo pos (starEach es X.env)).any (·.1)=false:=by rfl) :
  bp X (.Call (.Name x p) (e::es) [] pos) (ab sp ts):=by
 obtain⟨f,fd,ps,hn,F,h1,h2,h3⟩:=O.ex
 exact xv F (hr.mono hj) hg h1 h2 h3 he ha (hl.trans hn.symm) hdb hpl
def cB{id:String}{r:oh}(hc:dQ X (.builtin id) r)(hm:X.mg x=none)(ha:lv X (e::es) ts)(hg:Gl X x:=by rfl)(hv:bootBuiltins x=some (.builtin id):=by decide +kernel)(he:starEach (e::es) X.env=(false,eval e X.env)::starEach es X.env:=by rfl)
  (hnn:x ≠ "__name__":=by decide) (hdb:(x == ("__debug__":Str))=false:=by decide) (hpl:(backTo pos (starEach es X.env)).any (·.1)=false:=by rfl):bp X (.Call (.Name x p) (e::es) [] pos) (al r ts):=zL hc hg hm hv he ha hnn hdb hpl
def cT{id:String}{r:oh}(hc:dQ X (.type id) r)(hm:X.mg x=none)(ha:lv X (e::es) ts)(hg:Gl X x:=by rfl)(hv:bootBuiltins x=some (.type id):=by decide +kernel)(he:starEach (e::es) X.env=(false,eval e X.env)::starEach es X.env:=by rfl)
  (hnn:x ≠ "__name__":=by decide) (hdb:(x == ("__debug__":Str))=false:=by decide) (hpl:(backTo pos (starEach es X.env)).any (·.1)=false:=by rfl):bp X (.Call (.Name x p) (e::es) [] pos) (al r ts):=zM hc hg hm hv he ha hnn hdb hpl
def lc{r:List Expr}(ha:bp X a ta)(hr:lv X r ts)(hs:starEach (a::r) X.env=(false,eval a X.env)::starEach r X.env:=by rfl):lv X (a::r) (ta::ts):=wN hs ha hr
def l1(ha:bp X a ta)(hs:starEach [a] X.env=(false,eval a X.env)::starEach [] X.env:=by rfl):lv X [a] [ta]:=wN hs ha d8
def aO{i:Int}{q:Nat}{p2:Pos}(hr:Room j X.A)(ha:bp X a ta)(hs:lV (.Constant (.int i) q p2):=by exact fun _ _=>rfl):bp X (.Subscript a (.Constant (.int i) q p2) pos) (ag af ta (c3 (.int i))):=EG (GP (yT hr)) ha ae hs
def bT(hr:Room j X.A)(ha:bp X a ta)(hb:bp X b tb)(hs:lV b:=by exact fun _ _=>rfl):bp X (.Subscript a b pos) (ag af ta tb):=EG (GP (yT hr)) ha hb hs
def eQ(hr:Room j X.A)(ha:bp X a ta)(hb:bp X b tb):sj X (.Compare a [.Eq] [b] pos) (aM (ag (bq false) ta tb)):=bh (mw (i_ hr)) ha hb (aX _)
def vR(hr:Room j X.A)(ha:bp X a ta)(hb:bp X b tb):sj X (.Compare a [.NotEq] [b] pos) (aM (ag (bq true) ta tb)):=bh (wQ (i_ hr)) ha hb (aX _)
def s4(i:Nat){pos':Pos}(nd:X.N.Nodup)(he:bp X e te)(hi:X.N[i]?=some x:=by rfl)(hx:AW X.env.scope x:=by first|exact Or.inl rfl|exact Or.inr rfl)(hs:swapsWith e (some (.Name x pos')) pos.line X.env=pure false:=by rfl)
  (hf:X.fn x=true\/X.env.scope.names.lookup x=some .local:=by first|exact .inl rfl|exact .inr rfl|assumption):rP X (.Assign [.Name x pos'] e pos) (aq i te):=EM nd hi hx he hs hf
def gn(i:Nat)(nd:X.N.Nodup)(hi:X.N[i]?=some x:=by rfl)(hx:AW X.env.scope x:=by first|exact Or.inl rfl|exact Or.inr rfl)(hf:X.fn x=true\/X.env.scope.names.lookup x=some .local:=by first|exact .inl rfl|exact .inr rfl|assumption):yS X (.Name x pos) (.n i):=G6 i nd hi hx hf
def Ha{px:Pos}{kvs:List (bf×Int)}{g:Expr}{tg:aZ}(hr:Room j X.A)(hD:∃a,X.mg x=some (.ref a)/\KD X.prog X.w X.K a (kvs.map fun kv=>(kv.1,V.int kv.2)))(he:bp X e te)(hf:bp X g tg)(hg:Gl X x:=by rfl)(m:M2 X (.Name x px) "get" apos e g cpos:=by exact⟨rfl,rfl,rfl,rfl⟩)
  (hd:(x == ("__debug__":Str))=false:=by decide):bp X (.Call (.Attribute (.Name x px) "get" apos) [e,g] [] cpos) (tT kvs te tg):=let ⟨_,h1,h2⟩:=hD;CP (yT hr) hg h1 h2 he hf m hd
end
structure CZ (T:String) (name:Str) (id:String):Prop where
 pa:PlainAttrs T
 slot:Slot T name id
 ty:typeOf (.builtin id)=pure (.type "method_descriptor")
section
variable {X:Cx} {e o:Expr} {es:List Expr} {to:aZ} {ts:List aZ} {name:Str} {T id:String} {p pos apos cpos:Pos} {r:tQ}
def de:CZ "list" "append" "list.append":=⟨WN,PySem.F.slot_list_append,PySem.F.type_list_append⟩
def kP:CZ "list" "extend" "list.extend":=⟨WN,PySem.F.slot_list_extend,PySem.F.type_list_extend⟩
def C0:CZ "list" "pop" "list.pop":=⟨WN,PySem.F.slot_list_pop,PySem.F.type_list_pop⟩
def tU:CZ "str" "join" "str.join":=⟨PySem.F.plainAttrs_str,PySem.F.slot_str_join,PySem.F.type_str_join⟩
def xG:CZ "str" "index" "str.index":=⟨PySem.F.plainAttrs_str,PySem.F.slot_str_index,PySem.F.type_str_index⟩
def ve(k:CZ T name id)(hm:w9 X id r)(ho:bp X o to)(ha:lv X (e::es) ts)(hs:starEach (e::es) X.env=(false,eval e X.env)::starEach es X.env:=by rfl)
  (hbase:attributeBase o name X.env (eval o X.env)=eval o X.env:=by rfl)
  (hfew:((backTo cpos (starEach (e::es) X.env)).all (fun x=>!x.1)&&(backToKw cpos (keywordEach [] X.env)).all (fun x=>x.1.isSome)
   && decide ((e::es).length+([]:List Keyword).length+(if ([]:List Keyword).isEmpty then 0 else 1) < 30))=true:=by rfl)
  (hline:(apos.endLine == cpos.line)=true:=by rfl) (hplain:(backTo cpos (starEach es X.env)).any (·.1)=false:=by rfl):bp X (.Call (.Attribute o name apos) (e::es) [] cpos) (lz T r to ts):=Gg k.pa k.slot k.ty hm hs ho ha hbase hfew hline hplain
def Gu(k:CZ T name id)(hm:w9 X id r)(ho:bp X o to)
  (hbase:attributeBase o name X.env (eval o X.env)=eval o X.env:=by rfl) (hline:(apos.endLine == cpos.line)=true:=by rfl):bp X (.Call (.Attribute o name apos) [] [] cpos) (lz T r to []):=EJ k.pa k.slot k.ty hm ho hbase hline
end
section
variable {X:Cx} {tg iter elt:Expr} {ifs:List Expr} {scope:Scope} {pos:Pos} {ti:tR} {g:Tg} {tc:kw} {te:aZ}
def lO(fs:Vs)(own:Nat)(fr:List Nat)(N:Vs)(hi:vQ X tg iter ti)(hg:∀B,yS (X.Km N scope fs B) tg g)(hf:∀B,DI (X.Km N scope fs B) ifs tc)(he:∀B,bp (X.Km N scope fs B) elt te)
  (Nz:g.under own=true:=by rfl) (hc:X.calm=true:=by rfl) (hclos:closureFor scope X.env=pure (cX X.env fs):=by rfl) (hcell:∀y∈scope.names,y.2 ≠ .cell:=by decide +kernel) (hkind:scope.kind = .function:=by rfl)
  (hnames:∀x∈scope.names,x.2 = .local->scope.names.lookup x.1=some .local:=by decide +kernel) (hcl:cK X.env fs:=by repeat' first|exact trivial|exact⟨_,rfl⟩|constructor) (hhas:oW (relabel scope X.env).names (cX X.env fs)=true:=by rfl)
  (hlen:N.length=own+fr.length:=by rfl) (hN:(N.drop own).map some=fr.map (fun j=>X.N[j]?):=by rfl) (hF:IJ X.env scope (cX X.env fs) (N.drop own):=by repeat' first|exact trivial|exact .inl rfl|exact .inr rfl|exact rfl|apply And.intro)
  (hs:∀x,foldedSetIterable iter X.env x=pure x:=by intro _;rfl):bp X (.ListComp elt [⟨tg,iter,ifs,0⟩] scope pos) (aG ti g tc te own fr):=CM fs own fr N Nz hc hclos hcell hkind hnames hcl hhas hlen hN hF hi hg hf he hs
def Bf(fs:Vs)(own:Nat)(fr:List Nat)(N:Vs)(i:Nat){y:Str}{py spos:Pos}(hX:X.N.Nodup)(hi:vQ X tg iter ti)(hg:∀B,yS (X.Km N scope fs B) tg g)(hf:∀B,DI (X.Km N scope fs B) ifs tc)(he:∀B,bp (X.Km N scope fs B) elt te)
  (hix:X.N[i]?=some y:=by rfl) (hy:X.env.scope.names.lookup y=some .local:=by rfl) (hsw:swapsWith (.ListComp elt [⟨tg,iter,ifs,0⟩] scope pos) (some (.Name y py)) spos.line X.env=pure true:=by rfl)
  (Nz:g.under own=true:=by rfl) (hc:X.calm=true:=by rfl) (hclos:closureFor scope X.env=pure (cX X.env fs):=by rfl) (hcell:∀y∈scope.names,y.2 ≠ .cell:=by decide +kernel) (hkind:scope.kind = .function:=by rfl)
  (hnames:∀x∈scope.names,x.2 = .local->scope.names.lookup x.1=some .local:=by decide +kernel) (hcl:cK X.env fs:=by repeat' first|exact trivial|exact⟨_,rfl⟩|constructor) (hhas:oW (relabel scope X.env).names (cX X.env fs)=true:=by rfl)
  (hlen:N.length=own+fr.length:=by rfl) (hN:(N.drop own).map some=fr.map (fun j=>X.N[j]?):=by rfl) (hF:IJ X.env scope (cX X.env fs) (N.drop own):=by repeat' first|exact trivial|exact .inl rfl|exact .inr rfl|exact rfl|apply And.intro)
  (hs:∀x,foldedSetIterable iter X.env x=pure x:=by intro _;rfl):rP X (.Assign [.Name y py] (.ListComp elt [⟨tg,iter,ifs,0⟩] scope pos) spos) (aq i (aG ti g tc te own fr)):=CN fs own fr N hX hix hy hsw Nz hc hclos hcell hkind hnames hcl hhas hlen hN hF hi hg hf he hs
end
section
variable {X:Cx} {e:Expr} {es:List Expr} {ts:List aZ} {x:Str} {p pos cpos:Pos} {ks:Vs} {j:Nat}
def GR{n:String}(hm:X.mg x=none)(hg:Gl X x:=by rfl)(hv:bootBuiltins x=some (.type n):=by decide +kernel)(hn:x ≠ "__name__":=by decide)(hd:(x == ("__debug__":Str))=false:=by decide):bp X (.Name x pos) (c3 (.ty n)):=Gf hg hm hv hn hd
end
section
variable {P:Program} {w:World} {K:Vo} {mg:Vr} {base:Heap}
structure qL (K:Vo) (mg:Vr) (x:Str) (st:Stmt) (ps:Vs):Prop where
 ex:∃T f fd,Gq K mg x st ps T f fd
structure NC (P:Program) (w:World) (K:Vo) (mg:Vr) (base:Heap) (k:Nat) (x:Str) (n:Nat) (sp:au):Prop where
 ex:∃f fd ps,ps.length=n/\No P w K mg base k f fd ps sp/\mg x=some (.ref f)/\PySem.W.keepIn K (.ref f)=true/\Binds K fd ps []/\Binds K fd ps [.bool true]
def Hb{x:Str}{st:Stmt}{ps:Vs}{k n:Nat}{t:bv}{sp:au}(N:Vs)(O:qL K mg x st ps)
  (hbody:∀(f:Addr) (cdv:Value) (A:Around) (outer:List Env) (s:Shared) (H:Hp) (E:XK),Room k (A.deeper (PyProof.Rows.envOfC x (aJ st) s.heap.objs.size f cdv))->N.Nodup->kF (EQ P w K mg base N x st f cdv A outer s H E) (bj st) t) (e:sp=aR N.length t)
  (hn:ps.length=n:=by rfl) (S:dS N ps (aJ st):=by exact⟨rfl,rfl,rfl,by decide +kernel,rfl,by decide +kernel,by decide +kernel⟩):NC P w K mg base (k+1) x n sp:=by
 subst e
 obtain⟨T,f,fd,o⟩:=O.ex
 exact⟨f,fd,ps,hn,Gp o.F S fun cdv A outer s H E hr=>hbody f cdv A outer s H E hr S.nd,o.m,o.k,o.b,o.d⟩
theorem NC.zero{x:Str}{st:Stmt}{ps:Vs}{k n:Nat}(O:qL K mg x st ps)(hn:ps.length=n:=by rfl):NC P w K mg base k x n qq:=by
 obtain⟨T,f,fd,o⟩:=O.ex
 exact⟨f,fd,ps,hn,.zero rfl,o.m,o.k,o.b,o.d⟩
theorem ES{b n:Nat}{x:Str}{st:Stmt}{ps:Vs}{r:Nat->au}(O:qL K mg x st ps)(h:∀j,NC P w K mg base (b+j) x n (r j)->NC P w K mg base (b+j+1) x n (r (j+1)))(h0:r 0=qq)(hn:ps.length=n:=by rfl):∀j,NC P w K mg base (b+j) x n (r j)
 |0=>by rw[h0];exact .zero O hn
 |j+1=>h j (ES O h h0 hn j)
end
section
variable {X:Cx} {e:Expr} {es:List Expr} {ts:List aZ} {x:Str} {p pos:Pos} {j k n:Nat} {sp:au}
def cD(O:NC X.prog X.w X.K X.mg X.base k x n sp)(hr:Room j X.A)(ha:lv X (e::es) ts)(hj:k<=j:=by omega)(hl:ts.length+1=n:=by rfl)(hg:Gl X x:=by rfl)(he:starEach (e::es) X.env=(false,eval e X.env)::starEach es X.env:=by rfl)(hdb:(x == ("__debug__":Str))=false:=by decide)(hpl:(backTo pos (starEach es X.env)).any (·.1)=false:=by rfl) :
  bp X (.Call (.Name x p) (e::es) [] pos) (kN sp ts):=by
 obtain⟨f,fd,ps,hn,F,h1,h2,h3,h4⟩:=O.ex
 exact zX F (hr.mono hj) hg h1 h2 h4 he ha (hl.trans hn.symm) hdb hpl
def Hc(O:NC X.prog X.w X.K X.mg X.base k x n sp)(hr:Room j X.A)(ha:lv X (e::es) ts)(hj:k<=j:=by omega)(hl:ts.length=n:=by rfl)(hg:Gl X x:=by rfl)(he:starEach (e::es) X.env=(false,eval e X.env)::starEach es X.env:=by rfl)(hdb:(x == ("__debug__":Str))=false:=by decide)(hpl:(backTo pos (starEach es X.env)).any (·.1)=false:=by rfl) :
  bp X (.Call (.Name x p) (e::es) [] pos) (ab sp ts):=by
 obtain⟨f,fd,ps,hn,F,h1,h2,h3,h4⟩:=O.ex
 exact xv F (hr.mono hj) hg h1 h2 h3 he ha (hl.trans hn.symm) hdb hpl
end
end L3
namespace L3
open PySem L2
section
variable {X:Cx} {a b c:Expr} {ta tb tc:aZ} {p pos:Pos}
def xH{K:Vo}{H0:Hp}{a b c:Addr}{us ws:List V}{xs ys zs:List PV}(h2:SqT K H0 b us)(r2:Reps K H0 us ys)(h3:SqT K H0 c ws)(r3:Reps K H0 ws zs)(l12:xs.length<=ys.length)(l13:xs.length<=zs.length):gY K H0 (Gm true false K a b c) ⟨fQ xs ys zs,fun S'=>S' a=some (.lst xs)⟩:=by
 intro i S H g rS ha
 obtain⟨vs,hv,r1⟩:=rS _ _ ha
 have hv:=SqL.of (K:=K) hv
 have hu:=g.t _ _ h2
 have r2:=r2.mono g
 have hw:=g.t _ _ h3
 have r3:=r3.mono g
 have l1:=r1.length
 refine⟨fun p hp=>?_,fun hi=>⟨vs,hv,?_⟩⟩
 ·unfold fQ at hp
  rw[Tv]at hp
  cases hz:(xs.zip (ys.zip zs))[i]? with
  |none=>rw[hz]at hp;cases hp
  |some z=>
   rw[hz]at hp
   cases hp
   obtain⟨e1,Sk⟩:=Ut.mp hz
   obtain⟨e2,e3⟩:=Ut.mp Sk
   obtain⟨v,hx',rv⟩:=r1.get e1
   obtain⟨u,hy',ru⟩:=r2.get e2
   obtain⟨t,hz',rt⟩:=r3.get e3
   refine⟨⟨vs,us,ws,v,u,t,hv,hu,hw,hx',hy',hz'⟩,fun x H' ⟨q,x2,y2,z2,e3,hq,e4,h⟩=>?_⟩
   subst e3 e4
   obtain⟨k1,k2,k3⟩:=h vs us ws hv hu hw
   rw[hx']at k1
   rw[hy']at k2
   rw[hz']at k3
   cases k1;cases k2;cases k3
   exact⟨.tup (SqT.of aH) (.cons (rv.mono (.new hq)) (.cons (ru.mono (.new hq)) (.cons (rt.mono (.new hq)) .nil))),rS.other hq,.new hq⟩
 ·have e:(fQ xs ys zs).length=min xs.length (min ys.length zs.length):=by simp[fQ]
  rw[e]at hi
  omega
def sy(ta tb tc:aZ):tR:=fun σ S R E=>ta σ S (fun v S1=>tb σ S1 (fun w S2=>tc σ S2 (fun x S3=>match v,w,x with
 | .ref a,.tup ys,.tup zs=>(match S3 a with|some (.lst xs)=>xs.length<=ys.length/\xs.length<=zs.length/\R ⟨fQ xs ys zs,fun S'=>S' a=some (.lst xs)⟩ S3|_=>False)
 |_,_,_=>False) E) E) E
def z0{elts:List Expr}{k0:Nat}{Jw:Pos}(hs:starEach [a,b,c] X.env=[(false,eval a X.env),(false,eval b X.env),(false,eval c X.env)])(hs2:starEach [b,c] X.env=[(false,eval b X.env),(false,eval c X.env)])(hg:Gl X "zip")(hm:X.mg "zip" = none)(hv:bootBuiltins "zip" = some (.type "zip"))(ha:lv X [a,b,c] [ta,tb,tc]) :
  vQ X (.Tuple elts k0 Jw) (.Call (.Name "zip" p) [a,b,c] [] pos) (sy ta tb tc):=
 ⟨jx (CS (kd:=true) (kc:=false) hg hm hv ha.ok hs hs2) fun σ H R ⟨σ3,S,R3,E3,rσ,rS,h,xo,k⟩=>⟨σ3,S,_,E3,rσ,rS,h,xo,fun v S1 v' H1 h1 rv Hz g1=>⟨σ3,S1,_,E3,rσ.mono g1,Hz,h1,xo.mono g1,fun w S2 w' H2 h2 rw' J4 g2=>⟨σ3,S2,_,E3,(rσ.mono g1).mono g2,J4,h2,(xo.mono g1).mono g2,fun x S3 x' H3 h3 Qz MI g3=>by
  split at h3
  ·cases rv
   split at h3
   ·rename_i ea
    obtain⟨vs,hv',_⟩:=MI _ _ ea
    cases rw' with
    |tup hq2 Oh=>
     cases Qz with
     |tup hq rs=>exact⟨_,_,_,rfl,⟨_,SqL.of hv'⟩,⟨_,g3.t _ _ hq2⟩,⟨_,hq⟩,k _ S3 _ H3 h3.2.2 (xH (g3.t _ _ hq2) (Oh.mono g3) hq rs h3.1 h3.2.1) MI ((g1.trans g2).trans g3)⟩
   ·exact h3.elim
  ·exact h3.elim⟩⟩⟩⟩
end
end L3
namespace L2
open PySem PySem.Spec PyProof.Rows
end L2
namespace L3
open PySem L2
end L3
namespace CY
open PySem L2 L3
end CY
namespace L2
open PySem PySem.Spec PyProof.Rows
noncomputable def Gv(K:Vo)(a:Addr)(n:Nat):It:=
 ⟨fun i H=>∃xs x,SqL K H a xs/\xs.length=n/\i < n/\xs[n - 1 - i]?=some x,fun i H x H'=>H'=H/\∀xs,SqL K H a xs->xs[n - 1 - i]?=some x,fun i _=>n<=i⟩
def xI{P:Program}{w:World}{K:Vo}{tg:Expr}(a it:Addr)(n:Nat):l9 P w K tg (Gv K a n) [it] it (fun i h=>i<=n/\h.IsRevIter it a ((n:Int) - 1 - (i:Int))) where
 mem:=by simp
 obj:=fun i h st b hb=>by
  have e:b=it:=by simpa using hb
  subst e
  obtain⟨_,o,e,c,d⟩:=st
  exact⟨o,e,fun v z=>by rw[d]at z;cases z⟩
 keep:=fun i h h' st k=>⟨st.1,st.2.at fun o e=>k it (by simp) o e⟩
 item:=by
  intro X hP hw hK hc i pins s σ H E I hf st hg
  subst hP hw hK
  obtain⟨xs,x,hq,hn,hi,hx⟩:=hg
  obtain⟨its,rv,p,hz⟩:=I.list hq
  obtain⟨u,hu,ru⟩:=rv.get hx
  obtain⟨f0,f1,f2,f3,f4,f5⟩:=hf it (by simp)
  have e1:(n:Int) - 1 - (i:Int)=((n - 1 - i:Nat):Int):=by omega
  have st2:=st.2
  rw[e1]at st2
  refine wpAny_pyNext_rev_item st2 p.isList (x:=u) (by simpa using hu) fun h' st' sb=>?_
  have I1:Inv X pins σ H { s with heap:=h' }:=I.turned (t':=s.toks) (fun b o hb e=>(sb.2 b hb).trans e) f0 f1 f3 f4 f5
  have e2:((n - 1 - i:Nat):Int) - 1=(n:Int) - 1 - ((i+1:Nat):Int):=by omega
  rw[e2]at st'
  obtain⟨o,e,c,d⟩:=id st'
  exact⟨u,rfl,qx (s:={ s with heap:=h' }) e c d (by decide) ⟨x,H,I1,ru,⟨rfl,fun ys hy=>by rw[I.KE hy hq];exact hx⟩,⟨hi,st'⟩,fun b hb=>(hf b hb).1⟩⟩
 done:=by
  intro X hP hw hK hc i pins s σ H E I hf st hg
  subst hP hw hK
  have hg:n<=i:=hg
  obtain⟨f0,f1,f2,f3,f4,f5⟩:=hf it (by simp)
  have e1:(n:Int) - 1 - (i:Int) = -1:=by have:=st.1;omega
  have st2:=st.2
  rw[e1]at st2
  exact wpAny_pyNext_rev_end (I.ok.hd hc) st2 fun h' eb=>⟨rfl,I.turned (t':=s.toks) (fun b o hb e=>eb b o hb e) f0 f1 f3 f4 f5⟩
 self:=fun _ _ _ _ _ st h=>wpAny_pyIter_revIter st.2 h
section
variable {X:Cx} {tg:Expr}
def Gw(K:Vo)(te:TE):TI:=fun σ H R=>te σ H fun x H1=>∃a xs,x = .ref a/\SqL K H1 a xs/\R (Gv K a xs.length) H1
def C1{e:Expr}{te:TE}{p pos:Pos}(hg:Gl X "reversed")(hm:X.mg "reversed" = none)(he:PE X e te)(hs:starEach [e] X.env=[(false,eval e X.env)]:=by rfl):PI X tg (.Call (.Name "reversed" p) [e] [] pos) (Gw X.K te):=by
 intro pins s σ H R I h
 refine U3 (dH I hg hm (u:=.type "reversed") boot_reversed ?_)
 refine Uk ?_ hs rfl
 rw[hs]
 show wpAny _ _ (spliced ((false,eval e X.env)::backTo pos [])) _ _ s
 refine UM (Ho (he pins s σ H _ I h) fun u s1 ⟨x,H1,I1,r1,a,xs,ex,hx,q⟩=>?_)
 subst ex
 cases r1
 obtain⟨its,rv,pl,hz⟩:=I1.list hx
 have hl:=rv.length
 refine Vb (call_reversed_list pl.isList ?_)
 have st:(s1.heap.push (revObj a ((its.toArray.size:Int) - 1))).IsRevIter s1.heap.objs.size a ((xs.length:Int) - 1 - ((0:Nat):Int)):=⟨_,Tn _ rfl,rfl,by
  show Data.fields #[.ref a,rawInt ((its.toArray.size:Int) - 1)]=_
  rw[Tr,<-hl];simp⟩
 refine wpAny_pyIter_revIter (s:={ s1 with heap:=s1.heap.push (revObj a ((its.toArray.size:Int) - 1)) }) st ?_
 refine⟨s1.heap.objs.size,[s1.heap.objs.size],_,_,H1,rfl,I1.kept (t':=s1.toks) fun b o e=>Td _ e,xI a _ xs.length,⟨Ug _,st⟩,fun b hb=>?_,q⟩
 have e:b=s1.heap.objs.size:=by simpa using hb
 subst e
 exact I1.Ku (Tq _) (I1.hok.fresh (Tq _))
end
end L2
namespace L3
open PySem PySem.Spec PyProof.Rows L2
section
variable {X:Cx} {e tg:Expr} {te:aZ} {p pos:Pos}
def z_{K:Vo}{H0:Hp}{a:Addr}{xs:List PV}{n:Nat}(hn:n=xs.length):gY K H0 (Gv K a n) ⟨xs.reverse,fun S'=>S' a=some (.lst xs)⟩:=by
 intro i S H g rS hk
 subst hn
 obtain⟨vs,hv,rs⟩:=rS a _ hk
 have hl:=rs.length
 refine⟨fun p hp=>?_,fun hi=>by show xs.length<=i;rw[hi,Wt];exact Tq _⟩
 have hi:i < xs.length:=by
  have:=(TV.mp hp).1
  rwa [Wt]at this
 rw[List.getElem?_reverse hi]at hp
 obtain⟨v,hx,rv⟩:=rs.get hp
 refine⟨⟨vs,v,SqL.of hv,hl,hi,hx⟩,fun x H' ⟨e,h⟩=>?_⟩
 subst e
 have:=h vs (SqL.of hv)
 rw[hx]at this
 cases this
 exact⟨rv,rS,.refl⟩
def xJ(te:aZ):tR:=fun σ S R E=>te σ S (fun v S1=>match v with
 | .ref a=>(match S1 a with|some (.lst xs)=>R ⟨xs.reverse,fun S'=>S' a=some (.lst xs)⟩ S1|_=>False)
 |_=>False) E
def EU(hs:starEach [e] X.env=[(false,eval e X.env)])(hg:Gl X "reversed")(hm:X.mg "reversed" = none)(he:bp X e te):vQ X tg (.Call (.Name "reversed" p) [e] [] pos) (xJ te):=
 ⟨jx (C1 hg hm he.ok hs) fun σ H R ⟨σ3,S,R3,E3,rσ,rS,h,xo,k⟩=>⟨σ3,S,_,E3,rσ,rS,h,xo,fun v S1 v' H1 h1 rv Hz g1=>by
  split at h1
  ·cases rv
   split at h1
   ·rename_i ea
    obtain⟨vs,hv,rs⟩:=Hz _ _ ea
    exact⟨_,_,rfl,SqL.of hv,k _ S1 _ H1 h1 (z_ rs.length) Hz g1⟩
   ·exact h1.elim
  ·exact h1.elim⟩⟩
end
end L3
namespace PySem
open PyProof.Rows
namespace F
def ja:entryFor table "dict.update.loop" = some Builtin.«dict.update.loop»:=entryFor_of_tree (by kernel_rfl)
def dy:plainId "dict.update.loop" = true:=by decide +kernel
def sA:typeLookup (.type "list") "keys" = pure none:=by rw[Wz,VN];kernel_rfl
end F
def Aa{prog:Program}{w:World}{A:Around}{E:Vq}{s:Shared}{a:Addr}{o:Obj}{xs:Vw}{k:Nat}{Q:Option Value->Shared->Prop}
  (hx:s.heap.get? a=some o) (hc:o.cls = .type "list") (hdat:o.data = .seq xs k) (hd:o.dict=none) (hA:A.handled=none)
  (hQ:∀h' tk,(∀b ob,s.heap.get? b=some ob->h'.get? b=some ob)->Q none { s with heap:=h',toks:=tk }) :
  wpAny (model prog w) A (getAttr? (.ref a) "keys") Q E s:=by
 obtain⟨c,dct,dat,sl⟩:=o
 simp only at hc hdat hd
 subst hc hdat hd
 obtain⟨hp,g,d,tk,os⟩:=s
 have hT:∀tk',(⟨hp,g,d,tk',os⟩:Shared).TypeIs (.ref a) "list":=fun _=>⟨_,hx,rfl⟩
 have f1:=sub_AttributeError
 have f3:=Wx.lookup
 have f4:=Wx.bind (.ref a)
 have f5:=am_list_getattr_none
 unfold getAttr? getAttrBy? getAttrBy
 repeat (any_goals (first|assumption|exact hT _|((with_reducible show wpAny _ _ (call (Value.builtin "list.__getattribute__") _ _) _ _ _);refine WG Wx (hT _) am_entry_list_getattribute (F.args_list_getattribute_2 _ _) (meets_getattribute_miss_list a xs k sl "keys" _ F.sA (by decide +kernel)) ⟨hx,hA,fun h' tk' e hx'=>?_⟩)|wp_step))
 obtain⟨t',u',he⟩:=hx'.there
 show wpAny _ _ (getattributeRaised _ _ _ _ _ _ _) _ _ _
 unfold getattributeRaised
 repeat (any_goals (first|assumption|wp_step))
 exact hQ _ _ hx'.keeps
section
variable {prog:Program} {w:World} {K:Type} [DecidableEq K] {knd:KeyKind prog w K} {A:Around} {E:Vq} {s:Shared}
def Ld(knd:KeyKind prog w K)(h:Heap)(it d:Addr)(items:Vw)(rs:List (K×Value)):Prop:=rs.length=items.size/\∀(j:Nat) (kv:K×Value),rs[j]?=some kv->∃t key,items[j]?=some (.ref t)/\IsTup h t #[key,kv.2]/\knd.is kv.1 key=true/\t≠it/\t≠d
def Ld.at{h h':Heap}{it d:Addr}{items:Vw}{rs:List (K×Value)}(x:Ld knd h it d items rs)(k:∀b o,b≠it->b≠d->h.get? b=some o->h'.get? b=some o):Ld knd h' it d items rs:=⟨x.1,fun j kv e=>by
 obtain⟨t,key,h1,⟨o,ho,r⟩,h3,h4,h5⟩:=x.2 j kv e
 exact⟨t,key,h1,⟨o,k t o h4 h5 ho,r⟩,h3,h4,h5⟩⟩
theorem tV{it l d:Addr}{items:Vw}{rs:List (K×Value)}(hh:A.handled=none)(hli:l≠it)(OT:l≠d)(hid:it≠d)(hz:items.size<=sizeLine):∀(m i:Nat) (s:Shared) (kvs:List (K×Value)) {R:Result->Shared->Prop},i+m=items.size->s.heap.IsListIter it l i->s.heap.IsList l items->Ld knd s.heap it d items rs->s.heap.DictOf knd d kvs->kvs.length<=i->
  (∀h' tk,h'.DictOf knd d (merged kvs (rs.drop i))->(∀b o,b≠it->b≠d->s.heap.get? b=some o->h'.get? b=some o)->R (.ok (.ret .none)) { s with heap:=h',toks:=tk })->
  codeAny (model prog w) A (.builtin "dict.update.loop" ⟨[.ref d,.ref it,rawInt i,.none],[]⟩) R s
 |0,i,s,kvs,R,hm,hit,hl,hp,hd,hk,hR=>by
  refine Vy F.ja ?_
  rw[U6 F.dy _]
  unfold Builtin.«dict.update.loop»
  show wpAny _ A.in1 (pyNext (.ref it) >>= _) _ _ s
  refine Tc (wpAny_pyNext_list_end hh hit hl (by rw[UX (by omega)]) fun h' he=>?_)
  dsimp only
  show wpAny _ _ (Builtin.Dict.addKeywords d [] >>= _) _ _ _
  have ed:rs.drop i=[]:=List.drop_of_length_le (by rw[hp.1];omega)
  refine Tc (Tf (Tf (hR h' s.toks ?_ fun b o hb _ e=>he b o hb e)))
  rw[ed]
  obtain⟨o,es,ep,ho,r⟩:=hd
  exact⟨o,es,ep,he d o (VL hid) ho,r⟩
 |m+1,i,s,kvs,R,hm,hit,hl,hp,hd,hk,hR=>by
  have hlt:i < items.size:=by omega
  refine Vy F.ja ?_
  rw[U6 F.dy _]
  unfold Builtin.«dict.update.loop»
  show wpAny _ A.in1 (pyNext (.ref it) >>= _) _ _ s
  have PH:i < rs.length:=by rw[hp.1];exact hlt
  have er:=Tp PH
  have Rm:=List.drop_eq_getElem_cons PH
  generalize rs[i]=kv at er Rm
  obtain⟨t,key,e1,e2,e3,e4,e5⟩:=hp.2 i _ er
  refine Tc (wpAny_pyNext_list_item hit hl e1 fun h1 QA hs1=>?_)
  dsimp only
  refine Tc (US ?_)
  have t1:IsTup h1 t #[key,kv.2]:=let ⟨o,ho,r⟩:=e2;⟨o,(hs1.2 t e4).trans ho,r⟩
  have d1:h1.DictOf knd d kvs:=let ⟨o,es,ep,ho,r⟩:=hd;⟨o,es,ep,(hs1.2 d (VL hid)).trans ho,r⟩
  refine Tc (wpAny_tryCatch ?_)
  unfold Builtin.Dict.pairItems
  refine Tc (V6 t1.typeIs ?_)
  rw[if_pos (by decide)]
  obtain⟨ot,PJ,_,nt,hdt⟩:=t1
  refine Tc (Uo PJ hdt ?_)
  refine Tf ?_
  show wpAny _ _ (holding [key,kv.2] (dictSet d key kv.2)) _ _ _
  refine US (wpAny_dictSet_pairs e3 d1 (fun h2 d2 hs2=>?_) (by omega))
  refine Tf ⟨Wb F.dy _,?_⟩
  have Nw:∀b o,b≠it->b≠d->s.heap.get? b=some o->h2.get? b=some o:=fun b o hb hb2 e=>(hs2.2 b hb2).trans ((hs1.2 b hb).trans e)
  refine tV hh hli OT hid hz m (i+1) _ _ (by omega) ?_ ?_ (hp.at Nw) d2 (by have:=stored_length_le kvs kv.1 kv.2;omega) fun h' tk dd oo=>hR h' tk ?_ fun b o hb hb2 e=>oo b o hb hb2 (Nw b o hb hb2 e)
  ·obtain⟨o,ho,r⟩:=QA
   exact⟨o,(hs2.2 it hid).trans ho,r⟩
  ·obtain⟨o,ho,r⟩:=hl
   exact⟨o,Nw l o hli OT ho,r⟩
  ·rw[Rm]
   exact dd
def Ab{l:Addr}{o:Obj}{items:Vw}{k:Nat}{rs:List (K×Value)}{Q:Vq}(hh:A.handled=none)(hx:s.heap.get? l=some o)(hc:o.cls = .type "list")(hdat:o.data = .seq items k)(hdn:o.dict=none)(hz:items.size<=sizeLine)
  (hp:rs.length=items.size/\∀(j:Nat) (kv:K×Value),rs[j]?=some kv->∃t key,items[j]?=some (.ref t)/\IsTup s.heap t #[key,kv.2]/\knd.is kv.1 key=true)
  (h:∀h' tk,h'.DictOf knd s.heap.objs.size (merged [] rs)->(∀b o,s.heap.get? b=some o->h'.get? b=some o)->Q (.ref s.heap.objs.size) { s with heap:=h',toks:=tk }) :
  wpAny (model prog w) A (call (.type "dict") [.ref l]) Q E s:=by
 refine callType_codes (Q₁:=fun obj s₁=>obj = .ref s.heap.objs.size/\s₁={ s with heap:=s.heap.push { cls:=.type "dict",data:=.dict #[] } }) F.kt_called_dict (F.kt_typeCall_dict_1 _) F.entry_dict_init (kt_code_dict_new _ ⟨rfl,rfl⟩) ?_
 rintro obj s₁ ⟨rfl,rfl⟩
 have hnew:(s.heap.push { cls:=.type "dict",data:=.dict #[] }).DictOf knd s.heap.objs.size []:=Heap.DictOf.new s.heap
 have ND:(s.heap.push { cls:=.type "dict",data:=.dict #[] }).get? l=some o:=Td _ hx
 have NE:l < s.heap.objs.size:=To hx
 refine⟨hnew.typeIs,F.args_dict_init_2 _ _,?_⟩
 unfold Builtin.«dict.__init__»
 refine Tc ?_
 unfold Builtin.Dict.selfAndRest
 refine Tc (wpAny_notOrdered_dict hnew.typeIs ?_)
 show wpAny _ _ (pure (s.heap.objs.size,[Value.ref l])) _ _ _
 refine Tf ?_
 show wpAny _ _ (Builtin.Dict.updateFrom "dict.__init__" s.heap.objs.size (.ref l) [] .none) _ _ _
 unfold Builtin.Dict.updateFrom
 refine Tc (V6 (T:="list") ⟨o,ND,hc⟩ ?_)
 rw[if_pos (by decide)]
 refine Tc (Aa (s:={ s with heap:=s.heap.push { cls:=.type "dict",data:=.dict #[] } }) ND hc hdat hdn hh fun h1 Sl PK=>?_)
 show wpAny _ _ (if (Option.isNone none)=true then _ else _) _ _ _
 rw[if_pos (by decide)]
 refine Tc (Vp ?_)
 have hl1:h1.IsList l items:=⟨o,PK _ _ ND,hc,k,hdat⟩
 refine Tc (Ul (s:={ s with heap:=h1,toks:=Sl }) hl1 ?_)
 have hs1:s.heap.objs.size < h1.objs.size:=by
  obtain⟨o2,_,_,ho2,_⟩:=hnew
  exact To (PK _ _ ho2)
 have Rn:∀b ob,s.heap.get? b=some ob->(h1.push { cls:=.type "list_iterator",data:=.fields #[.ref l,.int 0 0] }).get? b=some ob:=fun b ob e=>Td _ (PK _ _ (Td _ e))
 refine Tf ⟨Wb F.dy _,?_⟩
 refine tV (A:=A.in1) (knd:=knd) (rs:=rs) (it:=h1.objs.size) hh (TM (UW NE hs1)) (TM NE) (UU hs1) hz items.size 0 _ [] (by omega) ⟨_,Tn _ rfl,rfl,rfl⟩ (hl1.push _) ⟨hp.1,fun j kv e=>?_⟩ ?_ (Tq _) fun h' tk dd oo=>?_
 ·obtain⟨t,key,a1,⟨ot,PJ,r⟩,a3⟩:=hp.2 j kv e
  have OU:=To PJ
  exact⟨t,key,a1,⟨ot,Rn _ _ PJ,r⟩,a3,TM (UW OU hs1),TM OU⟩
 ·obtain⟨o2,es,ep,ho2,r⟩:=hnew
  exact⟨o2,es,ep,Td _ (PK _ _ ho2),r⟩
 ·rw[List.drop_zero]at dd
  exact⟨rfl,h h' tk dd fun b ob e=>oo b ob (TM (UW (To e) hs1)) (TM (To e)) (Rn b ob e)⟩
end
end PySem
namespace L2
open PySem PySem.Spec PyProof.Rows
section
variable {X:Cx}
theorem Bg{pins:Va}{σ:St}{H:Hp}{s:Shared}(I:Inv X pins σ H s):∀{vs:List V} {its:Vv} {kvs:List (bf×V)},Vals vs its->vs.length=kvs.length->(∀(j:Nat) (v:V) (kv:bf×V),vs[j]?=some v->kvs[j]?=some kv->∃t,v = .ref t/\SqT X.K H t [kV kv.1,kv.2])->
  ∃rs:List (bf×Value),KV kvs rs/\rs.length=its.length/\∀(j:Nat) (kv:bf×Value),rs[j]?=some kv->∃t key,its[j]?=some (.ref t)/\IsTup s.heap t #[key,kv.2]/\(aU X.prog X.w).is kv.1 key=true
 |[],_,[],.nil,_,_=>⟨[],.nil,rfl,fun j kv e=>by simp at e⟩
 |[],_,_::_,_,e,_=>by simp at e
 |_::_,_,[],_,e,_=>by simp at e
 |v::vs,u::its,kv::kvs,.cons r1 r2,e,h=>by
  obtain⟨rs,a,b,c⟩:=Bg I r2 (by simpa using e) fun j v kv h1 h2=>h (j+1) v kv h1 h2
  obtain⟨t,rfl,ht⟩:=h 0 v kv rfl rfl
  cases r1
  obtain⟨its',rv,p,_⟩:=I.tuple ht
  cases rv with
  |cons q1 q2=>
   cases q2 with
   |cons q3 q4=>
    cases q4
    rename_i u1 u2
    refine⟨(kv.1,u2)::rs,.cons ⟨rfl,q3⟩ a,by simp[b],fun j kv' ej=>?_⟩
    cases j with
    |zero=>cases ej;exact⟨t,u1,rfl,p,jT q1⟩
    |succ j=>exact c j kv' ej
def sB(hc:X.calm=true):dB X (.type "dict") (fun xs H Q=>∃(p:Addr) (vs:List V) (kvs:List (bf×V)),xs=[.ref p]/\SqL X.K H p vs/\vs.length=kvs.length/\(∀(j:Nat) (v:V) (kv:bf×V),vs[j]?=some v->kvs[j]?=some kv->∃t,v = .ref t/\SqT X.K H t [kV kv.1,kv.2])/\∀q,H q=none->Q (.ref q) (upd H q (.dK (fN [] kvs)))):=by
 intro pins s σ H xs us Q I r h
 obtain⟨p,vs,kvs,rfl,hp,hl,hk,q⟩:=h
 obtain⟨u,rfl,rx⟩:=cV r
 cases rx
 obtain⟨its,rv,⟨o,n,e,hcl,hdn,hdt⟩,hz⟩:=I.list hp
 obtain⟨rs,a,b,c⟩:=Bg I rv hl hk
 have hvl:=rv.length
 refine Ab (knd:=aU X.prog X.w) (rs:=rs) (items:=its.toArray) (I.ok.hd hc) e hcl hdt hdn (by rw[Tr,<-hvl];exact hz) ⟨by rw[b,Tr],fun j kv ej=>?_⟩ fun h' tk dd kp=>?_
 ·obtain⟨t,key,c1,c2,c3⟩:=c j kv ej
  exact⟨t,key,by simpa using c1,c2,c3⟩
 ·have dk:=qC (P:=X.prog) (w:=X.w) (H:=H) s.heap I.big
  have hm:(fN [] kvs).length<=sizeLine:=by
   have h1:=fe kvs []
   rw[Vt]at h1
   omega
  exact⟨.ref _,_,I.laid (a:=s.heap.objs.size) (o:=.dK (fN [] kvs)) (h':=h') (t':=tk) kp (Tq _) ⟨hm,dk.2.1,_,a.merge .nil,dd⟩,rfl,q _ (I.hok.fresh (Tq _))⟩
end
end L2
namespace L3
open PySem PySem.Spec PyProof.Rows L2
section
variable {X:Cx}
noncomputable def iL:List PV->Option (List (bf×PV))
 |[]=>some []
 | .tup [x,y]::r=>match i5 x,iL r with|some k,some l=>some ((k,y)::l)|_,_=>none
 |_::_=>none
theorem mI{K:Vo}{H:Hp}:∀{vs:List V} {ps:List PV} {kvs:List (bf×PV)},Reps K H vs ps->iL ps=some kvs->∃ks:List (bf×V),vs.length=ks.length/\(∀(j:Nat) (v:V) (kv:bf×V),vs[j]?=some v->ks[j]?=some kv->∃t,v = .ref t/\SqT K H t [kV kv.1,kv.2])/\HP K H ks kvs
 |_,_,_,.nil,h=>by cases h;exact⟨[],rfl,fun j v kv h1 _=>by simp at h1,.nil⟩
 |_,_,kvs,.cons (p:=p) a r,h=>by
  unfold iL at h
  split at h
  ·rename_i e;cases e
  ·rename_i x y r' e
   cases e
   split at h
   ·rename_i k l e1 e2
    cases h
    obtain⟨ks,h1,h2,h3⟩:=mI r e2
    cases a with
    |tup hq rs=>
     cases rs with
     |cons q1 q2=>
      cases q2 with
      |cons q3 q4=>
       cases q4
       obtain rfl:=cW q1 e1
       refine⟨(k,_)::ks,by simp[h1],fun j v kv g1 g2=>?_,.cons q3 h3⟩
       cases j with
       |zero=>cases g1;cases g2;exact⟨_,rfl,hq⟩
       |succ j=>exact h2 j v kv g1 g2
   ·cases h
  ·cases h
def pk:oh:=fun ps S Q=>match ps with
 |[.ref a]=>(match S a with|some (.lst xs)=>(match iL xs with|some kvs=>∀p,S p=none->Q (.ref p) (Hk S p (.dct (Ja [] kvs)))|none=>False)|_=>False)
 |_=>False
def Ac(hc:X.calm=true):dQ X (.type "dict") pk:=⟨fun pins s σ H xs us Q I r ⟨ps,S,Q3,rp,rS,q,k⟩=>by
 unfold pk at q
 split at q
 ·cases rp with
  |cons a rr=>
   cases rr;cases a
   split at q
   ·rename_i e
    split at q
    ·rename_i eb
     obtain⟨vs,hv,rs⟩:=rS _ _ e
     obtain⟨ks,h1,h2,h3⟩:=mI rs eb
     refine sB hc pins s σ H _ us Q I r ⟨_,vs,ks,rfl,SqL.of hv,h1,h2,fun p hp=>k _ _ _ _ (q p (rS.free hp)) (.ref p) (rS.new hp ⟨_,aH,?_⟩) (.new hp)⟩
     exact(HP.merge h3 .nil).mono (.new hp)
    ·exact q.elim
   ·exact q.elim
 ·exact q.elim⟩
end
end L3
namespace L2
open PySem PySem.Spec PyProof.Rows
end L2
namespace L3
open PySem L2
end L3
namespace Sa
open PySem PyProof.Rows
def tW(t:SetTable)(j:Nat):(t.put j).1.led=t.led:=by unfold SetTable.put;dsimp only
def Ad(t:SetTable)(es:Array (Int×Value))(h:Int)(x:Value):(layNew t es h x).2.1.led=t.led:=by
 unfold layNew
 split
 ·dsimp only
  unfold SetTable.orStandIn
  split
  ·exact tW t _
  ·rename_i j wd he hn
   exact tW t j
 ·rfl
def vf(t:SetTable)(es:Array (Int×Value))(n:Nat):(relayAll t es n).2.1.led=t.led:=by
 unfold relayAll
 split
 ·rename_i t' order e
  dsimp only
  split
  ·unfold SetTable.relaid SetTable.laid at e
   cases hl:SetTable.layClean (SetTable.sizeAbove n - 1) (es.map (·.1))with
   |none=>rw[hl]at e;cases e
   |some o=>rw[hl]at e;cases e;rfl
  ·rfl
 ·rfl
noncomputable abbrev nw(ld:Bool):Obj:={ cls:=.type "set",dict:=none,data:=.set #[] 0 (.fresh 0 0 ld) }
section
variable {prog:Program} {w:World} {A:Around} {E:Vq} {s:Shared}
noncomputable abbrev gQ(w:World):Bool:=!(w.params.followText "set-order")
def EV(x:Value){Q:Vq}(q:Q (.ref s.heap.objs.size) { s with heap:=s.heap.push (nw (gQ w)) }) :
  codeAny (model prog w) A (.call (.builtin "set.__new__") ⟨[.type "set",x],[]⟩) (wants Q E) s:=by
 refine codeAny_of_tree ?_
 show wpAny _ A.in1 (checkBuiltinCall "set.__new__" ⟨[.type "set",x],[]⟩ >>= fun _=>again (.builtin "set.__new__" ⟨[.type "set",x],[]⟩)) _ _ s
 refine Tc (XC (F.newCall_set_1 x) (Tf ⟨Wb F.plain_set_new _,Vy F.entry_set_new ?_⟩))
 rw[U6 F.plain_set_new _]
 unfold Builtin.«set.__new__» Builtin.Frozenset.newClass
 have hs:=sub_set_self
 obtain⟨hp,g,d,tk,os⟩:=s
 dsimp only
 wp_walk
 refine wpAny_askSetting (Tf ?_)
 dsimp only
 simp only[newObj]
 refine Tc (wpAny_alloc (Tf ?_))
 exact Tf q
end
def qM:Manifest.owners.lookup (String.ofList ['r','o','t','a','r','e','t','i','_','t','e','s'].reverse)=some Manifest.sig_set_iterator:=by kernel_rfl
def Hs:Slot "set_iterator" "__next__" "set_iterator.__next__" :=
 .of (owner:="set_iterator") (n:="__next__") (by rw[Wz,VN];kernel_rfl) (by decide +kernel) (by decide +kernel) (by decide +kernel)
  (by first|exact .inl (by decide +kernel)|exact .inr (by decide +kernel)) (by rw[isSubtype_type];kernel_rfl)
def j3:Slot "set_iterator" "__iter__" "set_iterator.__iter__" :=
 .of (owner:="set_iterator") (n:="__iter__") (by rw[Wz,VN];kernel_rfl) (by decide +kernel) (by decide +kernel) (by decide +kernel)
  (by first|exact .inl (by decide +kernel)|exact .inr (by decide +kernel)) (by rw[isSubtype_type];kernel_rfl)
def fj:entryFor table "set_iterator.__next__" = some Builtin.«set_iterator.__next__»:=entryFor_of_tree (by kernel_rfl)
def nC:entryFor table "set_iterator.__iter__" = some Builtin.«dict_keyiterator.__iter__»:=
 entryFor_alias (id':="dict_keyiterator.__iter__") (by kernel_rfl) rfl (by decide +kernel) (by kernel_rfl)
def mJ:entryFor table "set.__iter__" = some Builtin.«frozenset.__iter__»:=
 entryFor_alias (id':="frozenset.__iter__") (by kernel_rfl) rfl (by decide +kernel) (by kernel_rfl)
def fR(a:Value):argsOk "set_iterator.__next__" ⟨[a],[]⟩:=by
 unfold argsOk;rw[signature?_of (id:="set_iterator.__next__") (n:=['_','_','t','x','e','n','_','_']) (o:=['r','o','t','a','r','e','t','i','_','t','e','s']) (by kernel_rfl) qM];kernel_rfl
def pp(a:Value):argsOk "set_iterator.__iter__" ⟨[a],[]⟩:=by
 unfold argsOk;rw[signature?_of (id:="set_iterator.__iter__") (n:=['_','_','r','e','t','i','_','_']) (o:=['r','o','t','a','r','e','t','i','_','t','e','s']) (by kernel_rfl) qM];kernel_rfl
theorem jI{α:Type}:∀(xs:List α) (i:Nat) (h:i < xs.length),(xs[i]::xs.eraseIdx i).Perm xs
 |x::xs,0,h=>Xw _
 |x::xs,i+1,h=>by
  have:=jI xs i (by simpa using h)
  exact(List.Perm.swap _ _ _).trans (List.Perm.cons x this)
section
variable {prog:Program} {w:World} {A:Around} {E:Vq} {s:Shared}
def sC{src:Source}{n:Nat}{Q:Nat->Shared->Prop}(hn:n≠0)(q:∀i,i < n->Q i { s with drawn:=s.drawn.bump src }):wpAny (model prog w) A (choose src n) Q E s:=fun Γ p hΓ=>by
 unfold choose
 rw[Sem.wp_choose]
 exact⟨hn,q _ (Xu _ (Nat.pos_of_ne_zero hn))⟩
def xK{α:Type}:∀(n:Nat) (xs:List α) (s:Shared) {Q:List α->Shared->Prop},xs.length=n->(∀ys d,ys.Perm xs->Q ys { s with drawn:=d })->wpAny (model prog w) A (drawOrder n xs) Q E s:=by
 intro n
 induction n with
 |zero=>
  intro xs s Q h q
  have:xs=[]:=WO.mp h
  subst this
  unfold drawOrder
  exact Tf (q [] s.drawn (Xw _))
 |succ n ih=>
  intro xs s Q h q
  cases xs with
  |nil=>cases h
  |cons x xs=>
  unfold drawOrder
  refine Tc (sC (by simp) fun i hi=>?_)
  have hg:(x::xs)[i]?=some (x::xs)[i]:=Tp hi
  rw[hg]
  refine Tc (ih _ _ (by rw[List.length_eraseIdx,if_pos hi];simpa using h) fun ys d hp=>?_)
  exact Tf (q _ d ((List.Perm.cons _ hp).trans (jI _ i hi)))
theorem tX{α:Type}(next:Nat->Nat):∀(f k:Nat) (l:List α) (out:Array α),l.length=f->∃m:List α,m.Perm l/\pickOrder.go next f k l out=out++m.toArray
 |0,k,l,out,h=>by
  have:l=[]:=WO.mp h
  subst this
  exact⟨[],Xw _,by simp[pickOrder.go]⟩
 |f+1,k,l,out,h=>by
  have hi:next k % l.length < l.length:=Xu _ (by omega)
  unfold pickOrder.go
  rw[Tp hi]
  dsimp only
  obtain⟨m,hm,e⟩:=tX next f (k+1) (l.eraseIdx (next k % l.length)) (out.push l[next k % l.length]) (by rw[List.length_eraseIdx,if_pos hi];omega)
  exact⟨l[next k % l.length]::m,(List.Perm.cons _ hm).trans (jI _ _ hi),by rw[e];simp⟩
def kQ{α:Type}(next:Nat->Nat)(xs:Array α):(pickOrder next xs).toList.Perm xs.toList:=by
 obtain⟨m,hm,e⟩:=tX next xs.size 0 xs.toList #[] (by simp)
 unfold pickOrder
 rw[e]
 simpa using hm
def Jc(h:Heap)(a:Addr)(es:Array (Int×Value))(ep:Nat)(t:SetTable):Prop:=∃o,h.get? a=some o/\o.ExactSet/\o.data = .set es ep t
def IW(h:Heap)(I a:Addr)(first:Value)(i n ep:Nat):Prop:=
 ∃o,h.get? I=some o/\o.cls = .type "set_iterator"/\o.data = .fields #[first,.int i 0,.ref a,.int n 0,.int ep 0]
def Jc.at_{h h':Heap}{a es ep t}(x:Jc h a es ep t)(e:∀o,h.get? a=some o->h'.get? a=some o):Jc h' a es ep t:=let ⟨o,ho,r⟩:=x;⟨o,e _ ho,r⟩
def IW.at_{h h':Heap}{I a f i n ep}(x:IW h I a f i n ep)(e:∀o,h.get? I=some o->h'.get? I=some o):IW h' I a f i n ep:=let ⟨o,ho,r⟩:=x;⟨o,e _ ho,r⟩
def IW.typeIs{I a f i n ep}(x:IW s.heap I a f i n ep):s.TypeIs (.ref I) "set_iterator":=let ⟨o,ho,hc,_⟩:=x;⟨o,ho,hc⟩
def sD{I a:Addr}{f:Value}{i n ep:Nat}{Q:Vq}(hit:IW s.heap I a f i n ep)(h:Q (.ref I) s):wpAny (model prog w) A (pyIter (.ref I)) Q E s:=by
 refine wpAny_pyIter_slot hit.typeIs j3 (Uv j3 hit.typeIs nC ?_ (pp _))
 show wpAny _ _ (ret (.ref I)) _ _ s
 exact Tf ⟨_,rfl,"set_iterator",_,hit.typeIs,Hs.lookup,h⟩
def C2{I a tp:Addr}{i n ep p:Nat}{es:Array (Int×Value)}{t:SetTable}{ps:Vw}{pn:Nat}{ot:Obj}{e:Int×Value}{Q:Option Value->Shared->Prop}(hit:IW s.heap I a (.ref tp) i n ep)(ha:Jc s.heap a es ep t)(hf:t.fits es.size=true)(hn:es.size=n)
  (ht:s.heap.get? tp=some ot) (htd:ot.data = .seq ps pn) (hp:ps[i]?=some (rawInt p)) (he:es[p]?=some e)
  (q:∀h',IW h' I a (.ref tp) (i+1) n ep->Heap.SameBut I s.heap h'->Q (some e.2) { s with heap:=h' }):wpAny (model prog w) A (pyNext (.ref I)) Q E s:=by
 obtain⟨o,ho,hc,hd⟩:=id hit
 obtain⟨oa,hoa,hx,hda⟩:=id ha
 unfold pyNext
 refine Tc (Wc (Ui (name:=Str.ofString "__next__") hit.typeIs Hs (Uv Hs hit.typeIs fj ?_ (fR _))))
 unfold Builtin.«set_iterator.__next__»
 refine Tc (Tf ?_)
 refine Tc (wpAny_fieldsOf ho hd ?_)
 dsimp only
 refine Tc (m:=setEntries a) (Tc (UQ hoa hda hf (Tf ?_)))
 rw[if_neg (by rw[hn];simp)]
 refine Tc (Uo ht htd ?_)
 dsimp only
 rw[show(Int.toNat (i:Int))=i from rfl,hp]
 simp only[rawInt]
 refine Tc (m:=setNextDrawn a _ _) ?_
 unfold setNextDrawn
 refine Tc (UQ hoa hda hf ?_)
 dsimp only
 rw[if_neg (by simp)]
 simp only[Int.toNat_natCast,he]
 refine Tf ?_
 refine Tc (VJ ho hd (by simp) ?_)
 have hit':IW (s.heap.update I (Obj.mapFields (·.setIfInBounds 1 (rawInt ((i:Int)+1))))) I a (.ref tp) (i+1) n ep:=
  ⟨_,Ur _ ho (VO (UN hd _)),(WZ ..).trans hc,by rw[UN hd];simp[rawInt]⟩
 exact Tf ⟨_,rfl,Tf (q _ hit' (Uz ..))⟩
end
section
variable {prog:Program} {w:World} {A:Around} {E:Vq} {s:Shared} {a:Addr} {es:Array (Int×Value)} {ep:Nat} {t:SetTable}
def lZ{Q:Bool->Shared->Prop}(q:Q (w.params.followText "set-order") s):wpAny (model prog w) A setsByText Q E s:=by
 unfold setsByText
 exact Tc (wpAny_askSetting (Tf q))
def EW{given slot:Nat}{Q:Option (Value×Nat)->Shared->Prop}(ha:Jc s.heap a es ep t)(hf:t.fits es.size=true)(hb:w.params.followText "set-order" = true)
  (q:Q (((pickOrder (w.params.setOrder a ep) es)[given]?).map fun e=>(e.2,slot)) s):wpAny (model prog w) A (setNext a slot given ep) Q E s:=by
 obtain⟨oa,hoa,hx,hda⟩:=id ha
 unfold setNext
 refine Tc (UQ hoa hda hf ?_)
 dsimp only
 refine Tc (lZ ?_)
 rw[if_pos hb,if_neg (by simp)]
 refine Tc (m:=setWalk a) ?_
 unfold setWalk
 refine Tc (UQ hoa hda hf ?_)
 dsimp only
 refine Tc (lZ ?_)
 rw[if_pos hb]
 exact Tc (wpAny_askSetting (Tf (Tf q)))
def pq{I:Addr}{i n slot:Nat}{r:Option (Value×Nat)}{Q:Option Value->Shared->Prop}(hh:A.handled=none)(hit:IW s.heap I a (.int slot 0) i n ep)(ha:Jc s.heap a es ep t)(hf:t.fits es.size=true)(hn:es.size=n)
  (hs:∀{B:Around} {E':Vq} {R:Option (Value×Nat)->Shared->Prop},R r s->wpAny (model prog w) B (setNext a slot i ep) R E' s)
  (q1:∀x j h',r=some (x,j)->IW h' I a (.int j 0) (i+1) n ep->Heap.ExtBut I s.heap h'->Q (some x) { s with heap:=h' })
  (q2:∀h',r=none->Heap.ExtBut I s.heap h'->Q none { s with heap:=h' }):wpAny (model prog w) A (pyNext (.ref I)) Q E s:=by
 obtain⟨o,ho,hc,hd⟩:=id hit
 obtain⟨oa,hoa,hx,hda⟩:=id ha
 unfold pyNext
 refine Tc (Wc (Ui (name:=Str.ofString "__next__") hit.typeIs Hs (Uv Hs hit.typeIs fj ?_ (fR _))))
 unfold Builtin.«set_iterator.__next__»
 refine Tc (Tf ?_)
 refine Tc (wpAny_fieldsOf ho hd ?_)
 dsimp only
 refine Tc (m:=setEntries a) (Tc (UQ hoa hda hf (Tf ?_)))
 rw[if_neg (by rw[hn];simp)]
 simp only[Int.toNat_natCast]
 refine Tc (hs ?_)
 match r,q1,q2 with
 |some (x,j),q1,_=>
  dsimp only
  refine Tc (VJ ho hd (by simp) ?_)
  have g1:=Ur (Obj.mapFields (·.setIfInBounds 0 (rawInt j))) ho (VO (UN hd _))
  have d1:=UN hd (·.setIfInBounds 0 (rawInt j))
  refine Tc (VJ g1 d1 (by simp) ?_)
  have hit':IW ((s.heap.update I (Obj.mapFields (·.setIfInBounds 0 (rawInt j)))).update I (Obj.mapFields (·.setIfInBounds 1 (rawInt ((i:Int)+1))))) I a (.int j 0) (i+1) n ep:=
   ⟨_,Ur _ g1 (VO (UN d1 _)),(WZ ..).trans ((WZ ..).trans hc),by rw[UN d1];simp[rawInt]⟩
  exact Tf ⟨_,rfl,Tf (q1 x j _ rfl hit' fun b o hb e=>(Uz ..).extBut b o hb ((Uz ..).extBut b o hb e))⟩
 |none,_,q2=>
  dsimp only
  refine Tc (VJ ho hd (by simp) ?_)
  show wpAny _ _ (newExc (.type "StopIteration") [] >>= _) _ _ _
  refine Tc ?_
  simp only[newExc,newTuple]
  refine Tc (Ud ?_ (by size_fits))
  refine Tc (m:=firstArgMember _ _) (XC (a:=Value.none) (by first|rfl|(simp only[firstArgMember];rfl)) ?_)
  refine Ud ?_ (by size_fits)
  simp only[raiseNew]
  refine Tc (wpAny_handled ?_)
  rw[show A.in1.handled=none from hh]
  refine Tc (Tf (wpAny_throw ?_))
  refine Tc (V0 (T:="StopIteration") (b:=true) ⟨_,Tn _ rfl,rfl⟩ Xs ?_)
  exact Tf (q2 _ rfl (((Uz ..).extBut.push _).push _))
def EX{I tp:Addr}{i n:Nat}{ps:Vw}{pn:Nat}{ot:Obj}{Q:Option Value->Shared->Prop}(hh:A.handled=none)(hit:IW s.heap I a (.ref tp) i n ep)(ha:Jc s.heap a es ep t)(hf:t.fits es.size=true)(hn:es.size=n)
  (ht:s.heap.get? tp=some ot) (htd:ot.data = .seq ps pn) (hp:ps[i]?=none)
  (q:∀h',Heap.ExtBut I s.heap h'->Q none { s with heap:=h' }):wpAny (model prog w) A (pyNext (.ref I)) Q E s:=by
 obtain⟨o,ho,hc,hd⟩:=id hit
 obtain⟨oa,hoa,hx,hda⟩:=id ha
 unfold pyNext
 refine Tc (Wc (Ui (name:=Str.ofString "__next__") hit.typeIs Hs (Uv Hs hit.typeIs fj ?_ (fR _))))
 unfold Builtin.«set_iterator.__next__»
 refine Tc (Tf ?_)
 refine Tc (wpAny_fieldsOf ho hd ?_)
 dsimp only
 refine Tc (m:=setEntries a) (Tc (UQ hoa hda hf (Tf ?_)))
 rw[if_neg (by rw[hn];simp)]
 refine Tc (Uo ht htd ?_)
 dsimp only
 rw[show(Int.toNat (i:Int))=i from rfl,hp]
 dsimp only
 refine Tc (VJ ho hd (by simp) ?_)
 have g1:=Ur (Obj.mapFields (·.setIfInBounds 0 (rawInt 0))) ho (VO (UN hd _))
 have d1:=UN hd (·.setIfInBounds 0 (rawInt 0))
 refine Tc (VJ g1 d1 (by simp) ?_)
 show wpAny _ _ (newExc (.type "StopIteration") [] >>= _) _ _ _
 refine Tc ?_
 simp only[newExc,newTuple]
 refine Tc (Ud ?_ (by size_fits))
 refine Tc (m:=firstArgMember _ _) (XC (a:=Value.none) (by first|rfl|(simp only[firstArgMember];rfl)) ?_)
 refine Ud ?_ (by size_fits)
 simp only[raiseNew]
 refine Tc (wpAny_handled ?_)
 rw[show A.in1.handled=none from hh]
 refine Tc (Tf (wpAny_throw ?_))
 refine Tc (V0 (T:="StopIteration") (b:=true) ⟨_,Tn _ rfl,rfl⟩ Xs ?_)
 refine Tf (q _ (Heap.ExtBut.push (Heap.ExtBut.push (fun b o hb e=>(Uz ..).extBut b o hb ((Uz ..).extBut b o hb e)) _) _))
end
section
variable {prog:Program} {w:World} {A:Around} {E:Vq} {s:Shared} {a:Addr} {es:Array (Int×Value)} {ep:Nat} {t:SetTable}
def kR{I:Addr}{h h':Heap}(hs:Heap.ExtBut I h h'):∀b o,b ∉ [I]->h.get? b=some o->h'.get? b=some o:=fun b o hb e=>hs b o (fun x=>hb (by simp[x])) e
def Ae(hh:A.handled=none)(I:Addr)(hne:a≠I)(hf:t.fits es.size=true)(hb:w.params.followText "set-order" = true) :
  Walks prog w A I [I,a] [I] es.size (fun i v=>((pickOrder (w.params.setOrder a ep) es).toList.map (·.2))[i]?=some v) (fun i h=>IW h I a (.int 0 0) i es.size ep/\Jc h a es ep t) where
 sub:=fun b hb=>by simp at hb;simp[hb]
 frame:=fun _ _ _ st hk=>⟨st.1.at_ fun o e=>hk I (by simp) o e,st.2.at_ fun o e=>hk a (by simp) o e⟩
 item:=fun i s Q E hi st hQ=>by
  refine pq hh st.1 st.2 hf rfl (fun q=>EW st.2 hf hb q) (fun x j h' e hit hs=>?_) fun h' e hs=>?_
  ·obtain⟨p,hp,e⟩:=UC.mp e
   cases e
   exact hQ _ h' s.toks (by rw[Tv,We,hp];rfl) ⟨hit,st.2.at_ fun o e=>hs a o hne e⟩ (kR hs)
  ·have hl:=(kQ (w.params.setOrder a ep) es).length_eq
   simp only[Array.length_toList]at hl
   rw[Option.map_eq_none_iff,Array.getElem?_eq_none_iff]at e
   omega
 done:=fun s Q E st hQ=>by
  refine pq hh st.1 st.2 hf rfl (fun q=>EW st.2 hf hb q) (fun x j h' e hit hs=>?_) fun h' e hs=>hQ h' s.toks (kR hs)
  have hl:=(kQ (w.params.setOrder a ep) es).length_eq
  simp only[Array.length_toList]at hl
  rw[UX (by omega)]at e
  cases e
 self:=fun _ _ _ _ st hQ=>sD st.1 hQ
def Af(hh:A.handled=none)(I tp:Addr)(hne:a≠I)(hnt:tp≠I)(hf:t.fits es.size=true)(ps:List Nat)(hps:ps.Perm (List.range es.size)) :
  Walks prog w A I [I,a,tp] [I] es.size (fun i v=>(ps.map fun p=>((es[p]?.map (·.2)).getD .none))[i]?=some v) (fun i h=>IW h I a (.ref tp) i es.size ep/\Jc h a es ep t/\∃ot pn,h.get? tp=some ot/\ot.data = .seq (ps.map fun(p:Nat)=>rawInt p).toArray pn) where
 sub:=fun b hb=>by simp at hb;simp[hb]
 frame:=fun _ _ _ st hk=>⟨st.1.at_ fun o e=>hk I (by simp) o e,st.2.1.at_ fun o e=>hk a (by simp) o e,let ⟨ot,pn,h1,h2⟩:=st.2.2;⟨ot,pn,hk tp (by simp) ot h1,h2⟩⟩
 item:=fun i s Q E hi st hQ=>by
  obtain⟨st1,st2,ot,pn,h1,h2⟩:=st
  have hl:ps.length=es.size:=by rw[hps.length_eq];simp
  have hi':i < ps.length:=by omega
  have hm:ps[i] < es.size:=U9.mp (hps.mem_iff.mp (VG hi'))
  refine C2 (p:=ps[i]) (e:=es[ps[i]]) st1 st2 hf rfl h1 h2 (by simp[hi']) (by simp[hm]) fun h' hit hs=>?_
  exact hQ _ h' s.toks (by simp[hi',hm]) ⟨hit,st2.at_ fun o e=>hs.extBut a o hne e,ot,pn,hs.extBut tp ot hnt h1,h2⟩ (kR hs.extBut)
 done:=fun s Q E st hQ=>by
  obtain⟨st1,st2,ot,pn,h1,h2⟩:=st
  have hl:ps.length=es.size:=by rw[hps.length_eq];simp
  exact EX hh st1 st2 hf rfl h1 h2 (by simp[hl]) fun h' hs=>hQ h' s.toks (kR hs)
 self:=fun _ _ _ _ st hQ=>sD st.1 hQ
end
section
variable {prog:Program} {w:World} {A:Around} {E:Vq} {s:Shared} {a:Addr} {es:Array (Int×Value)} {ep:Nat} {t:SetTable}
def vg{Q:Bool->Shared->Prop}(ha:Jc s.heap a es ep t)(hf:t.fits es.size=true)(q:Q (!(w.params.followText "set-order")&&(!t.plain&&decide (es.size > 1))) s):wpAny (model prog w) A (setDrawn a) Q E s:=by
 obtain⟨oa,hoa,hx,hda⟩:=id ha
 unfold setDrawn
 refine Tc (UQ hoa hda hf ?_)
 dsimp only
 refine Tc (lZ ?_)
 exact Tf q
def Wk(prog:Program)(w:World)(I:Addr)(fp:List Addr)(es:Array (Int×Value))(ord:Vv)(St:Nat->Heap->Prop):Prop:=
 ord.Perm (es.toList.map (·.2))/\I∈fp/\∀(B:Around),B.handled=none->Walks prog w B I fp [I] es.size (fun i v=>ord[i]?=some v) St
def vh(es:Array (Int×Value)):((List.range es.size).map fun p=>((es[p]?.map (·.2)).getD .none))=es.toList.map (·.2):=by
 refine List.ext_getElem (by simp) fun i h1 h2=>?_
 have hi:i < es.size:=by simpa using h1
 simp[hi]
end
section
variable {prog:Program} {w:World} {A:Around} {E:Vq} {s:Shared} {a:Addr} {es:Array (Int×Value)} {ep:Nat} {t:SetTable}
def mK:typeLookup (.type "set") "__len__" = pure (some (.builtin "set.__len__")):=F.slot_set_len.lookup
def xL{Q:Bool->Shared->Prop}(hT:s.TypeIs (.ref a) "set")(q:Q false s):wpAny (model prog w) A (Builtin.List.listLengthHint (.ref a)) Q E s:=by
 unfold Builtin.List.listLengthHint
 refine Tc (wpAny_specialOf hT mK ?_)
 dsimp only
 rw[show splitId "set.__len__" = some ("set","__len__") by decide +kernel]
 dsimp only
 refine Tc (V0 hT sub_set_self ?_)
 rw[if_neg (by simp)]
 rw[if_pos (by decide +kernel)]
 refine Tc (V6 hT ?_)
 exact Tf q
def xM{ord:Vv}{acc:Vw}{n:Nat}(hl:ord.length=n)(h:ItemsOf (fun i v=>ord[i]?=some v) acc n):acc.toList=ord:=by
 refine List.ext_getElem (by rw[UH,h.1,hl]) fun i h1 h2=>?_
 have hi:i < acc.size:=by simpa using h1
 have:=h.2 i acc[i] (by simp[hi])
 dsimp only at this
 rw[Tp h2]at this
 simpa using(UB this).symm
end
theorem lB{α:Type} [DecidableEq α]:∀(l m:List α),l.Nodup->l.length=m.length->(∀x∈l,x∈m)->l.Perm m
 |[],m,_,h,_=>by rw[WO.mp h.symm]
 |x::l,m,hn,h,hs=>by
  have hx:x∈m:=hs x (by simp)
  have hp:m.Perm (x::m.erase x):=List.perm_cons_erase hx
  have hn':=Uw.mp hn
  refine(List.Perm.cons x (lB l (m.erase x) hn'.2 ?_ fun y hy=>?_)).trans hp.symm
  ·rw[VY hx,<-h];simp
  ·have:y∈x::m.erase x:=hp.mem_iff.mp (hs y (by simp[hy]))
   rcases Th.mp this with e|e
   ·exact absurd (e▸hy) hn'.1
   ·exact e
end Sa
namespace L2
open PySem PySem.Spec PyProof.Rows
section
variable {X:Cx} {pins:Va} {σ:List (Option V)} {H:Hp} {s:Shared}
def Inv.dr(I:Inv X pins σ H s)(d:Drawn):Inv X pins σ H { s with drawn:=d }:=⟨I.ok,I.os,I.bare,I.base,I.loc,I.cell,I.free,I.J3,I.pin,I.hok,I.len⟩
variable {e:Expr} {te:TE} {p p2 pos pos2:Pos}
end
end L2
namespace L3
open PySem L2
end L3
namespace L2
open PySem PySem.Spec PyProof.Rows
end L2
namespace L3
open PySem L2
end L3
namespace Ia
open PySem PyProof.Rows
def Up(xs:Array Nat):Prop:=xs.toList.Pairwise (· < ·)
def Up.lt{xs:Array Nat}(h:Up xs){a b:Nat}(hab:a < b)(hb:b < xs.size):xs.getD a 0 < xs.getD b 0:=by
 have:=List.pairwise_iff_getElem.mp h a b (by simpa using UW hab hb) (by simpa using hb) hab
 simpa [Array.getD,UW hab hb,hb]using this
theorem pA(xs:Array Nat)(j:Nat)(h:Up xs):∀(fuel lo hi:Nat),lo<=hi->hi<=xs.size->hi - lo<=fuel->(∀i,i < lo->xs.getD i 0 < j)->(∀i,hi<=i->i < xs.size->j<=xs.getD i 0)->
  SetTable.below.go xs j fuel lo hi<=xs.size/\(∀i,i < SetTable.below.go xs j fuel lo hi->xs.getD i 0 < j)/\∀i,SetTable.below.go xs j fuel lo hi<=i->i < xs.size->j<=xs.getD i 0
 |0,lo,hi,h1,h2,h3,h4,h5=>by
  unfold SetTable.below.go
  have:lo=hi:=by omega
  subst this
  exact⟨h2,h4,h5⟩
 |fuel+1,lo,hi,h1,h2,h3,h4,h5=>by
  unfold SetTable.below.go
  by_cases hl:lo < hi
  ·rw[if_pos hl]
   dsimp only
   have hm:(lo+hi) / 2 < xs.size:=by omega
   have eg:xs.getD ((lo+hi) / 2) j=xs.getD ((lo+hi) / 2) 0:=by simp[Array.getD,hm]
   rw[eg]
   by_cases hc:xs.getD ((lo+hi) / 2) 0 < j
   ·rw[if_pos hc]
    refine pA xs j h fuel _ _ (by omega) h2 (by omega) (fun i hi'=>?_) h5
    by_cases e:i=(lo+hi) / 2
    ·rw[e];exact hc
    ·exact UW (h.lt (b:=(lo+hi) / 2) (by omega) hm) hc
   ·rw[if_neg hc]
    refine pA xs j h fuel _ _ (by omega) (by omega) (by omega) h4 (fun i hi' hs=>?_)
    by_cases e:i=(lo+hi) / 2
    ·rw[e];omega
    ·have:=h.lt (a:=(lo+hi) / 2) (b:=i) (by omega) hs
     omega
  ·rw[if_neg hl]
   have:lo=hi:=by omega
   subst this
   exact⟨h2,h4,h5⟩
def mL{xs:Array Nat}(h:Up xs)(j:Nat):SetTable.below xs j<=xs.size/\(∀i,i < SetTable.below xs j->xs.getD i 0 < j)/\∀i,SetTable.below xs j<=i->i < xs.size->j<=xs.getD i 0:=
 pA xs j h xs.size 0 xs.size (Ug _) (Tq _) (by omega) (fun i hi=>by omega) fun i h1 h2=>by omega
def qN{xs:Array Nat}(h:Up xs){i:Nat}(hi:i<=xs.size):SetTable.below xs (if i=0 then 0 else xs.getD (i - 1) 0+1)=i:=by
 obtain⟨b1,b2,b3⟩:=mL h (if i=0 then 0 else xs.getD (i - 1) 0+1)
 generalize SetTable.below xs (if i=0 then 0 else xs.getD (i - 1) 0+1)=r at b1 b2 b3
 by_cases h0:i=0
 ·subst h0
  rw[if_pos rfl]at b2
  by_cases hr:r=0
  ·exact hr
  ·have:=b2 0 (by omega);omega
 ·rw[if_neg h0]at b2 b3
  by_cases h1:r < i
  ·have:=b3 r (Tq _) (by omega)
   by_cases e:r=i - 1
   ·rw[e]at this;omega
   ·have q:=h.lt (a:=r) (b:=i - 1) (by omega) (by omega)
    omega
  ·by_cases h2:i < r
   ·have:=b2 i h2
    have q:=h.lt (a:=i - 1) (b:=i) (by omega) (by omega)
    omega
   ·omega
def vi{xs:Array Nat}(h:Up xs){j:Nat}(hn:xs[SetTable.below xs j]?≠some j):Up (SetTable.insertAt xs (SetTable.below xs j) j):=by
 obtain⟨b1,b2,b3⟩:=mL h j
 generalize SetTable.below xs j=r at b1 b2 b3 hn
 unfold Up SetTable.insertAt
 have e:((xs.extract 0 r).push j++xs.extract r xs.size).toList=xs.toList.take r++j::xs.toList.drop r:=by
  simp[List.extract_eq_drop_take]
  exact Vd (by simp)
 rw[e,VU]
 have g:∀a (ha:a < xs.size),xs.toList[a]?=some (xs.getD a 0):=fun a ha=>by simp[Array.getD,ha]
 have lo:∀x∈xs.toList.take r,x < j:=fun x hx=>by
  obtain⟨i,hi,rfl⟩:=U7.mp hx
  have hi2:i < r/\i < xs.size:=by simp at hi;omega
  have:=b2 i hi2.1
  simpa [Array.getD,hi2.2]using this
 have up:∀x∈xs.toList.drop r,j < x:=fun x hx=>by
  obtain⟨i,hi,rfl⟩:=U7.mp hx
  have hi2:r+i < xs.size:=by simp at hi;omega
  have hr:r < xs.size:=by omega
  have q1:=b3 r (Tq _) hr
  have q0:xs.getD r 0≠j:=fun e=>hn (by simp[<-e,Array.getD,hr])
  have q2:xs.getD r 0<=xs.getD (r+i) 0:=by
   by_cases e:i=0
   ·subst e;exact Tq _
   ·exact Vj (h.lt (by omega) hi2)
  have e2:(xs.toList.drop r)[i]=xs.getD (r+i) 0:=by simp[Array.getD,hi2]
  rw[e2]
  omega
 refine⟨h.sublist (WT _ _),U4.mpr ⟨up,h.sublist (List.drop_sublist _ _)⟩,fun a ha b hb=>?_⟩
 rcases Th.mp hb with rfl|hb
 ·exact lo a ha
 ·exact UW (lo a ha) (up b hb)
def j4(n:Nat):Up (Array.range n):=by
 unfold Up
 rw[Array.toList_range]
 exact List.pairwise_lt_range
theorem jJ(t:SetTable)(f:Nat->Int)(h:Int):∀(fuel:Nat) (p:SetTable.Probe) (j:Nat) (d:Option Nat),(∀d',p.dummy=some d'->t.place[SetTable.below t.place d']?≠some d')->SetTable.probe.go t f h fuel p=some (.empty j d)->t.place[SetTable.below t.place (d.getD j)]?≠some (d.getD j)
 |0,_,_,_,_,e=>by cases e
 |fuel+1,p,j,d,hp,e=>by
  unfold SetTable.probe.go at e
  have sl:∀x,t.slot x = .empty\/t.slot x = .dummy->t.place[SetTable.below t.place x]?≠some x:=fun x hx=>by
   unfold SetTable.slot at hx
   dsimp only at hx
   intro z
   rw[if_pos (by rw[z];simp)]at hx
   rcases hx with hx|hx<;>cases hx
  split at e
  ·rename_i hs
   cases e
   cases hd:p.dummy with
   |none=>exact sl _ (.inl hs)
   |some d'=>exact hp d' hd
  ·rename_i hs
   refine jJ t f h fuel _ j d (fun d' hd=>?_) e
   have:d'=p.j:=by
    unfold SetTable.advance at hd
    split at hd<;>(simp at hd;exact hd.symm)
   rw[this]
   exact sl _ (.inr hs)
  ·split at e
   ·cases e
   ·refine jJ t f h fuel _ j d (fun d' hd=>hp d' ?_) e
    unfold SetTable.advance at hd
    split at hd<;>simpa using hd
def C3(t:SetTable)(es:Array (Int×Value))(h:Int)(x:Value)(hu:Up t.place):Up (layNew t es h x).2.1.place:=by
 unfold layNew
 split
 ·rename_i slot wd e
  dsimp only
  unfold SetTable.orStandIn
  split
  ·unfold SetTable.freeSlot at e
   split at e
   ·rename_i j d ep
    cases e
    exact vi hu (jJ t _ h _ _ j d (by intro d' hd;cases hd) ep)
   ·cases e
  ·exact j4 _
 ·exact j4 _
def xN(t:SetTable)(es:Array (Int×Value))(n:Nat):Up (relayAll t es n).2.1.place:=by
 unfold relayAll
 split
 ·rename_i t' order e
  dsimp only
  split
  ·unfold SetTable.relaid SetTable.laid at e
   cases hl:SetTable.layClean (SetTable.sizeAbove n - 1) (es.map (·.1))with
   |none=>rw[hl]at e;cases e
   |some owner=>
    rw[hl]at e
    cases e
    unfold Up
    simp only[List.toList_toArray]
    have:∀(l:List Nat),l.Pairwise (· < ·)->((l.filterMap fun j=>(owner.getD j none).map (j,·)).map (·.1)).Pairwise (· < ·):=by
     intro l hl
     refine hl.sublist ?_
     clear hl
     induction l with
     |nil=>exact List.Sublist.refl _
     |cons a r ih=>
      rw[Ws]
      cases ho:owner.getD a none with
      |none=>exact ih.cons a
      |some k=>exact ih.cons₂ a
    exact this _ List.pairwise_lt_range
  ·exact j4 _
 ·exact j4 _
end Ia
namespace Ia
open PySem PyProof.Rows Sa
section
variable {prog:Program} {w:World} {A:Around} {E:Vq} {s:Shared}
def KP(prog:Program)(w:World)(h:Heap)(a:Addr)(ld:Bool)(ss:Vu):Prop:=
 ∃o es ep t,h.get? a=some o/\o.ExactSet/\o.data = .set es ep t/\ElemsOf (intKind prog w) es.toList/\(∀k,k∈ss↔∃e∈es.toList,(intKind prog w).is k e.2=true)/\es.size=ss.length/\ss.Nodup/\t.fits es.size=true/\t.led=ld/\Up t.place
def Bh{a:Addr}{o:Obj}{es es':Array (Int×Value)}{ep:Nat}{t t':SetTable}{ld:Bool}{ss:Vu}{h:Heap}(ho:h.get? a=some o)(hx:o.ExactSet)(hd:o.data = .set es ep t)(e1:ElemsOf (intKind prog w) es'.toList)(e2:∀k,k∈ss↔∃e∈es'.toList,(intKind prog w).is k e.2=true)(e3:es'.size=ss.length)(e4:ss.Nodup)(e5:t'.fits es'.size=true)(e6:t'.led=ld)(e7:Up t'.place) :
  ∃o',(h.update a (Obj.putSet es' t')).get? a=some o'/\o'.ExactSet/\o'.data = .set es' (ep+1) t'/\KP prog w (h.update a (Obj.putSet es' t')) a ld ss:=by
 have g:=Ur (Obj.putSet es' t') ho (by rw[putSet_of es' t' hd];rfl)
 rw[putSet_of es' t' hd]at g
 exact⟨_,g,hx,rfl,_,es',ep+1,t',g,hx,rfl,e1,e2,e3,e4,e5,e6,e7⟩
def EY{a:Addr}{ld:Bool}{ss:Vu}{k:Int}{tk:Tok}{Q:Bool->Shared->Prop}(hS:KP prog w s.heap a ld ss)(hl:ss.length < 60)
  (q:∀g b,Heap.SameBut a s.heap g->KP prog w g a ld (if k∈ss then ss else ss++[k])->Q b { s with heap:=g }):wpAny (model prog w) A (setAddHashed a (.int k tk) (hashInt k)) Q E s:=by
 obtain⟨o,es,ep,t,ho,hx,hd,hel,hm,hn,hnd,hf,LK,hpl⟩:=hS
 have hkey:(intKind prog w).is k (.int k tk)=true:=(show Value.isInt k (.int k tk)=true by simp[Value.isInt])
 have OV:es.size < scanBound:=by rw[hn];unfold scanBound;omega
 have hid:s={ s with heap:=s.heap }:=by cases s;rfl
 unfold setAddHashed setAddHashedIn
 refine US (Tc (UQ ho hd hf ?_))
 dsimp only
 rw[byScan_of (knd:=intKind prog w) (x:=.int k tk) rfl OV hel]
 simp only[↓reduceIte]
 unfold setAddByScan
 refine Tc (Tc (Vp (Tc ?_)))
 refine wpAny_setScan_of (knd:=intKind prog w) hkey ho hd hf hel ?_
 cases hr:List.findIdx? (fun e=>(intKind prog w).is k e.2) es.toList with
 |some j=>
  dsimp only
  obtain⟨hj,hp,_⟩:=List.findIdx?_eq_some_iff_getElem.mp hr
  have hin:k∈ss:=(hm k).mpr ⟨_,VG hj,hp⟩
  rw[if_pos hin]at q
  refine Tf (Tf ?_)
  rw[hid]
  exact q s.heap _ (Heap.SameBut.refl a s.heap) ⟨o,es,ep,t,ho,hx,hd,hel,hm,hn,hnd,hf,LK,hpl⟩
 |none=>
  dsimp only
  have hout:k ∉ ss:=fun hin=>by
   obtain⟨e,he,hp⟩:=(hm k).mp hin
   have:=List.findIdx?_eq_none_iff.mp hr e he
   rw[hp]at this;cases this
  rw[if_neg hout]at q
  have p1:=layNew_perm t es (hashInt k) (.int k tk)
  have p2:=layNew_fits t es (hashInt k) (.int k tk)
  have p4:=C3 t es (hashInt k) (.int k tk) hpl
  have p3:=Ad t es (hashInt k) (.int k tk)
  generalize layNew t es (hashInt k) (.int k tk)=L at p1 p2 p3 p4 ⊢
  obtain⟨es1,t1,wd,gv⟩:=L
  dsimp only at p1 p2 p3 p4 ⊢
  rw[Array.toList_push]at p1
  have hel1:ElemsOf (intKind prog w) es1.toList:=(ElemsOf.push hel hkey rfl).perm p1
  have hm1:∀k',k'∈ss++[k]↔∃e∈es1.toList,(intKind prog w).is k' e.2=true:=fun k'=>by
   rw[Tj,Tt,hm k']
   constructor
   ·rintro(⟨e,he,hp⟩|rfl)
    ·exact⟨e,p1.mem_iff.mpr (UL _ he),hp⟩
    ·exact⟨_,p1.mem_iff.mpr (Uc _ (Tt.mpr rfl)),hkey⟩
   ·rintro⟨e,he,hp⟩
    rcases Tj.mp (p1.mem_iff.mp he)with he|he
    ·exact .inl ⟨e,he,hp⟩
    ·rw[Tt.mp he]at hp
     exact .inr ((intKind prog w).inj _ _ _ hp hkey)
  have hn1:es1.size=(ss++[k]).length:=by rw[<-UH,p1.length_eq,Te,Te,UH,hn];rfl
  have OW:(ss++[k]).Nodup:=UY.mpr ⟨hnd,by simp,fun a ha b hb e=>hout (by rw[<-Tt.mp hb,<-e];exact ha)⟩
  have fin:∀(t2:SetTable),t2.fits es1.size=true->t2.led=ld->Up t2.place->∀(g:Bool->Sem Unit),(∀(b:Bool) (s1:Shared) (Q':Unit->Shared->Prop),Q' () s1->wpAny (model prog w) A (g b) Q' E s1)->∀R:Option Bool->Shared->Prop,(∀g' ,Heap.SameBut a s.heap g'->KP prog w g' a ld (ss++[k])->R (some true) { s with heap:=g' })->
    wpAny (model prog w) A (do
     storeSet a es1 t2
     if (!wd&&t2.tooFull)=true then do
       g (relayAll t2 es1 (SetTable.grown es1.size)).2.2
       storeSet a (relayAll t2 es1 (SetTable.grown es1.size)).1 (relayAll t2 es1 (SetTable.grown es1.size)).2.1
       pure (some true)
      else pure (some true)) R E s:=by
   intro t2 f2 l2 b2 g hg R hR
   have z1:es1.size<=sizeLine:=fits_of_scanBound (by rw[hn1,Te];unfold scanBound;simp;omega)
   refine Tc (wpAny_storeSet_of ho hd ?_ z1)
   obtain⟨o1,g1,x1,d1,P1⟩:=Bh (prog:=prog) (w:=w) (ss:=ss++[k]) ho hx hd hel1 hm1 hn1 OW f2 l2 b2
   have Ro:=Uz s.heap a (Obj.putSet es1 t2)
   split
   ·have r1:=relayAll_perm t2 es1 (SetTable.grown es1.size)
    have r2:=relayAll_fits t2 es1 (SetTable.grown es1.size)
    have r3:=vf t2 es1 (SetTable.grown es1.size)
    have r4:=xN t2 es1 (SetTable.grown es1.size)
    generalize relayAll t2 es1 (SetTable.grown es1.size)=W at r1 r2 r3 r4 ⊢
    obtain⟨Sm,t3,g3⟩:=W
    dsimp only at r1 r2 r3 r4 ⊢
    have hs2:Sm.size=es1.size:=by rw[<-UH,r1.length_eq,UH]
    refine Tc (hg _ _ _ ?_)
    refine Tc (wpAny_storeSet_of g1 d1 ?_ (by rw[hs2];exact z1))
    obtain⟨_,_,_,_,P2⟩:=Bh (prog:=prog) (w:=w) (ss:=ss++[k]) g1 x1 d1 (hel1.perm r1) (fun k'=>(hm1 k').trans ⟨fun⟨e,he,hp⟩=>⟨e,r1.mem_iff.mpr he,hp⟩,fun⟨e,he,hp⟩=>⟨e,r1.mem_iff.mp he,hp⟩⟩) (by rw[hs2];exact hn1) OW r2 (r3.trans l2) r4
    exact Tf (hR _ (Ro.trans (Uz _ a _)) P2)
   ·exact Tf (hR _ Ro P1)
  have gw:∀(b:Bool) (s1:Shared) (Q':Unit->Shared->Prop),Q' () s1->wpAny (model prog w) A (match b with|true=>rule "set.scan.the-table-gave-way" | false=>pure ()) Q' E s1:=fun b s1 Q' h=>by cases b<;>first|exact Tf h|exact Vp h
  refine Tc (gw _ _ _ ?_)
  split
  ·refine Tc ?_
   rw[hashByValue_scannable 8 (x:=.int k tk) rfl]
   refine Tf ?_
   have e0:plainKind (.int k tk)=true:=rfl
   rw[e0]
   simp only[Ua]
   exact fin _ p2 (p3.trans LK) p4 _ gw _ fun g' OV P=>Tf (q g' _ OV P)
  ·rename_i OX
   refine Tc (Tf ?_)
   simp only[↓reduceIte]
   exact fin _ p2 (p3.trans LK) p4 _ gw _ fun g' OV P=>Tf (q g' _ OV P)
end
end Ia
namespace Ia
open PySem PyProof.Rows
open Sa
noncomputable def lP(l:Vu):List Int:=l.foldl (fun ss k=>if k∈ss then ss else ss++[k]) []
def xO(l:Vu)(k:Int):lP (l++[k])=if k∈lP l then lP l else lP l++[k]:=by unfold lP;rw[List.foldl_append];rfl
def pB(l:Vu):(lP l).length<=l.length:=by
 have:∀(l ss:Vu),(l.foldl (fun ss k=>if k∈ss then ss else ss++[k]) ss).length<=ss.length+l.length:=fun l=>by
  induction l with
  |nil=>intro ss;simp
  |cons k l ih=>
   intro ss
   rw[Wy]
   have h:=ih (if k∈ss then ss else ss++[k])
   have e:(if k∈ss then ss else ss++[k]).length<=ss.length+1:=by split<;>simp
   rw[TL]
   omega
 unfold lP
 simpa using this l []
def xP(l m:Vu):(lP l).length<=(lP (l++m)).length:=by
 have:∀(m ss:Vu),ss.length<=(m.foldl (fun ss k=>if k∈ss then ss else ss++[k]) ss).length:=fun m=>by
  induction m with
  |nil=>intro ss;simp
  |cons k m ih=>
   intro ss
   rw[Wy]
   have h:=ih (if k∈ss then ss else ss++[k])
   have e:ss.length<=(if k∈ss then ss else ss++[k]).length:=by split<;>simp
   omega
 unfold lP
 rw[List.foldl_append]
 exact this m _
def Ag(l:Vu)(k:Int):k∈lP l↔k∈l:=by
 have:∀(l ss:Vu),k∈l.foldl (fun ss k=>if k∈ss then ss else ss++[k]) ss↔k∈ss\/k∈l:=fun l=>by
  induction l with
  |nil=>intro ss;simp
  |cons x l ih=>
   intro ss
   rw[Wy,ih,Th]
   by_cases h:x∈ss
   ·rw[if_pos h]
    constructor
    ·rintro(a|a)
     ·exact .inl a
     ·exact .inr (.inr a)
    ·rintro(a|rfl|a)
     ·exact .inl a
     ·exact .inl h
     ·exact .inr a
   ·rw[if_neg h,Tj,Tt,or_assoc]
 unfold lP
 simpa using this l []
def KP.at_{prog:Program}{w:World}{h h':Heap}{a:Addr}{ld:Bool}{ss:Vu}(x:KP prog w h a ld ss)(e:∀o,h.get? a=some o->h'.get? a=some o):KP prog w h' a ld ss:=by
 obtain⟨o,es,ep,t,ho,r⟩:=x
 exact⟨o,es,ep,t,e o ho,r⟩
section
variable {prog:Program} {w:World} {A:Around} {R:Result->Shared->Prop} {I:Addr} {fp wr:List Addr} {G:Array GenState->Array GenState->Prop} {n:Nat} {P:Nat->Value->Prop} {St:Nat->Shared->Prop}
def C4(W:WalksS prog w A.in1 I fp wr G n P St)(a:Addr)(ha:a ∉ fp)(ns:Vu)(hns:ns.length=n)(hP:∀i v,P i v->∃k t,ns[i]?=some k/\v = .int k t)(hn:(lP ns).length < 60)(ld:Bool) :
  ∀(r i:Nat) (s:Shared),n - i=r->i<=n->St i s->KP prog w s.heap a ld (lP (ns.take i))->(∀s',Moved (a::wr) G s s'->KP prog w s'.heap a ld (lP ns)->R (.ok (.ret .none)) s')->
   codeAny (model prog w) A (.builtin "set.update.loop" ⟨[.ref a,.ref I],[]⟩) R s:=by
 have aw:a ∉ wr:=fun h=>ha (W.sub _ h)
 have up:∀b∈wr,b∈a::wr:=fun b hb=>U5 _ hb
 intro r
 induction r with
 |zero=>
  intro i s hr hi st hS q
  obtain rfl:i=n:=by omega
  refine Vy F.entry_set_update_loop ?_
  rw[U6 WQ _]
  show wpAny _ A.in1 (pyNext (.ref I) >>= _) _ _ s
  refine Tc (W.done s _ _ st fun s' mv=>?_)
  rw[Vd (by omega)]at hS
  exact Tf (q s' (mv.mono up) (hS.at_ fun o e=>mv.heap a o aw e))
 |succ r ih=>
  intro i s hr hi st hS q
  refine Vy F.entry_set_update_loop ?_
  rw[U6 WQ _]
  show wpAny _ A.in1 (pyNext (.ref I) >>= _) _ _ s
  refine Tc (W.item i s _ _ (by omega) st fun v s' hv st' mv=>?_)
  obtain⟨k,t,hk,rfl⟩:=hP i v hv
  have hS':=hS.at_ fun o e=>mv.heap a o aw e
  show wpAny _ A.in1 (holding [Value.int k t] (setAdd a (.int k t)) >>= _) _ _ s'
  refine Tc (US ?_)
  unfold setAdd
  refine US (Tc ((intKind prog w).pyHash (k:=k) ((show Value.isInt k (.int k t)=true by simp[Value.isInt])) ?_))
  have hl:=xP (ns.take i) (ns.drop i)
  rw[List.take_append_drop]at hl
  refine EY (s:={ s' with toks:=s'.toks+1 }) (ss:=lP (ns.take i)) hS' (by omega) fun g b sb hS2=>?_
  have et:ns.take (i+1)=ns.take i++[k]:=by rw[List.take_add_one,hk];rfl
  rw[<-xO,<-et]at hS2
  refine Tf ⟨Wb WQ _,ih (i+1) _ (by omega) (by omega) (W.frame _ s' _ _ st' (V3 _) fun c hc o e=>?_) hS2 fun s2 Sn PL=>?_⟩
  ·rw[sb.2 c (fun h=>ha (h▸hc))];exact e
  ·refine q s2 (Moved.trans W.gtrans ((mv.mono up).then_heap (V3 _) fun c o hc e=>?_) Sn) PL
   rw[sb.2 c (fun h=>hc (h▸U1))];exact e
end
theorem il:∀{vs:Vv} {ns:Vu},IntsAre vs ns->vs.length=ns.length
 |_,_,.nil=>rfl
 |_,_,.cons _ _ r=>by rw[TL,TL,il r]
theorem tY:∀{vs:Vv} {ns:Vu},IntsAre vs ns->∀(i:Nat) (v:Value),vs[i]?=some v->∃k t,ns[i]?=some k/\v=Value.int k t
 |_,_,.nil,i,v,h=>by simp at h
 |_,_,.cons y t r,0,v,h=>by simp at h;exact⟨y,t,rfl,h.symm⟩
 |_,_,.cons y t r,i+1,v,h=>by simpa using tY r i v (by simpa using h)
section
variable {prog:Program} {w:World} {A:Around} {E:Vq} {s:Shared}
def Ah(h:Heap)(ld:Bool):KP prog w (h.push (nw ld)) h.objs.size ld []:=
 ⟨nw ld,#[],0,_,Tn _ rfl,⟨rfl,rfl,rfl⟩,rfl,fun e he=>by simp at he,fun k=>by simp,rfl,Wh,by rfl,rfl,List.Pairwise.nil⟩
def vj{l:Addr}{its:Vw}{ns:Vu}{Q:Vq}(hh:A.handled=none)(hl:s.heap.IsList l its)(hi:IntsAre its.toList ns)(hn:(lP ns).length < 60)
  (q:∀(g:Heap) (tk:Nat),KP prog w g s.heap.objs.size (gQ w) (lP ns)->(∀b o,b < s.heap.objs.size->s.heap.get? b=some o->g.get? b=some o)->Q (.ref s.heap.objs.size) { s with heap:=g,toks:=tk }) :
  wpAny (model prog w) A (call (.type "set") [.ref l]) Q E s:=by
 obtain⟨c,tl,So⟩:=V8.mro
 have hmade:=V8.made
 have hsub:=V8.sub
 refine wpAny_call (codeAny_of_tree ?_)
 show wpAny _ _ (callAny (.type "set") _) _ _ _
 refine Tf ⟨Code.quiet_builtin _ (by decide +kernel),Vy F.entry_type_call ?_⟩
 rw[Around.under_plain (weight_type_call_type "set" [.ref l] []) rfl]
 have h1:=V8.notType
 have h2:=V8.canCreate
 have hct:=F.typeCall_set_1 (.ref l)
 repeat (any_goals (first|assumption|wp_step))
 refine Xn (EV (.ref l) (E:=E) (Q:=fun v s1=>v = .ref s.heap.objs.size/\s1={ s with heap:=s.heap.push (nw (gQ w)) }) ⟨rfl,rfl⟩) fun r s1 hr=>?_
 match r,hr with
 | .error e,hr=>exact hr
 | .ok (.ret v),hr=>
  obtain⟨rfl,rfl⟩:=hr
  have hS:(s.heap.push (nw (gQ w))).get? s.heap.objs.size=some (nw (gQ w)):=Tn _ rfl
  have hT:Shared.TypeIs { s with heap:=s.heap.push (nw (gQ w)) } (.ref s.heap.objs.size) "set":=⟨_,hS,rfl⟩
  have hli:=V8.init.lookup
  have hbi:=V8.init.bind (.ref s.heap.objs.size)
  repeat (any_goals (first|assumption|wp_step))
  refine Xn (codeAny_call_builtin (R:=wants (fun v s2=>v = .none/\∃g tk,s2={ s with heap:=g,toks:=tk }/\KP prog w g s.heap.objs.size (gQ w) (lP ns)/\∀b o,b < s.heap.objs.size->s.heap.get? b=some o->g.get? b=some o) E) V8.init.plain F.entry_set_init (check_set_init_1 hT ?_)) fun r2 s2 hr2=>?_
  ·obtain⟨ol,hol,hcl,nl,hdl⟩:=hl
   obtain⟨oc,od,oa,os'⟩:=ol
   simp only at hcl hdl
   subst hcl;subst hdl
   have QB:(s.heap.push (nw (gQ w))).get? l=some { cls:=.type "list",dict:=od,data:=.seq its nl,slots:=os' }:=Td _ hol
   have Sr:=F.sub_list_set
   have Ss:=F.sub_list_frozenset
   have hne:(Value.type "list" == Value.type "dict")=false:=by decide
   have hl1:(s.heap.push (nw (gQ w))).IsList l its:=⟨_,QB,rfl,nl,rfl⟩
   unfold Builtin.«set.__init__» noKeywords Builtin.Frozenset.updateFrom
   generalize Su:pyIter=PI
   wp_walk
   subst Su
   refine Ul hl1 ?_
   refine Tc (wpAny_runValue ?_)
   have lt:l < s.heap.objs.size:=To hol
   have Sv:A.in1.in1.in1.handled=none:=by simp[hh]
   have sz:(s.heap.push (nw (gQ w))).objs.size=s.heap.objs.size+1:=Uj _ _
   have QC:l≠(s.heap.push (nw (gQ w))).objs.size:=by rw[sz];exact TM (UK lt)
   have hSf:s.heap.objs.size ∉ [(s.heap.push (nw (gQ w))).objs.size,l]:=by
    rw[sz]
    intro h
    simp only[Th,TJ,Uq]at h
    rcases h with h|h
    ·exact absurd h (TM (VF _))
    ·exact absurd h (UU lt)
   have ln:ns.length=its.size:=by rw[<-il hi,UH]
   have val:∀(i:Nat) (v:Value),its[i]?=some v->∃k t,ns[i]?=some k/\v = .int k t:=fun i v hv=>by
    exact tY hi i v (by rw[We];exact hv)
   refine C4 ((Walks.list Sv _ l QC its).toS) s.heap.objs.size hSf ns ln val hn (gQ w) (its.size - 0) 0 _ (by omega) (Ug _) ⟨⟨_,Tn _ rfl,rfl,rfl⟩,hl1.push _⟩ ?_ ?_
   ·exact(Ah s.heap (gQ w)).at_ fun o e=>Td _ e
   ·intro s' mv hS'
    obtain⟨g,g',d',tk',os2⟩:=s'
    have eg:g'=s.gens:=mv.gens
    have ed:d'=s.drawn:=mv.drawn
    have eo:os2=s.os:=mv.os
    subst eg;subst ed;subst eo
    show wpAny _ _ _ _ _ _
    refine Tf ?_
    show wpAny _ _ (ret Value.none) _ _ _
    refine Tf ⟨rfl,g,tk',rfl,hS',fun b o hb e=>?_⟩
    refine mv.heap b o (fun h=>?_) (Td _ (Td _ e))
    simp only[Th,TJ,Uq]at h
    rcases h with h|h
    ·exact absurd h (TM hb)
    ·rw[sz]at h;exact absurd h (TM (UK hb))
  ·match r2,hr2 with
   | .error e,hr2=>exact hr2
   | .ok (.ret v),hr2=>
    obtain⟨rfl,g,tk,rfl,hS',hk⟩:=hr2
    repeat (any_goals (first|assumption|wp_step))
    exact q _ _ hS' hk
end
section
variable {prog:Program} {w:World} {A:Around} {E:Vq} {s:Shared} {a:Addr} {es:Array (Int×Value)} {ep:Nat} {t:SetTable}
def EZ{given slot:Nat}{Q:Option (Value×Nat)->Shared->Prop}(ha:Jc s.heap a es ep t)(hf:t.fits es.size=true)(hb:w.params.followText "set-order" = false)(h1:(!t.plain&&decide (es.size > 1))=false)(hl:t.led=true)
  (q:Q (match es[SetTable.below t.place slot]?,t.place[SetTable.below t.place slot]? with
   |some (_,x),some j=>some (x,j+1)
   |_,_=>none) s):wpAny (model prog w) A (setNext a slot given ep) Q E s:=by
 obtain⟨oa,hoa,hx,hda⟩:=id ha
 unfold setNext
 refine Tc (UQ hoa hda hf ?_)
 dsimp only
 refine Tc (lZ ?_)
 rw[if_neg (by rw[hb];simp)]
 show wpAny _ _ (if (!t.plain&&decide (es.size > 1))=true then _ else _) _ _ _
 rw[if_neg (by rw[h1];simp)]
 refine Tc (XC (a:=()) (show(if (!t.led&&!es.isEmpty)=true then unsupported "set:maker-not-led" else pure ())=pure () by rw[hl];rfl) ?_)
 exact Tf q
def Ai(hh:A.handled=none)(I:Addr)(hne:a≠I)(hf:t.fits es.size=true)(hb:w.params.followText "set-order" = false)(h1:(!t.plain&&decide (es.size > 1))=false)(hl:t.led=true)(hup:Up t.place) :
  Walks prog w A I [I,a] [I] es.size (fun i v=>(es.toList.map (·.2))[i]?=some v) (fun i h=>IW h I a (.int (if i=0 then 0 else t.place.getD (i - 1) 0+1:Nat) 0) i es.size ep/\Jc h a es ep t) where
 sub:=fun b hb=>by simp at hb;simp[hb]
 frame:=fun _ _ _ st hk=>⟨st.1.at_ fun o e=>hk I (by simp) o e,st.2.at_ fun o e=>hk a (by simp) o e⟩
 item:=fun i s Q E hi st hQ=>by
  have hp:t.place.size=es.size:=by simp only[SetTable.fits,Wn,beq_iff_eq]at hf;exact hf.1
  have NF:=qN hup (i:=i) (by omega)
  refine pq hh st.1 st.2 hf rfl (fun q=>EZ st.2 hf hb h1 hl q) (fun x j h' e' hit hs=>?_) fun h' e' hs=>?_
  ·rw[NF]at e'
   have e1:es[i]?=some es[i]:=by simp[hi]
   have e2:t.place[i]?=some (t.place.getD i 0):=by simp[Array.getD,show i < t.place.size by omega]
   rw[e1,e2]at e'
   simp at e'
   obtain⟨rfl,rfl⟩:=e'
   exact hQ _ h' s.toks (by simp[hi]) ⟨by simpa using hit,st.2.at_ fun o e=>hs a o hne e⟩ (kR hs)
  ·rw[NF]at e'
   have e1:es[i]?=some es[i]:=by simp[hi]
   have e2:t.place[i]?=some (t.place.getD i 0):=by simp[Array.getD,show i < t.place.size by omega]
   rw[e1,e2]at e'
   simp at e'
 done:=fun s Q E st hQ=>by
  have hp:t.place.size=es.size:=by simp only[SetTable.fits,Wn,beq_iff_eq]at hf;exact hf.1
  have NF:=qN hup (i:=es.size) (by omega)
  refine pq hh st.1 st.2 hf rfl (fun q=>EZ st.2 hf hb h1 hl q) (fun x j h' e' hit hs=>?_) fun h' e hs=>hQ h' s.toks (kR hs)
  rw[NF,UX (Tq _)]at e'
  cases e'
 self:=fun _ _ _ _ st hQ=>sD st.1 hQ
def C5{Q:Vq}(ha:Jc s.heap a es ep t)(hf:t.fits es.size=true)(LK:t.led=gQ w)(hup:Up t.place)(PM:es.size<=60)
  (q:∀I fp ord St g d,s.heap.objs.size<=I->Wk prog w I fp es ord St->St 0 g->(∀b∈fp,b < g.objs.size/\(b=a\/s.heap.objs.size<=b))->(∀b o,s.heap.get? b=some o->g.get? b=some o)->Q (.ref I) { s with heap:=g,drawn:=d }) :
  wpAny (model prog w) A (pyIter (.ref a)) Q E s:=by
 obtain⟨oa,hoa,hx,hda⟩:=id ha
 have hT:s.TypeIs (.ref a) "set":=⟨oa,hoa,hx.1⟩
 have NG:=To hoa
 refine wpAny_pyIter_slot hT F.slot_set_iter (Uv F.slot_set_iter hT mJ ?_ (F.args_set_iter_1 _))
 unfold Builtin.«frozenset.__iter__»
 refine Tc (m:=Builtin.Frozenset.slot0 _ _) (Tf ?_)
 refine Tc (m:=Builtin.Frozenset.sizeOf a) ?_
 unfold Builtin.Frozenset.sizeOf setEntries
 refine Tc (Tc (UQ hoa hda hf (Tf (Tf ?_))))
 dsimp only
 refine Tc (vg ha hf ?_)
 by_cases hb:w.params.followText "set-order" = true
 ·rw[if_neg (by simp[hb])]
  refine Tc (Tf ?_)
  refine Tc (wpAny_setEpoch_of hoa hda hf ?_)
  refine Tc (m:=newFields _ _) (Ud (Tf ⟨_,rfl,"set_iterator",_,⟨_,Tn _ rfl,rfl⟩,Hs.lookup,?_⟩))
  have hne:a≠s.heap.objs.size:=TM NG
  refine q s.heap.objs.size [s.heap.objs.size,a] _ _ _ s.drawn (Tq _) ⟨(kQ (w.params.setOrder a ep) es).map (·.2),by simp,fun B hB=>Ae (t:=t) hB _ hne hf hb⟩ ⟨⟨_,Tn _ rfl,rfl,by simp[rawInt]⟩,ha.at_ fun o e=>Td _ e⟩ (fun b hb=>?_) fun b o e=>Td _ e
  rw[Uj]
  simp at hb
  rcases hb with rfl|rfl
  ·exact⟨VF _,.inr (Tq _)⟩
  ·exact⟨UK NG,.inl rfl⟩
 ·have hb':w.params.followText "set-order" = false:=by simpa using hb
  by_cases h1:(!t.plain&&decide (es.size > 1))=true
  ·rw[if_pos (by rw[hb',h1];rfl)]
   refine Tc (xK es.size (List.range es.size) _ (by simp) fun ps d hp=>?_)
   have Sw:ps.length<=60:=by rw[hp.length_eq];simpa using PM
   refine Tc (wpAny_newTuple ?_ (by rw[Ti];exact TR Sw (by rw[WJ];omega)))
   have e1:(s.heap.push { cls:=.type "tuple",data:=.seq (ps.map fun(p:Nat)=>rawInt p).toArray }).get? a=some oa:=Td _ hoa
   refine Tc (wpAny_setEpoch_of e1 hda hf ?_)
   refine Tc (m:=newFields _ _) (Ud (Tf ⟨_,rfl,"set_iterator",_,⟨_,Tn _ rfl,rfl⟩,Hs.lookup,?_⟩))
   dsimp only
   generalize hH:s.heap.push { cls:=.type "tuple",data:=.seq (ps.map fun(p:Nat)=>rawInt p).toArray }=H at e1 ⊢
   have hsz:H.objs.size=s.heap.objs.size+1:=by rw[<-hH,Uj]
   have hne:a≠H.objs.size:=by rw[hsz];exact TM (UK NG)
   have hnt:s.heap.objs.size≠H.objs.size:=by rw[hsz];exact TM (VF _)
   have gt:H.get? s.heap.objs.size=some { cls:=.type "tuple",data:=.seq (ps.map fun(p:Nat)=>rawInt p).toArray }:=by rw[<-hH];exact Tn _ rfl
   refine q H.objs.size [H.objs.size,a,s.heap.objs.size] _ _ _ d (by rw[hsz];exact V3 _) ⟨?_,by simp,fun B hB=>Af (t:=t) hB _ s.heap.objs.size hne hnt hf ps hp⟩ ⟨⟨_,Tn _ rfl,rfl,by simp[rawInt]⟩,⟨oa,Td _ e1,hx,hda⟩,_,_,Td _ gt,rfl⟩ (fun b hb=>?_) fun b o e=>Td _ (hH▸Td _ e)
   ·rw[<-vh];exact hp.map _
   ·rw[Uj,hsz]
    simp at hb
    rcases hb with rfl|rfl|rfl
    ·rw[hsz];exact⟨VF _,.inr (V3 _)⟩
    ·exact⟨UK (UK NG),.inl rfl⟩
    ·exact⟨UK (VF _),.inr (Tq _)⟩
  ·have h1:(!t.plain&&decide (es.size > 1))=false:=by simpa using h1
   rw[if_neg (by rw[h1];simp)]
   refine Tc (Tf ?_)
   refine Tc (wpAny_setEpoch_of hoa hda hf ?_)
   refine Tc (m:=newFields _ _) (Ud (Tf ⟨_,rfl,"set_iterator",_,⟨_,Tn _ rfl,rfl⟩,Hs.lookup,?_⟩))
   have hne:a≠s.heap.objs.size:=TM NG
   refine q s.heap.objs.size [s.heap.objs.size,a] _ _ _ s.drawn (Tq _) ⟨Xw _,by simp,fun B hB=>Ai (t:=t) (ep:=ep) hB _ hne hf hb' h1 (by rw[LK];simp[gQ,hb']) hup⟩ ⟨⟨_,Tn _ rfl,rfl,by simp[rawInt]⟩,ha.at_ fun o e=>Td _ e⟩ (fun b hb=>?_) fun b o e=>Td _ e
   rw[Uj]
   simp at hb
   rcases hb with rfl|rfl
   ·exact⟨VF _,.inr (Tq _)⟩
   ·exact⟨UK NG,.inl rfl⟩
def vk{Q:List Value->Shared->Prop}(hh:A.handled=none)(ha:Jc s.heap a es ep t)(hf:t.fits es.size=true)(LK:t.led=gQ w)(hup:Up t.place)(PM:es.size<=60)
  (q:∀ord g d tk,ord.Perm (es.toList.map (·.2))->s.heap.objs.size<=g.objs.size->(∀b o,s.heap.get? b=some o->g.get? b=some o)->Q ord { s with heap:=g,drawn:=d,toks:=tk }):wpAny (model prog w) A (collect (.ref a)) Q E s:=by
 obtain⟨oa,hoa,hx,hda⟩:=id ha
 have NG:=To hoa
 unfold collect
 refine Tc (wpAny_runValue (Vy F.entry_proto_collect ?_))
 rw[U6 F.plain_proto_collect _]
 show wpAny _ A.in1 (newList [] >>= fun l=>again (.builtin "list.__iadd__" ⟨[l,.ref a],[]⟩)) _ _ s
 refine Tc (Ud ?_)
 refine Tf ⟨Wb F.plain_list_iadd _,Vy F.entry_list_iadd ?_⟩
 rw[U6 F.plain_list_iadd _]
 show wpAny _ A.in1 (Builtin.List.listExtendWith (.ref s.heap.objs.size) (.ref a) (.ref s.heap.objs.size)) _ _ _
 generalize hH:s.heap.push { cls:=.type "list",data:=.seq ([]:Vv).toArray }=H
 have hS1:H.get? s.heap.objs.size=some { cls:=.type "list",data:=.seq ([]:Vv).toArray }:=by rw[<-hH];exact Tn _ rfl
 have ha1:Jc H a es ep t:=ha.at_ fun o e=>by rw[<-hH];exact Td _ e
 have old:∀b o,s.heap.get? b=some o->H.get? b=some o:=fun b o e=>by rw[<-hH];exact Td _ e
 have hT:Shared.TypeIs { s with heap:=H } (.ref a) "set":=⟨oa,old _ _ hoa,hx.1⟩
 unfold Builtin.List.listExtendWith
 refine Tc (V6 hT ?_)
 have h1:Builtin.List.listSameRef (.ref s.heap.objs.size) (.ref a)=false:=by simp[Builtin.List.listSameRef];exact(UU NG)
 have h2:(Value.type "set" == Value.type "list")=false:=by decide
 have h3:(Value.type "set" == Value.type "tuple")=false:=by decide
 simp only[h1,h2,h3,Bool.or_false,Tu,Ub]
 refine Tc (C5 (s:={ s with heap:=H }) ha1 hf LK hup PM fun I fp ord St g d hI W Ql hfp ext=>?_)
 dsimp only at ext
 have Rp:=ext _ _ hS1
 have Sx:Shared.TypeIs { s with heap:=g,drawn:=d } (.ref a) "set":=⟨oa,ext _ _ (old _ _ hoa),hx.1⟩
 refine Tc (US (xL Sx ?_))
 rw[if_pos (by decide +kernel)]
 refine Tc (Vp ?_)
 have OY:H.objs.size=s.heap.objs.size+1:=by rw[<-hH,Uj]
 have hSf:s.heap.objs.size ∉ fp:=fun hm=>by
  rcases(hfp _ hm).2 with h|h
  ·exact absurd h (UU NG)
  ·dsimp only at h;rw[OY]at h;omega
 refine Tc ?_
 show wpAny _ A.in1 (updateSeq s.heap.objs.size (·.push .none) >>= fun _=>updateSeq s.heap.objs.size (·.pop)) _ _ _
 refine Tc (Xk Rp rfl ?_)
 have Py:=Ur (Obj.mapSeq (·.push Value.none)) Rp rfl
 refine Xk Py rfl ?_
 have Sy:=Ur (Obj.mapSeq (·.pop)) Py rfl
 have Nw:∀b o,b≠s.heap.objs.size->g.get? b=some o->((g.update s.heap.objs.size (Obj.mapSeq (·.push Value.none))).update s.heap.objs.size (Obj.mapSeq (·.pop))).get? b=some o:=
  fun b o hb e=>(VC _ _ (VL hb)).trans ((VC _ _ (VL hb)).trans e)
 have hlen:ord.length=es.size:=by rw[W.1.length_eq];simp
 have WS:=(W.2.2 A.in1 (by simp[hh])).toS
 refine Tf ⟨Wb F.plain_extend_loop _,codeAny_extend_loopS WS (TR PM (by rw[WJ];omega)) _ hSf _ es.size 0 _ _ _ rfl (Ug _)
  ((W.2.2 A.in1 (by simp[hh])).frame 0 g _ Ql (fun b hb o e=>Nw b o (fun h=>hSf (h▸hb)) e)) Sy (ItemsOf.nil _) fun s' acc' c' hm hS' hacc=>?_⟩
 show wpAny _ A (load s.heap.objs.size >>= _) _ _ s'
 refine Tc (wpAny_load hS' ?_)
 refine Tf ?_
 obtain⟨g',gn,d',tk',os2⟩:=s'
 have eg:gn=s.gens:=hm.gens
 have ed:d'=d:=hm.drawn
 have eo:os2=s.os:=hm.os
 subst eg;subst ed;subst eo
 show Q acc'.toList _
 rw[xM hlen hacc]
 refine q ord g' d' tk' W.1 (Vj (To hS')) fun b o e=>?_
 have lb:=To e
 dsimp only at hI
 rw[OY]at hI
 refine hm.heap b o (fun h=>?_) (Nw b o (TM lb) (ext _ _ (old _ _ e)))
 simp only[Th,TJ,Uq]at h
 rcases h with h|h
 ·exact absurd h (TM lb)
 ·rw[h]at lb;exact absurd (UW lb hI) (U0 _)
end
section
variable {prog:Program} {w:World} {A:Around} {E:Vq} {s:Shared} {a:Addr}
def Aj{es:Array (Int×Value)}{ss:Vu}(hel:ElemsOf (PySem.intKind prog w) es.toList)(hm:∀k,k∈ss↔∃e∈es.toList,(PySem.intKind prog w).is k e.2=true)(hn:es.size=ss.length)(hnd:ss.Nodup){ord:Vv}(hp:ord.Perm (es.toList.map (·.2))) :
  IntsAre ord (ord.map numOf)/\(ord.map numOf).Perm ss:=by
 have hall:∀v,v∈ord->∃x t,v = .int x t:=fun v hv=>by
  obtain⟨e,he,rfl⟩:=Ue.mp (hp.mem_iff.mp hv)
  obtain⟨⟨k,hk,_⟩,_⟩:=hel e he
  obtain⟨t,ht⟩:=Value.isInt_shape hk
  exact⟨k,t,ht⟩
 refine⟨intsAre_map ord hall,(lB ss _ hnd ?_ fun k hk=>?_).symm⟩
 ·rw[Ti,hp.length_eq,<-hn];simp
 ·obtain⟨e,he,hk⟩:=(hm k).mp hk
  obtain⟨t,ht⟩:=Value.isInt_shape hk
  exact Ue.mpr ⟨e.2,hp.mem_iff.mpr (Ue.mpr ⟨e,he,rfl⟩),by rw[ht];rfl⟩
def qO{ss:Vu}{Q:Vq}(hh:A.handled=none)(hS:KP prog w s.heap a (gQ w) ss)(hn:ss.length < 60)
  (q:∀l out ss' e g d tk,g.get? l=some (seqObj "list" out e)->IntsAre out.toList ss'->ss'.Perm ss->ss'.Pairwise (·<=·)->s.heap.objs.size<=l->(∀b o,s.heap.get? b=some o->g.get? b=some o)->Q (.ref l) { s with heap:=g,drawn:=d,toks:=tk }) :
  wpAny (model prog w) A (call (.builtin "sorted") [.ref a]) Q E s:=by
 obtain⟨o,es,ep,t,ho,hx,hd,hel,hm,hsz,hnd,hf,LK,hup⟩:=hS
 refine Calls.call_function_entry kind_sorted plain_sorted entry_sorted (args_sorted1 _) ?_
 unfold Builtin.«sorted»
 refine Tc (m:=checkCount "sorted" 1 1 _) (Tf ?_)
 refine Tc (vk (by simp[hh]) ⟨o,ho,hx,hd⟩ hf LK hup (by omega) fun ord g d tk hp hle ext=>?_)
 obtain⟨hI,Np⟩:=Aj hel hm hsz hnd hp
 have hlen:ord.length < 60:=by rw[<-Ti (as:=ord) numOf,Np.length_eq];exact hn
 refine Tc (wpAny_newList ?_)
 have OO:(g.push (seqObj "list" ord.toArray 0)).get? g.objs.size=some (seqObj "list" ord.toArray 0):=Tn _ rfl
 refine Tc (US (Uv slot_list_sort ⟨_,OO,rfl⟩ entry_list_sort (list_sort_tree OO hI (by omega) fun out ns' a1 a2 a3=>⟨_,rfl,?_⟩) (args_list_sort _)))
 obtain⟨e,he⟩:=sortedHeap_at (out:=out) OO
 refine Tf ⟨_,rfl,q _ _ ns' e _ d tk he a1 (a2.trans Np) a3 hle fun b o' eb=>?_⟩
 have lb:=To (ext _ _ eb)
 rw[sortedHeap_old (TM lb) (by rw[Uj];exact UK lb)]
 exact Td _ (ext _ _ eb)
end
end Ia
namespace L2
open PySem PySem.Spec PyProof.Rows
section
variable {X:Cx} {pins:Va} {σ:List (Option V)} {H:Hp} {s:Shared}
def Gx(K:Vo)(t:TE):TE:=fun σ H Q=>t σ H fun x H1=>∃(p:Addr) (ns:Vu),x = .ref p/\SqL K H1 p (ns.map V.int)/\(Ia.lP ns).length < 60/\∀(l:Addr) (ss:Vu),H1 l=none->ss.Perm (Ia.lP ns)->ss.Pairwise (·<=·)->Q (.ref l) (upd H1 l (.lst (ss.map V.int)))
variable {e:Expr} {te:TE} {p p2 pos pos2:Pos}
def xQ(hc:X.calm=true)(hg:Gl X "sorted")(hm:X.mg "sorted" = none)(Ny:Gl X "set")(hm2:X.mg "set" = none)(ha:PE X e te)
  (hs1:starEach [.Call (.Name "set" p2) [e] [] pos2] X.env=[(false,eval (.Call (.Name "set" p2) [e] [] pos2) X.env)]:=by rfl) (hs2:starEach [e] X.env=[(false,eval e X.env)]:=by rfl) :
  PE X (.Call (.Name "sorted" p) [.Call (.Name "set" p2) [e] [] pos2] [] pos) (Gx X.K te):=by
 intro pins s σ H Q I h
 have hh:=I.ok.hd hc
 refine U3 (dH I hg hm (by rfl) ?_ (by decide) (by decide))
 refine W8 (id:="sorted") ?_ hs1 (by rfl)
 rw[hs1]
 refine UM ?_
 refine U3 (dH I Ny hm2 (by rfl) ?_ (by decide) (by decide))
 refine Uk (T:="set") ?_ hs2 (by rfl)
 rw[hs2]
 refine UM (Ho (ha pins s σ H _ I h) fun u s1 ⟨x,H1,I1,r1,q1⟩=>Vb ?_)
 obtain⟨a,ns,rfl,hl,hn,q⟩:=q1
 cases r1
 obtain⟨its,rv,pl,hz⟩:=I1.list hl
 have hS:IntsAre its ns:=jp rv
 refine Ia.vj hh pl.isList (by simpa using hS) hn fun g tk OZ keep=>Vb ?_
 refine Ia.qO hh OZ hn fun l out ss e g2 d SA hl2 ho hp hso hnew ext=>?_
 have lt:s1.heap.objs.size < g.objs.size:=by obtain⟨o,_,_,_,ho,_⟩:=OZ;exact To ho
 have hle:s1.heap.objs.size<=l:=TR (Vj lt) hnew
 have k:∀b u,s1.heap.get? b=some u->g2.get? b=some u:=fun b u e=>ext b u (keep b u (To e) e)
 refine⟨.ref l,upd H1 l (.lst (ss.map V.int)),((I1.laid (t':=SA) (o:=.lst (ss.map V.int)) k hle ?_).dr d),rfl,q l ss (I1.hok.fresh hle) hp hso⟩
 have hlen2:ss.length<=60:=by rw[hp.length_eq];exact Vj hn
 exact⟨by rw[Ti];exact TR hlen2 (by rw[WJ];omega),out.toList,e,iD ho,by rw[hl2]⟩
end
section
variable {X:Cx}
def sE:dB X (.builtin "sorted") (fun xs H Q=>∃(p:Addr) (ns:Vu),xs=[.ref p]/\SqL X.K H p (ns.map V.int)/\ns.length < 64/\∀(l:Addr) (ss:Vu),H l=none->ss.Perm ns->ss.Pairwise (·<=·)->Q (.ref l) (upd H l (.lst (ss.map V.int)))):=by
 intro pins s σ H xs us Q I r h
 obtain⟨p,ns,rfl,hp,hn,q⟩:=h
 obtain⟨u,rfl,rx⟩:=cV r
 cases rx
 obtain⟨its,rv,pl,hz⟩:=I.list hp
 have hS:IntsAre its ns:=jp rv
 have hlen:its.length < 64:=by rw[Ia.il hS];exact hn
 refine sorted_ints pl.isList hS hlen fun out ss ho Np hso=>?_
 obtain⟨e,he⟩:=sortedAll_at s.heap its out
 have hle:s.heap.objs.size<=s.heap.objs.size+1:=V3 _
 have k:∀b u,s.heap.get? b=some u->(sortedAll s.heap its out).get? b=some u:=fun b u e=>sortedAll_old e
 refine⟨.ref _,upd H _ (.lst (ss.map V.int)),(I.laid (t':=s.toks) (o:=.lst (ss.map V.int)) k hle ?_),rfl,q _ ss (I.hok.fresh hle) Np hso⟩
 have hl2:ss.length<=64:=by rw[Np.length_eq];exact Vj hn
 exact⟨by rw[Ti];exact TR hl2 (by rw[WJ];omega),out.toList,e,iD ho,by rw[he]⟩
end
end L2
namespace L3
open PySem L2
section
variable {X:Cx} {e:Expr} {te:aZ} {p p2 pos pos2:Pos}
theorem kS{K:Vo}{H:Hp}:∀cs:List Int,Reps K H (cs.map V.int) (cs.map PV.int)
 |[]=>.nil
 |c::r=>.cons (.int _) (kS r)
def sF(te:aZ):aZ:=fun σ S Q E=>te σ S (fun v S1=>match v with
 | .ref a=>(match S1 a with|some (.lst xs)=>(match fg xs with|some ns=>(Ia.lP ns).length < 60/\∀(l:Addr) (ss:Vu),S1 l=none->ss.Perm (Ia.lP ns)->ss.Pairwise (·<=·)->Q (.ref l) (Hk S1 l (.lst (ss.map PV.int)))|none=>False)|_=>False)
 |_=>False) E
def Ak(hc:X.calm=true)(hg:Gl X "sorted")(hm:X.mg "sorted" = none)(Ny:Gl X "set")(hm2:X.mg "set" = none)(ha:bp X e te)
  (hs1:starEach [.Call (.Name "set" p2) [e] [] pos2] X.env=[(false,eval (.Call (.Name "set" p2) [e] [] pos2) X.env)]:=by rfl) (hs2:starEach [e] X.env=[(false,eval e X.env)]:=by rfl) :
  bp X (.Call (.Name "sorted" p) [.Call (.Name "set" p2) [e] [] pos2] [] pos) (sF te):=
 ⟨ba (xQ hc hg hm Ny hm2 ha.ok hs1 hs2) fun σ H Q ⟨σ3,S,Q3,E3,rσ,rS,h,xo,k⟩=>⟨σ3,S,_,E3,rσ,rS,h,xo,fun v S1 v' H1 h1 rv Hz g1=>by
  split at h1
  ·cases rv
   split at h1
   ·rename_i ea
    split at h1
    ·rename_i eb
     obtain⟨vs,hv,rs⟩:=Hz _ _ ea
     have e2:=iI rs eb
     subst e2
     refine⟨_,_,rfl,SqL.of hv,h1.1,fun l ss hl hp hso=>k _ _ _ _ (h1.2 l ss (Hz.free hl) hp hso) (.ref l) (Hz.new hl ⟨_,aH,kS ss⟩) (g1.trans (.new hl))⟩
    ·exact h1.elim
   ·exact h1.elim
  ·exact h1.elim⟩⟩
def pC:oh:=fun ps S Q=>match ps with
 |[.ref a]=>(match S a with|some (.lst xs)=>(match fg xs with|some ns=>ns.length < 64/\∀(l:Addr) (ss:Vu),S l=none->ss.Perm ns->ss.Pairwise (·<=·)->Q (.ref l) (Hk S l (.lst (ss.map PV.int)))|none=>False)|_=>False)
 |_=>False
def Al:dQ X (.builtin "sorted") pC:=⟨fun pins s σ H xs us Q I r ⟨ps,S,Q3,rp,rS,q,k⟩=>by
 unfold pC at q
 split at q
 ·cases rp with
  |cons a rr=>
   cases rr;cases a
   split at q
   ·rename_i e
    split at q
    ·rename_i eb
     obtain⟨vs,hv,rs⟩:=rS _ _ e
     have e2:=iI rs eb
     subst e2
     exact sE pins s σ H _ us Q I r ⟨_,_,rfl,SqL.of hv,q.1,fun l ss hl hp hso=>k _ _ _ _ (q.2 l ss (rS.free hl) hp hso) (.ref l) (rS.new hl ⟨_,aH,kS ss⟩) (.new hl)⟩
    ·exact q.elim
   ·exact q.elim
 ·exact q.elim⟩
end
end L3
namespace L2
open PySem PySem.Spec PyProof.Rows
end L2
namespace L3
open PySem L2
end L3
namespace L2
open PySem PySem.Spec PyProof.Rows
end L2
namespace L3
open PySem L2
end L3
namespace Md
open PySem PySem.Spec PyProof.Rows
end Md
namespace L2
open PySem PySem.Spec PyProof.Rows
end L2
namespace L3
open PySem L2
end L3
namespace CW
open PySem L2 L3
end CW
namespace L3
open PySem L2
theorem qP:∀{a b:List Char},a.map Char.toNat=b.map Char.toNat->a=b
 |[],[],_=>rfl
 |[],_::_,h=>by simp at h
 |_::_,[],h=>by simp at h
 |x::a,y::b,h=>by
  simp only[TQ,WC]at h
  rw[qP h.2,Char.toNat_inj.mp h.1]
def aN{a b:String}:(Str.ofString a=Str.ofString b)↔a=b:=by
 refine⟨fun h=>?_,fun h=>by rw[h]⟩
 rw[Str.ofString_eq_toList,Str.ofString_eq_toList]at h
 have h':a.toList.map Char.toNat=b.toList.map Char.toNat:=by
  have:=Uu (fun s:Str=>s.cps.toList) h
  simpa using this
 exact String.toList_inj.mp (qP h')
def sS{a b:String}:((Sum.inr (Str.ofString a):bf)=Sum.inr (Str.ofString b))↔a=b:=by
 rw[Sum.inr.injEq,aN]
def Am{i j:Int}(h1:-(2 ^ 64) < i)(h2:i < 2 ^ 64):IntMulOk i j:=(show Nt i j from .inl ⟨h1,h2⟩).ok
def pD{i j:Int}(h1:-(2 ^ 64) < j)(h2:j < 2 ^ 64):IntMulOk i j:=(show Nt i j from .inr ⟨h1,h2⟩).ok
def jb{i j:Int}(h:0<=j):i.fmod j=i % j:=Int.fmod_eq_emod_of_nonneg i h
def E4{i j:Int}(h:0<=j):i.fdiv j=i / j:=Wl i h
def E5{i j:Int}(h:0 < j)(h2:j < 2 ^ 64):mr i j:=⟨by omega,UW (show j.natAbs < 2 ^ 64 by omega) (Wm (by decide) (by decide))⟩
def Ij(d l:Addr)(S S':az):Prop:=∀a o,S a=some o->a≠d->a≠l->S' a=some o
def Ij.refl{d l:Addr}{S:az}:Ij d l S S:=fun _ _ h _ _=>h
def Ij.trans{d l:Addr}{S S1 S2:az}(a:Ij d l S S1)(b:Ij d l S1 S2):Ij d l S S2:=fun x o h h1 h2=>b x o (a x o h h1 h2) h1 h2
def Ij.upd{d l:Addr}{S:az}{o:SO}:Ij d l S (Hk S d o):=fun x u h h1 h2=>by rw[aD h1];exact h
def Ij.SB{d l:Addr}{S:az}{o:SO}:Ij d l S (Hk S l o):=fun x u h h1 h2=>by rw[aD h2];exact h
def Ij.new{d l p:Addr}{S:az}{o:SO}(h:S p=none):Ij d l S (Hk S p o):=fun x u hx h1 h2=>by rw[aD (fun e=>by rw[e,h]at hx;cases hx)];exact hx
end L3
def walkL:Array Lean.Name:=#[`L3.ah,`L3.aq,`L3.ar,`L3.bL,`L3.bd,`L3.aI,`L3.ag,`L3.v3,`L3.c3,`L3.lk,`L3.ak,`L3.al,`L3.ab,`L3.lz,`L3.aM,`L3.kG,`L3.lw,`L3.i3,`L3.gW,`L3.lx,`L3.uX,`L3.kK,`L3.u7,`L3.mC,`L3.aC,`L3.bb,`L3.fx,`L3.bG,`L3.af,`L3.i5,`L3.aY,`L3.jq,`L3.i6,`L3.jr,`L3.dW,`L3.gX,`L3.ci,`L3.hU,`L3.gK,`L3.xz,`L3.qp,`L3.xA,`L3.xB,`L3.bq,`L3.uY,`L3.aK,`L3.bX,`L3.bA,`L3.u4,`L3.mx,`L3.eR,`L3.aP,`L3.jt,`L3.i4,`List.set_cons_zero,`List.set_cons_succ,`List.set_nil,`L3.zO,`L3.jv,`L3.u6,`L3.aG,`L3.aF,`L3.bu,`L3.b_,`L3.cm,`L3.Tg.put,`L3.Tg.Hn,`L3.qH,`L3.mF,`L3.jz,`L3.qI,`L3.jy,`L3.gZ,`L3.va,`L3.bO,`L3.dv,`List.reduceReplicate,`List.map_cons,`List.map_nil,`List.cons_append,`List.nil_append]
def walkA(a:Array Lean.Name):Array Lean.Syntax:=Lean.mkSepArray (a.map fun n=>Lean.mkNode ``Lean.Parser.Tactic.simpLemma #[Lean.mkNullNode,Lean.mkNullNode,Lean.mkIdent n]) (Lean.mkAtom ",")
local macro_rules | `(tactic| walk_at "x")=>do
 let a:=⟨walkA walkL⟩
 `(tactic| ((try dsimp only [$a,*]); (try simp only [$a,*])))
namespace C
open PySem L2 L3
noncomputable def ck(seed number:Int)(l:Addr):List (bf×PV):=[(Sum.inr "seed",.int seed),(Sum.inr "number",.int number),(Sum.inr "left",.ref l)]
structure KQ (S:az) (d l:Addr) (seed number:Int) (left:Vu):Prop where
 d:S d=some (.dct (ck seed number l))
 l:S l=some (.lst (left.map PV.int))
 s0:0<=seed
 s1:seed < 2147483647
 nm:0<=number
 lf:∀x∈left,0<=x
 ln:left.length<=100
def Hu(S:az)(d l:Addr):Prop:=∃seed number left,KQ S d l seed number left
def KQ.ne{S:az}{d l:Addr}{seed number:Int}{left:Vu}(D:KQ S d l seed number left):d≠l:=fun e=>by
 have h:=D.d
 rw[e,D.l]at h
 cases h
def Hu.new{S:az}{d l p:Addr}{o:SO}(D:Hu S d l)(h:S p=none):Hu (Hk S p o) d l:=by
 obtain⟨s,n,f,D⟩:=D
 refine⟨s,n,f,?_,?_,D.s0,D.s1,D.nm,D.lf,D.ln⟩
 ·rw[aD (fun e=>by have:=D.d;rw[e,h]at this;cases this)];exact D.d
 ·rw[aD (fun e=>by have:=D.l;rw[e,h]at this;cases this)];exact D.l
def Hu.upd{S:az}{d l p:Addr}{o:SO}(D:Hu S d l)(h1:p≠d)(h2:p≠l):Hu (Hk S p o) d l:=by
 obtain⟨s,n,f,D⟩:=D
 exact⟨s,n,f,by rw[aD h1.symm];exact D.d,by rw[aD h2.symm];exact D.l,D.s0,D.s1,D.nm,D.lf,D.ln⟩
def Hu.free{S:az}{d l p:Addr}(D:Hu S d l)(h:S p=none):p≠d/\p≠l:=by
 obtain⟨s,n,f,D⟩:=D
 exact⟨(fun e=>by have:=D.d;rw[<-e,h]at this;cases this),(fun e=>by have:=D.l;rw[<-e,h]at this;cases this)⟩
def mM(s n m:Int)(l:Addr):kJ (ck s n l) (Sum.inr "number") (.int m)=ck s m l:=by
 simp[kJ,ck,sS,aN]
def xR(s n m:Int)(l:Addr):kJ (ck s n l) (Sum.inr "seed") (.int m)=ck m n l:=by
 simp[kJ,ck,sS,aN]
def C6(s n:Int)(l:Addr):ff (ck s n l) (Sum.inr "seed")=some (.int s):=by simp[ff,ck,sS,aN]
def xS(s n:Int)(l:Addr):ff (ck s n l) (Sum.inr "number")=some (.int n):=by simp[ff,ck,sS,aN]
def C7(s n:Int)(l:Addr):ff (ck s n l) (Sum.inr "left")=some (.ref l):=by simp[ff,ck,sS,aN]
abbrev bH(w:au):Prop:=∀{S:az} {d l:Addr} {m:Int} {Q:bn} {E:bJ},Hu S d l->0 < m->m < 2 ^ 62->(∀r S',0<=r->r < m->Hu S' d l->Ij d l S S'->Q (.int r) S')->w [.ref d,.int m] S Q E
def Hm:bH (aR 5 hW):=by
  intro S d l m Q E D h0 h1 k
  obtain⟨seed,number,left,D⟩:=D
  have hne:=D.ne
  have hsz:∀a b,(ck a b l).length < sizeLine:=fun _ _=>fA (by show 3<=1000;decide)
  have fin:∀num MD S1,KQ S1 d l seed num MD->Ij d l S S1->¬(num=0/\0 < MD.length)->
      (if 0 < num then mr num m/\(ck seed num l).length < sizeLine/\m≠0/\Q (PV.int (num.fmod m)) (Hk S1 d (SO.dct (ck seed (num.fdiv m) l)))
       else IntMulOk seed 48271/\(2147483647:Int)≠0/\IntMulOk ((seed * 48271+7919).fmod 2147483647) 40692/\(2147483399:Int)≠0/\(ck seed num l).length < sizeLine/\
        IntMulOk (((seed * 48271+7919).fmod 2147483647 * 40692+104729).fmod 2147483399) (((seed * 48271+7919).fmod 2147483647 * 40692+104729).fmod 2147483399)/\(2147483563:Int)≠0/\
        IntMulOk ((seed * 48271+7919).fmod 2147483647) ((seed * 48271+7919).fmod 2147483647)/\(2147483629:Int)≠0/\
        IntMulOk (((seed * 48271+7919).fmod 2147483647 * (seed * 48271+7919).fmod 2147483647).fmod 2147483629) 2147483563/\m≠0/\
        Q (PV.int ((((seed * 48271+7919).fmod 2147483647 * (seed * 48271+7919).fmod 2147483647).fmod 2147483629 * 2147483563+((((seed * 48271+7919).fmod 2147483647 * 40692+104729).fmod 2147483399) * (((seed * 48271+7919).fmod 2147483647 * 40692+104729).fmod 2147483399)).fmod 2147483563).fmod m))
          (Hk S1 d (SO.dct (ck (((seed * 48271+7919).fmod 2147483647 * 40692+104729).fmod 2147483399) num l)))):=by
    intro num MD S1 D1 O1 hz
    split
    . rename_i hp
      rw[jb (Wo h0),E4 (Wo h0)]
      refine⟨E5 h0 (by omega),hsz _ _,by omega,k _ _ (Xl _ (by omega)) (WH _ h0) ⟨seed,num / m,MD,aa,by rw[aD hne.symm];exact D1.l,D1.s0,D1.s1,Int.ediv_nonneg D1.nm (Wo h0),D1.lf,D1.ln⟩ (O1.trans .upd)⟩
    . have e1:∀x:Int,x.fmod 2147483647=x % 2147483647:=fun x=>jb (by decide)
      have e2:∀x:Int,x.fmod 2147483399=x % 2147483399:=fun x=>jb (by decide)
      simp only[e1,e2,jb (Wo h0)]
      have p1:=D1.s0
      have p2:=D1.s1
      refine⟨pD (by decide) (by decide),by decide,pD (by decide) (by decide),by decide,hsz _ _,Am (by omega) (by omega),by decide,Am (by omega) (by omega),by decide,pD (by decide) (by decide),by omega,
        k _ _ (Xl _ (by omega)) (WH _ h0) ⟨_,num,MD,aa,by rw[aD hne.symm];exact D1.l,by omega,by omega,D1.nm,D1.lf,D1.ln⟩ (O1.trans .upd)⟩
  unfold aR hW
  rw[show ap 5 [PV.ref d,PV.int m]=[some (.ref d),some (.int m),none,none,none] from rfl]
  simp only[ah]
  refine⟨fun n σ S'=>σ=[some (.ref d),some (.int m),none,none,none]/\∃number left,KQ S' d l seed number left/\left.length=n/\Ij d l S S',⟨_,rfl,number,left,D,rfl,.refl⟩,?_⟩
  rintro n σ S1 ⟨rfl,num,MD,D1,hn,O1⟩
  walk_at "x"
  simp only[D1.d,D1.l,xS,C7,C6,xR,mM,aa,Tz,TF]
  have hlen:(List.map PV.int MD).length=MD.length:=Ti ..
  rw[hlen]
  split
  . rename_i hz
    subst hz
    split
    . rename_i hl
      refine⟨fun σ S'=>σ=[some (.ref d),some (.int m),none,none,none]/\∃number left,KQ S' d l seed number left/\left.length < n/\Ij d l S S',?_,?_⟩
      . rintro σ' S' ⟨rfl,a,b,h2,h3,h4⟩
        exact⟨_,h3,rfl,a,b,h2,rfl,h4⟩
      . have hl':0 < MD.length:=by omega
        obtain⟨pre,x,rfl⟩:∃pre x,MD=pre++[x]:=by
          refine⟨MD.dropLast,MD.getLast (by intro e;rw[e]at hl';simp at hl'),(List.dropLast_concat_getLast _).symm⟩
        refine⟨trivial,?_⟩
        rw[show(List.map PV.int (pre++[x]))[(pre++[x]).length - 1]?=some (.int x) by simp,show(List.map PV.int (pre++[x])).dropLast=pre.map PV.int by simp]
        simp only[aD hne,D1.d,mM]
        refine⟨hsz _ _,trivial,x,pre,⟨aa,by rw[aD hne.symm,aa],D1.s0,D1.s1,D1.lf x (by simp),fun y hy=>D1.lf y (by simp[hy]),by have:=D1.ln;simp at this;omega⟩,?_,O1.trans (Ij.SB.trans .upd)⟩
        rw[<-hn];simp
    . rename_i hl
      exact fin 0 MD S1 D1 O1 (fun z=>hl (by omega))
  . rename_i hz
    rw[if_neg (by decide)]
    exact fin num MD S1 D1 O1 (fun z=>hz z.1)
end C
namespace L3
open PySem L2
def Ext(S S':az):Prop:=∀a o,S a=some o->S' a=some o
def Ext.refl{S:az}:Ext S S:=fun _ _ h=>h
def Ext.trans{S S1 S2:az}(a:Ext S S1)(b:Ext S1 S2):Ext S S2:=fun x o h=>b x o (a x o h)
def Ext.new{S:az}{p:Addr}{o:SO}(h:S p=none):Ext S (Hk S p o):=fun x u hx=>by rw[aD (fun e=>by rw[e,h]at hx;cases hx)];exact hx
def Ext.free{S S':az}(e:Ext S S'){p:Addr}(h:S' p=none):S p=none:=by
 cases q:S p with
 |none=>rfl
 |some o=>rw[e p o q]at h;cases h
theorem fS{g:Tg}{tc:kw}{te:aZ}{σ':cy}{keep:az->Prop}{fin:List PV->az->Prop}{S:az}(f:PV->PV)(c:PV->Bool)(hk:keep S):∀(items ys:List PV),
  (∀x∈items,∃σ2,g.put x σ'=some σ2/\(∀Q:Bool->az->Prop,Q (c x) S->tc σ2 S Q fK)/\(c x=true->∀Q:bn,Q (f x) S->te σ2 S Q fK))->ys.length+items.length<=sizeLine->fin (ys++(items.filter c).map f) S->bY g tc te σ' keep fin items ys S
 |[],ys,_,hl,hf=>⟨hk,by simpa using hl,by simpa using hf⟩
 |x::r,ys,h,hl,hf=>by
  obtain⟨σ2,e,h1,h2⟩:=h x (by simp)
  refine⟨hk,by simp at hl;omega,?_⟩
  rw[e]
  refine h1 _ ?_
  cases hc:c x with
  |true=>
   rw[if_pos rfl]
   refine h2 hc _ (fS f c hk r (ys++[f x]) (fun y hy=>h y (by simp[hy])) (by simp at hl ⊢;omega) ?_)
   rw[Xg,hc,if_pos rfl]at hf
   simpa using hf
  |false=>
   rw[if_neg (by decide)]
   refine fS f c hk r ys (fun y hy=>h y (by simp[hy])) (by simp at hl ⊢;omega) ?_
   rw[Xg,hc,if_neg (by decide)]at hf
   exact hf
def vm{g:Tg}{te:aZ}{σ':cy}{keep:az->Prop}{fin:List PV->az->Prop}{S:az}(f:PV->PV){items:List PV}(hk:keep S)
  (h:∀x∈items,∃σ2,g.put x σ'=some σ2/\∀Q:bn,Q (f x) S->te σ2 S Q fK) (hl:items.length<=sizeLine) (hf:fin (items.map f) S):bY g bx te σ' keep fin items [] S:=by
 refine fS f (fun _=>true) hk items [] (fun x hx=>?_) (by simpa using hl) (by rw[List.filter_eq_self.mpr (fun _ _=>rfl)];exact hf)
 obtain⟨σ2,e,k⟩:=h x hx
 exact⟨σ2,e,fun Q q=>q,fun _=>k⟩
theorem oB{g:Tg}{tc:kw}{te:aZ}{σ':cy}{keep:az->Prop}{fin:List PV->az->Prop}{items:List PV}(Iv:List PV->List PV->az->Prop)(hk:∀done ys S,Iv done ys S->keep S/\ys.length<=sizeLine)
  (step:∀done x rest ys S (K:List PV->az->Prop),items=done++x::rest->Iv done ys S->(∀ys' S',Iv (done++[x]) ys' S'->K ys' S')->match g.put x σ' with
   |some σ2=>tc σ2 S (fun b S3=>if b=true then te σ2 S3 (fun y S4=>K (ys++[y]) S4) fK else K ys S3) fK
   |none=>False)
  (hf:∀ys S,Iv items ys S->fin ys S):∀(rest done ys:List PV) (S:az),items=done++rest->Iv done ys S->bY g tc te σ' keep fin rest ys S
 |[],done,ys,S,e,h=>by
  rw[TY]at e
  exact⟨(hk _ _ _ h).1,(hk _ _ _ h).2,hf ys S (e▸h)⟩
 |x::rest,done,ys,S,e,h=>by
  refine⟨(hk _ _ _ h).1,(hk _ _ _ h).2,?_⟩
  exact step done x rest ys S (fun ys' S'=>bY g tc te σ' keep fin rest ys' S') e h fun ys' S' h'=>oB Iv hk step hf rest (done++[x]) ys' S' (by rw[e];simp) h'
theorem qQ{g:Tg}{tb:bv}{D:jW}{keep:az->Prop}{items:List PV}(Iv:List PV->cy->az->Prop)(hk:∀done σ S,Iv done σ S->keep S)
  (step:∀done x rest σ S (K:cy->az->Prop),items=done++x::rest->Iv done σ S->(∀σ' S',Iv (done++[x]) σ' S'->K σ' S')->match g.put x σ with
   |some σ'=>tb { D with nx:=K,ct:=K,bk:=D.nx } σ' S
   |none=>False)
  (hd:∀σ S,Iv items σ S->D.nx σ S):∀(rest done:List PV) (σ:cy) (S:az),items=done++rest->Iv done σ S->o9 g tb D keep rest σ S
 |[],done,σ,S,e,h=>by
  rw[TY]at e
  exact⟨hk _ _ _ h,hd σ S (e▸h)⟩
 |x::rest,done,σ,S,e,h=>
  ⟨hk _ _ _ h,step done x rest σ S (o9 g tb D keep rest) e h fun σ' S' h'=>qQ Iv hk step hd rest (done++[x]) σ' S' (by rw[e];simp) h'⟩
def bP{g:Tg}{tb:bv}{D:jW}{keep:az->Prop}{items:List PV}{σ:cy}{S:az}(Iv:List PV->cy->az->Prop)(h0:Iv [] σ S)(hk:∀done σ S,Iv done σ S->keep S)
  (step:∀done x rest σ S (K:cy->az->Prop),items=done++x::rest->Iv done σ S->(∀σ' S',Iv (done++[x]) σ' S'->K σ' S')->match g.put x σ with
   |some σ'=>tb { D with nx:=K,ct:=K,bk:=D.nx } σ' S
   |none=>False)
  (hd:∀σ S,Iv items σ S->D.nx σ S):o9 g tb D keep items σ S:=qQ Iv hk step hd items [] σ S rfl h0
def ik{g:Tg}{tc:kw}{te:aZ}{σ':cy}{keep:az->Prop}{fin:List PV->az->Prop}{items:List PV}{S:az}(Iv:List PV->List PV->az->Prop)(h0:Iv [] [] S)(hk:∀done ys S,Iv done ys S->keep S/\ys.length<=sizeLine)
  (step:∀done x rest ys S (K:List PV->az->Prop),items=done++x::rest->Iv done ys S->(∀ys' S',Iv (done++[x]) ys' S'->K ys' S')->match g.put x σ' with
   |some σ2=>tc σ2 S (fun b S3=>if b=true then te σ2 S3 (fun y S4=>K (ys++[y]) S4) fK else K ys S3) fK
   |none=>False)
  (hf:∀ys S,Iv items ys S->fin ys S):bY g tc te σ' keep fin items [] S:=oB Iv hk step hf items [] [] S rfl h0
def aj{t u:bv}{D:jW}{σ:cy}{S:az}(h:∀N:cy->az->Prop,(∀σ S,u D σ S->N σ S)->t { D with nx:=N } σ S):ah t u D σ S:=h (u D) fun _ _ q=>q
def cJ{n:Nat}{b:bv}{args:List PV}{S:az}{Q:bn}{E:bJ}(h:b { nx:=fun _ S'=>Q .non S',rt:=Q,ex:=fK } (ap n args) S):aR n b args S Q E:=h
def j5{α β:Type}(f:α->β)(xs:List α)(lo hi:Option Int):b9 (xs.map f) lo hi=(b9 xs lo hi).map f:=by
 unfold b9
 rw[Ti,List.map_take,List.map_drop]
def xT{α:Type}(xs:List α)(lo hi:Option Int):(b9 xs lo hi).length<=xs.length:=by
 unfold b9
 rw[VE,Vh]
 omega
def bg{n:Nat}(h:n<=1000):n<=sizeLine:=Vj (fA h)
section
variable {α:Type} {a b c d e:α} {l:List α}
def eU:Ie (a::l) 0=some a:=by simp[Ie,uH]
def fy:Ie (a::b::l) 1=some b:=bC (j:=1) rfl
def GS:Ie (a::b::c::l) 2=some c:=bC (j:=2) rfl
def Hd:Ie (a::b::c::d::l) 3=some d:=bC (j:=3) rfl
def He:Ie (a::b::c::d::e::l) 4=some e:=bC (j:=4) rfl
def C8:Ie [a] (-1)=some a:=rfl
def C9:Ie [a,b] (-1)=some b:=rfl
def sG:Ie [a,b,c] (-1)=some c:=rfl
def C_:Ie [a,b,c,d] (-1)=some d:=rfl
def xU:Ie [a,b,c,d,e] (-1)=some e:=rfl
def Dc:Ie [a,b] (-2)=some a:=rfl
def xV:Ie [a,b,c] (-2)=some b:=rfl
def Dd:Ie [a,b,c,d] (-2)=some c:=rfl
def xW:Ie [a,b,c,d,e] (-2)=some d:=rfl
end
def dD(lo:Int)(n:Nat):(bR lo n).length=n:=by simp[bR]
end L3
namespace C
open PySem L2 L3
abbrev qR(w:au):Prop:=∀{S:az} {ns:Vu} {b:Int} {Q:bn} {E:bJ},ns.length<=63->0<=b->b < 1000->(∀d l S',S d=none->S l=none->Hu S' d l->Ext S S'->Q (.ref d) S')->w [.cl (ns.map PV.int),.int b] S Q E
def LL:qR (aR 5 hV):=by
 intro S ns b Q E hn h0 h1 k
 unfold aR hV
 rw[show ap 5 [PV.cl (ns.map PV.int),PV.int b]=[some (.cl (ns.map PV.int)),some (.int b),none,none,none] from rfl]
 walk_at "x"
 intro p hp
 rw[aa]
 dsimp only
 rw[j5]
 have hx:(b9 ns (some b) (some 63)).length<=63:=TR (xT _ _ _) hn
 generalize b9 ns (some b) (some 63)=xs at hx
 refine vm (fun v=>match v with | .int i=>.int (if 0 - i > i then 0 - i else i)|v=>v) aa (fun x hx=>?_) (bg (by rw[Ti];omega)) ?_
 ·obtain⟨i,hi,rfl⟩:=Ue.mp hx
  refine⟨[some (.int i)],rfl,fun Q q=>?_⟩
  walk_at "x"
  exact q
 intro p2 hp2
 rw[aa]
 dsimp only
 rw[UP]
 have e0:(xs.map ((fun v=>match v with | .int i=>.int (if 0 - i > i then 0 - i else i)|v=>v) ∘ PV.int))=(xs.map fun i=>if 0 - i > i then 0 - i else i).map PV.int:=by
  rw[UP];rfl
 rw[e0]
 have hy:((xs.map fun i=>if 0 - i > i then 0 - i else i)).length<=63:=by rw[Ti];exact hx
 have OE:∀y∈xs.map (fun i:Int=>if 0 - i > i then 0 - i else i),0<=y:=by
  intro y hy
  obtain⟨i,_,rfl⟩:=Ue.mp hy
  split<;>omega
 generalize (xs.map fun i=>if 0 - i > i then 0 - i else i)=ys at hy OE
 have h2:p2≠p:=fun e=>by rw[e,aa]at hp2;cases hp2
 have hp2':S p2=none:=by rw[<-hp2,aD h2]
 refine bP (fun done σ S'=>S'=Hk (Hk S p (.lst (xs.map PV.int))) p2 (.lst (ys.map PV.int))/\∃v2 n,0<=n/\n < 2147483647/\σ=[some (.cl (ns.map PV.int)),some (.int b),v2,some (.ref p2),some (.int n)]) ⟨rfl,none,7919+b,by omega,by omega,rfl⟩ (fun done σ S' h=>by rw[h.1];exact aa) ?_ ?_
 ·rintro done x rest σ S' K e ⟨rfl,v2,n,n0,n1,rfl⟩ hK
  obtain⟨i,hi,rfl⟩:∃i,i∈ys/\x = .int i:=by
   have:x∈ys.map PV.int:=by rw[e];simp
   obtain⟨i,hi,rfl⟩:=Ue.mp this
   exact⟨i,hi,rfl⟩
  walk_at "x"
  refine⟨pD (by decide) (by decide),by decide,by decide,hK _ _ ⟨rfl,_,_,?_,?_,rfl⟩⟩
  ·rw[jb (by decide)];omega
  ·rw[jb (i:=(n * 48271+_)) (by decide)];omega
 ·rintro σ S' ⟨rfl,v2,n,n0,n1,rfl⟩
  walk_at "x"
  intro d hd
  have hd2:d≠p2:=fun e=>by rw[e,aa]at hd;cases hd
  rw[aD hd2]at hd
  have hd1:d≠p:=fun e=>by rw[e,aa]at hd;cases hd
  rw[aD hd1]at hd
  rw[aD hd2.symm,aa]
  dsimp only
  refine fS (fun v=>v) (fun v=>match v with | .int i=>decide (10 ^ 18<=i)|_=>false) (by rw[aD hd2.symm,aa]) _ [] (fun x hx=>?_) (by rw[Ti];exact bg (by simp;omega)) ?_
  ·obtain⟨i,hi,rfl⟩:=Ue.mp hx
   refine⟨[some (.int i)],rfl,fun Q q=>?_,fun _ Q q=>?_⟩
   ·walk_at "x"
    exact⟨⟨by decide,by decide,by decide⟩,q⟩
   ·walk_at "x"
    exact q
  intro p3 hp3
  rw[aa]
  intro l hl
  have e3:([]++List.map (fun v:PV=>v) (List.filter (fun v=>match v with | .int i=>decide (10 ^ 18<=i)|_=>false) (List.map PV.int ys)))=(ys.filter fun i=>decide (10 ^ 18<=i)).map PV.int:=by
   rw[T7,List.map_id',List.filter_map]
   rfl
  rw[e3]at hl ⊢
  rw[<-List.map_reverse]
  generalize PL:Hk (Hk (Hk (Hk S p (SO.lst (List.map PV.int xs))) p2 (SO.lst (List.map PV.int ys))) d (SO.dct [])) p3 (SO.lst (List.map PV.int (List.filter (fun i=>decide (10 ^ 18<=i)) ys)))=S3 at hl ⊢
  have Rq:S3 d=some (.dct []):=by rw[<-PL,aD (fun e=>by rw[<-e,aa]at hp3;cases hp3),aa]
  have OT:l≠d:=fun e=>by rw[e,Rq]at hl;cases hl
  have QD:Ext S S3:=by
   rw[<-PL]
   refine(Ext.new hp).trans ((Ext.new hp2).trans ((Ext.new ?_).trans (.new hp3)))
   rw[aD hd2,aD hd1];exact hd
  refine⟨by rw[aD OT.symm];exact Rq,?_⟩
  have e4:ow [(PV.str "seed",PV.int n),(PV.str "number",PV.int 0),(PV.str "left",PV.ref l)]=some (ck n 0 l):=rfl
  rw[e4]
  have e5:Ja [] (ck n 0 l)=ck n 0 l:=by simp[Ja,ck,kJ,sS,aN]
  dsimp only
  rw[e5]
  refine k d l _ hd (QD.free hl) ⟨n,0,_,aa,by rw[aD OT,aa],n0,n1,Int.le_refl _,fun y hy=>?_,?_⟩ ?_
  ·exact OE y (Vf.mp (List.mem_reverse.mp hy)).1
  ·rw[Wt]
   exact TR (Vg _ _) (by omega)
  ·intro a o ha
   have had:a≠d:=fun e=>by rw[e,hd]at ha;cases ha
   rw[aD had,aD (fun e=>by rw[e,QD.free hl]at ha;cases ha)]
   exact QD a o ha
end C
namespace L3
open PySem L2
theorem mN(S:az):∀zs:List Str,J5 S (zs.map PV.str) (zs.map PyData.str)
 |[]=>.nil
 |z::r=>.cons (.str z) (mN S r)
theorem im:∀{zs:Vs},(∀z∈zs,PyData.strOk z=true)->PyData.canLayAll0 (zs.map PyData.str)=true
 |[],_=>rfl
 |z::r,h=>by
  show(PyData.canLay0 (.str z)&&PyData.canLayAll0 (r.map PyData.str))=true
  rw[im fun y hy=>h y (by simp[hy])]
  have:PyData.canLay0 (.str z)=true:=h z (by simp)
  rw[this];rfl
def mO(z:Str)(zs:Vs):gG (.str z) (zs.map PyData.str)=decide (z∈zs):=by
 unfold gG
 rw[List.any_map,VQ,Xf,decide_eq_true_iff]
 constructor
 ·rintro⟨y,hy,e⟩
  have e':(y == z)=true:=e
  exact(eq_of_beq e')▸hy
 ·intro h
  exact⟨z,h,beq_self_eq_true z⟩
def eV{neg:Bool}{z:Str}{zs:Vs}{a:Addr}{S:az}{Q:bn}(hS:S a=some (.lst (zs.map PV.str)))(hz:PyData.strOk z=true)(hzs:∀y∈zs,PyData.strOk y=true)(q:Q (.bl (neg != decide (z∈zs))) S):fJ neg (.str z) (.ref a) S Q:=by
 unfold fJ
 simp only[hS]
 exact⟨_,_,.str z,mN S zs,hz,im hzs,by show 0<=150;decide,by rw[mO];exact q⟩
def bF{neg:Bool}{z:Str}{zs:Vs}{S:az}{Q:bn}(hz:PyData.strOk z=true)(hzs:∀y∈zs,PyData.strOk y=true)(q:Q (.bl (neg != decide (z∈zs))) S):fJ neg (.str z) (.tup (zs.map PV.str)) S Q:=by
 unfold fJ
 exact⟨_,_,.str z,mN S zs,hz,im hzs,by show 0<=150;decide,by rw[mO];exact q⟩
end L3
namespace C
open PySem L2 L3 Wd
abbrev l0(w:au):Prop:=∀{S:az} {t b:Int} {Q:bn} {E:bJ},0 < b->b.natAbs < 2 ^ 8000->Q (.tup [.int (M3.br t b),.int (M3.aT t b)]) S->w [.int t,.int b] S Q E
def J8:l0 (aR 4 jB):=by
 intro S t b Q E hb hs k
 unfold aR jB
 rw[show ap 4 [PV.int t,PV.int b]=[some (.int t),some (.int b),none,none] from rfl]
 simp only[ah]
 walk_at "x"
 refine⟨fun n σ S'=>S'=S/\∃x y:Int,σ=[some (.int t),some (.int b),some (.int x),some (.int y)]/\0<=x/\0<=y/\Int.gcd x y=Int.gcd t b/\y.toNat=n,⟨_,rfl,_,b,rfl,by split<;>omega,by omega,?_,rfl⟩,?_⟩
 ·split
  ·rw[show(0 - t) = -t by omega,Int.neg_gcd]
  ·rfl
 rintro n σ S' ⟨rfl,x,y,rfl,hx,hy,hg,rfl⟩
 walk_at "x"
 simp only[TF]
 split
 ·rename_i hp
  refine⟨fun σ' Mq=>Mq=S'/\∃x' y':Int,σ'=[some (.int t),some (.int b),some (.int x'),some (.int y')]/\0<=x'/\0<=y'/\Int.gcd x' y'=Int.gcd t b/\y'.toNat < y.toNat,?_,?_⟩
  ·rintro σ' Mq ⟨rfl,x',y',rfl,h1,h2,h3,h4⟩
   exact⟨_,h4,rfl,x',y',rfl,h1,h2,h3,rfl⟩
  ·walk_at "x"
   have e:x.fmod y=x % y:=jb hy
   have l1:=Xl x (b:=y) (by omega)
   have l2:=WH x hp
   refine⟨by omega,trivial,y,x.fmod y,rfl,hy,by omega,?_,by omega⟩
   rw[M3.qF];exact hg
 ·rename_i hp
  have OE:y=0:=by omega
  subst OE
  have QE:x=(Int.gcd t b:Int):=by
   rw[<-hg]
   rw[Int.gcd_zero_right]
   omega
  subst QE
  have gp:(0:Int) < (Int.gcd t b:Int):=WE.mpr (M3.iF (by omega))
  have gl:=M3.wH (t:=t) (b:=b) (by omega)
  have cd:∀z,mr z (Int.gcd t b:Int):=fun z=>⟨by omega,Xq (by omega) hs⟩
  refine⟨cd _,cd _,?_⟩
  have d1:=(M3.qE (t:=t) (b:=b) (by omega))
  rw[if_neg (by omega)]at d1
  rw[d1.1,d1.2]
  exact k
structure De (x y:Int):Prop where
 low:M3.DF x y
 x0:0<=x
 x1:x<=999
 y1:y<=9
def kT{n:Nat}(h:n < 2 ^ 64):n < 2 ^ 8000:=UW h (Wm (by decide) (by decide))
abbrev mP(w:au):Prop:=∀{S:az} {d l:Addr} {Q:bn} {E:bJ},Hu S d l->(∀x y S',De x y->Hu S' d l->Ij d l S S'->Q (.tup [.int x,.int y]) S')->w [.ref d] S Q E
def LN{wd wl:au}(Hm:bH wd)(J8:l0 wl):mP (aR 2 (hZ wd wl)):=by
 intro S d l Q E D k
 unfold aR hZ
 rw[show ap 2 [PV.ref d]=[some (.ref d),none] from rfl]
 walk_at "x"
 refine Hm D (by decide) (by decide) fun r S1 r0 r1 D1 O1=>?_
 simp only[Tz,TF]
 split
 ·exact k 0 1 S1 ⟨⟨by decide,by decide⟩,by decide,by decide,by decide⟩ D1 O1
 ·split
  ·refine Hm D1 (by decide) (by decide) fun r2 S2 a0 a1 D2 O2=>?_
   exact k _ 1 S2 ⟨⟨by decide,Int.gcd_one_right _⟩,by omega,by omega,by decide⟩ D2 (O1.trans O2)
  ·refine Hm D1 (by decide) (by decide) fun r2 S2 a0 a1 D2 O2=>Hm D2 (by decide) (by decide) fun r3 S3 b0 b1 D3 O3=>?_
   refine J8 (by omega) (kT (by omega)) ?_
   have z:=M3.wK (t:=r2) (b:=1+r3) (T:=999) (B:=9) (by omega) (by omega) (by omega) (by omega) (by omega) (by decide) (by decide)
   refine k _ _ S3 ⟨M3.jV (by omega),?_,z.2.1,z.2.2.2⟩ D3 (O1.trans (O2.trans O3))
   unfold M3.br
   rw[if_neg (by omega)]
   exact Int.ediv_nonneg a0 (by omega)
def vn{r:Int}(h0:0<=r)(h1:r < 26):∃c,Ie abc.cps.toList r=some c/\97<=c/\c<=122:=by
 obtain⟨n,rfl⟩:=UR h0
 have q:=oY n
 rw[Nat.mod_eq_of_lt (by omega)]at q
 exact⟨_,q,by omega,by omega⟩
def pE{z:Str}(h:Mc z):PyData.strOk z=true:=by
 unfold PyData.strOk
 rw[Array.all_eq_true']
 intro c hc
 have:=h.sm c (by simpa using hc)
 simp;omega
def An:∀z∈I_,PyData.strOk z=true:=by decide +kernel
theorem kU:∀zs:List Str,texts (zs.map PV.str)=some zs
 |[]=>rfl
 |z::r=>by show(texts (r.map PV.str)).map (z::·)=_;rw[kU r];rfl
def vo:("":Str).length=0:=by decide +kernel
def oC{cs:List Nat}(h:cs.length<=1000):((cs.map kC).map (·.length)).sum+(cs.map kC).length * ("":Str).length<=1000000:=by
 rw[zC,vo]
 omega
def mQ{w__law_draw:au}(Hm:bH w__law_draw){S:az}{d l:Addr}{σ:cy}{n:Int}{fin:List PV->az->Prop}(D:Hu S d l)(hn:n.toNat<=100)(h1:lk σ 1=some (.ref d))(h2:lk σ 2=some (.str abc))(hσ:∃x,σ=[x,some (.ref d),some (.str abc)])
  (k:∀(cs:List Nat) S',cs.length=n.toNat->(∀c∈cs,97<=c/\c<=122)->Hu S' d l->Ij d l S S'->fin ((cs.map kC).map PV.str) S') :
  bY (Tg.n 0) bx (ag af (v3 2) (ab w__law_draw [v3 1,c3 (.int 26)])) σ (fun _=>True) fin (bR 0 n.toNat) [] S:=by
 obtain⟨x0,rfl⟩:=hσ
 refine ik (fun done ys S'=>∃cs:List Nat,ys=(cs.map kC).map PV.str/\cs.length=done.length/\done.length<=n.toNat/\(∀c∈cs,97<=c/\c<=122)/\Hu S' d l/\Ij d l S S') ⟨[],rfl,rfl,Ug _,by simp,D,.refl⟩ ?_ ?_ ?_
 ·rintro done ys S' ⟨cs,rfl,e,hd,_⟩
  exact⟨trivial,bg (by rw[Ti,Ti,e];omega)⟩
 ·rintro done x rest ys S' K e ⟨cs,rfl,e2,hd,hc,D',O'⟩ hK
  have hlen:done.length+1<=n.toNat:=by
   have:=Uu List.length e
   rw[dD,Te,TL]at this
   omega
  walk_at "x"
  simp only[bx,Ua]
  refine Hm D' (by decide) (by decide) fun r S2 r0 r1 D2 O2=>⟨lW.1,?_⟩
  obtain⟨c,ec,c0,c1⟩:=vn r0 r1
  rw[ec]
  refine hK _ _ ⟨cs++[c],by simp,by simp[e2],by simpa using hlen,fun y hy=>?_,D2,O'.trans O2⟩
  rcases Tj.mp hy with hy|hy
  ·exact hc y hy
  ·rw[Tt.mp hy];exact⟨c0,c1⟩
 ·rintro ys S' ⟨cs,rfl,e,hd,hc,D',O'⟩
  exact k cs S' (by rw[e,dD]) hc D' O'
theorem qS{f:Str->List Nat}(r:List Nat):∀xs:List Str,(xs.map f).Nodup->(xs.filter fun z=>f z == r).length<=1
 |[],_=>Ug _
 |x::xs,h=>by
  rw[TQ,Uw]at h
  rw[Xg]
  by_cases e:(f x == r)=true
  ·rw[if_pos e]
   have no:(xs.filter fun z=>f z == r)=[]:=by
    refine List.filter_eq_nil_iff.mpr fun z hz q=>h.1 ?_
    rw[eq_of_beq e,<-eq_of_beq q]
    exact Ue.mpr ⟨z,hz,rfl⟩
   rw[no]
   exact Tq _
  ·rw[if_neg e]
   exact qS r xs h.2
def xX(r:List Nat):(I_.filter fun z=>z.cps.toList.tail == r).length<=1:=qS (f:=fun z=>z.cps.toList.tail) r I_ (by decide +kernel)
def sH(r:List Nat)(c:Nat)(ns:Vs)(h:ns.length < 17):∃j,j < 26/\cand r (c+j) ∉ I_++ns:=by
 obtain⟨j,hj,free⟩:=uW r c ((I_.filter fun z=>z.cps.toList.tail == r)++ns) (by rw[Te];have:=xX r;omega)
 refine⟨j,hj,fun hm=>free ?_⟩
 rcases Tj.mp hm with q|q
 ·exact UL _ (Vf.mpr ⟨q,by simp[cand]⟩)
 ·exact Uc _ q
abbrev kW(w:au):Prop:=∀{S:az} {d l:Addr} {m:Int} {Q:bn} {E:bJ},Hu S d l->0<=m->m<=17->(∀p (ns:Vs) S',ns.length=m.toNat->ns.Nodup->(∀z∈ns,Mc z/\z ∉ I_)->S p=none->p≠d->p≠l->S' p=some (.lst (ns.map PV.str))->Hu S' d l->Ij d l S S'->Q (.ref p) S')->w [.ref d,.int m] S Q E
def Lf{wd:au}(Hm:bH wd):kW (aR 11 (fO wd)):=by
 intro S d l m Q E D h0 h1 k
 unfold fO
 refine cJ ?_
 rw[show ap 11 [PV.ref d,PV.int m]=[some (.ref d),some (.int m),none,none,none,none,none,none,none,none,none] from rfl]
 refine aj fun N hN=>?_
 walk_at "x"
 refine hN _ _ (aj fun N hN=>?_)
 walk_at "x"
 intro pT hT
 have dT:=D.free hT
 have D0:Hu (Hk S pT (.lst (I_.map PV.str))) d l:=D.new hT
 have Rr:(Hk S pT (.lst (I_.map PV.str))) pT=some (.lst (I_.map PV.str)):=aa
 have O0:Ij d l S (Hk S pT (.lst (I_.map PV.str))):=.new hT
 have eK:[PV.str "jars",PV.str "deed",PV.str "rest",PV.str "pay",PV.str "put",PV.str "then",PV.str "either",PV.str "take",PV.str "often",PV.str "use"]=I_.map PV.str:=rfl
 rw[eK]
 generalize Hk S pT (.lst (I_.map PV.str))=S0 at D0 Rr O0 ⊢
 refine hN _ _ (aj fun N hN=>?_)
 walk_at "x"
 refine⟨trivial,Hm D0 (by decide) (by decide) fun n S1 n0 n1 D1 O1=>⟨by omega,by omega,?_⟩⟩
 refine mQ Hm D1 (by omega) rfl rfl ⟨_,rfl⟩ fun cs S2 hl hc D2 O2 pj hj=>?_
 simp only[oj,aa,kU]
 refine⟨oC (by omega),?_⟩
 rw[show Txt.join (Str.ofString "") (cs.map kC)=⟨cs.toArray⟩from mn cs]
 refine hN _ _ (aj fun N hN=>?_)
 walk_at "x"
 have hcl:cs.length<=5:=by omega
 have lc:(⟨cs.toArray⟩:Str).length=cs.length:=Tr
 refine⟨by rw[lc];exact bg (by omega),Hm (D2.new hj) (by rw[lc];omega) (by rw[lc];omega) fun at' S3 a0 a1 D3 O3=>Hm D3 (by decide) (by decide) fun tu S4 t0 t1 D4 O4=>Hm D4 (by decide) (by decide) fun nr S5 r0 r1 D5 O5=>?_⟩
 rw[lc]at a1
 obtain⟨an,rfl⟩:=UR a0
 obtain⟨tn,rfl⟩:=UR t0
 refine hN _ _ (aj fun N hN=>?_)
 walk_at "x"
 intro q hq
 have dq:=D5.free hq
 have OA:Ij d l S0 S5:=O1.trans (O2.trans ((Ij.new hj).trans (O3.trans (O4.trans O5))))
 have QF:=OA _ _ Rr dT.1 dT.2
 have Rs:pT≠q:=fun e=>by rw[e,hq]at QF;cases QF
 have Ru:S q=none:=by
  cases e:S q with
  |none=>rfl
  |some o=>rw[OA _ _ (O0 _ _ e dq.1 dq.2) dq.1 dq.2]at hq;cases hq
 refine hN _ _ (aj fun N hN=>?_)
 simp only[b_,jy,v3,lk]
 refine⟨by omega,by omega,?_⟩
 refine bP (fun done σ S'=>∃(ns:Vs) (v4 v10:Option PV) (near:Bool),σ=[some (.ref d),some (.int m),some (.str abc),some (.ref pT),v4,some (.str ⟨cs.toArray⟩),some (.int an),some (.int tn),some (.bl near),some (.ref q),v10]/\ns.length=done.length/\ns.Nodup/\(∀z∈ns,Mc z/\z ∉ I_)/\S' q=some (.lst (ns.map PV.str))/\S' pT=some (.lst (I_.map PV.str))/\Hu S' d l/\Ij d l S S')
  ⟨[],_,_,_,rfl,rfl,Wh,(fun z hz=>nomatch hz),aa,by rw[aD Rs];exact QF,D5.new hq,O0.trans (OA.trans (.new hq))⟩ (fun _ _ _ _=>trivial) ?_ ?_
 ·rintro done x rest σ S6 K e ⟨ns,v4,v10,near,rfl,QG,QH,w6,PN,QI,D6,O6⟩ hK
  have hlen:done.length < m.toNat:=by
   have:=Uu List.length e
   rw[dD,Te,TL]at this
   omega
  have hx:x = .int (0+(done.length:Nat)):=by
   have h2:=Uu (fun l=>l[done.length]?) e
   simp only[T5 (Tq _),Nat.sub_self,List.getElem?_cons_zero]at h2
   unfold bR at h2
   rw[Tv,Xm hlen]at h2
   simpa using h2.symm
  subst hx
  -- the tail: a word is changed SC it is new,then laid down
  have ql:∀(z:Str) (v4:Option PV) (S7:az),Mc z->S7 q=some (.lst (ns.map PV.str))->S7 pT=some (.lst (I_.map PV.str))->Hu S7 d l->Ij d l S S7->
    ah (g_ (lw (aM (ag (fJ false) (v3 10) (v3 3))) (aM (ag (fJ false) (v3 10) (v3 9)))) (aq 10 (ag aK (ag af (v3 2) (ag hU (ag aK (lz "str" kI (v3 2) [(ag af (v3 10) (c3 (.int 0)))]) (c3 (.int 1))) (c3 (.int 26)))) (aY (v3 10) (i6 (c3 (.int 1))) jq))))
     (bL (lz "list" bO (v3 9) [(v3 10)])) { nx:=K,rt:=Q,ex:=fK,bk:=N,ct:=K } [some (.ref d),some (.int m),some (.str abc),some (.ref pT),v4,some (.str ⟨cs.toArray⟩),some (.int an),some (.int tn),some (.bl near),some (.ref q),some (.str z)] S7:=by
   intro z v4 S7 hz Rv Rx D7 O7
   obtain⟨i,r,rfl,hi,SD,hrs⟩:=hz.cand
   obtain⟨j,hj,free⟩:=sH r i ns (by omega)
   refine⟨fun mm σ S'=>∃t,σ=[some (.ref d),some (.int m),some (.str abc),some (.ref pT),v4,some (.str ⟨cs.toArray⟩),some (.int an),some (.int tn),some (.bl near),some (.ref q),some (.str (cand r (i+t)))]/\S'=S7/\t<=j/\mm=j - t,⟨j,0,rfl,rfl,Ug _,rfl⟩,?_⟩
   rintro mm σ S' ⟨t,rfl,rfl,ht,rfl⟩
   have hw:=wG SD hrs (i+t)
   have QJ:∀y∈ns,PyData.strOk y=true:=fun y hy=>pE (w6 y hy).1
   have go:t < j->∃N:cy->az->Prop,(∀σ' Mq,N σ' Mq->∃m',m' < j - t/\∃t',σ'=[some (.ref d),some (.int m),some (.str abc),some (.ref pT),v4,some (.str ⟨cs.toArray⟩),some (.int an),some (.int tn),some (.bl near),some (.ref q),some (.str (cand r (i+t')))]/\Mq=S'/\t'<=j/\m'=j - t')/\
     N ([some (.ref d),some (.int m),some (.str abc),some (.ref pT),v4,some (.str ⟨cs.toArray⟩),some (.int an),some (.int tn),some (.bl near),some (.ref q),some (.str (cand r (i+(t+1))))]) S':=fun lt=>
    ⟨fun σ' Mq=>σ'=[some (.ref d),some (.int m),some (.str abc),some (.ref pT),v4,some (.str ⟨cs.toArray⟩),some (.int an),some (.int tn),some (.bl near),some (.ref q),some (.str (cand r (i+(t+1))))]/\Mq=S',fun σ' Mq ⟨e1,e2⟩=>⟨j - (t+1),by omega,t+1,e1,e2,by omega,rfl⟩,rfl,rfl⟩
   have PP:((((i+t) % 26:Nat):Int)+1).fmod 26=(((i+t+1) % 26:Nat):Int):=by rw[jb (by decide)];omega
   walk_at "x"
   refine eV Rx (pE hw) An ?_
   simp only[Tz,TF]
   split
   ·rename_i g
    have lt:t < j:=Nat.lt_of_le_of_ne ht fun e=>by subst e;exact free (UL _ g)
    obtain⟨N,hN,hn⟩:=go lt
    rw[if_pos trivial]
    refine⟨N,hN,trivial,hw.line,?_⟩
    rw[nY]
    simp only[kI,wE _ (Xu _ (by decide))]
    refine⟨by decide,lW.1,?_⟩
    rw[PP,oY (i+t+1)]
    refine⟨hw.line,?_,?_⟩
    ·rw[iE]
     exact bg (show 1+r.toArray.size<=1000 by rw[Tr];omega)
    ·rw[iE,nZ]
     exact hn
   ·rename_i g
    refine eV Rv (pE hw) QJ ?_
    simp only[Tz,TF]
    split
    ·rename_i g2
     have lt:t < j:=Nat.lt_of_le_of_ne ht fun e=>by subst e;exact free (Uc _ g2)
     obtain⟨N,hN,hn⟩:=go lt
     refine⟨N,hN,trivial,hw.line,?_⟩
     rw[nY]
     simp only[kI,wE _ (Xu _ (by decide))]
     refine⟨by decide,lW.1,?_⟩
     rw[PP,oY (i+t+1)]
     refine⟨hw.line,?_,?_⟩
     ·rw[iE]
      exact bg (show 1+r.toArray.size<=1000 by rw[Tr];omega)
     ·rw[iE,nZ]
      exact hn
    ·rename_i g2
     simp only[Rv]
     refine⟨trivial,by rw[Ti];exact fA (by omega),hK _ _ ⟨ns++[cand r (i+t)],_,_,_,rfl,by simp[QG],UY.mpr ⟨QH,by simp,fun a ha b hb e=>?_⟩,fun z hz=>?_,by rw[Uh];exact aa,by rw[aD Rs];exact Rx,D7.upd dq.1 dq.2,fun a o ha h1 h2=>?_⟩⟩
     ·rw[Tt.mp hb]at e
      exact g2 (e▸ha)
     ·rcases Tj.mp hz with hz|hz
      ·exact w6 z hz
      ·rw[Tt.mp hz]
       exact⟨hw,g⟩
     ·rw[aD (fun e=>by rw[e,Ru]at ha;cases ha)]
      exact O7 a o ha h1 h2
  obtain⟨pw,SE,pl2⟩:=zD hcl hc (a:=an) (i:=(tn+done.length) % 26) (by omega) (Xu _ (by decide))
  have PP:((tn:Int)+(0+(done.length:Int))).fmod 26=(((tn+done.length) % 26:Nat):Int):=by rw[jb (by decide)];omega
  have Ry:(⟨cs.toArray⟩:Str).length<=sizeLine:=by rw[lc];exact bg (by omega)
  simp only[Tg.put]
  refine aj fun N2 Lg=>?_
  walk_at "x"
  refine⟨Ry,by decide,lW.1,?_⟩
  rw[PP,oY (tn+done.length)]
  refine⟨TR (Nat.add_le_add SE (Tq 1)) (by decide),Ry,TR (XO (Array.size_append).symm) (TR pw.len (by decide)),?_⟩
  refine Lg _ _ (aj fun N3 PQ=>?_)
  walk_at "x"
  split
  ·refine⟨trivial,Hm D6 (by decide) (by decide) fun n2 Sa m0 m1 Da Oa=>⟨by omega,by omega,?_⟩⟩
   refine mQ Hm Da (by omega) rfl rfl ⟨_,rfl⟩ fun Oi Sb hl2 hc2 Db Ob SF hj2=>?_
   simp only[oj,aa,kU]
   refine⟨oC (by omega),?_⟩
   rw[show Txt.join (Str.ofString "") (Oi.map kC)=⟨Oi.toArray⟩from mn Oi]
   refine PQ _ _ ?_
   have wz:Mc (⟨Oi.toArray⟩:Str):=⟨fun e=>by have e':Oi=[]:=e;rw[e']at hl2;simp at hl2;omega,by show Oi.length<=6;omega,hc2⟩
   have OB:Ij d l S6 (Hk Sb SF (.lst ((Oi.map kC).map PV.str))):=Oa.trans (Ob.trans (.new hj2))
   exact ql _ _ _ wz (OB _ _ PN dq.1 dq.2) (OB _ _ QI dT.1 dT.2) (Db.new hj2) (O6.trans OB)
  ·exact PQ _ _ (ql _ _ S6 pw PN QI D6 O6)
 ·rintro σ S6 ⟨ns,v4,v10,near,rfl,QG,QH,w6,PN,QI,D6,O6⟩
  refine hN _ _ ?_
  walk_at "x"
  exact k q ns S6 (by rw[QG,dD]) QH w6 Ru dq.1 dq.2 PN D6 O6
inductive Bd where
 |rest|pay (x y:Int)|put (z:Str) (m:Int)|use (z:Str)|HS (a:Bd)|Ho (a b:Bd)|HQ (a b:Bd)|Hx (z:Str) (m:Int) (a b:Bd)
noncomputable def Bd.pv:Bd->PV
 | .rest=>.tup [.str "rest"]
 | .pay x y=>.tup [.str "pay",.tup [.int x,.int y]]
 | .put z m=>.tup [.str "put",.str z,.int m]
 | .use z=>.tup [.str "use",.str z]
 | .HS a=>.tup [.str "often",a.pv]
 | .Ho a b=>.tup [.str "then",a.pv,b.pv]
 | .HQ a b=>.tup [.str "either",a.pv,b.pv]
 | .Hx z m a b=>.tup [.str "take",.str z,.int m,a.pv,b.pv]
noncomputable def Bd.dep:Bd->Nat
 | .HS a=>a.dep+1
 | .Ho a b=>max a.dep b.dep+1
 | .HQ a b=>max a.dep b.dep+1
 | .Hx _ _ a b=>max a.dep b.dep+1
 |_=>1
noncomputable def Bd.size:Bd->Nat
 | .HS a=>a.size+1
 | .Ho a b=>a.size+b.size+1
 | .HQ a b=>a.size+b.size+1
 | .Hx _ _ a b=>a.size+b.size+1
 |_=>1
noncomputable def Bd.good(js us:Vs):Bd->Prop
 | .rest=>True
 | .pay x y=>De x y
 | .put z m=>z∈js/\1<=m/\m<=9
 | .use z=>z∈us
 | .HS a=>a.good js us
 | .Ho a b=>a.good js us/\b.good js us
 | .HQ a b=>a.good js us/\b.good js us
 | .Hx z m a b=>z∈js/\1<=m/\m<=9/\a.good js us/\b.good js us
def Bd.HK(t:Bd):1<=t.dep:=by cases t<;>simp[Bd.dep]
def dX{α:Type}{xs:List α}{r:Int}(h0:0<=r)(h1:r < xs.length):∃v,Ie xs r=some v/\v∈xs:=by
 obtain⟨n,rfl⟩:=UR h0
 have hn:n < xs.length:=by omega
 exact⟨xs[n],bC (by simp[hn]),VG hn⟩
noncomputable def Bd.leaf:Bd->Prop
 | .rest=>True
 | .pay _ _=>True
 | .put _ _=>True
 |_=>False
def Bd.KG{t:Bd}(h:t.leaf):t.dep=1/\t.size=1:=by cases t<;>first|exact⟨rfl,rfl⟩|exact h.elim
abbrev j6(w:au):Prop:=∀{S:az} {d l:Addr} {js:Vs} {Q:bn} {E:bJ},Hu S d l->js.length < 2 ^ 61->(∀(t:Bd) S',t.leaf->t.good js []->Hu S' d l->Ij d l S S'->Q t.pv S')->w [.ref d,.tup (js.map PV.str)] S Q E
def Ko{wd wc:au}(Hm:bH wd)(LN:mP wc):j6 (aR 4 (h_ wd wc)):=by
 intro S d l js Q E D hj k
 unfold h_
 refine cJ ?_
 rw[show ap 4 [PV.ref d,PV.tup (js.map PV.str)]=[some (.ref d),some (.tup (js.map PV.str)),none,none] from rfl]
 refine aj fun N hN=>?_
 walk_at "x"
 refine Hm D (by decide) (by decide) fun r S1 r0 r1 D1 O1=>?_
 refine hN _ _ (aj fun N hN=>?_)
 walk_at "x"
 simp only[Tz,TF]
 split
 ·exact k .rest S1 trivial trivial D1 O1
 refine hN _ _ (aj fun N hN=>?_)
 walk_at "x"
 simp only[Tz,TF,Ti]
 have pay:wc [.ref d] S1 (fun x S=>Q (.tup [.str "pay",x]) S) fK:=LN D1 fun x y S2 c D2 O2=>k (.pay x y) S2 trivial c D2 (O1.trans O2)
 split
 ·rw[if_pos trivial];exact pay
 split
 ·exact pay
 rename_i hr hz
 refine hN _ _ (aj fun N hN=>?_)
 walk_at "x"
 refine Hm D1 (by decide) (by decide) fun r2 S2 a0 a1 D2 O2 p hp=>Hm (D2.new hp) (by decide) (by decide) fun r3 S3 b0 b1 D3 O3=>?_
 have dp:=D2.free hp
 have hp3:=O3 _ _ (aa (S:=S2) (o:=.lst [.int 1,.int 2,.int (1+r2)])) dp.1 dp.2
 simp only[hp3]
 obtain⟨v,hv,hm⟩:=dX (xs:=[PV.int 1,.int 2,.int (1+r2)]) b0 (by simpa using b1)
 rw[hv]
 obtain⟨m,rfl,m0,m1⟩:∃m,v = .int m/\1<=m/\m<=9:=by
  simp only[Th,TJ,Uq]at hm
  rcases hm with rfl|rfl|rfl
  ·exact⟨1,rfl,by omega,by omega⟩
  ·exact⟨2,rfl,by omega,by omega⟩
  ·exact⟨1+r2,rfl,by omega,by omega⟩
 refine hN _ _ ?_
 walk_at "x"
 simp only[Ti]
 refine Hm D3 (by omega) (by omega) fun r4 S4 c0 c1 D4 O4=>?_
 obtain⟨w,hw,QK⟩:=dX (xs:=js.map PV.str) c0 (by rw[Ti];exact c1)
 dsimp only
 rw[hw]
 obtain⟨z,hz,rfl⟩:=Ue.mp QK
 exact k (.put z m) S4 trivial ⟨hz,m0,m1⟩ D4 (O1.trans (O2.trans ((Ij.new hp).trans (O3.trans O4))))
def Lh(d l x:Addr)(S S':az):Prop:=∀a o,S a=some o->a≠d->a≠l->a≠x->S' a=some o
theorem _root_.L3.Ij.x{d l x:Addr}{S S':az}(h:Ij d l S S'):Lh d l x S S':=fun a o e h1 h2 _=>h a o e h1 h2
def Lh.trans{d l x:Addr}{S S1 S2:az}(a:Lh d l x S S1)(b:Lh d l x S1 S2):Lh d l x S S2:=fun y o h h1 h2 h3=>b y o (a y o h h1 h2 h3) h1 h2 h3
def Lh.upd{d l x:Addr}{S:az}{o:SO}:Lh d l x S (Hk S x o):=fun y u h h1 h2 h3=>by rw[aD h3];exact h
abbrev j7(n:Nat)(w:au):Prop:=∀{S:az} {d l x:Addr} {js:Vs} {left down:Int} {Q:bn} {E:bJ},Hu S d l->S x=some (.lst [.int left])->x≠d->x≠l->js.length < 2 ^ 61->0<=left->left < 2 ^ 61->0<=down->down < n->
  (∀(t:Bd) S' left',t.good js []->(t.dep:Int)<=down+1->0<=left'->(t.size:Int)+left'<=left+1->Hu S' d l->S' x=some (.lst [.int left'])->Lh d l x S S'->Q t.pv S')->w [.ref d,.tup (js.map PV.str),.ref x,.int down] S Q E
def LP{wd wl rb:au}(Hm:bH wd)(Ko:j6 wl)(n:Nat)(ih:j7 n rb):j7 (n+1) (aR 8 (ie wd wl rb)):=by
 intro S d l x js left down Q E D hx hxd MV hj h0 h1 h2 h3 k
 unfold ie
 refine cJ ?_
 rw[show ap 8 [PV.ref d,PV.tup (js.map PV.str),PV.ref x,PV.int down]=[some (.ref d),some (.tup (js.map PV.str)),some (.ref x),some (.int down),none,none,none,none] from rfl]
 refine aj fun N hN=>?_
 walk_at "x"
 refine Hm D (by decide) (by decide) fun r S1 r0 r1 D1 O1=>?_
 have ND:=O1 _ _ hx hxd MV
 refine hN _ _ (aj fun N hN=>?_)
 walk_at "x"
 have a0:Ie [PV.int left] 0=some (.int left):=rfl
 simp only[Tz,TF,ND,a0]
 have lf:wl [.ref d,.tup (js.map PV.str)] S1 Q fK:=Ko D1 hj fun t S2 hl hg D2 O2=>k t S2 left hg (by rw[(Bd.KG hl).1];omega) h0 (by rw[(Bd.KG hl).2];omega) D2 (O2 _ _ ND hxd MV) (O1.x.trans O2.x)
 split
 ·rw[if_pos trivial];exact lf
 split
 ·rw[if_pos trivial];exact lf
 split
 ·exact lf
 rename_i hd hl hf
 refine hN _ _ (aj fun N hN=>?_)
 simp only[bd,aM,ag,v3,c3,lk,qp,dW,TF]
 have Rz:uH [PV.int left].length 0=some 0:=rfl
 split
 ·refine aj fun N2 Lg=>?_
  walk_at "x"
  simp only[ND,a0,Rz]
  refine Lg _ _ ?_
  walk_at "x"
  refine ih (left:=left - 1) (D1.upd hxd MV) aa hxd MV hj (by omega) (by omega) (by omega) (by omega) fun t S2 l2 hg PR q0 q1 D2 QL O2=>?_
  exact k (.HS t) S2 l2 hg (by simp only[Bd.dep];omega) q0 (by simp only[Bd.size];omega) D2 QL (O1.x.trans (Lh.upd.trans O2))
 ·refine hN _ _ (aj fun N hN=>?_)
  walk_at "x"
  simp only[ND,a0,Rz]
  refine hN _ _ (aj fun N hN=>?_)
  walk_at "x"
  refine ih (left:=left - 2) (D1.upd hxd MV) aa hxd MV hj (by omega) (by omega) (by omega) (by omega) fun ta S2 l2 ga da q0 q1 D2 QL O2=>?_
  refine hN _ _ (aj fun N hN=>?_)
  walk_at "x"
  refine ih (left:=l2) D2 QL hxd MV hj q0 (by omega) (by omega) (by omega) fun tb S3 l3 gb db p0 p1 D3 QM O3=>?_
  have OA:Lh d l x S S3:=O1.x.trans (Lh.upd.trans (O2.trans O3))
  refine hN _ _ (aj fun N hN=>?_)
  walk_at "x"
  simp only[TF]
  split
  ·exact k (.Ho ta tb) S3 l3 ⟨ga,gb⟩ (by simp only[Bd.dep];omega) p0 (by simp only[Bd.size];omega) D3 QM OA
  refine hN _ _ (aj fun N hN=>?_)
  walk_at "x"
  simp only[Tz,TF,Ti]
  have ei:Q (Bd.HQ ta tb).pv S3:=k (.HQ ta tb) S3 l3 ⟨ga,gb⟩ (by simp only[Bd.dep];omega) p0 (by simp only[Bd.size];omega) D3 QM OA
  split
  ·rw[if_pos trivial];exact ei
  split
  ·exact ei
  rename_i hz8 hz
  refine hN _ _ (aj fun N hN=>?_)
  walk_at "x"
  refine Hm D3 (by decide) (by decide) fun r2 S4 e0 e1 D4 O4 p hp=>Hm (D4.new hp) (by decide) (by decide) fun r3 S5 b0 b1 D5 O5=>?_
  have dp:=D4.free hp
  have hp3:=O5 _ _ (aa (S:=S4) (o:=.lst [.int 1,.int 1,.int 2,.int (1+r2)])) dp.1 dp.2
  simp only[hp3]
  obtain⟨v,hv,hm⟩:=dX (xs:=[PV.int 1,.int 1,.int 2,.int (1+r2)]) b0 (by simpa using b1)
  rw[hv]
  obtain⟨m,rfl,m0,m1⟩:∃m,v = .int m/\1<=m/\m<=9:=by
   simp only[Th,TJ,Uq]at hm
   rcases hm with rfl|rfl|rfl|rfl
   ·exact⟨1,rfl,by omega,by omega⟩
   ·exact⟨1,rfl,by omega,by omega⟩
   ·exact⟨2,rfl,by omega,by omega⟩
   ·exact⟨1+r2,rfl,by omega,by omega⟩
  refine hN _ _ ?_
  walk_at "x"
  simp only[Ti]
  refine Hm D5 (by omega) (by omega) fun r4 S6 c0 c1 D6 O6=>?_
  obtain⟨w,hw,QK⟩:=dX (xs:=js.map PV.str) c0 (by rw[Ti];exact c1)
  dsimp only
  rw[hw]
  obtain⟨z,hz,rfl⟩:=Ue.mp QK
  have QN:=O4 _ _ QM hxd MV
  have QO:x≠p:=fun e=>by rw[e,hp]at QN;cases QN
  have SG:=O6 _ _ (O5 _ _ (show Hk S4 p _ x=some (.lst [.int l3]) by rw[aD QO];exact QN) hxd MV) hxd MV
  exact k (.Hx z m ta tb) S6 l3 ⟨hz,m0,m1,ga,gb⟩ (by simp only[Bd.dep];omega) p0 (by simp only[Bd.size];omega) D6 SG (OA.trans (O4.x.trans ((Ij.new hp).x.trans (O5.x.trans O6.x))))
end C
local macro_rules | `(tactic| walk_at "w")=>do
 let a:=⟨walkA (walkL++#[`L3.eU,`L3.fy,`L3.GS,`L3.Hd,`L3.He,`L3.C8,`L3.C9,`L3.sG,`L3.C_,`L3.xU,`L3.Dc,`L3.xV,`L3.Dd,`L3.xW,`L3.aN,`String.reduceEq,`decide_true,`decide_false,`Bool.false_bne,`Bool.true_bne,`Bool.not_true,`Bool.not_false,`if_true,`if_false,`Bool.false_eq_true,`reduceIte,`ite_true,`ite_false])⟩
 `(tactic| simp only [$a,*])
local macro_rules | `(tactic| walk_at "y")=>`(tactic| ((try walk_at "x"); (try walk_at "w")))
namespace C
open PySem L2 L3 Wd
noncomputable def Bd.Hv:Bd->Nat
 | .Ho a b=>a.Hv * b.Hv
 | .HQ a b=>a.Hv+b.Hv
 | .Hx _ _ a b=>a.Hv+b.Hv
 |_=>1
noncomputable def Bd.HR:Bd->Nat
 | .HS a=>a.Hv+a.HR
 | .Ho a b=>a.HR+b.HR
 | .HQ a b=>a.HR+b.HR
 | .Hx _ _ a b=>a.HR+b.HR
 |_=>0
theorem Bd.IC:∀t:Bd,t.Hv<=2 ^ t.size
 | .rest=>by simp[Bd.Hv,Bd.size]
 | .pay _ _=>by simp[Bd.Hv,Bd.size]
 | .put _ _=>by simp[Bd.Hv,Bd.size]
 | .use _=>by simp[Bd.Hv,Bd.size]
 | .HS a=>by simp only[Bd.Hv,Bd.size];exact Nat.one_le_two_pow
 | .Ho a b=>by
  simp only[Bd.Hv,Bd.size]
  refine TR (Nat.mul_le_mul a.IC b.IC) ?_
  rw[<-Nat.pow_add]
  exact Vl (by decide) (by omega)
 | .HQ a b=>by
  simp only[Bd.Hv,Bd.size]
  have h1:2 ^ a.size<=2 ^ (a.size+b.size):=Vl (by decide) (by omega)
  have h2:2 ^ b.size<=2 ^ (a.size+b.size):=Vl (by decide) (by omega)
  have:=a.IC
  have:=b.IC
  rw[Nat.pow_succ]
  omega
 | .Hx _ _ a b=>by
  simp only[Bd.Hv,Bd.size]
  have h1:2 ^ a.size<=2 ^ (a.size+b.size):=Vl (by decide) (by omega)
  have h2:2 ^ b.size<=2 ^ (a.size+b.size):=Vl (by decide) (by omega)
  have:=a.IC
  have:=b.IC
  rw[Nat.pow_succ]
  omega
def Bd.MM{t:Bd}(h:t.size<=60):(t.Hv:Int) < 2 ^ 64:=by
 have h1:=t.IC
 have h2:2 ^ t.size<=2 ^ 60:=Vl (by decide) h
 omega
abbrev df(n:Nat)(w:au):Prop:=∀{S:az} {t:Bd} {Q:bn} {E:bJ},t.dep<=n->t.size<=60->Q (.int t.Hv) S->w [t.pv] S Q E
def vp{s0:au}(n:Nat)(ih:df n s0):df (n+1) (aR 1 (cM s0)):=by
 intro S t Q E hd hs k
 unfold cM
 refine cJ ?_
 rw[show ap 1 [t.pv]=[some t.pv] from rfl]
 cases t with
 |Ho a b=>
  simp only[Bd.dep,Bd.size]at hd hs
  simp only[Bd.pv]
  walk_at "w"
  refine ih (by omega) (by omega) (ih (by omega) (by omega) ⟨Am (by omega) (Bd.MM (by omega)),?_⟩)
  simpa [Bd.Hv]using k
 |HQ a b=>
  simp only[Bd.dep,Bd.size]at hd hs
  simp only[Bd.pv]
  walk_at "w"
  refine ih (by omega) (by omega) (ih (by omega) (by omega) ?_)
  simpa [Bd.Hv]using k
 |Hx z m a b=>
  simp only[Bd.dep,Bd.size]at hd hs
  simp only[Bd.pv]
  walk_at "w"
  refine ih (by omega) (by omega) (ih (by omega) (by omega) ?_)
  simpa [Bd.Hv]using k
 |_=>
  simp only[Bd.pv]
  walk_at "w"
  exact k
abbrev fT(n:Nat)(w:au):Prop:=∀{S:az} {t:Bd} {Q:bn} {E:bJ},t.dep<=n->t.size<=60->Q (.int t.HR) S->w [t.pv] S Q E
def j8:∀y∈(["then","either","take"]:Vs),PyData.strOk y=true:=by decide +kernel
def j9:∀y∈(["rest","pay","put","use","often","then","either","take"]:Vs),PyData.strOk y=true:=by decide +kernel
def vq{x0 s0:au}(n m:Nat)(hp:df m x0)(ih:fT n s0)(hnm:n<=m):fT (n+1) (aR 1 (cx x0 s0)):=by
 intro S t Q E hd hs k
 unfold cx
 refine cJ ?_
 rw[show ap 1 [t.pv]=[some t.pv] from rfl]
 have e3:[PV.str "then",PV.str "either",PV.str "take"]=(["then","either","take"]:Vs).map PV.str:=rfl
 cases t with
 |HS a=>
  simp only[Bd.dep,Bd.size]at hd hs
  simp only[Bd.pv]
  walk_at "y"
  refine hp (by omega) (by omega) (ih (by omega) (by omega) ?_)
  simpa [Bd.HR]using k
 |Ho a b=>
  simp only[Bd.dep,Bd.size]at hd hs
  simp only[Bd.pv]
  walk_at "y"
  rw[e3]
  refine bF (j9 _ (by simp)) j8 ?_
  simp[aN]
  refine ih (by omega) (by omega) (ih (by omega) (by omega) ?_)
  simpa [Bd.HR]using k
 |HQ a b=>
  simp only[Bd.dep,Bd.size]at hd hs
  simp only[Bd.pv]
  walk_at "y"
  rw[e3]
  refine bF (j9 _ (by simp)) j8 ?_
  simp[aN]
  refine ih (by omega) (by omega) (ih (by omega) (by omega) ?_)
  simpa [Bd.HR]using k
 |Hx z m a b=>
  simp only[Bd.dep,Bd.size]at hd hs
  simp only[Bd.pv]
  walk_at "y"
  rw[e3]
  refine bF (j9 _ (by simp)) j8 ?_
  simp[aN]
  refine ih (by omega) (by omega) (ih (by omega) (by omega) ?_)
  simpa [Bd.HR]using k
 |_=>
  simp only[Bd.pv]
  walk_at "y"
  rw[e3]
  refine bF (j9 _ (by simp)) j8 ?_
  simp[aN]
  simpa [Bd.HR]using k
abbrev fU(w:au):Prop:=∀{S:az} {d l:Addr} {js:Vs} {size bound:Int} {Q:bn} {E:bJ},Hu S d l->js.length < 2 ^ 61->1<=size->size<=60->
  (∀(t:Bd) S',t.good js []->t.dep<=6->t.size<=60->(t.size:Int)<=max size 4->((t.Hv:Int)+t.HR<=bound\/(t.Hv:Int)+t.HR<=2)->Hu S' d l->Ij d l S S'->Q t.pv S')->w [.ref d,.tup (js.map PV.str),.int size,.int bound] S Q E
def pF{x0 x1 x2 x3:au}(n:Nat)(hn:6<=n)(LP:j7 n x0)(O_:df n x1)(M4:fT n x2)(Ko:j6 x3):fU (aR 5 (c_ x0 x1 x2 x3)):=by
 intro S d l js size bound Q E D hj h1 h2 k
 unfold c_
 refine cJ ?_
 rw[show ap 5 [PV.ref d,PV.tup (js.map PV.str),PV.int size,PV.int bound]=[some (.ref d),some (.tup (js.map PV.str)),some (.int size),some (.int bound),none] from rfl]
 refine aj fun N hN=>?_
 walk_at "x"
 intro p hp
 have dp:=D.free hp
 refine LP (D.new hp) aa dp.1 dp.2 hj (by omega) (by omega) (by decide) (by omega) fun t S1 l1 hg hd q0 q1 D1 ND O1=>?_
 have RA:Ij d l S S1:=fun a o ha h1 h2=>O1 a o (by rw[aD (fun e=>by rw[e,hp]at ha;cases ha)];exact ha) h1 h2 (fun e=>by rw[e,hp]at ha;cases ha)
 refine hN _ _ (aj fun N hN=>?_)
 simp only[bd,aM,ag,ab,ak,v3,lk,List.set_cons_zero,List.set_cons_succ,xA,aK,dW]
 refine O_ (by omega) (by omega) (M4 (by omega) (by omega) ?_)
 simp only[TF]
 split
 ·walk_at "x"
  refine Ko D1 hj fun t2 S2 hl2 Ny D2 O2=>Ko D2 hj fun t3 S3 hl3 SH D3 O3=>?_
  refine hN _ _ ?_
  walk_at "x"
  have e2:=Bd.KG hl2
  have e3:=Bd.KG hl3
  refine k (.Ho (.HS t2) t3) S3 ⟨Ny,SH⟩ (by simp only[Bd.dep];omega) (by simp only[Bd.size];omega) (by simp only[Bd.size];omega) (.inr ?_) D3 (RA.trans (O2.trans O3))
  have c2:t2.Hv=1/\t2.HR=0:=by cases t2<;>first|exact⟨rfl,rfl⟩|exact hl2.elim
  have c3:t3.Hv=1/\t3.HR=0:=by cases t3<;>first|exact⟨rfl,rfl⟩|exact hl3.elim
  simp only[Bd.Hv,Bd.HR,c2,c3]
  decide
 ·rename_i hb
  walk_at "x"
  refine hN _ _ ?_
  walk_at "x"
  exact k t S1 hg (by omega) (by omega) (by omega) (.inl (by omega)) D1 RA
noncomputable def iM(p:Str×Bd):PV:=.tup [.str p.1,p.2.pv]
noncomputable def cU(js:Vs)(ds:List (Str×Bd)):PV:=.tup [.tup (js.map PV.str),.tup (ds.map iM)]
structure E6 (js:Vs) (us:Vs) (ds:List (Str×Bd)):Prop where
 jl:js.length<=16
 dl:ds.length<=16
 jw:∀z∈js,Mc z
 uw:∀z∈us,Mc z
 dw:∀p∈ds,Mc p.1
 gd:∀p∈ds,p.2.good js us
 dp:∀p∈ds,p.2.dep<=60
 sz:∀p∈ds,p.2.size<=60
def Hu.ext{S S':az}{d l:Addr}(D:Hu S d l)(e:Ext S S'):Hu S' d l:=by
 obtain⟨s,n,f,D⟩:=D
 exact⟨s,n,f,e _ _ D.d,e _ _ D.l,D.s0,D.s1,D.nm,D.lf,D.ln⟩
def _root_.L3.Ext.put{p:Addr}{S S':az}{o:SO}(O:Ext S S')(h:S p=none):Ext S (Hk S' p o):=fun x u hx=>by rw[aD (fun e=>by rw[e,h]at hx;cases hx)];exact O x u hx
def sI{α:Type}{xs:List α}{n:Nat}(h:n<=xs.length):b9 xs none (some (n:Int))=xs.take n:=by
 unfold b9
 rw[HT.jR,HT.oK,List.drop_zero,Nat.min_eq_left h]
 rfl
def pG{x:PV}{n:Nat}{a b:List PV}(e:bR 0 n=a++x::b):x = .int a.length/\a.length < n:=by
 have h1:(bR 0 n)[a.length]?=some x:=by rw[e];simp
 unfold bR at h1
 rw[Tv]at h1
 have hl:a.length < n:=by
  have:=Uu List.length e
  rw[dD,Te,TL]at this
  omega
 rw[Xm hl]at h1
 simp at h1
 exact⟨h1.symm,hl⟩
def Df{α:Type}{xs:List α}{n:Nat}{v:α}(h:xs[n]?=some v):Ie xs (n:Int)=some v:=bC h
noncomputable def Bd.sides:Bd->List Bd
 | .HS a=>[a]
 | .Ho a b=>[a,b]
 | .HQ a b=>[a,b]
 | .Hx _ _ a b=>[a,b]
 |_=>[]
noncomputable def Bd.parts:Bd->List Bd
 | .HS a=>.HS a::a.parts
 | .Ho a b=>.Ho a b::(a.parts++b.parts)
 | .HQ a b=>.HQ a b::(a.parts++b.parts)
 | .Hx z m a b=>.Hx z m a b::(a.parts++b.parts)
 |t=>[t]
def Bd.Mi(t:Bd):t.parts=t::t.sides.flatMap Bd.parts:=by cases t<;>simp[Bd.parts,Bd.sides]
theorem Bd.HE:∀t:Bd,t.parts.length=t.size
 | .rest=>rfl
 | .pay _ _=>rfl
 | .put _ _=>rfl
 | .use _=>rfl
 | .HS a=>by simp only[Bd.parts,Bd.size,List.length_cons,a.HE]
 | .Ho a b=>by simp only[Bd.parts,Bd.size,List.length_cons,Te,a.HE,b.HE]
 | .HQ a b=>by simp only[Bd.parts,Bd.size,List.length_cons,Te,a.HE,b.HE]
 | .Hx _ _ a b=>by simp only[Bd.parts,Bd.size,List.length_cons,Te,a.HE,b.HE]
def Bd.Mj{t u:Bd}(h:u∈t.sides):u.dep < t.dep/\u.size < t.size:=by
 cases t<;>simp[Bd.sides]at h
 ·subst h;simp[Bd.dep,Bd.size]
 all_goals (rcases h with rfl|rfl<;>simp only[Bd.dep,Bd.size]<;>omega)
abbrev iO(w:au):Prop:=∀{S:az} {t:Bd} {Q:bn} {E:bJ},Q (.tup (t.sides.map Bd.pv)) S->w [t.pv] S Q E
def J9:iO (aR 1 jC):=by
 intro S t Q E k
 unfold jC
 refine cJ ?_
 rw[show ap 1 [t.pv]=[some t.pv] from rfl]
 cases t<;>(unfold Bd.pv;walk_at "y"; simp only[tT,ag,v3,lk,c3,af,eU,i5,al,ak,bA,k_SIDES_FROM,List.find?,sS,String.reduceEq,V4,W5,Option.map,Option.getD];exact k)
abbrev dE(n:Nat)(w:au):Prop:=∀{S:az} {t:Bd} {Q:bn} {E:bJ},t.dep<=n->t.size<=900->(∀p S',S p=none->Ext S S'->S' p=some (.lst (t.parts.map Bd.pv))->Q (.ref p) S')->w [t.pv] S Q E
def J_{xs s0:au}(J9:iO xs)(n:Nat)(ih:dE n s0):dE (n+1) (aR 3 (jD xs s0)):=by
 intro S t Q E hd hs k
 unfold jD
 refine cJ ?_
 rw[show ap 3 [t.pv]=[some t.pv,none,none] from rfl]
 refine aj fun N hN=>?_
 walk_at "x"
 intro p hp
 have X0:Ext S (Hk S p (.lst [t.pv])):=.new hp
 have hp0:(Hk S p (.lst [t.pv])) p=some (.lst [t.pv]):=aa
 generalize Hk S p (.lst [t.pv])=S0 at X0 hp0
 refine hN _ _ (aj fun N hN=>?_)
 simp only[b_,aF,ab,ak,v3,lk]
 refine J9 ?_
 simp only[bu]
 refine bP (fun done σ S'=>∃(ts:List Bd) (x:Option PV) (rs:List Bd),done=ts.map Bd.pv/\t.sides=ts++rs/\σ=[some t.pv,some (.ref p),x]/\Ext S S'/\S' p=some (.lst ((t::ts.flatMap Bd.parts).map Bd.pv))) ⟨[],_,t.sides,rfl,rfl,rfl,X0,hp0⟩ (fun _ _ _ _=>trivial) ?_ ?_
 ·rintro done x rest σ S1 K e ⟨ts,y,rs,rfl,es,rfl,X1,h1⟩ hK
  rw[es,Uh]at e
  have e2:=List.append_cancel_left e
  rcases rs with _|⟨r,rs⟩
  ·cases e2
  rw[TQ,WC]at e2
  obtain⟨rfl,e3⟩:=e2
  have hr:r∈t.sides:=by rw[es];simp
  have hrd:=Bd.Mj hr
  walk_at "x"
  refine⟨by rw[h1];trivial,ih (t:=r) (by omega) (by omega) fun q S2 hq X2 h2=>?_⟩
  simp only[X2 _ _ h1,h2]
  have hlen:(t::ts.flatMap Bd.parts).length+r.parts.length<=t.size:=by
   rw[<-Bd.HE t,Bd.Mi t,es,VB,List.flatMap_cons]
   simp only[List.length_cons,Te]
   omega
  refine⟨bg (by simp only[Ti]at *;omega),?_⟩
  refine hK _ _ ⟨ts++[r],_,rs,by simp,by rw[es];simp,rfl,(X1.trans X2).put hp,?_⟩
  rw[aa,VB]
  simp
 ·rintro σ S1 ⟨ts,y,rs,e,es,rfl,X1,h1⟩
  refine hN _ _ ?_
  walk_at "x"
  have ez:rs=[]:=by
   have:=Uu List.length e
   rw[es]at this
   simp at this
   exact this
  subst ez
  rw[TY]at es
  rw[<-es,<-Bd.Mi]at h1
  exact k p S1 hp X1 h1
noncomputable def heads:List Str:=["rest","pay","put","use","often","then","either","take"]
def vt:∀z∈heads,PyData.strOk z=true:=by decide +kernel
structure Kq (n:Nat) (js us:Vs) (ds:List (Str×Bd)):Prop extends E6 js us ds where
 jn:js.Nodup
 dn:(ds.map Prod.fst).Nodup
 dq:∀p∈ds,p.2.dep<=n
def mR{xs:List PV}{x:PV}{a b:List PV}(e:L3.bc xs=a++x::b):∃y,x = .tup [.int a.length,y]/\xs[a.length]?=some y:=by
 have h1:(L3.bc xs)[a.length]?=some x:=by rw[e];simp
 unfold L3.bc at h1
 rw[Wj]at h1
 cases h:xs[a.length]? with
 |none=>rw[h]at h1;cases h1
 |some y=>
  rw[h]at h1
  simp only[Option.map_some,Vn]at h1
  exact⟨y,h1.symm,rfl⟩
def Ao{α:Type}{a b c:α}:b9 [a,b,c] none (some (-2))=[a]:=rfl
def Ap{α:Type}{a b c d e:α}:b9 [a,b,c,d,e] none (some (-2))=[a,b,c]:=rfl
noncomputable def Bd.hd:Bd->Str
 | .rest=>"rest" | .pay _ _=>"pay" | .put _ _=>"put" | .use _=>"use" | .HS _=>"often" | .Ho _ _=>"then" | .HQ _ _=>"either" | .Hx _ _ _ _=>"take"
noncomputable def Bd.tl:Bd->List PV
 | .rest=>[] | .pay x y=>[.tup [.int x,.int y]] | .put z m=>[.str z,.int m] | .use z=>[.str z] | .HS a=>[a.pv] | .Ho a b=>[a.pv,b.pv] | .HQ a b=>[a.pv,b.pv] | .Hx z m a b=>[.str z,.int m,a.pv,b.pv]
def Bd.K7(t:Bd):t.pv = .tup (.str t.hd::t.tl):=by cases t<;>rfl
def Bd.Li(t:Bd):PyData.strOk t.hd=true:=by cases t<;>exact vt _ (by simp[heads,Bd.hd])
def Bd.Oj(t:Bd):t.hd=("then":Str)↔∃a b,t = .Ho a b:=by cases t<;>simp[Bd.hd,aN]
def Bd.M5(t:Bd):t.hd=("often":Str)↔∃a,t = .HS a:=by cases t<;>simp[Bd.hd,aN]
def pH:([PV.str "then",PV.str "either",PV.str "take"]:List PV)=(["then","either","take"]:Vs).map PV.str:=rfl
theorem kX:∀bs:List Bool,ly (bs.map PV.bl)=some bs
 |[]=>rfl
 |b::bs=>by rw[TQ];unfold ly;rw[kX bs];rfl
def tZ{a b:PV}{hd:List PV}{i:Int}(hi:i=0\/i=1):Ie (hd++[a,b]) (i - 2)=some (if i=0 then a else b):=by
 unfold Ie uH
 rcases hi with rfl|rfl
 ·rw[if_neg (by omega),if_pos (by simp;omega)]
  have:(0 - 2+((hd++[a,b]).length:Int)).toNat=hd.length:=by simp;omega
  rw[this,if_pos rfl]
  show(hd++[a,b])[hd.length]?=some a
  simp
 ·rw[if_neg (by omega),if_pos (by simp;omega)]
  have:(1 - 2+((hd++[a,b]).length:Int)).toNat=hd.length+1:=by simp;omega
  rw[this,if_neg (by decide)]
  show(hd++[a,b])[hd.length+1]?=some b
  simp
abbrev jK(w:au):Prop:=∀{S:az} {d l:Addr} {most many size:Nat} {Q:bn} {E:bJ},Hu S d l->most<=8->1<=many->many<=4->1<=size->size<=60->
  (∀js ds S',Kq 6 js [] ds->1<=ds.length->ds.length<=many->js.length<=8->Hu S' d l->Ij d l S S'->Q (cU js ds) S')->w [.ref d,.int most,.int many,.int size] S Q E
def vv{xw xd xb:au}(Lf:kW xw)(Hm:bH xd)(Pa:fU xb):jK (aR 9 (fP xw xd xb)):=by
 intro S0 d l most many size Q E D0 hmo hm1 hm4 hs1 hs2 k
 unfold fP
 refine cJ ?_
 rw[show ap 9 [PV.ref d,PV.int most,PV.int many,PV.int size]=[some (.ref d),some (.int most),some (.int many),some (.int size),none,none,none,none,none] from rfl]
 refine aj fun N hN=>?_
 walk_at "x"
 refine Lf D0 (by decide) (by decide) fun p ns S hl hnd hw0 _ OF hpl hp D O0=>?_
 have hl8':ns.length=8:=hl
 have hl8:8<=ns.length:=by omega
 have RB:ns.length<=100:=by omega
 have hw:∀z∈ns,Mc z:=fun z hz=>(hw0 z hz).1
 refine hN _ _ ?_
 refine aj fun N hN=>?_
 walk_at "x"
 refine Hm (m:=most+1) D (by omega) (by omega) fun r S1 r0 r1 D1 O1=>?_
 obtain⟨j,rfl⟩:∃j:Nat,r=(j:Int):=⟨r.toNat,by omega⟩
 have hp1:=O1 _ _ hp OF hpl
 rw[hp1]
 dsimp only
 rw[sI (by rw[Ti];omega),<-List.map_take]
 intro p2 hp2
 rw[aa]
 dsimp only
 have D2:Hu (Hk S1 p2 (.lst ((ns.take j).map PV.str))) d l:=D1.new hp2
 have O2:Ij d l S (Hk S1 p2 (.lst ((ns.take j).map PV.str))):=O1.trans (.new hp2)
 have hp2':=Ij.new (o:=.lst ((ns.take j).map PV.str)) hp2 _ _ hp1 OF hpl
 generalize Hk S1 p2 (.lst ((ns.take j).map PV.str))=S2 at D2 O2 hp2'
 refine hN _ _ (aj fun N hN=>?_)
 walk_at "x"
 intro p3 hp3
 have RC:=D2.free hp3
 refine Hm (D2.new hp3) (by decide) (by decide) fun f S3 f0 f1 D3 O3=>?_
 have e3:=O3 _ _ (aa (S:=S2) (o:=.lst [.int 0,.int 4])) RC.1 RC.2
 have QP:=O3 _ _ (Ij.new hp3 _ _ hp2' OF hpl) OF hpl
 have SI:Ij d l S S3:=O2.trans ((Ij.new hp3).trans O3)
 simp only[e3]
 obtain⟨v,hv,MN⟩:=dX (xs:=[PV.int 0,.int 4]) f0 (by simpa using f1)
 rw[hv]
 obtain⟨g,rfl,hg⟩:∃g:Nat,v = .int g/\g<=4:=by
  simp only[Th,TJ,Uq]at MN
  rcases MN with rfl|rfl
  ·exact⟨0,rfl,by omega⟩
  ·exact⟨4,rfl,by omega⟩
 refine hN _ _ (aj fun N hN=>?_)
 walk_at "x"
 refine Hm (m:=many) D3 (by omega) (by omega) fun r4 S4 a0 a1 D4 O4=>?_
 obtain⟨mm,em⟩:∃mm:Nat,1+r4=(mm:Int):=⟨(1+r4).toNat,by omega⟩
 dsimp only
 rw[em]
 have Lv:=O4 _ _ QP OF hpl
 refine hN _ _ (aj fun N hN=>?_)
 walk_at "x"
 refine⟨by omega,by omega,?_⟩
 rw[Xz]
 have hjl:(ns.take j).length<=8:=by rw[VE];omega
 refine ik (fun done ys S'=>∃ds:List (Str×Bd),ys=ds.map iM/\ds.length=done.length/\ds.map Prod.fst=(ns.drop g).take done.length/\done.length<=mm/\(∀q∈ds,q.2.good (ns.take j) []/\q.2.dep<=6/\q.2.size<=60)/\Hu S' d l/\Ij d l S4 S') ⟨[],rfl,rfl,rfl,Ug _,by simp,D4,.refl⟩ ?_ ?_ ?_
 ·rintro done ys S' ⟨ds,rfl,e,_,hd,_⟩
  exact⟨trivial,bg (by rw[Ti,e];omega)⟩
 ·rintro done x rest ys S' K e ⟨ds,rfl,e2,e3,hd,hc,D',O'⟩ hK
  obtain⟨rfl,hi⟩:=pG e
  walk_at "x"
  try simp only[bx,Ua]
  have hp':=O' _ _ Lv OF hpl
  simp only[hp']
  have hlt:g+done.length < ns.length:=by omega
  have hat:Ie (ns.map PV.str) ((g:Int)+(done.length:Int))=some (.str ns[g+done.length]):=by
   have:((g:Int)+(done.length:Int))=((g+done.length:Nat):Int):=by omega
   rw[this]
   exact Df (by rw[Tv,Tp hlt];rfl)
  rw[hat]
  dsimp only
  refine⟨E5 (by omega) (by omega),Pa D' (by omega) (by omega) (by omega) fun t S5 tg td tz tz2 _ D5 SJ=>?_⟩
  refine hK _ _ ⟨ds++[(ns[g+done.length],t)],by simp[iM],by simp[e2],?_,by rw[Te];exact hi,fun y hy=>?_,D5,O'.trans SJ⟩
  ·rw[Uh,e3,Te,TH,V2,Xr,Tp hlt]
   rfl
  ·rcases Tj.mp hy with hy|hy
   ·exact hc y hy
   ·rw[Tt.mp hy];exact⟨tg,td,tz⟩
 rintro ys S5 ⟨ds,rfl,e,ef,_,hds,D5,O5⟩
 rw[dD]at e ef
 intro p6 M6
 refine hN _ _ ?_
 walk_at "x"
 rw[aa]
 dsimp only
 have sub:∀q∈ds,q.1∈ns:=fun q hq=>by
  have:q.1∈ds.map Prod.fst:=Ue.mpr ⟨q,hq,rfl⟩
  rw[ef]at this
  exact Wi (VT this)
 refine k (ns.take j) ds _ ⟨⟨by omega,by omega,fun z hz=>hw z (VT hz),by simp,fun q hq=>hw _ (sub q hq),fun q hq=>(hds q hq).1,fun q hq=>by have:=(hds q hq).2.1;omega,fun q hq=>(hds q hq).2.2⟩,hnd.sublist (WT _ _),by rw[ef];exact hnd.sublist ((WT _ _).trans (List.drop_sublist _ _)),fun q hq=>(hds q hq).2.1⟩ (by omega) (by omega) hjl (D5.new M6) (O0.trans (SI.trans (O4.trans (O5.trans (.new M6)))))
noncomputable def Bd.IL:Bd->Bool
 | .rest=>false
 | .Ho _ _=>false
 |_=>true
noncomputable def Bd.rows:Bd->Nat
 | .rest=>0
 | .HS a=>a.rows+1
 | .Ho a b=>a.rows+b.rows
 | .HQ a b=>a.rows+b.rows+1
 | .Hx _ _ a b=>a.rows+b.rows+1
 |_=>1
theorem Bd.HA:∀t:Bd,(t.parts.filter Bd.IL).length=t.rows
 | .rest=>rfl
 | .pay _ _=>rfl
 | .put _ _=>rfl
 | .use _=>rfl
 | .HS a=>by simp only[Bd.parts,Bd.rows];rw[T3 rfl,TL,a.HA]
 | .Ho a b=>by simp only[Bd.parts,Bd.rows];rw[UJ (by simp[Bd.IL]),Ux,Te,a.HA,b.HA]
 | .HQ a b=>by simp only[Bd.parts,Bd.rows];rw[T3 rfl,TL,Ux,Te,a.HA,b.HA]
 | .Hx _ _ a b=>by simp only[Bd.parts,Bd.rows];rw[T3 rfl,TL,Ux,Te,a.HA,b.HA]
def Bd.Hq(t:Bd):t.rows<=t.size:=by
 rw[<-t.HA,<-t.HE];exact Vg _ _
noncomputable def Bd.beg(t:Bd)(first behind:Int):Int:=if t.rows=0 then behind else first
noncomputable def Bd.rowsOf:Bd->Int->Int->List PV
 | .rest,_,_=>[]
 | .pay x y,_,n=>[.tup [.str "pay",.tup [.int x,.int y],.int n]]
 | .put z m,_,n=>[.tup [.str "put",.str z,.int m,.int n]]
 | .use z,_,n=>[.tup [.str "use",.str z,.int n]]
 | .HS a,f,n=>.tup [.str "often",.int (a.beg (f+1) f),.int n]::a.rowsOf (f+1) f
 | .Ho a b,f,n=>a.rowsOf f (b.beg (f+a.rows) n)++b.rowsOf (f+a.rows) n
 | .HQ a b,f,n=>.tup [.str "either",.int (a.beg (f+1) n),.int (b.beg (f+1+a.rows) n)]::(a.rowsOf (f+1) n++b.rowsOf (f+1+a.rows) n)
 | .Hx z m a b,f,n=>.tup [.str "take",.str z,.int m,.int (a.beg (f+1) n),.int (b.beg (f+1+a.rows) n)]::(a.rowsOf (f+1) n++b.rowsOf (f+1+a.rows) n)
theorem Bd.Hl:∀(t:Bd) (f n:Int),(t.rowsOf f n).length=t.rows
 | .rest,_,_=>rfl
 | .pay _ _,_,_=>rfl
 | .put _ _,_,_=>rfl
 | .use _,_,_=>rfl
 | .HS a,f,n=>by simp only[Bd.rowsOf,Bd.rows,List.length_cons];rw[a.Hl]
 | .Ho a b,f,n=>by simp only[Bd.rowsOf,Bd.rows,Te];rw[a.Hl,b.Hl]
 | .HQ a b,f,n=>by simp only[Bd.rowsOf,Bd.rows,Te,List.length_cons];rw[a.Hl,b.Hl]
 | .Hx _ _ a b,f,n=>by simp only[Bd.rowsOf,Bd.rows,Te,List.length_cons];rw[a.Hl,b.Hl]
noncomputable def Bd.Hr(t:Bd):List PV:=t.rowsOf 0 t.rows++[.tup [.str "end"]]
abbrev fV(w:au):Prop:=∀{S:az} {t:Bd} {Q:bn} {E:bJ},Q (.bl t.IL) S->w [t.pv] S Q E
def E7:∀z∈(["rest","then"]:Vs),PyData.strOk z=true:=by decide +kernel
def E8:∀z∈(["either","take"]:Vs),PyData.strOk z=true:=by decide +kernel
def Bd.MO(t:Bd):(true != decide (t.hd∈(["rest","then"]:Vs)))=t.IL:=by cases t<;>simp[Bd.hd,aN,Bd.IL]
def KR:fV (aR 1 kL):=by
 intro S t Q E k
 unfold kL
 refine cJ ?_
 rw[show ap 1 [t.pv]=[some t.pv] from rfl,Bd.K7]
 simp only[ar,ag,v3,lk,c3,af,eU,aC,ak]
 rw[show([PV.str "rest",PV.str "then"]:List PV)=(["rest","then"]:Vs).map PV.str from rfl]
 refine bF (Bd.Li t) E7 ?_
 rw[Bd.MO]
 exact k
abbrev dg(n:Nat)(w:au):Prop:=∀{S:az} {t:Bd} {Q:bn} {E:bJ},t.dep<=n->t.size<=900->(∀S',Ext S S'->Q (.int t.rows) S')->w [t.pv] S Q E
def vx{xp xh:au}(n:Nat)(J_:dE n xp)(KR:fV xh):dg n (aR 1 (kM xp xh)):=by
 intro S t Q E hd hs k
 unfold kM
 refine cJ ?_
 rw[show ap 1 [t.pv]=[some t.pv] from rfl]
 walk_at "x"
 refine J_ hd hs fun p S1 hp X1 h1=>?_
 simp only[h1]
 refine ik (fun done ys S'=>∃(ts rs:List Bd),done=ts.map Bd.pv/\t.parts=ts++rs/\ys=(ts.filter Bd.IL).map Bd.pv/\Ext S S'/\S' p=some (.lst (t.parts.map Bd.pv))) ⟨[],t.parts,rfl,rfl,rfl,X1,h1⟩ ?_ ?_ ?_
 ·rintro done ys S' ⟨ts,rs,rfl,e,rfl,X,h⟩
  refine⟨h,bg ?_⟩
  rw[Ti]
  have a:=Vg Bd.IL ts
  have b:=Uu List.length e
  rw[t.HE,Te]at b
  omega
 ·rintro done x rest ys S' K e ⟨ts,rs,rfl,es,rfl,X,h⟩ hK
  rw[es,Uh]at e
  have e2:=List.append_cancel_left e
  rcases rs with _|⟨r,rs⟩
  ·cases e2
  rw[TQ,WC]at e2
  obtain⟨rfl,e3⟩:=e2
  walk_at "x"
  refine KR ?_
  cases hr:r.IL with
  |true=>
   simp only[Ua]
   exact hK _ _ ⟨ts++[r],rs,by simp,by rw[es];simp,by rw[Ux,T3 hr];simp,X,h⟩
  |false=>
   simp only[Tu,Ub]
   exact hK _ _ ⟨ts++[r],rs,by simp,by rw[es];simp,by rw[Ux,UJ (by rw[hr];decide)];simp,X,h⟩
 rintro ys S' ⟨ts,rs,e,es,rfl,X,h⟩
 intro q hq
 rw[aa]
 have ez:rs=[]:=by
  have:=Uu List.length e
  rw[es]at this
  simp at this
  exact this
 subst ez
 rw[TY]at es
 dsimp only
 rw[<-es,Ti,t.HA]
 exact k _ (X.trans (.new hq))
abbrev j_(n:Nat)(w:au):Prop:=∀{S:az} {t:Bd} {f b:Int} {Q:bn} {E:bJ},t.dep<=n->t.size<=900->(∀S',Ext S S'->Q (.int (t.beg f b)) S')->w [t.pv,.int f,.int b] S Q E
def xY{xr:au}(n:Nat)(Mk:dg n xr):j_ n (aR 3 (pe xr)):=by
 intro S t f b Q E hd hs k
 unfold pe
 refine cJ ?_
 rw[show ap 3 [t.pv,PV.int f,PV.int b]=[some t.pv,some (.int f),some (.int b)] from rfl]
 walk_at "x"
 refine Mk hd hs fun S' X=>?_
 have:=k S' X
 unfold Bd.beg at this
 simp only[Tz,TF]
 by_cases h0:t.rows=0
 ·rw[if_pos (by omega)]
  rw[if_pos h0]at this
  exact this
 ·rw[if_neg (by omega)]
  rw[if_neg h0]at this
  exact this
abbrev dh(n:Nat)(w:au):Prop:=∀{S:az} {t:Bd} {f b:Int} {Q:bn} {E:bJ},t.dep<=n->t.size<=400->(∀S',Ext S S'->Q (.tup (t.rowsOf f b)) S')->w [t.pv,.int f,.int b] S Q E
abbrev kY(n:Nat)(w:au):Prop:=∀{S:az} {t u:Bd} {f b:Int} {Q:bn} {E:bJ},t.dep<=n->u.dep<=n->(Bd.Ho t u).size<=400->(∀S',Ext S S'->Q (.tup ((Bd.Ho t u).rowsOf f b)) S')->w [(Bd.Ho t u).pv,.int f,.int b] S Q E
abbrev mS(n:Nat)(w:au):Prop:=∀{S:az} {t:Bd} {f b:Int} {Q:bn} {E:bJ},t.dep<=n->(Bd.HS t).size<=400->(∀S',Ext S S'->Q (.tup ((Bd.HS t).rowsOf f b)) S')->w [(Bd.HS t).pv,.int f,.int b] S Q E
abbrev pI(n:Nat)(w:au):Prop:=∀{S:az} {t:Bd} {f b:Int} {Q:bn} {E:bJ},t.dep<=n+1->t.hd∈(["either","take"]:Vs)->t.size<=400->(∀S',Ext S S'->Q (.tup (t.rowsOf f b)) S')->w [t.pv,.int f,.int b] S Q E
def xZ{xr xb s0 s1 s2 s3:au}(n m:Nat)(hm:n<=m)(Mk:dg m xr)(Ml:j_ m xb)(ih:dh n s3):kY n (aR 5 (cO xr xb s0 s1 s2 s3)):=by
 intro S t u f b Q E ht hu hs k
 unfold cO
 refine cJ ?_
 simp only[Bd.size]at hs
 rw[show ap 5 [(Bd.Ho t u).pv,PV.int f,PV.int b]=[some (.tup [.str "then",t.pv,u.pv]),some (.int f),some (.int b),none,none] from rfl]
 refine aj fun N hN=>?_
 walk_at "y"
 refine Mk (by omega) (by omega) fun S1 X1=>?_
 refine hN _ _ (aj fun N hN=>?_)
 walk_at "y"
 refine Ml (by omega) (by omega) fun S2 X2=>?_
 refine hN _ _ ?_
 walk_at "y"
 refine ih ht (by omega) fun S3 X3=>?_
 refine ih hu (by omega) fun S4 X4=>?_
 have a:=t.Hq
 have c:=u.Hq
 refine⟨bg (by rw[Bd.Hl,Bd.Hl];omega),?_⟩
 exact k S4 (X1.trans (X2.trans (X3.trans X4)))
def Aq{xb s0 s1 s2 s3:au}(n m:Nat)(hm:n<=m)(Ml:j_ m xb)(ih:dh n s3):mS n (aR 4 (cp xb s0 s1 s2 s3)):=by
 intro S t f b Q E ht hs k
 unfold cp
 refine cJ ?_
 simp only[Bd.size]at hs
 rw[show ap 4 [(Bd.HS t).pv,PV.int f,PV.int b]=[some (.tup [.str "often",t.pv]),some (.int f),some (.int b),none] from rfl]
 refine aj fun N hN=>?_
 walk_at "y"
 refine Ml (by omega) (by omega) fun S1 X1=>?_
 refine hN _ _ ?_
 walk_at "y"
 refine ih ht (by omega) fun S3 X3=>?_
 have a:=t.Hq
 refine⟨bg (by rw[Bd.Hl];simp;omega),?_⟩
 exact k S3 (X1.trans X3)
def Dg{xr xb s0 s1 s2 s3:au}(n m:Nat)(hm:n<=m)(Mk:dg m xr)(Ml:j_ m xb)(ih:dh n s3):pI n (aR 7 (cb xr xb s0 s1 s2 s3)):=by
 intro S t f b Q E hd hh hs k
 unfold cb
 refine cJ ?_
 cases t with
 |HQ t u=>
  simp only[Bd.size]at hs
  simp only[Bd.dep]at hd
  rw[show ap 7 [(Bd.HQ t u).pv,PV.int f,PV.int b]=[some (.tup [.str "either",t.pv,u.pv]),some (.int f),some (.int b),none,none,none,none] from rfl]
  refine aj fun N hN=>?_
  walk_at "y"
  refine hN _ _ (aj fun N hN=>?_)
  walk_at "y"
  refine hN _ _ (aj fun N hN=>?_)
  walk_at "y"
  refine Mk (by omega) (by omega) fun S1 X1=>?_
  refine hN _ _ (aj fun N hN=>?_)
  walk_at "y"
  refine Ml (by omega) (by omega) fun S2 X2=>?_
  refine Ml (by omega) (by omega) fun S3 X3=>?_
  rw[Ao]
  refine⟨bg (by simp),?_⟩
  refine hN _ _ ?_
  walk_at "y"
  refine ih (by omega) (by omega) fun S4 X4=>?_
  have a:=t.Hq
  have c:=u.Hq
  refine⟨bg (by rw[Bd.Hl];simp;omega),?_⟩
  refine ih (by omega) (by omega) fun S5 X5=>?_
  refine⟨bg (by rw[Te,Bd.Hl,Bd.Hl];simp;omega),?_⟩
  exact k S5 (X1.trans (X2.trans (X3.trans (X4.trans X5))))
 |Hx z q t u=>
  simp only[Bd.size]at hs
  simp only[Bd.dep]at hd
  rw[show ap 7 [(Bd.Hx z q t u).pv,PV.int f,PV.int b]=[some (.tup [.str "take",.str z,.int q,t.pv,u.pv]),some (.int f),some (.int b),none,none,none,none] from rfl]
  refine aj fun N hN=>?_
  walk_at "y"
  refine hN _ _ (aj fun N hN=>?_)
  walk_at "y"
  refine hN _ _ (aj fun N hN=>?_)
  walk_at "y"
  refine Mk (by omega) (by omega) fun S1 X1=>?_
  refine hN _ _ (aj fun N hN=>?_)
  walk_at "y"
  refine Ml (by omega) (by omega) fun S2 X2=>?_
  refine Ml (by omega) (by omega) fun S3 X3=>?_
  rw[Ap]
  refine⟨bg (by simp),?_⟩
  refine hN _ _ ?_
  walk_at "y"
  refine ih (by omega) (by omega) fun S4 X4=>?_
  have a:=t.Hq
  have c:=u.Hq
  refine⟨bg (by rw[Bd.Hl];simp;omega),?_⟩
  refine ih (by omega) (by omega) fun S5 X5=>?_
  refine⟨bg (by rw[Te,Bd.Hl,Bd.Hl];simp;omega),?_⟩
  exact k S5 (X1.trans (X2.trans (X3.trans (X4.trans X5))))
 |_=>simp[Bd.hd,aN]at hh
def Dh{s0 s1 s2 s3:au}(n:Nat)(SK:kY n s0)(ih1:pI n s1)(ih2:mS n s2):dh (n+1) (aR 4 (iJ s0 s1 s2 s3)):=by
 intro S t f b Q E hd hs k
 unfold iJ
 refine cJ ?_
 rw[show ap 4 [t.pv,PV.int f,PV.int b]=[some t.pv,some (.int f),some (.int b),none] from rfl]
 refine aj fun N hN=>?_
 simp only[aq,ag,v3,lk,c3]
 have e0:=t.K7
 rw[e0]
 simp only[af,eU,List.set_cons_zero,List.set_cons_succ]
 rw[<-e0]
 refine hN _ _ (aj fun N hN=>?_)
 walk_at "x"
 simp only[Tz,TF]
 by_cases h0:t.hd=("rest":Str)
 ·rw[if_pos h0]
  have:=k S .refl
  cases t with
  |rest=>exact this
  |_=>simp[Bd.hd,aN]at h0
 rw[if_neg h0]
 refine hN _ _ (aj fun N hN=>?_)
 walk_at "x"
 simp only[Tz,TF]
 by_cases h1:t.hd=("then":Str)
 ·rw[if_pos h1]
  obtain⟨a,c,rfl⟩:=t.Oj.mp h1
  simp only[Bd.dep]at hd
  exact SK (by omega) (by omega) hs k
 rw[if_neg h1]
 refine hN _ _ (aj fun N hN=>?_)
 walk_at "x"
 simp only[Tz,TF]
 by_cases h2:t.hd=("often":Str)
 ·rw[if_pos h2]
  obtain⟨a,rfl⟩:=t.M5.mp h2
  simp only[Bd.dep]at hd
  exact ih2 (by omega) hs k
 rw[if_neg h2]
 refine hN _ _ (aj fun N hN=>?_)
 simp only[bd,aM,ag,v3,lk,c3,aC,ak]
 rw[show([PV.str "either",PV.str "take"]:List PV)=(["either","take"]:Vs).map PV.str from rfl]
 refine bF t.Li E8 ?_
 simp only[Tz,TF]
 by_cases h3:t.hd∈(["either","take"]:Vs)
 ·rw[if_pos h3]
  walk_at "x"
  exact ih1 hd h3 hs k
 rw[if_neg h3]
 simp only[aI]
 refine hN _ _ ?_
 walk_at "x"
 have:=k S .refl
 cases t with
 |rest=>exact absurd rfl h0
 |Ho=>exact absurd rfl h1
 |HS=>exact absurd rfl h2
 |HQ=>simp[Bd.hd,aN]at h3
 |Hx=>simp[Bd.hd,aN]at h3
 |pay=>exact⟨bg (by simp),this⟩
 |put=>exact⟨bg (by simp),this⟩
 |use=>exact⟨bg (by simp),this⟩
abbrev kZ(n:Nat)(w:au):Prop:=∀{S:az} {t:Bd} {Q:bn} {E:bJ},t.dep<=n->t.size<=400->(∀S',Ext S S'->Q (.tup t.Hr) S')->w [t.pv] S Q E
def HU{xo xr:au}(n:Nat)(QQ:dh n xo)(Mk:dg n xr):kZ n (aR 1 (pg xo xr)):=by
 intro S t Q E hd hs k
 unfold pg
 refine cJ ?_
 rw[show ap 1 [t.pv]=[some t.pv] from rfl]
 walk_at "x"
 refine Mk hd (by omega) fun S1 X1=>?_
 refine QQ hd hs fun S2 X2=>?_
 have a:=t.Hq
 refine⟨bg (by rw[Bd.Hl];simp;omega),?_⟩
 exact k S2 (X1.trans X2)
noncomputable def Bd.Kz:Bd->PV
 | .Ho a b=>.tup [a.Kz,b.Kz]
 | .HQ a _=>.tup [.int 0,a.Kz]
 | .Hx _ _ _ b=>.tup [.int 1,b.Kz]
 |_=>.tup []
abbrev iP(n:Nat)(w:au):Prop:=∀{S:az} {t:Bd} {Q:bn} {E:bJ},t.dep<=n->Q t.Kz S->w [t.pv] S Q E
def x_{s0:au}(n:Nat)(ih:iP n s0):iP (n+1) (aR 1 (fh s0)):=by
 intro S t Q E hd k
 unfold fh
 refine cJ ?_
 rw[show ap 1 [t.pv]=[some t.pv] from rfl]
 cases t with
 |Ho a b=>
  simp only[Bd.dep]at hd
  rw[show(Bd.Ho a b).pv = .tup [.str "then",a.pv,b.pv] from rfl]
  walk_at "y"
  refine ih (by omega) ?_
  exact ih (by omega) k
 |HQ a b=>
  simp only[Bd.dep]at hd
  rw[show(Bd.HQ a b).pv = .tup [.str "either",a.pv,b.pv] from rfl]
  walk_at "y"
  exact ih (by omega) k
 |Hx z m a b=>
  simp only[Bd.dep]at hd
  rw[show(Bd.Hx z m a b).pv = .tup [.str "take",.str z,.int m,a.pv,b.pv] from rfl]
  walk_at "y"
  exact ih (by omega) k
 |HS a=>
  rw[show(Bd.HS a).pv = .tup [.str "often",a.pv] from rfl]
  walk_at "y"
  exact k
 |rest=>
  rw[show(Bd.rest).pv = .tup [.str "rest"] from rfl]
  walk_at "y"
  exact k
 |pay x y=>
  rw[show(Bd.pay x y).pv = .tup [.str "pay",.tup [.int x,.int y]] from rfl]
  walk_at "y"
  exact k
 |put z m=>
  rw[show(Bd.put z m).pv = .tup [.str "put",.str z,.int m] from rfl]
  walk_at "y"
  exact k
 |use z=>
  rw[show(Bd.use z).pv = .tup [.str "use",.str z] from rfl]
  walk_at "y"
  exact k
abbrev k4(n:Nat)(w:au):Prop:=∀{S:az} {t:Bd} {Q:bn} {E:bJ},t.dep<=n->t.size<=900->(∀S',Ext S S'->Q (.int t.size) S')->w [t.pv] S Q E
def vy{xp:au}(n:Nat)(J_:dE n xp):k4 n (aR 1 (pd xp)):=by
 intro S t Q E hd hs k
 unfold pd
 refine cJ ?_
 rw[show ap 1 [t.pv]=[some t.pv] from rfl]
 walk_at "x"
 refine J_ hd hs fun p S1 hp X1 h1=>?_
 simp only[h1,Ti,t.HE]
 exact k S1 X1
noncomputable def Bd.led:Bd->Nat->PV->PV
 |_,0,v=>v
 | .HS a,p+1,v=>.tup [.tup [.int 1,a.led p v]]
 | .Ho a b,p+1,v=>if p < a.size then .tup [a.led p v,b.Kz] else .tup [a.Kz,b.led (p - a.size) v]
 | .HQ a b,p+1,v=>if p < a.size then .tup [.int 0,a.led p v] else .tup [.int 1,b.led (p - a.size) v]
 | .Hx _ _ a b,p+1,v=>if p < a.size then .tup [.int 0,a.led p v] else .tup [.int 1,b.led (p - a.size) v]
 |_,_+1,v=>v
abbrev ke(n:Nat)(w:au):Prop:=∀{S:az} {t:Bd} {p:Nat} {v:PV} {Q:bn} {E:bJ},t.dep<=n->t.size<=900->p < t.size->(∀S',Ext S S'->Q (t.led p v) S')->w [t.pv,.int p,v] S Q E
def Ar{xp xt s0:au}(n m:Nat)(hm:n<=m)(Ol:k4 m xp)(NS:iP m xt)(ih:ke n s0):ke (n+1) (aR 8 (fi xp xt s0)):=by
 intro S t p v Q E hd hs hp k
 unfold fi
 refine cJ ?_
 rw[show ap 8 [t.pv,PV.int p,v]=[some t.pv,some (.int p),some v,none,none,none,none,none] from rfl]
 refine aj fun N hN=>?_
 walk_at "x"
 simp only[Tz,TF]
 cases p with
 |zero=>
  rw[if_pos (show((0:Nat):Int)=0 from rfl)]
  have:=k S .refl
  cases t<;>exact this
 |succ p=>
  rw[if_neg (by omega)]
  refine hN _ _ (aj fun N hN=>?_)
  have ep:(((p+1:Nat):Int) - 1)=(p:Int):=by omega
  cases t with
  |HS a=>
   simp only[Bd.size]at hs hp
   simp only[Bd.dep]at hd
   rw[show(Bd.HS a).pv = .tup [.str "often",a.pv] from rfl]
   walk_at "y"
   rw[ep]
   exact ih (by omega) (by omega) (by omega) k
  |rest=>simp only[Bd.size]at hp;omega
  |pay=>simp only[Bd.size]at hp;omega
  |put=>simp only[Bd.size]at hp;omega
  |use=>simp only[Bd.size]at hp;omega
  |Ho a b=>
   simp only[Bd.size]at hs hp
   simp only[Bd.dep]at hd
   rw[show(Bd.Ho a b).pv = .tup [.str "then",a.pv,b.pv] from rfl]
   walk_at "y"
   refine hN _ _ (aj fun N hN=>?_)
   walk_at "y"
   refine hN _ _ (aj fun N hN=>?_)
   walk_at "y"
   refine hN _ _ (aj fun N hN=>?_)
   walk_at "y"
   refine Ol (by omega) (by omega) fun S1 X1=>?_
   refine hN _ _ (aj fun N hN=>?_)
   walk_at "x"
   by_cases hl:p < a.size
   ·have e1:decide (((p+1:Nat):Int) < 1+(a.size:Int))=true:=TN (by omega)
    rw[e1]
    simp only[Ua]
    refine hN _ _ (aj fun N hN=>?_)
    walk_at "y"
    rw[ep]
    refine ih (by omega) (by omega) hl fun S2 X2=>?_
    refine hN _ _ (aj fun N hN=>?_)
    walk_at "y"
    refine hN _ _ (aj fun N hN=>?_)
    walk_at "y"
    refine NS (by omega) ?_
    have:=k S2 (X1.trans X2)
    simp only[Bd.led,if_pos hl]at this
    exact this
   ·have e1:decide (((p+1:Nat):Int) < 1+(a.size:Int))=false:=Tw (by omega)
    rw[e1]
    simp only[Tu,Ub]
    refine hN _ _ (aj fun N hN=>?_)
    have e2:(((p+1:Nat):Int) - (1+(a.size:Int)))=((p - a.size:Nat):Int):=by omega
    have e4:decide ((1:Int)=0)=false:=by decide
    walk_at "y"
    simp only[e4,Tu,Ub]
    rw[e2]
    refine ih (by omega) (by omega) (by omega) fun S2 X2=>?_
    refine hN _ _ (aj fun N hN=>?_)
    walk_at "y"
    refine hN _ _ (aj fun N hN=>?_)
    walk_at "y"
    simp only[e4,Tu,Ub]
    refine hN _ _ ?_
    walk_at "y"
    refine NS (by omega) ?_
    have:=k S2 (X1.trans X2)
    simp only[Bd.led,if_neg hl]at this
    exact this
  |HQ a b=>
   simp only[Bd.size]at hs hp
   simp only[Bd.dep]at hd
   rw[show(Bd.HQ a b).pv = .tup [.str "either",a.pv,b.pv] from rfl]
   walk_at "y"
   refine hN _ _ (aj fun N hN=>?_)
   walk_at "y"
   refine hN _ _ (aj fun N hN=>?_)
   walk_at "y"
   refine hN _ _ (aj fun N hN=>?_)
   walk_at "y"
   refine Ol (by omega) (by omega) fun S1 X1=>?_
   refine hN _ _ (aj fun N hN=>?_)
   walk_at "x"
   by_cases hl:p < a.size
   ·have e1:decide (((p+1:Nat):Int) < 1+(a.size:Int))=true:=TN (by omega)
    rw[e1]
    simp only[Ua]
    refine hN _ _ (aj fun N hN=>?_)
    walk_at "y"
    rw[ep]
    refine ih (by omega) (by omega) hl fun S2 X2=>?_
    refine hN _ _ (aj fun N hN=>?_)
    walk_at "y"
    have:=k S2 (X1.trans X2)
    simp only[Bd.led,if_pos hl]at this
    exact this
   ·have e1:decide (((p+1:Nat):Int) < 1+(a.size:Int))=false:=Tw (by omega)
    rw[e1]
    simp only[Tu,Ub]
    refine hN _ _ (aj fun N hN=>?_)
    have e2:(((p+1:Nat):Int) - (1+(a.size:Int)))=((p - a.size:Nat):Int):=by omega
    have e4:decide ((1:Int)=0)=false:=by decide
    walk_at "y"
    simp only[e4,Tu,Ub]
    rw[e2]
    refine ih (by omega) (by omega) (by omega) fun S2 X2=>?_
    refine hN _ _ (aj fun N hN=>?_)
    walk_at "y"
    have:=k S2 (X1.trans X2)
    simp only[Bd.led,if_neg hl]at this
    exact this
  |Hx z q a b=>
   simp only[Bd.size]at hs hp
   simp only[Bd.dep]at hd
   rw[show(Bd.Hx z q a b).pv = .tup [.str "take",.str z,.int q,a.pv,b.pv] from rfl]
   walk_at "y"
   refine hN _ _ (aj fun N hN=>?_)
   walk_at "y"
   refine hN _ _ (aj fun N hN=>?_)
   walk_at "y"
   refine hN _ _ (aj fun N hN=>?_)
   walk_at "y"
   refine Ol (by omega) (by omega) fun S1 X1=>?_
   refine hN _ _ (aj fun N hN=>?_)
   walk_at "x"
   by_cases hl:p < a.size
   ·have e1:decide (((p+1:Nat):Int) < 1+(a.size:Int))=true:=TN (by omega)
    rw[e1]
    simp only[Ua]
    refine hN _ _ (aj fun N hN=>?_)
    walk_at "y"
    rw[ep]
    refine ih (by omega) (by omega) hl fun S2 X2=>?_
    refine hN _ _ (aj fun N hN=>?_)
    walk_at "y"
    have:=k S2 (X1.trans X2)
    simp only[Bd.led,if_pos hl]at this
    exact this
   ·have e1:decide (((p+1:Nat):Int) < 1+(a.size:Int))=false:=Tw (by omega)
    rw[e1]
    simp only[Tu,Ub]
    refine hN _ _ (aj fun N hN=>?_)
    have e2:(((p+1:Nat):Int) - (1+(a.size:Int)))=((p - a.size:Nat):Int):=by omega
    have e4:decide ((1:Int)=0)=false:=by decide
    walk_at "y"
    simp only[e4,Tu,Ub]
    rw[e2]
    refine ih (by omega) (by omega) (by omega) fun S2 X2=>?_
    refine hN _ _ (aj fun N hN=>?_)
    walk_at "y"
    have:=k S2 (X1.trans X2)
    simp only[Bd.led,if_neg hl]at this
    exact this
noncomputable def cf(n:Int):PV:=.tup [.int (M3.br n 2520),.int (M3.aT n 2520)]
def dY:(.tup [.int 0,.int 1]:PV)=cf 0:=by
 have h1:M3.br 0 2520=0:=by decide +kernel
 have h2:M3.aT 0 2520=1:=by decide +kernel
 unfold cf
 rw[h1,h2]
def pJ(n:Int):M3.DF (M3.br n 2520) (M3.aT n 2520):=M3.jV (by decide)
def cP(n:Int):M3.br n 2520 * 2520=n * M3.aT n 2520:=M3.iG (by decide)
def eC(n:Int):0 < M3.aT n 2520/\M3.aT n 2520<=2520:=by
 refine⟨(pJ n).pos,?_⟩
 unfold M3.aT
 rw[if_neg (by decide)]
 exact Int.ediv_le_self _ (by decide)
def vz{n:Int}(h:0<=n):0<=M3.br n 2520:=by
 unfold M3.br
 rw[if_neg (by decide)]
 exact Int.ediv_nonneg h (Int.natCast_nonneg _)
def As{x y:Int}(h:De x y):(.tup [.int x,.int y]:PV)=cf (x * (2520 / y)):=by
 have hy:y=1\/y=2\/y=3\/y=4\/y=5\/y=6\/y=7\/y=8\/y=9:=by have:=h.low.pos;have:=h.y1;omega
 have e:2520 / y * y=2520:=by rcases hy with rfl|rfl|rfl|rfl|rfl|rfl|rfl|rfl|rfl<;>decide
 have u:=M3.cY h.low (x:=x * (2520 / y)) (y:=2520) (by decide) (by rw[XG,e])
 unfold cf
 rw[u.1,u.2]
def t4(n m:Int):(.tup [.int (M3.br (M3.br n 2520 * M3.aT m 2520+M3.br m 2520 * M3.aT n 2520) (M3.aT n 2520 * M3.aT m 2520)),.int (M3.aT (M3.br n 2520 * M3.aT m 2520+M3.br m 2520 * M3.aT n 2520) (M3.aT n 2520 * M3.aT m 2520))]:PV)=cf (n+m):=by
 have u:=M3.cY (pJ (n+m)) (x:=M3.br n 2520 * M3.aT m 2520+M3.br m 2520 * M3.aT n 2520) (y:=M3.aT n 2520 * M3.aT m 2520) (Int.mul_pos (eC n).1 (eC m).1) (by
  have h1:=cP n;have h2:=cP m;have h3:=cP (n+m)
  generalize M3.br n 2520=a at *;generalize M3.aT n 2520=b at *;generalize M3.br m 2520=c at *;generalize M3.aT m 2520=d at *
  generalize M3.br (n+m) 2520=L at *;generalize M3.aT (n+m) 2520=B at *
  grind)
 unfold cf
 rw[u.1,u.2]
def qT(n m:Int):(.tup [.int (M3.br (M3.br n 2520 * m) (M3.aT n 2520 * 1)),.int (M3.aT (M3.br n 2520 * m) (M3.aT n 2520 * 1))]:PV)=cf (n * m):=by
 have u:=M3.cY (pJ (n * m)) (x:=M3.br n 2520 * m) (y:=M3.aT n 2520 * 1) (by rw[Int.mul_one];exact(eC n).1) (by
  have h1:=cP n;have h3:=cP (n * m)
  generalize M3.br n 2520=a at *;generalize M3.aT n 2520=b at *
  generalize M3.br (n * m) 2520=L at *;generalize M3.aT (n * m) 2520=B at *
  grind)
 unfold cf
 rw[u.1,u.2]
theorem di{α:Type}{g:Tg}{te:aZ}{σ':cy}{keep:az->Prop}{fin:List PV->az->Prop}{S:az}(enc f:α->PV)(hk:keep S):∀(xs:List α) (ys:List PV),
  (∀x∈xs,∃σ2,g.put (enc x) σ'=some σ2/\∀Q:bn,Q (f x) S->te σ2 S Q fK)->ys.length+xs.length<=sizeLine->fin (ys++xs.map f) S->bY g bx te σ' keep fin (xs.map enc) ys S
 |[],ys,_,hl,hf=>⟨hk,by simpa using hl,by simpa using hf⟩
 |x::r,ys,h,hl,hf=>by
  obtain⟨σ2,e,h1⟩:=h x (by simp)
  refine⟨hk,by simp at hl;omega,?_⟩
  rw[e]
  show te σ2 S (fun y S4=>bY g bx te σ' keep fin (r.map enc) (ys++[y]) S4) fK
  exact h1 _ (di enc f hk r (ys++[f x]) (fun y hy=>h y (by simp[hy])) (by simp at hl ⊢;omega) (by simpa using hf))
def bB{n:Nat}(h:n<=1000):n<=sizeLine:=TR h (by decide)
def nE(i n:Int):IntMulOk i (M3.aT n 2520):=by have:=eC n;exact pD (by omega) (by omega)
noncomputable def ya(js:Vs):PV:=.tup (js.map PV.str)
def Bd.M7(t:Bd):t.hd=("put":Str)↔∃z m,t = .put z m:=by cases t<;>simp[Bd.hd,aN]
abbrev Qs:=Str->Bool
noncomputable def mq(hs:Vs):Qs:=fun z=>decide (z∈hs)
noncomputable def Bd.shut(q:Qs):Bd->Nat->Bool
 | .Hx z _ _ _,0=>!q z
 |_,_=>false
noncomputable def Bd.IM(q:Qs)(t:Bd)(r:Bool):List (Bd×Bool):=t.sides.mapIdx fun i s=>(s,r&&!t.shut q i)
noncomputable def Bd.pr(q:Qs):Bd->Bool->List (Bd×Bool)
 | .rest,r=>[(.rest,r)]
 | .pay x y,r=>[(.pay x y,r)]
 | .put z m,r=>[(.put z m,r)]
 | .use z,r=>[(.use z,r)]
 | .HS a,r=>(.HS a,r)::a.pr q r
 | .Ho a b,r=>(.Ho a b,r)::(a.pr q r++b.pr q r)
 | .HQ a b,r=>(.HQ a b,r)::(a.pr q r++b.pr q r)
 | .Hx z m a b,r=>(.Hx z m a b,r)::(a.pr q (r&&q z)++b.pr q r)
def Bd.NT(q:Qs)(t:Bd)(r:Bool):t.pr q r=(t,r)::(t.IM q r).flatMap fun p=>p.1.pr q p.2:=by
 cases t with
 |rest=>rfl
 |pay x y=>rfl
 |put z m=>rfl
 |use z=>rfl
 |HS a=>show _=_::(a.pr q (r&&!false)++[]);rw[UD,Vk,TY];rfl
 |Ho a b=>show _=_::(a.pr q (r&&!false)++(b.pr q (r&&!false)++[]));rw[UD,Vk,TY];rfl
 |HQ a b=>show _=_::(a.pr q (r&&!false)++(b.pr q (r&&!false)++[]));rw[UD,Vk,TY];rfl
 |Hx z m a b=>show _=_::(a.pr q (r&&!(!q z))++(b.pr q (r&&!false)++[]));rw[Bool.not_not,UD,Vk,TY];rfl
theorem Bd.Jd(q:Qs):∀(t:Bd) (r:Bool),(t.pr q r).length=t.size
 | .rest,_=>rfl
 | .pay _ _,_=>rfl
 | .put _ _,_=>rfl
 | .use _,_=>rfl
 | .HS a,r=>by show(a.pr q r).length+1=a.size+1;rw[a.Jd q r]
 | .Ho a b,r=>by show(a.pr q r++b.pr q r).length+1=a.size+b.size+1;rw[Te,a.Jd q r,b.Jd q r]
 | .HQ a b,r=>by show(a.pr q r++b.pr q r).length+1=a.size+b.size+1;rw[Te,a.Jd q r,b.Jd q r]
 | .Hx z m a b,r=>by show(a.pr q (r&&q z)++b.pr q r).length+1=a.size+b.size+1;rw[Te,a.Jd q _,b.Jd q r]
noncomputable def Bd.Hn(q:Qs):Bd->List Str
 | .rest=>[]
 | .pay _ _=>[]
 | .put z _=>[z]
 | .use _=>[]
 | .HS a=>a.Hn q
 | .Ho a b=>a.Hn q++b.Hn q
 | .HQ a b=>a.Hn q++b.Hn q
 | .Hx z _ a b=>(if q z then a.Hn q else [])++b.Hn q
theorem Bd.II(q:Qs):∀(t:Bd) (u:Bd),(u,true) ∉ t.pr q false
 | .rest,u=>by simp[Bd.pr]
 | .pay _ _,u=>by simp[Bd.pr]
 | .put _ _,u=>by simp[Bd.pr]
 | .use _,u=>by simp[Bd.pr]
 | .HS a,u=>by
  show _ ∉ _::a.pr q false
  rw[Th,not_or];exact⟨by simp,a.II q u⟩
 | .Ho a b,u=>by
  show _ ∉ _::(a.pr q false++b.pr q false)
  rw[Th,not_or,Tj,not_or];exact⟨by simp,a.II q u,b.II q u⟩
 | .HQ a b,u=>by
  show _ ∉ _::(a.pr q false++b.pr q false)
  rw[Th,not_or,Tj,not_or];exact⟨by simp,a.II q u,b.II q u⟩
 | .Hx z m a b,u=>by
  show _ ∉ _::(a.pr q (false&&q z)++b.pr q false)
  rw[Bool.false_and,Th,not_or,Tj,not_or];exact⟨by simp,a.II q u,b.II q u⟩
theorem Bd.Ic(q:Qs){z:Str}:∀(t:Bd),z∈t.Hn q↔∃m,(Bd.put z m,true)∈t.pr q true
 | .rest=>by simp[Bd.Hn,Bd.pr]
 | .pay _ _=>by simp[Bd.Hn,Bd.pr]
 | .put y m=>by
  show z∈[y]↔∃n,(Bd.put z n,true)∈[(Bd.put y m,true)]
  simp only[Tt,Prod.mk.injEq,Bd.put.injEq,and_true]
  exact⟨fun h=>⟨m,h,rfl⟩,fun⟨_,h,_⟩=>h⟩
 | .use _=>by simp[Bd.Hn,Bd.pr]
 | .HS a=>by
  show z∈a.Hn q↔∃m,(Bd.put z m,true)∈(Bd.HS a,true)::a.pr q true
  rw[a.Ic q];simp
 | .Ho a b=>by
  show z∈a.Hn q++b.Hn q↔∃m,(Bd.put z m,true)∈(Bd.Ho a b,true)::(a.pr q true++b.pr q true)
  rw[Tj,a.Ic q,b.Ic q];simp[exists_or]
 | .HQ a b=>by
  show z∈a.Hn q++b.Hn q↔∃m,(Bd.put z m,true)∈(Bd.HQ a b,true)::(a.pr q true++b.pr q true)
  rw[Tj,a.Ic q,b.Ic q];simp[exists_or]
 | .Hx y m a b=>by
  show z∈(if q y=true then a.Hn q else [])++b.Hn q↔∃n,(Bd.put z n,true)∈(Bd.Hx y m a b,true)::(a.pr q (true&&q y)++b.pr q true)
  rw[Tj,b.Ic q]
  cases h:q y with
  |true=>rw[if_pos rfl,a.Ic q];simp[exists_or]
  |false=>
   rw[if_neg (by decide)]
   have f:=a.II q
   simp[f]
theorem Bd.Ik{q p:Qs}(h:∀z,q z=true->p z=true){z:Str}:∀t:Bd,z∈t.Hn q->z∈t.Hn p
 | .rest,e=>e
 | .pay _ _,e=>e
 | .put _ _,e=>e
 | .use _,e=>e
 | .HS a,e=>a.Ik h e
 | .Ho a b,e=>Tj.mpr ((Tj.mp e).imp (a.Ik h) (b.Ik h))
 | .HQ a b,e=>Tj.mpr ((Tj.mp e).imp (a.Ik h) (b.Ik h))
 | .Hx y m a b,e=>by
  rcases Tj.mp (show z∈(if q y=true then a.Hn q else [])++b.Hn q from e)with e|e
  ·by_cases hq:q y=true
   ·rw[if_pos hq]at e
    exact Tj.mpr (.inl (by show z∈(if p y=true then a.Hn p else []);rw[if_pos (h y hq)];exact a.Ik h e))
   ·rw[if_neg hq]at e;cases e
  ·exact Tj.mpr (.inr (b.Ik h e))
theorem Bd.HF{q:Qs}{js us:Vs}{z:Str}:∀t:Bd,t.good js us->z∈t.Hn q->z∈js
 | .rest,_,e=>by cases e
 | .pay _ _,_,e=>by cases e
 | .put _ _,g,e=>by rw[Tt.mp e];exact g.1
 | .use _,_,e=>by cases e
 | .HS a,g,e=>a.HF g e
 | .Ho a b,g,e=>(Tj.mp e).elim (a.HF g.1) (b.HF g.2)
 | .HQ a b,g,e=>(Tj.mp e).elim (a.HF g.1) (b.HF g.2)
 | .Hx y m a b,g,e=>by
  rcases Tj.mp (show z∈(if q y=true then a.Hn q else [])++b.Hn q from e)with e|e
  ·by_cases hq:q y=true
   ·rw[if_pos hq]at e;exact a.HF g.2.2.2.1 e
   ·rw[if_neg hq]at e;cases e
  ·exact b.HF g.2.2.2.2 e
noncomputable def Il(q:Qs)(ds:List (Str×Bd)):List Str:=ds.flatMap fun p=>p.2.Hn q
def mT{q p:Qs}(h:∀z,q z=true->p z=true){ds:List (Str×Bd)}{z:Str}(e:z∈Il q ds):z∈Il p ds:=by
 obtain⟨d,hd,e⟩:=U8.mp e
 exact U8.mpr ⟨d,hd,d.2.Ik h e⟩
inductive Fs (ds:List (Str×Bd)):List Str->Prop
 |nil:Fs ds []
 |snoc {hs:Vs} {z:Str}:Fs ds hs->z∈Il (mq hs) ds->Fs ds (hs++[z])
noncomputable def held(ds:List (Str×Bd)):Nat->List Str
 |0=>[]
 |n+1=>Il (mq (held ds n)) ds
theorem dF:∀(hs js:Vs),hs.Nodup->(∀z∈hs,z∈js)->hs.length<=js.length
 |[],_,_,_=>Ug _
 |z::r,js,hn,hj=>by
  have hz:=hj z (by simp)
  have h1:=dF r (js.erase z) (Uw.mp hn).2 fun y hy=>(Xi (fun e=>(Uw.mp hn).1 (by rw[<-e];exact hy))).mpr (hj y (by simp[hy]))
  rw[VY hz]at h1
  have:=W3 hz
  rw[TL]
  omega
def t5{a b:Vs}(h:∀z∈a,z∈b)(z:Str)(e:mq a z=true):mq b z=true:=TN (h z (of_decide_eq_true e))
def At{ds:List (Str×Bd)}{hs:Vs}(h:Fs ds hs):∀k,hs.length<=k->∀z∈hs,z∈held ds k:=by
 induction h with
 |nil=>intro k _ z hz;cases hz
 |@snoc hs y hf hy ih=>
  intro k hk z hz
  rw[Te,TH]at hk
  rcases Tj.mp hz with hz|hz
  ·exact ih k (by omega) z hz
  ·rw[Tt.mp hz]
   obtain⟨k,rfl⟩:∃m,k=m+1:=⟨k - 1,by omega⟩
   exact mT (t5 (ih k (by omega))) hy
theorem t6{ds:List (Str×Bd)}{hs:Vs}(cl:∀z∈Il (mq hs) ds,z∈hs):∀k,∀z∈held ds k,z∈hs
 |0,z,hz=>by cases hz
 |k+1,z,hz=>cl z (mT (t5 (t6 cl k)) hz)
def Au{ds:List (Str×Bd)}{js hs:Vs}(h:Fs ds hs)(hn:hs.Nodup)(hj:∀z∈hs,z∈js)(cl:∀z∈Il (mq hs) ds,z∈hs):mq (held ds js.length)=mq hs:=by
 funext z
 exact decide_eq_decide.mpr ⟨t6 cl _ z,At h _ (dF hs js hn hj) z⟩
noncomputable def io(p:Bd×Bool):PV:=.tup [p.1.pv,.bl p.2]
def l4(js:Vs):Prop:=∀z∈js,PyData.strOk z=true
abbrev mU(n:Nat)(w:au):Prop:=∀{S:az} {t:Bd} {js us hs:Vs} {nm:Addr} {r:Bool} {Q:bn} {E:bJ},t.dep<=n->t.size<=900->t.good js us->l4 js->l4 hs->S nm=some (.lst (hs.map PV.str))->
  (∀p S',S p=none->Ext S S'->S' p=some (.lst ((t.pr (mq hs) r).map io))->Q (.ref p) S')->w [t.pv,.ref nm,.bl r] S Q E
def Bd.Ms{js us:Vs}{t s:Bd}(g:t.good js us)(h:s∈t.sides):s.good js us:=by
 cases t with
 |rest=>cases h
 |pay x y=>cases h
 |put z m=>cases h
 |use z=>cases h
 |HS a=>rw[Tt.mp h];exact g
 |Ho a b=>
  rcases Th.mp h with rfl|h
  ·exact g.1
  ·rw[Tt.mp h];exact g.2
 |HQ a b=>
  rcases Th.mp h with rfl|h
  ·exact g.1
  ·rw[Tt.mp h];exact g.2
 |Hx z m a b=>
  rcases Th.mp h with rfl|h
  ·exact g.2.2.2.1
  ·rw[Tt.mp h];exact g.2.2.2.2
def Bd.Om(t:Bd):t.hd=("take":Str)↔∃z m a b,t = .Hx z m a b:=by cases t<;>simp[Bd.hd,aN]
def Av{t:Bd}{js us hs:Vs}{nm:Addr}{S:az}{i:Nat}{x2 x3 x5 x6:Option PV}{Q:bn}(g:t.good js us)(hj:l4 js)(hh:l4 hs)(hn:S nm=some (.lst (hs.map PV.str)))(q:Q (.bl (t.shut (mq hs) i)) S) :
  gW (ag (bq false) (ag af (v3 0) (c3 (.int 0))) (c3 (.str "take"))) (gW (ag (bq false) (v3 4) (c3 (.int 0))) (ag (fJ true) (ag af (v3 0) (c3 (.int 1))) (v3 1))) [some t.pv,some (.ref nm),x2,x3,some (.int (i:Int)),x5,x6] S Q fK:=by
 rw[Bd.K7]
 simp only[gW,ag,v3,lk,c3,af,eU,bq,Tz]
 by_cases h:t.hd=("take":Str)
 ·obtain⟨z,m,a,b,rfl⟩:=(Bd.Om t).mp h
  rw[TN h,if_pos rfl]
  cases i with
  |zero=>
   rw[TN (show((0:Nat):Int)=0 from rfl),if_pos rfl]
   simp only[Bd.tl,fy]
   refine eV hn (hj z g.1) hh ?_
   rw[show(true != decide (z∈hs))=Bd.shut (mq hs) (Bd.Hx z m a b) 0 by show _=!decide (z∈hs);cases decide (z∈hs)<;>rfl]
   exact q
  |succ i=>
   rw[Tw (show ¬(((i+1:Nat):Int)=0) by omega),if_neg (by decide)]
   exact q
 ·rw[Tw h,if_neg (by decide)]
  have e:t.shut (mq hs) i=false:=by cases t<;>first|rfl|exact absurd rfl h
  rw[e]at q
  exact q
def Mm{xs s0:au}(J9:iO xs)(n:Nat)(ih:mU n s0):mU (n+1) (aR 7 (dL xs s0)):=by
 intro S t js us hs nm r Q E hd Qo hg hj hh hn k
 unfold dL
 refine cJ ?_
 rw[show ap 7 [t.pv,.ref nm,.bl r]=[some t.pv,some (.ref nm),some (.bl r),none,none,none,none] from rfl]
 refine aj fun N hN=>?_
 walk_at "x"
 intro p hp
 have X0:Ext S (Hk S p (.lst [.tup [t.pv,.bl r]])):=.new hp
 have hp0:(Hk S p (.lst [.tup [t.pv,.bl r]])) p=some (.lst [.tup [t.pv,.bl r]]):=aa
 generalize Hk S p (.lst [.tup [t.pv,.bl r]])=S0 at X0 hp0
 refine hN _ _ (aj fun N hN=>?_)
 simp only[b_,gZ,ab,ak,v3,lk]
 refine J9 ?_
 dsimp only
 have hps:(t.IM (mq hs) r).length=t.sides.length:=WI
 refine bP (fun done σ S'=>∃(x4 x5 x6:Option PV),σ=[some t.pv,some (.ref nm),some (.bl r),some (.ref p),x4,x5,x6]/\Ext S S'/\done.length<=t.sides.length/\S' p=some (.lst (((t,r)::((t.IM (mq hs) r).take done.length).flatMap fun p=>p.1.pr (mq hs) p.2).map io))) ⟨_,_,_,rfl,X0,Ug _,hp0⟩ (fun _ _ _ _=>trivial) ?_ ?_
 ·rintro done x rest σ S1 K e ⟨x4,x5,x6,rfl,X1,hl,h1⟩ hK
  obtain⟨y,rfl,hy⟩:=mR e
  rw[Tv]at hy
  cases hs':t.sides[done.length]? with
  |none=>rw[hs']at hy;cases hy
  |some s=>
  rw[hs']at hy
  cases hy
  have hlt:done.length < t.sides.length:=(TV.mp hs').1
  have hr:s∈t.sides:=T9 hs'
  have hrd:=Bd.Mj hr
  have hn1:=X1 _ _ hn
  have hq:(t.IM (mq hs) r)[done.length]?=some (s,r&&!t.shut (mq hs) done.length):=by unfold Bd.IM;rw[Wj,hs'];rfl
  simp only[Tg.put,Tg.Hn,List.set_cons_succ,List.set_cons_zero]
  refine aj fun N2 Lg=>?_
  simp only[aq]
  refine Av hg hj hh hn1 ?_
  simp only[List.set_cons_succ,List.set_cons_zero]
  refine Lg _ _ ?_
  simp only[bL,lz,zO,ak,ab,v3,lk,h1,XJ,gW,lx]
  have go:∀Q':bn,(∀q S2,S1 q=none->Ext S1 S2->S2 q=some (.lst ((s.pr (mq hs) (r&&!t.shut (mq hs) done.length)).map io))->Q' (.ref q) S2)->s0 [s.pv,.ref nm,.bl (r&&!t.shut (mq hs) done.length)] S1 Q' fK:=fun Q' k'=>ih (by omega) (by omega) (Bd.Ms hg hr) hj hh hn1 k'
  have tail:∀q S2,S1 q=none->Ext S1 S2->S2 q=some (.lst ((s.pr (mq hs) (r&&!t.shut (mq hs) done.length)).map io))->dv (.ref p) [.ref q] S2 (fun _ S3=>K [some t.pv,some (.ref nm),some (.bl r),some (.ref p),some (.int (done.length:Int)),some s.pv,some (.bl (t.shut (mq hs) done.length))] S3):=fun q S2 hq2 X2 h2=>by
   simp only[dv,X2 _ _ h1,h2]
   have et:((t.IM (mq hs) r).take (done.length+1)).flatMap (fun p=>p.1.pr (mq hs) p.2)=((t.IM (mq hs) r).take done.length).flatMap (fun p=>p.1.pr (mq hs) p.2)++s.pr (mq hs) (r&&!t.shut (mq hs) done.length):=by
    rw[V2,hq,VB];simp
   have ln:((t,r)::((t.IM (mq hs) r).take (done.length+1)).flatMap fun p=>p.1.pr (mq hs) p.2).length<=t.size:=by
    rw[<-Bd.Jd (mq hs) t r,Bd.NT]
    rw[TL,TL]
    have:(t.IM (mq hs) r).flatMap (fun p=>p.1.pr (mq hs) p.2)=((t.IM (mq hs) r).take (done.length+1)).flatMap (fun p=>p.1.pr (mq hs) p.2)++((t.IM (mq hs) r).drop (done.length+1)).flatMap (fun p=>p.1.pr (mq hs) p.2):=by rw[<-VB,List.take_append_drop]
    rw[this,Te]
    omega
   rw[TL,et,Te]at ln
   refine⟨bB (by simp only[Ti,List.length_cons];omega),?_⟩
   refine hK _ _ ⟨_,_,_,rfl,(X1.trans X2).put hp,by rw[Te];exact hlt,?_⟩
   rw[aa,Te,TH,et,<-Uh]
   rfl
  cases r with
  |true=>rw[if_pos rfl];exact go _ tail
  |false=>rw[if_neg (by decide)];exact go _ tail
 ·rintro σ S1 ⟨x4,x5,x6,rfl,X1,hl,h1⟩
  refine hN _ _ ?_
  walk_at "x"
  refine k p S1 hp X1 ?_
  rw[h1,Bd.NT]
  have:(L3.bc (t.sides.map Bd.pv)).length=(t.IM (mq hs) r).length:=by unfold L3.bc;rw[WI,Ti,hps]
  rw[this,Wq]
structure HG (js:Vs) (ds:List (Str×Bd)):Prop where
 jw:l4 js
 jl:js.length<=50
 dl:ds.length<=1000
 gd:∀p∈ds,p.2.good js []
 dp:∀p∈ds,p.2.dep<=6
 sz:∀p∈ds,p.2.size<=60
def ME(ds:List (Str×Bd))(hs:Vs)(d tr:PV)(z:Str):Prop:=∃(dk pl:Nat) (dn:Str) (t:Bd) (m:Int),d = .int (dk:Int)/\tr=t.led pl (.tup [])/\ds[dk]?=some (dn,t)/\(t.pr (mq hs) true)[pl]?=some (.put z m,true)
def ME.Hn{ds:List (Str×Bd)}{hs:Vs}{d tr:PV}{z:Str}:ME ds hs d tr z->z∈Il (mq hs) ds:=fun⟨_,_,_,t,m,_,_,h1,h2⟩=>U8.mpr ⟨_,T9 h1,(Bd.Ic (mq hs) t).mpr ⟨m,T9 h2⟩⟩
abbrev mV(w:au):Prop:=∀{S:az} {js hs:Vs} {ds:List (Str×Bd)} {nm:Addr} {Q:bn} {E:bJ},HG js ds->l4 hs->S nm=some (.lst (hs.map PV.str))->
  (∀S',Ext S S'->(∀z∈Il (mq hs) ds,z∈hs)->Q .non S')->
  (∀(k:Nat) z d tr S',Ext S S'->js[k]?=some z->ME ds hs d tr z->z ∉ hs->Q (.tup [.int (k:Int),d,tr]) S')->w [cU js ds,.ref nm] S Q E
def qU{js:Vs}{z:Str}(h:z∈js):∃k:Nat,js[k]?=some z/\∀j:Nat,j < k->js[j]?≠some z:=by
 induction js with
 |nil=>cases h
 |cons x r ih=>
  by_cases e:x=z
  ·subst e;exact⟨0,rfl,fun j hj=>absurd hj (Nat.not_lt_zero _)⟩
  ·obtain⟨k,h1,h2⟩:=ih ((Th.mp h).resolve_left (VL e))
   refine⟨k+1,by simpa using h1,fun j hj=>?_⟩
   cases j with
   |zero=>simpa using e
   |succ j=>simpa using h2 j (by omega)
def LQ{xp xl:au}(Mm:mU 6 xp)(On:ke 6 xl):mV (aR 7 (ij xp xl)):=by
 intro S js hs ds nm Q E hg hh hn k0 k1
 unfold ij
 refine cJ ?_
 rw[show ap 7 [cU js ds,.ref nm]=[some (.tup [ya js,.tup (ds.map iM)]),some (.ref nm),none,none,none,none,none] from rfl]
 refine aj fun N hN=>?_
 simp only[b_,gZ,ag,v3,lk,c3,af,fy]
 refine bP (fun done σ S'=>∃(x2 x3 x4 x5 x6:Option PV),σ=[some (.tup [ya js,.tup (ds.map iM)]),some (.ref nm),x2,x3,x4,x5,x6]/\Ext S S'/\done.length<=ds.length/\∀p∈ds.take done.length,∀z∈p.2.Hn (mq hs),z∈hs) ⟨_,_,_,_,_,rfl,.refl,Ug _,by simp⟩ (fun _ _ _ _=>trivial) ?_ ?_
 ·rintro done x rest σ S1 K e ⟨x2,x3,x4,x5,x6,rfl,X1,hl,hd⟩ hK
  obtain⟨y,rfl,hy⟩:=mR e
  rw[Tv]at hy
  cases hs':ds[done.length]? with
  |none=>rw[hs']at hy;cases hy
  |some p=>
  rw[hs']at hy
  cases hy
  obtain⟨dn,t⟩:=p
  have hlt:done.length < ds.length:=(TV.mp hs').1
  have hm:(dn,t)∈ds:=T9 hs'
  have hn1:=X1 _ _ hn
  simp only[Tg.put,Tg.Hn,List.set_cons_succ,List.set_cons_zero]
  simp only[kN,ak,ag,v3,lk,c3,af,iM,fy,List.cons_append,List.nil_append]
  refine Mm (hg.dp _ hm) (by have:t.size<=60:=hg.sz _ hm;omega) (hg.gd _ hm) hg.jw hh hn1 fun pl S2 hpl X2 h2=>?_
  simp only[h2]
  have hn2:=X2 _ _ hn1
  refine bP (fun Je σ S'=>∃(x4 x5 x6:Option PV),σ=[some (.tup [ya js,.tup (ds.map iM)]),some (.ref nm),some (.int (done.length:Int)),some (.tup [.str dn,t.pv]),x4,x5,x6]/\S'=S2/\∀z m,(Bd.put z m,true)∈(t.pr (mq hs) true).take Je.length->z∈hs) ⟨_,_,_,rfl,rfl,by simp⟩ (fun _ _ _ ⟨_,_,_,_,h,_⟩=>by rw[h];exact h2) ?_ ?_
  ·rintro Je x NU σ S3 K2 e2 ⟨y4,y5,y6,rfl,rfl,hd2⟩ Pb
   obtain⟨y,rfl,hy⟩:=mR e2
   rw[Tv]at hy
   cases hu:(t.pr (mq hs) true)[Je.length]? with
   |none=>rw[hu]at hy;cases hy
   |some u=>
   rw[hu]at hy
   cases hy
   obtain⟨u,f⟩:=u
   have hup:Je.length < t.size:=by rw[<-Bd.Jd (mq hs) t true];exact(TV.mp hu).1
   have Pc:(u,f)∈t.pr (mq hs) true:=T9 hu
   have cont:(f=true->∀z m,u=Bd.put z m->z∈hs)->∀(S':az) (x6:Option PV),S'=S3->K2 [some (.tup [ya js,.tup (ds.map iM)]),some (.ref nm),some (.int (done.length:Int)),some (.tup [.str dn,t.pv]),some (.int (Je.length:Int)),some (io (u,f)),x6] S':=fun hc S' x6 eS=>Pb _ _ ⟨_,_,_,rfl,eS,fun z m hz=>by
    rw[Te,TH,V2,hu,Tj]at hz
    rcases hz with hz|hz
    ·exact hd2 z m hz
    ·have:(Bd.put z m,true)=(u,f):=by simpa using hz
     cases this
     exact hc rfl z m rfl⟩
   simp only[Tg.put,Tg.Hn,List.set_cons_succ,List.set_cons_zero]
   refine aj fun N3 PQ=>?_
   simp only[aq,ag,v3,lk,c3,af,io,eU,List.set_cons_succ,List.set_cons_zero]
   refine PQ _ _ ?_
   simp only[bd,kG,aM,ag,v3,lk,c3,af,fy]
   cases f with
   |false=>
    rw[if_neg (by decide),if_neg (by decide)]
    exact cont (fun h=>by cases h) _ _ rfl
   |true=>
   rw[if_pos rfl,Bd.K7]
   simp only[eU,fy,bq,Tz,TF]
   by_cases LU:u.hd=("put":Str)
   ·obtain⟨z,m,rfl⟩:=(Bd.M7 u).mp LU
    rw[if_pos LU]
    have hz:z∈t.Hn (mq hs):=(Bd.Ic (mq hs) t).mpr ⟨m,Pc⟩
    have PU:z∈js:=t.HF (hg.gd _ hm) hz
    simp only[Bd.tl,fy]
    refine eV hn2 (hg.jw z PU) hh ?_
    by_cases hin:z∈hs
    ·simp only[hin,V4,UO,UT,Tu,Ub]
     exact cont (fun _ z' m' e=>by cases e;exact hin) _ _ rfl
    ·simp only[hin,W5,UO,UD,Ua]
     obtain⟨kk,hk1,hk2⟩:=qU PU
     simp only[ar,aC,ak,xE,ag,v3,lk,c3,af,eU,fy,ya,iK,jG]
     refine⟨kk,hk1,hk2,?_⟩
     simp only[ab,ak,ag,v3,lk,c3,af,fy,aC]
     refine On (hg.dp _ hm) (by have:t.size<=60:=hg.sz _ hm;omega) hup fun S4 X4=>?_
     exact k1 kk z _ _ S4 (X1.trans (X2.trans X4)) hk1 ⟨done.length,Je.length,dn,t,m,rfl,rfl,hs',hu⟩ hin
   ·rw[if_neg LU,if_neg (by decide),<-Bd.K7]
    exact cont (fun _ z m e=>absurd (by rw[e];rfl) LU) _ _ rfl
  ·rintro σ S3 ⟨y4,y5,y6,rfl,rfl,hd2⟩
   have ln:(L3.bc ((t.pr (mq hs) true).map io)).length=(t.pr (mq hs) true).length:=by unfold L3.bc;rw[WI,Ti]
   rw[ln,Wq]at hd2
   refine hK _ _ ⟨_,_,_,_,_,rfl,X1.trans X2,by rw[Te];exact hlt,fun p hp z hz=>?_⟩
   rw[Te,TH,V2,hs',Tj]at hp
   rcases hp with hp|hp
   ·exact hd p hp z hz
   ·have:p=(dn,t):=by simpa using hp
    subst this
    obtain⟨m,hm'⟩:=(Bd.Ic (mq hs) t).mp hz
    exact hd2 z m hm'
 ·rintro σ S1 ⟨x2,x3,x4,x5,x6,rfl,X1,hl,hd⟩
  refine hN _ _ ?_
  have ln:(L3.bc (ds.map iM)).length=ds.length:=by unfold L3.bc;rw[WI,Ti]
  rw[ln,Wq]at hd
  walk_at "x"
  refine k0 S1 X1 fun z hz=>?_
  obtain⟨p,hp,hz⟩:=U8.mp hz
  exact hd p hp z hz
def qV(js:Vs)(ds:List (Str×Bd))(hs:Vs)(v:PV)(z:Str):Prop:=∃(k:Nat) (d tr:PV),v = .tup [.int (k:Int),d,tr]/\js[k]?=some z/\ME ds hs d tr z
abbrev lC(w:au):Prop:=∀{S:az} {js:Vs} {ds:List (Str×Bd)} {Q:bn} {E:bJ},HG js ds->
  (∀p (vs:List PV) (hs:Vs) S',S p=none->Ext S S'->S' p=some (.lst vs)->vs.length=hs.length->(∀(j:Nat) v z,vs[j]?=some v->hs[j]?=some z->qV js ds (hs.take j) v z)->Fs ds hs->hs.Nodup->(∀z∈hs,z∈js)->(∀z∈Il (mq hs) ds,z∈hs)->Q (.ref p) S')->w [cU js ds] S Q E
def KB{xn:au}(LQ:mV xn):lC (aR 4 (kO xn)):=by
 intro S js ds Q E hg k
 unfold kO
 refine cJ ?_
 rw[show ap 4 [cU js ds]=[some (cU js ds),none,none,none] from rfl]
 refine aj fun N hN=>?_
 walk_at "x"
 intro pf hpf
 refine hN _ _ (aj fun N hN=>?_)
 walk_at "x"
 intro pn OX
 have QR:pf≠pn:=fun e=>by rw[<-e,aa]at OX;cases OX
 have X0:Ext S (Hk (Hk S pf (.lst [])) pn (.lst [])):=(Ext.new hpf).trans (.new OX)
 have f0:(Hk (Hk S pf (.lst [])) pn (.lst [])) pf=some (.lst []):=by rw[aD QR,aa]
 have n0:(Hk (Hk S pf (.lst [])) pn (.lst [])) pn=some (.lst ([].map PV.str)):=aa
 have QS:S pn=none:=(Ext.new hpf).free OX
 generalize Hk (Hk S pf (.lst [])) pn (.lst [])=S0 at X0 f0 n0
 refine hN _ _ (aj fun N hN=>?_)
 -- what holds Pd the next step is known
 have I0:∀(v:PV) (S1:az) (vs:List PV) (hs:Vs) (N':cy->az->Prop),True:=fun _ _ _ _ _=>trivial
 have RD:∀(S1:az) (vs:List PV) (hs:Vs) (R:PV->az->Prop),Ext S S1->S1 pf=some (.lst vs)->S1 pn=some (.lst (hs.map PV.str))->vs.length=hs.length->(∀(j:Nat) v z,vs[j]?=some v->hs[j]?=some z->qV js ds (hs.take j) v z)->Fs ds hs->hs.Nodup->(∀z∈hs,z∈js)->
   (∀v S2,Ext S S2->S2 pf=some (.lst vs)->S2 pn=some (.lst (hs.map PV.str))->((v = .non/\∀z∈Il (mq hs) ds,z∈hs)\/(∃z,qV js ds hs v z/\z ∉ hs/\z∈js))->R v S2)->xn [cU js ds,.ref pn] S1 R fK:=by
  intro S1 vs hs R X1 f1 n1 h1 h2 h3 h4 h5 kk
  refine LQ hg (fun z hz=>hg.jw z (h5 z hz)) n1 (fun S2 X2 cl=>kk _ S2 (X1.trans X2) (X2 _ _ f1) (X2 _ _ n1) (.inl ⟨rfl,cl⟩)) fun kx z d tr S2 X2 a1 a2 a3=>?_
  exact kk _ S2 (X1.trans X2) (X2 _ _ f1) (X2 _ _ n1) (.inr ⟨z,⟨kx,d,tr,rfl,a1,a2⟩,a3,T9 a1⟩)
 simp only[aq,ab,ak,v3,lk]
 refine RD S0 [] [] _ X0 f0 n0 rfl (fun j v z h=>by cases h) .nil Wh (fun z h=>by cases h) fun v0 S1 X1 f1 n1 c1=>?_
 simp only[List.set_cons_succ,List.set_cons_zero]
 refine hN _ _ (aj fun N hN=>?_)
 refine⟨fun m σ S'=>∃(v:PV) (vs:List PV) (hs:Vs),σ=[some (cU js ds),some (.ref pf),some (.ref pn),some v]/\Ext S S'/\S' pf=some (.lst vs)/\S' pn=some (.lst (hs.map PV.str))/\vs.length=hs.length/\(∀(j:Nat) v z,vs[j]?=some v->hs[j]?=some z->qV js ds (hs.take j) v z)/\Fs ds hs/\hs.Nodup/\(∀z∈hs,z∈js)/\
   ((v = .non/\∀z∈Il (mq hs) ds,z∈hs)\/(∃z,qV js ds hs v z/\z ∉ hs/\z∈js))/\js.length - hs.length=m,⟨_,v0,[],[],rfl,X1,f1,n1,rfl,(fun j v z h=>by cases h),.nil,Wh,(fun z h=>by cases h),c1,rfl⟩,?_⟩
 rintro m σ S' ⟨v,vs,hs,rfl,X,f,nn,h1,h2,h3,h4,h5,c,rfl⟩
 rcases c with⟨rfl,cl⟩|⟨z,⟨kx,d,tr,rfl,hk,hx⟩,hnz,PU⟩
 ·simp only[aM,ag,v3,lk,c3,uY,bne_self_eq_false,Tu,Ub]
  refine hN _ _ ?_
  walk_at "x"
  exact k pf vs hs S' hpf X f h1 h2 h3 h4 h5 cl
 ·simp only[aM,ag,v3,lk,c3,uY,Bool.bne_false,Ua]
  refine⟨fun σ' Mq=>∃(v:PV) (vs:List PV) (hs':Vs),σ'=[some (cU js ds),some (.ref pf),some (.ref pn),some v]/\Ext S Mq/\Mq pf=some (.lst vs)/\Mq pn=some (.lst (hs'.map PV.str))/\vs.length=hs'.length/\(∀(j:Nat) v z,vs[j]?=some v->hs'[j]?=some z->qV js ds (hs'.take j) v z)/\Fs ds hs'/\hs'.Nodup/\(∀z∈hs',z∈js)/\
   ((v = .non/\∀z∈Il (mq hs') ds,z∈hs')\/(∃z,qV js ds hs' v z/\z ∉ hs'/\z∈js))/\js.length - hs'.length < js.length - hs.length,?_,?_⟩
  ·rintro σ' Mq ⟨v,vs,hs',rfl,a1,a2,a3,a4,a5,a6,a7,a8,a9,SL⟩
   exact⟨_,SL,v,vs,hs',rfl,a1,a2,a3,a4,a5,a6,a7,a8,a9,rfl⟩
  ·have hn1:(hs++[z]).Nodup:=UY.mpr ⟨h4,by simp,fun a ha b hb e=>hnz (by rw[<-Tt.mp hb,<-e];exact ha)⟩
   have hj1:∀y∈hs++[z],y∈js:=fun y hy=>(Tj.mp hy).elim (h5 y) fun h=>by rw[Tt.mp h];exact PU
   have len:=dF (hs++[z]) js hn1 hj1
   have hz:=hx.Hn
   have hjl:=hg.jl
   rw[Te,TH]at len
   refine aj fun N2 Lg=>?_
   walk_at "x"
   simp only[f,XJ]
   refine⟨TU (show _ < 1001 by omega) (by decide),Lg _ _ (aj fun N2 Lg=>?_)⟩
   have SM:pn≠pf:=VL QR
   have Xa:Ext S (Hk S' pf (.lst (vs++[.tup [.int (kx:Int),d,tr]]))):=X.put hpf
   have fa:(Hk S' pf (.lst (vs++[.tup [.int (kx:Int),d,tr]]))) pf=some (.lst (vs++[.tup [.int (kx:Int),d,tr]])):=aa
   have na:(Hk S' pf (.lst (vs++[.tup [.int (kx:Int),d,tr]]))) pn=some (.lst (hs.map PV.str)):=by rw[aD SM];exact nn
   generalize Hk S' pf (.lst (vs++[.tup [.int (kx:Int),d,tr]]))=Sa at Xa fa na
   rw[show cU js ds = .tup [ya js,.tup (ds.map iM)] from rfl]
   walk_at "x"
   simp only[na,XJ,eU,ya]
   rw[bC (v:=PV.str z) (by rw[Tv,hk];rfl)]
   simp only[na]
   refine⟨TU (show _ < 1001 by rw[Ti];omega) (by decide),Lg _ _ ?_⟩
   have Xb:Ext S (Hk Sa pn (.lst (hs.map PV.str++[.str z]))):=Xa.put QS
   have fb:(Hk Sa pn (.lst (hs.map PV.str++[.str z]))) pf=some (.lst (vs++[.tup [.int (kx:Int),d,tr]])):=by rw[aD QR];exact fa
   have nb:(Hk Sa pn (.lst (hs.map PV.str++[.str z]))) pn=some (.lst ((hs++[z]).map PV.str)):=by rw[aa,Uh];rfl
   generalize Hk Sa pn (.lst (hs.map PV.str++[.str z]))=Sb at Xb fb nb
   have st1:∀(j:Nat) v y,(vs++[.tup [.int (kx:Int),d,tr]])[j]?=some v->(hs++[z])[j]?=some y->qV js ds ((hs++[z]).take j) v y:=fun j v y hv hy=>by
    by_cases hj:j < vs.length
    ·rw[TX hj]at hv
     rw[TX (by omega)]at hy
     rw[List.take_append_of_le_length (by omega)]
     exact h2 j v y hv hy
    ·rw[T5 (by omega)]at hv
     rw[T5 (by omega)]at hy
     have e1:j - vs.length=0:=by
      have:=(TV.mp hv).1
      rw[TH]at this
      omega
     have e2:j - hs.length=0:=by omega
     rw[e1]at hv
     rw[e2]at hy
     cases hv;cases hy
     refine⟨kx,d,tr,rfl,hk,?_⟩
     rw[List.take_append_of_le_length (by omega),Vd (by omega)]
     exact hx
   simp only[aq,ab,ak,v3,lk]
   refine RD Sb _ (hs++[z]) _ Xb fb nb (by simp[h1]) st1 (.snoc h3 hz) hn1 hj1 fun v2 S2 X2 f2 n2 c2=>?_
   simp only[List.set_cons_succ,List.set_cons_zero]
   exact⟨v2,_,hs++[z],rfl,X2,f2,n2,by simp[h1],st1,.snoc h3 hz,hn1,hj1,c2,by rw[Te,TH];omega⟩
def MP(js:Vs)(ds:List (Str×Bd))(hs:Vs):Prop:=Fs ds hs/\hs.Nodup/\(∀z∈hs,z∈js)/\∀z∈Il (mq hs) ds,z∈hs
abbrev dZ(w:au):Prop:=∀{S:az} {js:Vs} {ds:List (Str×Bd)} {Q:bn} {E:bJ},HG js ds->
  (∀p (hs:Vs) S',S p=none->Ext S S'->S' p=some (.lst (hs.map PV.str))->MP js ds hs->Q (.ref p) S')->w [cU js ds] S Q E
def qW{xf:au}(KB:lC xf):dZ (aR 1 (jH xf)):=by
 intro S js ds Q E hg k
 unfold jH
 refine cJ ?_
 rw[show ap 1 [cU js ds]=[some (cU js ds)] from rfl]
 simp only[ar,aG,aF,ab,ak,v3,lk]
 refine KB hg fun p vs hs S1 hp X1 h1 hl hst f1 f2 f3 f4=>?_
 have hjl:=hg.jl
 have hle:=dF hs js f2 f3
 simp only[bu,h1]
 have ev:vs=(vs.zip hs).map Prod.fst:=by rw[XM];omega
 have eh:(vs.zip hs).map (fun z=>PV.str z.2)=hs.map PV.str:=by
  have:(vs.zip hs).map Prod.snd=hs:=by rw[XN];omega
  calc _=((vs.zip hs).map Prod.snd).map PV.str:=by rw[UP];rfl
   _=_:=by rw[this]
 have key:bY (.n 0) bx (ag af (ag af (v3 1) (c3 (.int 0))) (ag af (v3 0) (c3 (.int 0)))) (cm 1 [0] [some (cU js ds)]) (fun S'=>S' p=some (.lst vs)) (fun ys S2=>∀p,S2 p=none->Q (.ref p) (Hk S2 p (.lst ys))) ((vs.zip hs).map Prod.fst) [] S1:=by
  refine di Prod.fst (fun z=>PV.str z.2) h1 (vs.zip hs) [] (fun z hz=>?_) (by rw[Vt,Xo,Wa];exact bB (by omega)) fun q hq=>?_
  ·obtain⟨j,hj⟩:=List.getElem?_of_mem hz
   obtain⟨e1,e2⟩:=Ut.mp hj
   obtain⟨kx,d,tr,ez,hk,_⟩:=hst j _ _ e1 e2
   refine⟨_,rfl,fun Q' q'=>?_⟩
   rw[ez,show cU js ds = .tup [ya js,.tup (ds.map iM)] from rfl]
   walk_at "x"
   simp only[eU,ya]
   rw[bC (v:=PV.str z.2) (by rw[Tv,hk];rfl)]
   exact q'
  ·rw[T7,eh]
   exact k q hs _ (X1.free hq) (X1.trans (.new hq)) aa ⟨f1,f2,f3,f4⟩
 rw[<-ev]at key
 exact key
def JJ(p:Addr)(S S':az):Prop:=∀a o,S a=some o->a≠p->S' a=some o
def JJ.refl{p:Addr}{S:az}:JJ p S S:=fun _ _ h _=>h
def JJ.trans{p:Addr}{S S1 S2:az}(a:JJ p S S1)(b:JJ p S1 S2):JJ p S S2:=fun x o h n=>b x o (a x o h n) n
def JJ.upd{p:Addr}{S:az}{o:SO}:JJ p S (Hk S p o):=fun x u h n=>by rw[aD n];exact h
theorem Bd.HM(q:Qs):∀t:Bd,(t.Hn q).length<=t.size
 | .rest=>Ug _
 | .pay _ _=>Ug _
 | .put _ _=>Tq _
 | .use _=>Ug _
 | .HS a=>TR (a.HM q) (V3 _)
 | .Ho a b=>by show(a.Hn q++b.Hn q).length<=a.size+b.size+1;rw[Te];have:=a.HM q;have:=b.HM q;omega
 | .HQ a b=>by show(a.Hn q++b.Hn q).length<=a.size+b.size+1;rw[Te];have:=a.HM q;have:=b.HM q;omega
 | .Hx z m a b=>by
  show((if q z=true then a.Hn q else [])++b.Hn q).length<=a.size+b.size+1
  rw[Te]
  have:=a.HM q;have:=b.HM q
  split
  ·omega
  ·simp;omega
abbrev iQ(n:Nat)(w:au):Prop:=∀{S:az} {t:Bd} {js us hs fs:Vs} {hl fd:Addr} {Q:bn} {E:bJ},t.dep<=n->t.good js us->l4 js->l4 hs->S hl=some (.lst (hs.map PV.str))->S fd=some (.lst (fs.map PV.str))->hl≠fd->fs.length+t.size<=1000000->
  (∀S',JJ fd S S'->S' fd=some (.lst ((fs++t.Hn (mq hs)).map PV.str))->Q .non S')->w [t.pv,.ref hl,.ref fd] S Q E
def sJ:∀z∈(["then","either","take"]:Vs),PyData.strOk z=true:=by decide +kernel
def yb{s0:au}(n:Nat)(ih:iQ n s0):iQ (n+1) (aR 3 (ig s0)):=by
 intro S t js us hs fs hl fd Q E hd hg hj hh h1 h2 hne hsz k
 unfold ig
 refine cJ ?_
 rw[Bd.K7,show ap 3 [.tup (.str t.hd::t.tl),.ref hl,.ref fd]=[some (.tup (.str t.hd::t.tl)),some (.ref hl),some (.ref fd)] from rfl]
 refine aj fun N hN=>?_
 have leaf:∀S1:az,t.hd≠("often":Str)->t.hd ∉ (["then","either","take"]:Vs)->Q .non S1->N [some (.tup (.str t.hd::t.tl)),some (.ref hl),some (.ref fd)] S1:=fun S1 ho h3 q=>by
  refine hN _ _ (aj fun N hN=>?_)
  simp only[bd,aM,ag,v3,lk,c3,af,eU,bq,Tz,TF]
  rw[if_neg ho]
  refine hN _ _ ?_
  simp only[bd,aM,ag,v3,lk,c3,af,eU,aC,ak]
  rw[pH]
  refine bF t.Li sJ ?_
  simp only[h3,W5,Tz,Tu,Ub]
  exact q
 simp only[bd,aM,ag,v3,lk,c3,af,eU,bq,Tz,TF]
 by_cases LU:t.hd=("put":Str)
 ·rw[if_pos LU]
  obtain⟨z,m,rfl⟩:=(Bd.M7 t).mp LU
  simp only[bL,lz,zO,ak,ag,v3,lk,c3,af,fy,Bd.tl,bO,h2,XJ]
  have hs1:(Bd.put z m).size=1:=rfl
  refine⟨TU (show _ < 1000001 by rw[Ti];omega) (by decide),leaf _ (by simp[Bd.hd,aN]) (by simp[Bd.hd,aN]) (k _ .upd ?_)⟩
  rw[aa,Uh]
  rfl
 rw[if_neg LU]
 by_cases M8:t.hd=("often":Str)
 ·obtain⟨a,rfl⟩:=(Bd.M5 t).mp M8
  refine hN _ _ (aj fun N hN=>?_)
  simp only[bd,aM,ag,v3,lk,c3,af,eU,bq,Tz,TF]
  rw[if_pos M8]
  simp only[bL,ab,ak,ag,v3,lk,c3,af,fy,Bd.tl]
  simp only[Bd.dep]at hd
  have hs1:(Bd.HS a).size=a.size+1:=rfl
  refine ih (by omega) hg hj hh h1 h2 hne (by omega) fun S1 X1 f1=>?_
  refine hN _ _ ?_
  simp only[bd,aM,ag,v3,lk,c3,af,eU,aC,ak]
  rw[pH]
  refine bF (Bd.HS a).Li sJ ?_
  simp only[Bd.hd,aN,String.reduceEq,Th,TJ,Uq,or_self,W5,Tz,Tu,Ub]
  exact k S1 X1 f1
 by_cases h3:t.hd∈(["then","either","take"]:Vs)
 ·refine hN _ _ (aj fun N hN=>?_)
  simp only[bd,aM,ag,v3,lk,c3,af,eU,bq,Tz,TF]
  rw[if_neg M8]
  refine hN _ _ ?_
  simp only[bd,aM,ag,v3,lk,c3,af,eU,aC,ak]
  rw[pH]
  refine bF t.Li sJ ?_
  simp only[h3,V4,Tz,Ua]
  refine aj fun N2 Lg=>?_
  -- the second side
  have snd:∀(hd2:List PV) (a b:Bd) (S1:az) (PX:Vs),(.str t.hd::t.tl)=hd2++[a.pv,b.pv]->b.dep<=n->b.good js us->JJ fd S S1->S1 fd=some (.lst (PX.map PV.str))->PX.length+b.size<=1000000->PX++b.Hn (mq hs)=fs++t.Hn (mq hs)->N2 [some (.tup (.str t.hd::t.tl)),some (.ref hl),some (.ref fd)] S1:=fun hd2 a b S1 PX e1 g1 g2 X1 f1 l1 e2=>by
   refine Lg _ _ ?_
   simp only[bL,ab,ak,ag,v3,lk,c3,af,fx,bG]
   have e3:Ie (.str t.hd::t.tl) (-1)=some b.pv:=by rw[e1];have:=tZ (a:=a.pv) (b:=b.pv) (hd:=hd2) (i:=1) (.inr rfl);simpa using this
   rw[e3]
   refine ih g1 g2 hj hh (X1 _ _ h1 hne) f1 hne l1 fun S2 X2 f2=>?_
   rw[e2]at f2
   exact k S2 (X1.trans X2) f2
  have fst:∀(hd2:List PV) (a b:Bd) (Q':bn),(.str t.hd::t.tl)=hd2++[a.pv,b.pv]->a.dep<=n->a.good js us->fs.length+a.size<=1000000->(∀S1,JJ fd S S1->S1 fd=some (.lst ((fs++a.Hn (mq hs)).map PV.str))->Q' .non S1)->ab s0 [ag af (v3 0) (fx bG (c3 (.int 2))),v3 1,v3 2] [some (.tup (.str t.hd::t.tl)),some (.ref hl),some (.ref fd)] S Q' fK:=fun hd2 a b Q' e1 g1 g2 l1 kk=>by
   simp only[ab,ak,ag,v3,lk,c3,af,fx,bG]
   have e3:Ie (.str t.hd::t.tl) (-2)=some a.pv:=by rw[e1];have:=tZ (a:=a.pv) (b:=b.pv) (hd:=hd2) (i:=0) (.inl rfl);simpa using this
   rw[e3]
   exact ih g1 g2 hj hh h1 h2 hne l1 kk
  simp only[bd,lw,aM,ag,v3,lk,c3,af,eU,bq,UO,XF,decide_eq_false_iff_not,bL]
  have la:∀c:Bd,(c.Hn (mq hs)).length<=c.size:=Bd.HM (mq hs)
  cases t with
  |Ho a b=>
   have hs1:(Bd.Ho a b).size=a.size+b.size+1:=rfl
   simp only[Bd.dep]at hd
   rw[if_pos (by simp[Bd.hd,aN]),if_pos trivial]
   refine fst [.str "then"] a b _ rfl (by omega) hg.1 (by omega) fun S1 X1 f1=>?_
   exact snd [.str "then"] a b S1 _ rfl (by omega) hg.2 X1 f1 (by rw[Te];have:=la a;omega) (by rw[WW];rfl)
  |HQ a b=>
   have hs1:(Bd.HQ a b).size=a.size+b.size+1:=rfl
   simp only[Bd.dep]at hd
   rw[if_pos (by simp[Bd.hd,aN]),if_pos trivial]
   refine fst [.str "either"] a b _ rfl (by omega) hg.1 (by omega) fun S1 X1 f1=>?_
   exact snd [.str "either"] a b S1 _ rfl (by omega) hg.2 X1 f1 (by rw[Te];have:=la a;omega) (by rw[WW];rfl)
  |Hx z m a b=>
   have hs1:(Bd.Hx z m a b).size=a.size+b.size+1:=rfl
   have ep:(Bd.Hx z m a b).Hn (mq hs)=(if mq hs z=true then a.Hn (mq hs) else [])++b.Hn (mq hs):=rfl
   simp only[Bd.dep]at hd
   rw[if_neg (by simp[Bd.hd])]
   simp only[Bd.tl,fy]
   refine eV h1 (hj z hg.1) hh ?_
   by_cases hin:z∈hs
   ·simp only[hin,V4,Tz,Ua]
    rw[show mq hs z=true from TN hin,if_pos rfl]at ep
    refine fst [.str "take",.str z,.int m] a b _ rfl (by omega) hg.2.2.2.1 (by omega) fun S1 X1 f1=>?_
    exact snd [.str "take",.str z,.int m] a b S1 _ rfl (by omega) hg.2.2.2.2 X1 f1 (by rw[Te];have:=la a;omega) (by rw[ep,WW])
   ·simp only[hin,W5,Tz,Tu,Ub]
    rw[show mq hs z=false from Tw hin,if_neg (by decide),T7]at ep
    exact snd [.str "take",.str z,.int m] a b S fs rfl (by omega) hg.2.2.2.2 .refl h2 (by omega) (by rw[ep])
  |_=>simp[Bd.hd,aN]at h3
 ·refine leaf S M8 h3 (k S .refl ?_)
  have e:t.Hn (mq hs)=[]:=by cases t<;>first|rfl|exact absurd rfl LU|exact absurd rfl M8|simp[Bd.hd]at h3
  rw[e,TY]
  exact h2
theorem oD{js:Vs}{ds:List (Str×Bd)}(hg:HG js ds)(q:Qs):∀n,n<=ds.length->(Il q (ds.take n)).length<=60 * n
 |0,_=>by simp[Il]
 |n+1,h=>by
  have ih:=oD hg q n (by omega)
  have hlt:n < ds.length:=by omega
  unfold Il at *
  rw[V2,Tp hlt,VB,Te]
  have h1:=Bd.HM q ds[n].2
  have h2:ds[n].2.size<=60:=hg.sz _ (VG hlt)
  simp only[Option.toList_some,List.flatMap_cons,List.flatMap_nil,TY]
  omega
theorem pK{js:Vs}{ds:List (Str×Bd)}(hg:HG js ds):∀k,∀z∈held ds k,z∈js
 |0,z,h=>by cases h
 |k+1,z,h=>by
  obtain⟨p,hp,hz⟩:=U8.mp h
  exact p.2.HF (hg.gd p hp) hz
abbrev iR(w:au):Prop:=∀{S:az} {js:Vs} {ds:List (Str×Bd)} {Q:bn} {E:bJ},HG js ds->(∀p S',S p=none->Ext S S'->S' p=some (.lst ((held ds js.length).map PV.str))->Q (.ref p) S')->w [cU js ds] S Q E
def yc{xp:au}(NH:iQ 6 xp):iR (aR 6 (dJ xp)):=by
 intro S js ds Q E hg k
 unfold dJ
 refine cJ ?_
 rw[show ap 6 [cU js ds]=[some (.tup [ya js,.tup (ds.map iM)]),none,none,none,none,none] from rfl]
 have hdl:=hg.dl
 refine aj fun N hN=>?_
 walk_at "x"
 intro p0 hp0
 have X0:Ext S (Hk S p0 (.lst [])):=.new hp0
 have f0:(Hk S p0 (.lst [])) p0=some (.lst ((held ds 0).map PV.str)):=aa
 generalize Hk S p0 (.lst [])=S0 at X0 f0
 refine hN _ _ (aj fun N hN=>?_)
 simp only[b_,aF,ag,v3,lk,c3,af,eU,ya,bu]
 refine bP (fun done σ S'=>∃(p:Addr) (x2 x3 x4 x5:Option PV),σ=[some (.tup [.tup (js.map PV.str),.tup (ds.map iM)]),some (.ref p),x2,x3,x4,x5]/\S p=none/\Ext S S'/\S' p=some (.lst ((held ds done.length).map PV.str))) ⟨p0,_,_,_,_,rfl,hp0,X0,f0⟩ (fun _ _ _ _=>trivial) ?_ ?_
 ·rintro done x rest σ S1 K e ⟨p,x2,x3,x4,x5,rfl,hp,X1,f1⟩ hK
  simp only[Tg.put,List.set_cons_succ,List.set_cons_zero]
  refine aj fun N2 Lg=>?_
  walk_at "x"
  intro pf hpf
  have QT:p≠pf:=fun h=>by rw[h,hpf]at f1;cases f1
  have Pe:S pf=none:=X1.free hpf
  have X2:Ext S (Hk S1 pf (.lst [])):=X1.trans (.new hpf)
  have f2:(Hk S1 pf (.lst [])) p=some (.lst ((held ds done.length).map PV.str)):=by rw[aD QT];exact f1
  have g2:(Hk S1 pf (.lst [])) pf=some (.lst (([]:Vs).map PV.str)):=aa
  generalize Hk S1 pf (.lst [])=S2 at X2 f2 g2
  refine Lg _ _ (aj fun N2 Lg=>?_)
  simp only[b_,aF,ag,v3,lk,c3,af,fy,bu]
  have hJ:l4 (held ds done.length):=fun z hz=>hg.jw z (pK hg _ z hz)
  refine bP (fun Je σ S'=>∃(x4 x5:Option PV),σ=[some (.tup [.tup (js.map PV.str),.tup (ds.map iM)]),some (.ref p),some x,some (.ref pf),x4,x5]/\Je.length<=ds.length/\JJ pf S2 S'/\S' pf=some (.lst ((Il (mq (held ds done.length)) (ds.take Je.length)).map PV.str))) ⟨_,_,rfl,Ug _,.refl,by simpa [Il]using g2⟩ (fun _ _ _ _=>trivial) ?_ ?_
  ·rintro Je y NU σ S3 K2 e2 ⟨x4,x5,rfl,hl2,X3,f3⟩ Pb
   have hy:(ds.map iM)[Je.length]?=some y:=by rw[e2];simp
   rw[Tv]at hy
   cases hd:ds[Je.length]? with
   |none=>rw[hd]at hy;cases hy
   |some q=>
   rw[hd]at hy
   cases hy
   obtain⟨dn,t⟩:=q
   have hlt:Je.length < ds.length:=(TV.mp hd).1
   have hm:(dn,t)∈ds:=T9 hd
   simp only[iM,Tg.put,Tg.Hn,List.set_cons_succ,List.set_cons_zero]
   simp only[bL,ab,ak,v3,lk]
   have lb:=oD hg (mq (held ds done.length)) Je.length hl2
   refine NH (hg.dp _ hm) (hg.gd _ hm) hg.jw hJ (X3 _ _ f2 QT) f3 QT (by have:t.size<=60:=hg.sz _ hm;omega) fun S4 X4 f4=>?_
   refine Pb _ _ ⟨_,_,rfl,by rw[Te];exact hlt,X3.trans X4,?_⟩
   rw[f4,Te,TH]
   congr 3
   unfold Il
   rw[V2,hd,VB]
   simp
  ·rintro σ S3 ⟨x4,x5,rfl,hl2,X3,f3⟩
   rw[Ti,Wq]at f3
   refine Lg _ _ ?_
   walk_at "x"
   refine hK _ _ ⟨pf,_,_,_,_,rfl,Pe,fun a o h=>X3 a o (X2 a o h) (fun e=>by rw[e,Pe]at h;cases h),?_⟩
   rw[f3,Te,TH]
   rfl
 ·rintro σ S1 ⟨p,x2,x3,x4,x5,rfl,hp,X1,f1⟩
  refine hN _ _ ?_
  walk_at "x"
  rw[Ti]at f1
  exact k p S1 hp X1 f1
def yd{α:Type}{xs:List α}{y:α}:Ie (xs++[y]) (-1)=some y:=by
 unfold Ie uH
 rw[if_neg (by omega),if_pos (by simp;omega)]
 have:(-1+((xs++[y]).length:Int)).toNat=xs.length:=by simp;omega
 rw[this]
 show(xs++[y])[xs.length]?=some y
 simp
def Di{α:Type}{xs:List α}:b9 xs none (some (-1))=xs.take (xs.length - 1):=by
 unfold b9
 rw[HT.jR,List.drop_zero,Nat.sub_zero]
 congr 1
 have:HT.H_ xs.length xs.length (some (-1))=if (-1:Int) < 0 then (-1+((xs.length:Nat):Int)).toNat else min (-1:Int).toNat xs.length:=rfl
 rw[this,if_pos (by decide)]
 omega
def MP.ok{js:Vs}{ds:List (Str×Bd)}{hs:Vs}(h:MP js ds hs)(hj:l4 js):l4 hs:=fun z hz=>hj z (h.2.2.1 z hz)
abbrev Nb:=(Bd×Bool)×Nat
theorem fW{α:Type}{g:Tg}{tc:kw}{te:aZ}{σ':cy}{keep:az->Prop}{fin:List PV->az->Prop}{S:az}(enc f:α->PV)(c:α->Bool)(hk:keep S):∀(xs:List α) (ys:List PV),
  (∀x∈xs,∃σ2,g.put (enc x) σ'=some σ2/\(∀K:Bool->az->Prop,K (c x) S->tc σ2 S K fK)/\(c x=true->∀Q:bn,Q (f x) S->te σ2 S Q fK))->ys.length+xs.length<=sizeLine->fin (ys++(xs.filter c).map f) S->bY g tc te σ' keep fin (xs.map enc) ys S
 |[],ys,_,hl,hf=>⟨hk,by simpa using hl,by simpa using hf⟩
 |x::r,ys,h,hl,hf=>by
  obtain⟨σ2,e,h1,h2⟩:=h x (by simp)
  refine⟨hk,by simp at hl;omega,?_⟩
  rw[e]
  refine h1 _ ?_
  by_cases hc:c x=true
  ·rw[if_pos hc]
   refine h2 hc _ (fW enc f c hk r (ys++[f x]) (fun y hy=>h y (by simp[hy])) (by simp at hl ⊢;omega) ?_)
   rw[T3 hc]at hf
   simpa using hf
  ·rw[if_neg hc]
   refine fW enc f c hk r ys (fun y hy=>h y (by simp[hy])) (by simp at hl;omega) ?_
   rw[UJ hc]at hf
   exact hf
def pL{α:Type}(enc:α->PV)(xs:List α):L3.bc (xs.map enc)=xs.zipIdx.map fun c=>.tup [.int (c.2:Int),enc c.1]:=by
 unfold L3.bc
 rw[List.mapIdx_eq_zipIdx_map,List.zipIdx_map,UP]
 rfl
noncomputable def Bd.rws(q:Qs)(t:Bd)(r:Bool):List (Bd×Bool):=(t.pr q r).filter fun p=>p.1.IL
noncomputable def ip(k:Nat)(l:List (Bd×Bool)):List PV:=((l.zipIdx k).filter fun c=>c.1.2).map fun c=>.int (c.2:Int)
noncomputable def Bd.L9(q:Qs)(t:Bd):List PV:=ip 0 (t.rws q true)++[.int ((t.rws q true).length:Int)]
def iS(k:Nat)(p:Bd×Bool)(l:List (Bd×Bool)):ip k (p::l)=(if p.2 then [.int (k:Int)] else [])++ip (k+1) l:=by
 unfold ip
 rw[List.zipIdx_cons,Xg]
 split<;>rfl
def qX(k:Nat)(l:List (Bd×Bool)):(ip k l).length<=l.length:=by
 unfold ip
 rw[Ti]
 exact TR (Vg _ _) (XO List.length_zipIdx)
def t7(q:Qs)(t:Bd)(r:Bool):(t.rws q r).length<=t.size:=TR (Vg _ _) (XO (t.Jd q r))
def Aw(q:Qs)(t:Bd):(t.L9 q).length<=t.size+1:=by
 unfold Bd.L9
 rw[Te]
 have:=qX 0 (t.rws q true);have:=t7 q t true
 simp;omega
abbrev k5(w:au):Prop:=∀{S:az} {t:Bd} {js us hs:Vs} {nm:Addr} {Q:bn} {E:bJ},t.dep<=6->t.size<=900->t.good js us->l4 js->l4 hs->S nm=some (.lst (hs.map PV.str))->
  (∀S',Ext S S'->Q (.tup (t.L9 (mq hs))) S')->w [t.pv,.ref nm] S Q E
def ye{xp xh:au}(Mm:mU 6 xp)(Pf:fV xh):k5 (aR 4 (eA xp xh)):=by
 intro S t js us hs nm Q E hd hz hg hj hh hn k
 unfold eA
 refine cJ ?_
 rw[show ap 4 [t.pv,.ref nm]=[some t.pv,some (.ref nm),none,none] from rfl]
 refine aj fun N hN=>?_
 simp only[aq,aG,aF,kN,ak,v3,lk,List.cons_append,List.nil_append]
 refine Mm hd hz hg hj hh hn fun p S1 hp X1 f1=>?_
 simp only[bu,f1]
 have hpl:=t.Jd (mq hs) true
 refine fW io io (fun p=>p.1.IL) f1 (t.pr (mq hs) true) [] (fun x hx=>⟨_,rfl,?_,fun _ Q q=>q⟩) (bB (by rw[Vt,Xo,hpl];omega)) ?_
 ·intro K hK
  simp only[aM,ab,ak,ag,v3,lk,c3,af,io,cm,List.reduceReplicate,TZ,TY,List.set_cons_zero,eU]
  exact Pf hK
 intro p2 hp2
 rw[T7]
 have X2:Ext S1 (Hk S1 p2 (.lst ((t.rws (mq hs) true).map io))):=.new hp2
 have f2:(Hk S1 p2 (.lst ((t.rws (mq hs) true).map io))) p2=some (.lst ((t.rws (mq hs) true).map io)):=aa
 show N _ (Hk S1 p2 (.lst ((t.rws (mq hs) true).map io)))
 generalize Hk S1 p2 (.lst ((t.rws (mq hs) true).map io))=S2 at X2 f2
 refine hN _ _ (aj fun N hN=>?_)
 simp only[aq,aG,gZ,v3,lk,List.set_cons_zero,List.set_cons_succ,f2]
 rw[pL]
 have hol:(t.rws (mq hs) true).length<=900:=TR (t7 _ _ _) hz
 refine fW (fun c:Nb=>.tup [.int (c.2:Int),io c.1]) (fun c=>.int (c.2:Int)) (fun c=>c.1.2) f2 (t.rws (mq hs) true).zipIdx [] (fun c hc=>⟨_,rfl,?_,fun _ Q q=>q⟩) (bB (by rw[Vt,Xo,List.length_zipIdx];omega)) ?_
 ·intro K hK
  simp only[aM,ag,v3,lk,c3,af,io,cm,List.reduceReplicate,TZ,TY,List.set_cons_zero,List.set_cons_succ,fy]
  exact hK
 intro p3 hp3
 rw[T7]
 have X3:Ext S2 (Hk S2 p3 (.lst (ip 0 (t.rws (mq hs) true)))):=.new hp3
 have f3:(Hk S2 p3 (.lst (ip 0 (t.rws (mq hs) true)))) p3=some (.lst (ip 0 (t.rws (mq hs) true))):=aa
 have f32:=X3 _ _ f2
 show N _ (Hk S2 p3 (.lst (ip 0 (t.rws (mq hs) true))))
 generalize Hk S2 p3 (.lst (ip 0 (t.rws (mq hs) true)))=S3 at X3 f3 f32
 refine hN _ _ ?_
 simp only[ar,al,ak,ag,bb,v3,lk,bA,List.set_cons_zero,List.set_cons_succ,f32,Ti]
 intro p4 Lv
 have n4:p3≠p4:=fun h=>by rw[h,Lv]at f3;cases f3
 simp only[aK,aD n4,f3,aa]
 refine⟨bB (by have:=qX 0 (t.rws (mq hs) true);rw[TH];omega),fun p5 OG=>?_⟩
 simp only[aP,i4,aa]
 exact k _ ((X1.trans (X2.trans X3)).trans ((Ext.new Lv).trans (.new OG)))
abbrev k6(w:au):Prop:=∀{S:az} {js:Vs} {ds:List (Str×Bd)} {Q:bn} {E:bJ},HG js ds->
  (∀hs S',MP js ds hs->Ext S S'->Q (.tup (ds.map fun p=>.tup (p.2.L9 (mq hs)))) S')->w [cU js ds] S Q E
def yf{xf xr:au}(JK:dZ xf)(NI:k5 xr):k6 (aR 2 (eB xf xr)):=by
 intro S js ds Q E hG k
 unfold eB
 refine cJ ?_
 rw[show ap 2 [cU js ds]=[some (.tup [.tup (js.map PV.str),.tup (ds.map iM)]),none] from rfl]
 refine aj fun N hN=>?_
 simp only[aq,ab,ak,v3,lk]
 refine JK hG fun nm hs S1 hnm X1 QU hf=>?_
 have hh:=hf.ok hG.jw
 refine hN _ _ ?_
 simp only[ar,al,ak,aG,aF,ag,v3,lk,c3,af,fy,bu,List.set_cons_zero,List.set_cons_succ]
 refine ik (fun done ys S'=>Ext S1 S'/\done.length<=ds.length/\ys=(ds.take done.length).map fun p=>.tup (p.2.L9 (mq hs))) ⟨.refl,Ug _,rfl⟩ (fun done ys S' ⟨X,l,e⟩=>⟨trivial,bB (by rw[e,Ti,VE];have:=hG.dl;omega)⟩) ?_ ?_
 ·rintro done x rest ys S' K e ⟨X,l,rfl⟩ hK
  have hget:(ds.map iM)[done.length]?=some x:=by rw[e];simp
  obtain⟨p,hp,rfl⟩:∃p,ds[done.length]?=some p/\iM p=x:=by rw[Tv]at hget;exact UC.mp hget
  have hm:=T9 hp
  have hlt:done.length < ds.length:=(TV.mp hp).1
  simp only[iM,Tg.put,cm,List.reduceReplicate,TQ,TZ,List.cons_append,List.nil_append,List.set_cons_zero,List.set_cons_succ,lk,bx,Ua,ab,ak,ag,c3,v3,af,fy,List.getElem?_cons_zero,List.getElem?_cons_succ,Option.join]
  refine NI (hG.dp p hm) (TR (hG.sz p hm) (by decide)) (hG.gd p hm) hG.jw hh (X _ _ QU) fun S2 X2=>hK _ _ ⟨X.trans X2,by rw[Te,TH];omega,?_⟩
  rw[Te,TH,V2,hp,Uh];rfl
 ·rintro ys S' ⟨X,_,rfl⟩ q hq
  rw[Ti,Wq]
  simp only[aP,i4,aa]
  exact k hs _ hf (X1.trans (X.trans (.new hq)))
end C
namespace C
open PySem L2 L3
noncomputable def Bd.mk(q:Qs):Bd->Int->List Int
 | .rest,_=>[]
 | .pay _ _,f=>[f]
 | .put _ _,f=>[f]
 | .use _,f=>[f]
 | .HS a,f=>f::a.mk q (f+1)
 | .Ho a b,f=>a.mk q f++b.mk q (f+a.rows)
 | .HQ a b,f=>f::(a.mk q (f+1)++b.mk q (f+1+a.rows))
 | .Hx z _ a b,f=>f::((if q z then a.mk q (f+1) else [])++b.mk q (f+1+a.rows))
noncomputable def Bd.ed(q:Qs):Bd->Int->Int->Int->Int->Prop
 | .rest,_,_,_,_=>False
 | .pay _ _,f,n,i,j=>i=f/\j=n
 | .put _ _,f,n,i,j=>i=f/\j=n
 | .use _,f,n,i,j=>i=f/\j=n
 | .HS a,f,n,i,j=>(i=f/\(j=a.beg (f+1) f\/j=n))\/a.ed q (f+1) f i j
 | .Ho a b,f,n,i,j=>a.ed q f (b.beg (f+a.rows) n) i j\/b.ed q (f+a.rows) n i j
 | .HQ a b,f,n,i,j=>(i=f/\(j=a.beg (f+1) n\/j=b.beg (f+1+a.rows) n))\/a.ed q (f+1) n i j\/b.ed q (f+1+a.rows) n i j
 | .Hx z _ a b,f,n,i,j=>(i=f/\((q z=true/\j=a.beg (f+1) n)\/j=b.beg (f+1+a.rows) n))\/a.ed q (f+1) n i j\/b.ed q (f+1+a.rows) n i j
theorem Bd.Hw(q:Qs):∀(t:Bd) (f i:Int),i∈t.mk q f->f<=i/\i < f+t.rows
 | .rest,f,i,h=>by simp[Bd.mk]at h
 | .pay _ _,f,i,h=>by simp[Bd.mk]at h;subst h;simp only[Bd.rows];omega
 | .put _ _,f,i,h=>by simp[Bd.mk]at h;subst h;simp only[Bd.rows];omega
 | .use _,f,i,h=>by simp[Bd.mk]at h;subst h;simp only[Bd.rows];omega
 | .HS a,f,i,h=>by
  simp only[Bd.mk,Th]at h
  simp only[Bd.rows]
  rcases h with rfl|h
  ·omega
  ·have:=a.Hw q _ i h;omega
 | .Ho a b,f,i,h=>by
  simp only[Bd.mk,Tj]at h
  simp only[Bd.rows]
  rcases h with h|h
  ·have:=a.Hw q _ i h;omega
  ·have:=b.Hw q _ i h;omega
 | .HQ a b,f,i,h=>by
  simp only[Bd.mk,Th,Tj]at h
  simp only[Bd.rows]
  rcases h with rfl|h|h
  ·omega
  ·have:=a.Hw q _ i h;omega
  ·have:=b.Hw q _ i h;omega
 | .Hx z m a b,f,i,h=>by
  simp only[Bd.mk,Th,Tj]at h
  simp only[Bd.rows]
  rcases h with rfl|h|h
  ·omega
  ·split at h
   ·have:=a.Hw q _ i h;omega
   ·simp at h
  ·have:=b.Hw q _ i h;omega
theorem Bd.HH(q:Qs):∀(t:Bd) (f n i j:Int),t.ed q f n i j->f<=i/\i < f+t.rows
 | .rest,f,n,i,j,h=>by simp[Bd.ed]at h
 | .pay _ _,f,n,i,j,h=>by simp only[Bd.ed]at h;simp only[Bd.rows];omega
 | .put _ _,f,n,i,j,h=>by simp only[Bd.ed]at h;simp only[Bd.rows];omega
 | .use _,f,n,i,j,h=>by simp only[Bd.ed]at h;simp only[Bd.rows];omega
 | .HS a,f,n,i,j,h=>by
  simp only[Bd.ed]at h
  simp only[Bd.rows]
  rcases h with h|h
  ·omega
  ·have:=a.HH q _ _ i j h;omega
 | .Ho a b,f,n,i,j,h=>by
  simp only[Bd.ed]at h
  simp only[Bd.rows]
  rcases h with h|h
  ·have:=a.HH q _ _ i j h;omega
  ·have:=b.HH q _ _ i j h;omega
 | .HQ a b,f,n,i,j,h=>by
  simp only[Bd.ed]at h
  simp only[Bd.rows]
  rcases h with h|h|h
  ·omega
  ·have:=a.HH q _ _ i j h;omega
  ·have:=b.HH q _ _ i j h;omega
 | .Hx z m a b,f,n,i,j,h=>by
  simp only[Bd.ed]at h
  simp only[Bd.rows]
  rcases h with h|h|h
  ·omega
  ·have:=a.HH q _ _ i j h;omega
  ·have:=b.HH q _ _ i j h;omega
theorem Bd.Mt(q:Qs):∀(t:Bd) (f:Int),t.rows≠0->f∈t.mk q f
 | .rest,f,h=>by simp[Bd.rows]at h
 | .pay _ _,f,_=>by simp[Bd.mk]
 | .put _ _,f,_=>by simp[Bd.mk]
 | .use _,f,_=>by simp[Bd.mk]
 | .HS a,f,_=>by simp[Bd.mk]
 | .HQ a b,f,_=>by simp[Bd.mk]
 | .Hx _ _ a b,f,_=>by simp[Bd.mk]
 | .Ho a b,f,h=>by
  simp only[Bd.mk,Tj]
  simp only[Bd.rows]at h
  by_cases ha:a.rows=0
  ·right
   rw[ha]
   simpa using b.Mt q f (by omega)
  ·exact .inl (a.Mt q f ha)
def Bd.JL(q:Qs)(t:Bd)(f n:Int):t.beg f n∈t.mk q f\/t.beg f n=n:=by
 unfold Bd.beg
 split
 ·exact .inr rfl
 ·rename_i h;exact .inl (t.Mt q f h)
theorem Bd.K8(q:Qs):∀(t:Bd) (f n i j:Int),i∈t.mk q f->t.ed q f n i j->j∈t.mk q f\/j=n
 | .rest,f,n,i,j,h,_=>by simp[Bd.mk]at h
 | .pay _ _,f,n,i,j,_,e=>by simp only[Bd.ed]at e;exact .inr e.2
 | .put _ _,f,n,i,j,_,e=>by simp only[Bd.ed]at e;exact .inr e.2
 | .use _,f,n,i,j,_,e=>by simp only[Bd.ed]at e;exact .inr e.2
 | .HS a,f,n,i,j,h,e=>by
  simp only[Bd.ed]at e
  simp only[Bd.mk,Th]at h ⊢
  rcases e with⟨_,e|e⟩|e
  ·subst e
   rcases a.JL q (f+1) f with h|h
   ·exact .inl (.inr h)
   ·exact .inl (.inl h)
  ·exact .inr e
  ·have r:=a.HH q _ _ i j e
   rcases h with h|h
   ·omega
   ·rcases a.K8 q _ _ i j h e with h|h
    ·exact .inl (.inr h)
    ·exact .inl (.inl h)
 | .Ho a b,f,n,i,j,h,e=>by
  simp only[Bd.ed]at e
  simp only[Bd.mk,Tj]at h ⊢
  rcases e with e|e
  ·have r:=a.HH q _ _ i j e
   rcases h with h|h
   ·rcases a.K8 q _ _ i j h e with h|h
    ·exact .inl (.inl h)
    ·rw[h]
     rcases b.JL q (f+a.rows) n with h|h
     ·exact .inl (.inr h)
     ·exact .inr h
   ·have:=b.Hw q _ i h;omega
  ·have r:=b.HH q _ _ i j e
   rcases h with h|h
   ·have:=a.Hw q _ i h;omega
   ·rcases b.K8 q _ _ i j h e with h|h
    ·exact .inl (.inr h)
    ·exact .inr h
 | .HQ a b,f,n,i,j,h,e=>by
  simp only[Bd.ed]at e
  simp only[Bd.mk,Th,Tj]at h ⊢
  rcases e with⟨_,e|e⟩|e|e
  ·rw[e]
   rcases a.JL q (f+1) n with h|h
   ·exact .inl (.inr (.inl h))
   ·exact .inr h
  ·rw[e]
   rcases b.JL q (f+1+a.rows) n with h|h
   ·exact .inl (.inr (.inr h))
   ·exact .inr h
  ·have r:=a.HH q _ _ i j e
   rcases h with h|h|h
   ·omega
   ·rcases a.K8 q _ _ i j h e with h|h
    ·exact .inl (.inr (.inl h))
    ·exact .inr h
   ·have:=b.Hw q _ i h;omega
  ·have r:=b.HH q _ _ i j e
   rcases h with h|h|h
   ·omega
   ·have:=a.Hw q _ i h;omega
   ·rcases b.K8 q _ _ i j h e with h|h
    ·exact .inl (.inr (.inr h))
    ·exact .inr h
 | .Hx z m a b,f,n,i,j,h,e=>by
  simp only[Bd.ed]at e
  simp only[Bd.mk,Th,Tj]at h ⊢
  rcases e with⟨_,⟨hz,e⟩|e⟩|e|e
  ·rw[e,if_pos hz]
   rcases a.JL q (f+1) n with h|h
   ·exact .inl (.inr (.inl h))
   ·exact .inr h
  ·rw[e]
   rcases b.JL q (f+1+a.rows) n with h|h
   ·exact .inl (.inr (.inr h))
   ·exact .inr h
  ·have r:=a.HH q _ _ i j e
   rcases h with h|h|h
   ·omega
   ·split at h
    ·rename_i hz
     rcases a.K8 q _ _ i j h e with h|h
     ·exact .inl (.inr (.inl (by rw[if_pos hz];exact h)))
     ·exact .inr h
    ·simp at h
   ·have:=b.Hw q _ i h;omega
  ·have r:=b.HH q _ _ i j e
   rcases h with h|h|h
   ·omega
   ·split at h
    ·have:=a.Hw q _ i h;omega
    ·simp at h
   ·rcases b.K8 q _ _ i j h e with h|h
    ·exact .inl (.inr (.inr h))
    ·exact .inr h
inductive Rt (E:Int->Int->Prop) (s:Int):Int->Prop
 |here:Rt E s s
 |on {i j:Int} (h:Rt E s i) (e:E i j):Rt E s j
theorem Rt.trans{E:Int->Int->Prop}{s i:Int}(h:Rt E s i):∀{j:Int},Rt E i j->Rt E s j
 |_,.here=>h
 |_,.on g e=>.on (h.trans g) e
theorem Rt.mono{E E':Int->Int->Prop}(m:∀i j,E i j->E' i j){s:Int}:∀{j:Int},Rt E s j->Rt E' s j
 |_,.here=>.here
 |_,.on g e=>.on (Rt.mono m g) (m _ _ e)
theorem Bd.Ka(q:Qs):∀(t:Bd) (f n:Int),(∀i∈t.mk q f,Rt (t.ed q f n) (t.beg f n) i)/\Rt (t.ed q f n) (t.beg f n) n
 | .rest,f,n=>⟨fun i h=>by simp[Bd.mk]at h,.here⟩
 | .pay _ _,f,n=>⟨fun i h=>by simp[Bd.mk]at h;subst h;exact .here,.on .here ⟨rfl,rfl⟩⟩
 | .put _ _,f,n=>⟨fun i h=>by simp[Bd.mk]at h;subst h;exact .here,.on .here ⟨rfl,rfl⟩⟩
 | .use _,f,n=>⟨fun i h=>by simp[Bd.mk]at h;subst h;exact .here,.on .here ⟨rfl,rfl⟩⟩
 | .HS a,f,n=>by
  obtain⟨h1,h2⟩:=a.Ka q (f+1) f
  have e:(Bd.HS a).beg f n=f:=by simp[Bd.beg,Bd.rows]
  rw[e]
  have m:∀i j,a.ed q (f+1) f i j->(Bd.HS a).ed q f n i j:=fun i j h=>.inr h
  refine⟨fun i h=>?_,.on .here (.inl ⟨rfl,.inr rfl⟩)⟩
  simp only[Bd.mk,Th]at h
  rcases h with rfl|h
  ·exact .here
  ·exact(Rt.on .here (.inl ⟨rfl,.inl rfl⟩)).trans ((h1 i h).mono m)
 | .Ho a b,f,n=>by
  obtain⟨h1,h2⟩:=a.Ka q f (b.beg (f+a.rows) n)
  obtain⟨g1,g2⟩:=b.Ka q (f+a.rows) n
  have e:(Bd.Ho a b).beg f n=a.beg f (b.beg (f+a.rows) n):=by
   unfold Bd.beg
   simp only[Bd.rows]
   by_cases ha:a.rows=0
   ·simp[ha]
   ·simp[ha]
  rw[e]
  have m1:∀i j,a.ed q f (b.beg (f+a.rows) n) i j->(Bd.Ho a b).ed q f n i j:=fun i j h=>.inl h
  have m2:∀i j,b.ed q (f+a.rows) n i j->(Bd.Ho a b).ed q f n i j:=fun i j h=>.inr h
  refine⟨fun i h=>?_,(h2.mono m1).trans (g2.mono m2)⟩
  simp only[Bd.mk,Tj]at h
  rcases h with h|h
  ·exact(h1 i h).mono m1
  ·exact(h2.mono m1).trans ((g1 i h).mono m2)
 | .HQ a b,f,n=>by
  obtain⟨h1,h2⟩:=a.Ka q (f+1) n
  obtain⟨g1,g2⟩:=b.Ka q (f+1+a.rows) n
  have e:(Bd.HQ a b).beg f n=f:=by simp[Bd.beg,Bd.rows]
  rw[e]
  have m1:∀i j,a.ed q (f+1) n i j->(Bd.HQ a b).ed q f n i j:=fun i j h=>.inr (.inl h)
  have m2:∀i j,b.ed q (f+1+a.rows) n i j->(Bd.HQ a b).ed q f n i j:=fun i j h=>.inr (.inr h)
  have s1:Rt ((Bd.HQ a b).ed q f n) f (a.beg (f+1) n):=.on .here (.inl ⟨rfl,.inl rfl⟩)
  have s2:Rt ((Bd.HQ a b).ed q f n) f (b.beg (f+1+a.rows) n):=.on .here (.inl ⟨rfl,.inr rfl⟩)
  refine⟨fun i h=>?_,s1.trans (h2.mono m1)⟩
  simp only[Bd.mk,Th,Tj]at h
  rcases h with rfl|h|h
  ·exact .here
  ·exact s1.trans ((h1 i h).mono m1)
  ·exact s2.trans ((g1 i h).mono m2)
 | .Hx z k a b,f,n=>by
  obtain⟨h1,h2⟩:=a.Ka q (f+1) n
  obtain⟨g1,g2⟩:=b.Ka q (f+1+a.rows) n
  have e:(Bd.Hx z k a b).beg f n=f:=by simp[Bd.beg,Bd.rows]
  rw[e]
  have m1:∀i j,a.ed q (f+1) n i j->(Bd.Hx z k a b).ed q f n i j:=fun i j h=>.inr (.inl h)
  have m2:∀i j,b.ed q (f+1+a.rows) n i j->(Bd.Hx z k a b).ed q f n i j:=fun i j h=>.inr (.inr h)
  have s2:Rt ((Bd.Hx z k a b).ed q f n) f (b.beg (f+1+a.rows) n):=.on .here (.inl ⟨rfl,.inr rfl⟩)
  refine⟨fun i h=>?_,s2.trans (g2.mono m2)⟩
  simp only[Bd.mk,Th,Tj]at h
  rcases h with rfl|h|h
  ·exact .here
  ·split at h
   ·rename_i hz
    have s1:Rt ((Bd.Hx z k a b).ed q f n) f (a.beg (f+1) n):=.on .here (.inl ⟨rfl,.inl ⟨hz,rfl⟩⟩)
    exact s1.trans ((h1 i h).mono m1)
   ·simp at h
  ·exact s2.trans ((g1 i h).mono m2)
def Bd.M9(q:Qs)(t:Bd)(i:Int):Rt (t.ed q 0 t.rows) 0 i↔i∈t.mk q 0\/i=t.rows:=by
 have e:t.beg 0 t.rows=0:=by
  unfold Bd.beg
  split
  ·rename_i h;rw[h];rfl
  ·rfl
 obtain⟨h1,h2⟩:=t.Ka q 0 t.rows
 rw[e]at h1 h2
 refine⟨fun h=>?_,fun h=>?_⟩
 ·induction h with
  |here=>
   have:=t.JL q 0 t.rows
   rw[e]at this
   exact this
  |on g ed ih=>
   rcases ih with ih|ih
   ·exact t.K8 q 0 _ _ _ ih ed
   ·have:=t.HH q _ _ _ _ ed;omega
 ·rcases h with h|rfl
  ·exact h1 i h
  ·exact h2
noncomputable def Bd.KJ(q:Qs):Bd->Int->Int->List (List Int)
 | .rest,_,_=>[]
 | .pay _ _,_,n=>[[n]]
 | .put _ _,_,n=>[[n]]
 | .use _,_,n=>[[n]]
 | .HS a,f,n=>[a.beg (f+1) f,n]::a.KJ q (f+1) f
 | .Ho a b,f,n=>a.KJ q f (b.beg (f+a.rows) n)++b.KJ q (f+a.rows) n
 | .HQ a b,f,n=>[a.beg (f+1) n,b.beg (f+1+a.rows) n]::(a.KJ q (f+1) n++b.KJ q (f+1+a.rows) n)
 | .Hx z _ a b,f,n=>(if q z then [a.beg (f+1) n,b.beg (f+1+a.rows) n] else [b.beg (f+1+a.rows) n])::(a.KJ q (f+1) n++b.KJ q (f+1+a.rows) n)
theorem Bd.HD(q:Qs):∀(t:Bd) (f n:Int),(t.KJ q f n).length=t.rows
 | .rest,_,_=>rfl
 | .pay _ _,_,_=>rfl
 | .put _ _,_,_=>rfl
 | .use _,_,_=>rfl
 | .HS a,f,n=>by simp only[Bd.KJ,Bd.rows,List.length_cons];rw[a.HD]
 | .Ho a b,f,n=>by simp only[Bd.KJ,Bd.rows,Te];rw[a.HD,b.HD]
 | .HQ a b,f,n=>by simp only[Bd.KJ,Bd.rows,Te,List.length_cons];rw[a.HD,b.HD]
 | .Hx _ _ a b,f,n=>by simp only[Bd.KJ,Bd.rows,Te,List.length_cons];rw[a.HD,b.HD]
theorem Bd.Kb(q:Qs):∀(t:Bd) (f n:Int) (k:Nat) (L:Vu) (j:Int),(t.KJ q f n)[k]?=some L->(j∈L↔t.ed q f n (f+k) j)
 | .rest,f,n,k,L,j,h=>by simp[Bd.KJ]at h
 | .pay _ _,f,n,k,L,j,h=>by
  cases k with
  |zero=>simp[Bd.KJ]at h;subst h;simp[Bd.ed]
  |succ k=>simp[Bd.KJ]at h
 | .put _ _,f,n,k,L,j,h=>by
  cases k with
  |zero=>simp[Bd.KJ]at h;subst h;simp[Bd.ed]
  |succ k=>simp[Bd.KJ]at h
 | .use _,f,n,k,L,j,h=>by
  cases k with
  |zero=>simp[Bd.KJ]at h;subst h;simp[Bd.ed]
  |succ k=>simp[Bd.KJ]at h
 | .HS a,f,n,k,L,j,h=>by
  cases k with
  |zero=>
   simp only[Bd.KJ,List.getElem?_cons_zero,Vn]at h
   subst h
   have no:¬a.ed q (f+1) f (f+(0:Nat)) j:=fun z=>by have:=a.HH q _ _ _ _ z;omega
   simp only[Bd.ed,no,Uq,Th,TJ]
   simp
  |succ k=>
   simp only[Bd.KJ,List.getElem?_cons_succ]at h
   have ih:=a.Kb q _ _ k L j h
   rw[ih]
   have e:f+1+(k:Int)=f+((k+1:Nat):Int):=by omega
   rw[e]
   simp only[Bd.ed]
   exact⟨.inr,fun z=>z.resolve_left fun y=>by omega⟩
 | .Ho a b,f,n,k,L,j,h=>by
  simp only[Bd.KJ]at h
  simp only[Bd.ed]
  by_cases hk:k < a.rows
  ·rw[TX (by rw[a.HD];exact hk)]at h
   rw[a.Kb q _ _ k L j h]
   exact⟨.inl,fun z=>z.resolve_right fun y=>by have:=b.HH q _ _ _ _ y;omega⟩
  ·rw[T5 (by rw[a.HD];omega),a.HD]at h
   rw[b.Kb q _ _ _ L j h]
   have e:f+(a.rows:Int)+((k - a.rows:Nat):Int)=f+(k:Int):=by omega
   rw[e]
   exact⟨.inr,fun z=>z.resolve_left fun y=>by have:=a.HH q _ _ _ _ y;omega⟩
 | .HQ a b,f,n,k,L,j,h=>by
  cases k with
  |zero=>
   simp only[Bd.KJ,List.getElem?_cons_zero,Vn]at h
   subst h
   have n1:¬a.ed q (f+1) n (f+(0:Nat)) j:=fun z=>by have:=a.HH q _ _ _ _ z;omega
   have n2:¬b.ed q (f+1+a.rows) n (f+(0:Nat)) j:=fun z=>by have:=b.HH q _ _ _ _ z;omega
   simp only[Bd.ed,n1,n2,Uq,Th,TJ]
   simp
  |succ k=>
   simp only[Bd.KJ,List.getElem?_cons_succ]at h
   simp only[Bd.ed]
   by_cases hk:k < a.rows
   ·rw[TX (by rw[a.HD];exact hk)]at h
    rw[a.Kb q _ _ k L j h,show f+1+(k:Int)=f+((k+1:Nat):Int) by omega]
    exact⟨fun z=>.inr (.inl z),fun z=>by
     rcases z with z|z|z
     ·omega
     ·exact z
     ·have:=b.HH q _ _ _ _ z;omega⟩
   ·rw[T5 (by rw[a.HD];omega),a.HD]at h
    rw[b.Kb q _ _ _ L j h,show f+1+(a.rows:Int)+((k - a.rows:Nat):Int)=f+((k+1:Nat):Int) by omega]
    exact⟨fun z=>.inr (.inr z),fun z=>by
     rcases z with z|z|z
     ·omega
     ·have:=a.HH q _ _ _ _ z;omega
     ·exact z⟩
 | .Hx z' m a b,f,n,k,L,j,h=>by
  cases k with
  |zero=>
   simp only[Bd.KJ,List.getElem?_cons_zero,Vn]at h
   subst h
   have n1:¬a.ed q (f+1) n (f+(0:Nat)) j:=fun z=>by have:=a.HH q _ _ _ _ z;omega
   have n2:¬b.ed q (f+1+a.rows) n (f+(0:Nat)) j:=fun z=>by have:=b.HH q _ _ _ _ z;omega
   simp only[Bd.ed,n1,n2,Uq]
   by_cases hz:q z'=true
   ·rw[if_pos hz];simp[hz]
   ·rw[if_neg hz];simp[hz]
  |succ k=>
   simp only[Bd.KJ,List.getElem?_cons_succ]at h
   simp only[Bd.ed]
   by_cases hk:k < a.rows
   ·rw[TX (by rw[a.HD];exact hk)]at h
    rw[a.Kb q _ _ k L j h,show f+1+(k:Int)=f+((k+1:Nat):Int) by omega]
    exact⟨fun z=>.inr (.inl z),fun z=>by
     rcases z with z|z|z
     ·omega
     ·exact z
     ·have:=b.HH q _ _ _ _ z;omega⟩
   ·rw[T5 (by rw[a.HD];omega),a.HD]at h
    rw[b.Kb q _ _ _ L j h,show f+1+(a.rows:Int)+((k - a.rows:Nat):Int)=f+((k+1:Nat):Int) by omega]
    exact⟨fun z=>.inr (.inr z),fun z=>by
     rcases z with z|z|z
     ·omega
     ·have:=a.HH q _ _ _ _ z;omega
     ·exact z⟩
def mW(k:Nat)(l m:List (Bd×Bool)):ip k (l++m)=ip k l++ip (k+l.length) m:=by
 unfold ip
 rw[List.zipIdx_append,Ux,Uh]
theorem t8:∀(l:List (Bd×Bool)) (k:Nat),(∀p∈l,p.2=false)->ip k l=[]
 |[],_,_=>rfl
 |p::r,k,h=>by
  rw[iS,h p (by simp),t8 r (k+1) fun x hx=>h x (by simp[hx])]
  rfl
theorem Bd.Im(q:Qs):∀(t:Bd),∀p∈t.pr q false,p.2=false
 | .rest,p,h=>by simp[Bd.pr]at h;rw[h]
 | .pay _ _,p,h=>by simp[Bd.pr]at h;rw[h]
 | .put _ _,p,h=>by simp[Bd.pr]at h;rw[h]
 | .use _,p,h=>by simp[Bd.pr]at h;rw[h]
 | .HS a,p,h=>by
  simp only[Bd.pr,Th]at h
  rcases h with rfl|h
  ·rfl
  ·exact a.Im q p h
 | .Ho a b,p,h=>by
  simp only[Bd.pr,Th,Tj]at h
  rcases h with rfl|h|h
  ·rfl
  ·exact a.Im q p h
  ·exact b.Im q p h
 | .HQ a b,p,h=>by
  simp only[Bd.pr,Th,Tj]at h
  rcases h with rfl|h|h
  ·rfl
  ·exact a.Im q p h
  ·exact b.Im q p h
 | .Hx z m a b,p,h=>by
  simp only[Bd.pr,Th,Tj,Bool.false_and]at h
  rcases h with rfl|h|h
  ·rfl
  ·exact a.Im q p h
  ·exact b.Im q p h
theorem Bd.HN(q:Qs):∀(t:Bd) (r:Bool),(t.rws q r).length=t.rows
 | .rest,_=>rfl
 | .pay _ _,_=>rfl
 | .put _ _,_=>rfl
 | .use _,_=>rfl
 | .HS a,r=>by
  have:=a.HN q r
  unfold Bd.rws at this ⊢
  simp only[Bd.pr,Bd.rows]
  rw[T3 rfl,TL,this]
 | .Ho a b,r=>by
  have h1:=a.HN q r
  have h2:=b.HN q r
  unfold Bd.rws at h1 h2 ⊢
  simp only[Bd.pr,Bd.rows]
  rw[UJ (by simp[Bd.IL]),Ux,Te,h1,h2]
 | .HQ a b,r=>by
  have h1:=a.HN q r
  have h2:=b.HN q r
  unfold Bd.rws at h1 h2 ⊢
  simp only[Bd.pr,Bd.rows]
  rw[T3 rfl,TL,Ux,Te,h1,h2]
 | .Hx z m a b,r=>by
  have h1:=a.HN q (r&&q z)
  have h2:=b.HN q r
  unfold Bd.rws at h1 h2 ⊢
  simp only[Bd.pr,Bd.rows]
  rw[T3 rfl,TL,Ux,Te,h1,h2]
theorem Bd.IY(q:Qs):∀(t:Bd) (k:Nat),ip k (t.rws q true)=(t.mk q (k:Int)).map PV.int
 | .rest,_=>rfl
 | .pay _ _,_=>rfl
 | .put _ _,_=>rfl
 | .use _,_=>rfl
 | .HS a,k=>by
  have e:(Bd.HS a).rws q true=(Bd.HS a,true)::a.rws q true:=by unfold Bd.rws;rw[Bd.pr,T3 rfl]
  rw[e,iS,a.IY q (k+1)]
  simp[Bd.mk]
 | .Ho a b,k=>by
  have e:(Bd.Ho a b).rws q true=a.rws q true++b.rws q true:=by unfold Bd.rws;rw[Bd.pr,UJ (by simp[Bd.IL]),Ux]
  rw[e,mW,a.HN,a.IY q k,b.IY q (k+a.rows)]
  simp[Bd.mk]
 | .HQ a b,k=>by
  have e:(Bd.HQ a b).rws q true=(Bd.HQ a b,true)::(a.rws q true++b.rws q true):=by unfold Bd.rws;rw[Bd.pr,T3 rfl,Ux]
  rw[e,iS,mW,a.HN,a.IY q (k+1),b.IY q (k+1+a.rows)]
  simp[Bd.mk]
 | .Hx z m a b,k=>by
  have e:(Bd.Hx z m a b).rws q true=(Bd.Hx z m a b,true)::(a.rws q (q z)++b.rws q true):=by unfold Bd.rws;rw[Bd.pr,T3 rfl,Ux,Bool.true_and]
  rw[e,iS,mW,a.HN,b.IY q (k+1+a.rows)]
  cases hz:q z with
  |true=>rw[a.IY q (k+1)];simp[Bd.mk,hz]
  |false=>
   rw[t8 (a.rws q false) _ fun p hp=>a.Im q p (Vf.mp hp).1]
   simp[Bd.mk,hz]
end C
namespace CW
open PySem L2 L3 Wd
open C
structure Sz (i:Int):Prop where
 lt:i.natAbs < 2 ^ 4000
def Sz.div{a b:Int}(h:b≠0)(g:Sz b):mr a b:=⟨h,UW g.lt (Wm (by decide) (by decide))⟩
def Sz.le{a b:Int}(h:Sz b)(g:a.natAbs<=b.natAbs):Sz a:=⟨Xq g h.lt⟩
noncomputable def cq(Q n:Int):PV:=.tup [.int (M3.br n Q),.int (M3.aT n Q)]
def Dj{Q n m:Int}(hQ:0 < Q)(e:cq Q n=cq Q m):n=m:=by
 unfold cq at e
 injection e with e
 injection e with e1 e
 injection e with e2 _
 injection e1 with e1
 injection e2 with e2
 have w1:=M3.iG (t:=n) (b:=Q) (by omega)
 have w2:=M3.iG (t:=m) (b:=Q) (by omega)
 have L:=(M3.jV (t:=n) (b:=Q) (by omega)).pos
 refine M3.CB (g:=M3.aT n Q) (by omega) ?_
 rw[<-w1,e1,w2,e2]
abbrev t9(w:au):Prop:=∀{S:az} {a b:Int} {Q:bn} {E:bJ},0<=b->Q (.int (Int.gcd a b)) S->w [.int a,.int b] S Q E
def sK:t9 (aR 3 mH):=by
 intro S a b Q E hb k
 unfold mH
 refine cJ ?_
 rw[show ap 3 [PV.int a,PV.int b]=[some (.int a),some (.int b),none] from rfl]
 refine aj fun N hN=>?_
 refine⟨fun n σ S'=>S'=S/\∃(x y:Int) (z:Option PV),σ=[some (.int x),some (.int y),z]/\0<=y/\Int.gcd x y=Int.gcd a b/\y.toNat=n,⟨_,rfl,a,b,none,rfl,hb,rfl,rfl⟩,?_⟩
 rintro n σ S' ⟨rfl,x,y,z,rfl,hy,hg,rfl⟩
 walk_at "x"
 simp only[UO,XF,decide_eq_false_iff_not]
 split
 ·rename_i hp
  refine⟨fun σ' Mq=>Mq=S'/\∃(x' y':Int) (z':Option PV),σ'=[some (.int x'),some (.int y'),z']/\0<=y'/\Int.gcd x' y'=Int.gcd a b/\y'.toNat < y.toNat,?_,?_⟩
  ·rintro σ' Mq ⟨rfl,x',y',z',rfl,h2,h3,h4⟩
   exact⟨_,h4,rfl,x',y',z',rfl,h2,h3,rfl⟩
  ·have e:x.fmod y=x % y:=jb hy
   have l1:=Xl x (b:=y) hp
   have l2:=WH x (show 0 < y by omega)
   refine⟨hp,rfl,y,x.fmod y,_,rfl,by omega,?_,by omega⟩
   rw[M3.qF];exact hg
 ·rename_i hp
  have OE:y=0:=by omega
  subst OE
  refine hN _ _ ?_
  walk_at "x"
  have QE:(if x < 0 then -x else x)=(Int.gcd a b:Int):=by
   rw[<-hg,Int.gcd_zero_right]
   split<;>omega
  rw[QE]
  exact k
abbrev Bi(w:au):Prop:=∀{S:az} {t b:Int} {Q:bn} {E:bJ},0 < b->Sz b->Q (cq b t) S->w [.int t,.int b] S Q E
def yg{xc:au}(MQ:t9 xc):Bi (aR 3 (jE xc)):=by
 intro S t b Q E hb hs k
 unfold jE
 refine cJ ?_
 rw[show ap 3 [PV.int t,PV.int b]=[some (.int t),some (.int b),none] from rfl]
 refine aj fun N hN=>?_
 walk_at "x"
 refine MQ (by omega) (hN _ _ (aj fun N hN=>?_))
 walk_at "x"
 rw[if_neg (by rw[TF];omega)]
 refine hN _ _ ?_
 walk_at "x"
 have gp:(0:Int) < (Int.gcd t b:Int):=WE.mpr (M3.iF (by omega))
 have gl:=M3.wH (t:=t) (b:=b) (by omega)
 have cd:∀z,mr z (Int.gcd t b:Int):=fun z=>Sz.div (by omega) (hs.le (by omega))
 refine⟨cd _,cd _,?_⟩
 have d1:=(M3.qE (t:=t) (b:=b) (by omega))
 rw[if_neg (by omega)]at d1
 rw[d1.1,d1.2]
 exact k
end CW
namespace C
open PySem L2 L3
inductive Rw where
 |pay (c n:Int)|put (z:Str) (m n:Int)|two (h:Bool) (a b:Int)|Hx (z:Str) (m a b:Int)
noncomputable def Rw.pv:Rw->PV
 | .pay c n=>.tup [.str "pay",cf c,.int n]
 | .put z m n=>.tup [.str "put",.str z,.int m,.int n]
 | .two h a b=>.tup [.str (if h then "either" else "often"),.int a,.int b]
 | .Hx z m a b=>.tup [.str "take",.str z,.int m,.int a,.int b]
noncomputable def Rw.asks(q:Qs)(wt:Str->Int):Rw->List (Int×Int)
 | .pay c n=>[(c,n)]
 | .put z m n=>[(wt z * m,n)]
 | .two _ a b=>[(0,b),(0,a)]
 | .Hx z m a b=>(0,b)::if q z then [(wt z * m * -1,a)] else []
def to(N j:Int):Prop:=0<=j/\j<=N
noncomputable def Rw.ok(js:Vs)(q:Qs)(N:Int):Rw->Prop
 | .pay _ n=>to N n
 | .put z m n=>z∈js/\q z=true/\1<=m/\m<=9/\to N n
 | .two _ a b=>to N a/\to N b
 | .Hx z m a b=>z∈js/\1<=m/\m<=9/\to N a/\to N b
def k7{N f n:Int}{t:Bd}(hf:to N f)(hn:to N n):to N (t.beg f n):=by
 unfold Bd.beg
 split
 ·exact hn
 ·exact hf
def t_{α:Type}{xs ys:List α}{i:Nat}{x:α}(h:xs[i]?=some x):(xs++ys)[i]?=some x:=by
 rw[TX (TV.mp h).1];exact h
def ua{α:Type}{xs ys:List α}{i j:Nat}{x:α}(h:ys[i]?=some x)(e:j=xs.length+i):(xs++ys)[j]?=some x:=by
 subst e;rw[T5 (UI _ _),Nat.add_sub_cancel_left];exact h
theorem iq(js:Vs)(q:Qs)(N:Int):∀(t:Bd) (f n:Int),t.good js []->(∀z∈t.Hn q,q z=true)->0<=f->f+t.rows<=N->to N n->∀i∈t.mk q f,∃r:Rw,(t.rowsOf f n)[(i - f).toNat]?=some r.pv/\r.ok js q N
 | .rest,f,n,_,_,_,_,_,i,h=>by simp[Bd.mk]at h
 | .use z,f,n,g,_,_,_,_,i,h=>by cases g
 | .pay x y,f,n,g,_,_,_,hn,i,h=>by
  rw[Tt.mp h,Xp]
  exact⟨.pay (x * (2520 / y)) n,by simp only[Bd.rowsOf,Rw.pv,As g];rfl,hn⟩
 | .put z m,f,n,g,hp,_,_,hn,i,h=>by
  rw[Tt.mp h,Xp]
  exact⟨.put z m n,rfl,g.1,hp z (by simp[Bd.Hn]),g.2.1,g.2.2,hn⟩
 | .HS a,f,n,g,hp,h0,h1,hn,i,h=>by
  simp only[Bd.rows]at h1
  rcases Th.mp h with rfl|h
  ·rw[Xp]
   exact⟨.two false (a.beg (i+1) i) n,rfl,k7 ⟨by omega,by omega⟩ ⟨by omega,by omega⟩,hn⟩
  ·obtain⟨r,e,o⟩:=iq js q N a (f+1) f g hp (by omega) (by omega) ⟨by omega,by omega⟩ i h
   have:=a.Hw q _ i h
   exact⟨r,by rw[Bd.rowsOf,show(i - f).toNat=(i - (f+1)).toNat+1 by omega];exact e,o⟩
 | .Ho a b,f,n,g,hp,h0,h1,hn,i,h=>by
  simp only[Bd.rows]at h1
  rcases Tj.mp h with h|h
  ·obtain⟨r,e,o⟩:=iq js q N a f (b.beg (f+a.rows) n) g.1 (fun z hz=>hp z (by simp[Bd.Hn,hz])) h0 (by omega) (k7 ⟨by omega,by omega⟩ hn) i h
   exact⟨r,by rw[Bd.rowsOf];exact t_ e,o⟩
  ·obtain⟨r,e,o⟩:=iq js q N b (f+a.rows) n g.2 (fun z hz=>hp z (by simp[Bd.Hn,hz])) (by omega) (by omega) hn i h
   have:=b.Hw q _ i h
   exact⟨r,by rw[Bd.rowsOf];exact ua e (by rw[Bd.Hl];omega),o⟩
 | .HQ a b,f,n,g,hp,h0,h1,hn,i,h=>by
  simp only[Bd.rows]at h1
  rcases Th.mp h with rfl|h
  ·rw[Xp]
   exact⟨.two true (a.beg (i+1) n) (b.beg (i+1+a.rows) n),rfl,k7 ⟨by omega,by omega⟩ hn,k7 ⟨by omega,by omega⟩ hn⟩
  ·rcases Tj.mp h with h|h
   ·obtain⟨r,e,o⟩:=iq js q N a (f+1) n g.1 (fun z hz=>hp z (by simp[Bd.Hn,hz])) (by omega) (by omega) hn i h
    have:=a.Hw q _ i h
    exact⟨r,by rw[Bd.rowsOf,show(i - f).toNat=(i - (f+1)).toNat+1 by omega];exact t_ e,o⟩
   ·obtain⟨r,e,o⟩:=iq js q N b (f+1+a.rows) n g.2 (fun z hz=>hp z (by simp[Bd.Hn,hz])) (by omega) (by omega) hn i h
    have:=b.Hw q _ i h
    exact⟨r,by rw[Bd.rowsOf,show(i - f).toNat=(i - (f+1)).toNat+1 by omega];exact ua e (by rw[Bd.Hl];omega),o⟩
 | .Hx y m a b,f,n,g,hp,h0,h1,hn,i,h=>by
  simp only[Bd.rows]at h1
  rcases Th.mp h with rfl|h
  ·rw[Xp]
   exact⟨.Hx y m (a.beg (i+1) n) (b.beg (i+1+a.rows) n),rfl,g.1,g.2.1,g.2.2.1,k7 ⟨by omega,by omega⟩ hn,k7 ⟨by omega,by omega⟩ hn⟩
  ·rcases Tj.mp h with h|h
   ·by_cases hy:q y=true
    ·rw[if_pos hy]at h
     obtain⟨r,e,o⟩:=iq js q N a (f+1) n g.2.2.2.1 (fun z hz=>hp z (by simp[Bd.Hn,hz,hy])) (by omega) (by omega) hn i h
     have:=a.Hw q _ i h
     exact⟨r,by rw[Bd.rowsOf,show(i - f).toNat=(i - (f+1)).toNat+1 by omega];exact t_ e,o⟩
    ·rw[if_neg hy]at h;cases h
   ·obtain⟨r,e,o⟩:=iq js q N b (f+1+a.rows) n g.2.2.2.2 (fun z hz=>hp z (by simp[Bd.Hn,hz])) (by omega) (by omega) hn i h
    have:=b.Hw q _ i h
    exact⟨r,by rw[Bd.rowsOf,show(i - f).toNat=(i - (f+1)).toNat+1 by omega];exact ua e (by rw[Bd.Hl];omega),o⟩
def oE{js:Vs}{q:Qs}{t:Bd}(g:t.good js [])(hp:∀z∈t.Hn q,q z=true){i:Int}(h:i∈t.mk q 0):∃r:Rw,Ie t.Hr i=some r.pv/\r.ok js q t.rows:=by
 obtain⟨r,e,o⟩:=iq js q t.rows t 0 t.rows g hp (by omega) (by omega) ⟨by omega,by omega⟩ i h
 have:=t.Hw q 0 i h
 refine⟨r,?_,o⟩
 obtain⟨k,rfl⟩:=UR this.1
 exact bC (t_ (by simpa using e))
def vA(t:Bd):Ie t.Hr t.rows=some (.tup [.str "end"]):=bC (ua (i:=0) rfl (by rw[Bd.Hl];rfl))
noncomputable def wt(js:Vs)(ws:Vu)(z:Str):Int:=match js,ws with
 |j::js,w::ws=>if j=z then w else wt js ws z
 |_,_=>0
end C
namespace G38
open PySem L2 L3
noncomputable def a_(i:Nat):Stmt:=PySem.Challenge.pw_dueworth_k38_papers_looked_at.main.body.getD i (.Pass ⟨0,0,0,0⟩)
structure Txt (P:Program) (w:World) (K:Vo) (mg:Vr):Prop where
 o_sides_of:aW K mg "sides_of" (a_ 2) ["body"]
 o_parts_in:aW K mg "parts_in" (a_ 3) ["body"]
 o_parts:aW K mg "parts" (a_ 4) ["body"]
 o_has_row:aW K mg "has_row" (a_ 6) ["part"]
 o_rows_in:aW K mg "rows_in" (a_ 7) ["body"]
 o_begin:aW K mg "begin" (a_ 8) ["body","first","behind"]
 o_rows_of_then:aW K mg "rows_of_then" (a_ 9) ["body","first","behind"]
 o_rows_of_choice:aW K mg "rows_of_choice" (a_ 10) ["body","first","behind"]
 o_rows_of_often:aW K mg "rows_of_often" (a_ 11) ["body","first","behind"]
 o_rows_of:aW K mg "rows_of" (a_ 12) ["body","first","behind"]
 o_chart:aW K mg "chart" (a_ 13) ["body"]
 o_plain_trace:aW K mg "plain_trace" (a_ 15) ["body"]
 o_led_to_part:aW K mg "led_to_part" (a_ 16) ["body","place","trace"]
 o_parts_reached:qL K mg "parts_reached" (a_ 18) ["body","names","reached"]
 o_next_step:aW K mg "next_step" (a_ 19) ["house","names"]
 o_filling:aW K mg "filling" (a_ 20) ["house"]
 o_fillable:aW K mg "fillable" (a_ 21) ["house"]
 o_common:aW K mg "common" (a_ 23) ["one","other"]
 o_fraction:aW K mg "fraction" (a_ 24) ["top","bottom"]
 o_plus:aW K mg "plus" (a_ 25) ["one","other"]
 o_minus:aW K mg "minus" (a_ 26) ["one","other"]
 o_times:aW K mg "times" (a_ 27) ["one","other"]
 o_less:aW K mg "less" (a_ 28) ["one","other"]
 o_highest:aW K mg "highest" (a_ 29) ["fractions"]
 o_rows_of_body:aW K mg "rows_of_body" (a_ 31) ["body","names"]
 o_rows_come_to:aW K mg "rows_come_to" (a_ 32) ["house"]
 o_worths_of_fillable:aW K mg "worths_of_fillable" (a_ 34) ["house","worths"]
 o_asked_at:aW K mg "asked_at" (a_ 35) ["row","lefts","worths"]
 o_deed_holds:aW K mg "deed_holds" (a_ 36) ["rows","come_to","lefts","worths"]
 o_paper_holds:aW K mg "paper_holds" (a_ 37) ["house","paper"]
 o__law_deal:aW K mg "_law_deal" (a_ 39) ["_law_script","_law_base"]
 o__law_draw:aW K mg "_law_draw" (a_ 40) ["_law_deal_here","_law_many"]
 o__law_words:aW K mg "_law_words" (a_ 41) ["_law_deal_here","_law_many"]
 o__law_low:aW K mg "_law_low" (a_ 42) ["_law_top","_law_bottom"]
 o__law_plus:aW K mg "_law_plus" (a_ 43) ["_law_one","_law_other"]
 o__law_times:aW K mg "_law_times" (a_ 44) ["_law_one","_law_many"]
 o__law_cost:aW K mg "_law_cost" (a_ 45) ["_law_deal_here"]
 o__law_leaf:aW K mg "_law_leaf" (a_ 46) ["_law_deal_here","_law_jars"]
 o__law_body:aW K mg "_law_body" (a_ 47) ["_law_deal_here","_law_jars","_law_left","_law_down"]
 o__law_pass_count:aW K mg "_law_pass_count" (a_ 48) ["_law_body_here"]
 o__law_round_count:aW K mg "_law_round_count" (a_ 49) ["_law_body_here"]
 o__law_deed_body:aW K mg "_law_deed_body" (a_ 50) ["_law_deal_here","_law_jars","_law_room","_law_most"]
 o__law_house:aW K mg "_law_house" (a_ 51) ["_law_deal_here","_law_most_jars","_law_most_deeds","_law_room"]
 o__law_puts:aW K mg "_law_puts" (a_ 52) ["_law_body_here","_law_held","_law_found"]
 o__law_fillable:aW K mg "_law_fillable" (a_ 53) ["_law_house_here"]
 o__law_many_rows:aW K mg "_law_many_rows" (a_ 54) ["_law_body_here"]
 o__law_chart_of:aW K mg "_law_chart_of" (a_ 55) ["_law_body_here","_law_at","_law_after"]
 o__law_chart:aW K mg "_law_chart" (a_ 56) ["_law_body_here"]
 o__law_goes:aW K mg "_law_goes" (a_ 57) ["_law_row","_law_held"]
 o__law_there:aW K mg "_law_there" (a_ 58) ["_law_rows","_law_held"]
 o__law_at_least:aW K mg "_law_at_least" (a_ 59) ["_law_one","_law_other"]
 o__law_things:aW K mg "_law_things" (a_ 60) ["_law_house_here","_law_worths","_law_row"]
 o__law_asked:aW K mg "_law_asked" (a_ 61) ["_law_house_here","_law_worths","_law_row","_law_held"]
 o__law_row_kept:aW K mg "_law_row_kept" (a_ 62) ["_law_house_here","_law_worths","_law_rows","_law_lefts_here","_law_at","_law_held"]
 o__law_holds:aW K mg "_law_holds" (a_ 63) ["_law_house_here","_law_paper_here"]
 o__law_lefts:aW K mg "_law_lefts" (a_ 64) ["_law_house_here","_law_worths","_law_rows","_law_held"]
 o__law_paper:aW K mg "_law_paper" (a_ 65) ["_law_house_here","_law_worths"]
 o__law_worth:aW K mg "_law_worth" (a_ 66) ["_law_deal_here","_law_most"]
 o__law_any:aW K mg "_law_any" (a_ 67) ["_law_deal_here"]
 o__law_raised:aW K mg "_law_raised" (a_ 68) ["_law_deal_here","_law_own"]
 o__law_set:aW K mg "_law_set" (a_ 69) ["_law_row","_law_at","_law_one"]
 o__law_first:aW K mg "_law_first" (a_ 70) ["_law_deal_here","_law_house_here"]
 o__law_changed:aW K mg "_law_changed" (a_ 71) ["_law_deal_here","_law_paper_here"]
 Pg:mg "abs" = none
 M_:mg "all" = none
 NV:mg "any" = none
 Oo:mg "bool" = none
 Op:mg "dict" = none
 Jv:mg "enumerate" = none
 Ly:mg "int" = none
 KH:mg "isinstance" = none
 HI:mg "len" = none
 Mv:mg "list" = none
 NW:mg "max" = none
 JM:mg "range" = none
 Lj:mg "reversed" = none
 Ph:mg "set" = none
 Mn:mg "sorted" = none
 NX:mg "sum" = none
 HW:mg "tuple" = none
 Na:mg "zip" = none
 LV:∃a,mg "SIDES_FROM" = some (.ref a)/\KD P w K a (C.k_SIDES_FROM.map fun kv=>(kv.1,V.int kv.2))
section
variable {P:Program} {w:World} {K:Vo} {mg:Vr} {base:Heap}
def Gy:(["part"]:Vs).Nodup:=by decide +kernel
def Gz:(["step","house"]:Vs).Nodup:=by decide +kernel
def GA:(["found"]:Vs).Nodup:=by decide +kernel
def E9:(["row","found"]:Vs).Nodup:=by decide +kernel
def GB:(["deed","names"]:Vs).Nodup:=by decide +kernel
def E_:(["jar","worth","names"]:Vs).Nodup:=by decide +kernel
def GC:(["number","lefts","rows","worths"]:Vs).Nodup:=by decide +kernel
def GE:(["worth"]:Vs).Nodup:=by decide +kernel
def GF:(["deed"]:Vs).Nodup:=by decide +kernel
def GG:(["lefts"]:Vs).Nodup:=by decide +kernel
def Fa:(["rows"]:Vs).Nodup:=by decide +kernel
def yh:(["_law_one"]:Vs).Nodup:=by decide +kernel
def Fb:(["_law_k","_law_deal_here","_law_letters"]:Vs).Nodup:=by decide +kernel
def Fc:(["_law_j","_law_deal_here","_law_letters"]:Vs).Nodup:=by decide +kernel
def Fd:(["_law_k","_law_deal_here","_law_first_here","_law_jars","_law_many","_law_room","_law_words_here"]:Vs).Nodup:=by decide +kernel
def Bj:(["_law_part"]:Vs).Nodup:=by decide +kernel
def Fe:(["_law_one","_law_found"]:Vs).Nodup:=by decide +kernel
def Bl:(["_law_more","_law_there_here","_law_at","_law_lefts_here"]:Vs).Nodup:=by decide +kernel
def Bm:(["_law_deed"]:Vs).Nodup:=by decide +kernel
def Ff:(["_law_rows"]:Vs).Nodup:=by decide +kernel
def Fg:(["_law_at","_law_held","_law_house_here","_law_own","_law_rows","_law_worths"]:Vs).Nodup:=by decide +kernel
def Fh:(["_law_worth_here"]:Vs).Nodup:=by decide +kernel
def Fi:(["_law_at","_law_lefts_here"]:Vs).Nodup:=by decide +kernel
def Fj:(["_law_deed","_law_held","_law_house_here","_law_worths"]:Vs).Nodup:=by decide +kernel
def Fk:(["_law_one","_law_more"]:Vs).Nodup:=by decide +kernel
def Fl:(["_law_jar","_law_deal_here"]:Vs).Nodup:=by decide +kernel
def Fm:(["_law_rows","_law_deal_here"]:Vs).Nodup:=by decide +kernel
def Fn:(["_law_row","_law_deal_here"]:Vs).Nodup:=by decide +kernel
def Fo:(["_law_own","_law_deal_here"]:Vs).Nodup:=by decide +kernel
def fX:au:=aR 1 C.jC
def lD(T:Txt P w K mg):Hy P w K mg base 1 "sides_of" 1 fX:=cC ["body"] T.o_sides_of (fun _ _ _ _ _ _ _ hr nd=>(ai (ao (bD (ad 0) (bN (Ha hr T.LV (aO hr (ad 0)) (cB bK T.HI (l1 (ad 0))))) bW)))) rfl
noncomputable def fY:Nat->au
 |0=>qq
 |n+1=>aR 3 (C.jD fX (fY n))
def jL:au:=fY 12
def lE(T:Txt P w K mg):Hy P w K mg base 13 "parts_in" 1 jL:=nB (b:=1) (r:=fY) T.o_parts_in (fun n R0=>cC ["body","found","side"] T.o_parts_in (fun _ _ _ _ _ _ _ hr nd=>(ac (s4 1 nd (aV (l1 (ad 0))))
  (ac (dR T6 rfl (bm (c4 (lD T) hr (l1 (ad 0)))) (gn 2 nd) (ai (cL (ve kP mz (ad 1) (l1 (c4 R0 hr (l1 (ad 2))))))))
  (ai (ao (ad 1)))))) rfl) rfl rfl 12
def pM:au:=aR 1 (C.pd jL)
def yi(T:Txt P w K mg):Hy P w K mg base 14 "parts" 1 pM:=cC ["body"] T.o_parts (fun _ _ _ _ _ _ _ hr nd=>(ai (ao (cB bK T.HI (l1 (c4 (lE T) hr (l1 (ad 0)))))))) rfl
def iT:au:=aR 1 C.kL
def mX(T:Txt P w K mg):Hy P w K mg base 1 "has_row" 1 iT:=cC ["part"] T.o_has_row (fun _ _ _ _ _ _ _ hr nd=>(ai (ao (d9 (dC (cA hr)) (aO hr (ad 0)) (aB (lc ax (l1 ax))) rfl)))) rfl
def cE:au:=aR 1 (C.kM jL iT)
def fZ(T:Txt P w K mg):Hy P w K mg base 14 "rows_in" 1 cE:=cC ["body"] T.o_rows_in (fun _ _ _ _ _ _ _ hr nd=>(ai (ao (cB bK T.HI (l1 (lO [] 1 [] ["part"] (bm (c4 (lE T) hr (l1 (ad 0)))) (fun _=>(gn 0 Gy)) (fun _=>(mD (fE (c4 (mX T) hr (l1 (ad 0)))))) (fun _=>(ad 0)))))))) rfl
def eW:au:=aR 3 (C.pe cE)
def kf(T:Txt P w K mg):Hy P w K mg base 15 "begin" 3 eW:=cC ["body","first","behind"] T.o_begin (fun _ _ _ _ _ _ _ hr nd=>(ac (aQ (eQ hr (c4 (fZ T) hr (l1 (ad 0))) ae) (ai (ao (ad 2))) aE)
  (ai (ao (ad 1))))) rfl
noncomputable def ay:Nat->au×au×au×au
 |0=>(qq,qq,qq,qq)
 |n+1=>(aR 5 (C.cO cE eW (ay n).1 (ay n).2.1 (ay n).2.2.1 (ay n).2.2.2),aR 7 (C.cb cE eW (ay n).1 (ay n).2.1 (ay n).2.2.1 (ay n).2.2.2),aR 4 (C.cp eW (ay n).1 (ay n).2.1 (ay n).2.2.1 (ay n).2.2.2),aR 4 (C.iJ (ay n).1 (ay n).2.1 (ay n).2.2.1 (ay n).2.2.2))
def bZ(n:Nat):au:=(ay n).1
def bI(n:Nat):au:=(ay n).2.1
def bS(n:Nat):au:=(ay n).2.2.1
def iU(n:Nat):au:=(ay n).2.2.2
def lQ(T:Txt P w K mg)(n:Nat){s0 s1 s2 s3:au}(R0:Hy P w K mg base (15+n) "rows_of_then" 3 s0)(R1:Hy P w K mg base (15+n) "rows_of_choice" 3 s1)(R2:Hy P w K mg base (15+n) "rows_of_often" 3 s2)(R3:Hy P w K mg base (15+n) "rows_of" 3 s3):Hy P w K mg base (15+n+1) "rows_of_then" 3 (aR 5 (C.cO cE eW s0 s1 s2 s3)):=cC ["body","first","behind","second","onward"] T.o_rows_of_then (fun _ _ _ _ _ _ _ hr nd=>(ac (s4 3 nd (aA av (ad 1) (c4 (fZ T) hr (l1 (aO hr (ad 0))))))
  (ac (s4 4 nd (c4 (kf T) hr (lc (aO hr (ad 0)) (lc (ad 3) (l1 (ad 2))))))
  (ai (ao (aA av (c4 R3 hr (lc (aO hr (ad 0)) (lc (ad 1) (l1 (ad 4))))) (c4 R3 hr (lc (aO hr (ad 0)) (lc (ad 3) (l1 (ad 2))))))))))) rfl
def kg(T:Txt P w K mg)(n:Nat){s0 s1 s2 s3:au}(R0:Hy P w K mg base (15+n) "rows_of_then" 3 s0)(R1:Hy P w K mg base (15+n) "rows_of_choice" 3 s1)(R2:Hy P w K mg base (15+n) "rows_of_often" 3 s2)(R3:Hy P w K mg base (15+n) "rows_of" 3 s3):Hy P w K mg base (15+n+1) "rows_of_choice" 3 (aR 7 (C.cb cE eW s0 s1 s2 s3)):=cC ["body","first","behind","one","other","second","row"] T.o_rows_of_choice (fun _ _ _ _ _ _ _ hr nd=>(ac (s4 3 nd (bT hr (ad 0) (dU bt ae)))
  (ac (s4 4 nd (bT hr (ad 0) (dU bt ae)))
  (ac (s4 5 nd (aA av (aA av (ad 1) ae) (c4 (fZ T) hr (l1 (ad 3)))))
  (ac (s4 6 nd (aA av (bD (ad 0) bW (bN (dU bt ae))) (aB (lc (c4 (kf T) hr (lc (ad 3) (lc (aA av (ad 1) ae) (l1 (ad 2))))) (l1 (c4 (kf T) hr (lc (ad 4) (lc (ad 5) (l1 (ad 2))))))))))
  (ai (ao (aA av (aA av (aB (l1 (ad 6))) (c4 R3 hr (lc (ad 3) (lc (aA av (ad 1) ae) (l1 (ad 2)))))) (c4 R3 hr (lc (ad 4) (lc (ad 5) (l1 (ad 2))))))))))))) rfl
def k8(T:Txt P w K mg)(n:Nat){s0 s1 s2 s3:au}(R0:Hy P w K mg base (15+n) "rows_of_then" 3 s0)(R1:Hy P w K mg base (15+n) "rows_of_choice" 3 s1)(R2:Hy P w K mg base (15+n) "rows_of_often" 3 s2)(R3:Hy P w K mg base (15+n) "rows_of" 3 s3):Hy P w K mg base (15+n+1) "rows_of_often" 3 (aR 4 (C.cp eW s0 s1 s2 s3)):=cC ["body","first","behind","row"] T.o_rows_of_often (fun _ _ _ _ _ _ _ hr nd=>(ac (s4 3 nd (aB (lc ax (lc (c4 (kf T) hr (lc (aO hr (ad 0)) (lc (aA av (ad 1) ae) (l1 (ad 1))))) (l1 (ad 2))))))
  (ai (ao (aA av (aB (l1 (ad 3))) (c4 R3 hr (lc (aO hr (ad 0)) (lc (aA av (ad 1) ae) (l1 (ad 1)))))))))) rfl
def sL(T:Txt P w K mg)(n:Nat){s0 s1 s2 s3:au}(R0:Hy P w K mg base (15+n) "rows_of_then" 3 s0)(R1:Hy P w K mg base (15+n) "rows_of_choice" 3 s1)(R2:Hy P w K mg base (15+n) "rows_of_often" 3 s2)(R3:Hy P w K mg base (15+n) "rows_of" 3 s3):Hy P w K mg base (15+n+1) "rows_of" 3 (aR 4 (C.iJ s0 s1 s2 s3)):=cC ["body","first","behind","head"] T.o_rows_of (fun _ _ _ _ _ _ _ hr nd=>(ac (s4 3 nd (aO hr (ad 0)))
  (ac (aQ (eQ hr (ad 3) ax) (ai (ao (aB d8))) aE)
  (ac (aQ (eQ hr (ad 3) ax) (ai (ao (c4 R0 hr (lc (ad 0) (lc (ad 1) (l1 (ad 2))))))) aE)
  (ac (aQ (eQ hr (ad 3) ax) (ai (ao (c4 R2 hr (lc (ad 0) (lc (ad 1) (l1 (ad 2))))))) aE)
  (ac (aQ (bh (gH (cA hr)) (ad 3) (aB (lc ax (l1 ax))) rfl) (ai (ao (c4 R1 hr (lc (ad 0) (lc (ad 1) (l1 (ad 2))))))) aE)
  (ai (ao (aB (l1 (aA av (ad 0) (aB (l1 (ad 2)))))))))))))) rfl
theorem fF(T:Txt P w K mg):∀n:Nat,Hy P w K mg base (15+n) "rows_of_then" 3 (bZ n)/\Hy P w K mg base (15+n) "rows_of_choice" 3 (bI n)/\Hy P w K mg base (15+n) "rows_of_often" 3 (bS n)/\Hy P w K mg base (15+n) "rows_of" 3 (iU n)
 |0=>⟨.zero T.o_rows_of_then,.zero T.o_rows_of_choice,.zero T.o_rows_of_often,.zero T.o_rows_of⟩
 |n+1=>let ⟨h0,h1,h2,h3⟩:=fF T n;⟨lQ T n h0 h1 h2 h3,kg T n h0 h1 h2 h3,k8 T n h0 h1 h2 h3,sL T n h0 h1 h2 h3⟩
def oF:au:=iU 12
def sM(T:Txt P w K mg):Hy P w K mg base 27 "rows_of" 3 oF:=(fF T 12).2.2.2
def pN:au:=aR 1 (C.pg oF cE)
def yj(T:Txt P w K mg):Hy P w K mg base 28 "chart" 1 pN:=cC ["body"] T.o_chart (fun _ _ _ _ _ _ _ hr nd=>(ai (ao (aA av (c4 (sM T) hr (lc (ad 0) (lc ae (l1 (c4 (fZ T) hr (l1 (ad 0))))))) (aB (l1 (aB (l1 ax)))))))) rfl
noncomputable def dz:Nat->au
 |0=>qq
 |n+1=>aR 1 (C.fh (dz n))
def jc:au:=dz 12
def ir(T:Txt P w K mg):Hy P w K mg base 12 "plain_trace" 1 jc:=nB (b:=0) (r:=dz) T.o_plain_trace (fun n R0=>cC ["body"] T.o_plain_trace (fun _ _ _ _ _ _ _ hr nd=>(ac (aQ (eQ hr (aO hr (ad 0)) ax) (ai (ao (aB (lc (c4 R0 hr (l1 (aO hr (ad 0)))) (l1 (c4 R0 hr (l1 (aO hr (ad 0))))))))) aE)
  (ac (aQ (eQ hr (aO hr (ad 0)) ax) (ai (ao (aB (lc ae (l1 (c4 R0 hr (l1 (aO hr (ad 0))))))))) aE)
  (ac (aQ (eQ hr (aO hr (ad 0)) ax) (ai (ao (aB (lc ae (l1 (c4 R0 hr (l1 (aO hr (ad 0))))))))) aE)
  (ai (ao (aB d8))))))) rfl) rfl rfl 12
noncomputable def dA:Nat->au
 |0=>qq
 |n+1=>aR 8 (C.fi pM jc (dA n))
def jd:au:=dA 12
def mY(T:Txt P w K mg):Hy P w K mg base 26 "led_to_part" 3 jd:=nB (b:=14) (r:=dA) T.o_led_to_part (fun n R0=>cC ["body","place","trace","one","other","second","side","inner"] T.o_led_to_part (fun _ _ _ _ _ _ _ hr nd=>(ac (aQ (eQ hr (ad 1) ae) (ai (ao (ad 2))) aE)
  (ac (aQ (eQ hr (aO hr (ad 0)) ax) (ai (ao (aB (l1 (aB (lc ae (l1 (c4 R0 hr (lc (aO hr (ad 0)) (lc (aA eu (ad 1) ae) (l1 (ad 2)))))))))))) aE)
  (ac (s4 3 nd (bT hr (ad 0) (dU bt ae)))
  (ac (s4 4 nd (bT hr (ad 0) (dU bt ae)))
  (ac (s4 5 nd (aA av ae (c4 (yi T) hr (l1 (ad 3)))))
  (ac (s4 6 nd (A8 (bh mG (ad 1) (ad 5) (aX _)) ae ae))
  (ac (s4 7 nd (A8 (eQ hr (ad 6) ae) (c4 R0 hr (lc (ad 3) (lc (aA eu (ad 1) ae) (l1 (ad 2))))) (c4 R0 hr (lc (ad 4) (lc (aA eu (ad 1) (ad 5)) (l1 (ad 2)))))))
  (ac (aQ (vR hr (aO hr (ad 0)) ax) (ai (ao (aB (lc (ad 6) (l1 (ad 7)))))) aE)
  (ac (aQ (eQ hr (ad 6) ae) (ai (ao (aB (lc (ad 7) (l1 (c4 (ir T) hr (l1 (ad 4)))))))) aE)
  (ai (ao (aB (lc (c4 (ir T) hr (l1 (ad 3))) (l1 (ad 7)))))))))))))))) rfl) rfl rfl 12
noncomputable def cr:Nat->au
 |0=>qq
 |n+1=>aR 7 (C.dL fX (cr n))
def dM:au:=cr 12
def fG(T:Txt P w K mg):NC P w K mg base 13 "parts_reached" 3 dM:=ES (b:=1) (r:=cr) T.o_parts_reached (fun n R0=>Hb ["body","names","reached","found","number","side","shut"] T.o_parts_reached (fun _ _ _ _ _ _ _ hr nd=>(ac (s4 3 nd (aV (l1 (aB (lc (ad 0) (l1 (ad 2)))))))
  (ac (dR T6 rfl (o8 rfl rfl T.Jv (by decide +kernel) (l1 (c4 (lD T) hr (l1 (ad 0))))) (vP rfl (bo (gn 4 nd) (bo (gn 5 nd) gJ))) (ac (s4 6 nd (wP (d9 (mw (i_ hr)) (aO hr (ad 0)) ax (aX _)) (wP (d9 (mw (i_ hr)) (ad 4) ae (aX _)) (A6 (d9 (dC (cA hr)) (aO hr (ad 0)) (ad 1) rfl)))))
  (ai (cL (ve kP mz (ad 3) (l1 (Hc R0 hr (lc (ad 5) (lc (ad 1) (l1 (wP (ad 2) (A6 (A7 (ad 6))))))))))))))
  (ai (ao (ad 3)))))) rfl) rfl rfl 12
def iu:au:=aR 7 (C.ij dM jd)
def kh(T:Txt P w K mg):Hy P w K mg base 27 "next_step" 2 iu:=cC ["house","names","d","deed","place","found","part"] T.o_next_step (fun _ _ _ _ _ _ _ hr nd=>(ac (dR T6 rfl (o8 rfl rfl T.Jv (by decide +kernel) (l1 (aO hr (ad 0)))) (vP rfl (bo (gn 2 nd) (bo (gn 3 nd) gJ))) (ai (dR T6 rfl (o8 rfl rfl T.Jv (by decide +kernel) (l1 (cD (fG T) hr (lc (aO hr (ad 3)) (l1 (ad 1)))))) (vP rfl (bo (gn 4 nd) (bo (gn 5 nd) gJ))) (ac (s4 6 nd (aO hr (ad 5)))
  (ai (aQ (qG (n_ (fE (aO hr (ad 5))) (n_ (eQ hr (aO hr (ad 6)) ax) (mo (bh (dC (cA hr)) (aO hr (ad 6)) (ad 1) rfl))))) (ai (ao (aB (lc (Be PySem.F.plainAttrs_tuple Ww PySem.F.type_tuple_index qK rfl (aO hr (ad 0)) (l1 (aO hr (ad 6)))) (lc (ad 2) (l1 (c4 (mY T) hr (lc (aO hr (ad 3)) (lc (ad 4) (l1 (aB d8))))))))))) aE))))))
  (ai (ao n9)))) rfl
def oG:au:=aR 4 (C.kO iu)
def sN(T:Txt P w K mg):Hy P w K mg base 28 "filling" 1 oG:=cC ["house","found","names","step"] T.o_filling (fun _ _ _ _ _ _ _ hr nd=>(ac (s4 1 nd (aV d8))
  (ac (s4 2 nd (aV d8))
  (ac (s4 3 nd (c4 (kh T) hr (lc (ad 0) (l1 (ad 2)))))
  (ac (iH T6 (bh wR (ad 3) n9 (aX _)) (ac (cL (ve de d_ (ad 1) (l1 (ad 3))))
  (ac (cL (ve de d_ (ad 2) (l1 (bT hr (aO hr (ad 0)) (aO hr (ad 3))))))
  (ai (s4 3 nd (c4 (kh T) hr (lc (ad 0) (l1 (ad 2)))))))))
  (ai (ao (ad 1)))))))) rfl
def f_:au:=aR 1 (C.jH oG)
def lF(T:Txt P w K mg):Hy P w K mg base 29 "fillable" 1 f_:=cC ["house"] T.o_fillable (fun _ _ _ _ _ _ _ hr nd=>(ai (ao (lO ["house"] 1 [0] ["step","house"] (bm (c4 (sN T) hr (l1 (ad 0)))) (fun _=>(gn 0 Gz)) (fun _=>bM) (fun _=>(bT hr (aO hr (ad 1)) (aO hr (ad 0)))))))) rfl
def qY:au:=aR 3 C.mH
def vB(T:Txt P w K mg):Hy P w K mg base 1 "common" 2 qY:=cC ["one","other","left"] T.o_common (fun _ _ _ _ _ _ _ hr nd=>(ac (iH T6 (vR hr (ad 1) ae) (ac (s4 2 nd (aA gL (ad 0) (ad 1)))
  (ac (s4 0 nd (ad 1))
  (ai (s4 1 nd (ad 2))))))
  (ai (ao (cB EH T.Pg (l1 (ad 0))))))) rfl
def eE:au:=aR 3 (C.jE qY)
def iw(T:Txt P w K mg):Hy P w K mg base 2 "fraction" 2 eE:=cC ["top","bottom","part"] T.o_fraction (fun _ _ _ _ _ _ _ hr nd=>(ac (s4 2 nd (c4 (vB T) hr (lc (ad 0) (l1 (ad 1)))))
  (ac (aQ (bh mG (ad 1) ae (aX _)) (ai (s4 2 nd (dU bt (ad 2)))) aE)
  (ai (ao (aB (lc (aA jA (ad 0) (ad 2)) (l1 (aA jA (ad 1) (ad 2)))))))))) rfl
def sO:au:=aR 2 (C.sx eE)
def ub(T:Txt P w K mg):Hy P w K mg base 3 "plus" 2 sO:=cC ["one","other"] T.o_plus (fun _ _ _ _ _ _ _ hr nd=>(ai (ao (c4 (iw T) hr (lc (aA av (aA bi (aO hr (ad 0)) (aO hr (ad 1))) (aA bi (aO hr (ad 1)) (aO hr (ad 0)))) (l1 (aA bi (aO hr (ad 0)) (aO hr (ad 1))))))))) rfl
def pO(Jb:au):bv:=(ar (ab Jb [(ag ci (ag bX (ag af (v3 0) (c3 (.int 0))) (ag af (v3 1) (c3 (.int 1)))) (ag bX (ag af (v3 1) (c3 (.int 0))) (ag af (v3 0) (c3 (.int 1))))),(ag bX (ag af (v3 0) (c3 (.int 1))) (ag af (v3 1) (c3 (.int 1))))]))
def uc:au:=aR 2 (pO eE)
def yk(T:Txt P w K mg):Hy P w K mg base 3 "minus" 2 uc:=cC ["one","other"] T.o_minus (fun _ _ _ _ _ _ _ hr nd=>(ai (ao (c4 (iw T) hr (lc (aA eu (aA bi (aO hr (ad 0)) (aO hr (ad 1))) (aA bi (aO hr (ad 1)) (aO hr (ad 0)))) (l1 (aA bi (aO hr (ad 0)) (aO hr (ad 1))))))))) rfl
def ud:au:=aR 2 (C.o_ eE)
def qZ(T:Txt P w K mg):Hy P w K mg base 3 "times" 2 ud:=cC ["one","other"] T.o_times (fun _ _ _ _ _ _ _ hr nd=>(ai (ao (c4 (iw T) hr (lc (aA bi (aO hr (ad 0)) (aO hr (ad 1))) (l1 (aA bi (aO hr (ad 0)) (aO hr (ad 1))))))))) rfl
def sP:bv:=(ar (ag qp (ag bX (ag af (v3 0) (c3 (.int 0))) (ag af (v3 1) (c3 (.int 1)))) (ag bX (ag af (v3 1) (c3 (.int 0))) (ag af (v3 0) (c3 (.int 1))))))
def mZ:au:=aR 2 sP
def pP(T:Txt P w K mg):Hy P w K mg base 1 "less" 2 mZ:=cC ["one","other"] T.o_less (fun _ _ _ _ _ _ _ hr nd=>(ai (ao (d9 mG (aA bi (aO hr (ad 0)) (aO hr (ad 1))) (aA bi (aO hr (ad 1)) (aO hr (ad 0))) (aX _))))) rfl
def k9(Lk:au):bv:=(ah (aq 1 (ag af (v3 0) (c3 (.int 0))))
  (ah (b_ (aF (v3 0)) (.n 2) (bd (aM (ab Lk [(v3 1),(v3 2)])) (aq 1 (v3 2)) aI))
  (ar (v3 1))))
def oH:au:=aR 3 (k9 mZ)
def sQ(T:Txt P w K mg):Hy P w K mg base 2 "highest" 1 oH:=cC ["fractions","found","one"] T.o_highest (fun _ _ _ _ _ _ _ hr nd=>(ac (s4 1 nd (aO hr (ad 0)))
  (ac (dR T6 rfl (bm (ad 0)) (gn 2 nd) (ai (aQ (fE (c4 (pP T) hr (lc (ad 1) (l1 (ad 2))))) (ai (s4 1 nd (ad 2))) aE)))
  (ai (ao (ad 1)))))) rfl
def eF:au:=aR 4 (C.eA dM iT)
def lR(T:Txt P w K mg):Hy P w K mg base 14 "rows_of_body" 2 eF:=cC ["body","names","rows","come_to"] T.o_rows_of_body (fun _ _ _ _ _ _ _ hr nd=>(ac (Bf [] 1 [] ["found"] 2 nd (bm (cD (fG T) hr (lc (ad 0) (l1 (ad 1))))) (fun _=>(gn 0 GA)) (fun _=>(mD (fE (c4 (mX T) hr (l1 (aO hr (ad 0))))))) (fun _=>(ad 0)))
  (ac (Bf [] 2 [] ["row","found"] 3 nd (o8 rfl rfl T.Jv (by decide +kernel) (l1 (ad 2))) (fun _=>(vP rfl (bo (gn 0 E9) (bo (gn 1 E9) gJ)))) (fun _=>(mD (fE (aO hr (ad 1))))) (fun _=>(ad 0)))
  (ai (ao (cT cn T.HW (l1 (aA av (ad 3) (aV (l1 (cB bK T.HI (l1 (ad 2))))))))))))) rfl
def eG:au:=aR 2 (C.eB f_ eF)
def lS(T:Txt P w K mg):Hy P w K mg base 30 "rows_come_to" 1 eG:=cC ["house","names"] T.o_rows_come_to (fun _ _ _ _ _ _ _ hr nd=>(ac (s4 1 nd (c4 (lF T) hr (l1 (ad 0))))
  (ai (ao (cT cn T.HW (l1 (lO ["names"] 1 [1] ["deed","names"] (bm (aO hr (ad 0))) (fun _=>(gn 0 GB)) (fun _=>bM) (fun _=>(c4 (lR T) hr (lc (aO hr (ad 0)) (l1 (ad 1)))))))))))) rfl
def b5(Ky:au):bv:=(ah (aq 2 (ab Ky [(v3 0)]))
  (ar (al pk [(aG (va (ag af (v3 0) (c3 (.int 0))) (v3 1)) (.tp (.cons (.n 0) (.cons (.n 1) .nil))) (aM (ag (fJ false) (v3 0) (v3 2))) (aC [(v3 0),(v3 1)]) 2 [2])])))
def dG:au:=aR 3 (b5 f_)
def gR(T:Txt P w K mg):Hy P w K mg base 30 "worths_of_fillable" 2 dG:=cC ["house","worths","names"] T.o_worths_of_fillable (fun _ _ _ _ _ _ _ hr nd=>(ac (s4 2 nd (c4 (lF T) hr (l1 (ad 0))))
  (ai (ao (cT (Ac rfl) T.Op (l1 (lO ["names"] 2 [2] ["jar","worth","names"] (EN rfl rfl rfl T.Na (by decide +kernel) (lc (aO hr (ad 0)) (l1 (ad 1)))) (fun _=>(vP rfl (bo (gn 0 E_) (bo (gn 1 E_) gJ)))) (fun _=>(mD (bh (gH (cA hr)) (ad 0) (ad 2) rfl))) (fun _=>(aB (lc (ad 0) (l1 (ad 1)))))))))))) rfl
def eI(Nc MF NJ:au):bv:=(ah (aq 3 (ag af (v3 0) (c3 (.int 0))))
  (ah (bd (aM (ag (bq false) (v3 3) (c3 (.str "end")))) (ar (bb [(aC [(c3 (.int 0)),(c3 (.int 1))])])) aI)
  (ah (bd (aM (ag (bq false) (v3 3) (c3 (.str "pay")))) (ar (bb [(ab Nc [(ag af (v3 0) (c3 (.int 1))),(ag af (v3 1) (ag af (v3 0) (c3 (.int 2))))])])) aI)
  (ah (bd (aM (ag (bq false) (v3 3) (c3 (.str "put")))) (ar (bb [(ab Nc [(ab MF [(ag af (v3 2) (ag af (v3 0) (c3 (.int 1)))),(aC [(ag af (v3 0) (c3 (.int 2))),(c3 (.int 1))])]),(ag af (v3 1) (ag af (v3 0) (c3 (.int 3))))])])) aI)
  (ah (bd (aM (ag (bq true) (v3 3) (c3 (.str "take")))) (ar (bb [(ag af (v3 1) (ag af (v3 0) (c3 (.int 1)))),(ag af (v3 1) (ag af (v3 0) (c3 (.int 2))))])) aI)
  (ah (bd (aM (ag (fJ true) (ag af (v3 0) (c3 (.int 1))) (v3 2))) (ar (bb [(ag af (v3 1) (ag af (v3 0) (c3 (.int 4))))])) aI)
  (ar (bb [(ag af (v3 1) (ag af (v3 0) (c3 (.int 4)))),(ab NJ [(ag af (v3 1) (ag af (v3 0) (c3 (.int 3)))),(ab MF [(ag af (v3 2) (ag af (v3 0) (c3 (.int 1)))),(aC [(ag af (v3 0) (c3 (.int 2))),(c3 (.int 1))])])])]))))))))
def jM:au:=aR 4 (eI sO ud uc)
def q_(T:Txt P w K mg):Hy P w K mg base 4 "asked_at" 3 jM:=cC ["row","lefts","worths","head"] T.o_asked_at (fun _ _ _ _ _ _ _ hr nd=>(ac (s4 3 nd (aO hr (ad 0)))
  (ac (aQ (eQ hr (ad 3) ax) (ai (ao (aV (l1 (aB (lc ae (l1 ae))))))) aE)
  (ac (aQ (eQ hr (ad 3) ax) (ai (ao (aV (l1 (c4 (ub T) hr (lc (aO hr (ad 0)) (l1 (bT hr (ad 1) (aO hr (ad 0)))))))))) aE)
  (ac (aQ (eQ hr (ad 3) ax) (ai (ao (aV (l1 (c4 (ub T) hr (lc (c4 (qZ T) hr (lc (bT hr (ad 2) (aO hr (ad 0))) (l1 (aB (lc (aO hr (ad 0)) (l1 ae)))))) (l1 (bT hr (ad 1) (aO hr (ad 0)))))))))) aE)
  (ac (aQ (vR hr (ad 3) ax) (ai (ao (aV (lc (bT hr (ad 1) (aO hr (ad 0))) (l1 (bT hr (ad 1) (aO hr (ad 0)))))))) aE)
  (ac (aQ (bh (dC (cA hr)) (aO hr (ad 0)) (ad 2) rfl) (ai (ao (aV (l1 (bT hr (ad 1) (aO hr (ad 0))))))) aE)
  (ai (ao (aV (lc (bT hr (ad 1) (aO hr (ad 0))) (l1 (c4 (yk T) hr (lc (bT hr (ad 1) (aO hr (ad 0))) (l1 (c4 (qZ T) hr (lc (bT hr (ad 2) (aO hr (ad 0))) (l1 (aB (lc (aO hr (ad 0)) (l1 ae))))))))))))))))))))) rfl
def gc(Lk MR Mw:au):bv:=(ar (lx (al u5 [(aG (aF (v3 1)) (.n 0) bx (ab Lk [(ag af (v3 1) (v3 0)),(ab MR [(ab Mw [(ag af (v3 2) (v3 0)),(v3 1),(v3 3)])])]) 1 [2,0,3])])))
def gf:au:=aR 4 (gc mZ oH jM)
def nF(T:Txt P w K mg):Hy P w K mg base 5 "deed_holds" 4 gf:=cC ["rows","come_to","lefts","worths"] T.o_deed_holds (fun _ _ _ _ _ _ _ hr nd=>(ai (ao (A7 (cB (A9 rfl) T.NV (l1 (lO ["worths","rows","lefts"] 1 [2,0,3] ["number","lefts","rows","worths"] (bm (ad 1)) (fun _=>(gn 0 GC)) (fun _=>bM) (fun _=>(c4 (pP T) hr (lc (bT hr (ad 1) (ad 0)) (l1 (c4 (sQ T) hr (l1 (c4 (q_ T) hr (lc (bT hr (ad 2) (ad 0)) (lc (ad 1) (l1 (ad 3)))))))))))))))))) rfl
def fk(Lk NK Kc Ll LW:au):bv:=(ah (bd (lw (aM (ag (bq true) (al bA [(ag af (v3 1) (c3 (.int 0)))]) (al bA [(ag af (v3 0) (c3 (.int 0)))]))) (aM (al u5 [(aG (aF (ag af (v3 1) (c3 (.int 0)))) (.n 0) bx (ab Lk [(v3 0),(aC [(c3 (.int 0)),(c3 (.int 1))])]) 1 [])]))) (ar (c3 (.bl false))) aI)
  (ah (aq 2 (aG (aF (ag af (v3 0) (c3 (.int 1)))) (.n 0) bx (ab NK [(ag af (v3 0) (c3 (.int 1)))]) 1 []))
  (ah (bd (aM (ag (bq true) (aG (aF (ag af (v3 1) (c3 (.int 1)))) (.n 0) bx (al bA [(v3 0)]) 1 []) (aG (aF (v3 2)) (.n 0) bx (al bA [(v3 0)]) 1 []))) (ar (c3 (.bl false))) aI)
  (ah (aq 5 (ab Kc [(v3 0),(ag af (v3 1) (c3 (.int 0)))]))
  (ah (b_ (sy (v3 2) (ab Ll [(v3 0)]) (ag af (v3 1) (c3 (.int 1)))) (.tp (.cons (.n 4) (.cons (.n 6) (.cons (.n 3) .nil)))) (bd (i3 (aM (ab LW [(v3 4),(v3 6),(v3 3),(v3 5)]))) (ar (c3 (.bl false))) aI))
  (ar (c3 (.bl true))))))))
def fm:au:=aR 7 (fk mZ pN dG eG gf)
def m4(T:Txt P w K mg):Hy P w K mg base 31 "paper_holds" 2 fm:=cC ["house","paper","charts","lefts","rows","worths","come_to"] T.o_paper_holds (fun _ _ _ _ _ _ _ hr nd=>(ac (aQ (qG (kH (vR hr (cB bK T.HI (l1 (aO hr (ad 1)))) (cB bK T.HI (l1 (aO hr (ad 0))))) (gF (fE (cB (A9 rfl) T.NV (l1 (lO [] 1 [] ["worth"] (bm (aO hr (ad 1))) (fun _=>(gn 0 GE)) (fun _=>bM) (fun _=>(c4 (pP T) hr (lc (ad 0) (l1 (aB (lc ae (l1 ae)))))))))))))) (ai (ao nA)) aE)
  (ac (Bf [] 1 [] ["deed"] 2 nd (bm (aO hr (ad 0))) (fun _=>(gn 0 GF)) (fun _=>bM) (fun _=>(c4 (yj T) hr (l1 (aO hr (ad 0))))))
  (ac (aQ (vR hr (lO [] 1 [] ["lefts"] (bm (aO hr (ad 1))) (fun _=>(gn 0 GG)) (fun _=>bM) (fun _=>(cB bK T.HI (l1 (ad 0))))) (lO [] 1 [] ["rows"] (bm (ad 2)) (fun _=>(gn 0 Fa)) (fun _=>bM) (fun _=>(cB bK T.HI (l1 (ad 0)))))) (ai (ao nA)) aE)
  (ac (s4 5 nd (c4 (gR T) hr (lc (ad 0) (l1 (aO hr (ad 1))))))
  (ac (dR T6 rfl (z0 rfl rfl rfl T.Na (by decide +kernel) (lc (ad 2) (lc (c4 (lS T) hr (l1 (ad 0))) (l1 (aO hr (ad 1)))))) (vP rfl (bo (gn 4 nd) (bo (gn 6 nd) (bo (gn 3 nd) gJ)))) (ai (aQ (og (fE (c4 (nF T) hr (lc (ad 4) (lc (ad 6) (lc (ad 3) (l1 (ad 5)))))))) (ai (ao nA)) aE)))
  (ai (ao nA)))))))) rfl
def lG:au:=aR 5 C.hV
def pQ(T:Txt P w K mg):Hy P w K mg base 1 "_law_deal" 2 lG:=cC ["_law_script","_law_base","_law_one","_law_some","_law_number"] T.o__law_deal (fun _ _ _ _ _ _ _ hr nd=>(ac (Bf [] 1 [] ["_law_one"] 3 nd (bm (bD (ad 0) (bN (ad 1)) (bN ae))) (fun _=>(gn 0 yh)) (fun _=>bM) (fun _=>(cB (wV rfl) T.NW (lc (ad 0) (l1 (aA eu ae (ad 0)))))))
  (ac (s4 4 nd (aA av ae (ad 1)))
  (ac (dR T6 rfl (bm (ad 3)) (gn 2 nd) (ai (s4 4 nd (aA gL (aA av (aA bi (ad 4) ae) (aA gL (ad 2) ae)) ae))))
  (ai (ao (xy (lY ax (ad 4) (lY ax ae (lY ax (CQ uT rfl (lO [] 1 [] ["_law_one"] (bm (ad 3)) (fun _=>(gn 0 yh)) (fun _=>(mD (bh zW (ad 0) (aA ER ae ae) (aX _)))) (fun _=>(ad 0))) rfl T.Mv rfl T.Lj) xx)))))))))) rfl
def w__law_draw:au:=aR 5 C.hW
def am(T:Txt P w K mg):Hy P w K mg base 1 "_law_draw" 2 w__law_draw:=cC ["_law_deal_here","_law_many","_law_number","_law_one","_law_other"] T.o__law_draw (fun _ _ _ _ _ _ _ hr nd=>(ac (iH T6 (qG (n_ (eQ hr (bT hr (ad 0) ax) ae) (mo (bh xC (cB bK T.HI (l1 (bT hr (ad 0) ax))) ae (aX _))))) (ai (om (yT hr) (Gu C0 EK (bT hr (ad 0) ax)) (ad 0) ax)))
  (ac (s4 2 nd (bT hr (ad 0) ax))
  (ac (aQ (bh xC (ad 2) ae (aX _)) (ac (om (yT hr) (aA jA (ad 2) (ad 1)) (ad 0) ax)
  (ai (ao (aA gL (ad 2) (ad 1))))) aE)
  (ac (s4 3 nd (aA gL (aA av (aA bi (bT hr (ad 0) ax) ae) ae) ae))
  (ac (om (yT hr) (aA gL (aA av (aA bi (ad 3) ae) ae) ae) (ad 0) ax)
  (ac (s4 4 nd (aA gL (aA bi (bT hr (ad 0) ax) (bT hr (ad 0) ax)) ae))
  (ai (ao (aA gL (aA av (aA bi (aA gL (aA bi (ad 3) (ad 3)) ae) ae) (ad 4)) (ad 1))))))))))) rfl
def gg:au:=aR 11 (C.fO w__law_draw)
def nG(T:Txt P w K mg):Hy P w K mg base 2 "_law_words" 2 gg:=cC ["_law_deal_here","_law_many","_law_letters","_law_taken","_law_k","_law_core","_law_at","_law_turn","_law_near","_law_found","_law_name"] T.o__law_words (fun _ _ _ _ _ _ _ hr nd=>(ac (s4 2 nd ax)
  (ac (s4 3 nd (aV (lc ax (lc ax (lc ax (lc ax (lc ax (lc ax (lc ax (lc ax (lc ax (l1 ax))))))))))))
  (ac (s4 5 nd (ve tU xi ax (l1 (lO ["_law_letters","_law_deal_here"] 1 [0,2] ["_law_k","_law_deal_here","_law_letters"] (ee rfl rfl T.JM (l1 (c4 (am T) hr (lc (ad 0) (l1 ae))))) (fun _=>(gn 0 Fb)) (fun _=>bM) (fun _=>(bT hr (ad 2) (c4 (am T) hr (lc (ad 1) (l1 ae)))))))))
  (ac (zR (i:=6) (j:=7) (k:=8) rfl nd rfl rfl rfl rfl rfl rfl (aB (lc (c4 (am T) hr (lc (ad 0) (l1 (aA av (cB bK T.HI (l1 (ad 5))) ae)))) (lc (c4 (am T) hr (lc (ad 0) (l1 ae))) (l1 (d9 (mw (i_ hr)) (c4 (am T) hr (lc (ad 0) (l1 ae))) ae (aX _)))))))
  (ac (s4 9 nd (aV d8))
  (ac (dR T6 rfl (ee rfl rfl T.JM (l1 (ad 1))) (gn 4 nd) (ac (s4 10 nd (aA av (aA av (bD (ad 5) bW (bN (ad 6))) (bT hr (ad 2) (aA gL (aA av (ad 7) (ad 4)) ae))) (bD (ad 5) (bN (ad 6)) bW)))
  (ac (aQ (og (fE (ad 8))) (ai (s4 10 nd (ve tU xi ax (l1 (lO ["_law_letters","_law_deal_here"] 1 [0,2] ["_law_j","_law_deal_here","_law_letters"] (ee rfl rfl T.JM (l1 (aA av ae (c4 (am T) hr (lc (ad 0) (l1 ae)))))) (fun _=>(gn 0 Fc)) (fun _=>bM) (fun _=>(bT hr (ad 2) (c4 (am T) hr (lc (ad 1) (l1 ae)))))))))) aE)
  (ac (iH T6 (qG (kH (bh (gH (cA hr)) (ad 10) (ad 3) rfl) (gF (bh (gH (cA hr)) (ad 10) (ad 9) rfl)))) (ai (s4 10 nd (aA av (bT hr (ad 2) (aA gL (aA av (ve xG zP (ad 2) (l1 (aO hr (ad 10)))) ae) ae)) (bD (ad 10) (bN ae) bW)))))
  (ai (cL (ve de d_ (ad 9) (l1 (ad 10)))))))))
  (ai (ao (ad 9)))))))))) rfl
def b6:au:=aR 4 C.jB
def cF(T:Txt P w K mg):Hy P w K mg base 1 "_law_low" 2 b6:=cC ["_law_top","_law_bottom","_law_one","_law_other"] T.o__law_low (fun _ _ _ _ _ _ _ hr nd=>(ac (Ba (i:=2) (j:=3) rfl nd rfl rfl (by decide) rfl rfl (lc (cB (wV rfl) T.NW (lc (ad 0) (l1 (aA eu ae (ad 0))))) (l1 (ad 1))))
  (ac (iH T6 (bh xC (ad 3) ae (aX _)) (ai (Ba (i:=2) (j:=3) rfl nd rfl rfl (by decide) rfl rfl (lc (ad 3) (l1 (aA gL (ad 2) (ad 3)))))))
  (ai (ao (aB (lc (aA jA (ad 0) (ad 2)) (l1 (aA jA (ad 1) (ad 2)))))))))) rfl
def cG:au:=aR 2 (C.lA b6)
def cQ(T:Txt P w K mg):Hy P w K mg base 2 "_law_plus" 2 cG:=cC ["_law_one","_law_other"] T.o__law_plus (fun _ _ _ _ _ _ _ hr nd=>(ai (ao (c4 (cF T) hr (lc (aA av (aA bi (aO hr (ad 0)) (aO hr (ad 1))) (aA bi (aO hr (ad 1)) (aO hr (ad 0)))) (l1 (aA bi (aO hr (ad 0)) (aO hr (ad 1))))))))) rfl
def gh(HB:au):bv:=(ar (ab HB [(ag bX (ag af (v3 0) (c3 (.int 0))) (v3 1)),(ag af (v3 0) (c3 (.int 1)))]))
def d0:au:=aR 2 (gh b6)
def je(T:Txt P w K mg):Hy P w K mg base 2 "_law_times" 2 d0:=cC ["_law_one","_law_many"] T.o__law_times (fun _ _ _ _ _ _ _ hr nd=>(ai (ao (c4 (cF T) hr (lc (aA bi (aO hr (ad 0)) (ad 1)) (l1 (aO hr (ad 0)))))))) rfl
def ix:au:=aR 2 (C.hZ w__law_draw b6)
def pR(T:Txt P w K mg):Hy P w K mg base 2 "_law_cost" 1 ix:=cC ["_law_deal_here","_law_form"] T.o__law_cost (fun _ _ _ _ _ _ _ hr nd=>(ac (s4 1 nd (c4 (am T) hr (lc (ad 0) (l1 ae))))
  (ac (aQ (eQ hr (ad 1) ae) (ai (ao (aB (lc ae (l1 ae))))) aE)
  (ac (aQ (bh mG (ad 1) ae (aX _)) (ai (ao (aB (lc (aA av ae (c4 (am T) hr (lc (ad 0) (l1 ae)))) (l1 ae))))) aE)
  (ai (ao (c4 (cF T) hr (lc (c4 (am T) hr (lc (ad 0) (l1 ae))) (l1 (aA av ae (c4 (am T) hr (lc (ad 0) (l1 ae))))))))))))) rfl
def eX:au:=aR 4 (C.h_ w__law_draw ix)
def gi(T:Txt P w K mg):Hy P w K mg base 3 "_law_leaf" 2 eX:=cC ["_law_deal_here","_law_jars","_law_form","_law_many"] T.o__law_leaf (fun _ _ _ _ _ _ _ hr nd=>(ac (s4 2 nd (c4 (am T) hr (lc (ad 0) (l1 ae))))
  (ac (aQ (eQ hr (ad 2) ae) (ai (ao (aB (l1 ax)))) aE)
  (ac (aQ (qG (kH (bh mG (ad 2) ae (aX _)) (gF (eQ hr (cB bK T.HI (l1 (ad 1))) ae)))) (ai (ao (aB (lc ax (l1 (c4 (pR T) hr (l1 (ad 0)))))))) aE)
  (ac (s4 3 nd (bT hr (aV (lc ae (lc ae (l1 (aA av ae (c4 (am T) hr (lc (ad 0) (l1 ae)))))))) (c4 (am T) hr (lc (ad 0) (l1 ae)))))
  (ai (ao (aB (lc ax (lc (bT hr (ad 1) (c4 (am T) hr (lc (ad 0) (l1 (cB bK T.HI (l1 (ad 1))))))) (l1 (ad 3)))))))))))) rfl
noncomputable def eY:Nat->au
 |0=>qq
 |n+1=>aR 8 (C.ie w__law_draw eX (eY n))
def lH:au:=eY 12
def pS(T:Txt P w K mg):Hy P w K mg base 15 "_law_body" 4 lH:=nB (b:=3) (r:=eY) T.o__law_body (fun n R0=>cC ["_law_deal_here","_law_jars","_law_left","_law_down","_law_form","_law_one","_law_other","_law_many"] T.o__law_body (fun _ _ _ _ _ _ _ hr nd=>(ac (s4 4 nd (c4 (am T) hr (lc (ad 0) (l1 ae))))
  (ac (aQ (qG (kH (eQ hr (ad 3) ae) (kH (bh mG (aO hr (ad 2)) ae (aX _)) (gF (bh mG (ad 4) ae (aX _)))))) (ai (ao (c4 (gi T) hr (lc (ad 0) (l1 (ad 1)))))) aE)
  (ac (aQ (bh mG (ad 4) ae (aX _)) (ac (om (yT hr) (aA eu (aO hr (ad 2)) ae) (ad 2) ae)
  (ai (ao (aB (lc ax (l1 (c4 R0 hr (lc (ad 0) (lc (ad 1) (lc (ad 2) (l1 (aA eu (ad 3) ae)))))))))))) aE)
  (ac (om (yT hr) (aA eu (aO hr (ad 2)) ae) (ad 2) ae)
  (ac (s4 5 nd (c4 R0 hr (lc (ad 0) (lc (ad 1) (lc (ad 2) (l1 (aA eu (ad 3) ae)))))))
  (ac (s4 6 nd (c4 R0 hr (lc (ad 0) (lc (ad 1) (lc (ad 2) (l1 (aA eu (ad 3) ae)))))))
  (ac (aQ (bh mG (ad 4) ae (aX _)) (ai (ao (aB (lc ax (lc (ad 5) (l1 (ad 6))))))) aE)
  (ac (aQ (qG (kH (eQ hr (ad 4) ae) (gF (eQ hr (cB bK T.HI (l1 (ad 1))) ae)))) (ai (ao (aB (lc ax (lc (ad 5) (l1 (ad 6))))))) aE)
  (ac (s4 7 nd (bT hr (aV (lc ae (lc ae (lc ae (l1 (aA av ae (c4 (am T) hr (lc (ad 0) (l1 ae))))))))) (c4 (am T) hr (lc (ad 0) (l1 ae)))))
  (ai (ao (aB (lc ax (lc (bT hr (ad 1) (c4 (am T) hr (lc (ad 0) (l1 (cB bK T.HI (l1 (ad 1))))))) (lc (ad 7) (lc (ad 5) (l1 (ad 6))))))))))))))))))) rfl) rfl rfl 12
noncomputable def bU:Nat->au
 |0=>qq
 |n+1=>aR 1 (C.cM (bU n))
def bV:au:=bU 12
def eJ(T:Txt P w K mg):Hy P w K mg base 12 "_law_pass_count" 1 bV:=nB (b:=0) (r:=bU) T.o__law_pass_count (fun n R0=>cC ["_law_body_here"] T.o__law_pass_count (fun _ _ _ _ _ _ _ hr nd=>(ac (aQ (eQ hr (aO hr (ad 0)) ax) (ai (ao (aA bi (c4 R0 hr (l1 (aO hr (ad 0)))) (c4 R0 hr (l1 (aO hr (ad 0))))))) aE)
  (ac (aQ (qG (kH (eQ hr (aO hr (ad 0)) ax) (gF (eQ hr (aO hr (ad 0)) ax)))) (ai (ao (aA av (c4 R0 hr (l1 (bT hr (ad 0) (dU bt ae)))) (c4 R0 hr (l1 (bT hr (ad 0) (dU bt ae))))))) aE)
  (ai (ao ae))))) rfl) rfl rfl 12
noncomputable def bQ:Nat->au
 |0=>qq
 |n+1=>aR 1 (C.cx bV (bQ n))
def eM:au:=bQ 12
def i7(T:Txt P w K mg):Hy P w K mg base 24 "_law_round_count" 1 eM:=nB (b:=12) (r:=bQ) T.o__law_round_count (fun n R0=>cC ["_law_body_here"] T.o__law_round_count (fun _ _ _ _ _ _ _ hr nd=>(ac (aQ (eQ hr (aO hr (ad 0)) ax) (ai (ao (aA av (c4 (eJ T) hr (l1 (aO hr (ad 0)))) (c4 R0 hr (l1 (aO hr (ad 0))))))) aE)
  (ac (aQ (bh (gH (cA hr)) (aO hr (ad 0)) (aB (lc ax (lc ax (l1 ax)))) rfl) (ai (ao (aA av (c4 R0 hr (l1 (bT hr (ad 0) (dU bt ae)))) (c4 R0 hr (l1 (bT hr (ad 0) (dU bt ae))))))) aE)
  (ai (ao ae))))) rfl) rfl rfl 12
def dj:au:=aR 5 (C.c_ lH bV eM eX)
def ki(T:Txt P w K mg):Hy P w K mg base 25 "_law_deed_body" 4 dj:=cC ["_law_deal_here","_law_jars","_law_room","_law_most","_law_body_here"] T.o__law_deed_body (fun _ _ _ _ _ _ _ hr nd=>(ac (s4 4 nd (c4 (pS T) hr (lc (ad 0) (lc (ad 1) (lc (aV (l1 (aA eu (ad 2) ae))) (l1 ae))))))
  (ac (aQ (bh xC (aA av (c4 (eJ T) hr (l1 (ad 4))) (c4 (i7 T) hr (l1 (ad 4)))) (ad 3) (aX _)) (ai (s4 4 nd (aB (lc ax (lc (aB (lc ax (l1 (c4 (gi T) hr (lc (ad 0) (l1 (ad 1))))))) (l1 (c4 (gi T) hr (lc (ad 0) (l1 (ad 1)))))))))) aE)
  (ai (ao (ad 4)))))) rfl
def gj:au:=aR 9 (C.fP gg w__law_draw dj)
def nH(T:Txt P w K mg):Hy P w K mg base 26 "_law_house" 4 gj:=cC ["_law_deal_here","_law_most_jars","_law_most_deeds","_law_room","_law_words_here","_law_jars","_law_first_here","_law_many","_law_deeds"] T.o__law_house (fun _ _ _ _ _ _ _ hr nd=>(ac (s4 4 nd (c4 (nG T) hr (lc (ad 0) (l1 ae))))
  (ac (s4 5 nd (cT cn T.HW (l1 (bD (ad 4) bW (bN (c4 (am T) hr (lc (ad 0) (l1 (aA av (ad 1) ae)))))))))
  (ac (s4 6 nd (bT hr (aV (lc ae (l1 ae))) (c4 (am T) hr (lc (ad 0) (l1 ae)))))
  (ac (s4 7 nd (aA av ae (c4 (am T) hr (lc (ad 0) (l1 (ad 2))))))
  (ac (Bf ["_law_words_here","_law_room","_law_many","_law_jars","_law_first_here","_law_deal_here"] 1 [0,6,5,7,3,4] ["_law_k","_law_deal_here","_law_first_here","_law_jars","_law_many","_law_room","_law_words_here"] 8 nd (ee rfl rfl T.JM (l1 (ad 7))) (fun _=>(gn 0 Fd)) (fun _=>bM) (fun _=>(aB (lc (bT hr (ad 6) (aA av (ad 2) (ad 0))) (l1 (c4 (ki T) hr (lc (ad 1) (lc (ad 3) (lc (ad 5) (l1 (aA jA ae (ad 4))))))))))))
  (ai (ao (aB (lc (ad 5) (l1 (cT cn T.HW (l1 (ad 8)))))))))))))) rfl
noncomputable def eZ:Nat->au
 |0=>qq
 |n+1=>aR 3 (C.ig (eZ n))
def lI:au:=eZ 12
def pU(T:Txt P w K mg):Hy P w K mg base 12 "_law_puts" 3 lI:=nB (b:=0) (r:=eZ) T.o__law_puts (fun n R0=>cC ["_law_body_here","_law_held","_law_found"] T.o__law_puts (fun _ _ _ _ _ _ _ hr nd=>(ac (aQ (eQ hr (aO hr (ad 0)) ax) (ai (cL (ve de d_ (ad 2) (l1 (aO hr (ad 0)))))) aE)
  (ac (aQ (eQ hr (aO hr (ad 0)) ax) (ai (cL (c4 R0 hr (lc (aO hr (ad 0)) (lc (ad 1) (l1 (ad 2))))))) aE)
  (ai (aQ (bh (gH (cA hr)) (aO hr (ad 0)) (aB (lc ax (lc ax (l1 ax)))) rfl) (ac (aQ (qG (kH (vR hr (aO hr (ad 0)) ax) (gF (bh (gH (cA hr)) (aO hr (ad 0)) (ad 1) rfl)))) (ai (cL (c4 R0 hr (lc (bT hr (ad 0) (dU bt ae)) (lc (ad 1) (l1 (ad 2))))))) aE)
  (ai (cL (c4 R0 hr (lc (bT hr (ad 0) (dU bt ae)) (lc (ad 1) (l1 (ad 2)))))))) aE))))) rfl) rfl rfl 12
def cu:au:=aR 6 (C.dJ lI)
def fH(T:Txt P w K mg):Hy P w K mg base 13 "_law_fillable" 1 cu:=cC ["_law_house_here","_law_held","_law_turn","_law_found","_law_name","_law_body_here"] T.o__law_fillable (fun _ _ _ _ _ _ _ hr nd=>(ac (s4 1 nd (aV d8))
  (ac (dR T6 rfl (bm (aO hr (ad 0))) (gn 2 nd) (ac (s4 3 nd (aV d8))
  (ac (dR T6 rfl (bm (aO hr (ad 0))) (vP rfl (bo (gn 4 nd) (bo (gn 5 nd) gJ))) (ai (cL (c4 (pU T) hr (lc (ad 5) (lc (ad 1) (l1 (ad 3))))))))
  (ai (s4 1 nd (ad 3))))))
  (ai (ao (ad 1)))))) rfl
def dm(s0:au):bv:=(ah (bd (aM (ag (fJ false) (ag af (v3 0) (c3 (.int 0))) (aC [(c3 (.str "rest")),(c3 (.str "then"))]))) (ar (al vc [(aG (aF (aY (v3 0) (i6 (c3 (.int 1))) jq)) (.n 0) bx (ab s0 [(v3 0)]) 1 [])])) aI)
  (ah (bd (aM (ag (fJ false) (ag af (v3 0) (c3 (.int 0))) (aC [(c3 (.str "either")),(c3 (.str "take")),(c3 (.str "often"))]))) (ar (ag aK (c3 (.int 1)) (al vc [(aG (aF (v3 0)) (.n 0) (aM (al w5 [(v3 0),(c3 (.ty "tuple"))])) (ab s0 [(v3 0)]) 1 [])]))) aI)
  (ar (c3 (.int 1)))))
noncomputable def cg:Nat->au
 |0=>qq
 |n+1=>aR 1 (dm (cg n))
def du:au:=cg 12
def e8(T:Txt P w K mg):Hy P w K mg base 12 "_law_many_rows" 1 du:=nB (b:=0) (r:=cg) T.o__law_many_rows (fun n R0=>cC ["_law_body_here"] T.o__law_many_rows (fun _ _ _ _ _ _ _ hr nd=>(ac (aQ (bh (gH (cA hr)) (aO hr (ad 0)) (aB (lc ax (l1 ax))) rfl) (ai (ao (cB (Bc rfl) T.NX (l1 (lO [] 1 [] ["_law_part"] (bm (bD (ad 0) (bN ae) bW)) (fun _=>(gn 0 Bj)) (fun _=>bM) (fun _=>(c4 R0 hr (l1 (ad 0))))))))) aE)
  (ac (aQ (bh (gH (cA hr)) (aO hr (ad 0)) (aB (lc ax (lc ax (l1 ax)))) rfl) (ai (ao (aA av ae (cB (Bc rfl) T.NX (l1 (lO [] 1 [] ["_law_part"] (bm (ad 0)) (fun _=>(gn 0 Bj)) (fun _=>(mD (fE (cB A_ T.KH (lc (ad 0) (l1 (GR T.HW))))))) (fun _=>(c4 R0 hr (l1 (ad 0)))))))))) aE)
  (ai (ao ae))))) rfl) rfl rfl 12
def dN(ID s0:au):bv:=(ah (aq 3 (ag af (v3 0) (c3 (.int 0))))
  (ah (bd (aM (ag (bq false) (v3 3) (c3 (.str "rest")))) (ar (bb [])) aI)
  (ah (bd (lw (aM (ag (bq false) (v3 3) (c3 (.str "pay")))) (aM (ag (bq false) (v3 3) (c3 (.str "put"))))) (ar (bb [(ag aK (v3 0) (aC [(v3 2)]))])) aI)
  (ah (bd (aM (ag (bq false) (v3 3) (c3 (.str "often")))) (ah (aq 4 (ab s0 [(ag af (v3 0) (c3 (.int 1))),(ag aK (v3 1) (c3 (.int 1))),(v3 1)]))
  (ar (ag aK (bb [(aC [(c3 (.str "often")),(ag af (bb [(ag aK (v3 1) (c3 (.int 1))),(v3 1)]) (al eR [(ag (bq false) (v3 4) (bb []))])),(v3 2)])]) (v3 4)))) aI)
  (ah (aq 5 (ag aK (ag aK (v3 1) (al eR [(ag (bq true) (v3 3) (c3 (.str "then")))])) (ab ID [(ag af (v3 0) (fx bG (c3 (.int 2))))])))
  (ah (aq 6 (ab s0 [(ag af (v3 0) (fx bG (c3 (.int 1)))),(v3 5),(v3 2)]))
  (ah (aq 7 (ag af (bb [(v3 5),(v3 2)]) (al eR [(ag (bq false) (v3 6) (bb []))])))
  (ah (bd (aM (ag (bq false) (v3 3) (c3 (.str "then")))) (ar (ag aK (ab s0 [(ag af (v3 0) (c3 (.int 1))),(v3 1),(v3 7)]) (v3 6))) aI)
  (ah (aq 8 (ab s0 [(ag af (v3 0) (fx bG (c3 (.int 2)))),(ag aK (v3 1) (c3 (.int 1))),(v3 2)]))
  (ar (ag aK (ag aK (bb [(ag aK (aY (v3 0) jq (i6 (fx bG (c3 (.int 2))))) (aC [(ag af (bb [(ag aK (v3 1) (c3 (.int 1))),(v3 2)]) (al eR [(ag (bq false) (v3 8) (bb []))])),(v3 7)]))]) (v3 8)) (v3 6))))))))))))
noncomputable def cv:Nat->au
 |0=>qq
 |n+1=>aR 9 (dN du (cv n))
def gM:au:=cv 12
def k_(T:Txt P w K mg):Hy P w K mg base 24 "_law_chart_of" 3 gM:=nB (b:=12) (r:=cv) T.o__law_chart_of (fun n R0=>cC ["_law_body_here","_law_at","_law_after","_law_word","_law_rows","_law_second","_law_other","_law_last","_law_one"] T.o__law_chart_of (fun _ _ _ _ _ _ _ hr nd=>(ac (s4 3 nd (aO hr (ad 0)))
  (ac (aQ (eQ hr (ad 3) ax) (ai (ao (aV d8))) aE)
  (ac (aQ (qG (kH (eQ hr (ad 3) ax) (gF (eQ hr (ad 3) ax)))) (ai (ao (aV (l1 (aA av (ad 0) (aB (l1 (ad 2)))))))) aE)
  (ac (aQ (eQ hr (ad 3) ax) (ac (s4 4 nd (c4 R0 hr (lc (aO hr (ad 0)) (lc (aA av (ad 1) ae) (l1 (ad 1))))))
  (ai (ao (aA av (aV (l1 (aB (lc ax (lc (bT hr (aV (lc (aA av (ad 1) ae) (l1 (ad 1)))) (cT oi T.Ly (l1 (d9 (mw (i_ hr)) (ad 4) (aV d8) (aX _))))) (l1 (ad 2))))))) (ad 4))))) aE)
  (ac (s4 5 nd (aA av (aA av (ad 1) (cT oi T.Ly (l1 (d9 (wQ (i_ hr)) (ad 3) ax (aX _))))) (c4 (e8 T) hr (l1 (bT hr (ad 0) (dU bt ae))))))
  (ac (s4 6 nd (c4 R0 hr (lc (bT hr (ad 0) (dU bt ae)) (lc (ad 5) (l1 (ad 2))))))
  (ac (s4 7 nd (bT hr (aV (lc (ad 5) (l1 (ad 2)))) (cT oi T.Ly (l1 (d9 (mw (i_ hr)) (ad 6) (aV d8) (aX _))))))
  (ac (aQ (eQ hr (ad 3) ax) (ai (ao (aA av (c4 R0 hr (lc (aO hr (ad 0)) (lc (ad 1) (l1 (ad 7))))) (ad 6)))) aE)
  (ac (s4 8 nd (c4 R0 hr (lc (bT hr (ad 0) (dU bt ae)) (lc (aA av (ad 1) ae) (l1 (ad 2))))))
  (ai (ao (aA av (aA av (aV (l1 (aA av (bD (ad 0) bW (bN (dU bt ae))) (aB (lc (bT hr (aV (lc (aA av (ad 1) ae) (l1 (ad 2)))) (cT oi T.Ly (l1 (d9 (mw (i_ hr)) (ad 8) (aV d8) (aX _))))) (l1 (ad 7))))))) (ad 8)) (ad 6)))))))))))))) rfl) rfl rfl 12
def gk(K_ ID:au):bv:=(ar (ag aK (ab K_ [(v3 0),(c3 (.int 0)),(ab ID [(v3 0)])]) (bb [(aC [(c3 (.str "end"))])])))
def cR:au:=aR 1 (gk gM du)
def fo(T:Txt P w K mg):Hy P w K mg base 25 "_law_chart" 1 cR:=cC ["_law_body_here"] T.o__law_chart (fun _ _ _ _ _ _ _ hr nd=>(ai (ao (aA av (c4 (k_ T) hr (lc (ad 0) (lc ae (l1 (c4 (e8 T) hr (l1 (ad 0))))))) (aV (l1 (aB (l1 ax)))))))) rfl
def iy:bv:=(ah (bd (kG (aM (ag (bq false) (ag af (v3 0) (c3 (.int 0))) (c3 (.str "take")))) (aM (ag (fJ true) (ag af (v3 0) (c3 (.int 1))) (v3 1)))) (ar (bb [(ag af (v3 0) (c3 (.int 4)))])) aI)
  (ah (bd (aM (ag (fJ false) (ag af (v3 0) (c3 (.int 0))) (aC [(c3 (.str "take")),(c3 (.str "either")),(c3 (.str "often"))]))) (ar (al jt [(aY (v3 0) (i6 (fx bG (c3 (.int 2)))) jq)])) aI)
  (ar (ag bX (al jt [(aY (v3 0) (i6 (fx bG (c3 (.int 1)))) jq)]) (al eR [(ag (bq true) (ag af (v3 0) (c3 (.int 0))) (c3 (.str "end")))])))))
def lJ:au:=aR 2 iy
def pV(T:Txt P w K mg):Hy P w K mg base 1 "_law_goes" 2 lJ:=cC ["_law_row","_law_held"] T.o__law_goes (fun _ _ _ _ _ _ _ hr nd=>(ac (aQ (qG (n_ (eQ hr (aO hr (ad 0)) ax) (mo (bh (dC (cA hr)) (aO hr (ad 0)) (ad 1) rfl)))) (ai (ao (aV (l1 (aO hr (ad 0)))))) aE)
  (ac (aQ (bh (gH (cA hr)) (aO hr (ad 0)) (aB (lc ax (lc ax (l1 ax)))) rfl) (ai (ao (cT (wW rfl) T.Mv (l1 (bD (ad 0) (bN (dU bt ae)) bW))))) aE)
  (ai (ao (aA bi (cT (wW rfl) T.Mv (l1 (bD (ad 0) (bN (dU bt ae)) bW))) (cT oi T.Ly (l1 (d9 (wQ (i_ hr)) (aO hr (ad 0)) ax (aX _)))))))))) rfl
def gm(Mo:au):bv:=(ah (aq 2 (bb [(c3 (.int 0))]))
  (ah (aq 3 (c3 (.int 0)))
  (ah (g_ (aM (ag qp (v3 3) (al bA [(v3 2)]))) (ah (aq 4 (sF (ab Mo [(ag af (v3 0) (ag af (v3 2) (v3 3))),(v3 1)])))
  (ah (bL (lz "list" dv (v3 2) [(aG (aF (v3 4)) (.n 0) (aM (ag (fJ true) (v3 0) (v3 1))) (v3 0) 1 [2])]))
  (aq 3 (ag aK (v3 3) (c3 (.int 1)))))))
  (ar (al pC [(v3 2)])))))
def d4:au:=aR 5 (gm lJ)
def jf(T:Txt P w K mg):Hy P w K mg base 2 "_law_there" 2 d4:=cC ["_law_rows","_law_held","_law_found","_law_at","_law_some"] T.o__law_there (fun _ _ _ _ _ _ _ hr nd=>(ac (s4 2 nd (aV (l1 ae)))
  (ac (s4 3 nd ae)
  (ac (iH T6 (bh mG (ad 3) (cB bK T.HI (l1 (ad 2))) (aX _)) (ac (s4 4 nd (Ak rfl rfl T.Mn rfl T.Ph (c4 (pV T) hr (lc (bT hr (ad 0) (bT hr (ad 2) (ad 3))) (l1 (ad 1)))) rfl uS))
  (ac (cL (ve kP mz (ad 2) (l1 (lO ["_law_found"] 1 [2] ["_law_one","_law_found"] (bm (ad 4)) (fun _=>(gn 0 Fe)) (fun _=>(mD (bh (dC (cA hr)) (ad 0) (ad 1) rfl))) (fun _=>(ad 0))))))
  (ai (s4 3 nd (aA av (ad 3) ae))))))
  (ai (ao (cB Al T.Mn (l1 (ad 2))))))))) rfl
def dO:bv:=(ar (ag xB (ag bX (ag af (v3 0) (c3 (.int 0))) (ag af (v3 1) (c3 (.int 1)))) (ag bX (ag af (v3 1) (c3 (.int 0))) (ag af (v3 0) (c3 (.int 1))))))
def cw:au:=aR 2 dO
def fI(T:Txt P w K mg):Hy P w K mg base 1 "_law_at_least" 2 cw:=cC ["_law_one","_law_other"] T.o__law_at_least (fun _ _ _ _ _ _ _ hr nd=>(ai (ao (d9 zW (aA bi (aO hr (ad 0)) (aO hr (ad 1))) (aA bi (aO hr (ad 1)) (aO hr (ad 0))) (aX _))))) rfl
def fq(JN:au):bv:=(ar (ab JN [(ag af (v3 1) (xE iK (ag af (v3 0) (c3 (.int 0))) [(ag af (v3 2) (c3 (.int 1)))])),(ag af (v3 2) (c3 (.int 2)))]))
def jg:au:=aR 3 (fq d0)
def iz(T:Txt P w K mg):Hy P w K mg base 3 "_law_things" 3 jg:=cC ["_law_house_here","_law_worths","_law_row"] T.o__law_things (fun _ _ _ _ _ _ _ hr nd=>(ai (ao (c4 (je T) hr (lc (bT hr (ad 1) (Be PySem.F.plainAttrs_tuple Ww PySem.F.type_tuple_index qK rfl (aO hr (ad 0)) (l1 (aO hr (ad 2))))) (l1 (aO hr (ad 2)))))))) rfl
def gq(Kt JN:au):bv:=(ah (bd (aM (ag (bq false) (ag af (v3 2) (c3 (.int 0))) (c3 (.str "pay")))) (ar (bb [(aC [(ag af (v3 2) (c3 (.int 1))),(ag af (v3 2) (c3 (.int 2)))])])) aI)
  (ah (bd (aM (ag (bq false) (ag af (v3 2) (c3 (.int 0))) (c3 (.str "put")))) (ar (bb [(aC [(ab Kt [(v3 0),(v3 1),(v3 2)]),(ag af (v3 2) (c3 (.int 3)))])])) aI)
  (ah (aq 4 (bb [(aC [(aC [(c3 (.int 0)),(c3 (.int 1))]),(ag af (v3 2) (fx bG (c3 (.int 1))))])]))
  (ah (bd (aM (ag (bq true) (ag af (v3 2) (c3 (.int 0))) (c3 (.str "take")))) (bL (lz "list" bO (v3 4) [(aC [(aC [(c3 (.int 0)),(c3 (.int 1))]),(ag af (v3 2) (c3 (.int 1)))])])) (bd (aM (ag (fJ false) (ag af (v3 2) (c3 (.int 1))) (v3 3))) (bL (lz "list" bO (v3 4) [(aC [(ab JN [(ab Kt [(v3 0),(v3 1),(v3 2)]),(fx bG (c3 (.int 1)))]),(ag af (v3 2) (c3 (.int 3)))])])) aI))
  (ar (v3 4))))))
def d5:au:=aR 5 (gq jg d0)
def jh(T:Txt P w K mg):Hy P w K mg base 4 "_law_asked" 4 d5:=cC ["_law_house_here","_law_worths","_law_row","_law_held","_law_found"] T.o__law_asked (fun _ _ _ _ _ _ _ hr nd=>(ac (aQ (eQ hr (aO hr (ad 2)) ax) (ai (ao (aV (l1 (aB (lc (aO hr (ad 2)) (l1 (aO hr (ad 2))))))))) aE)
  (ac (aQ (eQ hr (aO hr (ad 2)) ax) (ai (ao (aV (l1 (aB (lc (c4 (iz T) hr (lc (ad 0) (lc (ad 1) (l1 (ad 2))))) (l1 (aO hr (ad 2))))))))) aE)
  (ac (s4 4 nd (aV (l1 (aB (lc (aB (lc ae (l1 ae))) (l1 (bT hr (ad 2) (dU bt ae))))))))
  (ac (aQ (vR hr (aO hr (ad 2)) ax) (ai (cL (ve de d_ (ad 4) (l1 (aB (lc (aB (lc ae (l1 ae))) (l1 (aO hr (ad 2))))))))) (ai (aQ (bh (gH (cA hr)) (aO hr (ad 2)) (ad 3) rfl) (ai (cL (ve de d_ (ad 4) (l1 (aB (lc (c4 (je T) hr (lc (c4 (iz T) hr (lc (ad 0) (lc (ad 1) (l1 (ad 2))))) (l1 (dU bt ae)))) (l1 (aO hr (ad 2))))))))) aE)))
  (ai (ao (ad 4)))))))) rfl
def dP(JO IN HJ:au):bv:=(ah (bd (aM (ag (bq false) (ag af (ag af (v3 2) (v3 4)) (c3 (.int 0))) (c3 (.str "end")))) (ar (ag xB (ag af (ag af (v3 3) (v3 4)) (c3 (.int 0))) (c3 (.int 0)))) aI)
  (ah (aq 6 (ab JO [(v3 0),(v3 1),(ag af (v3 2) (v3 4)),(v3 5)]))
  (ar (al sv [(aG (aF (v3 6)) (.tp (.cons (.n 0) (.cons (.n 1) .nil))) bx (ab IN [(ag af (v3 3) (v3 2)),(ab HJ [(v3 0),(ag af (v3 3) (v3 1))])]) 2 [4,3])]))))
def gN:au:=aR 7 (dP d5 cw cG)
def lg(T:Txt P w K mg):Hy P w K mg base 5 "_law_row_kept" 6 gN:=cC ["_law_house_here","_law_worths","_law_rows","_law_lefts_here","_law_at","_law_held","_law_some"] T.o__law_row_kept (fun _ _ _ _ _ _ _ hr nd=>(ac (aQ (eQ hr (aO hr (bT hr (ad 2) (ad 4))) ax) (ai (ao (d9 zW (aO hr (bT hr (ad 3) (ad 4))) ae (aX _)))) aE)
  (ac (s4 6 nd (c4 (jh T) hr (lc (ad 0) (lc (ad 1) (lc (bT hr (ad 2) (ad 4)) (l1 (ad 5)))))))
  (ai (ao (cB (wX rfl) T.M_ (l1 (lO ["_law_lefts_here","_law_at"] 2 [4,3] ["_law_more","_law_there_here","_law_at","_law_lefts_here"] (bm (ad 6)) (fun _=>(vP rfl (bo (gn 0 Bl) (bo (gn 1 Bl) gJ)))) (fun _=>bM) (fun _=>(c4 (fI T) hr (lc (bT hr (ad 3) (ad 2)) (l1 (c4 (cQ T) hr (lc (ad 0) (l1 (bT hr (ad 3) (ad 1))))))))))))))))) rfl
def gr(Ip IP JP La:au):bv:=(ah (qH (v3 1) (.tp (.cons (.n 2) (.cons (.n 3) .nil))))
  (ah (aq 4 (aG (aF (ag af (v3 0) (c3 (.int 1)))) (.n 0) bx (ab Ip [(ag af (v3 0) (c3 (.int 1)))]) 1 []))
  (ah (bd (lw (aM (ag (bq true) (al bA [(v3 2)]) (al bA [(ag af (v3 0) (c3 (.int 0)))]))) (aM (ag (bq true) (aG (aF (v3 3)) (.n 0) bx (al bA [(v3 0)]) 1 []) (aG (aF (v3 4)) (.n 0) bx (al bA [(v3 0)]) 1 [])))) (ar (c3 (.bl false))) aI)
  (ah (aq 6 (ab IP [(v3 0)]))
  (ah (b_ (xF (v3 4) (v3 3)) (.tp (.cons (.n 5) (.cons (.n 7) .nil))) (bd (i3 (aM (al sv [(aG (aF (ab JP [(v3 5),(v3 6)])) (.n 0) bx (ab La [(v3 2),(v3 5),(v3 4),(v3 3),(v3 0),(v3 1)]) 1 [6,0,7,5,2])]))) (ar (c3 (.bl false))) aI))
  (ar (al sv [(aG (aF (v3 2)) (.n 0) bx (ag xB (ag af (v3 0) (c3 (.int 0))) (c3 (.int 0))) 1 [])])))))))
def gu:au:=aR 8 (gr cR cu d4 gN)
def nI(T:Txt P w K mg):Hy P w K mg base 26 "_law_holds" 2 gu:=cC ["_law_house_here","_law_paper_here","_law_worths","_law_lefts_here","_law_charts","_law_rows","_law_held","_law_own"] T.o__law_holds (fun _ _ _ _ _ _ _ hr nd=>(ac (Bb (ad 1) (vP rfl (bo (gn 2 nd) (bo (gn 3 nd) gJ))))
  (ac (Bf [] 1 [] ["_law_deed"] 4 nd (bm (aO hr (ad 0))) (fun _=>(gn 0 Bm)) (fun _=>bM) (fun _=>(c4 (fo T) hr (l1 (aO hr (ad 0))))))
  (ac (aQ (qG (kH (vR hr (cB bK T.HI (l1 (ad 2))) (cB bK T.HI (l1 (aO hr (ad 0))))) (gF (vR hr (lO [] 1 [] ["_law_one"] (bm (ad 3)) (fun _=>(gn 0 yh)) (fun _=>bM) (fun _=>(cB bK T.HI (l1 (ad 0))))) (lO [] 1 [] ["_law_rows"] (bm (ad 4)) (fun _=>(gn 0 Ff)) (fun _=>bM) (fun _=>(cB bK T.HI (l1 (ad 0))))))))) (ai (ao nA)) aE)
  (ac (s4 6 nd (c4 (fH T) hr (l1 (ad 0))))
  (ac (dR T6 rfl (CV rfl rfl rfl T.Na (by decide +kernel) (lc (ad 4) (l1 (ad 3)))) (vP rfl (bo (gn 5 nd) (bo (gn 7 nd) gJ))) (ai (aQ (og (fE (cB (wX rfl) T.M_ (l1 (lO ["_law_worths","_law_rows","_law_own","_law_house_here","_law_held"] 1 [6,0,7,5,2] ["_law_at","_law_held","_law_house_here","_law_own","_law_rows","_law_worths"] (bm (c4 (jf T) hr (lc (ad 5) (l1 (ad 6))))) (fun _=>(gn 0 Fg)) (fun _=>bM) (fun _=>(c4 (lg T) hr (lc (ad 2) (lc (ad 5) (lc (ad 4) (lc (ad 3) (lc (ad 0) (l1 (ad 1)))))))))))))) (ai (ao nA)) aE)))
  (ai (ao (cB (wX rfl) T.M_ (l1 (lO [] 1 [] ["_law_worth_here"] (bm (ad 2)) (fun _=>(gn 0 Fh)) (fun _=>bM) (fun _=>(d9 zW (aO hr (ad 0)) ae (aX _)))))))))))))) rfl
def gx(JP JO HJ IN:au):bv:=(ah (aq 4 (ab JP [(v3 2),(v3 3)]))
  (ah (aq 5 (mF [((ag ci (al bA [(v3 2)]) (c3 (.int 1))),(aC [(c3 (.int 0)),(c3 (.int 1))]))]))
  (ah (b_ (jy (ag aK (al bA [(v3 2)]) (c3 (.int 1)))) (.n 6) (ah (aq 7 (c3 (.bl false)))
  (ah (b_ (xJ (aY (v3 4) jq (i6 (fx bG (c3 (.int 1)))))) (.n 8) (b_ (aF (ab JO [(v3 0),(v3 1),(ag af (v3 2) (v3 8)),(v3 3)])) (.tp (.cons (.n 9) (.cons (.n 10) .nil))) (ah (bd (aM (ag (fJ true) (v3 10) (v3 5))) zQ aI)
  (ah (aq 11 (ab HJ [(v3 9),(ag af (v3 5) (v3 10))]))
  (bd (lw (aM (ag (fJ true) (v3 8) (v3 5))) (i3 (aM (ab IN [(ag af (v3 5) (v3 8)),(v3 11)])))) (ah (kK (v3 11) (v3 5) (v3 8))
  (aq 7 (c3 (.bl true)))) aI)))))
  (bd (i3 (aM (v3 7))) (ar (al aP [(aG (jy (al bA [(v3 2)])) (.n 0) bx (tS (v3 1) (v3 0) (aC [(c3 (.int 0)),(c3 (.int 1))])) 1 [5])])) aI))))
  (ar (c3 .non)))))
def kj:au:=aR 12 (gx d4 d5 cG cw)
def nJ(T:Txt P w K mg):Hy P w K mg base 5 "_law_lefts" 4 kj:=cC ["_law_house_here","_law_worths","_law_rows","_law_held","_law_there_here","_law_lefts_here","_law_turn","_law_grown","_law_at","_law_more","_law_after","_law_due"] T.o__law_lefts (fun _ _ _ _ _ _ _ hr nd=>(ac (s4 4 nd (c4 (jf T) hr (lc (ad 2) (l1 (ad 3)))))
  (ac (s4 5 nd (xy (lY (aA eu (cB bK T.HI (l1 (ad 2))) ae) (aB (lc ae (l1 ae))) xx)))
  (ac (dR T6 rfl (ee rfl rfl T.JM (l1 (aA av (cB bK T.HI (l1 (ad 2))) ae))) (gn 6 nd) (ac (s4 7 nd nA)
  (ac (dR T6 rfl (EU wC rfl T.Lj (bD (ad 4) bW (bN (dU bt ae)))) (gn 8 nd) (ai (dR T6 rfl (bm (c4 (jh T) hr (lc (ad 0) (lc (ad 1) (lc (bT hr (ad 2) (ad 8)) (l1 (ad 3))))))) (vP rfl (bo (gn 9 nd) (bo (gn 10 nd) gJ))) (ac (aQ (bh (dC (cA hr)) (ad 10) (ad 5) rfl) (ai EL) aE)
  (ac (s4 11 nd (c4 (cQ T) hr (lc (ad 9) (l1 (bT hr (ad 5) (ad 10))))))
  (ai (aQ (qG (kH (bh (dC (cA hr)) (ad 8) (ad 5) rfl) (gF (og (fE (c4 (fI T) hr (lc (bT hr (ad 5) (ad 8)) (l1 (ad 11))))))))) (ac (om (yT hr) (ad 11) (ad 5) (ad 8))
  (ai (s4 7 nd nA))) aE)))))))
  (ai (aQ (og (fE (ad 7))) (ai (ao (cT cn T.HW (l1 (lO ["_law_lefts_here"] 1 [5] ["_law_at","_law_lefts_here"] (ee rfl rfl T.JM (l1 (cB bK T.HI (l1 (ad 2))))) (fun _=>(gn 0 Fi)) (fun _=>bM) (fun _=>(CO (yT hr) (ad 1) (ad 0) (aB (lc ae (l1 ae))) ⟨rfl,rfl,rfl,rfl⟩))))))) aE)))))
  (ai (ao n9)))))) rfl
def gy(IP LX Ip:au):bv:=(ah (aq 2 (ab IP [(v3 0)]))
  (ah (aq 3 (aG (aF (ag af (v3 0) (c3 (.int 1)))) (.n 0) bx (ab LX [(v3 2),(v3 3),(ab Ip [(ag af (v3 0) (c3 (.int 1)))]),(v3 1)]) 1 [2,0,1]))
  (ah (bd (aM (ag (fJ false) (c3 .non) (v3 3))) (ar (c3 .non)) aI)
  (ar (aC [(al aP [(v3 1)]),(al aP [(v3 3)])])))))
def gA:au:=aR 4 (gy cu kj cR)
def nK(T:Txt P w K mg):Hy P w K mg base 26 "_law_paper" 2 gA:=cC ["_law_house_here","_law_worths","_law_held","_law_lefts_here"] T.o__law_paper (fun _ _ _ _ _ _ _ hr nd=>(ac (s4 2 nd (c4 (fH T) hr (l1 (ad 0))))
  (ac (Bf ["_law_worths","_law_house_here","_law_held"] 1 [2,0,1] ["_law_deed","_law_held","_law_house_here","_law_worths"] 3 nd (bm (aO hr (ad 0))) (fun _=>(gn 0 Fj)) (fun _=>bM) (fun _=>(c4 (nJ T) hr (lc (ad 2) (lc (ad 3) (lc (c4 (fo T) hr (l1 (aO hr (ad 0)))) (l1 (ad 1))))))))
  (ac (aQ (bh (gH (cA hr)) n9 (ad 3) rfl) (ai (ao n9)) aE)
  (ai (ao (aB (lc (cT cn T.HW (l1 (ad 1))) (l1 (cT cn T.HW (l1 (ad 3)))))))))))) rfl
def gB(Hj HB:au):bv:=(ah (aq 2 (ab Hj [(v3 0),(c3 (.int 5))]))
  (ah (bd (aM (ag (bq false) (v3 2) (c3 (.int 0)))) (ar (aC [(c3 (.int 0)),(c3 (.int 1))])) aI)
  (ah (bd (aM (ag (bq false) (v3 2) (c3 (.int 4)))) (ar (ab HB [(ab Hj [(v3 0),(ag aK (ag bX (v3 1) (c3 (.int 2520))) (c3 (.int 1)))]),(c3 (.int 2520))])) aI)
  (ar (ab HB [(ab Hj [(v3 0),(ag af (bb [(c3 (.int 4)),(c3 (.int 20)),(c3 (.int 2000))]) (ag ci (v3 2) (c3 (.int 1))))]),(ag af (bb [(c3 (.int 1)),(ag aK (c3 (.int 1)) (ab Hj [(v3 0),(c3 (.int 9))]))]) (ag gK (v3 2) (c3 (.int 2))))])))))
def cS:au:=aR 3 (gB w__law_draw b6)
def ft(T:Txt P w K mg):Hy P w K mg base 2 "_law_worth" 2 cS:=cC ["_law_deal_here","_law_most","_law_form"] T.o__law_worth (fun _ _ _ _ _ _ _ hr nd=>(ac (s4 2 nd (c4 (am T) hr (lc (ad 0) (l1 ae))))
  (ac (aQ (eQ hr (ad 2) ae) (ai (ao (aB (lc ae (l1 ae))))) aE)
  (ac (aQ (eQ hr (ad 2) ae) (ai (ao (c4 (cF T) hr (lc (c4 (am T) hr (lc (ad 0) (l1 (aA av (aA bi (ad 1) ae) ae)))) (l1 ae))))) aE)
  (ai (ao (c4 (cF T) hr (lc (c4 (am T) hr (lc (ad 0) (l1 (bT hr (aV (lc ae (lc ae (l1 ae)))) (aA eu (ad 2) ae))))) (l1 (bT hr (aV (lc ae (l1 (aA av ae (c4 (am T) hr (lc (ad 0) (l1 ae))))))) (aA jA (ad 2) ae))))))))))) rfl
def jN(HB Hj:au):bv:=(ar (ab HB [(ag ci (ab Hj [(v3 0),(c3 (.int 41))]) (c3 (.int 20))),(ag aK (c3 (.int 1)) (ab Hj [(v3 0),(c3 (.int 4))]))]))
def gC:au:=aR 1 (jN b6 w__law_draw)
def iA(T:Txt P w K mg):Hy P w K mg base 2 "_law_any" 1 gC:=cC ["_law_deal_here"] T.o__law_any (fun _ _ _ _ _ _ _ hr nd=>(ai (ao (c4 (cF T) hr (lc (aA eu (c4 (am T) hr (lc (ad 0) (l1 ae))) ae) (l1 (aA av ae (c4 (am T) hr (lc (ad 0) (l1 ae)))))))))) rfl
def fu(Iq HJ:au):bv:=(ah (aq 2 (ab Iq [(v3 0),(c3 (.int 9000))]))
  (ar (al aP [(aG (aF (v3 1)) (.n 0) bx (ab HJ [(v3 0),(v3 1)]) 1 [2])])))
def ji:au:=aR 3 (fu cS cG)
def m7(T:Txt P w K mg):Hy P w K mg base 3 "_law_raised" 2 ji:=cC ["_law_deal_here","_law_own","_law_more"] T.o__law_raised (fun _ _ _ _ _ _ _ hr nd=>(ac (s4 2 nd (c4 (ft T) hr (lc (ad 0) (l1 ae))))
  (ai (ao (cT cn T.HW (l1 (lO ["_law_more"] 1 [2] ["_law_one","_law_more"] (bm (ad 1)) (fun _=>(gn 0 Fk)) (fun _=>bM) (fun _=>(c4 (cQ T) hr (lc (ad 0) (l1 (ad 1)))))))))))) rfl
def jO:bv:=(ar (ag aK (ag aK (aY (v3 0) jq (i6 (v3 1))) (aC [(v3 2)])) (aY (v3 0) (i6 (ag aK (v3 1) (c3 (.int 1)))) jq)))
def m8:au:=aR 3 jO
def e9(T:Txt P w K mg):Hy P w K mg base 1 "_law_set" 3 m8:=cC ["_law_row","_law_at","_law_one"] T.o__law_set (fun _ _ _ _ _ _ _ hr nd=>(ai (ao (aA av (aA av (bD (ad 0) bW (bN (ad 1))) (aB (l1 (ad 2)))) (bD (ad 0) (bN (aA av (ad 1) ae)) bW))))) rfl
def gD(Iq LY Hj Ip JQ Lw:au):bv:=(ah (aq 2 (al aP [(aG (aF (ag af (v3 1) (c3 (.int 0)))) (.n 0) bx (ab Iq [(v3 1),(c3 (.int 9000))]) 1 [0])]))
  (ah (aq 3 (ab LY [(v3 1),(v3 2)]))
  (ah (bd (lw (aM (ag (uY false) (v3 3) (c3 .non))) (aM (ag (bq false) (ab Hj [(v3 0),(c3 (.int 8))]) (c3 (.int 0))))) (ah (aq 4 (aG (aF (ag af (v3 1) (c3 (.int 1)))) (.n 0) bx (ab Ip [(ag af (v3 0) (c3 (.int 1)))]) 1 []))
  (ar (aC [(v3 2),(al aP [(aG (aF (v3 4)) (.n 0) bx (al aP [(aG (aF (v3 0)) (.n 0) bx (ab JQ [(v3 1)]) 1 [1])]) 1 [0])])]))) aI)
  (ah (bd (aM (ag (bq false) (ab Hj [(v3 0),(c3 (.int 2))]) (c3 (.int 0)))) (ar (v3 3)) aI)
  (ar (aC [(v3 2),(al aP [(aG (aF (ag af (v3 3) (c3 (.int 1)))) (.n 0) bx (ab Lw [(v3 1),(v3 0)]) 1 [0])])]))))))
def gE:au:=aR 5 (gD cS gA w__law_draw cR gC ji)
def nL(T:Txt P w K mg):Hy P w K mg base 27 "_law_first" 2 gE:=cC ["_law_deal_here","_law_house_here","_law_worths","_law_paper_here","_law_charts"] T.o__law_first (fun _ _ _ _ _ _ _ hr nd=>(ac (s4 2 nd (cT cn T.HW (l1 (lO ["_law_deal_here"] 1 [0] ["_law_jar","_law_deal_here"] (bm (aO hr (ad 1))) (fun _=>(gn 0 Fl)) (fun _=>bM) (fun _=>(c4 (ft T) hr (lc (ad 1) (l1 ae))))))))
  (ac (s4 3 nd (c4 (nK T) hr (lc (ad 1) (l1 (ad 2)))))
  (ac (aQ (qG (kH (bh EE (ad 3) n9 (aX _)) (gF (eQ hr (c4 (am T) hr (lc (ad 0) (l1 ae))) ae)))) (ac (Bf [] 1 [] ["_law_deed"] 4 nd (bm (aO hr (ad 1))) (fun _=>(gn 0 Bm)) (fun _=>bM) (fun _=>(c4 (fo T) hr (l1 (aO hr (ad 0))))))
  (ai (ao (aB (lc (ad 2) (l1 (cT cn T.HW (l1 (lO ["_law_deal_here"] 1 [0] ["_law_rows","_law_deal_here"] (bm (ad 4)) (fun _=>(gn 0 Fm)) (fun _=>bM) (fun _=>(cT cn T.HW (l1 (lO ["_law_deal_here"] 1 [1] ["_law_row","_law_deal_here"] (bm (ad 0)) (fun _=>(gn 0 Fn)) (fun _=>bM) (fun _=>(c4 (iA T) hr (l1 (ad 1))))))))))))))))) aE)
  (ac (aQ (eQ hr (c4 (am T) hr (lc (ad 0) (l1 ae))) ae) (ai (ao (ad 3))) aE)
  (ai (ao (aB (lc (ad 2) (l1 (cT cn T.HW (l1 (lO ["_law_deal_here"] 1 [0] ["_law_own","_law_deal_here"] (bm (aO hr (ad 3))) (fun _=>(gn 0 Fo)) (fun _=>bM) (fun _=>(c4 (m7 T) hr (lc (ad 1) (l1 (ad 0)))))))))))))))))) rfl
def eN(Hj HJ Iq JQ JR:au):bv:=(ah (qH (v3 1) (.tp (.cons (.n 2) (.cons (.n 3) .nil))))
  (ah (aq 4 (ab Hj [(v3 0),(c3 (.int 12))]))
  (ah (aq 5 (ab Hj [(v3 0),(al bA [(v3 3)])]))
  (ah (bd (kG (aM (ag qp (v3 4) (c3 (.int 7)))) (aM (ag (bq true) (ag af (v3 3) (v3 5)) (aC [])))) (ah (aq 6 (ab Hj [(v3 0),(al bA [(ag af (v3 3) (v3 5))])]))
  (ah (aq 7 (ag af (ag af (v3 3) (v3 5)) (v3 6)))
  (ah (aq 8 (bb [(ab HJ [(v3 7),(aC [(fx bG (c3 (.int 1))),(ag aK (c3 (.int 1)) (ab Hj [(v3 0),(c3 (.int 9))]))])]),(ab HJ [(v3 7),(ab Iq [(v3 0),(c3 (.int 9000))])]),(ab JQ [(v3 0)])]))
  (ar (aC [(v3 2),(ab JR [(v3 3),(v3 5),(ab JR [(ag af (v3 3) (v3 5)),(v3 6),(ag af (v3 8) (ag af (bb [(c3 (.int 0)),(c3 (.int 0)),(c3 (.int 0)),(c3 (.int 0)),(c3 (.int 1)),(c3 (.int 1)),(c3 (.int 2))]) (v3 4)))])])]))))) aI)
  (ah (bd (kG (aM (ag (bq false) (v3 4) (c3 (.int 7)))) (aM (ag (bq true) (v3 2) (aC [])))) (ar (aC [(ab JR [(v3 2),(ab Hj [(v3 0),(al bA [(v3 2)])]),(ab JQ [(v3 0)])]),(v3 3)])) aI)
  (ah (bd (aM (ag (bq false) (v3 4) (c3 (.int 8)))) (ar (aC [(ag af (bb [(ag aK (v3 2) (aC [(aC [(c3 (.int 0)),(c3 (.int 1))])])),(aY (v3 2) (i6 (c3 (.int 1))) jq)]) (ab Hj [(v3 0),(c3 (.int 2))])),(v3 3)])) aI)
  (ah (bd (aM (ag (bq false) (v3 4) (c3 (.int 9)))) (ar (aC [(v3 2),(ab JR [(v3 3),(v3 5),(ag af (bb [(ag aK (ag af (v3 3) (v3 5)) (aC [(aC [(c3 (.int 9)),(c3 (.int 1))])])),(aY (ag af (v3 3) (v3 5)) (i6 (c3 (.int 1))) jq)]) (ab Hj [(v3 0),(c3 (.int 2))]))])])) aI)
  (ah (bd (aM (ag (bq false) (v3 4) (c3 (.int 10)))) (ar (aC [(v3 2),(ag af (bb [(ag aK (v3 3) (aC [(aC [(aC [(c3 (.int 9)),(c3 (.int 1))])])])),(aY (v3 3) (i6 (c3 (.int 1))) jq)]) (ab Hj [(v3 0),(c3 (.int 2))]))])) aI)
  (ar (v3 1))))))))))
def eO:au:=aR 9 (eN w__law_draw cG cS gC m8)
def lU(T:Txt P w K mg):Hy P w K mg base 3 "_law_changed" 2 eO:=cC ["_law_deal_here","_law_paper_here","_law_worths","_law_lefts_here","_law_form","_law_d","_law_at","_law_here","_law_some"] T.o__law_changed (fun _ _ _ _ _ _ _ hr nd=>(ac (Bb (ad 1) (vP rfl (bo (gn 2 nd) (bo (gn 3 nd) gJ))))
  (ac (s4 4 nd (c4 (am T) hr (lc (ad 0) (l1 ae))))
  (ac (s4 5 nd (c4 (am T) hr (lc (ad 0) (l1 (cB bK T.HI (l1 (ad 3)))))))
  (ac (aQ (qG (n_ (bh mG (ad 4) ae (aX _)) (mo (vR hr (bT hr (ad 3) (ad 5)) (aB d8))))) (ac (s4 6 nd (c4 (am T) hr (lc (ad 0) (l1 (cB bK T.HI (l1 (bT hr (ad 3) (ad 5))))))))
  (ac (s4 7 nd (bT hr (bT hr (ad 3) (ad 5)) (ad 6)))
  (ac (s4 8 nd (aV (lc (c4 (cQ T) hr (lc (ad 7) (l1 (aB (lc (dU bt ae) (l1 (aA av ae (c4 (am T) hr (lc (ad 0) (l1 ae)))))))))) (lc (c4 (cQ T) hr (lc (ad 7) (l1 (c4 (ft T) hr (lc (ad 0) (l1 ae)))))) (l1 (c4 (iA T) hr (l1 (ad 0))))))))
  (ai (ao (aB (lc (ad 2) (l1 (c4 (e9 T) hr (lc (ad 3) (lc (ad 5) (l1 (c4 (e9 T) hr (lc (bT hr (ad 3) (ad 5)) (lc (ad 6) (l1 (bT hr (ad 8) (bT hr (aV (lc ae (lc ae (lc ae (lc ae (lc ae (lc ae (l1 ae)))))))) (ad 4))))))))))))))))))) aE)
  (ac (aQ (qG (n_ (eQ hr (ad 4) ae) (mo (vR hr (ad 2) (aB d8))))) (ai (ao (aB (lc (c4 (e9 T) hr (lc (ad 2) (lc (c4 (am T) hr (lc (ad 0) (l1 (cB bK T.HI (l1 (ad 2)))))) (l1 (c4 (iA T) hr (l1 (ad 0))))))) (l1 (ad 3)))))) aE)
  (ac (aQ (eQ hr (ad 4) ae) (ai (ao (aB (lc (bT hr (aV (lc (aA av (ad 2) (aB (l1 (aB (lc ae (l1 ae)))))) (l1 (bD (ad 2) (bN ae) bW)))) (c4 (am T) hr (lc (ad 0) (l1 ae)))) (l1 (ad 3)))))) aE)
  (ac (aQ (eQ hr (ad 4) ae) (ai (ao (aB (lc (ad 2) (l1 (c4 (e9 T) hr (lc (ad 3) (lc (ad 5) (l1 (bT hr (aV (lc (aA av (bT hr (ad 3) (ad 5)) (aB (l1 (aB (lc ae (l1 ae)))))) (l1 (bD (bT hr (ad 3) (ad 5)) (bN ae) bW)))) (c4 (am T) hr (lc (ad 0) (l1 ae))))))))))))) aE)
  (ac (aQ (eQ hr (ad 4) ae) (ai (ao (aB (lc (ad 2) (l1 (bT hr (aV (lc (aA av (ad 3) (aB (l1 (aB (l1 (aB (lc ae (l1 ae)))))))) (l1 (bD (ad 3) (bN ae) bW)))) (c4 (am T) hr (lc (ad 0) (l1 ae))))))))) aE)
  (ai (ao (ad 1)))))))))))) rfl
def ym(Mp LZ L0 Lm Hj Lx L4:au):bv:=(ah (aq 1 (ab Mp [(v3 0),(c3 (.int 0))]))
  (ah (aq 2 (ab LZ [(v3 1),(c3 (.int 4)),(c3 (.int 4)),(c3 (.int 14))]))
  (ah (aq 3 (ab L0 [(v3 1),(v3 2)]))
  (ah (aq 4 (bb [(v3 3)]))
  (ah (b_ (jy (c3 (.int 4))) (.n 5) (ah (aq 6 (ab Lm [(v3 1),(ag af (bb [(v3 3),(ag af (v3 4) (fx bG (c3 (.int 1))))]) (ag bX (ab Hj [(v3 1),(c3 (.int 2))]) (al eR [(ag xA (al bA [(ag af (ag af (v3 4) (fx bG (c3 (.int 1)))) (c3 (.int 1)))]) (c3 (.int 0)))])))]))
  (bL (lz "list" bO (v3 4) [(v3 6)]))))
  (ah (b_ (aF (ag aK (v3 4) (aY (v3 4) jq (i6 (c3 (.int 1)))))) (.n 7) (ah (aq 8 (ab Lx [(v3 2),(v3 7)]))
  (bd (lw (i3 (aM (al w5 [(v3 8),(c3 (.ty "bool"))]))) (aM (ag (bq true) (v3 8) (ab L4 [(v3 2),(v3 7)])))) (ar (c3 (.bl false))) aI)))
  (ar (c3 (.bl true)))))))))
def re:au:=aR 9 (ym lG gj gE eO w__law_draw fm gu)
def Dk(T:Txt P w K mg){f:Addr}{fd:FuncData}(O:FH K mg "law" (a_ 72) ["_law_script"] f fd):No P w K mg base 32 f fd ["_law_script"] re:=G_ ["_law_script","_law_deal_here","_law_house_here","_law_paper_here","_law_some","_law_turn","_law_other","_law_one","_law_found"] O (fun _ _ _ _ _ _ _ hr nd=>(ac (s4 1 nd (c4 (pQ T) hr (lc (ad 0) (l1 ae))))
  (ac (s4 2 nd (c4 (nH T) hr (lc (ad 1) (lc ae (lc ae (l1 ae))))))
  (ac (s4 3 nd (c4 (nL T) hr (lc (ad 1) (l1 (ad 2)))))
  (ac (s4 4 nd (aV (l1 (ad 3))))
  (ac (dR T6 rfl (ee rfl rfl T.JM (l1 ae)) (gn 5 nd) (ac (s4 6 nd (c4 (lU T) hr (lc (ad 1) (l1 (bT hr (aV (lc (ad 3) (l1 (bT hr (ad 4) (dU bt ae))))) (aA bi (c4 (am T) hr (lc (ad 1) (l1 ae))) (cT oi T.Ly (l1 (d9 xC (cB bK T.HI (l1 (aO hr (bT hr (ad 4) (dU bt ae))))) ae (aX _))))))))))
  (ai (cL (ve de d_ (ad 4) (l1 (ad 6)))))))
  (ac (dR T6 rfl (bm (aA av (ad 4) (bD (ad 4) bW (bN ae)))) (gn 7 nd) (ac (s4 8 nd (c4 (m4 T) hr (lc (ad 2) (l1 (ad 7)))))
  (ai (aQ (qG (kH (og (fE (cB A_ T.KH (lc (ad 8) (l1 (GR T.Oo)))))) (gF (vR hr (ad 8) (c4 (nI T) hr (lc (ad 2) (l1 (ad 7)))))))) (ai (ao nA)) aE))))
  (ai (ao nA))))))))) rfl
end
end G38
namespace G38
open PySem L2 L3 Wd
open C
inductive gP (q:Qs):PV->List Int->Prop
 |pay (c:PV) (n:Int):gP q (.tup [.str "pay",c,.int n]) [n]
 |put (z:Str) (m n:Int):gP q (.tup [.str "put",.str z,.int m,.int n]) [n]
 |use (z:Str) (n:Int):gP q (.tup [.str "use",.str z,.int n]) [n]
 |HS (a n:Int):gP q (.tup [.str "often",.int a,.int n]) [a,n]
 |HQ (a b:Int):gP q (.tup [.str "either",.int a,.int b]) [a,b]
 |Hx (z:Str) (m a b:Int) (h:PyData.strOk z=true):gP q (.tup [.str "take",.str z,.int m,.int a,.int b]) (if q z then [a,b] else [b])
 |fin:gP q (.tup [.str "end"]) []
def sR:∀z∈(["take","either","often"]:Vs),PyData.strOk z=true:=by decide +kernel
abbrev Bn(w:au):Prop:=∀{S:az} {v:PV} {L:Vu} {hs:Vs} {nm:Addr} {Q:bn} {E:bJ},gP (mq hs) v L->(∀z∈hs,PyData.strOk z=true)->S nm=some (.lst (hs.map PV.str))->
  (∀p S',S p=none->S' p=some (.lst (L.map PV.int))->Ext S S'->Q (.ref p) S')->w [v,.ref nm] S Q E
def L5:Bn (aR 2 iy):=by
 intro S v L hs nm Q E g hh hS k
 unfold iy
 refine cJ ?_
 rw[show ap 2 [v,PV.ref nm]=[some v,some (.ref nm)] from rfl]
 refine aj fun N hN=>?_
 have two:∀(hd:Str) (rest:List PV) (a b:Int),v = .tup (.str hd::rest)->b9 (.str hd::rest:List PV) (some (-2)) none=[.int a,.int b]->hd∈(["take","either","often"]:Vs)->L=[a,b]->PyData.strOk hd=true->N [some v,some (.ref nm)] S:=by
  intro hd rest a b ev er hm eL QV
  subst ev
  refine hN _ _ (aj fun N hN=>?_)
  walk_at "y"
  rw[show([PV.str (Str.ofString "take"),PV.str (Str.ofString "either"),PV.str (Str.ofString "often")]:List PV)=(["take","either","often"]:Vs).map PV.str from rfl]
  refine bF QV sR ?_
  rw[TN hm]
  walk_at "y"
  rw[er]
  intro p hp
  refine k p _ hp ?_ (.new hp)
  rw[aa,eL]
  rfl
 have one:∀(hd:Str) (rest:List PV) (n:Int),v = .tup (.str hd::rest)->b9 (.str hd::rest:List PV) (some (-1)) none=[.int n]->hd ∉ (["take","either","often"]:Vs)->hd ≠ "end"->L=[n]->PyData.strOk hd=true->N [some v,some (.ref nm)] S:=by
  intro hd rest n ev er hm he eL QV
  subst ev
  refine hN _ _ (aj fun N hN=>?_)
  walk_at "y"
  rw[show([PV.str (Str.ofString "take"),PV.str (Str.ofString "either"),PV.str (Str.ofString "often")]:List PV)=(["take","either","often"]:Vs).map PV.str from rfl]
  refine bF QV sR ?_
  rw[Tw hm]
  walk_at "y"
  refine hN _ _ ?_
  walk_at "y"
  rw[er]
  intro p hp
  rw[Tw he]
  simp only[UD,Ua,aa]
  exact⟨by decide,by decide,by show 1 * 1<=sizeLine;decide,fun p1 hp1=>k p1 _ ((Ext.new hp).free hp1) (by rw[aa,eL];rfl) ((Ext.new hp).trans (.new hp1))⟩
 cases g with
 |pay c n=>
  walk_at "y"
  exact one "pay" _ n rfl rfl (by decide) (by decide) rfl (by decide +kernel)
 |put z m n=>
  walk_at "y"
  exact one "put" _ n rfl rfl (by decide) (by decide) rfl (by decide +kernel)
 |use z n=>
  walk_at "y"
  exact one "use" _ n rfl rfl (by decide) (by decide) rfl (by decide +kernel)
 |HS a n=>
  walk_at "y"
  exact two "often" _ a n rfl rfl (by decide) rfl (by decide +kernel)
 |HQ a b=>
  walk_at "y"
  exact two "either" _ a b rfl rfl (by decide) rfl (by decide +kernel)
 |Hx z m a b hz=>
  walk_at "y"
  refine eV hS hz hh ?_
  by_cases hq:z∈hs
  ·rw[TN hq]
   walk_at "y"
   exact two "take" _ a b rfl rfl (by decide) (by simp[mq,hq]) (by decide +kernel)
  ·rw[Tw hq]
   walk_at "y"
   intro p hp
   exact k p _ hp (by rw[aa];simp[mq,hq]) (.new hp)
 |fin=>
  walk_at "y"
  refine hN _ _ (aj fun N hN=>?_)
  walk_at "y"
  rw[show([PV.str (Str.ofString "take"),PV.str (Str.ofString "either"),PV.str (Str.ofString "often")]:List PV)=(["take","either","often"]:Vs).map PV.str from rfl]
  refine bF (by decide +kernel) sR ?_
  rw[Tw (by decide)]
  walk_at "y"
  refine hN _ _ ?_
  walk_at "y"
  intro p hp
  rw[aa]
  exact⟨by decide,by decide,by simp,fun p1 hp1=>k p1 _ ((Ext.new hp).free hp1) (by rw[aa];rfl) ((Ext.new hp).trans (.new hp1))⟩
inductive Gr (q:Qs):List PV->List (List Int)->Prop
 |nil:Gr q [] []
 |cons {v:PV} {L:Vu} {vs:List PV} {Ls:List (List Int)} (h:gP q v L) (t:Gr q vs Ls):Gr q (v::vs) (L::Ls)
theorem Gr.append{q:Qs}:∀{a b:List PV} {A B:List (List Int)},Gr q a A->Gr q b B->Gr q (a++b) (A++B)
 |_,_,_,_,.nil,h=>h
 |_,_,_,_,.cons h t,g=>.cons h (Gr.append t g)
theorem Gr.at_{q:Qs}:∀{a:List PV} {A:List (List Int)} (i:Nat) (v:PV),Gr q a A->a[i]?=some v->∃L,A[i]?=some L/\gP q v L
 |_,_,i,v,.nil,e=>by simp at e
 |_,_,0,v,.cons h t,e=>by simp at e;subst e;exact⟨_,rfl,h⟩
 |_,_,i+1,v,.cons h t,e=>by simpa using Gr.at_ i v t (by simpa using e)
theorem e_(q:Qs){js us:Vs}(hj:∀z∈js,PyData.strOk z=true):∀(t:Bd) (f n:Int),t.good js us->Gr q (t.rowsOf f n) (t.KJ q f n)
 | .rest,f,n,_=>.nil
 | .pay x y,f,n,_=>.cons (.pay _ n) .nil
 | .put z m,f,n,_=>.cons (.put z m n) .nil
 | .use z,f,n,_=>.cons (.use z n) .nil
 | .HS a,f,n,g=>.cons (.HS _ n) (e_ q hj a _ _ g)
 | .Ho a b,f,n,g=>Gr.append (e_ q hj a _ _ g.1) (e_ q hj b _ _ g.2)
 | .HQ a b,f,n,g=>.cons (.HQ _ _) (Gr.append (e_ q hj a _ _ g.1) (e_ q hj b _ _ g.2))
 | .Hx z m a b,f,n,g=>.cons (.Hx z m _ _ (hj z g.1)) (Gr.append (e_ q hj a _ _ g.2.2.2.1) (e_ q hj b _ _ g.2.2.2.2))
def yn{q:Qs}{js us:Vs}(hj:∀z∈js,PyData.strOk z=true){t:Bd}(g:t.good js us){i:Nat}(hi:i<=t.rows):∃v L,t.Hr[i]?=some v/\gP q v L/\∀j,j∈L↔t.ed q 0 t.rows (i:Int) j:=by
 have hg:=e_ q hj t 0 t.rows g
 have hl:=t.Hl 0 t.rows
 unfold Bd.Hr
 by_cases hi2:i < t.rows
 ·rw[TX (by omega)]
  have e:(t.rowsOf 0 t.rows)[i]?=some ((t.rowsOf 0 t.rows)[i]'(by omega)):=by simp[hl,hi2]
  obtain⟨L,h1,h2⟩:=hg.at_ i _ e
  refine⟨_,L,e,h2,fun j=>?_⟩
  have:=t.Kb q 0 t.rows i L j h1
  simpa using this
 ·have:i=t.rows:=by omega
  subst this
  rw[T5 (by omega),hl,Nat.sub_self]
  refine⟨_,[],rfl,.fin,fun j=>?_⟩
  simp only[TJ,false_iff]
  intro z
  have:=t.HH q _ _ _ _ z
  omega
theorem kl(S:az):∀ns:List Int,J5 S (ns.map PV.int) (ns.map PyData.int)
 |[]=>.nil
 |n::r=>.cons (.int n) (kl S r)
theorem km:∀ns:List Int,PyData.canLayAll0 (ns.map PyData.int)=true
 |[]=>rfl
 |n::r=>by
  show(PyData.canLay0 (.int n)&&PyData.canLayAll0 (r.map PyData.int))=true
  rw[km r];rfl
theorem rf(x:Int):∀ns:List Int,gG (.int x) (ns.map PyData.int)=decide (x∈ns)
 |[]=>rfl
 |n::r=>by
  show(PyData.eqv (.int n) (.int x) || gG (.int x) (r.map PyData.int))=_
  rw[rf x r,show PyData.eqv (.int n) (.int x)=decide (n=x)from rfl]
  by_cases h:n=x
  ·subst h;simp
  ·have h':¬x=n:=fun e=>h e.symm
   simp[h,h']
def Ax{neg:Bool}{x:Int}{ns:Vu}{a:Addr}{S:az}{Q:bn}(hS:S a=some (.lst (ns.map PV.int)))(q:Q (.bl (neg != decide (x∈ns))) S):fJ neg (.int x) (.ref a) S Q:=by
 unfold fJ
 simp only[hS]
 exact⟨_,_,.int x,kl S ns,rfl,km ns,by show(0:Nat)<=150;decide,by rw[rf];exact q⟩
def m_(ns:Vu):fg (ns.map PV.int)=some ns:=jZ ns
structure Mx (q:Qs) (t:Bd) (fs:Vu) (at':Nat):Prop where
 nd:fs.Nodup
 h0:(0:Int)∈fs
 rt:∀i∈fs,Rt (t.ed q 0 t.rows) 0 i
 cl:∀k i,k < at'->fs[k]?=some i->∀j,t.ed q 0 t.rows i j->j∈fs
 le:at'<=fs.length
def Mx.Ow{q:Qs}{t:Bd}{fs:Vu}{k:Nat}(h:Mx q t fs k):∀i∈fs,0<=i/\i<=t.rows:=fun i hi=>by
 rcases(t.M9 q i).mp (h.rt i hi)with m|m
 ·have:=t.Hw q 0 i m;omega
 ·omega
theorem jU:∀(l m:Vu),l.Nodup->(∀x∈l,x∈m)->l.length<=m.length
 |[],_,_,_=>Ug _
 |a::r,m,nd,h=>by
  have ha:=h a (by simp)
  have Pi:=Uw.mp nd
  have ih:=jU r (m.erase a) Pi.2 fun x hx=>(Xi (show x≠a from fun e=>Pi.1 (by rw[<-e];exact hx))).mpr (h x (by simp[hx]))
  have:=VY ha
  have:=W3 ha
  rw[TL]
  omega
def dF{fs:Vu}{n:Nat}(nd:fs.Nodup)(h:∀i∈fs,0<=i/\i<=(n:Int)):fs.length<=n+1:=by
 have:=jU fs ((List.range (n+1)).map fun k:Nat=>(k:Int)) nd fun i hi=>by
  have:=h i hi
  exact Ue.mpr ⟨i.toNat,U9.mpr (by omega),by omega⟩
 simpa using this
def Mx.len{q:Qs}{t:Bd}{fs:Vu}{k:Nat}(h:Mx q t fs k):fs.length<=t.rows+1:=dF h.nd h.Ow
def Mx.start(q:Qs)(t:Bd):Mx q t [0] 0:=⟨by simp,by simp,fun i hi=>by rw[Tt.mp hi];exact .here,fun k i hk=>by omega,by simp⟩
def Mx.next{q:Qs}{t:Bd}{fs ms:Vu}{k:Nat}{i:Int}{L:Vu}(h:Mx q t fs k)(hi:fs[k]?=some i)(hL:∀j,j∈L↔t.ed q 0 t.rows i j)(hm:∀j,j∈ms↔j∈L)(nm:ms.Nodup):Mx q t (fs++ms.filter fun j=>!decide (j∈fs)) (k+1):=by
 have hif:i∈fs:=T9 hi
 have hkl:=(TV.mp hi).1
 refine⟨UY.mpr ⟨h.nd,nm.filter _,fun a ha b hb e=>?_⟩,UL _ h.h0,fun x hx=>?_,fun k' i' hk hi' j e=>?_,by rw[Te];omega⟩
 ·have:=(Vf.mp hb).2
  subst e
  simp[ha]at this
 ·rcases Tj.mp hx with hx|hx
  ·exact h.rt x hx
  ·exact .on (h.rt i hif) ((hL x).mp ((hm x).mp (Vf.mp hx).1))
 ·by_cases hk2:k' < k
  ·rw[TX (by omega)]at hi'
   exact UL _ (h.cl k' i' hk2 hi' j e)
  ·have:k'=k:=by omega
   subst this
   rw[TX hkl,hi]at hi'
   cases hi'
   by_cases hj:j∈fs
   ·exact UL _ hj
   ·exact Uc _ (Vf.mpr ⟨(hm j).mpr ((hL j).mpr e),by simp[hj]⟩)
def Mx.all{q:Qs}{t:Bd}{fs:Vu}(h:Mx q t fs fs.length)(i:Int):i∈fs↔i∈t.mk q 0\/i=t.rows:=by
 rw[<-t.M9 q i]
 refine⟨h.rt i,fun g=>?_⟩
 induction g with
 |here=>exact h.h0
 |on _ e ih=>
  obtain⟨k,hk,hi⟩:=U7.mp ih
  exact h.cl k _ hk (by rw[Tp hk,hi]) _ e
theorem lK(q:Qs):∀(t:Bd) (f:Int),(t.mk q f).Pairwise (· < ·)
 | .rest,f=>.nil
 | .pay _ _,f=>by simp[Bd.mk]
 | .put _ _,f=>by simp[Bd.mk]
 | .use _,f=>by simp[Bd.mk]
 | .HS a,f=>U4.mpr ⟨fun x hx=>by have:=a.Hw q _ x hx;omega,lK q a _⟩
 | .Ho a b,f=>VU.mpr ⟨lK q a _,lK q b _,fun x hx y hy=>by have:=a.Hw q _ x hx;have:=b.Hw q _ y hy;omega⟩
 | .HQ a b,f=>by
  refine U4.mpr ⟨fun x hx=>?_,VU.mpr ⟨lK q a _,lK q b _,fun x hx y hy=>by have:=a.Hw q _ x hx;have:=b.Hw q _ y hy;omega⟩⟩
  rcases Tj.mp hx with hx|hx
  ·have:=a.Hw q _ x hx;omega
  ·have:=b.Hw q _ x hx;omega
 | .Hx z m a b,f=>by
  have ha:∀x∈(if q z then a.mk q (f+1) else []),f+1<=x/\x < f+1+a.rows:=fun x hx=>by
   split at hx
   ·exact a.Hw q _ x hx
   ·simp at hx
  have hp:(if q z then a.mk q (f+1) else []).Pairwise (· < ·):=by
   split
   ·exact lK q a _
   ·exact .nil
  refine U4.mpr ⟨fun x hx=>?_,VU.mpr ⟨hp,lK q b _,fun x hx y hy=>by have:=ha x hx;have:=b.Hw q _ y hy;omega⟩⟩
  rcases Tj.mp hx with hx|hx
  ·have:=ha x hx;omega
  ·have:=b.Hw q _ x hx;omega
theorem Bo:∀{l m:Vu},l.Pairwise (· < ·)->m.Pairwise (· < ·)->(∀x,x∈l↔x∈m)->l=m
 |[],[],_,_,_=>rfl
 |[],b::m,_,_,h=>by have:=(h b).mpr (by simp);simp at this
 |a::l,[],_,_,h=>by have:=(h a).mp (by simp);simp at this
 |a::l,b::m,hl,hm,h=>by
  have hl':=U4.mp hl
  have hm':=U4.mp hm
  have e:a=b:=by
   rcases Th.mp ((h a).mp (by simp))with e|e
   ·exact e
   ·rcases Th.mp ((h b).mpr (by simp))with e2|e2
    ·exact e2.symm
    ·have:=hl'.1 b e2;have:=hm'.1 a e;omega
  subst e
  rw[Bo hl'.2 hm'.2 fun x=>?_]
  constructor
  ·intro hx
   have:=hl'.1 x hx
   rcases Th.mp ((h x).mp (by simp[hx]))with e|e
   ·omega
   ·exact e
  ·intro hx
   have:=hm'.1 x hx
   rcases Th.mp ((h x).mpr (by simp[hx]))with e|e
   ·omega
   ·exact e
theorem lL:∀{l:Vu},l.Pairwise (·<=·)->l.Nodup->l.Pairwise (· < ·)
 |[],_,_=>.nil
 |a::l,h,n=>by
  have h':=U4.mp h
  have n':=Uw.mp n
  refine U4.mpr ⟨fun x hx=>?_,lL h'.2 n'.2⟩
  have:=h'.1 x hx
  have:a≠x:=fun e=>n'.1 (by rw[e];exact hx)
  omega
def Mx.sorted{q:Qs}{t:Bd}{fs ss:Vu}(h:Mx q t fs fs.length)(hp:ss.Perm fs)(hs:ss.Pairwise (·<=·)):ss.map PV.int=t.L9 q:=by
 have e:ss=t.mk q 0++[(t.rows:Int)]:=by
  refine Bo (lL hs (hp.nodup_iff.mpr h.nd)) (VU.mpr ⟨lK q t 0,by simp,fun x hx y hy=>?_⟩) fun x=>?_
  ·rw[Tt.mp hy]
   have:=t.Hw q 0 x hx
   omega
  ·rw[hp.mem_iff,h.all x,Tj,Tt]
 unfold Bd.L9
 rw[e,Uh,t.IY q 0,t.HN]
 rfl
theorem iV{α:Type}{g:Tg}{tc:kw}{te:aZ}{σ':cy}{keep:az->Prop}{fin:List PV->az->Prop}{S:az}(enc f:α->PV)(b:α->Bool)(hk:keep S):∀(xs:List α) (ys:List PV),
  (∀x∈xs,∃σ2,g.put (enc x) σ'=some σ2/\(∀K:Bool->az->Prop,K (b x) S->tc σ2 S K fK)/\∀Q:bn,Q (f x) S->te σ2 S Q fK)->ys.length+xs.length<=sizeLine->fin (ys++(xs.filter b).map f) S->bY g tc te σ' keep fin (xs.map enc) ys S
 |[],ys,_,hl,hf=>⟨hk,by simpa using hl,by simpa using hf⟩
 |x::r,ys,h,hl,hf=>by
  obtain⟨σ2,e,h1,h2⟩:=h x (by simp)
  refine⟨hk,by simp at hl;omega,?_⟩
  rw[e]
  refine h1 _ ?_
  cases hb:b x with
  |true=>
   rw[if_pos rfl]
   refine h2 _ (iV enc f b hk r _ (fun y hy=>h y (by simp[hy])) (by simp at hl ⊢;omega) ?_)
   rw[T3 hb]at hf
   simpa using hf
  |false=>
   rw[if_neg (by decide)]
   refine iV enc f b hk r _ (fun y hy=>h y (by simp[hy])) (by simp at hl ⊢;omega) ?_
   rw[UJ (by rw[hb];decide)]at hf
   exact hf
def Dl{q:Qs}{v:PV}{L:Vu}(h:gP q v L):L.length<=2:=by
 cases h with
 |Hx z m a b hz=>split<;>simp
 |_=>simp
def Fp(l:Vu):(Ia.lP l).Nodup:=by
 unfold Ia.lP
 have:∀(l ss:Vu),ss.Nodup->(l.foldl (fun ss k=>if k∈ss then ss else ss++[k]) ss).Nodup:=by
  intro l
  induction l with
  |nil=>intro ss h;exact h
  |cons k r ih=>
   intro ss h
   rw[Wy]
   refine ih _ ?_
   split
   ·exact h
   ·rename_i hk
    exact UY.mpr ⟨h,by simp,fun a ha b hb e=>hk (by rw[<-Tt.mp hb,<-e];exact ha)⟩
 exact this l [] Wh
abbrev pW(w:au):Prop:=∀{S:az} {t:Bd} {js us hs:Vs} {pr nm:Addr} {Q:bn} {E:bJ},t.good js us->(∀z∈js,PyData.strOk z=true)->(∀z∈hs,PyData.strOk z=true)->t.rows<=60->S pr=some (.lst t.Hr)->S nm=some (.lst (hs.map PV.str))->
  (∀p S',S' p=some (.lst (t.L9 (mq hs)))->Ext S S'->S p=none->Q (.ref p) S')->w [.ref pr,.ref nm] S Q E
def Kd{xg:au}(L5:Bn xg):pW (aR 5 (gm xg)):=by
 intro S t js us hs pr nm Q E hg hj hh hr NL hnm k
 unfold gm
 refine cJ ?_
 rw[show ap 5 [PV.ref pr,PV.ref nm]=[some (.ref pr),some (.ref nm),none,none,none] from rfl]
 refine aj fun N hN=>?_
 walk_at "x"
 intro p2 hp2
 refine hN _ _ (aj fun N hN=>?_)
 walk_at "x"
 refine hN _ _ (aj fun N hN=>?_)
 have n1:pr≠p2:=fun e=>by rw[e,hp2]at NL;cases NL
 have n2:nm≠p2:=fun e=>by rw[e,hp2]at hnm;cases hnm
 refine⟨fun m σ S'=>∃(fs:Vu) (at':Nat) (x4:Option PV),σ=[some (.ref pr),some (.ref nm),some (.ref p2),some (.int (at':Int)),x4]/\Mx (mq hs) t fs at'/\S' p2=some (.lst (fs.map PV.int))/\Ext S S'/\m=t.rows+2 - at',⟨_,[0],0,none,rfl,.start _ t,aa,.new hp2,rfl⟩,?_⟩
 rintro m σ S1 ⟨fs,at',x4,rfl,hw,h2,X1,rfl⟩
 have NM:=X1 _ _ NL
 have QW:=X1 _ _ hnm
 have hlen:=hw.len
 have hle:=hw.le
 walk_at "x"
 rw[h2]
 walk_at "y"
 rw[Ti]
 by_cases hlt:(at':Int) < fs.length
 ·rw[TN hlt]
  walk_at "y"
  have hk:at' < fs.length:=by omega
  obtain⟨i,hi⟩:∃i,fs[at']?=some i:=⟨_,Tp hk⟩
  have PH:=hw.Ow i (T9 hi)
  obtain⟨iN,rfl⟩:=UR PH.1
  obtain⟨v,L,hv,hgo,hL⟩:=yn (q:=mq hs) hj hg (i:=iN) (by omega)
  refine⟨fun σ' S'=>∃(fs':Vu) (QX:Option PV),σ'=[some (.ref pr),some (.ref nm),some (.ref p2),some (.int ((at'+1:Nat):Int)),QX]/\Mx (mq hs) t fs' (at'+1)/\S' p2=some (.lst (fs'.map PV.int))/\Ext S S',?_,?_⟩
  ·rintro σ' S' ⟨fs',QX,rfl,hw',h2',X'⟩
   exact⟨_,by have:=hw'.le;omega,fs',at'+1,QX,rfl,hw',h2',X',rfl⟩
  ·have ea:Ie (fs.map PV.int) (at':Int)=some (.int (iN:Int)):=bC (by rw[Tv,hi];rfl)
   have ec:Ie t.Hr (iN:Int)=some v:=bC hv
   simp only[sF,ab,ak,ag,af,v3,lk,NM,h2,ea,ec]
   refine L5 hgo hh QW fun p3 S2 hp3 h3 X2=>?_
   dsimp only
   rw[h3]
   dsimp only
   rw[m_]
   have hL2:L.length<=2:=Dl hgo
   refine⟨by have:=Ia.pB L;omega,fun p4 ss Lv Np hso=>?_⟩
   have X4:Ext S1 (Hk S2 p4 (.lst (ss.map PV.int))):=X2.trans (.new Lv)
   have h4:(Hk S2 p4 (.lst (ss.map PV.int))) p4=some (.lst (ss.map PV.int)):=aa
   generalize Hk S2 p4 (.lst (ss.map PV.int))=S4 at X4 h4
   have Pj:=X4 _ _ h2
   rw[Pj,h4]
   refine⟨trivial,?_⟩
   dsimp only
   refine iV (fun x=>PV.int x) (fun x=>PV.int x) (fun x=>!decide (x∈fs)) h4 ss [] (fun x _=>⟨_,rfl,fun K q=>?_,fun Q q=>q⟩) (TR (show _<=1000 by
    have:=Np.length_eq;have:=Ia.pB L;simp;omega) (by decide)) ?_
   ·simp only[aM,ag,v3,lk,List.set_cons_zero]
    exact Ax Pj (by simpa using q)
   intro p5 OG
   rw[T7]
   have n5:p2≠p5:=fun e=>by rw[e,OG]at Pj;cases Pj
   rw[aD n5,Pj,aa]
   dsimp only
   have hsl:(ss.filter fun x=>!decide (x∈fs)).length<=2:=TR (Vg _ _) (by have:=Np.length_eq;have:=Ia.pB L;omega)
   refine⟨TR (show _<=1000 by rw[Ti,Ti];omega) (by decide),_,_,rfl,hw.next hi hL (fun j=>by rw[Np.mem_iff,Ia.Ag]) (Np.nodup_iff.mpr (Fp L)),by rw[aa,Uh],fun a o ha=>?_⟩
   have na:a≠p2:=fun e=>by rw[e,hp2]at ha;cases ha
   rw[aD na]
   exact Ext.new OG _ _ (X4 _ _ (X1 _ _ ha))
 ·rw[Tw hlt]
  walk_at "y"
  refine hN _ _ ?_
  have:at'=fs.length:=by omega
  subst this
  walk_at "x"
  simp only[pC,h2,m_]
  exact⟨by omega,fun l ss hl hp hs2=>k l _ (by rw[aa,hw.sorted hp hs2]) (X1.trans (.new hl)) (X1.free hl)⟩
abbrev lh(n:Nat)(w:au):Prop:=∀{S:az} {t:Bd} {Q:bn} {E:bJ},t.dep<=n->(∀S',Ext S S'->Q (.int t.rows) S')->w [t.pv] S Q E
def Dm:∀z∈(["either","take","often"]:Vs),PyData.strOk z=true:=by decide +kernel
def Dn:∀z∈(["rest","then"]:Vs),PyData.strOk z=true:=by decide +kernel
noncomputable def jj(us:List (PV×Option Bd)):List Int:=us.filterMap fun p=>p.2.map fun u=>(u.rows:Int)
theorem iW{s0:au}{n:Nat}(ih:lh n s0){tc:kw}{fin:List PV->az->Prop}{S0:az}:∀(us:List (PV×Option Bd)) (ys:List PV) (S:az),us.length+ys.length<=100->Ext S0 S->
  (∀p∈us,(∀S K,K p.2.isSome S->tc [some p.1] S K fK)/\∀u,p.2=some u->p.1=u.pv/\u.dep<=n)->
  (∀S',Ext S0 S'->fin (ys++(jj us).map PV.int) S')->bY (Tg.n 0) tc (ab s0 [(v3 0)]) [none] (fun _=>True) fin (us.map (·.1)) ys S
 |[],ys,S,hl,X,_,hf=>⟨trivial,TR (show _<=100 by simp at hl;exact hl) (by decide),by simpa [jj]using hf S X⟩
 |(v,o)::r,ys,S,hl,X,h,hf=>by
  obtain⟨h1,h2⟩:=h (v,o) (by simp)
  have hl':r.length+ys.length+1<=100:=by simp at hl;omega
  refine⟨trivial,TR (show _<=100 by omega) (by decide),?_⟩
  simp only[Tg.put,List.set_cons_zero]
  refine h1 S _ ?_
  cases o with
  |none=>
   simp only[Option.isSome_none,Tu,Ub]
   exact iW ih r ys S (by omega) X (fun p hp=>h p (by simp[hp])) fun S' X'=>by simpa [jj]using hf S' X'
  |some u=>
   obtain⟨rfl,hd⟩:=h2 u rfl
   simp only[Option.isSome_some,Ua,ab,ak,v3,lk]
   refine ih hd fun S' X'=>?_
   exact iW ih r _ S' (by simp;omega) (X.trans X') (fun p hp=>h p (by simp[hp])) fun S2 X2=>by simpa [jj]using hf S2 X2
def yo{s0:au}(n:Nat)(ih:lh n s0):lh (n+1) (aR 1 (dm s0)):=by
 intro S t Q E hd k
 unfold dm
 refine cJ ?_
 rw[show ap 1 [t.pv]=[some t.pv] from rfl,Bd.K7]
 have e1:([PV.str (Str.ofString "rest"),PV.str (Str.ofString "then")]:List PV)=(["rest","then"]:Vs).map PV.str:=rfl
 have e2:([PV.str (Str.ofString "either"),PV.str (Str.ofString "take"),PV.str (Str.ofString "often")]:List PV)=(["either","take","often"]:Vs).map PV.str:=rfl
 refine aj fun N hN=>?_
 simp only[bd,aM,ag,af,v3,lk,c3,aC,ak,eU]
 rw[e1]
 refine bF (Bd.Li t) Dn ?_
 simp only[Tz]
 by_cases h1:t.hd∈(["rest","then"]:Vs)
 ·rw[TN h1]
  simp only[Ua,ar,al,ak,aG,aF,aY,i6,jq,jr,v3,lk,c3,bu,cm,List.reduceReplicate,TZ,List.nil_append,TY]
  obtain⟨us,hu,hsum,PR,hle⟩:∃us:List (PV×Option Bd),b9 (PV.str t.hd::t.tl) (some 1) none=us.map (·.1)/\(jj us).sum=t.rows/\(∀p∈us,∃u,p.2=some u/\p.1=u.pv/\u.dep<=n)/\us.length<=2:=by
   cases t with
   |rest=>exact⟨[],rfl,rfl,by simp,by decide⟩
   |Ho a b=>
    simp only[Bd.dep]at hd
    exact⟨[(a.pv,some a),(b.pv,some b)],rfl,by simp[jj,Bd.rows],by simp;omega,by simp⟩
   |_=>simp[Bd.hd,aN]at h1
  rw[hu]
  refine iW ih us [] S (by simp;omega) .refl (fun p hp=>?_) fun S' X' p hp=>?_
  ·obtain⟨u,h1,h2,h3⟩:=PR p hp
   exact⟨fun S K q=>by rw[h1]at q;exact q,fun u' e=>by rw[h1]at e;cases e;exact⟨h2,h3⟩⟩
  ·simp only[vc,aa,List.nil_append,jZ,hsum]
   exact k _ (X'.trans (.new hp))
 ·rw[Tw h1]
  simp only[Tu,Ub,aI]
  refine hN _ _ (aj fun N hN=>?_)
  simp only[bd,aM,ag,af,v3,lk,c3,aC,ak,eU]
  rw[e2]
  refine bF (Bd.Li t) Dm ?_
  simp only[Tz]
  by_cases h2:t.hd∈(["either","take","often"]:Vs)
  ·rw[TN h2]
   simp only[Ua,ar,ag,aK,al,ak,aG,aF,v3,lk,c3,bu,cm,List.reduceReplicate,TZ,List.nil_append,TY]
   obtain⟨us,hu,hsum,PR,hle⟩:∃us:List (PV×Option Bd),(PV.str t.hd::t.tl)=us.map (·.1)/\1+(jj us).sum=t.rows/\(∀p∈us,(∃u,p.2=some u/\p.1=u.pv/\u.dep<=n)\/(p.2=none/\((∃z,p.1 = .str z)\/∃i,p.1 = .int i)))/\us.length<=5:=by
    cases t with
    |HS a=>
     simp only[Bd.dep]at hd
     refine⟨[(.str "often",none),(a.pv,some a)],rfl,by simp[jj,Bd.rows];omega,?_,by simp⟩
     simp;omega
    |HQ a b=>
     simp only[Bd.dep]at hd
     refine⟨[(.str "either",none),(a.pv,some a),(b.pv,some b)],rfl,by simp[jj,Bd.rows];omega,?_,by simp⟩
     simp;omega
    |Hx z m a b=>
     simp only[Bd.dep]at hd
     refine⟨[(.str "take",none),(.str z,none),(.int m,none),(a.pv,some a),(b.pv,some b)],rfl,by simp[jj,Bd.rows];omega,?_,by simp⟩
     simp;omega
    |_=>simp[Bd.hd,aN]at h2
   rw[hu]
   refine iW ih us [] S (by simp;omega) .refl (fun p hp=>?_) fun S' X' p hp=>?_
   ·rcases PR p hp with⟨u,h1,h2,h3⟩|⟨h1,h2⟩
    ·refine⟨fun S K q=>?_,fun u' e=>by rw[h1]at e;cases e;exact⟨h2,h3⟩⟩
     rw[h1]at q
     rw[h2,Bd.K7]
     exact⟨by decide,q⟩
    ·refine⟨fun S K q=>?_,fun u' e=>by rw[h1]at e;cases e⟩
     rw[h1]at q
     rcases h2 with⟨z,e⟩|⟨i,e⟩
     ·rw[e];exact⟨by decide,q⟩
     ·rw[e];exact⟨by decide,q⟩
   ·simp only[vc,aa,List.nil_append,jZ,hsum]
    exact k _ (X'.trans (.new hp))
  ·rw[Tw h2]
   simp only[Tu,Ub,aI]
   refine hN _ _ ?_
   simp only[ar,c3]
   have e:t.rows=1:=by
    cases t<;>simp[Bd.hd,aN]at h1 h2<;>rfl
   have:=k S .refl
   rw[e]at this
   exact this
theorem fc{js us:Vs}(hj:∀z∈js,PyData.strOk z=true)(hu:∀z∈us,PyData.strOk z=true):∀(t:Bd) (f n:Int),t.good js us->∀v∈t.rowsOf f n,∀S:az,∃d,Dat S v d/\d.canLay0=true
 | .rest,f,n,_,v,hv,S=>by simp[Bd.rowsOf]at hv
 | .pay x y,f,n,_,v,hv,S=>by
  simp[Bd.rowsOf]at hv;subst hv
  exact⟨_,.tup (.cons (.str _) (.cons (.tup (.cons (.int _) (.cons (.int _) .nil))) (.cons (.int _) .nil))),by simp only[PyData.canLay0,PyData.canLayAll0,Vk];decide +kernel⟩
 | .put z m,f,n,g,v,hv,S=>by
  simp[Bd.rowsOf]at hv;subst hv
  exact⟨_,.tup (.cons (.str _) (.cons (.str _) (.cons (.int _) (.cons (.int _) .nil)))),by simp only[PyData.canLay0,PyData.canLayAll0,Vk,hj z g.1];decide +kernel⟩
 | .use z,f,n,g,v,hv,S=>by
  simp[Bd.rowsOf]at hv;subst hv
  exact⟨_,.tup (.cons (.str _) (.cons (.str _) (.cons (.int _) .nil))),by simp only[PyData.canLay0,PyData.canLayAll0,Vk,hu z g];decide +kernel⟩
 | .HS a,f,n,g,v,hv,S=>by
  simp only[Bd.rowsOf,Th]at hv
  rcases hv with rfl|hv
  ·exact⟨_,.tup (.cons (.str _) (.cons (.int _) (.cons (.int _) .nil))),by simp only[PyData.canLay0,PyData.canLayAll0,Vk];decide +kernel⟩
  ·exact fc hj hu a _ _ g v hv S
 | .Ho a b,f,n,g,v,hv,S=>by
  simp only[Bd.rowsOf,Tj]at hv
  rcases hv with hv|hv
  ·exact fc hj hu a _ _ g.1 v hv S
  ·exact fc hj hu b _ _ g.2 v hv S
 | .HQ a b,f,n,g,v,hv,S=>by
  simp only[Bd.rowsOf,Th,Tj]at hv
  rcases hv with rfl|hv|hv
  ·exact⟨_,.tup (.cons (.str _) (.cons (.int _) (.cons (.int _) .nil))),by simp only[PyData.canLay0,PyData.canLayAll0,Vk];decide +kernel⟩
  ·exact fc hj hu a _ _ g.1 v hv S
  ·exact fc hj hu b _ _ g.2 v hv S
 | .Hx z m a b,f,n,g,v,hv,S=>by
  simp only[Bd.rowsOf,Th,Tj]at hv
  rcases hv with rfl|hv|hv
  ·exact⟨_,.tup (.cons (.str _) (.cons (.str _) (.cons (.int _) (.cons (.int _) (.cons (.int _) .nil))))),by simp only[PyData.canLay0,PyData.canLayAll0,Vk,hj z g.1];decide +kernel⟩
  ·exact fc hj hu a _ _ g.2.2.2.1 v hv S
  ·exact fc hj hu b _ _ g.2.2.2.2 v hv S
theorem kn{S:az}:∀(vs:List PV),(∀v∈vs,∃d,Dat S v d/\d.canLay0=true)->∃ds,J5 S vs ds/\PyData.canLayAll0 ds=true/\ds.length=vs.length
 |[],_=>⟨[],.nil,rfl,rfl⟩
 |v::r,h=>by
  obtain⟨d,h1,h2⟩:=h v (by simp)
  obtain⟨ds,g1,g2,g3⟩:=kn r fun x hx=>h x (by simp[hx])
  exact⟨d::ds,.cons h1 g1,by show(d.canLay0&&PyData.canLayAll0 ds)=true;rw[h2,g2];rfl,by rw[TL,TL,g3]⟩
def Do{neg:Bool}{S:az}{a b:Addr}{vs:List PV}{Q:bn}(ha:S a=some (.lst vs))(hb:S b=some (.lst []))(h:∀v∈vs,∃d,Dat S v d/\d.canLay0=true)(q:Q (.bl (neg != vs.isEmpty)) S):bq neg (.ref a) (.ref b) S Q:=by
 obtain⟨ds,g1,g2,g3⟩:=kn vs h
 refine⟨.list ds,.list [],.ref ha g1,.ref hb .nil,g2,rfl,TR (XI _ _) (by decide),?_⟩
 have e:(PyData.list ds).eqv (.list [])=vs.isEmpty:=by
  cases ds with
  |nil=>cases vs with
   |nil=>rfl
   |cons _ _=>simp at g3
  |cons d r=>cases vs with
   |nil=>simp at g3
   |cons _ _=>rfl
 rw[e]
 exact q
def yp(t:Bd)(f m:Int):(t.rowsOf f m).isEmpty=decide (t.rows=0):=by
 rw[<-t.Hl f m]
 cases t.rowsOf f m<;>simp
def vC{ea eb:aZ}{i:Nat}{σ:cy}{S:az}{a b f m:Int}{p:Addr}{t:Bd}{js:Vs}{Q:bn}{E:bJ}(ha:∀(S:az) (Q:bn),Q (.int a) S->ea σ S Q E)(hb:∀(S:az) (Q:bn),Q (.int b) S->eb σ S Q E)(hv:lk σ i=some (.ref p))
  (g:t.good js []) (hj:l4 js) (hp:S p=some (.lst (t.rowsOf f m))) (k:∀S',Ext S S'->Q (.int (t.beg a b)) S'):ag af (bb [ea,eb]) (al eR [ag (bq false) (v3 i) (bb [])]) σ S Q E:=by
 simp only[ag,bb,ak]
 refine ha _ _ (hb _ _ fun p2 hp2=>?_)
 simp only[al,ak,ag,v3,hv,bb]
 intro p3 hp3
 have X2:Ext S (Hk S p2 (.lst [.int a,.int b])):=.new hp2
 have X3:=X2.trans (Ext.new (o:=.lst []) hp3)
 refine Do (X3 _ _ hp) aa (fun v hv=>fc hj (by simp) t f m g v hv _) ?_
 have h2:=Ext.new (o:=.lst []) hp3 _ _ (aa (S:=S) (a:=p2) (o:=.lst [.int a,.int b]))
 simp only[eR,af,h2,yp,Tz]
 by_cases h:t.rows=0
 ·rw[TN h]
  have:=k _ X3
  unfold Bd.beg at this
  rw[if_pos h]at this
  exact this
 ·rw[Tw h]
  have:=k _ X3
  unfold Bd.beg at this
  rw[if_neg h]at this
  exact this
abbrev ko(n:Nat)(w:au):Prop:=∀{S:az} {t:Bd} {js:Vs} {f m:Int} {Q:bn} {E:bJ},t.dep<=n->t.good js []->l4 js->t.size<=400->(∀p S',S p=none->S' p=some (.lst (t.rowsOf f m))->Ext S S'->Q (.ref p) S')->w [t.pv,.int f,.int m] S Q E
def rg{S:az}{p q:Addr}{xs ys:List PV}{Q:bn}(hp:S p=some (.lst xs))(hq:S q=some (.lst ys))(hl:xs.length+ys.length<=1000)(k:∀r S',S r=none->S' r=some (.lst (xs++ys))->Ext S S'->Q (.ref r) S'):aK (.ref p) (.ref q) S Q:=by
 simp only[aK,hp,hq]
 exact⟨bB hl,fun r hr=>k r _ hr aa (.new hr)⟩
def rh{r:R3}{ta tb:aZ}{σ:cy}{S:az}{Q:bn}{E:bJ}(h:ta σ S (fun x S1=>tb σ S1 (fun y S2=>r x y S2 Q) E) E):ag r ta tb σ S Q E:=h
def b7{te:aZ}{D:jW}{σ:cy}{S:az}(h:te σ S D.rt D.ex):ar te D σ S:=h
def yq{i:Nat}{te:aZ}{D:jW}{σ:cy}{S:az}(h:te σ S (fun v S1=>D.nx (σ.set i (some v)) S1) D.ex):aq i te D σ S:=h
def yr{ts:List aZ}{σ:cy}{S:az}{Q:bn}{E:bJ}(h:ak ts σ S (fun xs S1=>∀p,S1 p=none->Q (.ref p) (Hk S1 p (.lst xs))) E):bb ts σ S Q E:=h
def Dp{xm s0:au}(n:Nat)(Nd:lh n xm)(ih:ko n s0):ko (n+1) (aR 9 (dN xm s0)):=by
 intro S t js f m Q E hd g hj hs k
 unfold dN
 refine cJ ?_
 cases t with
 |rest=>
  rw[show ap 9 [Bd.rest.pv,.int f,.int m]=[some (.tup [.str "rest"]),some (.int f),some (.int m),none,none,none,none,none,none] from rfl]
  refine aj fun N hN=>?_
  walk_at "y"
  refine hN _ _ (aj fun N hN=>?_)
  walk_at "y"
  exact fun p hp=>k p _ hp aa (.new hp)
 |use z=>cases g
 |pay x y=>
  rw[show ap 9 [(Bd.pay x y).pv,.int f,.int m]=[some (.tup [.str "pay",.tup [.int x,.int y]]),some (.int f),some (.int m),none,none,none,none,none,none] from rfl]
  refine aj fun N hN=>?_
  walk_at "y"
  refine hN _ _ (aj fun N hN=>?_)
  walk_at "y"
  refine hN _ _ (aj fun N hN=>?_)
  walk_at "y"
  exact⟨bB (by simp),fun p hp=>k p _ hp aa (.new hp)⟩
 |put z j=>
  rw[show ap 9 [(Bd.put z j).pv,.int f,.int m]=[some (.tup [.str "put",.str z,.int j]),some (.int f),some (.int m),none,none,none,none,none,none] from rfl]
  refine aj fun N hN=>?_
  walk_at "y"
  refine hN _ _ (aj fun N hN=>?_)
  walk_at "y"
  refine hN _ _ (aj fun N hN=>?_)
  walk_at "y"
  exact⟨bB (by simp),fun p hp=>k p _ hp aa (.new hp)⟩
 |HS a=>
  rw[show ap 9 [(Bd.HS a).pv,.int f,.int m]=[some (.tup [.str "often",a.pv]),some (.int f),some (.int m),none,none,none,none,none,none] from rfl]
  simp only[Bd.dep]at hd
  simp only[Bd.size]at hs
  refine aj fun N hN=>?_
  walk_at "y"
  refine hN _ _ (aj fun N hN=>?_)
  walk_at "y"
  refine hN _ _ (aj fun N hN=>?_)
  walk_at "y"
  refine hN _ _ (aj fun N hN=>?_)
  simp only[bd,aM,ag,v3,lk,c3,bq,Tz,V4,Ua]
  refine aj fun N hN=>?_
  simp only[aq,ab,ak,ag,af,v3,lk,c3,fy,aK,List.set_cons_zero,List.set_cons_succ]
  refine ih (by omega) g hj (by omega) fun p1 S1 _ h1 X1=>?_
  refine hN _ _ ?_
  refine b7 (rh (yr ?_))
  simp only[ak,aC,c3]
  refine vC (t:=a) (fun _ _ q=>q) (fun _ _ q=>q) rfl g hj h1 fun S2 X2=>?_
  simp only[v3,lk]
  intro p3 hp3
  have X3:=X2.trans (Ext.new (o:=.lst [.tup [.str (Str.ofString "often"),.int (a.beg (f+1) f),.int m]]) hp3)
  have hr:=a.Hq
  refine rg aa (X3 _ _ h1) (by simp only[List.length_singleton];rw[a.Hl];omega) fun r S4 n4 h4 X4=>k r S4 ((X1.trans X3).free n4) h4 (X1.trans (X3.trans X4))
 |Ho a b=>
  rw[show ap 9 [(Bd.Ho a b).pv,.int f,.int m]=[some (.tup [.str "then",a.pv,b.pv]),some (.int f),some (.int m),none,none,none,none,none,none] from rfl]
  simp only[Bd.dep]at hd
  simp only[Bd.size]at hs
  refine aj fun N hN=>?_
  walk_at "y"
  refine hN _ _ (aj fun N hN=>?_)
  walk_at "y"
  refine hN _ _ (aj fun N hN=>?_)
  walk_at "y"
  refine hN _ _ (aj fun N hN=>?_)
  walk_at "y"
  refine hN _ _ (aj fun N hN=>?_)
  walk_at "y"
  refine Nd (by omega) fun S1 X1=>hN _ _ (aj fun N hN=>?_)
  simp only[aq,ab,ak,ag,af,v3,lk,c3,fx,bG,sG,List.set_cons_zero,List.set_cons_succ]
  refine ih (by omega) g.2 hj (by omega) fun p2 S2 _ h2 X2=>hN _ _ (aj fun N hN=>?_)
  refine yq (vC (fun _ _ q=>q) (fun _ _ q=>q) rfl g.2 hj h2 fun S3 X3=>hN _ _ (aj fun N hN=>?_))
  simp only[bd,aM,ag,v3,lk,c3,bq,Tz,V4,Ua,ar,ab,ak,af,fy,List.set_cons_zero,List.set_cons_succ]
  refine ih (by omega) g.1 hj (by omega) fun p4 S4 _ h4 X4=>?_
  have:=a.Hq;have:=b.Hq
  refine rg h4 (X4 _ _ (X3 _ _ h2)) (by rw[a.Hl,b.Hl];omega) fun r S5 n5 h5 X5=>k r S5 ((X1.trans (X2.trans (X3.trans X4))).free n5) ?_ (X1.trans (X2.trans (X3.trans (X4.trans X5))))
  rw[h5,Bd.rowsOf]
  rw[Int.add_zero]
 |HQ a b=>
  rw[show ap 9 [(Bd.HQ a b).pv,.int f,.int m]=[some (.tup [.str "either",a.pv,b.pv]),some (.int f),some (.int m),none,none,none,none,none,none] from rfl]
  simp only[Bd.dep]at hd
  simp only[Bd.size]at hs
  refine aj fun N hN=>?_
  walk_at "y"
  refine hN _ _ (aj fun N hN=>?_)
  walk_at "y"
  refine hN _ _ (aj fun N hN=>?_)
  walk_at "y"
  refine hN _ _ (aj fun N hN=>?_)
  walk_at "y"
  refine hN _ _ (aj fun N hN=>?_)
  walk_at "y"
  refine Nd (by omega) fun S1 X1=>hN _ _ (aj fun N hN=>?_)
  simp only[aq,ab,ak,ag,af,v3,lk,c3,fx,bG,sG,List.set_cons_zero,List.set_cons_succ]
  refine ih (by omega) g.2 hj (by omega) fun p2 S2 _ h2 X2=>hN _ _ (aj fun N hN=>?_)
  refine yq (vC (fun _ _ q=>q) (fun _ _ q=>q) rfl g.2 hj h2 fun S3 X3=>hN _ _ (aj fun N hN=>?_))
  walk_at "y"
  refine hN _ _ (aj fun N hN=>?_)
  simp only[aq,ab,ak,ag,af,v3,lk,c3,fx,bG,xV,aK,List.set_cons_zero,List.set_cons_succ]
  refine ih (by omega) g.1 hj (by omega) fun p4 S4 _ h4 X4=>hN _ _ ?_
  refine b7 (rh (rh (yr ?_)))
  simp only[ak]
  refine rh ?_
  simp only[aY,jq,i6,v3,lk,fx,bG,c3,jr,aC,ak]
  refine vC (t:=a) (fun _ _ q=>q) (fun _ _ q=>q) rfl g.1 hj h4 fun S5 X5=>?_
  show _/\_
  refine⟨bB (show 1+2<=1000 by decide),fun p6 M6=>?_⟩
  have h6:∀o,(Hk S5 p6 o) p6=some o:=fun o=>aa
  have X6:∀o,Ext S5 (Hk S5 p6 o):=fun o=>.new M6
  have:=a.Hq;have:=b.Hq
  refine rg (h6 _) (X6 _ _ _ (X5 _ _ h4)) (by rw[TH,a.Hl];omega) fun r S7 _ h7 X7=>?_
  refine rg h7 (X7 _ _ (X6 _ _ _ (X5 _ _ (X4 _ _ (X3 _ _ h2))))) (by rw[Te,TH,a.Hl,b.Hl];omega) fun r2 S8 n8 h8 X8=>k r2 S8 ((X1.trans (X2.trans (X3.trans (X4.trans (X5.trans ((X6 _).trans X7)))))).free n8) ?_ (X1.trans (X2.trans (X3.trans (X4.trans (X5.trans ((X6 _).trans (X7.trans X8)))))))
  rw[h8,Bd.rowsOf]
  rfl
 |Hx z j a b=>
  rw[show ap 9 [(Bd.Hx z j a b).pv,.int f,.int m]=[some (.tup [.str "take",.str z,.int j,a.pv,b.pv]),some (.int f),some (.int m),none,none,none,none,none,none] from rfl]
  simp only[Bd.dep]at hd
  simp only[Bd.size]at hs
  have ga:=g.2.2.2.1
  have gb:=g.2.2.2.2
  refine aj fun N hN=>?_
  walk_at "y"
  refine hN _ _ (aj fun N hN=>?_)
  walk_at "y"
  refine hN _ _ (aj fun N hN=>?_)
  walk_at "y"
  refine hN _ _ (aj fun N hN=>?_)
  walk_at "y"
  refine hN _ _ (aj fun N hN=>?_)
  walk_at "y"
  refine Nd (by omega) fun S1 X1=>hN _ _ (aj fun N hN=>?_)
  simp only[aq,ab,ak,ag,af,v3,lk,c3,fx,bG,xU,List.set_cons_zero,List.set_cons_succ]
  refine ih (by omega) gb hj (by omega) fun p2 S2 _ h2 X2=>hN _ _ (aj fun N hN=>?_)
  refine yq (vC (fun _ _ q=>q) (fun _ _ q=>q) rfl gb hj h2 fun S3 X3=>hN _ _ (aj fun N hN=>?_))
  walk_at "y"
  refine hN _ _ (aj fun N hN=>?_)
  simp only[aq,ab,ak,ag,af,v3,lk,c3,fx,bG,xW,aK,List.set_cons_zero,List.set_cons_succ]
  refine ih (by omega) ga hj (by omega) fun p4 S4 _ h4 X4=>hN _ _ ?_
  refine b7 (rh (rh (yr ?_)))
  simp only[ak]
  refine rh ?_
  simp only[aY,jq,i6,v3,lk,fx,bG,c3,jr,aC,ak]
  refine vC (t:=a) (fun _ _ q=>q) (fun _ _ q=>q) rfl ga hj h4 fun S5 X5=>?_
  show _/\_
  refine⟨bB (show 3+2<=1000 by decide),fun p6 M6=>?_⟩
  have h6:∀o,(Hk S5 p6 o) p6=some o:=fun o=>aa
  have X6:∀o,Ext S5 (Hk S5 p6 o):=fun o=>.new M6
  have:=a.Hq;have:=b.Hq
  refine rg (h6 _) (X6 _ _ _ (X5 _ _ h4)) (by rw[TH,a.Hl];omega) fun r S7 _ h7 X7=>?_
  refine rg h7 (X7 _ _ (X6 _ _ _ (X5 _ _ (X4 _ _ (X3 _ _ h2))))) (by rw[Te,TH,a.Hl,b.Hl];omega) fun r2 S8 n8 h8 X8=>k r2 S8 ((X1.trans (X2.trans (X3.trans (X4.trans (X5.trans ((X6 _).trans X7)))))).free n8) ?_ (X1.trans (X2.trans (X3.trans (X4.trans (X5.trans ((X6 _).trans (X7.trans X8)))))))
  rw[h8,Bd.rowsOf]
  rfl
abbrev iX(n:Nat)(w:au):Prop:=∀{S:az} {t:Bd} {js:Vs} {Q:bn} {E:bJ},t.dep<=n->t.good js []->l4 js->t.size<=400->(∀p S',S p=none->S' p=some (.lst t.Hr)->Ext S S'->Q (.ref p) S')->w [t.pv] S Q E
def vD{xc xm:au}(n:Nat)(QY:ko n xc)(Nd:lh n xm):iX n (aR 1 (gk xc xm)):=by
 intro S t js Q E hd g hj hs k
 unfold gk
 refine cJ ?_
 rw[show ap 1 [t.pv]=[some t.pv] from rfl]
 refine b7 (rh ?_)
 simp only[ab,ak,v3,lk,c3]
 refine Nd hd fun S1 X1=>QY hd g hj hs fun p S2 _ h2 X2=>?_
 simp only[bb,ak,aC,c3]
 intro p3 hp3
 have h6:∀o,(Hk S2 p3 o) p3=some o:=fun o=>aa
 have X6:∀o,Ext S2 (Hk S2 p3 o):=fun o=>.new hp3
 have:=t.Hq
 exact rg (X6 _ _ _ h2) (h6 _) (by rw[TH,t.Hl];omega) fun r S7 n7 h7 X7=>k r S7 ((X1.trans (X2.trans (X6 _))).free n7) h7 (X1.trans (X2.trans ((X6 _).trans X7)))
abbrev iB(w:au):Prop:=∀{S:az} {t b:Int} {Q:bn} {E:bJ},0 < b->b < 2 ^ 64->Q (.tup [.int (M3.br t b),.int (M3.aT t b)]) S->w [.int t,.int b] S Q E
def vE{w:au}(h:l0 w):iB w:=fun hb hs k=>h hb (kT (by omega)) k
def Ay{w:au}(h:CW.Bi w):iB w:=fun hb hs k=>h hb ⟨UW (show _ < 2 ^ 64 by omega) (Wm (by decide) (by decide))⟩ k
def Az(n m:Int):0 < M3.aT n 2520 * M3.aT m 2520/\M3.aT n 2520 * M3.aT m 2520 < 2 ^ 64:=by
 obtain⟨a,b⟩:=eC n
 obtain⟨c,d⟩:=eC m
 have q:M3.aT n 2520 * M3.aT m 2520<=2520 * 2520:=Int.mul_le_mul b d (by omega) (by decide)
 exact⟨Int.mul_pos a c,by omega⟩
abbrev jk(w:au):Prop:=∀{S:az} {n m:Int} {Q:bn} {E:bJ},Q (cf (n+m)) S->w [cf n,cf m] S Q E
def rj{xf:au}(IZ:iB xf):jk (aR 2 (sx xf)):=by
 intro S n m Q E k
 unfold sx
 refine cJ ?_
 rw[show ap 2 [cf n,cf m]=[some (cf n),some (cf m)] from rfl]
 simp only[cf]
 walk_at "x"
 simp only[eU,fy]
 refine⟨nE _ _,nE _ _,nE _ _,IZ (Az n m).1 (Az n m).2 ?_⟩
 rw[t4]
 exact k
def vF{xf:au}(IZ:iB xf):jk (aR 2 (lA xf)):=rj IZ
def yt(m:Int):M3.br (-m) 2520 = -M3.br m 2520/\M3.aT (-m) 2520=M3.aT m 2520:=by
 have L:=pJ m
 refine M3.cY (a:=-M3.br m 2520) (b:=M3.aT m 2520) ⟨L.pos,by rw[Int.neg_gcd];exact L.one⟩ (by decide) ?_
 have:=cP m
 rw[XE,XE,this]
abbrev yu(w:au):Prop:=∀{S:az} {n m:Int} {Q:bn} {E:bJ},Q (cf (n - m)) S->w [cf n,cf m] S Q E
def vG{xf:au}(IZ:iB xf):yu (aR 2 (pO xf)):=by
 intro S n m Q E k
 unfold pO
 refine cJ ?_
 rw[show ap 2 [cf n,cf m]=[some (cf n),some (cf m)] from rfl]
 simp only[cf]
 walk_at "x"
 simp only[eU,fy]
 refine⟨nE _ _,nE _ _,nE _ _,IZ (Az n m).1 (Az n m).2 ?_⟩
 have e:=t4 n (-m)
 rw[(yt m).1,(yt m).2,XE]at e
 rw[Int.sub_eq_add_neg,e,<-Int.sub_eq_add_neg]
 exact k
abbrev yv(w:au):Prop:=∀{S:az} {n m:Int} {Q:bn} {E:bJ},-100<=m->m<=100->Q (cf (n * m)) S->w [cf n,.tup [.int m,.int 1]] S Q E
def vH{xf:au}(IZ:iB xf):yv (aR 2 (o_ xf)):=by
 intro S n m Q E h1 h2 k
 unfold o_
 refine cJ ?_
 rw[show ap 2 [cf n,.tup [.int m,.int 1]]=[some (cf n),some (.tup [.int m,.int 1])] from rfl]
 simp only[cf]
 walk_at "x"
 simp only[eU,fy]
 have b:=eC n
 refine⟨pD (by omega) (by omega),pD (by decide) (by decide),IZ (by omega) (by omega) ?_⟩
 rw[qT]
 exact k
abbrev l5(w:au):Prop:=∀{S:az} {n m:Int} {Q:bn} {E:bJ},-100<=m->m<=100->Q (cf (n * m)) S->w [cf n,.int m] S Q E
def sU{xf:au}(IZ:iB xf):l5 (aR 2 (gh xf)):=by
 intro S n m Q E h1 h2 k
 unfold gh
 refine cJ ?_
 rw[show ap 2 [cf n,.int m]=[some (cf n),some (.int m)] from rfl]
 simp only[cf]
 walk_at "x"
 simp only[eU,fy]
 have b:=eC n
 refine⟨pD (by omega) (by omega),IZ (by omega) (by omega) ?_⟩
 have e:=qT n m
 rw[Int.mul_one]at e
 rw[e]
 exact k
def yw(n m:Int):(M3.br n 2520 * M3.aT m 2520 < M3.br m 2520 * M3.aT n 2520↔n < m):=by
 have w1:=cP n
 have w2:=cP m
 have b1:=(eC n).1
 have b2:=(eC m).1
 have b:=Int.mul_pos b1 b2
 have e1:M3.br n 2520 * M3.aT m 2520 * 2520=n * (M3.aT n 2520 * M3.aT m 2520):=by rw[Xx,w1];grind
 have e2:M3.br m 2520 * M3.aT n 2520 * 2520=m * (M3.aT n 2520 * M3.aT m 2520):=by rw[Xx,w2];grind
 constructor
 ·intro h
  refine Int.lt_of_mul_lt_mul_right ?_ (Wo b)
  rw[<-e1,<-e2];omega
 ·intro h
  have:=Int.mul_lt_mul_of_pos_right h b
  rw[<-e1,<-e2]at this
  omega
abbrev rm(w:au):Prop:=∀{S:az} {n m:Int} {Q:bn} {E:bJ},Q (.bl (decide (n < m))) S->w [cf n,cf m] S Q E
def yx:rm (aR 2 sP):=by
 intro S n m Q E k
 unfold sP
 refine cJ ?_
 rw[show ap 2 [cf n,cf m]=[some (cf n),some (cf m)] from rfl]
 simp only[cf,ar,ag,v3,lk,c3,af,eU,fy,bX,qp,dW]
 refine⟨nE _ _,nE _ _,?_⟩
 simp only[yw]
 exact k
abbrev ng(w:au):Prop:=∀{S:az} {n m:Int} {Q:bn} {E:bJ},Q (.bl (decide (m<=n))) S->w [cf n,cf m] S Q E
def vI:ng (aR 2 dO):=by
 intro S n m Q E k
 unfold dO
 refine cJ ?_
 rw[show ap 2 [cf n,cf m]=[some (cf n),some (cf m)] from rfl]
 simp only[cf,ar,ag,v3,lk,c3,af,eU,fy,bX,xB,dW]
 refine⟨nE _ _,nE _ _,?_⟩
 have:(M3.br m 2520 * M3.aT n 2520<=M3.br n 2520 * M3.aT m 2520)↔m<=n:=by
  have:=yw n m
  constructor
  ·intro h;exact Xv.mp fun q=>by have:=this.mpr q;omega
  ·intro h;exact Xv.mp fun q=>by have:=this.mp q;omega
 simp only[this]
 exact k
def ue(n:Int):(0<=M3.br n 2520↔0<=n):=by
 refine⟨fun h=>?_,vz⟩
 have w1:=cP n
 have b1:=(eC n).1
 refine Xv.mp fun q=>?_
 have:=Int.mul_neg_of_neg_of_pos q b1
 omega
noncomputable def hi(x:Int):List Int->Int
 |[]=>x
 |y::r=>hi (if x < y then y else x) r
theorem Bp(l:Int):∀(r:Vu) (x:Int),(l < hi x r↔l < x\/∃y∈r,l < y)
 |[],x=>by simp[hi]
 |y::r,x=>by
  rw[hi,Bp l r]
  simp only[Th,exists_eq_or_imp]
  split
  ·constructor
   ·rintro(h|h)
    ·exact .inr (.inl h)
    ·exact .inr (.inr h)
   ·rintro(h|h|h)
    ·exact .inl (by omega)
    ·exact .inl h
    ·exact .inr h
  ·constructor
   ·rintro(h|h)
    ·exact .inl h
    ·exact .inr (.inr h)
   ·rintro(h|h|h)
    ·exact .inl h
    ·exact .inl (by omega)
    ·exact .inr h
abbrev Bq(w:au):Prop:=∀{S:az} {p:Addr} {n:Int} {ns:Vu} {Q:bn} {E:bJ},S p=some (.lst ((n::ns).map cf))->Q (cf (hi n (n::ns))) S->w [.ref p] S Q E
def yy{xl:au}(Kp:rm xl):Bq (aR 3 (k9 xl)):=by
 intro S p n ns Q E hp k
 unfold k9
 refine cJ ?_
 rw[show ap 3 [PV.ref p]=[some (.ref p),none,none] from rfl]
 refine aj fun N hN=>?_
 have e0:Ie ((n::ns).map cf) 0=some (cf n):=eU
 simp only[aq,ag,v3,lk,c3,af,hp,e0,List.set_cons_zero,List.set_cons_succ]
 refine hN _ _ (aj fun N hN=>?_)
 simp only[b_,aF,v3,lk,bu,hp]
 have go:∀(r:Vu) (x:Int) (z:Option PV),hi x r=hi n (n::ns)->o9 (.n 2) (bd (aM (ab xl [v3 1,v3 2])) (aq 1 (v3 2)) aI) { nx:=N,rt:=Q,ex:=fK } (fun S'=>S' p=some (.lst ((n::ns).map cf))) (r.map cf) [some (.ref p),some (cf x),z] S:=by
  intro r
  induction r with
  |nil=>
   intro x z e
   refine⟨hp,hN _ _ ?_⟩
   rw[hi]at e
   simp only[ar,v3,lk,e]
   exact k
  |cons y r ih=>
   intro x z e
   refine⟨hp,?_⟩
   simp only[Tg.put,List.set_cons_zero,List.set_cons_succ,bd,aM,ab,ak,v3,lk]
   refine Kp ?_
   rw[hi]at e
   dsimp only
   by_cases h:x < y
   ·rw[TN h,if_pos rfl]
    simp only[aq,v3,lk,List.set_cons_zero,List.set_cons_succ]
    exact ih y _ (by rw[if_pos h]at e;exact e)
   ·rw[Tw h,if_neg (by decide)]
    exact ih x _ (by rw[if_neg h]at e;exact e)
 exact go _ _ _ rfl
theorem cH{α:Type}{g:Tg}{te:aZ}{σ':cy}{keep:az->Prop}{fin:List PV->az->Prop}(enc:α->PV)(P:α->Prop){S0:az}(hk:∀S,Ext S0 S->keep S):∀(xs:List α) (bs:List Bool) (S:az),Ext S0 S->bs.length+xs.length<=1000->
  (∀x∈xs,∀S,Ext S0 S->∃σ2,g.put (enc x) σ'=some σ2/\∀K:bn,(∀b S',(b=true↔P x)->Ext S S'->K (.bl b) S')->te σ2 S K fK)->
  (∀cs S',(cs.all id=true↔∀x∈xs,P x)->(cs.any id=true↔∃x∈xs,P x)->Ext S0 S'->fin ((bs++cs).map PV.bl) S')->bY g bx te σ' keep fin (xs.map enc) (bs.map PV.bl) S
 |[],bs,S,X,hl,_,hf=>⟨hk S X,bB (by simpa using hl),by simpa using hf [] S (by simp) (by simp) X⟩
 |x::r,bs,S,X,hl,h,hf=>by
  obtain⟨σ2,e,h1⟩:=h x (by simp) S X
  refine⟨hk S X,bB (by simp at hl ⊢;omega),?_⟩
  rw[e]
  simp only[bx,Ua]
  refine h1 _ fun b S' hb X'=>?_
  have:=cH enc P hk r (bs++[b]) S' (X.trans X') (by simp at hl ⊢;omega) (fun y hy=>h y (by simp[hy])) fun cs S2 ha hn X2=>by
   have:=hf (b::cs) S2 (by rw[List.all_cons,Wn,ha,id,hb,List.forall_mem_cons]) (by rw[VW,Bool.or_eq_true,hn,id,hb];simp) X2
   simpa using this
  simpa using this
def pX{S:az}{p:Addr}{bs:List Bool}{Q:bn}(q:Q (.bl (bs.all id)) (Hk S p (.lst (bs.map PV.bl)))):sv [.ref p] (Hk S p (.lst (bs.map PV.bl))) Q:=by
 simp only[sv,aa,kX];exact q
def uf{S:az}{p:Addr}{bs:List Bool}{Q:bn}(q:Q (.bl (bs.any id)) (Hk S p (.lst (bs.map PV.bl)))):u5 [.ref p] (Hk S p (.lst (bs.map PV.bl))) Q:=by
 simp only[u5,aa,kX];exact q
def WD(js:Vs)(ws:Vu)(q:Qs)(kvs:List (bf×PV)):Prop:=∀z∈js,(q z=true->ff kvs (Sum.inr z)=some (cf (wt js ws z)))/\(kvs.any fun kv=>decide (kv.1=Sum.inr z))=q z
noncomputable def lf(ls:Vu)(j:Int):Int:=ls.getD j.toNat 0
def iC{ls:Vu}{N j:Int}(hl:(ls.length:Int)=N+1)(h:to N j):Ie (ls.map cf) j=some (cf (lf ls j)):=by
 obtain⟨k,rfl⟩:=UR h.1
 have hk:k < ls.length:=by have:=h.2;omega
 refine bC ?_
 rw[Tv,Tp hk]
 simp[lf,List.getD,hk]
abbrev nh(w:au):Prop:=∀{S:az} {r:Rw} {js:Vs} {q:Qs} {ws ls:Vu} {kvs:List (bf×PV)} {d:Addr} {N:Int} {Q:bn} {E:bJ},r.ok js q N->WD js ws q kvs->S d=some (.dct kvs)->(ls.length:Int)=N+1->
  (∀p S' v vs,S' p=some (.lst ((v::vs).map cf))->Ext S S'->(∀x:Int,(∃y∈v::vs,x < y)↔∃a∈r.asks q (wt js ws),x < a.1+lf ls a.2)->Q (.ref p) S')->w [r.pv,.tup (ls.map cf),.ref d] S Q E
def sV{xp xt xm:au}(HX:jk xp)(JI:yv xt)(Nf:yu xm):nh (aR 4 (eI xp xt xm)):=by
 intro S r js q ws ls kvs d N Q E ho hw hd hl k
 unfold eI
 refine cJ ?_
 cases r with
 |pay c n=>
  rw[show ap 4 [(Rw.pay c n).pv,.tup (ls.map cf),.ref d]=[some (.tup [.str "pay",cf c,.int n]),some (.tup (ls.map cf)),some (.ref d),none] from rfl]
  refine aj fun N hN=>?_
  walk_at "y"
  refine hN _ _ (aj fun N hN=>?_)
  walk_at "y"
  refine hN _ _ (aj fun N hN=>?_)
  walk_at "y"
  rw[iC hl ho]
  refine HX fun p hp=>k p _ (c+lf ls n) [] aa (.new hp) fun x=>by simp[Rw.asks]
 |put z m n=>
  rw[show ap 4 [(Rw.put z m n).pv,.tup (ls.map cf),.ref d]=[some (.tup [.str "put",.str z,.int m,.int n]),some (.tup (ls.map cf)),some (.ref d),none] from rfl]
  obtain⟨hz,hq,m1,m9,hn⟩:=ho
  refine aj fun N hN=>?_
  walk_at "y"
  refine hN _ _ (aj fun N hN=>?_)
  walk_at "y"
  refine hN _ _ (aj fun N hN=>?_)
  walk_at "y"
  refine hN _ _ (aj fun N hN=>?_)
  walk_at "y"
  simp only[hd,(hw z hz).1 hq,iC hl hn]
  refine JI (by omega) (by omega) (HX fun p hp=>k p _ (wt js ws z * m+lf ls n) [] aa (.new hp) fun x=>by simp[Rw.asks])
 |two h a b=>
  cases h
  all_goals
   first
   |rw[show ap 4 [(Rw.two true a b).pv,.tup (ls.map cf),.ref d]=[some (.tup [.str "either",.int a,.int b]),some (.tup (ls.map cf)),some (.ref d),none] from rfl]
   |rw[show ap 4 [(Rw.two false a b).pv,.tup (ls.map cf),.ref d]=[some (.tup [.str "often",.int a,.int b]),some (.tup (ls.map cf)),some (.ref d),none] from rfl]
   refine aj fun N hN=>?_
   walk_at "y"
   refine hN _ _ (aj fun N hN=>?_)
   walk_at "y"
   refine hN _ _ (aj fun N hN=>?_)
   walk_at "y"
   refine hN _ _ (aj fun N hN=>?_)
   walk_at "y"
   refine hN _ _ (aj fun N hN=>?_)
   walk_at "y"
   simp only[iC hl ho.1,iC hl ho.2]
   exact fun p hp=>k p _ (lf ls a) [lf ls b] aa (.new hp) fun x=>by simp[Rw.asks,or_comm]
 |Hx z m a b=>
  rw[show ap 4 [(Rw.Hx z m a b).pv,.tup (ls.map cf),.ref d]=[some (.tup [.str "take",.str z,.int m,.int a,.int b]),some (.tup (ls.map cf)),some (.ref d),none] from rfl]
  obtain⟨hz,m1,m9,ha,hb⟩:=ho
  refine aj fun N hN=>?_
  walk_at "y"
  refine hN _ _ (aj fun N hN=>?_)
  walk_at "y"
  refine hN _ _ (aj fun N hN=>?_)
  walk_at "y"
  refine hN _ _ (aj fun N hN=>?_)
  walk_at "y"
  refine hN _ _ (aj fun N hN=>?_)
  walk_at "y"
  refine hN _ _ (aj fun N hN=>?_)
  walk_at "y"
  simp only[fJ,hd,(hw z hz).2]
  by_cases hq:q z=true
  ·rw[hq]
   walk_at "y"
   refine hN _ _ ?_
   walk_at "y"
   simp only[hd,(hw z hz).1 hq,iC hl hb,iC hl ha]
   refine JI (by omega) (by omega) (Nf fun p hp=>k p _ (lf ls b) [lf ls a - wt js ws z * m] aa (.new hp) fun x=>?_)
   simp[Rw.asks,hq]
   constructor
   ·rintro(h|h)
    ·exact .inl h
    ·exact .inr (by omega)
   ·rintro(h|h)
    ·exact .inl h
    ·exact .inr (by omega)
  ·rw[Bool.not_eq_true]at hq
   rw[hq]
   walk_at "y"
   simp only[iC hl hb]
   exact fun p hp=>k p _ (lf ls b) [] aa (.new hp) fun x=>by simp[Rw.asks,hq]
def Dq{n m:Int}(h:cf n=cf m):n=m:=CW.Dj (Q:=2520) (by decide) h
def AA{q:Qs}{w:Str->Int}{r s:Rw}(h:r.pv=s.pv):r.asks q w=s.asks q w:=by
 cases r with
 |pay c n=>cases s with
  |pay c' n'=>
   simp only[Rw.pv,PV.tup.injEq,WC,PV.int.injEq,XJ,and_true]at h
   rw[Dq h.1,h.2]
  |_=>simp[Rw.pv,cf]at h
 |put z m n=>cases s with
  |put=>simp[Rw.pv]at h;simp[Rw.asks,h]
  |_=>simp[Rw.pv,cf]at h
 |two x a b=>cases s with
  |two=>simp[Rw.pv]at h;simp[Rw.asks,h]
  |_=>simp[Rw.pv,cf]at h
 |Hx z m a b=>cases s with
  |Hx=>simp[Rw.pv]at h;simp[Rw.asks,h]
  |_=>simp[Rw.pv,cf]at h
def KA(t:Bd)(q:Qs)(w:Str->Int)(l:Int->Int)(i:Int):Prop:=∀v,Ie t.Hr i=some v->(∀r:Rw,v=r.pv->∀a∈r.asks q w,a.1+l a.2<=l i)/\(v = .tup [.str "end"]->0<=l i)
def yz{t:Bd}{q:Qs}{w:Str->Int}{l:Int->Int}{i:Int}{r:Rw}(h:Ie t.Hr i=some r.pv):KA t q w l i↔∀a∈r.asks q w,a.1+l a.2<=l i:=by
 refine⟨fun k=>(k _ h).1 r rfl,fun k v hv=>?_⟩
 rw[h]at hv
 cases hv
 exact⟨fun r' e a ha=>k a (by rw[AA e];exact ha),fun e=>by cases r<;>simp[Rw.pv]at e⟩
def yA{t:Bd}{q:Qs}{w:Str->Int}{l:Int->Int}{i:Int}(h:Ie t.Hr i=some (.tup [.str "end"])):KA t q w l i↔0<=l i:=by
 refine⟨fun k=>(k _ h).2 rfl,fun k v hv=>?_⟩
 rw[h]at hv
 cases hv
 exact⟨fun r e=>by cases r<;>simp[Rw.pv]at e,fun _=>k⟩
noncomputable def come(t:Bd)(q:Qs):List Int:=t.mk q 0++[(t.rows:Int)]
def ni(q:Qs)(t:Bd):t.L9 q=(come t q).map PV.int:=by
 unfold Bd.L9 come
 rw[Uh,t.IY q 0,t.HN]
 rfl
def rn(q:Qs)(t:Bd):(come t q).length<=t.size+1:=by
 have:=Aw q t
 rw[ni,Ti]at this
 exact this
def ug{q:Qs}{t:Bd}{i:Int}(h:i∈come t q):to t.rows i:=by
 rcases Tj.mp h with h|h
 ·have:=t.Hw q 0 i h;exact⟨by omega,by omega⟩
 ·rw[Tt.mp h];exact⟨by omega,by omega⟩
def rq{js:Vs}{q:Qs}{t:Bd}(g:t.good js [])(hp:∀z∈t.Hn q,q z=true){i:Int}(h:i∈come t q):(∃r:Rw,Ie t.Hr i=some r.pv/\r.ok js q t.rows)\/Ie t.Hr i=some (.tup [.str "end"]):=by
 rcases Tj.mp h with h|h
 ·exact .inl (oE g hp h)
 ·rw[Tt.mp h];exact .inr (vA t)
abbrev oI(w:au):Prop:=∀{S:az} {v:PV} {d:Addr} {Q:bn} {E:bJ},(∀p S',S' p=some (.lst [cf 0])->Ext S S'->Q (.ref p) S')->w [.tup [.str "end"],v,.ref d] S Q E
def rA{xp xt xm:au}:oI (aR 4 (eI xp xt xm)):=by
 intro S v d Q E k
 unfold eI
 refine cJ ?_
 rw[show ap 4 [.tup [.str "end"],v,.ref d]=[some (.tup [.str "end"]),some v,some (.ref d),none] from rfl]
 refine aj fun N hN=>?_
 walk_at "y"
 refine hN _ _ (aj fun N hN=>?_)
 walk_at "y"
 exact fun p hp=>k p _ (by rw[aa,dY]) (.new hp)
abbrev yB(w:au):Prop:=∀{S:az} {t:Bd} {js:Vs} {q:Qs} {ws ls:Vu} {kvs:List (bf×PV)} {d:Addr} {Q:bn} {E:bJ},t.good js []->(∀z∈t.Hn q,q z=true)->t.size<=400->WD js ws q kvs->S d=some (.dct kvs)->ls.length=t.rows+1->
  (∀b S',(b=true↔∀i∈come t q,KA t q (wt js ws) (lf ls) i)->Ext S S'->Q (.bl b) S')->w [.tup t.Hr,.tup (t.L9 q),.tup (ls.map cf),.ref d] S Q E
def L6{xl xh xa:au}(Kp:rm xl)(MG:Bq xh)(Jf:nh xa)(Oq:oI xa):yB (aR 4 (gc xl xh xa)):=by
 intro S t js q ws ls kvs d Q E g hp hs hw hd hl k
 unfold gc
 refine cJ ?_
 rw[show ap 4 [.tup t.Hr,.tup (t.L9 q),.tup (ls.map cf),.ref d]=[some (.tup t.Hr),some (.tup (t.L9 q)),some (.tup (ls.map cf)),some (.ref d)] from rfl]
 refine b7 ?_
 simp only[lx,al,ak,aG,aF,v3,lk,bu,cm,List.reduceReplicate,TQ,TZ,List.cons_append,List.nil_append]
 rw[ni]
 have hl':(ls.length:Int)=t.rows+1:=by omega
 refine cH (fun i=>PV.int i) (fun i=>¬KA t q (wt js ws) (lf ls) i) (fun _ _=>trivial) _ [] S .refl (by have:=rn q t;simp;omega) (fun i hi' S1 X1=>⟨_,rfl,fun K kk=>?_⟩) fun cs S2 _ hn X2 p hp=>?_
 ·have hto:=ug hi'
  simp only[ab,ak,ag,af,v3,lk,List.set_cons_zero,List.set_cons_succ,iC hl' hto]
  rcases rq g hp hi' with⟨r,er,ro⟩|er
  ·rw[er]
   refine Jf ro hw (X1 _ _ hd) hl' fun p1 S2 v vs h1 X2 ha=>MG h1 (Kp (kk _ _ ?_ X2))
   rw[TF,Bp,yz er]
   have e:=ha (lf ls i)
   constructor
   ·intro h c
    have h2:∃y∈v::vs,lf ls i < y:=h.elim (fun h=>⟨v,by simp,h⟩) id
    obtain⟨a,m,h3⟩:=e.mp h2
    have:=c a m
    omega
   ·intro h
    refine .inr (e.mpr (UA fun c=>h fun a m=>Xv.mp fun h3=>c ⟨a,m,h3⟩))
  ·rw[er]
   refine Oq fun p1 S2 h1 X2=>MG (n:=0) (ns:=[]) h1 (Kp (kk _ _ ?_ X2))
   rw[TF,yA er]
   simp only[hi]
   simp
 ·rw[T7]
  refine uf ?_
  refine k _ _ ?_ (X2.trans (.new hp))
  rw[XF,<-Bool.not_eq_true,hn]
  constructor
  ·intro h i hi'
   exact UA fun c=>h ⟨i,hi',c⟩
  ·rintro h ⟨i,hi',c⟩
   exact c (h i hi')
theorem iY{α:Type}{g:Tg}{te:aZ}{σ':cy}{keep:az->Prop}{fin:List PV->az->Prop}(enc:α->PV)(R:α->PV->az->Prop)(mono:∀x v S S',R x v S->Ext S S'->R x v S'){S0:az}(hk:∀S,Ext S0 S->keep S):∀(xs:List α) (ys:List PV) (S:az),Ext S0 S->ys.length+xs.length<=1000->
  (∀x∈xs,∀S,Ext S0 S->∃σ2,g.put (enc x) σ'=some σ2/\∀K:bn,(∀v S',R x v S'->Ext S S'->K v S')->te σ2 S K fK)->
  (∀vs S',vs.length=xs.length->(∀(k:Nat) x v,xs[k]?=some x->vs[k]?=some v->R x v S')->Ext S S'->fin (ys++vs) S')->bY g bx te σ' keep fin (xs.map enc) ys S
 |[],ys,S,X,hl,_,hf=>⟨hk S X,bB (by simpa using hl),by simpa using hf [] S rfl (by simp) .refl⟩
 |x::r,ys,S,X,hl,h,hf=>by
  obtain⟨σ2,e,h1⟩:=h x (by simp) S X
  refine⟨hk S X,bB (by simp at hl ⊢;omega),?_⟩
  rw[e]
  simp only[bx,Ua]
  refine h1 _ fun v S' hv X'=>?_
  refine iY enc R mono hk r (ys++[v]) S' (X.trans X') (by simp at hl ⊢;omega) (fun y hy=>h y (by simp[hy])) fun vs S2 hlen ha X2=>?_
  have:=hf (v::vs) S2 (by simp[hlen]) (fun k y u h1 h2=>?_) (X'.trans X2)
  ·simpa using this
  ·cases k with
   |zero=>cases h1;cases h2;exact mono _ _ _ _ hv X2
   |succ k=>exact ha k y u h1 h2
def AB{α:Type}{f:α->PV}{xs:List α}{vs:List PV}(hl:vs.length=xs.length)(h:∀(k:Nat) x v,xs[k]?=some x->vs[k]?=some v->v=f x):vs=xs.map f:=by
 refine WY fun k=>?_
 rw[Tv]
 by_cases hk:k < xs.length
 ·have h1:=Tp hk
  have h2:=Tp (l:=vs) (i:=k) (by omega)
  rw[h1,h2,h k _ _ h1 h2]
  rfl
 ·rw[Uy (by omega),Uy (by omega)]
  rfl
theorem rB:∀xs ys:List Int,PyData.eqvAll (xs.map PyData.int) (ys.map PyData.int)=decide (xs=ys)
 |[],[]=>rfl
 |[],_::_=>rfl
 |_::_,[]=>rfl
 |x::xs,y::ys=>by
  show(PyData.eqv (.int x) (.int y)&&PyData.eqvAll (xs.map PyData.int) (ys.map PyData.int))=_
  rw[rB xs ys,show PyData.eqv (.int x) (.int y)=decide (x=y)from rfl]
  by_cases h:x=y<;>simp[h]
def uh{neg:Bool}{S:az}{a b:Addr}{xs ys:Vu}{Q:bn}(ha:S a=some (.lst (xs.map PV.int)))(hb:S b=some (.lst (ys.map PV.int)))(q:Q (.bl (neg != decide (xs=ys))) S):bq neg (.ref a) (.ref b) S Q:=by
 refine⟨.list (xs.map PyData.int),.list (ys.map PyData.int),.ref ha (kl S xs),.ref hb (kl S ys),km xs,km ys,?_,?_⟩
 ·have:∀l:List Int,PyData.depthAll (l.map PyData.int)<=1:=fun l=>by
   induction l with
   |nil=>simp[PyData.depthAll]
   |cons x r ih=>simp only[TQ,PyData.depthAll,PyData.depth];omega
  have h1:=this xs
  simp only[PyData.depth]
  omega
 ·show Q (.bl (neg != PyData.eqvAll (xs.map PyData.int) (ys.map PyData.int))) S
  rw[rB]
  exact q
theorem rC:∀(l acc:List (bf×PV)),((acc++l).map Prod.fst).Nodup->Ja acc l=acc++l
 |[],acc,_=>by simp[Ja]
 |(k,v)::l,acc,h=>by
  have hk:(acc.any fun kv=>decide (kv.1=k))=false:=by
   rw[List.any_eq_false]
   intro x hx
   rw[TF]
   intro e
   rw[Uh,UY]at h
   exact h.2.2 x.1 (List.mem_map_of_mem hx) k (by simp) e
  show Ja (kJ acc k v) l=_
  rw[kJ,hk,if_neg (by decide),rC l _ (by simpa using h)]
  simp
noncomputable def kv(p:Str×Int):bf×PV:=(Sum.inr p.1,cf p.2)
theorem rD:∀l:List (Str×Int),iL (l.map fun p=>PV.tup [.str p.1,cf p.2])=some (l.map kv)
 |[]=>rfl
 |p::l=>by
  rw[TQ,iL,rD l]
  rfl
def AC{z:Str}:∀{js:Vs} {ws:Vu} {q:Qs},z ∉ js->((((js.zip ws).filter fun p=>q p.1).map kv).any fun x=>decide (x.1=Sum.inr z))=false:=by
 intro js ws q h
 rw[List.any_eq_false]
 intro x hx
 obtain⟨p,hp,rfl⟩:=Ue.mp hx
 have:=(V9 (Vf.mp hp).1).1
 simp only[kv,TF,Sum.inr.injEq]
 intro e
 exact h (e▸this)
theorem Br{q:Qs}:∀{js:Vs} {ws:Vu},js.Nodup->ws.length=js.length->WD js ws q (((js.zip ws).filter fun p=>q p.1).map kv)
 |[],_,_,_=>fun z hz=>by cases hz
 |j::js,[],_,e=>by cases e
 |j::js,w::ws,nd,e=>fun z hz=>by
  have Pi:=Uw.mp nd
  have ih:=Br (q:=q) (js:=js) (ws:=ws) Pi.2 (by simpa using e)
  rw[List.zip_cons_cons]
  by_cases Pk:j=z
  ·subst Pk
   cases hq:q j with
   |true=>
    rw[T3 (by simpa using hq)]
    exact⟨fun _=>by simp[kv,ff,wt],by simp[kv]⟩
   |false=>
    rw[UJ (by simp[hq])]
    exact⟨fun h=>(by cases h),AC Pi.1⟩
  ·have hz':z∈js:=(Th.mp hz).resolve_left fun h=>Pk h.symm
   have ih':=ih z hz'
   have ew:wt (j::js) (w::ws) z=wt js ws z:=by simp[wt,Pk]
   rw[ew]
   cases hq:q j with
   |true=>
    rw[T3 (by simpa using hq)]
    refine⟨fun h=>?_,?_⟩
    ·rw[TQ,kv,ff,if_neg (by simpa using Pk)];exact ih'.1 h
    ·rw[TQ,VW,ih'.2,kv];simp[Pk]
   |false=>
    rw[UJ (by simp[hq])]
    exact ih'
def Fq{js:Vs}{ws:Vu}{q:Qs}(nd:js.Nodup)(hl:ws.length=js.length):((((js.zip ws).filter fun p=>q p.1).map kv).map Prod.fst).Nodup:=by
 rw[UP]
 have:(Prod.fst ∘ kv)=fun p:Str×Int=>(Sum.inr p.1:bf):=rfl
 rw[this]
 have h1:((js.zip ws).map Prod.fst).Nodup:=by
  rw[XM (by omega)]
  exact nd
 have h2:(((js.zip ws).filter fun p=>q p.1).map Prod.fst).Nodup:=h1.sublist (List.filter_sublist.map _)
 rw[show(((js.zip ws).filter fun p=>q p.1).map fun p:Str×Int=>(Sum.inr p.1:bf))=(((js.zip ws).filter fun p=>q p.1).map Prod.fst).map (Sum.inr:Str->bf) by rw[UP];rfl]
 exact List.Pairwise.map _ (fun a b h e=>h (Sum.inr.inj e)) h2
noncomputable abbrev qh(js:Vs)(ds:List (Str×Bd)):Qs:=mq (held ds js.length)
def pY{js:Vs}{ds:List (Str×Bd)}{hs:Vs}(h:MP js ds hs):mq hs=qh js ds:=(Au h.1 h.2.1 h.2.2.1 h.2.2.2).symm
abbrev uk(w:au):Prop:=∀{S:az} {js:Vs} {ds:List (Str×Bd)} {ws:Vu} {Q:bn} {E:bJ},HG js ds->js.Nodup->ws.length=js.length->
  (∀p kvs S',WD js ws (qh js ds) kvs->S' p=some (.dct kvs)->Ext S S'->(∀p∈ds,∀z∈p.2.Hn (qh js ds),qh js ds z=true)->Q (.ref p) S')->w [cU js ds,.tup (ws.map cf)] S Q E
def KS{xf:au}(JK:dZ xf):uk (aR 3 (b5 xf)):=by
 intro S js ds ws Q E hg nd hl k
 unfold b5
 refine cJ ?_
 rw[show ap 3 [cU js ds,.tup (ws.map cf)]=[some (.tup [.tup (js.map PV.str),.tup (ds.map iM)]),some (.tup (ws.map cf)),none] from rfl]
 refine aj fun N hN=>?_
 simp only[aq,ab,ak,v3,lk]
 refine JK hg fun nm hs S1 hnm X1 QU hf=>hN _ _ (b7 ?_)
 have hh:=hf.ok hg.jw
 simp only[al,ak,aG,va,ag,af,v3,lk,c3,eU,List.set_cons_zero,List.set_cons_succ,cm,List.reduceReplicate,TQ,TZ,List.cons_append,List.nil_append]
 have ez:cZ (js.map PV.str) (ws.map cf)=(js.zip ws).map fun p=>PV.tup [.str p.1,cf p.2]:=by
  unfold cZ
  rw[List.zip_map,UP]
  rfl
 rw[ez]
 have jl:=hg.jl
 refine iV (α:=Str×Int) (keep:=fun _=>True) (S:=S1) (fun p=>PV.tup [.str p.1,cf p.2]) (fun p=>PV.tup [.str p.1,cf p.2]) (fun p=>mq hs p.1) trivial (js.zip ws) [] (fun p hp=>?_) (bB (by rw[Wa];simp;omega)) ?_
 ·have hz:=(V9 hp).1
  refine⟨_,rfl,fun K q=>?_,fun Q q=>q⟩
  simp only[aM,ag,v3,lk,List.set_cons_zero,List.set_cons_succ]
  exact eV QU (hg.jw _ hz) hh (by rw[Tz];exact q)
 ·rw[T7]
  intro p1 hp1
  simp only[pk,aa,rD]
  intro p2 hp2
  have e:=rC (((js.zip ws).filter fun p=>mq hs p.1).map kv) [] (by rw[T7];exact Fq nd hl)
  rw[e,T7]
  refine k p2 _ _ (by rw[<-pY hf];exact Br nd hl) aa (X1.trans ((Ext.new hp1).trans (.new hp2))) fun p hp z hz=>?_
  rw[<-pY hf]at hz ⊢
  exact TN (hf.2.2.2 z (U8.mpr ⟨p,hp,hz⟩))
noncomputable def cI(l:Vu):PV:=.tup (l.map cf)
noncomputable def i8(ws:Vu)(ls:List (List Int)):PV:=.tup [.tup (ws.map cf),.tup (ls.map cI)]
structure FI (js:Vs) (ds:List (Str×Bd)) (ws:Vu) (ls:List (List Int)):Prop where
 jl:ws.length=js.length
 pos:∀w∈ws,0<=w
 ll:(ls.map fun l=>(l.length:Int))=ds.map fun p=>(p.2.rows:Int)+1
 rows:∀(k:Nat) p l,ds[k]?=some p->ls[k]?=some l->∀i∈come p.2 (qh js ds),KA p.2 (qh js ds) (wt js ws) (lf l) i
def yC{ls:List (List Int)}{ds:List (Str×Bd)}(h:(ls.map fun l=>(l.length:Int))=ds.map fun p=>(p.2.rows:Int)+1):ls.length=ds.length:=by
 have:=Uu List.length h
 simpa using this
def Bs{ls:List (List Int)}{ds:List (Str×Bd)}(h:(ls.map fun l=>(l.length:Int))=ds.map fun p=>(p.2.rows:Int)+1){k:Nat}{p:Str×Bd}{l:Vu}(h1:ds[k]?=some p)(h2:ls[k]?=some l):l.length=p.2.rows+1:=by
 have:=Uu (fun x=>x[k]?) h
 simp only[Tv,h1,h2,Option.map_some,Vn]at this
 omega
def iZ(t:Bd):(t.Hr.length:Int)=t.rows+1:=by
 unfold Bd.Hr
 rw[Te,t.Hl,TH]
 omega
abbrev sW(w:au):Prop:=∀{S:az} {js:Vs} {ds:List (Str×Bd)} {ws:Vu} {ls:List (List Int)} {Q:bn} {E:bJ},HG js ds->js.Nodup->ws.length<=100->ls.length<=100->(∀b S',(b=true↔FI js ds ws ls)->Ext S S'->Q (.bl b) S')->w [cU js ds,i8 ws ls] S Q E
def Ke{xl xc xw xr xd:au}(Kp:rm xl)(HU:kZ 6 xc)(KS:uk xw)(M4:k6 xr)(L6:yB xd):sW (aR 7 (fk xl xc xw xr xd)):=by
 intro S js ds ws ls Q E hg nd w1 l1 k
 have NY:∀S',¬FI js ds ws ls->Ext S S'->Q (.bl false) S':=fun S' h X=>k false S' ⟨nofun,fun e=>(h e).elim⟩ X
 unfold fk
 refine cJ ?_
 rw[show ap 7 [cU js ds,i8 ws ls]=[some (.tup [.tup (js.map PV.str),.tup (ds.map iM)]),some (.tup [.tup (ws.map cf),.tup (ls.map cI)]),none,none,none,none,none] from rfl]
 refine aj fun N hN=>?_
 simp only[bd,lw,aM,ag,al,ak,af,v3,lk,c3,eU,fy,bA,bq,Ti,UO]
 by_cases h1:ws.length=js.length
 case neg=>
  rw[Tw (by omega)]
  exact NY S (fun h=>h1 h.jl) .refl
 rw[TN (by omega)]
 simp only[UT,Tu,Ub,aG,aF,bu,ag,v3,lk,c3,af,eU,cm,List.reduceReplicate,TZ,TY]
 refine cH (S0:=S) cf (fun w:Int=>w < 0) (fun _ _=>trivial) ws [] S .refl (by simp;omega) (fun w hw S1 X1=>⟨_,rfl,fun K kk=>?_⟩) fun cs S2 _ hn X2 p hp=>?_
 ·simp only[ab,ak,v3,lk,aC,c3,List.set_cons_zero]
  rw[dY]
  exact Kp (kk _ _ (by rw[TF]) .refl)
 rw[T7]
 refine uf ?_
 dsimp only
 have X3:=X2.trans (Ext.new (o:=.lst (cs.map PV.bl)) hp)
 generalize Hk S2 p (.lst (cs.map PV.bl))=S3 at X3
 by_cases h2:∀w∈ws,0<=w
 case neg=>
  rw[hn.mpr (UA fun c=>h2 fun w hw=>Xv.mp fun q=>c ⟨w,hw,q⟩)]
  exact NY S3 (fun h=>h2 h.pos) X3
 have hb:cs.any id=false:=Bool.eq_false_iff.mpr fun c=>by obtain⟨w,hw,q⟩:=hn.mp c;have:=h2 w hw;omega
 rw[hb]
 simp only[Tu,Ub,aI]
 refine hN _ _ (aj fun N hN=>?_)
 simp only[aq,aG,aF,bu,ag,v3,lk,c3,af,fy,cm,List.reduceReplicate,TZ,TY]
 refine iY (S0:=S3) iM (fun p v _=>v = .tup p.2.Hr) (fun _ _ _ _ h _=>h) (fun _ _=>trivial) ds [] S3 .refl (by have:=hg.dl;simp;omega) (fun p hp S4 X4=>⟨_,rfl,fun K kk=>?_⟩) fun vs S4 hvl hv X4 p2 hp2=>?_
 ·simp only[ab,ak,ag,v3,lk,c3,af,iM,fy,List.set_cons_zero]
  have:=hg.sz p hp
  exact HU (hg.dp p hp) (by omega) fun S5 X5=>kk _ _ rfl X5
 have ev:=AB hvl hv
 subst ev
 rw[T7]
 simp only[List.set_cons_zero,List.set_cons_succ]
 have f2:(Hk S4 p2 (.lst (ds.map fun p=>.tup p.2.Hr))) p2=some (.lst (ds.map fun p=>.tup p.2.Hr)):=aa
 have X5:=X3.trans (X4.trans (Ext.new (o:=.lst (ds.map fun p=>.tup p.2.Hr)) hp2))
 generalize Hk S4 p2 (.lst (ds.map fun p=>.tup p.2.Hr))=S5 at X5 f2
 refine hN _ _ (aj fun N hN=>?_)
 simp only[bd,aM,ag,aG,aF,bu,v3,lk,c3,af,fy,cm,List.reduceReplicate,TZ,TY]
 have dl:=hg.dl
 refine di (α:=List Int) (S:=S5) (keep:=fun _=>True) cI (fun l=>.int (l.length:Int)) trivial ls [] (fun l _=>⟨_,rfl,fun Q q=>?_⟩) (bB (by simp;omega)) ?_
 ·simp only[al,ak,v3,lk,List.set_cons_zero,cI,bA,Ti]
  exact q
 rw[T7]
 intro p3 hp3
 have e3:(ls.map fun l=>PV.int (l.length:Int))=(ls.map fun l=>(l.length:Int)).map PV.int:=by rw[UP];rfl
 rw[e3]
 have X6:=Ext.new (o:=.lst ((ls.map fun l=>(l.length:Int)).map PV.int)) hp3
 have f3:(Hk S5 p3 (.lst ((ls.map fun l=>(l.length:Int)).map PV.int))) p3=some (.lst ((ls.map fun l=>(l.length:Int)).map PV.int)):=aa
 generalize Hk S5 p3 (.lst ((ls.map fun l=>(l.length:Int)).map PV.int))=S6 at X6 f3
 have QZ:=X6 _ _ f2
 rw[QZ]
 dsimp only
 refine di (α:=Str×Bd) (S:=S6) (fun p=>.tup p.2.Hr) (fun p=>.int ((p.2.rows:Int)+1)) QZ ds [] (fun p _=>⟨_,rfl,fun Q q=>?_⟩) (bB (by simp;omega)) ?_
 ·simp only[al,ak,v3,lk,List.set_cons_zero,bA,iZ]
  exact q
 rw[T7]
 intro p4 Lv
 have e4:(ds.map fun p=>PV.int ((p.2.rows:Int)+1))=(ds.map fun p=>(p.2.rows:Int)+1).map PV.int:=by rw[UP];rfl
 rw[e4]
 have X7:=Ext.new (o:=.lst ((ds.map fun p=>(p.2.rows:Int)+1).map PV.int)) Lv
 have f4:(Hk S6 p4 (.lst ((ds.map fun p=>(p.2.rows:Int)+1).map PV.int))) p4=some (.lst ((ds.map fun p=>(p.2.rows:Int)+1).map PV.int)):=aa
 generalize Hk S6 p4 (.lst ((ds.map fun p=>(p.2.rows:Int)+1).map PV.int))=S7 at X7 f4
 have RE:=X5.trans (X6.trans X7)
 refine uh (X7 _ _ f3) f4 ?_
 by_cases h3:(ls.map fun l=>(l.length:Int))=ds.map fun p=>(p.2.rows:Int)+1
 case neg=>
  rw[Tw h3]
  exact NY S7 (fun h=>h3 h.ll) RE
 rw[TN h3]
 simp only[UO,UT,Tu,Ub,aI]
 refine hN _ _ (aj fun N hN=>?_)
 simp only[aq,ab,ak,ag,v3,lk,c3,af,eU]
 refine KS hg nd h1 fun p5 kvs S8 hw f5 X8 Pl=>?_
 simp only[List.set_cons_zero,List.set_cons_succ]
 have SN:=X8 _ _ (X7 _ _ QZ)
 have SQ:=RE.trans X8
 refine hN _ _ (aj fun N hN=>?_)
 simp only[b_,sy,ab,ak,ag,v3,lk,c3,af,fy]
 refine M4 hg fun hs S9 hf X9=>?_
 have RF:=X9 _ _ SN
 have SR:=X9 _ _ f5
 have RG:=SQ.trans X9
 dsimp only
 rw[RF,pY hf]
 dsimp only
 have NE:=yC h3
 refine⟨by simp,by simp;omega,?_⟩
 have ez:fQ (ds.map fun p=>PV.tup p.2.Hr) (ds.map fun p=>PV.tup (p.2.L9 (qh js ds))) (ls.map cI)=(ds.zip ls).map fun z=>PV.tup [.tup z.1.2.Hr,.tup (z.1.2.L9 (qh js ds)),cI z.2]:=by
  unfold fQ
  refine WY fun i=>?_
  simp only[Tv,Ut,List.zip,List.getElem?_zipWith]
  cases ds[i]?<;>cases ls[i]?<;>rfl
 rw[ez]
 refine bP (fun done σ S'=>Ext S9 S'/\∃x3 x4 x6,σ=[some (.tup [.tup (js.map PV.str),.tup (ds.map iM)]),some (.tup [.tup (ws.map cf),.tup (ls.map cI)]),some (.ref p2),x3,x4,some (.ref p5),x6]/\∀(n:Nat) p l,n < done.length->ds[n]?=some p->ls[n]?=some l->∀i∈come p.2 (qh js ds),KA p.2 (qh js ds) (wt js ws) (lf l) i) ⟨.refl,_,_,_,rfl,fun n p l hn=>by simp at hn⟩ (fun done σ S' h=>h.1 _ _ RF) ?_ ?_
 ·rintro done x rest σ S' K e ⟨X,x3,x4,x6,rfl,hd⟩ hK
  have hget:((ds.zip ls).map fun z=>PV.tup [.tup z.1.2.Hr,.tup (z.1.2.L9 (qh js ds)),cI z.2])[done.length]?=some x:=by rw[e];simp
  obtain⟨⟨p,l⟩,hz,rfl⟩:∃z,(ds.zip ls)[done.length]?=some z/\PV.tup [.tup z.1.2.Hr,.tup (z.1.2.L9 (qh js ds)),cI z.2]=x:=by rw[Tv]at hget;exact UC.mp hget
  rw[Ut]at hz
  have hm:=T9 hz.1
  have hsz:=hg.sz p hm
  simp only[Tg.put,Tg.Hn,List.set_cons_zero,List.set_cons_succ,bd,i3,aM,ab,ak,v3,lk]
  refine L6 (hg.gd p hm) (Pl p hm) (by omega) hw (X _ _ SR) (Bs h3 hz.1 hz.2) fun b S2 hb X2=>?_
  cases b with
  |false=>
   simp only[UD,Ua,ar,c3]
   refine NY S2 (fun h=>?_) (RG.trans (X.trans X2))
   have:=hb.mpr (h.rows _ p l hz.1 hz.2)
   cases this
  |true=>
   simp only[UT,Tu,Ub,aI]
   refine hK _ _ ⟨X.trans X2,_,_,_,rfl,fun n p' l' hn h1 h2=>?_⟩
   rw[Te,TH]at hn
   by_cases hn2:n < done.length
   ·exact hd n p' l' hn2 h1 h2
   ·have:n=done.length:=by omega
    subst this
    rw[hz.1]at h1
    rw[hz.2]at h2
    cases h1;cases h2
    exact hb.mp rfl
 ·rintro σ S' ⟨X,x3,x4,x6,rfl,hd⟩
  refine hN _ _ ?_
  simp only[ar,c3]
  refine k true S' ⟨fun _=>⟨h1,h2,h3,fun n p l e1 e2=>hd n p l ?_ e1 e2⟩,fun _=>rfl⟩ (RG.trans X)
  have:=(TV.mp e1).1
  simp
  omega
theorem Bt:∀{js:Vs} {ws:Vu} {z:Str} {k:Nat},ws.length=js.length->js[k]?=some z->(∀j:Nat,j < k->js[j]?≠some z)->ws[k]?=some (wt js ws z)
 |[],_,_,_,_,h,_=>by simp at h
 |j::js,[],_,_,e,_,_=>by cases e
 |j::js,w::ws,z,0,e,h,_=>by
  simp at h
  simp[wt,h]
 |j::js,w::ws,z,k+1,e,h,f=>by
  have hj:j≠z:=fun q=>f 0 (by omega) (by simp[q])
  have:=Bt (js:=js) (ws:=ws) (z:=z) (k:=k) (by simpa using e) (by simpa using h) fun j hj=>by simpa using f (j+1) (by omega)
  simpa [wt,hj]using this
abbrev rE(w:au):Prop:=∀{S:az} {js:Vs} {ds:List (Str×Bd)} {ws:Vu} {h z:Str} {m:Int} {rest:List PV} {Q:bn} {E:bJ},z∈js->ws.length=js.length->1<=m->m<=9->Q (cf (wt js ws z * m)) S->w [cU js ds,.tup (ws.map cf),.tup (.str h :: .str z :: .int m::rest)] S Q E
def sX{xt:au}(JI:l5 xt):rE (aR 3 (fq xt)):=by
 intro S js ds ws h z m rest Q E hz hl m1 m9 k
 unfold fq
 refine cJ ?_
 rw[show ap 3 [cU js ds,.tup (ws.map cf),.tup (.str h :: .str z :: .int m::rest)]=[some (.tup [.tup (js.map PV.str),.tup (ds.map iM)]),some (.tup (ws.map cf)),some (.tup (.str h :: .str z :: .int m::rest))] from rfl]
 refine b7 ?_
 simp only[ab,ak,ag,xE,af,v3,lk,c3,eU,fy,GS,iK,jG]
 obtain⟨n,h1,h2⟩:=qU hz
 refine⟨n,h1,h2,?_⟩
 have e:Ie (ws.map cf) (n:Int)=some (cf (wt js ws z)):=bC (by rw[Tv,Bt hl h1 h2];rfl)
 simp only[e]
 exact JI (by omega) (by omega) k
noncomputable def Dr(a:Int×Int):PV:=.tup [cf a.1,.int a.2]
abbrev pZ(w:au):Prop:=∀{S:az} {r:Rw} {js hs:Vs} {ds:List (Str×Bd)} {ws:Vu} {nm:Addr} {N:Int} {Q:bn} {E:bJ},r.ok js (mq hs) N->ws.length=js.length->l4 js->l4 hs->S nm=some (.lst (hs.map PV.str))->
  (∀p S',S' p=some (.lst ((r.asks (mq hs) (wt js ws)).map Dr))->Ext S S'->Q (.ref p) S')->w [cU js ds,.tup (ws.map cf),r.pv,.ref nm] S Q E
def p7{S S1:az}{p:Addr}{o:SO}(h:S p=none)(X:Ext S S1):Ext S (Hk S1 p o):=fun a u ha=>by
 rw[aD (fun e=>by rw[e,h]at ha;cases ha)]
 exact X a u ha
def Jf{xg xt:au}(Lz:rE xg)(JI:l5 xt):pZ (aR 5 (gq xg xt)):=by
 intro S r js hs ds ws nm N Q E ho hl hj hh hnm k
 unfold gq
 refine cJ ?_
 cases r with
 |pay c n=>
  rw[show ap 5 [cU js ds,.tup (ws.map cf),(Rw.pay c n).pv,.ref nm]=[some (cU js ds),some (.tup (ws.map cf)),some (.tup [.str "pay",cf c,.int n]),some (.ref nm),none] from rfl]
  refine aj fun N hN=>?_
  walk_at "y"
  exact fun p hp=>k p _ aa (.new hp)
 |put z m n=>
  rw[show ap 5 [cU js ds,.tup (ws.map cf),(Rw.put z m n).pv,.ref nm]=[some (cU js ds),some (.tup (ws.map cf)),some (.tup [.str "put",.str z,.int m,.int n]),some (.ref nm),none] from rfl]
  obtain⟨hz,hq,m1,m9,hn⟩:=ho
  refine aj fun N hN=>?_
  walk_at "y"
  refine hN _ _ (aj fun N hN=>?_)
  walk_at "y"
  exact Lz hz hl m1 m9 fun p hp=>k p _ aa (.new hp)
 |two h a b=>
  cases h
  all_goals
   first
   |rw[show ap 5 [cU js ds,.tup (ws.map cf),(Rw.two true a b).pv,.ref nm]=[some (cU js ds),some (.tup (ws.map cf)),some (.tup [.str "either",.int a,.int b]),some (.ref nm),none] from rfl]
   |rw[show ap 5 [cU js ds,.tup (ws.map cf),(Rw.two false a b).pv,.ref nm]=[some (cU js ds),some (.tup (ws.map cf)),some (.tup [.str "often",.int a,.int b]),some (.ref nm),none] from rfl]
   refine aj fun N hN=>?_
   walk_at "y"
   refine hN _ _ (aj fun N hN=>?_)
   walk_at "y"
   refine hN _ _ (aj fun N hN=>?_)
   walk_at "y"
   intro p hp
   refine hN _ _ (aj fun N hN=>?_)
   walk_at "y"
   simp only[aa]
   refine⟨trivial,bB (show 2<=1000 by decide),hN _ _ ?_⟩
   refine b7 (k p _ ?_ (p7 hp (.new hp)))
   rw[aa,dY]
   rfl
 |Hx z m a b=>
  rw[show ap 5 [cU js ds,.tup (ws.map cf),(Rw.Hx z m a b).pv,.ref nm]=[some (cU js ds),some (.tup (ws.map cf)),some (.tup [.str "take",.str z,.int m,.int a,.int b]),some (.ref nm),none] from rfl]
  obtain⟨hz,m1,m9,ha,hb⟩:=ho
  refine aj fun N hN=>?_
  walk_at "y"
  refine hN _ _ (aj fun N hN=>?_)
  walk_at "y"
  refine hN _ _ (aj fun N hN=>?_)
  walk_at "y"
  intro p hp
  refine hN _ _ (aj fun N hN=>?_)
  walk_at "y"
  refine eV (Ext.new hp _ _ hnm) (hj z hz) hh ?_
  by_cases hq:z∈hs
  ·rw[TN hq]
   walk_at "y"
   simp only[aa]
   refine⟨trivial,Lz hz hl m1 m9 (JI (by omega) (by omega) ?_)⟩
   simp only[aa]
   refine⟨bB (show 2<=1000 by decide),hN _ _ ?_⟩
   refine b7 (k p _ ?_ (p7 hp (.new hp)))
   rw[aa,dY]
   simp[Rw.asks,mq,hq,Dr]
  ·rw[Tw hq]
   walk_at "y"
   refine hN _ _ ?_
   refine b7 (k p _ ?_ (.new hp))
   rw[aa,dY]
   simp[Rw.asks,mq,hq,Dr]
def AD{r:Rw}{js:Vs}{q:Qs}{N:Int}{w:Str->Int}(h:r.ok js q N){a:Int×Int}(ha:a∈r.asks q w):to N a.2:=by
 cases r with
 |pay c n=>rw[Tt.mp ha];exact h
 |put z m n=>rw[Tt.mp ha];exact h.2.2.2.2
 |two x c d=>
  simp[Rw.asks]at ha
  rcases ha with rfl|rfl
  ·exact h.2
  ·exact h.1
 |Hx z m c d=>
  simp only[Rw.asks,Th]at ha
  rcases ha with rfl|ha
  ·exact h.2.2.2.2
  ·split at ha
   ·rw[Tt.mp ha];exact h.2.2.2.1
   ·cases ha
def AE(r:Rw):∃(h:Str) (rest:List PV),r.pv = .tup (.str h::rest)/\decide (h=("end":Str))=false:=by
 cases r with
 |two x a b=>cases x<;>exact⟨_,_,rfl,by decide +kernel⟩
 |_=>exact⟨_,_,rfl,by decide +kernel⟩
abbrev Bu(w:au):Prop:=∀{S:az} {t:Bd} {i:Int} {js hs:Vs} {ds:List (Str×Bd)} {ws ls:Vu} {pr nm:Addr} {Q:bn} {E:bJ},t.good js []->(∀z∈t.Hn (mq hs),mq hs z=true)->i∈come t (mq hs)->ws.length=js.length->l4 js->l4 hs->S nm=some (.lst (hs.map PV.str))->S pr=some (.lst t.Hr)->ls.length=t.rows+1->
  (∀b S',(b=true↔KA t (mq hs) (wt js ws) (lf ls) i)->Ext S S'->Q (.bl b) S')->w [cU js ds,.tup (ws.map cf),.ref pr,.tup (ls.map cf),.int i,.ref nm] S Q E
def L7{xa xl xp:au}(Jf:pZ xa)(Kf:ng xl)(HX:jk xp):Bu (aR 7 (dP xa xl xp)):=by
 intro S t i js hs ds ws ls pr nm Q E g hp hi' hl hj hh hnm NL NE k
 unfold dP
 refine cJ ?_
 rw[show ap 7 [cU js ds,.tup (ws.map cf),.ref pr,.tup (ls.map cf),.int i,.ref nm]=[some (cU js ds),some (.tup (ws.map cf)),some (.ref pr),some (.tup (ls.map cf)),some (.int i),some (.ref nm),none] from rfl]
 have hl':(ls.length:Int)=t.rows+1:=by omega
 have hto:=ug hi'
 refine aj fun N hN=>?_
 simp only[bd,aM,ag,af,v3,lk,c3,NL]
 rcases rq g hp hi' with⟨r,er,ro⟩|er
 ·obtain⟨h,rest,e1,e2⟩:=AE r
  rw[er,e1]
  simp only[eU,bq]
  rw[Tz,show decide (h=Str.ofString "end")=false from e2]
  simp only[Tu,Ub,aI]
  refine hN _ _ (aj fun N hN=>?_)
  simp only[aq,ab,ak,ag,af,v3,lk,NL,er,List.set_cons_zero,List.set_cons_succ]
  refine Jf ro hl hj hh hnm fun p S1 h1 X1=>hN _ _ (b7 ?_)
  simp only[al,ak,aG,aF,v3,lk,bu,h1,cm,List.reduceReplicate,TQ,TZ,List.cons_append,List.nil_append]
  refine cH (S0:=S1) Dr (fun a=>a.1+lf ls a.2<=lf ls i) (fun S X=>X _ _ h1) (r.asks (mq hs) (wt js ws)) [] S1 .refl ?_ (fun a ha S2 X2=>⟨_,rfl,fun K kk=>?_⟩) fun cs S2 hal _ X2 p2 hp2=>?_
  ·cases r with
   |Hx z m a b=>simp only[Rw.asks];split<;>simp
   |_=>simp[Rw.asks]
  ·simp only[ab,ak,ag,af,v3,lk,List.set_cons_zero,List.set_cons_succ,iC hl' hto,iC hl' (AD ro ha)]
   exact HX (Kf (kk _ _ (by rw[TF]) .refl))
  ·rw[T7]
   refine pX (k _ _ ?_ (X1.trans (X2.trans (.new hp2))))
   rw[hal,yz er]
 ·rw[er]
  simp only[eU,bq,Tz,V4,Ua,ar,ag,af,v3,lk,c3,iC hl' hto,cf,xB,dW]
  refine k _ _ ?_ .refl
  rw[TF,ue,yA er]
def AF{js:Vs}{ds:List (Str×Bd)}(hg:HG js ds):∀(n:Nat) (hs:Vs),Fs ds hs->hs.Nodup->(∀z∈hs,z∈js)->js.length<=hs.length+n->∃hs,MP js ds hs:=by
 intro n
 induction n with
 |zero=>
  intro hs hf hn hj hl
  refine⟨hs,hf,hn,hj,fun z hz=>UA fun c=>?_⟩
  obtain⟨p,hp,hz'⟩:=U8.mp hz
  have:=C.dF (hs++[z]) js (UY.mpr ⟨hn,by simp,fun a ha b hb e=>c (by rw[<-Tt.mp hb,<-e];exact ha)⟩) fun y hy=>by
   rcases Tj.mp hy with hy|hy
   ·exact hj y hy
   ·rw[Tt.mp hy];exact Bd.HF _ (hg.gd p hp) hz'
  rw[Te,TH]at this
  omega
 |succ n ih=>
  intro hs hf hn hj hl
  by_cases c:∀z∈Il (mq hs) ds,z∈hs
  ·exact⟨hs,hf,hn,hj,c⟩
  ·obtain⟨z,hz⟩:=Classical.not_forall.mp c
   obtain⟨hz,nz⟩:=Classical.not_imp.mp hz
   obtain⟨p,hp,hz'⟩:=U8.mp hz
   refine ih (hs++[z]) (.snoc hf hz) (UY.mpr ⟨hn,by simp,fun a ha b hb e=>nz (by rw[<-Tt.mp hb,<-e];exact ha)⟩) (fun y hy=>?_) (by rw[Te,TH];omega)
   rcases Tj.mp hy with hy|hy
   ·exact hj y hy
   ·rw[Tt.mp hy];exact Bd.HF _ (hg.gd p hp) hz'
def Bv{js:Vs}{ds:List (Str×Bd)}(hg:HG js ds){p:Str×Bd}(hp:p∈ds){z:Str}(hz:z∈p.2.Hn (qh js ds)):qh js ds z=true:=by
 obtain⟨hs,hf⟩:=AF hg js.length [] .nil .nil (by simp) (by simp)
 rw[<-pY hf]at hz ⊢
 exact TN (hf.2.2.2 z (U8.mpr ⟨p,hp,hz⟩))
abbrev sY(w:au):Prop:=∀{S:az} {js:Vs} {ds:List (Str×Bd)} {ws:Vu} {ls:List (List Int)} {Q:bn} {E:bJ},HG js ds->ws.length<=100->ls.length<=100->(∀b S',(b=true↔FI js ds ws ls)->Ext S S'->Q (.bl b) S')->w [cU js ds,i8 ws ls] S Q E
def Os(S0 S:az)(ds:List (Str×Bd))(vs:List PV):Prop:=vs.length=ds.length/\∀(k:Nat) p v,ds[k]?=some p->vs[k]?=some v->∃a,v = .ref a/\S a=some (.lst p.2.Hr)/\S0 a=none
def Os.mono{S0 S S':az}{ds:List (Str×Bd)}{vs:List PV}(h:Os S0 S ds vs)(X:Ext S S'):Os S0 S' ds vs:=⟨h.1,fun k p v h1 h2=>by
 obtain⟨a,e,f,n⟩:=h.2 k p v h1 h2
 exact⟨a,e,X _ _ f,n⟩⟩
def lM{xc:au}(HU:iX 6 xc){js:Vs}{ds:List (Str×Bd)}(hg:HG js ds){keep:az->Prop}{S:az}{fin:List PV->az->Prop}(hk:∀S',Ext S S'->keep S')(k:∀vs S',Os S S' ds vs->Ext S S'->fin vs S'):bY (.n 0) bx (ab xc [ag af (v3 0) (c3 (.int 1))]) [none] keep fin (ds.map iM) [] S:=by
 refine iY (S0:=S) iM (fun p v S1=>∃a,v = .ref a/\S1 a=some (.lst p.2.Hr)/\S a=none) (fun x v S S' h X=>?_) hk ds [] S .refl (by have:=hg.dl;simp;omega) (fun p hp S4 X4=>⟨_,rfl,fun K kk=>?_⟩) fun vs S4 hvl hv X4=>?_
 ·obtain⟨a,e,f,n⟩:=h
  exact⟨a,e,X _ _ f,n⟩
 ·simp only[ab,ak,ag,v3,lk,c3,af,iM,fy,List.set_cons_zero]
  have:=hg.sz p hp
  exact HU (hg.dp p hp) (hg.gd p hp) hg.jw (by omega) fun q S5 n5 h5 X5=>kk _ _ ⟨q,rfl,h5,X4.free n5⟩ X5
 ·exact k vs S4 ⟨hvl,hv⟩ X4
def Os.mem{S0 S:az}{ds:List (Str×Bd)}{vs:List PV}(h:Os S0 S ds vs){z:(Str×Bd)×PV}(hz:z∈ds.zip vs):∃a,z.2 = .ref a/\S a=some (.lst z.1.2.Hr)/\S0 a=none:=by
 obtain⟨k,hk⟩:=List.mem_iff_getElem?.mp hz
 rw[Ut]at hk
 exact h.2 k _ _ hk.1 hk.2
def vJ{S0 S:az}{ds:List (Str×Bd)}{vs:List PV}{keep:az->Prop}{fin:List PV->az->Prop}(hc:Os S0 S ds vs)(hk:keep S)(dl:ds.length<=1000)(k:fin (ds.map fun p=>.int ((p.2.rows:Int)+1)) S):bY (.n 0) bx (al bA [v3 0]) [none] keep fin vs [] S:=by
 have hl:=hc.1
 have e:vs=(ds.zip vs).map Prod.snd:=by rw[XN (by omega)]
 rw[e]
 refine di (α:=(Str×Bd)×PV) Prod.snd (fun z=>.int ((z.1.2.rows:Int)+1)) hk (ds.zip vs) [] (fun z hz=>⟨_,rfl,fun Q q=>?_⟩) (bB (by rw[Wa];simp;omega)) ?_
 ·obtain⟨a,e1,e2,_⟩:=hc.mem hz
  simp only[al,ak,v3,lk,List.set_cons_zero,e1,bA,e2,iZ]
  exact q
 ·rw[T7]
  have:((ds.zip vs).map fun z=>PV.int ((z.1.2.rows:Int)+1))=ds.map fun p=>PV.int ((p.2.rows:Int)+1):=by
   conv=>rhs;rw[<-XM (l₁:=ds) (l₂:=vs) (by omega)]
   rw[UP]
   rfl
  rw[this]
  exact k
def Fr{neg:Bool}{i j:Int}{S:az}{Q:bn}(q:Q (.bl (neg != decide (i=j))) S):bq neg (.int i) (.int j) S Q:=q
def Ln{xc xf xt xk:au}(HU:iX 6 xc)(JK:iR xf)(Kd:pW xt)(L7:Bu xk):sY (aR 8 (gr xc xf xt xk)):=by
 intro S js ds ws ls Q E hg w1 l1 k
 have NY:∀S',¬FI js ds ws ls->Ext S S'->Q (.bl false) S':=fun S' h X=>k false S' ⟨nofun,fun e=>(h e).elim⟩ X
 have dl:=hg.dl
 unfold gr
 refine cJ ?_
 rw[show ap 8 [cU js ds,i8 ws ls]=[some (.tup [.tup (js.map PV.str),.tup (ds.map iM)]),some (.tup [.tup (ws.map cf),.tup (ls.map cI)]),none,none,none,none,none,none] from rfl]
 refine aj fun N hN=>?_
 simp only[qH,v3,lk,Tg.put,Tg.Hn,List.set_cons_zero,List.set_cons_succ]
 refine hN _ _ (aj fun N hN=>?_)
 simp only[aq,aG,aF,bu,ag,v3,lk,c3,af,fy,cm,List.reduceReplicate,TZ,TY]
 refine lM HU hg (fun _ _=>trivial) fun vs S1 hc X1 p4 Lv=>?_
 have f4:(Hk S1 p4 (.lst vs)) p4=some (.lst vs):=aa
 have X2:=X1.trans (Ext.new (o:=.lst vs) Lv)
 have hc2:=hc.mono (Ext.new (o:=.lst vs) Lv)
 generalize Hk S1 p4 (.lst vs)=S2 at X2 f4 hc2
 simp only[List.set_cons_zero,List.set_cons_succ]
 refine hN _ _ (aj fun N hN=>?_)
 simp only[bd,lw,aM,ag,al,ak,af,v3,lk,c3,eU,fy,bA,Ti]
 refine Fr ?_
 simp only[UO]
 by_cases h1:ws.length=js.length
 case neg=>
  rw[Tw (by omega)]
  exact NY S2 (fun h=>h1 h.jl) X2
 rw[TN (by omega)]
 simp only[UT,Tu,Ub,aG,aF,bu,v3,lk,cm,List.reduceReplicate,TZ,TY]
 refine di (α:=List Int) (S:=S2) (keep:=fun _=>True) cI (fun l=>.int (l.length:Int)) trivial ls [] (fun l _=>⟨_,rfl,fun Q q=>?_⟩) (bB (by simp;omega)) ?_
 ·simp only[al,ak,v3,lk,List.set_cons_zero,cI,bA,Ti]
  exact q
 rw[T7]
 intro p3 hp3
 have e3:(ls.map fun l=>PV.int (l.length:Int))=(ls.map fun l=>(l.length:Int)).map PV.int:=by rw[UP];rfl
 rw[e3]
 have X3:=Ext.new (o:=.lst ((ls.map fun l=>(l.length:Int)).map PV.int)) hp3
 have f3:(Hk S2 p3 (.lst ((ls.map fun l=>(l.length:Int)).map PV.int))) p3=some (.lst ((ls.map fun l=>(l.length:Int)).map PV.int)):=aa
 generalize Hk S2 p3 (.lst ((ls.map fun l=>(l.length:Int)).map PV.int))=S3 at X3 f3
 have OH:=X3 _ _ f4
 have hc3:=hc2.mono X3
 rw[OH]
 dsimp only
 refine vJ hc3 OH dl fun p5 OG=>?_
 have e4:(ds.map fun p=>PV.int ((p.2.rows:Int)+1))=(ds.map fun p=>(p.2.rows:Int)+1).map PV.int:=by rw[UP];rfl
 rw[e4]
 have X4:=Ext.new (o:=.lst ((ds.map fun p=>(p.2.rows:Int)+1).map PV.int)) OG
 have f5:(Hk S3 p5 (.lst ((ds.map fun p=>(p.2.rows:Int)+1).map PV.int))) p5=some (.lst ((ds.map fun p=>(p.2.rows:Int)+1).map PV.int)):=aa
 generalize Hk S3 p5 (.lst ((ds.map fun p=>(p.2.rows:Int)+1).map PV.int))=S4 at X4 f5
 have Pm:=X2.trans (X3.trans X4)
 refine uh (X4 _ _ f3) f5 ?_
 by_cases h3:(ls.map fun l=>(l.length:Int))=ds.map fun p=>(p.2.rows:Int)+1
 case neg=>
  rw[Tw h3]
  exact NY S4 (fun h=>h3 h.ll) Pm
 rw[TN h3]
 simp only[UO,UT,Tu,Ub,aI]
 refine hN _ _ (aj fun N hN=>?_)
 simp only[aq,ab,ak,v3,lk]
 refine JK hg fun p6 S5 M6 X5 f6=>?_
 simp only[List.set_cons_zero,List.set_cons_succ]
 have RH:=X5 _ _ (X4 _ _ OH)
 have hc5:=hc3.mono (X4.trans X5)
 have NN:=Pm.trans X5
 have hh:l4 (held ds js.length):=fun z hz=>hg.jw z (pK hg _ z hz)
 refine hN _ _ (aj fun N hN=>?_)
 simp only[b_,xF,v3,lk]
 rw[RH]
 dsimp only
 have NE:=yC h3
 have ez:cZ vs (ls.map cI)=((ds.zip vs).zip ls).map fun z=>PV.tup [z.1.2,cI z.2]:=by
  unfold cZ
  refine WY fun i=>?_
  have hvl:=hc.1
  simp only[Tv,List.zip,List.getElem?_zipWith]
  by_cases hi':i < ds.length
  ·rw[Tp hi']
   cases vs[i]?<;>cases ls[i]?<;>rfl
  ·rw[Uy (l:=vs) (by omega),Uy (l:=ds) (by omega)]
   rfl
 rw[ez]
 refine bP (fun done σ S'=>Ext S5 S'/\∃x5 x7,σ=[some (.tup [.tup (js.map PV.str),.tup (ds.map iM)]),some (.tup [.tup (ws.map cf),.tup (ls.map cI)]),some (.tup (ws.map cf)),some (.tup (ls.map cI)),some (.ref p4),x5,some (.ref p6),x7]/\∀(n:Nat) p l,n < done.length->ds[n]?=some p->ls[n]?=some l->∀i∈come p.2 (qh js ds),KA p.2 (qh js ds) (wt js ws) (lf l) i) ⟨.refl,_,_,rfl,fun n p l hn=>by simp at hn⟩ (fun done σ S' h=>h.1 _ _ RH) ?_ ?_
 ·rintro done x rest σ S' K e ⟨X,x5,x7,rfl,hd⟩ hK
  have hget:(((ds.zip vs).zip ls).map fun z=>PV.tup [z.1.2,cI z.2])[done.length]?=some x:=by rw[e];simp
  obtain⟨⟨⟨p,v⟩,l⟩,hz,rfl⟩:∃z,((ds.zip vs).zip ls)[done.length]?=some z/\PV.tup [z.1.2,cI z.2]=x:=by rw[Tv]at hget;exact UC.mp hget
  rw[Ut,Ut]at hz
  obtain⟨⟨z1,z2⟩,z3⟩:=hz
  obtain⟨a,ea,fa,_⟩:=(hc5.mono X).2 _ p v z1 z2
  dsimp only at z1 z2 z3 ea
  subst ea
  have hm:=T9 z1
  have hsz:=hg.sz p hm
  have hrs:=p.2.Hq
  simp only[Tg.put,Tg.Hn,List.set_cons_zero,List.set_cons_succ,bd,i3,aM,al,ak,aG,aF,ab,v3,lk]
  refine Kd (hg.gd p hm) hg.jw hh (by omega) fa (X _ _ f6) fun q S6 f7 X6 _=>?_
  simp only[bu,f7,cm,List.reduceReplicate,TQ,TZ,List.cons_append,List.nil_append,lk]
  rw[ni]
  rw[ni]at f7
  have hcl:=rn (qh js ds) p.2
  refine cH (S0:=S6) (fun i=>PV.int i) (fun i=>KA p.2 (qh js ds) (wt js ws) (lf l) i) (fun S X=>X _ _ f7) (come p.2 (qh js ds)) [] S6 .refl (by simp;omega) (fun i hi' S7 X7=>⟨_,rfl,fun K kk=>?_⟩) fun cs S7 hal _ X7 p8 hp8=>?_
  ·simp only[ab,ak,v3,lk,List.set_cons_zero,List.set_cons_succ]
   exact L7 (hg.gd p hm) (fun z hz=>Bv hg hm hz) hi' h1 hg.jw hh (X7 _ _ (X6 _ _ (X _ _ f6))) (X7 _ _ (X6 _ _ fa)) (Bs h3 z1 z3) kk
  ·rw[T7]
   refine pX ?_
   dsimp only
   have X8:=X.trans (X6.trans (X7.trans (Ext.new (o:=.lst (cs.map PV.bl)) hp8)))
   generalize Hk S7 p8 (.lst (cs.map PV.bl))=S8 at X8
   cases hb:cs.all id with
   |false=>
    simp only[UD,Ua,ar,c3]
    refine NY S8 (fun h=>?_) (NN.trans X8)
    have:=hal.mpr (h.rows _ p l z1 z3)
    rw[hb]at this
    cases this
   |true=>
    simp only[UT,Tu,Ub,aI]
    refine hK _ _ ⟨X8,_,_,rfl,fun n p' l' hn h1 h2=>?_⟩
    rw[Te,TH]at hn
    by_cases hn2:n < done.length
    ·exact hd n p' l' hn2 h1 h2
    ·have:n=done.length:=by omega
     subst this
     rw[z1]at h1
     rw[z3]at h2
     cases h1;cases h2
     exact hal.mp hb
 ·rintro σ S' ⟨X,x5,x7,rfl,hd⟩
  refine hN _ _ (b7 ?_)
  simp only[al,ak,aG,aF,v3,lk,bu,cm,List.reduceReplicate,TZ,TY]
  refine cH (S0:=S') cf (fun w:Int=>0<=w) (fun _ _=>trivial) ws [] S' .refl (by simp;omega) (fun w hw S1 X1=>⟨_,rfl,fun K kk=>?_⟩) fun cs S2 hal _ X2 p hp=>?_
  ·simp only[ag,af,v3,lk,c3,List.set_cons_zero,cf,eU,xB,dW]
   exact kk _ _ (by rw[TF,ue]) .refl
  ·rw[T7]
   refine pX (k _ _ ?_ (NN.trans (X.trans (X2.trans (.new hp)))))
   rw[hal]
   refine⟨fun h=>⟨h1,h,h3,fun n p l e1 e2=>hd n p l ?_ e1 e2⟩,fun h=>h.pos⟩
   have:=(TV.mp e1).1
   have:=hc.1
   simp
   omega
structure GD (N:Int) (kvs:List (bf×PV)):Prop where
 nd:(kvs.map Prod.fst).Nodup
 ok:∀x∈kvs,∃i n:Int,x=(Sum.inl i,cf n)/\to N i
def GD.len{N:Nat}{kvs:List (bf×PV)}(h:GD N kvs):kvs.length<=N+1:=by
 have:=dF (fs:=kvs.map fun x=>match x.1 with | .inl i=>i | .inr _=>0) (n:=N) ?_ ?_
 ·simpa using this
 ·have nd:=h.nd
  unfold List.Nodup at nd ⊢
  rw[List.pairwise_map]at nd ⊢
  refine nd.imp_of_mem fun{a b} ha hb hab e=>hab ?_
  obtain⟨i,n,rfl,_⟩:=h.ok a ha
  obtain⟨j,m,rfl,_⟩:=h.ok b hb
  exact Uu Sum.inl e
 ·intro i hi
  obtain⟨x,hx,rfl⟩:=Ue.mp hi
  obtain⟨i,n,rfl,t⟩:=h.ok x hx
  exact t
def GD.put{N i n:Int}{kvs:List (bf×PV)}(h:GD N kvs)(t:to N i):GD N (kJ kvs (Sum.inl i) (cf n)):=by
 unfold kJ
 split
 ·refine⟨?_,fun x hx=>?_⟩
  ·rw[UP,show(Prod.fst ∘ fun kv:bf×PV=>if kv.1=Sum.inl i then (kv.1,cf n) else kv)=Prod.fst by funext kv;simp only[Function.comp];split<;>rfl]
   exact h.nd
  ·obtain⟨y,hy,rfl⟩:=Ue.mp hx
   obtain⟨j,m,rfl,tj⟩:=h.ok y hy
   split
   ·exact⟨j,n,rfl,tj⟩
   ·exact⟨j,m,rfl,tj⟩
 ·rename_i hn
  refine⟨?_,fun x hx=>?_⟩
  ·rw[Uh]
   refine UY.mpr ⟨h.nd,by simp,fun a ha b hb e=>hn ?_⟩
   obtain⟨y,hy,rfl⟩:=Ue.mp ha
   rw[Xf]
   exact⟨y,hy,by rw[TF,e];simpa using hb⟩
  ·rcases Tj.mp hx with hx|hx
   ·exact h.ok x hx
   ·rw[Tt.mp hx];exact⟨i,n,rfl,t⟩
theorem GD.val{N i:Int}:∀{kvs:List (bf×PV)},(∀x∈kvs,∃i n:Int,x=(Sum.inl i,cf n)/\to N i)->(kvs.any fun x=>decide (x.1=Sum.inl i))=true->∃n,ff kvs (Sum.inl i)=some (cf n)
 |[],_,h=>by cases h
 |x::r,ok,h=>by
  obtain⟨j,m,rfl,_⟩:=ok x (by simp)
  unfold ff
  by_cases e:(Sum.inl j:bf)=Sum.inl i
  ·rw[if_pos e];exact⟨m,rfl⟩
  ·rw[if_neg e]
   exact GD.val (fun y hy=>ok y (by simp[hy])) (by simpa [e]using h)
theorem GD.get{N i:Int}:∀{kvs:List (bf×PV)},(∀x∈kvs,∃i n:Int,x=(Sum.inl i,cf n)/\to N i)->∃n,(ff kvs (Sum.inl i)).getD (cf 0)=cf n
 |[],_=>⟨0,rfl⟩
 |x::r,ok=>by
  obtain⟨j,m,rfl,_⟩:=ok x (by simp)
  unfold ff
  split
  ·exact⟨m,rfl⟩
  ·exact GD.get fun y hy=>ok y (by simp[hy])
def p_{p:Addr}{S S':az}(h:Ext S S'):JJ p S S':=fun a o ha _=>h a o ha
def rF{d:Addr}{S S5 S':az}(X:Ext S S5)(hd:S d=none)(h:JJ d S5 S'):Ext S S':=fun a o ha=>h a o (X a o ha) fun e=>by rw[e,hd]at ha;cases ha
def yD{S:az}{d:Addr}{kvs:List (bf×PV)}{N:Int}{n:Nat}{fin:List PV->az->Prop}(hd:S d=some (.dct kvs))(g:GD N kvs)(hn:n<=1000)(k:∀l:List Int,l.length=n->fin (l.map cf) S):bY (.n 0) bx (tS (v3 1) (v3 0) (aC [c3 (.int 0),c3 (.int 1)])) [none,some (.ref d)] (fun _=>True) fin (bR 0 n) [] S:=by
 refine ik (fun done ys S'=>S'=S/\done.length<=n/\∃l:List Int,l.length=done.length/\ys=l.map cf) ⟨rfl,Ug _,[],rfl,rfl⟩ ?_ ?_ ?_
 ·rintro done ys S' ⟨rfl,h,l,hl,rfl⟩
  exact⟨trivial,bB (by simp;omega)⟩
 ·rintro done x rest ys S' K e ⟨rfl,h,l,hl,rfl⟩ hK
  obtain⟨rfl,hi'⟩:=pG e
  simp only[Tg.put,bx,Ua,tS,v3,lk,List.set_cons_zero,hd,aC,ak,c3,i5]
  rw[dY]
  obtain⟨m,em⟩:=GD.get (i:=(done.length:Int)) g.ok
  rw[em]
  exact hK _ _ ⟨rfl,by simp;omega,l++[m],by simp[hl],by simp⟩
 ·rintro ys S' ⟨rfl,h,l,hl,rfl⟩
  refine k l ?_
  rw[hl,dD]
def yE{xp xl:au}(HX:jk xp)(Kf:ng xl){S:az}{D:jW}{a b c e:Option PV}{p4:Option PV}{d:Addr}{x6:Option PV}{y7:Bool}{i:Int}{Mr:Option PV}{m j:Int}{kvs:List (bf×PV)}{N:Nat}(hN:N<=100)(hd:S d=some (.dct kvs))(g:GD N kvs)(ti:to N i)
  (k:∀y7 Mr S' kvs,S' d=some (.dct kvs)->GD N kvs->JJ d S S'->D.nx [a,b,c,e,p4,some (.ref d),x6,some (.bl y7),some (.int i),some (cf m),some (.int j),Mr] S'/\D.ct [a,b,c,e,p4,some (.ref d),x6,some (.bl y7),some (.int i),some (cf m),some (.int j),Mr] S') :
  ah (bd (aM (ag (fJ true) (v3 10) (v3 5))) zQ aI) (ah (aq 11 (ab xp [v3 9,ag af (v3 5) (v3 10)])) (bd (lw (aM (ag (fJ true) (v3 8) (v3 5))) (i3 (aM (ab xl [ag af (v3 5) (v3 8),v3 11])))) (ah (kK (v3 11) (v3 5) (v3 8)) (aq 7 (c3 (.bl true)))) aI)) D
   [a,b,c,e,p4,some (.ref d),x6,some (.bl y7),some (.int i),some (cf m),some (.int j),Mr] S:=by
 refine aj fun N' hN'=>?_
 simp only[bd,aM,ag,v3,lk,fJ,hd,UO]
 cases h1:(kvs.any fun x=>decide (x.1=Sum.inl j))with
 |false=>
  simp only[UD,Ua,zQ]
  exact(k y7 Mr S kvs hd g .refl).2
 |true=>
  simp only[UT,Tu,Ub,aI]
  refine hN' _ _ (aj fun N' hN'=>?_)
  obtain⟨n,en⟩:=GD.val g.ok h1
  simp only[aq,ab,ak,ag,af,v3,lk,hd,i5,en,List.set_cons_zero,List.set_cons_succ]
  refine HX (hN' _ _ ?_)
  have store:ah (kK (v3 11) (v3 5) (v3 8)) (aq 7 (c3 (.bl true))) D [a,b,c,e,p4,some (.ref d),x6,some (.bl y7),some (.int i),some (cf m),some (.int j),some (cf (m+n))] S:=by
   refine aj fun N' hN'=>?_
   have gl:=g.len
   simp only[kK,v3,lk,jv,hd,i5]
   refine⟨TU (show kvs.length < 1000 by omega) (by decide),hN' _ _ ?_⟩
   simp only[aq,c3,List.set_cons_zero,List.set_cons_succ]
   exact(k true _ _ _ aa (g.put ti) .upd).1
  simp only[bd,lw,i3,aM,ag,v3,lk,fJ,hd,UO]
  cases h2:(kvs.any fun x=>decide (x.1=Sum.inl i))with
  |false=>
   simp only[UD,Ua]
   exact store
  |true=>
   obtain⟨l,el⟩:=GD.val g.ok h2
   simp only[UT,Tu,Ub,ab,ak,ag,af,v3,lk,hd,i5,el]
   refine Kf ?_
   dsimp only
   cases decide (m+n<=l)with
   |false=>
    simp only[UD,Ua]
    exact store
   |true=>
    simp only[UT,Tu,Ub,aI]
    exact(k y7 _ S kvs hd g .refl).1
def yF(t:Bd)(q:Qs):b9 (t.L9 q) none (some (-1))=(t.mk q 0).map PV.int:=by
 rw[Di,ni,come,Uh,Te]
 simp
abbrev yG(w:au):Prop:=∀{S:az} {t:Bd} {js hs:Vs} {ds:List (Str×Bd)} {ws:Vu} {pr nm:Addr} {Q:bn} {E:bJ},t.good js []->(∀z∈t.Hn (mq hs),mq hs z=true)->t.size<=60->ws.length=js.length->l4 js->l4 hs->S nm=some (.lst (hs.map PV.str))->S pr=some (.lst t.Hr)->
  (∀v S',(v = .non\/∃l:List Int,v=cI l/\l.length=t.rows+1)->Ext S S'->Q v S')->w [cU js ds,.tup (ws.map cf),.ref pr,.ref nm] S Q E
def Lo{xt xa xp xl:au}(Kd:pW xt)(Jf:pZ xa)(HX:jk xp)(Kf:ng xl):yG (aR 12 (gx xt xa xp xl)):=by
 intro S t js hs ds ws pr nm Q E g hp hs1 hl hj hh hnm NL k
 unfold gx
 refine cJ ?_
 rw[show ap 12 [cU js ds,.tup (ws.map cf),.ref pr,.ref nm]=[some (cU js ds),some (.tup (ws.map cf)),some (.ref pr),some (.ref nm),none,none,none,none,none,none,none,none] from rfl]
 have hrs:=t.Hq
 have hcl:=iZ t
 refine aj fun N hN=>?_
 simp only[aq,ab,ak,v3,lk]
 refine Kd g hj hh (by omega) NL hnm fun p4 S1 f4 X1 _=>?_
 simp only[List.set_cons_zero,List.set_cons_succ]
 have NM:=X1 _ _ NL
 refine hN _ _ (aj fun N hN=>?_)
 simp only[aq,mF,jz,ag,al,ak,v3,lk,c3,aC]
 intro d hd
 have nd:S d=none:=X1.free hd
 have Q0:=Ext.new (o:=.dct []) hd _ _ NM
 simp only[bA,Q0,ci,dW,ow,i5,aa,XJ]
 have X2:Ext S1 (Hk (Hk S1 d (.dct [])) d (.dct (Ja [] [(Sum.inl ((t.Hr.length:Int) - 1),.tup [.int 0,.int 1])]))):=p7 hd (.new hd)
 have fd:(Hk (Hk S1 d (.dct [])) d (.dct (Ja [] [(Sum.inl ((t.Hr.length:Int) - 1),.tup [.int 0,.int 1])]))) d=some (.dct [(Sum.inl (t.rows:Int),cf 0)]):=by
  rw[aa,dY,show(t.Hr.length:Int) - 1=t.rows by omega]
  rfl
 generalize Hk (Hk S1 d (.dct [])) d (.dct (Ja [] [(Sum.inl ((t.Hr.length:Int) - 1),.tup [.int 0,.int 1])]))=S2 at X2 fd
 have SS:GD t.rows [((Sum.inl (t.rows:Int):bf),cf 0)]:=⟨by simp,fun x hx=>⟨t.rows,0,Tt.mp hx,by exact⟨by omega,by omega⟩⟩⟩
 have Ng:=X2 _ _ NM
 have OH:=X2 _ _ f4
 have Q1:=X1.trans X2
 simp only[List.set_cons_zero,List.set_cons_succ]
 have hdn:∀(a:Addr) vs,S2 a=some (.lst vs)->a≠d:=fun a vs h e=>by rw[e,fd]at h;cases h
 refine hN _ _ (aj fun N hN=>?_)
 simp only[b_,jy,ag,al,ak,v3,lk,c3,bA,Ng,aK]
 refine⟨by omega,by omega,?_⟩
 refine bP (fun done σ S'=>JJ d S2 S'/\∃x6 x7 x8 x9 Ot Mr kvs,σ=[some (cU js ds),some (.tup (ws.map cf)),some (.ref pr),some (.ref nm),some (.ref p4),some (.ref d),x6,x7,x8,x9,Ot,Mr]/\S' d=some (.dct kvs)/\GD t.rows kvs) ⟨.refl,_,_,_,_,_,_,_,rfl,fd,SS⟩ (fun _ _ _ _=>trivial) ?_ ?_
 ·rintro done x rest σ S3 K e ⟨X3,x6,x7,x8,x9,Ot,Mr,kvs,rfl,RI,g3⟩ hK
  simp only[Tg.put,List.set_cons_zero,List.set_cons_succ]
  refine aj fun N2 Lg=>?_
  simp only[aq,c3,List.set_cons_zero,List.set_cons_succ]
  refine Lg _ _ (aj fun N2 Lg=>?_)
  simp only[b_,xJ,aY,v3,lk,jq,i6,fx,bG,c3,jr,X3 _ _ OH (hdn _ _ OH)]
  intro ps hps
  rw[yF]
  have X4:Ext S3 (Hk S3 ps (.lst ((t.mk (mq hs) 0).map PV.int))):=.new hps
  have fs:(Hk S3 ps (.lst ((t.mk (mq hs) 0).map PV.int))) ps=some (.lst ((t.mk (mq hs) 0).map PV.int)):=aa
  generalize Hk S3 ps (.lst ((t.mk (mq hs) 0).map PV.int))=S4 at X4 fs
  rw[fs]
  dsimp only
  have RJ:=X4 _ _ RI
  have ST:ps≠d:=fun e=>by rw[e,RJ]at fs;cases fs
  have Pm:JJ d S2 S4:=X3.trans (p_ X4)
  refine bP (fun done σ S'=>JJ d S4 S'/\∃y7 x8 x9 Ot Mr kvs,σ=[some (cU js ds),some (.tup (ws.map cf)),some (.ref pr),some (.ref nm),some (.ref p4),some (.ref d),some x,some (.bl y7),x8,x9,Ot,Mr]/\S' d=some (.dct kvs)/\GD t.rows kvs) ⟨.refl,_,_,_,_,_,_,rfl,RJ,g3⟩ (fun done σ S' h=>h.1 _ _ fs ST) ?_ ?_
  ·rintro Je x2 NU σ S5 K2 e2 ⟨X5,y7,SU,Q2,Ou,Ov,Pn,rfl,PY,g5⟩ Pb
   obtain⟨i,hi',rfl⟩:∃i,i∈t.mk (mq hs) 0/\PV.int i=x2:=by
    have:x2∈((t.mk (mq hs) 0).map PV.int).reverse:=by rw[e2];simp
    exact Ue.mp (List.mem_reverse.mp this)
   obtain⟨r,er,ro⟩:=oE g hp hi'
   have NN:=Pm.trans X5
   have Q4:=NN _ _ Ng (hdn _ _ Ng)
   have Po:=Q1 _ _ hnm
   have Q5:=NN _ _ Po (hdn _ _ Po)
   simp only[Tg.put,List.set_cons_zero,List.set_cons_succ,b_,aF,ab,ak,ag,af,v3,lk,Q4,er]
   refine Jf ro hl hj hh Q5 fun pa S6 fa X6=>?_
   simp only[bu,fa]
   have RK:=X6 _ _ PY
   have SV:pa≠d:=fun e=>by rw[e,RK]at fa;cases fa
   have ti:to t.rows i:=by have:=t.Hw (mq hs) 0 i hi';exact⟨by omega,by omega⟩
   refine bP (fun done σ S'=>JJ d S6 S'/\∃y7 x9 Ot Mr kvs,σ=[some (cU js ds),some (.tup (ws.map cf)),some (.ref pr),some (.ref nm),some (.ref p4),some (.ref d),some x,some (.bl y7),some (.int i),x9,Ot,Mr]/\S' d=some (.dct kvs)/\GD t.rows kvs) ⟨.refl,_,_,_,_,_,rfl,RK,g5⟩ (fun done σ S' h=>h.1 _ _ fa SV) ?_ ?_
   ·rintro RL x3 RM σ S7 K3 e3 ⟨X7,RN,Q2,Ou,Ov,Pp,rfl,Q6,g7⟩ RO
    obtain⟨a,ha,rfl⟩:∃a,a∈r.asks (mq hs) (wt js ws)/\Dr a=x3:=by
     have:x3∈((r.asks (mq hs) (wt js ws)).map Dr):=by rw[e3];simp
     exact Ue.mp this
    simp only[Dr,Tg.put,Tg.Hn,List.set_cons_zero,List.set_cons_succ]
    refine yE HX Kf (show t.rows<=100 by omega) Q6 g7 ti fun y7 Mr S8 Pq RP g8 X8=>?_
    exact⟨RO _ _ ⟨X7.trans X8,y7,_,_,Mr,Pq,rfl,RP,g8⟩,RO _ _ ⟨X7.trans X8,y7,_,_,Mr,Pq,rfl,RP,g8⟩⟩
   ·rintro σ S7 ⟨X7,RN,Q2,Ou,Ov,Pp,rfl,Q6,g7⟩
    exact Pb _ _ ⟨(X5.trans (p_ X6)).trans X7,RN,_,_,_,_,Pp,rfl,Q6,g7⟩
  ·rintro σ S5 ⟨X5,y7,SU,Q2,Ou,Ov,Pn,rfl,PY,g5⟩
   refine Lg _ _ ?_
   simp only[bd,i3,aM,v3,lk]
   have NN:=Pm.trans X5
   cases y7 with
   |true=>
    simp only[UT,Tu,Ub,aI]
    exact hK _ _ ⟨NN,_,_,_,_,_,_,Pn,rfl,PY,g5⟩
   |false=>
    simp only[UD,Ua,ar,al,ak,aG,jy,v3,lk,bA,NN _ _ Ng (hdn _ _ Ng),cm,List.reduceReplicate,TQ,TZ,List.cons_append,List.nil_append]
    refine⟨by omega,by omega,?_⟩
    refine yD PY g5 (by omega) fun l NE p hp=>?_
    simp only[aP,i4,aa]
    refine k _ _ (.inr ⟨l,rfl,by omega⟩) (rF Q1 nd ?_)
    exact NN.trans (p_ (.new hp))
 ·rintro σ S3 ⟨X3,x6,x7,x8,x9,Ot,Mr,kvs,rfl,RI,g3⟩
  refine hN _ _ (b7 ?_)
  exact k _ _ (.inl rfl) (rF Q1 nd X3)
theorem eP{α:Type}{g:Tg}{te:aZ}{σ':cy}{keep:az->Prop}{fin:List PV->az->Prop}{d l:Addr}(enc:α->PV)(R:α->PV->Prop){S0:az}(hk:∀S,Hu S d l->Ij d l S0 S->keep S):∀(xs:List α) (ys:List PV) (S:az),Hu S d l->Ij d l S0 S->ys.length+xs.length<=1000->
  (∀x∈xs,∀S,Hu S d l->Ij d l S0 S->∃σ2,g.put (enc x) σ'=some σ2/\∀K:bn,(∀v S',R x v->Hu S' d l->Ij d l S S'->K v S')->te σ2 S K fK)->
  (∀vs S',vs.length=xs.length->(∀(k:Nat) x v,xs[k]?=some x->vs[k]?=some v->R x v)->Hu S' d l->Ij d l S0 S'->fin (ys++vs) S')->bY g bx te σ' keep fin (xs.map enc) ys S
 |[],ys,S,D,O,hl,_,hf=>⟨hk S D O,bB (by simpa using hl),by simpa using hf [] S rfl (by simp) D O⟩
 |x::r,ys,S,D,O,hl,h,hf=>by
  obtain⟨σ2,e,h1⟩:=h x (by simp) S D O
  refine⟨hk S D O,bB (by simp at hl ⊢;omega),?_⟩
  rw[e]
  simp only[bx,Ua]
  refine h1 _ fun v S' hv D' O'=>?_
  refine eP enc R hk r (ys++[v]) S' D' (O.trans O') (by simp at hl ⊢;omega) (fun y hy=>h y (by simp[hy])) fun vs S2 hlen ha D2 O2=>?_
  have:=hf (v::vs) S2 (by simp[hlen]) (fun k y u h1 h2=>?_) D2 O2
  ·simpa using this
  ·cases k with
   |zero=>cases h1;cases h2;exact hv
   |succ k=>exact ha k y u h1 h2
theorem sZ{β:Type}{f:β->PV}:∀{vs:List PV},(∀v∈vs,∃n,v=f n)->∃ns:List β,vs=ns.map f
 |[],_=>⟨[],rfl⟩
 |v::r,h=>by
  obtain⟨n,e⟩:=h v (by simp)
  obtain⟨ns,e2⟩:=sZ (f:=f) (vs:=r) fun x hx=>h x (by simp[hx])
  exact⟨n::ns,by rw[e,e2];rfl⟩
def ul{α β:Type}{f:β->PV}{xs:List α}{vs:List PV}{P:α->β->Prop}(hl:vs.length=xs.length)(h:∀(k:Nat) x v,xs[k]?=some x->vs[k]?=some v->∃n,v=f n/\P x n):∃ns:List β,vs=ns.map f:=by
 refine sZ fun v hv=>?_
 obtain⟨k,hk,e⟩:=U7.mp hv
 obtain⟨n,h1,_⟩:=h k (xs[k]'(by omega)) v (Tp _) (by rw[Tp hk,e])
 exact⟨n,h1⟩
def qd{r b:Int}(h1:1<=b)(h9:b<=9):(.tup [.int (M3.br r b),.int (M3.aT r b)]:PV)=cf (r * (2520 / b)):=by
 have hy:b=1\/b=2\/b=3\/b=4\/b=5\/b=6\/b=7\/b=8\/b=9:=by omega
 have e:2520 / b * b=2520:=by rcases hy with rfl|rfl|rfl|rfl|rfl|rfl|rfl|rfl|rfl<;>decide
 have w:=M3.iG (t:=r) (b:=b) (by omega)
 have u:=M3.cY (M3.jV (t:=r) (b:=b) (by omega)) (x:=r * (2520 / b)) (y:=2520) (by decide) (by
  calc r * (2520 / b) * M3.aT r b=(r * M3.aT r b) * (2520 / b):=by rw[Xx]
   _=M3.br r b * (2520 / b * b):=by rw[<-w,XG,W4 b]
   _=_:=by rw[e])
 unfold cf
 rw[u.1,u.2]
abbrev kq(w:au):Prop:=∀{S:az} {d l:Addr} {Q:bn} {E:bJ},Hu S d l->(∀n S',Hu S' d l->Ij d l S S'->Q (cf n) S')->w [.ref d,.int 9000] S Q E
def vK{xd xl:au}(Hm:bH xd)(J8:iB xl):kq (aR 3 (gB xd xl)):=by
 intro S d l Q E D k
 unfold gB
 refine cJ ?_
 rw[show ap 3 [PV.ref d,.int 9000]=[some (.ref d),some (.int 9000),none] from rfl]
 refine aj fun N hN=>?_
 simp only[aq,ab,ak,v3,lk,c3,List.set_cons_zero,List.set_cons_succ]
 refine Hm D (by decide) (by decide) fun r S1 r0 r1 D1 O1=>hN _ _ (aj fun N hN=>?_)
 simp only[bd,aM,ag,v3,lk,c3,bq,Tz]
 by_cases h0:r=0
 ·rw[TN h0]
  simp only[Ua,ar,aC,ak,c3]
  rw[dY]
  exact k _ _ D1 O1
 rw[Tw h0]
 simp only[Tu,Ub,aI]
 refine hN _ _ (aj fun N hN=>?_)
 simp only[bd,aM,ag,v3,lk,c3,bq,Tz]
 by_cases h4:r=4
 ·rw[TN h4]
  simp only[Ua,ar,ab,ak,ag,v3,lk,c3,bX,aK]
  refine⟨pD (by decide) (by decide),Hm D1 (by decide) (by decide) fun n S2 _ _ D2 O2=>J8 (by decide) (by decide) ?_⟩
  exact k n _ D2 (O1.trans O2)
 rw[Tw h4]
 simp only[Tu,Ub,aI]
 refine hN _ _ (b7 ?_)
 simp only[ab,ak,ag,bb,v3,lk,c3,ci,dW]
 intro p1 hp1
 simp only[af,aa]
 obtain⟨v,hv,MN⟩:=dX (xs:=[PV.int 4,.int 20,.int 2000]) (r:=r - 1) (by omega) (by simp;omega)
 rw[hv]
 obtain⟨m,rfl,m1,m2⟩:∃m:Int,v = .int m/\0 < m/\m < 2 ^ 62:=by
  simp only[Th,TJ,Uq]at MN
  rcases MN with rfl|rfl|rfl<;>exact⟨_,rfl,by decide,by decide⟩
 dsimp only
 refine Hm (D1.new hp1) m1 m2 fun n S2 _ _ D2 O2=>Hm D2 (by decide) (by decide) fun j S3 j0 j1 D3 O3 p4 Lv=>?_
 simp only[gK,gX,aa]
 refine⟨⟨by decide,kT (by decide)⟩,?_⟩
 obtain⟨v,hv,MN⟩:=dX (xs:=[PV.int 1,.int (1+j)]) (r:=r.fdiv 2) (by rw[Wl _ (by decide)];omega) (by rw[Wl _ (by decide)];simp;omega)
 rw[hv]
 obtain⟨b,rfl,b1,b2⟩:∃b:Int,v = .int b/\1<=b/\b<=9:=by
  simp only[Th,TJ,Uq]at MN
  rcases MN with rfl|rfl
  ·exact⟨_,rfl,by decide,by decide⟩
  ·exact⟨_,rfl,by omega,by omega⟩
 refine J8 (by omega) (by omega) ?_
 rw[qd b1 b2]
 exact k _ _ (D3.new Lv) (O1.trans ((Ij.new hp1).trans (O2.trans (O3.trans (.new Lv)))))
abbrev um(w:au):Prop:=∀{S:az} {d l:Addr} {Q:bn} {E:bJ},Hu S d l->(∀n S',Hu S' d l->Ij d l S S'->Q (cf n) S')->w [.ref d] S Q E
def AG{xd xl:au}(Hm:bH xd)(J8:iB xl):um (aR 1 (jN xl xd)):=by
 intro S d l Q E D k
 unfold jN
 refine cJ ?_
 rw[show ap 1 [PV.ref d]=[some (.ref d)] from rfl]
 refine b7 ?_
 simp only[ab,ak,ag,v3,lk,c3,ci,dW,aK]
 refine Hm D (by decide) (by decide) fun r S1 r0 r1 D1 O1=>Hm D1 (by decide) (by decide) fun b S2 b0 b1 D2 O2=>J8 (by omega) (by omega) ?_
 rw[qd (by omega) (by omega)]
 exact k _ _ D2 (O1.trans O2)
abbrev rG(w:au):Prop:=∀{S:az} {d l:Addr} {ns:Vu} {Q:bn} {E:bJ},Hu S d l->ns.length<=1000->(∀ms S',ms.length=ns.length->Hu S' d l->Ij d l S S'->Q (cI ms) S')->w [.ref d,cI ns] S Q E
def s9{xw xp:au}(Kg:kq xw)(HX:jk xp):rG (aR 3 (fu xw xp)):=by
 intro S d l ns Q E D hl k
 unfold fu
 refine cJ ?_
 rw[show ap 3 [PV.ref d,cI ns]=[some (.ref d),some (.tup (ns.map cf)),none] from rfl]
 refine aj fun N hN=>?_
 simp only[aq,ab,ak,v3,lk,c3,List.set_cons_zero,List.set_cons_succ]
 refine Kg D fun n S1 D1 O1=>hN _ _ (b7 ?_)
 simp only[al,ak,aG,aF,v3,lk,bu,cm,List.reduceReplicate,TQ,TZ,List.cons_append,List.nil_append]
 refine di (α:=Int) (S:=S1) (keep:=fun _=>True) cf (fun x=>cf (x+n)) trivial ns [] (fun x _=>⟨_,rfl,fun Q q=>?_⟩) (bB (by simpa using hl)) ?_
 ·simp only[ab,ak,v3,lk,List.set_cons_zero,List.set_cons_succ]
  exact HX q
 intro p hp
 simp only[aP,i4,aa,List.nil_append]
 have:=k (ns.map (·+n)) _ (by simp) (D1.new (o:=.lst (ns.map fun x=>cf (x+n))) hp) (O1.trans (.new hp))
 unfold cI at this
 rw[UP]at this
 exact this
abbrev Bw(w:au):Prop:=∀{S:az} {xs:List PV} {n:Nat} {v:PV} {Q:bn} {E:bJ},n < xs.length->xs.length<=900->Q (.tup (xs.take n++v::xs.drop (n+1))) S->w [.tup xs,.int n,v] S Q E
def AH:Bw (aR 3 jO):=by
 intro S xs n v Q E h hl k
 unfold jO
 refine cJ ?_
 rw[show ap 3 [PV.tup xs,.int n,v]=[some (.tup xs),some (.int n),some v] from rfl]
 refine b7 ?_
 simp only[ag,aY,v3,lk,jq,i6,jr,aC,ak,aK,c3]
 have e1:b9 xs none (some (n:Int))=xs.take n:=sI (by omega)
 have e2:b9 xs (some ((n:Int)+1)) none=xs.drop (n+1):=by
  unfold b9
  have:((n:Int)+1)=((n+1:Nat):Int):=by omega
  rw[this,HT.jR,HT.oK,Nat.min_eq_left (by omega),Vd (by rw[Vh];omega)]
 rw[e1,e2]
 refine⟨bB (by simp;omega),bB (by simp;omega),?_⟩
 simpa using k
def yH(S:az)(n:Int):∃d,Dat S (cf n) d/\d.canLay0=true:=⟨_,.tup (.cons (.int _) (.cons (.int _) .nil)),rfl⟩
def AI(S:az)(l:Vu):∃d,Dat S (cI l) d/\d.canLay0=true:=by
 obtain⟨ds,h1,h2,_⟩:=kn (S:=S) (l.map cf) fun v hv=>by
  obtain⟨n,_,rfl⟩:=Ue.mp hv
  exact yH S n
 exact⟨_,.tup h1,h2⟩
theorem rH{S:az}:∀{vs:List PV} {ds:List PyData},J5 S vs ds->PV.non∈vs->gG .none ds=true
 |_,_,.nil,h=>by cases h
 |_,_,.cons a r,h=>by
  unfold gG
  rw[VW,Bool.or_eq_true]
  rcases Th.mp h with h|h
  ·subst h;cases a;exact .inl rfl
  ·exact .inr (rH r h)
def Ds{S:az}{a:Addr}{vs:List PV}{Q:bn}(ha:S a=some (.lst vs))(h:∀v∈vs,v = .non\/∃l,v=cI l)(k:∀b,(b=false->∀v∈vs,v ≠ .non)->Q (.bl b) S):fJ false .non (.ref a) S Q:=by
 obtain⟨ds,h1,h2,_⟩:=kn (S:=S) vs fun v hv=>by
  rcases h v hv with rfl|⟨l,rfl⟩
  ·exact⟨.none,.non,rfl⟩
  ·exact AI S l
 simp only[fJ,ha]
 refine⟨.none,ds,.non,h1,rfl,h2,by simp[PyData.depth],k _ fun hb v hv e=>?_⟩
 subst e
 rw[rH h1 hv]at hb
 cases hb
def l6{neg:Bool}{S:az}{vs:List PV}{Q:bn}(h:∀v∈vs,∃d,Dat S v d/\d.canLay0=true)(q:Q (.bl (neg != vs.isEmpty)) S):bq neg (.tup vs) (.tup []) S Q:=by
 obtain⟨ds,g1,g2,g3⟩:=kn vs h
 refine⟨.tuple ds,.tuple [],.tup g1,.tup .nil,g2,rfl,TR (XI _ _) (by decide),?_⟩
 have e:(PyData.tuple ds).eqv (.tuple [])=vs.isEmpty:=by
  cases ds with
  |nil=>cases vs with
   |nil=>rfl
   |cons _ _=>simp at g3
  |cons d r=>cases vs with
   |nil=>simp at g3
   |cons _ _=>rfl
 rw[e]
 exact q
abbrev qe(w:au):Prop:=∀{S:az} {js:Vs} {ds:List (Str×Bd)} {ws:Vu} {Q:bn} {E:bJ},HG js ds->ws.length=js.length->(∀v S',(v = .non\/∃ls:List (List Int),v=i8 ws ls/\ls.length=ds.length/\∀x∈ls,x.length<=61)->Ext S S'->Q v S')->w [cU js ds,.tup (ws.map cf)] S Q E
def vL{xf xl xc:au}(JK:iR xf)(Lo:yG xl)(HU:iX 6 xc):qe (aR 4 (gy xf xl xc)):=by
 intro S js ds ws Q E hg hw k
 unfold gy
 refine cJ ?_
 rw[show ap 4 [cU js ds,.tup (ws.map cf)]=[some (cU js ds),some (.tup (ws.map cf)),none,none] from rfl]
 have dl:=hg.dl
 refine aj fun N hN=>?_
 simp only[aq,ab,ak,v3,lk,List.set_cons_zero,List.set_cons_succ]
 refine JK hg fun p2 S1 hp2 X1 f2=>hN _ _ (aj fun N hN=>?_)
 have hh:l4 (held ds js.length):=fun z hz=>hg.jw z (pK hg _ z hz)
 simp only[aq,aG,aF,ag,v3,lk,c3,cU,af,fy,bu,cm,List.reduceReplicate,TQ,TZ,List.cons_append,List.nil_append]
 refine iY (S0:=S1) iM (fun p v _=>v = .non\/∃l:List Int,v=cI l/\l.length=p.2.rows+1) (fun _ _ _ _ h _=>h) (fun _ _=>trivial) ds [] S1 .refl (by simp;omega) (fun p hp S4 X4=>⟨_,rfl,fun K kk=>?_⟩) fun vs S4 hvl hv X4 p3 hp3=>?_
 ·simp only[ab,ak,ag,v3,lk,c3,af,iM,fy,List.set_cons_zero]
  have hsz:=hg.sz p hp
  refine HU (hg.dp p hp) (hg.gd p hp) hg.jw (by omega) fun q S5 n5 h5 X5=>?_
  exact Lo (hg.gd p hp) (fun z hz=>Bv hg hp hz) hsz hw hg.jw hh (X5 _ _ (X4 _ _ f2)) h5 fun v S6 hv X6=>kk v S6 hv (X5.trans X6)
 rw[T7]
 have f3:(Hk S4 p3 (.lst vs)) p3=some (.lst vs):=aa
 have X5:=X1.trans (X4.trans (Ext.new (o:=.lst vs) hp3))
 generalize Hk S4 p3 (.lst vs)=S5 at X5 f3
 have hv':∀v∈vs,v = .non\/∃l:List Int,v=cI l/\l.length<=61:=fun v hv2=>by
  obtain⟨n,hn,e⟩:=U7.mp hv2
  have h1:ds[n]?=some (ds[n]'(by omega)):=Tp _
  rcases hv n _ v h1 (by rw[Tp hn,e])with h|⟨l,e1,e2⟩
  ·exact .inl h
  ·have:=hg.sz _ (T9 h1)
   have:=(ds[n]'(by omega)).2.Hq
   exact .inr ⟨l,e1,by omega⟩
 simp only[List.set_cons_zero,List.set_cons_succ]
 refine hN _ _ (aj fun N hN=>?_)
 simp only[bd,aM,ag,c3,v3,lk]
 refine Ds f3 (fun v h=>(hv' v h).imp id fun⟨l,e,_⟩=>⟨l,e⟩) fun b hb=>?_
 cases b with
 |true=>
  simp only[Ua,ar,c3]
  exact k _ _ (.inl rfl) X5
 |false=>
  simp only[Tu,Ub,aI]
  refine hN _ _ (b7 ?_)
  simp only[aC,ak,al,v3,lk,aP,i4,f3]
  obtain⟨ls,rfl⟩:=sZ (f:=cI) (vs:=vs) fun v h=>by
   rcases hv' v h with e|⟨l,e,_⟩
   ·exact(hb rfl v h e).elim
   ·exact⟨l,e⟩
  refine k _ _ (.inr ⟨ls,rfl,by simpa using hvl,fun x hx=>?_⟩) X5
  rcases hv' (cI x) (List.mem_map_of_mem hx)with e|⟨l,e,h⟩
  ·cases e
  ·have:x.map cf=l.map cf:=by simpa [cI]using e
   have:=Uu List.length this
   simp at this
   omega
abbrev qf(w:au):Prop:=∀{S:az} {d l:Addr} {js:Vs} {ds:List (Str×Bd)} {Q:bn} {E:bJ},Hu S d l->HG js ds->(∀ws ls S',ws.length=js.length->ls.length=ds.length->(∀x∈ls,x.length<=61)->Hu S' d l->Ij d l S S'->Q (i8 ws ls) S')->w [.ref d,cU js ds] S Q E
def uo{d l:Addr}{S S':az}(X:Ext S S'):Ij d l S S':=fun a o h _ _=>X a o h
def vM{xw xp xd xc xa xr:au}(Kg:kq xw)(Ke:qe xp)(Hm:bH xd)(HU:iX 6 xc)(L8:um xa)(MS:rG xr):qf (aR 5 (gD xw xp xd xc xa xr)):=by
 intro S d l js ds Q E D hg k
 unfold gD
 refine cJ ?_
 rw[show ap 5 [.ref d,cU js ds]=[some (.ref d),some (cU js ds),none,none,none] from rfl]
 have dl:=hg.dl
 have jl:=hg.jl
 refine aj fun N hN=>?_
 simp only[aq,al,ak,aG,aF,ag,v3,lk,c3,cU,af,eU,bu,cm,List.reduceReplicate,TQ,TZ,List.cons_append,List.nil_append]
 refine eP (S0:=S) PV.str (fun _ v=>∃n,v=cf n/\True) (fun _ _ _=>trivial) js [] S D .refl (by simp;omega) (fun z hz S1 D1 O1=>⟨_,rfl,fun K kk=>?_⟩) fun vs S1 hvl hv D1 O1 p1 hp1=>?_
 ·simp only[ab,ak,v3,lk,c3,List.set_cons_zero]
  exact Kg D1 fun n S2 D2 O2=>kk _ _ ⟨n,rfl,trivial⟩ D2 O2
 obtain⟨ws,rfl⟩:=ul hvl hv
 rw[Ti]at hvl
 simp only[aP,i4,aa,List.nil_append,List.set_cons_zero,List.set_cons_succ]
 have D2:=D1.new (o:=.lst (ws.map cf)) hp1
 have O2:=O1.trans (Ij.new (o:=.lst (ws.map cf)) hp1)
 generalize Hk S1 p1 (.lst (ws.map cf))=S2 at D2 O2
 refine hN _ _ (aj fun N hN=>?_)
 simp only[aq,ab,ak,v3,lk,List.set_cons_zero,List.set_cons_succ]
 refine Ke (js:=js) (ds:=ds) hg hvl fun v S3 Qy X3=>hN _ _ ?_
 have D3:=D2.ext X3
 have O3:=O2.trans (uo X3)
 have Nh:∀(σ4:Option PV) (S4:az) (D':jW),D'.rt=Q->D'.ex=fK->Hu S4 d l->Ij d l S S4->ah (aq 4 (aG (aF (ag af (v3 1) (c3 (.int 1)))) (.n 0) bx (ab xc [ag af (v3 0) (c3 (.int 1))]) 1 [])) (ar (aC [v3 2,al aP [aG (aF (v3 4)) (.n 0) bx (al aP [aG (aF (v3 0)) (.n 0) bx (ab xa [v3 1]) 1 [1]]) 1 [0]]])) D' [some (.ref d),some (.tup [.tup (js.map PV.str),.tup (ds.map iM)]),some (.tup (ws.map cf)),σ4,none] S4:=by
  intro σ4 S4 D' eq1 eq2 D4 O4
  refine aj fun N hN=>?_
  simp only[aq,aG,aF,ag,v3,lk,c3,af,fy,bu,cm,List.reduceReplicate,TZ,TY]
  refine lM HU hg (fun _ _=>trivial) fun vs S5 hc X5 p4 Lv=>?_
  have f4:(Hk S5 p4 (.lst vs)) p4=some (.lst vs):=aa
  have X6:=X5.trans (Ext.new (o:=.lst vs) Lv)
  have hc6:=hc.mono (Ext.new (o:=.lst vs) Lv)
  have n4:=X5.free Lv
  generalize Hk S5 p4 (.lst vs)=S6 at X6 f4 hc6
  have D6:=D4.ext X6
  have RQ:=D4.free n4
  simp only[List.set_cons_zero,List.set_cons_succ]
  refine hN _ _ (b7 ?_)
  rw[eq1,eq2]
  simp only[aC,ak,v3,lk,al,aG,aF,bu,f4,cm,List.reduceReplicate,TQ,TZ,List.cons_append,List.nil_append]
  have hl:=hc.1
  have RS:(fun S':az=>S' p4=some (.lst vs))=fun S':az=>S' p4=some (.lst vs):=rfl
  have ev:vs=(ds.zip vs).map Prod.snd:=by rw[XN (by omega)]
  generalize hit:(fun S':az=>S' p4=some (.lst vs))=keep
  have hk:∀S',Hu S' d l->Ij d l S6 S'->keep S':=fun S' _ O=>by rw[<-hit];exact O _ _ f4 RQ.1 RQ.2
  rw[ev]
  refine eP (S0:=S6) Prod.snd (fun z v=>∃x:List Int,v=cI x/\x.length<=61) hk (ds.zip vs) [] S6 D6 .refl (by rw[Wa];simp;omega) (fun z hz S7 D7 O7=>⟨_,rfl,fun K kk=>?_⟩) fun us S7 Pr hu D7 O7 p8 hp8=>?_
  ·obtain⟨a,e1,e2,e3⟩:=hc6.mem hz
   have na:=D4.free e3
   have e7:=O7 _ _ e2 na.1 na.2
   have SW:=(V9 hz).1
   have:=hg.sz _ SW
   have:=z.1.2.Hq
   have:=iZ z.1.2
   simp only[al,ak,aG,aF,v3,lk,List.set_cons_zero,e1,bu,e7,cm,List.reduceReplicate,TQ,TZ,List.cons_append,List.nil_append]
   have ek:∀S',Hu S' d l->Ij d l S7 S'->S' a=some (.lst z.1.2.Hr):=fun S' _ O=>O _ _ e7 na.1 na.2
   have:=eP (g:=.n 0) (te:=ab xa [v3 1]) (σ':=[none,some (PV.ref d)]) (keep:=fun S'=>S' a=some (.lst z.1.2.Hr)) (fin:=fun ys S2=>∀p,S2 p=none->aP [.ref p] (Hk S2 p (.lst ys)) K) (S0:=S7) id (fun _ v=>∃n,v=cf n/\True) ek z.1.2.Hr [] S7 D7 .refl (by simp;omega) (fun y hy S8 D8 O8=>⟨_,rfl,fun K kk=>?_⟩) fun ts S8 OU ht D8 O8 p9 hp9=>?_
   ·rw[List.map_id]at this;exact this
   ·simp only[ab,ak,v3,lk,List.set_cons_zero,List.set_cons_succ]
    exact L8 D8 fun n S9 D9 O9=>kk _ _ ⟨n,rfl,trivial⟩ D9 O9
   ·obtain⟨ns,rfl⟩:=ul OU ht
    rw[Ti]at OU
    simp only[aP,i4,aa,List.nil_append]
    exact kk (cI ns) _ ⟨ns,rfl,by omega⟩ (D8.new hp9) (O8.trans (.new hp9))
  ·obtain⟨ls,rfl⟩:=ul Pr hu
   rw[Ti,Wa]at Pr
   simp only[aP,i4,aa,List.nil_append]
   refine k ws ls _ hvl (by omega) (fun x hx=>?_) (D7.new hp8) (O4.trans ((uo X6).trans (O7.trans (.new hp8))))
   obtain⟨n,hn,e⟩:=U7.mp hx
   obtain⟨y,e1,e2⟩:=hu n ((ds.zip vs)[n]'(by rw[Wa];omega)) (cI x) (Tp _) (by rw[Tv,Tp hn,e];rfl)
   have:x.map cf=y.map cf:=by simpa [cI]using e1
   have:=Uu List.length this
   simp at this
   omega
 rcases Qy with rfl|⟨ls,rfl,NE,hlx⟩
 ·refine aj fun N hN=>?_
  simp only[bd,lw,aM,ag,v3,lk,c3,uY,Tz,Ua]
  exact Nh _ S3 _ rfl rfl D3 O3
 ·refine aj fun N hN=>?_
  simp only[bd,lw,aM,ag,v3,lk,c3,i8,uY,Tz,Tu,Ub,ab,ak]
  refine Hm D3 (by decide) (by decide) fun r S4 _ _ D4 O4=>?_
  simp only[bq,Tz]
  by_cases hr:r=0
  ·rw[TN hr]
   simp only[Ua]
   exact Nh _ S4 _ rfl rfl D4 (O3.trans O4)
  rw[Tw hr]
  simp only[Tu,Ub,aI]
  refine hN _ _ (aj fun N hN=>?_)
  simp only[bd,aM,ag,v3,lk,c3,ab,ak]
  refine Hm D4 (by decide) (by decide) fun r2 S5 _ _ D5 O5=>?_
  simp only[bq,Tz]
  have RT:=O3.trans (O4.trans O5)
  by_cases hr2:r2=0
  ·rw[TN hr2]
   simp only[Ua,ar,v3,lk]
   exact k ws ls _ hvl NE hlx D5 RT
  rw[Tw hr2]
  simp only[Tu,Ub,aI]
  refine hN _ _ (b7 ?_)
  simp only[aC,ak,v3,lk,al,aG,aF,ag,af,c3,fy,bu,cm,List.reduceReplicate,TQ,TZ,List.cons_append,List.nil_append]
  refine eP (S0:=S5) cI (fun y v=>∃x:List Int,v=cI x/\x.length<=61) (fun _ _ _=>trivial) ls [] S5 D5 .refl (by simp;omega) (fun y hy S7 D7 O7=>⟨_,rfl,fun K kk=>?_⟩) fun us S7 Pr hu D7 O7 p8 hp8=>?_
  ·simp only[ab,ak,v3,lk,List.set_cons_zero,List.set_cons_succ]
   have:=hlx y hy
   exact MS D7 (by omega) fun ms S8 hm D8 O8=>kk _ _ ⟨ms,rfl,by omega⟩ D8 O8
  ·obtain⟨Ni,rfl⟩:=ul Pr hu
   rw[Ti]at Pr
   simp only[aP,i4,aa,List.nil_append]
   refine k ws Ni _ hvl (by omega) (fun x hx=>?_) (D7.new hp8) (RT.trans (O7.trans (.new hp8)))
   obtain⟨n,hn,e⟩:=U7.mp hx
   obtain⟨y,e1,e2⟩:=hu n (ls[n]'(by omega)) (cI x) (Tp _) (by rw[Tv,Tp hn,e];rfl)
   have:x.map cf=y.map cf:=by simpa [cI]using e1
   have:=Uu List.length this
   simp at this
   omega
structure PB (n:Nat) (ws:Vu) (ls:List (List Int)):Prop where
 w:ws.length<=50+n
 l:ls.length<=50+n
 x:∀x∈ls,x.length<=61+n
def PB.le{n m:Nat}{ws:Vu}{ls:List (List Int)}(h:PB n ws ls)(e:n<=m):PB m ws ls:=⟨by have:=h.w;omega,by have:=h.l;omega,fun x hx=>by have:=h.x x hx;omega⟩
def kr{α:Type}(f:α->PV)(xs:List α)(k:Nat)(y:α):(xs.map f).take k++f y::(xs.map f).drop (k+1)=(xs.take k++y::xs.drop (k+1)).map f:=by
 simp
def qg{α:Type}(xs:List α){k:Nat}(h:k < xs.length)(y:α):(xs.take k++y::xs.drop (k+1)).length=xs.length:=by
 simp;omega
def PB.set{n k:Nat}{ws:Vu}{ls:List (List Int)}(h:PB n ws ls)(hk:k < ls.length){x:Vu}(hx:x.length<=62+n):PB (n+1) ws (ls.take k++x::ls.drop (k+1)):=by
 refine⟨by have:=h.w;omega,by rw[qg _ hk];have:=h.l;omega,fun y hy=>?_⟩
 rcases Tj.mp hy with hy|hy
 ·have:=h.x y (VT hy);omega
 ·rcases Th.mp hy with rfl|hy
  ·omega
  ·have:=h.x y (Wi hy);omega
def Ft{b:Int}(h1:1<=b)(h9:b<=9):(.tup [.int (-1),.int b]:PV)=cf (-1 * (2520 / b)):=by
 have:=qd (r:=-1) h1 h9
 have L:M3.DF (-1) b:=⟨by omega,by rw[Int.neg_gcd];exact Int.one_gcd⟩
 have e:=M3.wJ L
 rw[e.1,e.2]at this
 exact this
def Dt{α:Type}{xs:List α}{r:Int}(h0:0<=r)(h1:r < xs.length):∃(k:Nat) (h:k < xs.length),r=k/\xs[k]?=some xs[k]:=⟨r.toNat,by omega,by omega,Tp _⟩
def s_{α:Type}(xs:List α):b9 xs (some 1) none=xs.drop 1:=by
 cases xs with
 |nil=>rfl
 |cons a r=>
  unfold b9
  rw[HT.jR,show(1:Int)=((1:Nat):Int)from rfl,HT.oK,Nat.min_eq_left (by simp)]
  simp
abbrev li(w:au):Prop:=∀{S:az} {d l:Addr} {n:Nat} {ws:Vu} {ls:List (List Int)} {Q:bn} {E:bJ},n<=10->Hu S d l->PB n ws ls->0 < ls.length->(∀ws' ls' S',PB (n+1) ws' ls'->Hu S' d l->Ij d l S S'->Q (i8 ws' ls') S')->w [.ref d,i8 ws ls] S Q E
def rJ{xd xp xw xa xs:au}(Hm:bH xd)(HX:jk xp)(Kg:kq xw)(L8:um xa)(Lp:Bw xs):li (aR 9 (eN xd xp xw xa xs)):=by
 intro S d l n ws ls Q E hn D hb hl k
 unfold eN
 refine cJ ?_
 rw[show ap 9 [.ref d,i8 ws ls]=[some (.ref d),some (.tup [.tup (ws.map cf),.tup (ls.map cI)]),none,none,none,none,none,none,none] from rfl]
 have bw:=hb.w
 have bl:=hb.l
 refine aj fun N hN=>?_
 simp only[qH,v3,lk,Tg.put,Tg.Hn,List.set_cons_zero,List.set_cons_succ]
 refine hN _ _ (aj fun N hN=>?_)
 simp only[aq,ab,ak,v3,lk,c3,List.set_cons_zero,List.set_cons_succ]
 refine Hm D (by decide) (by decide) fun f S1 f0 f1 D1 O1=>hN _ _ (aj fun N hN=>?_)
 simp only[aq,ab,ak,al,bA,v3,lk,c3,Ti,List.set_cons_zero,List.set_cons_succ]
 refine Hm D1 (by omega) (by omega) fun r S2 r0 r1 D2 O2=>hN _ _ (aj fun N hN=>?_)
 obtain⟨j,hj,rfl,ej⟩:=Dt r0 r1
 have OI:=O1.trans O2
 have ex:Ie (ls.map cI) (j:Int)=some (cI ls[j]):=bC (by rw[Tv,ej];rfl)
 have MV:=hb.x _ (VG hj)
 generalize ls[j]=x at ex MV
 have NO:∀(S:az) (l:Vu),∀v∈l.map cf,∃d,Dat S v d/\d.canLay0=true:=fun S l v hv=>by
  obtain⟨m,_,rfl⟩:=Ue.mp hv
  exact yH S m
 -- a left otherwise
 simp only[bd,kG,aM,ag,v3,lk,c3,qp,dW]
 by_cases h7:f < 7/\x≠[]
 ·rw[TN h7.1,if_pos rfl]
  simp only[af,ex,cI,aC,ak]
  refine l6 (NO _ x) ?_
  have he:(x.map cf).isEmpty=false:=by cases x with|nil=>exact(h7.2 rfl).elim|cons _ _=>rfl
  rw[he]
  simp only[UO,UD,Ua]
  have QO:0 < x.length:=List.length_pos_iff.mpr h7.2
  refine aj fun N hN=>?_
  simp only[aq,ab,ak,al,bA,ag,af,v3,lk,c3,ex,cI,Ti,List.set_cons_zero,List.set_cons_succ]
  refine Hm D2 (by omega) (by omega) fun r3 S3 a0 a1 D3 O3=>hN _ _ (aj fun N hN=>?_)
  obtain⟨i,hi',rfl,ei⟩:=Dt a0 a1
  have ey:Ie (x.map cf) (i:Int)=some (cf x[i]):=bC (by rw[Tv,ei];rfl)
  generalize x[i]=y at ey
  simp only[aq,ag,af,v3,lk,ex,cI,ey,List.set_cons_zero,List.set_cons_succ]
  refine hN _ _ (aj fun N hN=>?_)
  simp only[aq,bb,ak,ab,ag,aC,fx,bG,v3,lk,c3,aK,List.set_cons_zero,List.set_cons_succ]
  refine Hm D3 (by decide) (by decide) fun b S4 b0 b1 D4 O4=>?_
  dsimp only
  rw[Ft (by omega) (by omega)]
  refine HX (Kg D4 fun m5 S5 D5 O5=>HX (L8 D5 fun m6 S6 D6 O6 p8 hp8=>hN _ _ (b7 ?_)))
  simp only[aC,ak,ab,ag,bb,v3,lk,c3]
  rw[show af (.tup (ls.map cI)) (.int (j:Int))=fun S Q=>match Ie (ls.map cI) (j:Int)with|some v=>Q v S|none=>False from rfl]
  simp only[ex]
  intro p9 hp9
  have f8:=Ext.new (o:=.lst [.int 0,.int 0,.int 0,.int 0,.int 1,.int 1,.int 2]) hp9 _ _ (aa (S:=S6) (a:=p8) (o:=.lst [cf (y + -1 * (2520 / (1+b))),cf (y+m5),cf m6]))
  obtain⟨v,hv,MN⟩:=dX (xs:=[PV.int 0,.int 0,.int 0,.int 0,.int 1,.int 1,.int 2]) (r:=f) f0 (by simp;omega)
  obtain⟨c,rfl,c0,c1⟩:∃c:Int,v = .int c/\0<=c/\c < 3:=by
   simp only[Th,TJ,Uq]at MN
   rcases MN with rfl|rfl|rfl|rfl|rfl|rfl|rfl<;>exact⟨_,rfl,by decide,by decide⟩
  obtain⟨u,hu,RU⟩:=dX (xs:=[cf (y + -1 * (2520 / (1+b))),cf (y+m5),cf m6]) (r:=c) c0 (by simpa using c1)
  obtain⟨g,rfl⟩:∃g,u=cf g:=by
   simp only[Th,TJ,Uq]at RU
   rcases RU with rfl|rfl|rfl<;>exact⟨_,rfl⟩
  simp only[af,ex,cI,aa,hv,f8,hu]
  have Dz:=(D6.new (o:=.lst [cf (y + -1 * (2520 / (1+b))),cf (y+m5),cf m6]) hp8).new (o:=.lst [.int 0,.int 0,.int 0,.int 0,.int 1,.int 1,.int 2]) hp9
  have Oz:=OI.trans (O3.trans (O4.trans (O5.trans (O6.trans ((Ij.new (o:=.lst [cf (y + -1 * (2520 / (1+b))),cf (y+m5),cf m6]) hp8).trans (Ij.new (o:=.lst [.int 0,.int 0,.int 0,.int 0,.int 1,.int 1,.int 2]) hp9))))))
  refine Lp (by simpa using hi') (by simp;omega) (Lp (by simpa using hj) (by simp;omega) ?_)
  rw[kr cf]
  have:=k ws (ls.take j++(x.take i++g::x.drop (i+1))::ls.drop (j+1)) _ (hb.set hj (by rw[qg _ hi'];omega)) Dz Oz
  unfold i8 at this
  rw[<-kr cI]at this
  exact this
 suffices rest:N [some (.ref d),some (.tup [.tup (ws.map cf),.tup (ls.map cI)]),some (.tup (ws.map cf)),some (.tup (ls.map cI)),some (.int f),some (.int (j:Int)),none,none,none] S2 by
  by_cases Q7:f < 7
  ·rw[TN Q7,if_pos rfl]
   have hx:x=[]:=UA fun c=>h7 ⟨Q7,c⟩
   subst hx
   simp only[af,ex,cI,aC,ak]
   refine l6 (NO _ []) ?_
   exact rest
  ·rw[Tw Q7]
   exact rest
 refine hN _ _ (aj fun N hN=>?_)
 simp only[bd,kG,aM,ag,v3,lk,c3]
 refine Fr ?_
 simp only[Tz]
 by_cases h8:f=7/\ws≠[]
 ·rw[TN h8.1]
  simp only[Ua,aC,ak]
  refine l6 (NO _ ws) ?_
  have he:(ws.map cf).isEmpty=false:=by cases ws with|nil=>exact(h8.2 rfl).elim|cons _ _=>rfl
  rw[he]
  have QO:0 < ws.length:=List.length_pos_iff.mpr h8.2
  simp only[UO,UD,Ua,ar,aC,ak,ab,al,bA,v3,lk,Ti]
  refine Hm D2 (by omega) (by omega) fun r3 S3 a0 a1 D3 O3=>L8 D3 fun g S4 D4 O4=>?_
  obtain⟨i,hi',rfl,ei⟩:=Dt a0 a1
  refine Lp (by simpa using hi') (by simp;omega) ?_
  rw[kr cf]
  exact k _ ls _ ⟨by rw[qg _ hi'];omega,by omega,fun x hx=>by have:=hb.x x hx;omega⟩ D4 (OI.trans (O3.trans O4))
 suffices rest:N [some (.ref d),some (.tup [.tup (ws.map cf),.tup (ls.map cI)]),some (.tup (ws.map cf)),some (.tup (ls.map cI)),some (.int f),some (.int (j:Int)),none,none,none] S2 by
  by_cases Q8:f=7
  ·rw[TN Q8]
   have hx:ws=[]:=UA fun c=>h8 ⟨Q8,c⟩
   subst hx
   simp only[Ua,aC,ak]
   refine l6 (NO _ []) ?_
   exact rest
  ·rw[Tw Q8]
   exact rest
 refine hN _ _ (aj fun N hN=>?_)
 simp only[bd,aM,ag,v3,lk,c3,bq,Tz]
 by_cases h9:f=8
 ·rw[TN h9]
  simp only[Ua,ar,aC,bb,ak,ag,v3,lk,c3,aK,aY,i6,jq,jr,ab]
  refine⟨bB (by simp;omega),fun p hp=>Hm (D2.new hp) (by decide) (by decide) fun g S3 g0 g1 D3 O3=>?_⟩
  have np:=D2.free hp
  have f3:=O3 _ _ aa np.1 np.2
  simp only[af,f3]
  have ec:b9 (ws.map cf) (some 1) none=(ws.drop 1).map cf:=by rw[j5];rw[s_]
  have NZ:=OI.trans ((Ij.new hp).trans O3)
  rcases(show g=0\/g=1 by omega)with rfl|rfl
  ·simp only[eU]
   have:=k (ws++[0]) ls _ ⟨by simp;omega,by omega,fun x hx=>by have:=hb.x x hx;omega⟩ D3 NZ
   unfold i8 at this
   rw[Uh,Xy,<-dY]at this
   exact this
  ·simp only[fy,ec]
   exact k (ws.drop 1) ls _ ⟨by simp;omega,by omega,fun x hx=>by have:=hb.x x hx;omega⟩ D3 NZ
 rw[Tw h9]
 simp only[Tu,Ub,aI]
 have c9:(.tup [.int 9,.int 1]:PV)=cf 22680:=by
  have h1:M3.br 22680 2520=9:=by decide +kernel
  have h2:M3.aT 22680 2520=1:=by decide +kernel
  unfold cf
  rw[h1,h2]
 refine hN _ _ (aj fun N hN=>?_)
 simp only[bd,aM,ag,v3,lk,c3,bq,Tz]
 by_cases PC:f=9
 ·rw[TN PC]
  simp only[Ua,ar,aC,bb,ak,ag,v3,lk,c3,af,ex,cI,aK,aY,i6,jq,jr,ab]
  refine⟨bB (by simp;omega),fun p hp=>Hm (D2.new hp) (by decide) (by decide) fun g S3 g0 g1 D3 O3=>?_⟩
  have np:=D2.free hp
  have f3:=O3 _ _ aa np.1 np.2
  simp only[f3]
  have ec:b9 (x.map cf) (some 1) none=(x.drop 1).map cf:=by rw[j5];rw[s_]
  have NZ:=OI.trans ((Ij.new hp).trans O3)
  rcases(show g=0\/g=1 by omega)with rfl|rfl
  ·simp only[eU]
   refine Lp (by simpa using hj) (by simp;omega) ?_
   have:=k ws (ls.take j++(x++[22680])::ls.drop (j+1)) _ (hb.set hj (by simp;omega)) D3 NZ
   unfold i8 at this
   rw[<-kr cI]at this
   unfold cI at this
   rw[Uh,Xy,<-c9]at this
   exact this
  ·simp only[fy,ec]
   refine Lp (by simpa using hj) (by simp;omega) ?_
   have:=k ws (ls.take j++(x.drop 1)::ls.drop (j+1)) _ (hb.set hj (by simp;omega)) D3 NZ
   unfold i8 at this
   rw[<-kr cI]at this
   exact this
 rw[Tw PC]
 simp only[Tu,Ub,aI]
 refine hN _ _ (aj fun N hN=>?_)
 simp only[bd,aM,ag,v3,lk,c3,bq,Tz]
 by_cases h11:f=10
 ·rw[TN h11]
  simp only[Ua,ar,aC,bb,ak,ag,v3,lk,c3,aK,aY,i6,jq,jr,ab]
  refine⟨bB (by simp;omega),fun p hp=>Hm (D2.new hp) (by decide) (by decide) fun g S3 g0 g1 D3 O3=>?_⟩
  have np:=D2.free hp
  have f3:=O3 _ _ aa np.1 np.2
  simp only[af,f3]
  have ec:b9 (ls.map cI) (some 1) none=(ls.drop 1).map cI:=by rw[j5];rw[s_]
  have NZ:=OI.trans ((Ij.new hp).trans O3)
  rcases(show g=0\/g=1 by omega)with rfl|rfl
  ·simp only[eU]
   have:=k ws (ls++[[22680]]) _ ⟨by omega,by simp;omega,fun x hx=>?_⟩ D3 NZ
   ·unfold i8 at this
    rw[Uh,Xy,show cI [22680] = .tup [cf 22680] from rfl,<-c9]at this
    exact this
   ·rcases Tj.mp hx with hx|hx
    ·have:=hb.x x hx;omega
    ·rw[Tt.mp hx];simp;omega
  ·simp only[fy,ec]
   exact k ws (ls.drop 1) _ ⟨by omega,by simp;omega,fun x hx=>by have:=hb.x x (Wi hx);omega⟩ D3 NZ
 rw[Tw h11]
 simp only[Tu,Ub,aI]
 refine hN _ _ (b7 ?_)
 exact k ws ls _ (hb.le (by omega)) D2 OI
abbrev AJ(w:au):Prop:=∀{ns:Vu} {S:az} {Q:bn} {E:bJ},ns.length<=63->(∀S',Q (.bl true) S')->w [.cl (ns.map PV.int)] S Q E
def PZ(n:Nat)(vs:List PV):Prop:=∀v∈vs,∃ws ls,v=i8 ws ls/\PB n ws ls
def PZ.snoc{n:Nat}{vs:List PV}(h:PZ n vs){v:PV}(g:∃ws ls,v=i8 ws ls/\PB (n+1) ws ls):PZ (n+1) (vs++[v]):=fun u hu=>by
 rcases Tj.mp hu with hu|hu
 ·obtain⟨ws,ls,e,b⟩:=h u hu
  exact⟨ws,ls,e,b.le (by omega)⟩
 ·rw[Tt.mp hu];exact g
def AK{vs:List PV}(h:vs≠[]):∃v,Ie vs (-1)=some v/\v∈vs:=by
 obtain⟨ys,y,rfl⟩:∃ys y,vs=ys++[y]:=⟨vs.dropLast,vs.getLast h,(List.dropLast_concat_getLast h).symm⟩
 exact⟨y,yd,by simp⟩
def Du{x0 x1 x2 x3 x4 x5 x6:au}(LL:qR x0)(Nj:jK x1)(Nk:qf x2)(My:li x3)(Hm:bH x4)(Ke:sW x5)(Ln:sY x6):AJ (aR 9 (ym x0 x1 x2 x3 x4 x5 x6)):=by
 intro ns S Q E hl k
 unfold ym
 refine cJ ?_
 rw[show ap 9 [PV.cl (ns.map PV.int)]=[some (.cl (ns.map PV.int)),none,none,none,none,none,none,none,none] from rfl]
 refine aj fun N hN=>?_
 simp only[aq,ab,ak,v3,lk,c3,List.set_cons_zero,List.set_cons_succ]
 refine LL hl (by decide) (by decide) fun d l S1 _ _ D1 _=>hN _ _ (aj fun N hN=>?_)
 simp only[aq,ab,ak,v3,lk,c3,List.set_cons_zero,List.set_cons_succ]
 refine Nj (most:=4) (many:=4) (size:=14) D1 (by decide) (by decide) (by decide) (by decide) (by decide) fun js ds S2 hO h1 h4 hj D2 O2=>hN _ _ (aj fun N hN=>?_)
 have hg:HG js ds:=⟨fun z hz=>pE (hO.jw z hz),by omega,by omega,hO.gd,hO.dq,hO.sz⟩
 have nd:=hO.jn
 simp only[aq,ab,ak,v3,lk,c3,List.set_cons_zero,List.set_cons_succ]
 refine Nk D2 hg fun ws ls S3 hw NE hx D3 O3=>hN _ _ (aj fun N hN=>?_)
 have b0:PB 0 ws ls:=⟨by omega,by omega,fun x h=>hx x h⟩
 simp only[aq,bb,ak,v3,lk,List.set_cons_zero,List.set_cons_succ]
 intro p4 Lv
 have n4:=D3.free Lv
 have D4:=D3.new (o:=.lst [i8 ws ls]) Lv
 have f4:(Hk S3 p4 (.lst [i8 ws ls])) p4=some (.lst [i8 ws ls]):=aa
 generalize Hk S3 p4 (.lst [i8 ws ls])=S4 at D4 f4
 refine hN _ _ (aj fun N hN=>?_)
 simp only[b_,jy,c3]
 refine⟨by decide,by decide,?_⟩
 refine bP (fun done σ S'=>done.length<=4/\Hu S' d l/\∃x5 x6 vs,σ=[some (.cl (ns.map PV.int)),some (.ref d),some (cU js ds),some (i8 ws ls),some (.ref p4),x5,x6,none,none]/\S' p4=some (.lst vs)/\vs.length=done.length+1/\PZ done.length vs) ⟨by simp,D4,_,_,_,rfl,f4,rfl,fun v hv=>⟨ws,ls,Tt.mp hv,b0⟩⟩ (fun _ _ _ _=>trivial) ?_ ?_
 ·rintro done x rest σ S5 K e ⟨hd,D5,x5,x6,vs,rfl,f5,hvl,hv⟩ hK
  obtain⟨rfl,hdl⟩:=pG e
  have hdl:done.length < 4:=hdl
  obtain⟨v,ev,MN⟩:=AK (vs:=vs) (fun h=>by rw[h]at hvl;simp at hvl)
  obtain⟨OJ,Ni,rfl,b2⟩:=hv v MN
  simp only[Tg.put,List.set_cons_zero,List.set_cons_succ]
  refine aj fun N2 Lg=>?_
  simp only[aq,ab,ak,ag,bb,af,fx,bG,v3,lk,c3,f5,ev]
  intro p6 M6
  have n6:=D5.free M6
  refine Hm (D5.new M6) (by decide) (by decide) fun r S6 r0 r1 D6 O6=>?_
  have RV:=O6 _ _ (Ext.new (o:=.lst [i8 ws ls,i8 OJ Ni]) M6 _ _ f5) n4.1 n4.2
  have RW:=O6 _ _ (aa (S:=S5) (a:=p6) (o:=.lst [i8 ws ls,i8 OJ Ni])) n6.1 n6.2
  have e1:Ie [PV.tup (OJ.map cf),.tup (Ni.map cI)] 1=some (.tup (Ni.map cI)):=fy
  simp only[al,ak,ag,af,v3,lk,c3,fx,bG,RV,ev]
  simp only[i8,e1,bA,xA,dW,eR,Ti,bX]
  refine⟨Am (by omega) (by omega),?_⟩
  have Ps:∃Q9 P0,Ie [i8 ws ls,i8 OJ Ni] (r * (if decide ((0:Int) < Ni.length)=true then 1 else 0))=some (i8 Q9 P0)/\PB done.length Q9 P0/\0 < P0.length:=by
   by_cases h0:0 < Ni.length
   ·rw[TN (by omega),if_pos rfl,Int.mul_one]
    rcases(show r=0\/r=1 by omega)with rfl|rfl
    ·exact⟨ws,ls,eU,b0.le (Ug _),by omega⟩
    ·exact⟨OJ,Ni,fy,b2,h0⟩
   ·rw[Tw (by omega),if_neg (by decide),Int.mul_zero]
    exact⟨ws,ls,eU,b0.le (Ug _),by omega⟩
  obtain⟨Q9,P0,e3,b3,l3⟩:=Ps
  simp only[i8]at RW e3
  simp only[RW,e3]
  refine My (by omega) D6 b3 l3 fun RX RY S7 b4 D7 O7=>Lg _ _ ?_
  have SX:=O7 _ _ RV n4.1 n4.2
  simp only[bL,lz,zO,v3,lk,SX,ak,bO,List.set_cons_zero,List.set_cons_succ,XJ]
  refine⟨TU (show vs.length < 1000 by omega) (by decide),hK _ _ ⟨by simp;omega,D7.upd n4.1 n4.2,_,_,vs++[i8 RX RY],rfl,aa,by simp;omega,?_⟩⟩
  rw[Te,TH]
  exact hv.snoc ⟨RX,RY,rfl,b4⟩
 ·rintro σ S5 ⟨hd,D5,x5,x6,vs,rfl,f5,hvl,hv⟩
  rw[dD]at hvl hv
  refine hN _ _ (aj fun N hN=>?_)
  simp only[b_,aF,ag,aY,jq,i6,v3,lk,c3,jr,f5]
  intro p8 hp8
  have RZ:=Ext.new (o:=.lst (b9 vs none (some 1))) hp8 _ _ f5
  have f8:=aa (S:=S5) (a:=p8) (o:=.lst (b9 vs none (some 1)))
  generalize Hk S5 p8 (.lst (b9 vs none (some 1)))=S6 at RZ f8
  have ec:b9 vs none (some 1)=vs.take 1:=sI (n:=1) (by omega)
  rw[ec]at f8
  refine rg RZ f8 (by simp;omega) fun p9 S7 _ f9 X7=>?_
  simp only[bu,f9]
  refine bP (fun done σ S'=>Ext S7 S'/\∃x7 x8,σ=[some (.cl (ns.map PV.int)),some (.ref d),some (cU js ds),some (i8 ws ls),some (.ref p4),x5,x6,x7,x8]) ⟨.refl,_,_,rfl⟩ (fun _ _ _ h=>h.1 _ _ f9) ?_ ?_
  ·rintro done x rest σ S8 K e ⟨X8,x7,x8,rfl⟩ hK
   have hm:x∈vs:=by
    have:x∈vs++vs.take 1:=by rw[e];simp
    rcases Tj.mp this with h|h
    ·exact h
    ·exact VT h
   obtain⟨OJ,Ni,rfl,b2⟩:=hv x hm
   have:=b2.w;have:=b2.l
   simp only[Tg.put,List.set_cons_zero,List.set_cons_succ]
   refine aj fun N2 Lg=>?_
   simp only[aq,ab,ak,v3,lk,List.set_cons_zero,List.set_cons_succ]
   refine Ke hg nd (by simp at *;omega) (by simp at *;omega) fun b1 S9 hb1 X9=>Lg _ _ ?_
   simp only[bd,lw,i3,aM,al,ak,v3,lk,c3,w5,ag,ab]
   refine⟨by decide,?_⟩
   rw[if_neg (by decide)]
   refine Ln hg (by simp at *;omega) (by simp at *;omega) fun b2 S10 hb2 SY=>?_
   have eb:b1=b2:=by
    cases b1<;>cases b2
    ·rfl
    ·exact absurd (hb1.mpr (hb2.mp rfl)) (by decide)
    ·exact absurd (hb2.mpr (hb1.mp rfl)) (by decide)
    ·rfl
   subst eb
   simp only[bq,V4,UO,UT,Tu,Ub,aI]
   exact hK _ _ ⟨X8.trans (X9.trans SY),_,_,rfl⟩
  ·rintro σ S8 ⟨X8,x7,x8,rfl⟩
   refine hN _ _ (b7 ?_)
   exact k _
def fw:bH w__law_draw:=Hm
def Bx:l0 b6:=J8
def AL:kW gg:=Lf fw
def Dv:mP ix:=LN fw Bx
def yI:j6 eX:=Ko fw Dv
theorem yJ:∀n,j7 n (eY n)
 |0=>fun _ _ _ _ _ _ _ h0 h1 _=>by omega
 |n+1=>LP fw yI n (yJ n)
theorem rK:∀n,df n (bU n)
 |0=>fun h _ _=>absurd h (by have:=Bd.HK;exact Vz.mpr (this _))
 |n+1=>vp n (rK n)
def rL:df 12 bV:=rK 12
theorem rM:∀n,n<=12->fT n (bQ n)
 |0,_=>fun h _ _=>absurd h (by have:=Bd.HK;exact Vz.mpr (this _))
 |n+1,hn=>vq n 12 rL (rM n (by omega)) (by omega)
def GH:fU dj:=pF 12 (by decide) (yJ 12) rL (rM 12 (by decide)) yI
def AM:jK gj:=vv AL fw GH
theorem yK:∀n,iQ n (eZ n)
 |0=>fun h _ _ _ _ _ _ _ _=>absurd h (by have:=Bd.HK;exact Vz.mpr (this _))
 |n+1=>yb n (yK n)
def uq:iR cu:=yc fun h a b c e f g i j=>yK 12 (TR h (by decide)) a b c e f g i j
def ur:iO fX:=J9
theorem qi:∀n,dE n (fY n)
 |0=>fun h _ _=>absurd h (by have:=Bd.HK;exact Vz.mpr (this _))
 |n+1=>J_ ur n (qi n)
def yL:k4 12 pM:=vy 12 (qi 12)
theorem ut:∀n,iP n (dz n)
 |0=>fun h _=>absurd h (by have:=Bd.HK;exact Vz.mpr (this _))
 |n+1=>x_ n (ut n)
theorem By:∀n,n<=12->ke n (dA n)
 |0,_=>fun h _ _ _=>absurd h (by have:=Bd.HK;exact Vz.mpr (this _))
 |n+1,hn=>Ar n 12 (by omega) yL (ut 12) (By n (by omega))
theorem Dw:∀n,mU n (cr n)
 |0=>fun h _ _ _ _ _ _=>absurd h (by have:=Bd.HK;exact Vz.mpr (this _))
 |n+1=>Mm ur n (Dw n)
def Dx:mV iu:=LQ (fun h a b c d e f=>Dw 12 (TR h (by decide)) a b c d e f) (fun h a b c=>By 12 (by decide) (TR h (by decide)) a b c)
def nj:dZ f_:=qW (KB Dx)
def rN:fV iT:=KR
def AN:k5 eF:=ye (fun h a b c d e f=>Dw 12 (TR h (by decide)) a b c d e f) rN
def AO:k6 eG:=yf nj AN
def ku:dg 12 cE:=vx 12 (qi 12) rN
def qj:j_ 12 eW:=xY 12 ku
theorem yM:∀n,n<=12->dh (n / 2) (iU n)/\kY ((n - 1) / 2) (bZ n)/\pI ((n - 1) / 2) (bI n)/\mS ((n - 1) / 2) (bS n)
 |0,_=>⟨fun h _ _=>absurd h (by have:=Bd.HK;exact Vz.mpr (this _)),fun h _ _ _=>absurd h (by have:=Bd.HK;exact Vz.mpr (this _)),fun{S t f b Q E} h hh _ _=>by
   have h1:t.dep<=1:=h
   cases t with
   |HQ a b=>have:=a.HK;simp only[Bd.dep]at h1;omega
   |Hx _ _ a b=>have:=a.HK;simp only[Bd.dep]at h1;omega
   |_=>simp[Bd.hd,aN]at hh,fun h _ _=>absurd h (by have:=Bd.HK;exact Vz.mpr (this _))⟩
 |n+1,hn=>by
  obtain⟨a,b,c,e⟩:=yM n (by omega)
  have e2:(n+1 - 1) / 2=n / 2:=rfl
  refine⟨?_,?_,?_,?_⟩
  ·rcases Nat.eq_zero_or_pos n with rfl|hn
   ·exact fun h _ _=>absurd h (by have:=Bd.HK;exact Vz.mpr (this _))
   ·have e1:(n+1) / 2=(n - 1) / 2+1:=by omega
    rw[e1]
    exact fun{S t f b' Q E} h1 h2 h3=>Dh (s3:=iU n) ((n - 1) / 2) b c e (S:=S) (t:=t) (f:=f) (b:=b') (Q:=Q) (E:=E) h1 h2 h3
  ·rw[e2]
   exact fun{S t u f b' Q E} h1 h2 h3 h4=>xZ (s0:=bZ n) (s1:=bI n) (s2:=bS n) (n / 2) 12 (by omega) ku qj a (S:=S) (t:=t) (u:=u) (f:=f) (b:=b') (Q:=Q) (E:=E) h1 h2 h3 h4
  ·rw[e2]
   exact fun{S t f b' Q E} h1 h2 h3 h4=>Dg (s0:=bZ n) (s1:=bI n) (s2:=bS n) (n / 2) 12 (by omega) ku qj a (S:=S) (t:=t) (f:=f) (b:=b') (Q:=Q) (E:=E) h1 h2 h3 h4
  ·rw[e2]
   exact fun{S t f b' Q E} h1 h2 h3=>Aq (s0:=bZ n) (s1:=bI n) (s2:=bS n) (n / 2) 12 (by omega) qj a (S:=S) (t:=t) (f:=f) (b:=b') (Q:=Q) (E:=E) h1 h2 h3
def AQ:kZ 6 pN:=HU 6 (yM 12 (Tq _)).1 fun a b k=>ku (TR a (by decide)) b k
def tm:iB eE:=Ay (CW.yg CW.sK)
def l7:iB b6:=vE Bx
def Dy:jk sO:=rj tm
def l8:jk cG:=vF l7
def tq:rm mZ:=yx
def uu:ng cw:=vI
def vN:nh jM:=sV Dy (vH tm) (vG tm)
def DA:yB gf:=L6 tq (yy tq) vN rA
def AR:sW fm:=Ke tq AQ (KS nj) AO DA
theorem qk:∀n,lh n (cg n)
 |0=>fun h _=>absurd h (by have:=Bd.HK;exact Vz.mpr (this _))
 |n+1=>yo n (qk n)
theorem Bz:∀n,n<=12->ko n (cv n)
 |0,_=>fun h _ _ _ _=>absurd h (by have:=Bd.HK;exact Vz.mpr (this _))
 |n+1,hn=>Dp n (fun h k=>qk 12 (TR h (by omega)) k) (Bz n (by omega))
def nk:iX 6 cR:=fun h a b c k=>vD 12 (Bz 12 (by decide)) (qk 12) (TR h (by decide)) a b c k
def uv:pW d4:=Kd L5
def rO:l5 d0:=sU l7
def ux:pZ d5:=Jf (sX rO) rO
def AS:sY gu:=Ln nk uq uv (L7 ux uu l8)
def yN:qe gA:=vL uq (Lo uv ux l8 uu) nk
def qm:kq cS:=vK fw l7
def BA:um gC:=AG fw l7
def AT:qf gE:=vM qm yN fw nk BA (s9 qm l8)
def vO:li eO:=rJ fw l8 qm BA AH
def yO:∀ns:List Int,ns.length<=63->re [.cl (ns.map PV.int)] (fun _=>none) (fun v _=>v = .bl true) fK:=fun ns h=>Du LL AM AT vO fw AR AS h fun _=>rfl
end G38
namespace L3
open PySem L2 Xc
def qo{P:List Value->Prop}(h:∀a,P [a])(us:Vv)(hl:us.length=1):P us:=match us,hl with|[_],_=>h _
def lj{P:List Value->Prop}(h:∀a b,P [a,b])(us:Vv)(hl:us.length=2):P us:=match us,hl with|[_,_],_=>h _ _
def vS{P:List Value->Prop}(h:∀a b c,P [a,b,c])(us:Vv)(hl:us.length=3):P us:=match us,hl with|[_,_,_],_=>h _ _ _
def DJ{P:List Value->Prop}(h:∀a b c d,P [a,b,c,d])(us:Vv)(hl:us.length=4):P us:=match us,hl with|[_,_,_,_],_=>h _ _ _ _
def Hf{P:List Value->Prop}(h:∀a b c d e f,P [a,b,c,d,e,f])(us:Vv)(hl:us.length=6):P us:=match us,hl with|[_,_,_,_,_,_],_=>h _ _ _ _ _ _
section
variable {K:Vo} {h:Heap} {mg:Vr} {x c m q:Str} {st:Stmt} {ps fl:Vs}
noncomputable def AU:Option (Option Value)->Bool
 |some none=>true
 |_=>false
def AV{o:Option (Option Value)}(h:AU o=true):o=some none:=by
 unfold AU at h;split at h
 ·rfl
 ·cases h
def FnAt(K:Vo)(f:Addr)(m q:Str)(st:Stmt):Prop:=∃(oc kV doc pm cdv ct:Value) (od an:Option Addr) (osl:Array (Option Value)),
 K.lookup f=some ⟨oc,od,.func (PySem.W.fnOf m q (b8 st) (bj st) (aJ st) .none kV doc pm an cdv ct),osl⟩/\PySem.W.codeIn K cdv q=true/\PySem.W.keepIn K (.ref f)=true
abbrev yP(m q:Str)(st:Stmt)(ps:Vs):Prop:=∀(kV doc pm:Value) (an:Option Addr) (cdv ct:Value) (us:Vv),us.length=ps.length->bindArgs (PySem.W.fnOf m q (b8 st) (bj st) (aJ st) .none kV doc pm an cdv ct) ⟨us,[]⟩=pure (ps.zip us)
def FnAt.mk{f:Addr}(a:FnAt K f m q st)(hb:yP m q st ps):∃fd,NQ K m q st f fd/\Binds K fd ps []/\PySem.W.keepIn K (.ref f)=true:=by
 obtain⟨oc,kV,doc,pm,cdv,ct,od,an,osl,l,cc,k⟩:=a
 exact⟨_,oU l cc k,(oU l cc k).binds hb,k⟩
def HZ(K:Vo)(x:Str)(st:Stmt):Prop:=∃f,PySem.W.nsIn K mainGlobals x=some (some (.ref f))/\FnAt K f x x st
def HZ.own(X:K.In h)(G:h.Ns mainGlobals mg)(a:HZ K x st)(hb:yP x x st ps):aW K mg x st ps:=by
 obtain⟨f,n,a⟩:=a
 obtain⟨fd,F,b,k⟩:=a.mk hb
 exact⟨f,fd,F,b,k,XH X G n⟩
def HZ.law{fa:Addr}(X:K.In h)(G:h.Ns mainGlobals mg)(a:HZ K x st)(hfa:mg x=some (.ref fa))(hb:yP x x st ps):∃kV doc pm an cdv ct,FH K mg x st ps fa (PySem.W.fnOf x x (b8 st) (bj st) (aJ st) .none kV doc pm an cdv ct):=by
 obtain⟨f,n,oc,kV,doc,pm,cdv,ct,od,an,osl,l,cc,k⟩:=a
 cases hfa.symm.trans (XH X G n)
 exact⟨kV,doc,pm,an,cdv,ct,oU l cc k,(oU l cc k).binds hb,k,hfa⟩
def P3(P:Program)(w:World)(K:Vo)(x:Str)(kvs:List (bf×V)):Prop:=∃a o,PySem.W.nsIn K mainGlobals x=some (some (.ref a))/\K.lookup a=some o/\(a == sysModules)=false/\∃vs,KV kvs vs/\Obj.IsDictOf (aU P w) o vs
def P3.kd{P:Program}{w:World}{kvs:List (bf×V)}(X:K.In h)(G:h.Ns mainGlobals mg)(a:P3 P w K x kvs):∃a,mg x=some (.ref a)/\KD P w K a kvs:=by
 obtain⟨a,o,n,l,s,vs,h1,h2⟩:=a
 exact⟨a,XH X G n,s,o,vs,l,h1,h2⟩
def gS(X:K.In h)(G:h.Ns mainGlobals mg){l:Vs}(a:(l.all fun x=>AU (PySem.W.nsIn K mainGlobals x))=true)(hx:x∈l:=by decide):mg x=none:=PySem.W.mg_none_of X G (AV (W9.mp a x hx))
section
variable {f C:Addr} {oc kV doc pm cdv ct:Value} {od an:Option Addr} {osl:Array (Option Value)}
def Hg(n:PySem.W.nsIn K mainGlobals x=some (some (.ref f)))(l:K.lookup f=some ⟨oc,od,.func (PySem.W.fnOf x x (b8 st) (bj st) (aJ st) .none kV doc pm an cdv ct),osl⟩)(cc:PySem.W.codeIn K cdv x=true)(k:PySem.W.keepIn K (.ref f)=true):HZ K x st:=⟨f,n,oc,kV,doc,pm,cdv,ct,od,an,osl,l,cc,k⟩
def Hh{P:Program}{w:World}{kvs:List (bf×V)}{o:Obj}(n:PySem.W.nsIn K mainGlobals x=some (some (.ref f)))(l:K.lookup f=some o)(s:(f == sysModules)=false)(v:∃vs,KV kvs vs/\Obj.IsDictOf (aU P w) o vs):P3 P w K x kvs:=⟨f,o,n,l,s,v⟩
end
end
section
variable {K:Vo} {h:Heap} {mg:Vr} {x:Str} {st:Stmt} {ps:Vs}
def P4(K:Vo)(x:Str)(st:Stmt):Prop:=∃(f T:Addr) (oc kV doc pm cdv ct:Value) (od an:Option Addr) (osl:Array (Option Value)) (oT:Obj) (nT:Nat),PySem.W.nsIn K mainGlobals x=some (some (.ref f))/\
 K.lookup f=some ⟨oc,od,.func (PySem.W.fnOf x x (b8 st) (bj st) (aJ st) (.ref T) kV doc pm an cdv ct),osl⟩/\PySem.W.codeIn K cdv x=true/\PySem.W.keepIn K (.ref f)=true/\K.lookup T=some oT/\oT.data = .seq #[.bool true] nT
abbrev BB(x:Str)(st:Stmt)(ps:Vs):Prop:=∀(s:Shared) (T:Addr) (oT:Obj) (nT:Nat) (kV doc pm cdv ct:Value) (an:Option Addr) (us:Vv),oT.data = .seq #[.bool true] nT->us.length=ps.length->s.heap.get? T=some oT->BindsTo s (PySem.W.fnOf x x (b8 st) (bj st) (aJ st) (.ref T) kV doc pm an cdv ct) ⟨us,[]⟩ (ps.zip us)
abbrev BC(x:Str)(st:Stmt)(ps:Vs):Prop:=∀(s:Shared) (T:Addr) (oT:Obj) (nT:Nat) (kV doc pm cdv ct:Value) (an:Option Addr) (us:Vv),oT.data = .seq #[.bool true] nT->us.length+1=ps.length->s.heap.get? T=some oT->BindsTo s (PySem.W.fnOf x x (b8 st) (bj st) (aJ st) (.ref T) kV doc pm an cdv ct) ⟨us,[]⟩ (ps.zip (us++[.bool true]))
def P4.own(X:K.In h)(G:h.Ns mainGlobals mg)(a:P4 K x st)(hb:BB x st ps)(hd:BC x st ps):qL K mg x st ps:=by
 obtain⟨f,T,oc,kV,doc,pm,cdv,ct,od,an,osl,oT,nT,n,l,c,k,lT,sT⟩:=a
 exact⟨T,f,_,⟨⟨oc,od,kV,doc,pm,an,cdv,ct,osl,rfl,l,c⟩,k⟩,fun s us KI hl=>by rw[TY]at hl ⊢;exact hb _ _ _ _ _ _ _ _ _ _ us sT hl (KI T oT lT),fun s us KI hl=>hd _ _ _ _ _ _ _ _ _ _ us sT (by rw[Te]at hl;exact hl) (KI T oT lT),k,XH X G n⟩
def Hi{f T:Addr}{oc kV doc pm cdv ct:Value}{od an:Option Addr}{osl:Array (Option Value)}{oT:Obj}{nT:Nat}(n:PySem.W.nsIn K mainGlobals x=some (some (.ref f)))(l:K.lookup f=some ⟨oc,od,.func (PySem.W.fnOf x x (b8 st) (bj st) (aJ st) (.ref T) kV doc pm an cdv ct),osl⟩)(c:PySem.W.codeIn K cdv x=true)(k:PySem.W.keepIn K (.ref f)=true)
  (lT:K.lookup T=some oT) (sT:oT.data = .seq #[.bool true] nT):P4 K x st:=⟨f,T,oc,kV,doc,pm,cdv,ct,od,an,osl,oT,nT,n,l,c,k,lT,sT⟩
end
end L3
namespace G38
open PySem L2 L3
def lm:BB "parts_reached" (a_ 18) ["body","names","reached"]:=fun _ _ _ _ _ _ _ _ _ _ us sT hl hT=>vS (P:=fun us=>BindsTo _ _ ⟨us,[]⟩ ((["body","names","reached"]:Vs).zip us)) (fun _ _ _=>by refine BindsTo.of_defaults rfl hT sT rfl ?_;rfl) us hl
def lp:BC "parts_reached" (a_ 18) ["body","names","reached"]:=fun _ _ _ _ _ _ _ _ _ _ us sT hl hT=>lj (P:=fun us=>BindsTo _ _ ⟨us,[]⟩ ((["body","names","reached"]:Vs).zip (us++[.bool true]))) (fun _ _=>by refine BindsTo.of_defaults rfl hT sT rfl ?_;rfl) us (Nat.succ.inj hl)
def DB{l:PySem.W.OpenLaw}{w:World}{K:Vo}{h:Heap}{mg:Vr}{fa:Addr}(X:K.In h)(G:h.Ns mainGlobals mg)(hfa:mg "law" = some (.ref fa))
  (JS:HZ K "sides_of" (a_ 2))
  (JT:HZ K "parts_in" (a_ 3))
  (KU:HZ K "parts" (a_ 4))
  (Kh:HZ K "has_row" (a_ 6))
  (Ki:HZ K "rows_in" (a_ 7))
  (KW:HZ K "begin" (a_ 8))
  (IE:HZ K "rows_of_then" (a_ 9))
  (Ig:HZ K "rows_of_choice" (a_ 10))
  (Ir:HZ K "rows_of_often" (a_ 11))
  (Kj:HZ K "rows_of" (a_ 12))
  (KY:HZ K "chart" (a_ 13))
  (IQ:HZ K "plain_trace" (a_ 15))
  (IR:HZ K "led_to_part" (a_ 16))
  (Iu:P4 K "parts_reached" (a_ 18))
  (Jx:HZ K "next_step" (a_ 19))
  (Kk:HZ K "filling" (a_ 20))
  (JU:HZ K "fillable" (a_ 21))
  (KC:HZ K "common" (a_ 23))
  (JV:HZ K "fraction" (a_ 24))
  (Lq:HZ K "plus" (a_ 25))
  (KZ:HZ K "minus" (a_ 26))
  (K0:HZ K "times" (a_ 27))
  (Lr:HZ K "less" (a_ 28))
  (Kl:HZ K "highest" (a_ 29))
  (IF:HZ K "rows_of_body" (a_ 31))
  (IG:HZ K "rows_come_to" (a_ 32))
  (HL:HZ K "worths_of_fillable" (a_ 34))
  (JW:HZ K "asked_at" (a_ 35))
  (Jg:HZ K "deed_holds" (a_ 36))
  (IS:HZ K "paper_holds" (a_ 37))
  (Jy:HZ K "_law_deal" (a_ 39))
  (Jz:HZ K "_law_draw" (a_ 40))
  (Jh:HZ K "_law_words" (a_ 41))
  (JX:HZ K "_law_low" (a_ 42))
  (JA:HZ K "_law_plus" (a_ 43))
  (Ji:HZ K "_law_times" (a_ 44))
  (JB:HZ K "_law_cost" (a_ 45))
  (JC:HZ K "_law_leaf" (a_ 46))
  (JD:HZ K "_law_body" (a_ 47))
  (Ib:HZ K "_law_pass_count" (a_ 48))
  (HV:HZ K "_law_round_count" (a_ 49))
  (Ih:HZ K "_law_deed_body" (a_ 50))
  (Jj:HZ K "_law_house" (a_ 51))
  (JE:HZ K "_law_puts" (a_ 52))
  (Iw:HZ K "_law_fillable" (a_ 53))
  (Ii:HZ K "_law_many_rows" (a_ 54))
  (Ix:HZ K "_law_chart_of" (a_ 55))
  (Jk:HZ K "_law_chart" (a_ 56))
  (JF:HZ K "_law_goes" (a_ 57))
  (Jl:HZ K "_law_there" (a_ 58))
  (Iy:HZ K "_law_at_least" (a_ 59))
  (IU:HZ K "_law_things" (a_ 60))
  (Jm:HZ K "_law_asked" (a_ 61))
  (Iz:HZ K "_law_row_kept" (a_ 62))
  (Jn:HZ K "_law_holds" (a_ 63))
  (Jo:HZ K "_law_lefts" (a_ 64))
  (Jp:HZ K "_law_paper" (a_ 65))
  (Jq:HZ K "_law_worth" (a_ 66))
  (JY:HZ K "_law_any" (a_ 67))
  (IV:HZ K "_law_raised" (a_ 68))
  (JZ:HZ K "_law_set" (a_ 69))
  (Jr:HZ K "_law_first" (a_ 70))
  (IH:HZ K "_law_changed" (a_ 71))
  (Js:P3 l.prog w K "SIDES_FROM" (C.k_SIDES_FROM.map fun kv=>(kv.1,V.int kv.2)))
  (LA:((["abs","all","any","bool","dict","enumerate","int","isinstance","len","list","max","range","reversed","set","sorted","sum","tuple","zip"]:Vs).all fun x=>AU (PySem.W.nsIn K mainGlobals x))=true)
  (Nl:HZ K "law" (a_ 72))
  : ∃fd:FuncData,(∀(s:Shared) (v:Value),BindsTo s fd ⟨[v],[]⟩ [("_law_script",v)])/\∀base:Heap,K.In base->base.Ns mainGlobals mg->nq l.prog w K mg base yR 32 fa fd ["_law_script"] (EO K 1 re):=by
 obtain⟨kV,doc,pm,an,cdv,ct,O⟩:=Nl.law X G hfa (ps:=["_law_script"]) (fun _ _ _ _ _ _=>qo fun _=>rfl)
 exact⟨_,fun s v=>.of_eq rfl,fun base _ _=>(Dk (P:=l.prog) (w:=w) (base:=base) ⟨JS.own X G (fun _ _ _ _ _ _=>qo fun _=>rfl),
  JT.own X G (fun _ _ _ _ _ _=>qo fun _=>rfl),
  KU.own X G (fun _ _ _ _ _ _=>qo fun _=>rfl),
  Kh.own X G (fun _ _ _ _ _ _=>qo fun _=>rfl),
  Ki.own X G (fun _ _ _ _ _ _=>qo fun _=>rfl),
  KW.own X G (fun _ _ _ _ _ _=>vS fun _ _ _=>rfl),
  IE.own X G (fun _ _ _ _ _ _=>vS fun _ _ _=>rfl),
  Ig.own X G (fun _ _ _ _ _ _=>vS fun _ _ _=>rfl),
  Ir.own X G (fun _ _ _ _ _ _=>vS fun _ _ _=>rfl),
  Kj.own X G (fun _ _ _ _ _ _=>vS fun _ _ _=>rfl),
  KY.own X G (fun _ _ _ _ _ _=>qo fun _=>rfl),
  IQ.own X G (fun _ _ _ _ _ _=>qo fun _=>rfl),
  IR.own X G (fun _ _ _ _ _ _=>vS fun _ _ _=>rfl),
  Iu.own X G lm lp,
  Jx.own X G (fun _ _ _ _ _ _=>lj fun _ _=>rfl),
  Kk.own X G (fun _ _ _ _ _ _=>qo fun _=>rfl),
  JU.own X G (fun _ _ _ _ _ _=>qo fun _=>rfl),
  KC.own X G (fun _ _ _ _ _ _=>lj fun _ _=>rfl),
  JV.own X G (fun _ _ _ _ _ _=>lj fun _ _=>rfl),
  Lq.own X G (fun _ _ _ _ _ _=>lj fun _ _=>rfl),
  KZ.own X G (fun _ _ _ _ _ _=>lj fun _ _=>rfl),
  K0.own X G (fun _ _ _ _ _ _=>lj fun _ _=>rfl),
  Lr.own X G (fun _ _ _ _ _ _=>lj fun _ _=>rfl),
  Kl.own X G (fun _ _ _ _ _ _=>qo fun _=>rfl),
  IF.own X G (fun _ _ _ _ _ _=>lj fun _ _=>rfl),
  IG.own X G (fun _ _ _ _ _ _=>qo fun _=>rfl),
  HL.own X G (fun _ _ _ _ _ _=>lj fun _ _=>rfl),
  JW.own X G (fun _ _ _ _ _ _=>vS fun _ _ _=>rfl),
  Jg.own X G (fun _ _ _ _ _ _=>DJ fun _ _ _ _=>rfl),
  IS.own X G (fun _ _ _ _ _ _=>lj fun _ _=>rfl),
  Jy.own X G (fun _ _ _ _ _ _=>lj fun _ _=>rfl),
  Jz.own X G (fun _ _ _ _ _ _=>lj fun _ _=>rfl),
  Jh.own X G (fun _ _ _ _ _ _=>lj fun _ _=>rfl),
  JX.own X G (fun _ _ _ _ _ _=>lj fun _ _=>rfl),
  JA.own X G (fun _ _ _ _ _ _=>lj fun _ _=>rfl),
  Ji.own X G (fun _ _ _ _ _ _=>lj fun _ _=>rfl),
  JB.own X G (fun _ _ _ _ _ _=>qo fun _=>rfl),
  JC.own X G (fun _ _ _ _ _ _=>lj fun _ _=>rfl),
  JD.own X G (fun _ _ _ _ _ _=>DJ fun _ _ _ _=>rfl),
  Ib.own X G (fun _ _ _ _ _ _=>qo fun _=>rfl),
  HV.own X G (fun _ _ _ _ _ _=>qo fun _=>rfl),
  Ih.own X G (fun _ _ _ _ _ _=>DJ fun _ _ _ _=>rfl),
  Jj.own X G (fun _ _ _ _ _ _=>DJ fun _ _ _ _=>rfl),
  JE.own X G (fun _ _ _ _ _ _=>vS fun _ _ _=>rfl),
  Iw.own X G (fun _ _ _ _ _ _=>qo fun _=>rfl),
  Ii.own X G (fun _ _ _ _ _ _=>qo fun _=>rfl),
  Ix.own X G (fun _ _ _ _ _ _=>vS fun _ _ _=>rfl),
  Jk.own X G (fun _ _ _ _ _ _=>qo fun _=>rfl),
  JF.own X G (fun _ _ _ _ _ _=>lj fun _ _=>rfl),
  Jl.own X G (fun _ _ _ _ _ _=>lj fun _ _=>rfl),
  Iy.own X G (fun _ _ _ _ _ _=>lj fun _ _=>rfl),
  IU.own X G (fun _ _ _ _ _ _=>vS fun _ _ _=>rfl),
  Jm.own X G (fun _ _ _ _ _ _=>DJ fun _ _ _ _=>rfl),
  Iz.own X G (fun _ _ _ _ _ _=>Hf fun _ _ _ _ _ _=>rfl),
  Jn.own X G (fun _ _ _ _ _ _=>lj fun _ _=>rfl),
  Jo.own X G (fun _ _ _ _ _ _=>DJ fun _ _ _ _=>rfl),
  Jp.own X G (fun _ _ _ _ _ _=>lj fun _ _=>rfl),
  Jq.own X G (fun _ _ _ _ _ _=>lj fun _ _=>rfl),
  JY.own X G (fun _ _ _ _ _ _=>qo fun _=>rfl),
  IV.own X G (fun _ _ _ _ _ _=>lj fun _ _=>rfl),
  JZ.own X G (fun _ _ _ _ _ _=>vS fun _ _ _=>rfl),
  Jr.own X G (fun _ _ _ _ _ _=>lj fun _ _=>rfl),
  IH.own X G (fun _ _ _ _ _ _=>lj fun _ _=>rfl),
  gS (x:="abs") X G LA,
  gS (x:="all") X G LA,
  gS (x:="any") X G LA,
  gS (x:="bool") X G LA,
  gS (x:="dict") X G LA,
  gS (x:="enumerate") X G LA,
  gS (x:="int") X G LA,
  gS (x:="isinstance") X G LA,
  gS (x:="len") X G LA,
  gS (x:="list") X G LA,
  gS (x:="max") X G LA,
  gS (x:="range") X G LA,
  gS (x:="reversed") X G LA,
  gS (x:="set") X G LA,
  gS (x:="sorted") X G LA,
  gS (x:="sum") X G LA,
  gS (x:="tuple") X G LA,
  gS (x:="zip") X G LA,
  Js.kd X G⟩ O).ok⟩
def GI{l:PySem.W.OpenLaw}{q:Program}{loose:Vs}{XP:(Vr)->Heap->Prop}{YP:World->Heap->Prop}{d:DefRec}{K:Params->PySem.W.Frag}(hn:l.most=some 63)(hdf:d.params.defaults=[])
  (hY:∀(w:World) (h:Heap),YP w h->(K w.params).In h)
  (F:∀(w:World) (mg:Vr) (fa:Addr) (h:Heap),(K w.params).In h->h.Ns mainGlobals mg->mg d.name=some (.ref fa)->
   ∃fd:FuncData,(∀(s:Shared) (u:Value),BindsTo s fd ⟨[u],[]⟩ [("_law_script",u)])/\∀base:Heap,(K w.params).In base->base.Ns mainGlobals mg->nq l.prog w (K w.params) mg base yR 32 fa fd ["_law_script"] (EO (K w.params) 1 re)) :
  PySem.W.WalkO q loose XP YP l.row.toRowW d [] (fun f vs=>PySem.call f vs):=
 L2.zv (n:=63) (k:=32) (x:="_law_script") (CX:=fun _=>yR) (sp:=fun w=>EO (K w.params) 1 re) hn (by decide) hdf ⟨rfl,by decide,by decide,rfl⟩ hY F (fun _ _ a ns hl hO hS=>Gk hO hS (yO ns hl)) fun _ _ _ _ _ z=>z
end G38
local macro_rules | `(tactic| walk_at "k")=>`(tactic| (apply L3.Hg; k_is; k_is; k_is; k_is))
local macro_rules | `(tactic| walk_at "d")=>`(tactic| (apply L3.Hi; k_is; k_is; k_is; k_is; k_is; rfl))
open PySem PySem.W PyProof.Rows
set_option maxRecDepth 100000 in
set_option maxHeartbeats 0 in
theorem PySem.Challenge.cw_dueworth_k38_papers_looked_at_holds : PySem.Challenge.rw_dueworth_k38_papers_looked_at.Holds := by
 w_on; refine holds_law E38.said fun said => ?_
 refine holds_open (q := E38.vw) (loose := ["SIDES_FROM", "parts_reached"]) (Xt := fun s => (xlAt E38.vw [] s && recOk (RowW.records E38.rr) s)) (XP := XL E38.vw []) (N := 4260)
  (Yf := Hook.obs E38.hk) (Ya := Hook.val E38.hk) (YP := Hook.says (kHook E38.early.heap_1 E38.as E38.GJ)) E38.left (Hook.of E38.hk) (Hook.keeps E38.hk) (fun s e => xl_of s (Wf.mp e).1)
  XL.keeps rfl rfl rfl (fun s e => recFacts_of (Wf.mp e).2) rfl (by assumption)
  (by decide +kernel) ⟨rfl, rfl, rfl, rfl, rfl, by decide +kernel⟩ ?hw ?hc
 (case hw => w_witness2)
 k_fill
 refine G38.GI (l := PySem.Challenge.rw_dueworth_k38_papers_looked_at) rfl rfl (fun w h Y => PySem.W.kIn_of Y) ?F
 case F =>
  intro w mg fa h KX G hmg
  refine' G38.DB KX G hmg ?JS ?JT ?KU ?Kh ?Ki ?KW ?IE ?Ig ?Ir ?Kj ?KY ?IQ ?IR ?Iu ?Jx ?Kk ?JU ?KC ?JV ?Lq ?KZ ?K0 ?Lr ?Kl ?IF ?IG ?HL ?JW ?Jg ?IS ?Jy ?Jz ?Jh ?JX ?JA ?Ji ?JB ?JC ?JD ?Ib ?HV ?Ih ?Jj ?JE ?Iw ?Ii ?Ix ?Jk ?JF ?Jl ?Iy ?IU ?Jm ?Iz ?Jn ?Jo ?Jp ?Jq ?JY ?IV ?JZ ?Jr ?IH ?Js ?LA ?Nl
  (case JS => walk_at "k")
  (case JT => walk_at "k")
  (case KU => walk_at "k")
  (case Kh => walk_at "k")
  (case Ki => walk_at "k")
  (case KW => walk_at "k")
  (case IE => walk_at "k")
  (case Ig => walk_at "k")
  (case Ir => walk_at "k")
  (case Kj => walk_at "k")
  (case KY => walk_at "k")
  (case IQ => walk_at "k")
  (case IR => walk_at "k")
  (case Iu => walk_at "d")
  (case Jx => walk_at "k")
  (case Kk => walk_at "k")
  (case JU => walk_at "k")
  (case KC => walk_at "k")
  (case JV => walk_at "k")
  (case Lq => walk_at "k")
  (case KZ => walk_at "k")
  (case K0 => walk_at "k")
  (case Lr => walk_at "k")
  (case Kl => walk_at "k")
  (case IF => walk_at "k")
  (case IG => walk_at "k")
  (case HL => walk_at "k")
  (case JW => walk_at "k")
  (case Jg => walk_at "k")
  (case IS => walk_at "k")
  (case Jy => walk_at "k")
  (case Jz => walk_at "k")
  (case Jh => walk_at "k")
  (case JX => walk_at "k")
  (case JA => walk_at "k")
  (case Ji => walk_at "k")
  (case JB => walk_at "k")
  (case JC => walk_at "k")
  (case JD => walk_at "k")
  (case Ib => walk_at "k")
  (case HV => walk_at "k")
  (case Ih => walk_at "k")
  (case Jj => walk_at "k")
  (case JE => walk_at "k")
  (case Iw => walk_at "k")
  (case Ii => walk_at "k")
  (case Ix => walk_at "k")
  (case Jk => walk_at "k")
  (case JF => walk_at "k")
  (case Jl => walk_at "k")
  (case Iy => walk_at "k")
  (case IU => walk_at "k")
  (case Jm => walk_at "k")
  (case Iz => walk_at "k")
  (case Jn => walk_at "k")
  (case Jo => walk_at "k")
  (case Jp => walk_at "k")
  (case Jq => walk_at "k")
  (case JY => walk_at "k")
  (case IV => walk_at "k")
  (case JZ => walk_at "k")
  (case Jr => walk_at "k")
  (case IH => walk_at "k")
  (case Js => apply L3.Hh; k_is; k_is; rfl; exact L2.Cz _ w [("then", 1, _, _), ("either", 1, _, _), ("take", 3, _, _), ("often", 1, _, _)] _ (by decide +kernel))
  (case LA => kernel_rfl)
  (case Nl => walk_at "k")
#print axioms PySem.Challenge.cw_dueworth_k38_papers_looked_at_holds
