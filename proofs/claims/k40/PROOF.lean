import PyProof.Rows.All
import Wide.All
import OpenK.AllK
import Wide.FinOn
import Lean
import PyProof.EqAt
import PyProof.EqKinds
import PyProof.TupleCall
import PySem.Challenge.RW_dueworth_k40_rounds_that_have_more
import Open.Tree
import Open.Head
section
set_option Elab.async false
set_option linter.all false
set_option maxRecDepth 100000
set_option maxHeartbeats 0
abbrev VG:=@PySem.wpAny_bind
abbrev VH:=@List.length_append
abbrev VI:=@List.length_map
abbrev VJ:=@PySem.Heap.get?_push_of_some
abbrev VL:=@List.mem_cons
abbrev VM:=@Nat.le_refl
abbrev VN:=@List.mem_singleton
abbrev VO:=@List.mem_append
abbrev VP:=@PySem.wpAny_pure
abbrev VQ:=@List.size_toArray
abbrev VR:=@PySem.Heap.lt_size
abbrev VS:=@decide_eq_true_eq
abbrev VT:=@List.map_cons
abbrev VU:=@Nat.le_trans
abbrev VW:=@List.mem_map
abbrev VX:=@Bool.false_bne
abbrev VY:=@PySem.Heap.get?_push_size
abbrev VZ:=@Bool.false_eq_true
abbrev V0:=@List.length_singleton
abbrev V1:=@List.length_cons
abbrev V2:=@List.getElem?_map
abbrev V3:=@List.not_mem_nil
abbrev V4:=@List.getElem?_eq_some_iff
abbrev V5:=@PySem.PassesOwn.never
abbrev V6:=@List.mem_of_getElem?
abbrev V7:=@Nat.lt_of_lt_of_le
abbrev V8:=@List.getElem?_eq_getElem
abbrev V9:=@List.map_map
abbrev Wa:=@Nat.ne_of_lt
abbrev Wb:=@List.filter_append
abbrev Wc:=@decide_eq_false
abbrev We:=@List.map_append
abbrev Wf:=@List.mem_append_right
abbrev Wg:=@Option.map_eq_some_iff
abbrev Wh:=@List.append_nil
abbrev Wi:=@Int.le_refl
abbrev Wj:=@List.filter_cons_of_pos
abbrev Wk:=@Bool.false_ne_true
abbrev Wl:=@List.mem_flatMap
abbrev Wm:=@List.nil_append
abbrev Wn:=@List.length_nil
abbrev Wo:=@List.replicate_succ
abbrev Wq:=@PySem.wpAny_field
abbrev Wr:=@List.map_nil
abbrev Ws:=@Nat.zero_le
abbrev Wt:=@Bool.true_bne
abbrev Wu:=@decide_eq_true
abbrev Ww:=@List.getElem?_append_left
abbrev Wx:=@if_false
abbrev Wy:=@Nat.lt_of_le_of_lt
abbrev Wz:=@PySem.wpAny_pyIter_tuple
abbrev WA:=@List.getElem?_append_right
abbrev WB:=@if_true
abbrev WC:=@PySem.wpAny_callSpecial?_slot
abbrev WE:=@Nat.le_add_right
abbrev WG:=@Int.eq_ofNat_of_zero_le
abbrev WH:=@List.take_length
abbrev WI:=@List.mem_filter
abbrev WJ:=@List.nodup_cons
abbrev WK:=@or_false
abbrev WL:=@Bool.not_false
abbrev WM:=@PyProof.Rows.callWith_type1
abbrev WN:=@PySem.wpAny_pyIter_list
abbrev WO:=@PySem.wpAny_seqItems
abbrev WQ:=@List.length_replicate
abbrev WR:=@Option.some.inj
abbrev WS:=@List.length_take
abbrev WT:=@PySem.wpAny_loadPart'
abbrev WU:=@List.mem_append_left
abbrev WV:=@PySem.wpAny_setField_rec
abbrev WW:=@congrArg
abbrev WX:=@PyProof.Rows.slot_tuple_getitem
abbrev WY:=@Nat.zero_add
abbrev WZ:=@List.flatMap_append
abbrev W0:=@List.filter_cons_of_neg
abbrev W2:=@PySem.wpAny_newObj_type
abbrev W3:=@List.take_succ
abbrev W4:=@PySem.wpAny_call_entry
abbrev W5:=@Bool.not_true
abbrev W6:=@List.getElem?_eq_none
abbrev W7:=@List.length_filter_le
abbrev W8:=@List.mem_cons_of_mem
abbrev W9:=@PySem.Heap.size_push
abbrev Xd:=@Int.mul_nonneg
abbrev Xe:=@Nat.pow_lt_pow_right
abbrev Xf:=@List.fst_mem_of_mem_zipIdx
abbrev Xg:=@List.getD_eq_getElem?_getD
abbrev Xh:=@List.map_congr_left
abbrev Xi:=@Nat.not_le
abbrev Xj:=@PySem.builtinLookup_eq_fast
abbrev Xk:=@List.getElem?_replicate
abbrev Xl:=@Ne.symm
abbrev Xm:=@List.flatten_cons
abbrev Xn:=@List.append_assoc
abbrev Xo:=@PySem.Heap.IsTuple.push
abbrev Xp:=@decide_true
abbrev Xr:=@List.getElem?_zip_eq_some
abbrev Xs:=@PySem.Heap.get?_update_self
abbrev Xu:=@List.mem_cons_self
abbrev Xv:=@PySem.Heap.IsList.push
abbrev Xw:=@Nat.lt_irrefl
abbrev Xx:=@Nat.ne_of_gt
abbrev Xy:=@Nat.lt_trans
abbrev Xz:=@Int.le_of_lt
abbrev XA:=@Nat.pow_le_pow_right
abbrev XC:=@List.flatMap_cons
abbrev XE:=@decide_eq_false_iff_not
abbrev XF:=@PySem.F.slot_zip_next
abbrev XG:=@List.length_zip
abbrev XH:=@PySem.mem_of_lookup
abbrev XI:=@Nat.le_of_lt
abbrev XJ:=@PySem.Heap.get?_update_other
abbrev XM:=@Int.sub_self
abbrev XN:=@Bool.and_true
abbrev XO:=@List.length_drop
abbrev XQ:=@List.all_eq_true
abbrev XR:=@PyProof.Rows.assignInOrder_cons
abbrev XS:=@PySem.Calls.spliced_cons
abbrev XT:=@PySem.wpAny_Call_Name_kw
abbrev XU:=@PySem.call_meets
abbrev XW:=@PySem.F.slot_tuple_iterator_next
abbrev XX:=@PySem.Obj.data_mapFields
abbrev XY:=@List.take_append_drop
abbrev XZ:=@PySem.wpAny_passesOwn
abbrev Yb:=@PySem.typeLookup_type
abbrev Yc:=@Int.ediv_nonneg
abbrev Yd:=@PySem.wpAny_truthy_bool
abbrev Ye:=@decide_false
abbrev Yg:=@PySem.wpAny_holding
abbrev Yh:=@PySem.wpAny_rule
abbrev Yi:=@List.getElem?_take_of_lt
abbrev Yj:=@PySem.wpAny_onRaise
abbrev Yk:=@Int.mul_ediv_cancel_left
abbrev Yl:=@PySem.F.slot_tuple_index
abbrev Ym:=@List.mem_range
abbrev Yn:=@Int.fdiv_eq_ediv_of_dvd
abbrev Yo:=@PySem.wpAny_of_eq
abbrev Yp:=@PySem.wpAny_mono
abbrev Yq:=@PySem.Calls.callWith_builtin
abbrev Yr:=@Array.getElem?_eq_none
abbrev Ys:=@Int.mul_comm
abbrev Yt:=@Int.emod_lt_of_pos
abbrev Yu:=@List.length_zipIdx
abbrev Yv:=@Bool.eq_iff_iff
abbrev Yw:=@List.of_mem_zip
abbrev Yx:=@List.cons.injEq
abbrev Yy:=@Int.natCast_pos
abbrev Yz:=@PySem.wpAny_attempt
abbrev YA:=@PySem.Calls.spliced_nil
abbrev YB:=@Bool.and_eq_true_iff
abbrev YC:=@PySem.isSubtype_type
abbrev YD:=@List.getElem?_mapIdx
abbrev YE:=@Array.getElem?_eq_some_iff
abbrev YF:=@true_and
abbrev YG:=@PySem.wpAny_isInstance
abbrev YH:=@PySem.F.slot_tuple_mul
abbrev YI:=@List.filter_cons
abbrev YJ:=@Int.le_trans
abbrev YK:=@List.map_flatMap
abbrev YL:=@Array.getElem?_eq_getElem
abbrev YM:=@Classical.byContradiction
abbrev YN:=@Array.length_toList
abbrev YO:=@List.length_reverse
abbrev YQ:=@PySem.Heap.SameBut.update
abbrev YR:=@List.length_flatMap
abbrev YS:=@PySem.F.args_tuple_add_2
abbrev YT:=@List.any_cons
abbrev YU:=@PySem.F.slot_list_getattribute
abbrev YV:=@PySem.F.plainAttrs_tuple
abbrev YW:=@PySem.F.type_tuple_index
abbrev YX:=@PySem.wpAny_specialOf
abbrev YY:=@List.forIn_cons
abbrev YZ:=@Int.emod_nonneg
abbrev Y0:=@Int.le_max_left
abbrev Y3:=@PySem.tupleKind_room_in1
abbrev Y4:=@List.length_mapIdx
abbrev Y5:=@Int.mul_right_comm
abbrev Y6:=@PySem.F.entry_tuple_add
abbrev Y7:=@PySem.wpAny_letGo
abbrev Y8:=@PySem.F.plainAttrs_list
abbrev Y9:=@PySem.wpAny_bindName
abbrev Zb:=@PySem.F.slot_tuple_add
abbrev Zc:=@PySem.wpAny_typeOf
abbrev Zd:=@List.reverse_cons
abbrev Ze:=@Nat.le_of_eq
abbrev Zf:=@PySem.wpAny_setField
abbrev Zg:=@PySem.F.args_zip_next_1
abbrev Zh:=@PySem.wpAny_pyIter_enum
abbrev Zi:=@List.zip_map
abbrev Zj:=@Nat.le_mul_of_pos_left
abbrev Zk:=@Nat.succ.inj
abbrev Zl:=@List.eraseIdxIfInBounds_toArray
abbrev Zm:=@PySem.Obj.isFreed_of_fields
abbrev Zn:=@Nat.le_of_ble_eq_true
abbrev Zp:=@Bool.and_eq_true
abbrev Zz:=@PySem.F.entry_zip_next
abbrev ZA:=@PySem.wpAny_pyIter_zip
abbrev ZC:=@Int.not_lt
abbrev ZD:=@Int.ediv_le_self
abbrev ZE:=@Int.mul_assoc
abbrev ZF:=@PySem.Calls.evalArgs_plain
abbrev ZG:=@PySem.wpAny_updateSeq_pair
abbrev ZH:=@List.mem_of_mem_take
abbrev ZI:=@Int.mul_neg
abbrev ZJ:=@Int.neg_mul
abbrev ZK:=@PySem.Around.under_plainId
abbrev ZL:=@Int.mul_pos
abbrev ZM:=@PySem.wpAny_execs_nil
abbrev ZN:=@List.length_set
abbrev ZO:=@PySem.F.slot_int_rmul
abbrev ZP:=@beq_eq_false_iff_ne
abbrev ZQ:=@List.filterMap_cons
abbrev ZR:=@List.getElem?_range
abbrev ZS:=@List.sum_append_nat
abbrev ZT:=@Nat.succ_mul
abbrev ZU:=@List.getElem?_drop
abbrev ZV:=@List.nodup_nil
abbrev ZW:=@Int.natAbs_mul
abbrev ZX:=@Int.gcd_zero_right
abbrev ZY:=@Nat.mul_le_mul
abbrev ZZ:=@Int.mul_le_mul
abbrev Z0:=@List.take_sublist
abbrev Z1:=@Int.toNat_natCast
abbrev Z2:=@Option.isSome_map
abbrev Z3:=@Option.some.injEq
abbrev Z4:=@List.ext_getElem?
abbrev Z5:=@List.getElem?_set
abbrev Z6:=@List.nodup_append
abbrev Z7:=@Bool.not_eq_true'
abbrev Z8:=@List.sum_cons
abbrev Z9:=@PySem.W.mg_of
namespace ET
open PySem PySem.W PyProof.Rows
def j4(tb:String→Option Builtin)(p:Program)(w:World)(n₀:Nat)(ann:Option Value):Nat→SharedT→Thread→Option SharedT
 |0,_,_=>none
 |n+1,s,t=>match through t with
  |true=>some s
  |false=>match stepOk n₀ ann t with
   |false=>none
   |true=>match stepT (denote tb) p w s t with
    |some x=>j4 tb p w n₀ ann n x.1 x.2
    |none=>none
theorem pD{tb:String→Option Builtin}{p:Program}{w:World}{n₀:Nat}{ann:Option Value}:∀{n:Nat}{s s':SharedT}{t:Thread},j4 tb p w n₀ ann n s t=some s'→topRun tb p w n₀ ann n s.abs t=some s'.abs
 |0,_,_,_,h=>by cases h
 |n+1,s,s',t,h=>by
  unfold j4 at h
  unfold topRun
  cases he:through t with
  |true=>rw[he]at h;cases h;rfl
  |false=>
   rw[he]at h
   cases hk:stepOk n₀ ann t with
   |false=>rw[hk]at h;cases h
   |true=>
    rw[hk]at h
    cases hs:stepT (denote tb) p w s t with
    |none=>rw[hs]at h;cases h
    |some r=>rw[hs]at h;rw[stepT_spec hs];exact pD h
def F1:List Obj→BT→Nat→Option (BT×Nat)
 |[],t,n=>some (t,n)
 |o::os,t,n=>match ((t.ins n o).get n).isSome with
  |true=>F1 os (t.ins n o) (n+1)
  |false=>none
theorem vh{life:Life}:∀{os:List Obj}{t t':BT}{n n':Nat},F1 os t n=some (t',n')→absHeap t' n' life=⟨(absHeap t n life).objs++os.toArray,life⟩
 |[],t,t',n,n',h=>by cases h;simp[absHeap]
 |o::os,t,t',n,n',h=>by
  unfold F1 at h
  cases g:((t.ins n o).get n).isSome with
  |false=>rw[g]at h;cases h
  |true=>
   rw[g]at h
   rw[vh h,absHeap_ins g]
   simp[Heap.push]
def j5(tb:String→Option Builtin)(p:Program)(w:World)(N:Nat)(s₀:Shared):Option Shared:=
 match s₀.heap.isNs mainGlobals&&s₀.gens.size == 0 with
 |true=>match F1 s₀.heap.objs.toList .nil 0 with
  |some x=>match j4 tb p w x.2 (s₀.heap.nsMap mainGlobals "__annotations__") N ⟨x.1,x.2,s₀.heap.life,s₀.gens,s₀.drawn,s₀.toks,s₀.os⟩ (topStub p)with
   |some s=>match staticsOk (importedModules p.main.body) s₀.heap s.abs.heap&&namesBound p s.abs.heap&&gensDone s.abs&&laidKept s₀.heap s.abs.heap with
    |true=>some s.abs
    |false=>none
   |none=>none
  |none=>none
 |false=>none
theorem ub{tb:String→Option Builtin}{p:Program}{w:World}{N:Nat}{s₀ s:Shared}(h:j5 tb p w N s₀=some s):topFrom tb p w N s₀=some s:=by
 unfold j5 at h
 unfold topFrom
 cases h1:s₀.heap.isNs mainGlobals&&s₀.gens.size == 0 with
 |false=>rw[h1]at h;cases h
 |true=>
  rw[h1]at h
  dsimp only at h ⊢
  cases h2:F1 s₀.heap.objs.toList .nil 0 with
  |none=>rw[h2]at h;cases h
  |some x=>
   rw[h2]at h
   dsimp only at h
   have e:=vh (life:=s₀.heap.life) h2
   have e':absHeap x.1 x.2 s₀.heap.life=s₀.heap:=by
    rw[e]
    simp[absHeap,BT.list]
   have n':x.2=s₀.heap.objs.size:=by rw[←e',absHeap_size]
   cases h3:j4 tb p w x.2 (s₀.heap.nsMap mainGlobals "__annotations__") N ⟨x.1,x.2,s₀.heap.life,s₀.gens,s₀.drawn,s₀.toks,s₀.os⟩ (topStub p)with
   |none=>rw[h3]at h;cases h
   |some r=>
    rw[h3]at h
    dsimp only at h
    have ea:SharedT.abs ⟨x.1,x.2,s₀.heap.life,s₀.gens,s₀.drawn,s₀.toks,s₀.os⟩=s₀:=by
     unfold SharedT.abs
     rw[e']
    have:=pD h3
    rw[ea,n']at this
    rw[this]
    exact h
theorem uc{tb:String→Option Builtin}{p:Program}{w:World}{N:Nat}{s₀:Shared}{α:Type}{f:Shared→α}{a:α}(h:Option.map f (j5 tb p w N s₀)=some a):Option.map f (topFrom tb p w N s₀)=some a:=by
 obtain⟨s,h1,h2⟩:=Wg.mp h
 rw[ub h1]
 exact WW some h2
def seenT(p q:Program)(loose:List Str)(Xt:Shared→Bool){α:Type}(Yf:Shared→α)(N:Nat)(u u':World):=
 Option.map (fun c=>Option.map (fun s=>(openSeen q loose (importedModules p.main.body) Xt true s,Yf s)) (j5 treeTable p u' N c)) (fencedOpening treeTable p u N)
lay_quick seenT
theorem vi{p q:Program}{loose:List Str}{Xt:Shared→Bool}{α:Type}{Yf:Shared→α}{N:Nat}{u u':World}{r}(h:PySem.W.Fast.tw2787559817927863336 p q loose Xt Yf N u u'=r):seenT p q loose Xt Yf N u u'=r:=by
 rw[PySem.W.Fast.te2787559817927863336]
 exact h
theorem HL{p q:Program}{loose:List Str}{Xt:Shared→Bool}{α:Type}{Yf:Shared→α}{Ya:World→α}{N:Nat}
  (h:∀u:World,seenT p q loose Xt Yf N u u=some (some (openGood q loose,Ya u))):LeftO p q loose Xt Yf Ya N:=fun u=>by
 obtain⟨c,a,b⟩:=Wg.mp (h u)
 unfold openEnds
 rw[a]
 exact uc b
theorem xV{p q:Program}{loose:List Str}{Xt:Shared→Bool}{α:Type}{Yf:Shared→α}{Ya:World→α}{N:Nat}(row:String)
  (h0:∀u:World,seenT p q loose Xt Yf N u (u.withFollow row false)=some (some (openGood q loose,Ya (u.withFollow row false))))
  (h1:∀u:World,seenT p q loose Xt Yf N u (u.withFollow row true)=some (some (openGood q loose,Ya (u.withFollow row true)))):LeftO p q loose Xt Yf Ya N:=fun u=>by
 obtain⟨c,a,b⟩:=Wg.mp (h0 u)
 obtain⟨c',a',b'⟩:=Wg.mp (h1 u)
 have hc:c'=c:=by rw[a]at a';cases a';rfl
 subst hc
 have b:=uc b
 have b':=uc b'
 have hu:=World.withFollow_self u row
 unfold openEnds
 rw[a]
 cases hb:u.params.followText row<;>rw[hb]at hu
 ·rw[hu]at b
  exact b
 ·rw[hu]at b'
  exact b'
end ET
namespace E40
open PySem PySem.W PyProof.Rows
abbrev tp(i:Nat):Stmt:=PySem.Challenge.pw_dueworth_k40_rounds_that_have_more.main.body.getD i (.Pass ⟨0,0,0,0⟩)
/-- the text without what says nothing -/
def vw:Program:={ PySem.Challenge.pw_dueworth_k40_rounds_that_have_more with main:={ PySem.Challenge.pw_dueworth_k40_rounds_that_have_more.main with body:=[tp 1,tp 2,tp 3,tp 4,tp 6,tp 7,tp 8,tp 9,tp 10,tp 11,tp 12,tp 13,tp 15,tp 16,tp 17,tp 20,tp 21,tp 22,tp 24,tp 25,tp 26,tp 27,tp 28,tp 29,tp 30,tp 31,tp 32,tp 34,tp 35,tp 36,tp 38,tp 39,tp 40,tp 41,tp 42,tp 43,tp 44,tp 45,tp 46,tp 48,tp 49,tp 51,tp 52,tp 54,tp 55,tp 56,tp 57,tp 58,tp 60,tp 61,tp 62,tp 63,tp 64,tp 65,tp 66,tp 67,tp 68,tp 69,tp 70,tp 71,tp 72,tp 73,tp 74,tp 75,tp 76,tp 77,tp 78,tp 79,tp 80,tp 81,tp 82,tp 83] } }
abbrev rr:RowW:=OpenRow.toRowW (OpenLaw.row PySem.Challenge.rw_dueworth_k40_rounds_that_have_more)
local macro_rules | `(tactic| o_head $H)=>`(tactic|
 refine holds_open (q:=vw) (loose:=["SIDES_FROM","parts_reached"]) (Xt:=fun s=>(xlAt vw [] s&&recOk (RowW.records rr) s)) (XP:=XL vw []) (N:=4742)
  (Yf:=Hook.obs $H) (Ya:=Hook.val $H) (YP:=Hook.says $H) ?hl (Hook.of $H) (Hook.keeps $H) (fun s e=>xl_of s (YB.mp e).1)
  XL.keeps rfl rfl rfl (fun s e=>recFacts_of (YB.mp e).2) rfl (by assumption)
  (by decide +kernel) ⟨rfl,rfl,rfl,rfl,rfl,by decide +kernel⟩ ?hw ?hc)
/-- the law is well said: by the quick twin of the look,with no twin of the program -/
theorem said:OpenLaw.wellSaid PySem.Challenge.rw_dueworth_k40_rounds_that_have_more=true:=(congrFun PySem.W.Fast.te9446332074065402090 _).trans (by kernel_rfl)
/-- says nothing; what lies in the heap is written down by the way -/
theorem early(h:∀P:Prop,P):PySem.Challenge.rw_dueworth_k40_rounds_that_have_more.Holds:=by
 w_on;refine holds_law said fun said=>?_;k_head
 all_goals exact h _
abbrev as:List Addr:=[2,3,15,16,18,19,21,22,23,25,26,28,29,30,32,33,35,36,37,39,40,42,43,44,47,48,49,51,52,54,55,56,58,59,61,62,63,65,66,68,69,70,72,73,75,76,77,79,80,82,83,84,86,87,89,90,91,93,94,96,97,98,100,101,103,104,105,107,108,110,111,112,113,115,116,118,119,120,122,123,125,126,127,129,130,132,133,134,137,138,139,141,142,144,145,146,148,149,151,152,153,155,156,158,159,160,162,163,165,166,167,169,170,172,173,174,176,177,179,180,181,183,184,186,187,188,190,191,193,194,195,198,199,200,203,204,205,208,209,210,213,214,215,218,219,220,223,224,225,228,229,230,232,233,235,236,237,240,241,242,245,246,247,249,250,252,253,254,256,257,259,260,261,263,264,266,267,268,270,271,273,274,275,277,278,280,281,282,285,286,287,290,291,292,295,296,297,299,300,302,303,304,306,307,309,310,311,313,314,316,317,318,321,322,323,326,327,328,330,331,333,334,335,338,339,340,342,343,345,346,347,349,350,352,353,354,356,357,359,360,361,363,364,366,367,368,370,371,373,374,375,377,378,380,381,382,384,385,387,388,389,391,392,394,395,396,398,399,401,402,403,406,407,408,410,411,413,414,415,417,418,420,421,422,425,426,427,429,430,432,433,434,437,438,439,442,443,444,447,448,449,452,453,454,456,457,459,460,461,463,464,466,467,468,471,472]
theorem Jr(P:Params):as=(early.heap_1 P).map (·.1):=by kernel_rfl
noncomputable abbrev hk:Hook:=kHook early.heap_1 as Jr
theorem F2(u:World):ET.seenT (OpenLaw.row PySem.Challenge.rw_dueworth_k40_rounds_that_have_more).prog vw ["SIDES_FROM","parts_reached"] (fun s=>(xlAt vw [] s&&recOk (RowW.records rr) s)) (Hook.obs hk) 4742 u (u.withFollow "special-get-raises" false)=some (some (openGood vw ["SIDES_FROM","parts_reached"],Hook.val hk (u.withFollow "special-get-raises" false))):=ET.vi (by kernel_rfl)
theorem F3(u:World):ET.seenT (OpenLaw.row PySem.Challenge.rw_dueworth_k40_rounds_that_have_more).prog vw ["SIDES_FROM","parts_reached"] (fun s=>(xlAt vw [] s&&recOk (RowW.records rr) s)) (Hook.obs hk) 4742 u (u.withFollow "special-get-raises" true)=some (some (openGood vw ["SIDES_FROM","parts_reached"],Hook.val hk (u.withFollow "special-get-raises" true))):=ET.vi (by kernel_rfl)
theorem left:LeftO (OpenLaw.row PySem.Challenge.rw_dueworth_k40_rounds_that_have_more).prog vw ["SIDES_FROM","parts_reached"] (fun s=>(xlAt vw [] s&&recOk (RowW.records rr) s)) (Hook.obs hk) (Hook.val hk) 4742:=ET.xV "special-get-raises" F2 F3
end E40
end
open PySem in
abbrev Zq:=Value->Shared->Prop
open PySem in
abbrev Za:=List (Addr×Obj)
open PySem in
abbrev Zo:=PySem.W.Frag
open PySem in
abbrev Zr:=Str->Option Value
open PySem in
abbrev Zs:=List Str
open PySem in
abbrev Zw:=List Int
open PySem in
abbrev Zx:=List Value
open PySem in
abbrev Zy:=Array Value
set_option Elab.async false
set_option linter.all false
set_option maxRecDepth 100000
namespace L2
open PySem PySem.Spec PyProof.Rows
abbrev bo:=Sum Int Str
noncomputable def pE:bo->Value->Bool
 | .inl k,v=>Value.isInt k v
 | .inr x,v=>Value.isStrOf x v
noncomputable def Ih(w:World):bo->Int
 | .inl k=>hashInt k
 | .inr x=>hashStr w x
theorem bH:∀{k:bo}{v:Value},pE k v=true->(∃i t,k=Sum.inl i/\v=Value.int i t)\/(∃x t,k=Sum.inr x/\v=Value.str x t)
 | .inl i,v,h=>by
  obtain⟨t,e⟩:=Value.isInt_shape (k:=i) (v:=v) h
  exact .inl ⟨i,t,rfl,e⟩
 | .inr x,v,h=>by
  obtain⟨t,e⟩:=Value.isStrOf_shape (x:=x) (v:=v) h
  exact .inr ⟨x,t,rfl,e⟩
def wq(i:Int)(t:Tok):pE (.inl i) (.int i t)=true:=by simp[pE,Value.isInt]
def ld(x:Str)(t:Tok):pE (.inr x) (.str x t)=true:=by simp[pE,Value.isStrOf]
def Dx(a b:Int):decide ((Sum.inl a:bo)=Sum.inl b)=(a == b):=by
 by_cases e:a=b
 ·subst e;simp
 ·have h:¬(Sum.inl a:bo)=Sum.inl b:=fun q=>e (Sum.inl.inj q)
  rw[Wc h]
  exact(ZP.mpr e).symm
def Dy(a b:Str):decide ((Sum.inr a:bo)=Sum.inr b)=decide (a=b):=by
 by_cases e:a=b
 ·subst e;simp
 ·have h:¬(Sum.inr a:bo)=Sum.inr b:=fun q=>e (Sum.inr.inj q)
  rw[Wc h,Wc e]
def Dz(a:Int)(b:Str):decide ((Sum.inl a:bo)=Sum.inr b)=false:=Wc (fun q=>nomatch q)
def DA(a:Str)(b:Int):decide ((Sum.inr a:bo)=Sum.inl b)=false:=Wc (fun q=>nomatch q)
noncomputable def ba(prog:Program)(w:World):PySem.KeyKind prog w bo where
 is:=pE
 hash:=Ih w
 inj:=fun v a b ha hb=>by
  rcases bH ha with⟨i,t,rfl,rfl⟩|⟨x,t,rfl,rfl⟩
  ·rcases bH hb with⟨j,u,rfl,e⟩|⟨y,u,rfl,e⟩
   ·injection e with e1 _;rw[e1]
   ·exact nomatch e
  ·rcases bH hb with⟨j,u,rfl,e⟩|⟨y,u,rfl,e⟩
   ·exact nomatch e
   ·injection e with e1 _;rw[e1]
 byValue:=fun k v h=>by
  rcases bH h with⟨i,t,rfl,rfl⟩|⟨x,t,rfl,rfl⟩<;>rfl
 pyHash:=fun hv h=>by
  rcases bH hv with⟨i,t,rfl,rfl⟩|⟨x,t,rfl,rfl⟩
  ·exact wpAny_pyHash_int h
  ·exact wpAny_pyHash_str h
 eqBool:=fun hu hv h=>by
  rcases bH hu with⟨i,t,rfl,rfl⟩|⟨x,t,rfl,rfl⟩
  ·rcases bH hv with⟨j,u,rfl,rfl⟩|⟨y,u,rfl,rfl⟩
   ·rw[Dx]at h;exact wpAny_eqBool_int h
   ·rw[Dz]at h;exact SeqAt.EqAt.int_str i t y u _ _ _ _ h
  ·rcases bH hv with⟨j,u,rfl,rfl⟩|⟨y,u,rfl,rfl⟩
   ·rw[DA]at h;exact SeqAt.EqAt.str_int x t j u _ _ _ _ h
   ·rw[Dy]at h;exact wpAny_eqBool_str h
 «strs»:=fun k x t v h=>by
  rcases bH h with⟨i,u,rfl,e⟩|⟨y,u,rfl,e⟩
  ·exact nomatch e
  ·injection e with e1 _
   subst e1
   cases v<;>rfl
def su(prog:Program)(w:World)(i:Int)(t:Tok):(ba prog w).is (.inl i) (.int i t)=true:=wq i t
def sv(prog:Program)(w:World)(x:Str)(t:Tok):(ba prog w).is (.inr x) (.str x t)=true:=ld x t
inductive V where
 |non|bl (b:Bool)|int (i:Int)|str (x:Str)|PU (b:Array UInt8)|SA (b:UInt64)|ref (a:Addr)|ty (n:String)
 deriving DecidableEq
noncomputable def RelV:V->Value->Prop
 | .non,u=>u=Value.none
 | .bl b,u=>u=Value.bool b
 | .int i,u=>∃t,u=Value.int i t
 | .str x,u=>∃t,u=Value.str x t
 | .PU b,u=>∃t,u=Value.bytes b t
 | .SA b,u=>∃t,u=Value.float b t
 | .ref a,u=>u=Value.ref a
 | .ty n,u=>u=Value.type n
noncomputable abbrev Vals:List V->List Value->Prop:=Paired RelV
theorem Vals.length{xs:List V}{us:Zx}(r:Vals xs us):xs.length=us.length:=Paired.length r
theorem Vals.get:∀{xs:List V}{us:Zx}{i:Nat}{x:V},Vals xs us->xs[i]?=some x->∃u,us[i]?=some u/\RelV x u
 |_,_,_,_,.nil,e=>by simp at e
 |_,_,0,_,.cons r _,e=>by simp at e;subst e;exact⟨_,rfl,r⟩
 |_,_,i+1,x,.cons _ t,e=>by
  obtain⟨u,h1,h2⟩:=Vals.get (i:=i) (x:=x) t (by simpa using e)
  exact⟨u,by simpa using h1,h2⟩
theorem Vals.set{x:V}{u:Value}(r:RelV x u):∀{xs:List V}{us:Zx}(i:Nat),Vals xs us->Vals (xs.set i x) (us.set i u)
 |_,_,_,.nil=>.nil
 |_,_,0,.cons _ t=>.cons r t
 |_,_,i+1,.cons q t=>.cons q (Vals.set r i t)
theorem Vals.append:∀{xs ys:List V}{us ws:Zx},Vals xs us->Vals ys ws->Vals (xs++ys) (us++ws)
 |_,_,_,_,.nil,s=>s
 |_,_,_,_,.cons r t,s=>.cons r (Vals.append t s)
theorem Vals.take:∀{xs:List V}{us:Zx}(n:Nat),Vals xs us->Vals (xs.take n) (us.take n)
 |_,_,0,_=>.nil
 |_,_,_+1,.nil=>.nil
 |_,_,n+1,.cons r t=>.cons r (Vals.take n t)
theorem Vals.drop:∀{xs:List V}{us:Zx}(n:Nat),Vals xs us->Vals (xs.drop n) (us.drop n)
 |_,_,0,r=>r
 |_,_,_+1,.nil=>.nil
 |_,_,n+1,.cons _ t=>Vals.drop n t
noncomputable def RelO:Option V->Option Value->Prop
 |some v,some u=>RelV v u
 |none,none=>True
 |_,_=>False
noncomputable def KV{κ:Type}:List (κ×V)->List (κ×Value)->Prop:=Paired fun(p:κ×V) (q:κ×Value)=>p.1=q.1/\RelV p.2 q.2
noncomputable def kV:bo->V
 | .inl i=>.int i
 | .inr x=>.str x
inductive HO where
 /-- a list -/
 |lst (xs:List V)
 /-- a tuple (never changes) -/
 |tup (xs:List V)
 /-- a dict whose keys are ints and texts; one whose keys are tuples of ints and texts (the empty one is both) -/
 |dK (kvs:List (bo×V))|dT (kvs:List (List bo×V))
 /-- a set of ints: its members,its size -/
 |set (S:Int->Bool) (n:Nat)
 /-- an instance of the class at C,its dict at dx,its attributes -/
 |ins (C dx:Addr) (fs:List (Str×V))
 /-- the dict of the instance at x -/
 |own (x:Addr)
 /-- the dict of an exception -/
 |xd (fs:List (Str×V))
 /-- a bound method,f of x -/
 |met (f x:Addr)
 /-- a range object lo,lo + 1,.. below hi -/
 |SB (lo hi:Int)
 /-- a thing that is known to the object (the script; a dict while a loop walks it): read,never written while it is so -/
 |frz (o:Obj) (u:HO)
 /-- a code object's table -/
 |QV (ps:Zy)
 /-- any other thing,by what is true of its one object (a def of TR own: UC a S n:=HO.ext fun h=>..) -/
 |ext (φ:Heap->Prop)
abbrev Hp:=Addr->Option HO
noncomputable def upd(H:Hp)(a:Addr)(o:HO):Hp:=fun b=>if b=a then some o else H b
def aH{H:Hp}{a:Addr}{o:HO}:upd H a o a=some o:=by unfold upd;rw[if_pos rfl]
def aM{H:Hp}{a b:Addr}{o:HO}(h:b≠a):upd H a o b=H b:=by unfold upd;rw[if_neg h]
def F4{H:Hp}{a b:Addr}{o u:HO}(h:H a=some o)(h':H b=some u)(d:o≠u):a≠b:=by
 intro e;subst e;rw[h]at h';exact d (WR h')
def bw{H:Hp}{a b:Addr}{o:HO}(h:H a=some o)(h':H b=none):a≠b:=by
 intro e;subst e;rw[h]at h';cases h'
def KZ(h:Heap)(a:Addr)(its:Zy):Prop:=∃o,h.get? a=some o/\o.dict=none/\o.cls = .type "tuple"/\∃n,o.data = .seq its n
def KZ.tup{h:Heap}{a:Addr}{its:Zy}(x:KZ h a its):IsTup h a its:=let ⟨o,e,_,c,d⟩:=x;⟨o,e,c,d⟩
def KZ.new(h:Heap)(its:Zy):KZ (h.push { cls:=.type "tuple",data:=.seq its }) h.objs.size its:=⟨_,VY _ rfl,rfl,rfl,_,rfl⟩
section
variable (P:Program)(w:World)
noncomputable def KE(H:Hp)(h:Heap)(a:Addr):HO->Prop
 | .lst xs=>xs.length<=sizeLine/\∃(its:Zx) (n:Nat),Vals xs its/\h.get? a=some { cls:=.type "list",data:=.seq its.toArray n }
 | .tup xs=>xs.length<=sizeLine/\∃its:List Value,Vals xs its/\KZ h a its.toArray
 | .dK kvs=>kvs.length<=sizeLine/\(a == sysModules)=false/\∃vs,KV kvs vs/\h.DictOf (ba P w) a vs
 | .dT kvs=>kvs.length<=sizeLine/\(a == sysModules)=false/\∃xs:List (List bo×Addr×Value),
   Paired (fun(p:List bo×V) (q:List bo×Addr×Value)=>p.1=q.1/\H q.2.1=some (.tup (p.1.map kV))/\RelV p.2 q.2.2) kvs xs/\
   ∃o es ep,h.get? a=some o/\o.ExactDict/\o.data = .dict es ep/\es.toList=xs.map (entryOfKey (tupleKind (ba P w)))/\(xs.map (·.1)).Nodup
 | .set S n=>h.SetOf (intKind P w) a S n
 | .ins C dx fs=>H dx=some (.own a)/\fs.length<=1000/\dx≠a/\h.get? a=some (PySem.W.instObj C dx)/\
   ∃mA,h.Ns1 dx mA/\(∀f,RelO (fs.lookup f) (mA f))/\PySem.Within mA (fs.map (·.1))
 | .own _=>∃o,h.get? a=some o
 | .xd fs=>∃mA,h.Ns1 a mA/\∀f,RelO (fs.lookup f) (mA f)
 | .SB lo hi=>∃t u v,h.get? a=some { cls:=.type "range",data:=.fields #[.int lo t,.int hi u,.int 1 v] }
 | .frz o u=>h.get? a=some o/\KE H h a u
 | .QV ps=>h.get? a=some { cls:=.none,data:=.fields ps }
 | .met f x=>h.get? a=some (PySem.W.methodObj (.ref f) (.ref x))
 | .ext φ=>φ h/\(∃o,h.get? a=some o)/\∀h1 h2:Heap,φ h1->(∀o,h1.get? a=some o->h2.get? a=some o)->φ h2
def MS(H:Hp)(h:Heap):Prop:=∀a o,H a=some o->KE P w H h a o
end
section
variable {P:Program}{w:World}{H H':Hp}{h h':Heap}{a:Addr}{o:HO}
theorem KE.lt(x:KE P w H h a o):a < h.objs.size:=by
 cases o with
 |lst xs=>obtain⟨_,_,_,_,e⟩:=x;exact VR e
 |tup xs=>obtain⟨_,_,_,p⟩:=x;exact p.tup.lt
 |dK kvs=>obtain⟨_,_,_,_,o,_,_,e,_⟩:=x;exact VR e
 |dT kvs=>obtain⟨_,_,_,_,o,_,_,e,_⟩:=x;exact VR e
 |set S n=>obtain⟨o,_,_,_,e,_⟩:=x;exact VR e
 |ins C dx fs=>obtain⟨_,_,_,e,_⟩:=x;exact VR e
 |own y=>obtain⟨_,e⟩:=x;exact VR e
 |xd fs=>obtain⟨_,⟨_,_,_,e,_⟩,_⟩:=x;exact VR e
 |SB lo hi=>obtain⟨_,_,_,e⟩:=x;exact VR e
 |frz ob u=>obtain⟨e,_⟩:=x;exact VR e
 |QV ps=>exact VR (show h.get? a=some _ from x)
 |met f y=>exact VR (show h.get? a=some _ from x)
 |ext φ=>obtain⟨_,⟨_,e⟩,_⟩:=x;exact VR e
theorem Paired.QW{α β:Type}{F G:α->β->Prop}:∀{l₁:List α}{l₂:List β},Paired F l₁ l₂->(∀a b,F a b->G a b)->Paired G l₁ l₂
 |_,_,.nil,_=>.nil
 |_,_,.cons r t,f=>.cons (f _ _ r) (Paired.QW t f)
def KE.stay(x:KE P w H h a o)(k:∀b u,(b=a\/H b=some (.own a))->h.get? b=some u->h'.get? b=some u)
  (ho:∀b,H b=some (.own a)->H' b=some (.own a)) (ht:∀b xs,H b=some (.tup xs)->H' b=some (.tup xs)):KE P w H' h' a o:=by
 induction o with
 |lst xs=>obtain⟨z,its,n,r,e⟩:=x;exact⟨z,its,n,r,k _ _ (.inl rfl) e⟩
 |tup xs=>obtain⟨z,its,r,ob,e,c⟩:=x;exact⟨z,its,r,ob,k _ _ (.inl rfl) e,c⟩
 |dK kvs=>obtain⟨z,y,vs,r,ob,es,ep,e,c⟩:=x;exact⟨z,y,vs,r,ob,es,ep,k _ _ (.inl rfl) e,c⟩
 |dT kvs=>
  obtain⟨z,y,xs,r,ob,es,ep,e,c⟩:=x
  exact⟨z,y,xs,Paired.QW r fun p q z=>⟨z.1,ht _ _ z.2.1,z.2.2⟩,ob,es,ep,k _ _ (.inl rfl) e,c⟩
 |set S n=>obtain⟨ob,es,ep,t,e,c⟩:=x;exact⟨ob,es,ep,t,k _ _ (.inl rfl) e,c⟩
 |ins C dx fs=>
  obtain⟨d,z,ne,e,mA,⟨od,es,ep,e2,c⟩,r⟩:=x
  exact⟨ho _ d,z,ne,k _ _ (.inl rfl) e,mA,⟨od,es,ep,k _ _ (.inr d) e2,c⟩,r⟩
 |own y=>obtain⟨ob,e⟩:=x;exact⟨ob,k _ _ (.inl rfl) e⟩
 |xd fs=>obtain⟨mA,⟨od,es,ep,e,c⟩,r⟩:=x;exact⟨mA,⟨od,es,ep,k _ _ (.inl rfl) e,c⟩,r⟩
 |SB lo hi=>obtain⟨t,u,v,e⟩:=x;exact⟨t,u,v,k _ _ (.inl rfl) e⟩
 |frz ob u ih=>obtain⟨e,q⟩:=x;exact⟨k _ _ (.inl rfl) e,ih q⟩
 |QV ps=>
  have e:h.get? a=some { cls:=.none,data:=.fields ps }:=x
  show h'.get? a=some { cls:=.none,data:=.fields ps }
  exact k a _ (.inl rfl) e
 |met f y=>
  have e:h.get? a=some (PySem.W.methodObj (.ref f) (.ref y)):=x
  show h'.get? a=some (PySem.W.methodObj (.ref f) (.ref y))
  exact k a _ (.inl rfl) e
 |ext φ=>obtain⟨p,⟨o,e⟩,st⟩:=x;exact⟨st _ _ p fun o q=>k _ _ (.inl rfl) q,⟨o,k _ _ (.inl rfl) e⟩,st⟩
theorem MS.lt(x:MS P w H h)(e:H a=some o):a < h.objs.size:=(x a o e).lt
def MS.fresh(x:MS P w H h)(e:h.objs.size<=a):H a=none:=by
 cases q:H a with
 |none=>rfl
 |some u=>exact absurd (V7 (x.lt q) e) (Xw _)
def MS.kept(x:MS P w H h)(k:∀b u,h.get? b=some u->h'.get? b=some u):MS P w H h':=fun a o e=>
 (x a o e).stay (fun b u _ q=>k b u q) (fun _ q=>q) fun _ _ q=>q
def MS.laid(x:MS P w H h)(k:∀b u,h.get? b=some u->h'.get? b=some u)(hp:h.objs.size<=a)(new:KE P w (upd H a o) h' a o):MS P w (upd H a o) h':=fun b u e=>by
 have hn:=x.fresh hp
 by_cases hb:b=a
 ·subst hb;rw[aH]at e;cases e;exact new
 ·rw[aM hb]at e
  exact(x b u e).stay (fun c v _ q=>k c v q) (fun c q=>by rw[aM (bw q hn)];exact q) fun c xs q=>by rw[aM (bw q hn)];exact q
end
def Rd(H:Hp)(a:Addr)(u:HO):Prop:=H a=some u\/∃o,H a=some (.frz o u)
def Rd.ok{P:Program}{w:World}{H:Hp}{h:Heap}{a:Addr}{u:HO}(r:Rd H a u)(x:MS P w H h):KE P w H h a u:=by
 rcases r with r|⟨o,r⟩
 ·exact x a u r
 ·obtain⟨_,q⟩:=x a _ r
  exact q
noncomputable def F5:Option HO->Prop
 |some (.lst _)=>True
 |some (.dK _)=>True
 |some (.dT _)=>True
 |some (.set _ _)=>True
 |some (.ins _ _ _)=>True
 |some (.ext _)=>True
 |_=>False
section
variable {P:Program}{w:World}{H:Hp}{h h':Heap}{x e:Addr}{o':HO}
def MS.write(ok:MS P w H h)(mu:F5 (H x))(he:e=x\/H e=some (.own x))(k:∀b u,b≠e->h.get? b=some u->h'.get? b=some u)(Rn:∃u,h'.get? e=some u)
  (new:KE P w (upd H x o') h' x o'):MS P w (upd H x o') h':=fun b u q=>by
 have Rv:∀c y,H c=some (.own y)->c≠x:=fun c y r z=>by subst z;rw[r]at mu;exact mu
 have SC:∀c xs,H c=some (.tup xs)->c≠x:=fun c xs r z=>by subst z;rw[r]at mu;exact mu
 by_cases hb:b=x
 ·subst hb;rw[aH]at q;cases q;exact new
 ·rw[aM hb]at q
  by_cases QX:b=e
  ·have q':H b=some (.own x):=by
    rcases he with z|z
    ·exact absurd (QX.trans z) hb
    ·rw[QX];exact z
   rw[q]at q';cases q'
   obtain⟨v,hv⟩:=Rn
   exact⟨v,by rw[QX];exact hv⟩
  ·refine(ok b u q).stay (fun c v hc r=>k c v ?_ r) (fun c r=>by rw[aM (Rv c b r)];exact r) fun c xs r=>by rw[aM (SC c xs r)];exact r
   rcases hc with rfl|hc
   ·exact QX
   ·rintro rfl
    rcases he with z|z
    ·exact Rv c b hc z
    ·rw[hc]at z;cases z;exact hb rfl
end
structure Un(fs ex:List Addr)(H H':Hp)(h h':Heap):Prop where
 keep:∀b o,h.get? b=some o->H b=none->b ∉ fs->b ∉ ex->h'.get? b=some o
 slot:∀b o,h.get? b=some o->H b=none->b∈fs->b ∉ ex->∃sl,h'.get? b=some { o with slots:=sl }
 free:∀b o,h.get? b=some o->H b=none->b ∉ ex->H' b=none
 there:∀b o,h.get? b=some o->b ∉ ex->∃o',h'.get? b=some o'
 tups:∀b xs,H b=some (.tup xs)->H' b=some (.tup xs)
 Oj:∀b o u,H b=some (.frz o u)->H' b=some (.frz o u)
 ON:∀b ps,H b=some (.QV ps)->∃more,H' b=some (.QV (ps++more))
section
variable {fs fs' ex ex':List Addr}{H H1 H2:Hp}{h h1 h2 h':Heap}{a x e:Addr}{o:HO}
def Un.any(u:Un fs ex H H1 h h1){b:Addr}{ob:Obj}(q:h.get? b=some ob)(n:H b=none)(hx:b ∉ ex):∃sl,h1.get? b=some { ob with slots:=sl }:=by
 by_cases hb:b∈fs
 ·exact u.slot b ob q n hb hx
 ·exact⟨ob.slots,u.keep b ob q n hb hx⟩
def Un.kept(k:∀b u,h.get? b=some u->h'.get? b=some u):Un fs ex H H h h':=
 ⟨fun b ob q _ _ _=>k b ob q,fun b ob q _ _ _=>⟨ob.slots,k b ob q⟩,fun _ _ _ n _=>n,fun b ob q _=>⟨ob,k b ob q⟩,fun _ _ q=>q,fun _ _ _ q=>q,fun _ ps q=>⟨#[],by rw[q];simp⟩⟩
def Un.refl:Un fs ex H H h h:=Un.kept fun _ _ q=>q
def Un.laid(k:∀b u,h.get? b=some u->h'.get? b=some u)(hp:h.objs.size<=a)(hn:H a=none):Un fs ex H (upd H a o) h h' where
 keep:=fun b u q _ _ _=>k b u q
 slot:=fun b u q _ _ _=>⟨u.slots,k b u q⟩
 free:=fun b u q n _=>by rw[aM (Wa (V7 (VR q) hp))];exact n
 there:=fun b u q _=>⟨u,k b u q⟩
 tups:=fun b xs q=>by rw[aM (bw q hn)];exact q
 Oj:=fun b u xs q=>by rw[aM (bw q hn)];exact q
 ON:=fun b ps q=>⟨#[],by rw[aM (bw q hn),q];simp⟩
def Un.write(mu:F5 (H x))(he:e=x\/H e=some (.own x))(k:∀b u,b≠e->h.get? b=some u->h'.get? b=some u)(Rn:∃u,h'.get? e=some u):Un fs ex H (upd H x o) h h':=by
 have hx:∀b,H b=none->b≠x:=fun b n z=>by subst z;rw[n]at mu;exact mu
 have hb:∀b,H b=none->b≠e:=fun b n z=>by
  subst z
  rcases he with r|r
  ·exact hx b n r
  ·rw[n]at r;cases r
 have hm:∀b u,H b=some u->¬F5 (some u)->b≠x:=fun b u q nm z=>by subst z;rw[q]at mu;exact nm mu
 refine⟨fun b u q n _ _=>k b u (hb b n) q,fun b u q n _ _=>⟨u.slots,k b u (hb b n) q⟩,fun b u q n _=>by rw[aM (hx b n)];exact n,fun b u q _=>?_,
  fun b xs q=>by rw[aM (hm b _ q fun z=>z)];exact q,fun b u xs q=>by rw[aM (hm b _ q fun z=>z)];exact q,fun b ps q=>⟨#[],by rw[aM (hm b _ q fun z=>z),q];simp⟩⟩
 by_cases QX:b=e
 ·subst QX;exact Rn
 ·exact⟨u,k b u QX q⟩
end
noncomputable def HM(h:Heap)(H:Hp):List Addr:=(List.range h.objs.size).filter fun a=>(H a).isSome
noncomputable def qy(h:Heap)(H:Hp):Heap:=PySem.W.hideAll h (HM h H)
def wu(h:Heap)(H:Hp):(qy h H).objs.size=h.objs.size:=PySem.W.hideAll_size _ _
def xW{h:Heap}{H:Hp}{b:Addr}{o:Obj}(e:h.get? b=some o)(n:H b=none):(qy h H).get? b=some o:=
 PySem.W.hideAll_get _ e fun hm=>by
  have q:(H b).isSome=true:=(WI.mp hm).2
  rw[n]at q;simp at q
def AQ{h:Heap}{H:Hp}{b:Addr}{o:Obj}(e:(qy h H).get? b=some o):h.get? b=some o/\H b=none:=by
 have e':h.get? b=some o:=PySem.W.of_hideAll (HM h H) e
 refine⟨e',?_⟩
 cases q:H b with
 |none=>rfl
 |some x=>
  have hm:b∈HM h H:=WI.mpr ⟨Ym.mpr (VR e'),by simp[q]⟩
  have z:(qy h H).get? b=none:=PySem.W.hideAll_none (HM h H) hm
  rw[z]at e;cases e
structure Mod(K:Zo)(mg:Zr)(base:Heap):Prop where
 SD:K.In base
 glob:base.Ns mainGlobals mg
 blt:∃mb,base.Ns builtinsNs mb/\∀x:Str,x ≠ "__name__"->mb x=bootBuiltins x
 nolimit:base.NoLimit
structure Cx where
 prog:Program
 w:World
 K:Zo
 mg:Zr
 base:Heap
 A:Around
 N:List Str
 s₀:Shared
 H₀:Hp
 env:Env
 outer:List Env
 stack:List Env
 ex:List Addr
 fn:Str->Bool
 calm:Bool
 pn:Za
 xe:Value->Shared->Prop
noncomputable def frs(l:List Env):List Addr:=l.filterMap (·.frame)
noncomputable abbrev Cx.fs(X:Cx):List Addr:=frs X.outer
def HN(sc:Scope)(x:Str):Prop:=sc.names.lookup x=some .local\/sc.names.lookup x=some .cell\/sc.names.lookup x=some .free
def C3(sc:Scope)(x:Str):Prop:=sc.names.lookup x=some .local\/sc.names.lookup x=some .cell
def Ii(env:Env)(h:Heap)(m:Zr)(x:Str)(u:Value):Prop:=
 (env.kindOf x=some .local/\m x=some u)\/((env.kindOf x=some .cell\/env.kindOf x=some .free)/\∃c,env.cells.lookup x=some c/\h.IsCell c (some u))
structure Cx.Ok(X:Cx):Prop where
 mod:Mod X.K X.mg X.base
 kind:X.env.scope.kind = .function
 glob:X.env.globals=mainGlobals
 blt:X.env.builtins=builtinsNs
 above:X.s₀.heap.objs.size<=X.env.locals
 inj:∀x y c,X.env.cells.lookup x=some c->X.env.cells.lookup y=some c->x=y
 has:∀x,(X.env.kindOf x=some .cell\/X.env.kindOf x=some .free)->∃c,X.env.cells.lookup x=some c
 Ro:∀x c,X.fn x=true->X.env.cells.lookup x=some c->X.s₀.heap.objs.size<=c
 hd:X.calm=true->X.A.handled=none
 frames:X.A.frames=some X.stack
 stk:X.stack=X.outer\/(X.stack=X.env::X.outer/\X.env.frame=some X.env.locals)
 SE:∀b∈X.ex,b≠X.env.locals/\∀x c,X.env.cells.lookup x=some c->c≠b
 bs:∀b o,X.base.get? b=some o->X.s₀.heap.get? b=some o/\X.H₀ b=none
 Qn:X.base.objs.size<=X.s₀.heap.objs.size
 PC:∀b o,X.base.get? b=some o->b ∉ X.ex
 PX:∀b∈X.ex,b ∉ X.fs
 NO:X.s₀.heap.FunFrames X.base X.outer
 QY:∀b∈X.fs,X.H₀ b=none
structure Inv(X:Cx)(pins:Za)(σ:List (Option V))(H:Hp)(s:Shared):Prop where
 ok:X.Ok
 os:s.os=X.s₀.os
 bare:AllBare s.gens
 base:Un X.fs X.ex X.H₀ H X.s₀.heap s.heap
 loc:∃m,s.heap.Ns X.env.locals m/\∀(i:Nat)(x:Str)(v:V),X.N[i]?=some x->σ[i]?=some (some v)->HN X.env.scope x->∃u,RelV v u/\Ii X.env s.heap m x u
 cell:∀x c,X.env.cells.lookup x=some c->∃v,s.heap.IsCell c v
 free:H X.env.locals=none
 MC:∀x c,X.env.cells.lookup x=some c->H c=none
 pin:∀p∈X.pn++pins,s.heap.get? p.1=some p.2/\H p.1=none/\p.1≠X.env.locals/\p.1 ∉ X.fs/\∀v,p.2.data ≠ .cell v
 hok:MS X.prog X.w H s.heap
 len:σ.length=X.N.length
section
variable {X:Cx}{pins:Za}{σ:List (Option V)}{H H':Hp}{s:Shared}{h':Heap}
def Cx.Ok.SF(ok:X.Ok){b:Addr}{o:Obj}(e:X.base.get? b=some o):b ∉ X.fs:=fun hb=>by
 have:=(ok.NO.mem hb).1
 rw[e]at this;cases this
theorem Inv.bs(I:Inv X pins σ H s):∀b o,X.base.get? b=some o->s.heap.get? b=some o/\H b=none:=fun b o e=>
 ⟨I.base.keep b o (I.ok.bs b o e).1 (I.ok.bs b o e).2 (I.ok.SF e) (I.ok.PC b o e),I.base.free b o (I.ok.bs b o e).1 (I.ok.bs b o e).2 (I.ok.PC b o e)⟩
def Inv.bk(I:Inv X pins σ H s):∀b o,X.base.get? b=some o->s.heap.get? b=some o:=fun b o e=>(I.bs b o e).1
theorem Inv.mod(I:Inv X pins σ H s):Mod X.K X.mg X.base:=I.ok.mod
def Inv.PY(I:Inv X pins σ H s):X.K.In s.heap:=I.ok.mod.SD.keeps I.bk
theorem Inv.lt(I:Inv X pins σ H s):X.env.locals < s.heap.objs.size:=let ⟨_,hn,_⟩:=I.loc;hn.lt
def Inv.sz(I:Inv X pins σ H s):X.s₀.heap.objs.size<=s.heap.objs.size:=VU I.ok.above (XI I.lt)
def Inv.Rx(I:Inv X pins σ H s){a:Addr}(h:s.heap.objs.size<=a):a ∉ X.fs:=fun hb=>by
 obtain⟨_,o,ho,_⟩:=I.ok.NO.mem hb
 exact absurd (V7 (VR ho) (VU I.sz h)) (Xw _)
def Inv.QZ(I:Inv X pins σ H s):∀x c,X.env.cells.lookup x=some c->c≠X.env.locals:=fun x c e z=>by
 obtain⟨v,o,ho,hd⟩:=I.cell x c e
 obtain⟨m,⟨o',es,ep,ho',hd',_⟩,_⟩:=I.loc
 rw[z,ho']at ho;cases ho;rw[hd']at hd;cases hd
theorem Inv.NO(I:Inv X pins σ H s):s.heap.FunFrames X.base X.outer:=by
 have all:∀(l:List Env),(∀b∈frs l,b∈X.fs)->X.s₀.heap.FunFrames X.base l->s.heap.FunFrames X.base l:=by
  intro l
  induction l with
  |nil=>intro _ _;trivial
  |cons env r ih=>
   intro hs hl
   obtain⟨hk,⟨L,o,hf,hn,ho,hd⟩,hr⟩:=hl
   have hL:L∈X.fs:=hs L (by unfold frs;rw[ZQ,hf];exact Xu)
   obtain⟨sl,e⟩:=I.base.slot L o ho (I.ok.QY L hL) hL fun z=>I.ok.PX L z hL
   exact⟨hk,⟨L,_,hf,hn,e,hd⟩,ih (fun b hb=>hs b (by unfold frs;rw[ZQ,hf];exact W8 _ hb)) hr⟩
 exact all X.outer (fun _ hb=>hb) I.ok.NO
theorem Inv.stack(I:Inv X pins σ H s):s.heap.FunFrames X.base X.stack:=by
 rcases I.ok.stk with e|⟨e,hf⟩
 ·rw[e];exact I.NO
 ·rw[e]
  obtain⟨m,hn,_⟩:=I.loc
  refine .cons (by rw[I.ok.kind];decide) hf hn ?_ I.NO
  exact Heap.get?_none_of_le (VU I.ok.Qn I.ok.above)
def Inv.Nq(I:Inv X pins σ H s):∀b∈frs X.stack,b∈X.env.locals::X.fs:=fun b hb=>by
 rcases I.ok.stk with e|⟨e,hf⟩
 ·rw[e]at hb;exact W8 _ hb
 ·rw[e]at hb
  unfold frs at hb
  rw[ZQ,hf]at hb
  exact hb
def Inv.Pt(I:Inv X pins σ H s):∀b∈frs X.stack,H b=none:=fun b hb=>by
 rcases VL.mp (I.Nq b hb)with e|hb
 ·rw[e];exact I.free
 ·obtain⟨_,o,ho,_⟩:=I.ok.NO.mem hb
  exact I.base.free b o ho (I.ok.QY b hb) fun z=>I.ok.PX b z hb
def Inv.step{g':Array GenState}{t':Nat}{d':Drawn}{ch:List Addr}(I:Inv X pins σ H s)
  (hch:∀b∈ch,(b∈X.ex\/X.s₀.heap.objs.size<=b)/\b≠X.env.locals/\(∀x c,X.env.cells.lookup x=some c->c≠b)/\∀p∈X.pn++pins,p.1≠b)
  (keep:∀b o,b≠X.env.locals->b ∉ X.fs->b ∉ ch->s.heap.get? b=some o->H b=none->h'.get? b=some o)
  (slot:∀b o,b≠X.env.locals->b∈X.fs->b ∉ ch->s.heap.get? b=some o->H b=none->∃sl,h'.get? b=some { o with slots:=sl }) (free:∀b o,b ∉ ch->s.heap.get? b=some o->H b=none->H' b=none)
  (there:∀b o,b ∉ ch->s.heap.get? b=some o->∃o',h'.get? b=some o')
  (tups:∀b xs,H b=some (.tup xs)->H' b=some (.tup xs)) (Oj:∀b o u,H b=some (.frz o u)->H' b=some (.frz o u)) (ON:∀b ps,H b=some (.QV ps)->∃more,H' b=some (.QV (ps++more)))
  (ns:∀m,s.heap.Ns X.env.locals m->h'.Ns X.env.locals m) (hok:MS X.prog X.w H' h') (hg:AllBare g') :
  Inv X pins σ H' { s with heap:=h',gens:=g',drawn:=d',toks:=t' }:=by
 have TU:∀b o,X.s₀.heap.get? b=some o->b≠X.env.locals:=fun b o e=>Wa (V7 (VR e) I.ok.above)
 have R_:∀b o,X.s₀.heap.get? b=some o->b ∉ X.ex->b ∉ ch:=fun b o e hx hb=>by
  rcases(hch b hb).1 with z|z
  ·exact hx z
  ·exact absurd (V7 (VR e) z) (Xw _)
 have cellK:∀x c,X.env.cells.lookup x=some c->∀v,s.heap.IsCell c v->h'.IsCell c v:=fun x c e v ⟨o,ho,hd⟩=>by
  have Ry:c ∉ ch:=fun z=>(hch c z).2.2.1 x c e rfl
  by_cases hc:c∈X.fs
  ·obtain⟨sl,q⟩:=slot c o (I.QZ x c e) hc Ry ho (I.MC x c e)
   exact⟨_,q,hd⟩
  ·exact⟨o,keep c o (I.QZ x c e) hc Ry ho (I.MC x c e),hd⟩
 refine⟨I.ok,I.os,hg,⟨fun b o e n hb hx=>?_,fun b o e n hb hx=>?_,fun b o e n hx=>?_,fun b o e hx=>?_,fun b xs e=>tups b xs (I.base.tups b xs e),fun b o xs e=>Oj b o xs (I.base.Oj b o xs e),fun b ps e=>?_⟩,?_,fun x c e=>?_,?_,fun x c e=>?_,fun p hp=>?_,hok,I.len⟩
 ·exact keep b o (TU b o e) hb (R_ b o e hx) (I.base.keep b o e n hb hx) (I.base.free b o e n hx)
 ·obtain⟨sl,e1⟩:=I.base.slot b o e n hb hx
  obtain⟨sl',e2⟩:=slot b _ (TU b o e) hb (R_ b o e hx) e1 (I.base.free b o e n hx)
  exact⟨sl',e2⟩
 ·obtain⟨o',e1⟩:=I.base.there b o e hx
  exact free b o' (R_ b o e hx) e1 (I.base.free b o e n hx)
 ·obtain⟨o',e1⟩:=I.base.there b o e hx
  exact there b o' (R_ b o e hx) e1
 ·obtain⟨m1,e1⟩:=I.base.ON b ps e
  obtain⟨m2,e2⟩:=ON b _ e1
  exact⟨m1++m2,by rw[e2,Array.append_assoc]⟩
 ·obtain⟨m,hn,hl⟩:=I.loc
  refine⟨m,ns m hn,fun i x v e1 e2 e3=>?_⟩
  obtain⟨u,r,l⟩:=hl i x v e1 e2 e3
  refine⟨u,r,?_⟩
  rcases l with l|⟨k,c,e,z⟩
  ·exact .inl l
  ·exact .inr ⟨k,c,e,cellK x c e _ z⟩
 ·obtain⟨v,z⟩:=I.cell x c e
  exact⟨v,cellK x c e v z⟩
 ·obtain⟨m,⟨o,_,_,ho,_⟩,_⟩:=I.loc
  exact free _ o (fun z=>(hch _ z).2.1 rfl) ho I.free
 ·obtain⟨v,o,ho,hd⟩:=I.cell x c e
  exact free c o (fun z=>(hch c z).2.2.1 x c e rfl) ho (I.MC x c e)
 ·obtain⟨e,n,ne,nf,d⟩:=I.pin p hp
  have Ry:p.1 ∉ ch:=fun z=>(hch p.1 z).2.2.2 p hp rfl
  exact⟨keep p.1 p.2 ne nf Ry e n,free p.1 p.2 Ry e n,ne,nf,d⟩
def Inv.un{t':Nat}(I:Inv X pins σ H s)(u:Un X.fs [] H H' s.heap h')(hok:MS X.prog X.w H' h'):Inv X pins σ H' { s with heap:=h',toks:=t' }:=by
 obtain⟨m,⟨o,es,ep,ho,r⟩,_⟩:=id I.loc
 obtain⟨sl,hL⟩:=u.any ho I.free (by simp)
 exact I.step (g':=s.gens) (d':=s.drawn) (ch:=[]) (fun _ z=>nomatch z) (fun b o _ hb _ e n=>u.keep b o e n hb (by simp)) (fun b o _ hb _ e n=>u.slot b o e n hb (by simp)) (fun b o _ e n=>u.free b o e n (by simp)) (fun b o _ e=>u.there b o e (by simp)) u.tups u.Oj u.ON (fun m' hm=>by
  obtain⟨o',es',SG,ho',r'⟩:=hm
  rw[ho]at ho';cases ho'
  exact⟨_,es',SG,hL,r'⟩) hok I.bare
def Inv.call{g':Array GenState}{t':Nat}{d':Drawn}{ch:List Addr}(I:Inv X pins σ H s)(u:Un (frs X.stack) ch H H' s.heap h')(hok:MS X.prog X.w H' h')(hg:AllBare g')
  (hch:∀b∈ch,(b∈X.ex\/X.s₀.heap.objs.size<=b)/\b≠X.env.locals/\(∀x c,X.env.cells.lookup x=some c->c≠b)/\∀p∈X.pn++pins,p.1≠b) :
  Inv X pins σ H' { s with heap:=h',gens:=g',drawn:=d',toks:=t' }:=by
 obtain⟨m,⟨o,es,ep,ho,r⟩,_⟩:=id I.loc
 obtain⟨sl,hL⟩:=u.any ho I.free fun z=>(hch _ z).2.1 rfl
 exact I.step (ch:=ch) hch (fun b o hL hb hc e n=>u.keep b o e n (fun z=>(VL.mp (I.Nq b z)).elim hL hb) hc) (fun b o _ _ hc e n=>u.any e n hc) (fun b o hc e n=>u.free b o e n hc) (fun b o hc e=>u.there b o e hc) u.tups u.Oj u.ON (fun m' hm=>by
  obtain⟨o',es',SG,ho',r'⟩:=hm
  rw[ho]at ho';cases ho'
  exact⟨_,es',SG,hL,r'⟩) hok hg
def Inv.turned{t':Nat}{it:Addr}(I:Inv X pins σ H s)(k:∀b o,b≠it->s.heap.get? b=some o->h'.get? b=some o)(hn:H it=none)(hL:it≠X.env.locals)
  (h1:it∈X.ex\/X.s₀.heap.objs.size<=it) (h2:∀x c,X.env.cells.lookup x=some c->c≠it) (h3:∀p∈X.pn++pins,p.1≠it):Inv X pins σ H { s with heap:=h',toks:=t' }:=by
 have Rz:∀b u,H b=some u->b≠it:=fun b u e z=>by rw[z,hn]at e;cases e
 refine I.step (g':=s.gens) (d':=s.drawn) (ch:=[it]) (fun b hb=>?_) (fun b o _ _ hc e _=>k b o (fun z=>hc (by simp[z])) e) (fun b o _ _ hc e _=>⟨o.slots,k b o (fun z=>hc (by simp[z])) e⟩) (fun _ _ _ _ n=>n)
  (fun b o hc e=>⟨o,k b o (fun z=>hc (by simp[z])) e⟩) (fun _ _ e=>e) (fun _ _ _ e=>e) (fun b ps e=>⟨#[],by rw[e];simp⟩) (fun m hm=>?_) (fun b u e=>?_) I.bare
 ·have e:b=it:=by simpa using hb
  subst e
  exact⟨h1,hL,h2,h3⟩
 ·obtain⟨o,es,ep,ho,r⟩:=hm
  exact⟨o,es,ep,k _ o (Xl hL) ho,r⟩
 ·refine(I.hok b u e).stay (fun c v hc q=>k c v ?_ q) (fun _ q=>q) fun _ _ q=>q
  rcases hc with z|z
  ·rw[z];exact Rz b u e
  ·exact Rz c _ z
def Inv.tok(I:Inv X pins σ H s)(t:Nat):Inv X pins σ H { s with toks:=t }:=I.un (h':=s.heap) (t':=t) Un.refl I.hok
theorem Inv.kept{t':Nat}(I:Inv X pins σ H s)(k:∀b u,s.heap.get? b=some u->h'.get? b=some u):Inv X pins σ H { s with heap:=h',toks:=t' }:=I.un (Un.kept k) (I.hok.kept k)
theorem Inv.laid{a:Addr}{o:HO}{t':Nat}(I:Inv X pins σ H s)(k:∀b u,s.heap.get? b=some u->h'.get? b=some u)(hp:s.heap.objs.size<=a)(new:KE X.prog X.w (upd H a o) h' a o) :
  Inv X pins σ (upd H a o) { s with heap:=h',toks:=t' }:=I.un (Un.laid k hp (I.hok.fresh hp)) (I.hok.laid k hp new)
theorem Inv.write{x e:Addr}{o:HO}{t':Nat}(I:Inv X pins σ H s)(mu:F5 (H x))(he:e=x\/H e=some (.own x))(k:∀b u,b≠e->s.heap.get? b=some u->h'.get? b=some u)(Rn:∃u,h'.get? e=some u)
  (new:KE X.prog X.w (upd H x o) h' x o):Inv X pins σ (upd H x o) { s with heap:=h',toks:=t' }:=I.un (Un.write mu he k Rn) (I.hok.write mu he k Rn new)
def Inv.weak{σ':List (Option V)}(I:Inv X pins σ H s)(hl:σ'.length=σ.length)(w:∀(i:Nat) v,σ'[i]?=some (some v)->σ[i]?=some (some v)):Inv X pins σ' H s:=
 ⟨I.ok,I.os,I.bare,I.base,let ⟨m,hn,hl'⟩:=I.loc;⟨m,hn,fun i x v e1 e2 e3=>hl' i x v e1 (w i v e2) e3⟩,I.cell,I.free,I.MC,I.pin,I.hok,hl.trans I.len⟩
def Inv.NR{QM:Za}(I:Inv X pins σ H s)(h:∀p∈QM,s.heap.get? p.1=some p.2/\H p.1=none/\p.1≠X.env.locals/\p.1 ∉ X.fs/\∀v,p.2.data ≠ .cell v):Inv X QM σ H s:=
 ⟨I.ok,I.os,I.bare,I.base,I.loc,I.cell,I.free,I.MC,fun p hp=>(VO.mp hp).elim (fun z=>I.pin p (WU _ z)) (h p),I.hok,I.len⟩
def sw{N:Zs}(hN:N.Nodup){i j:Nat}{x:Str}(a:N[i]?=some x)(b:N[j]?=some x):i=j:=by
 obtain⟨h1,e1⟩:=V4.mp a
 obtain⟨h2,e2⟩:=V4.mp b
 exact(List.getElem_inj hN).mp (e1.trans e2.symm)
def pF{M : Model}{A : Around}{E : Value -> Shared -> Prop}{i : Nat}{x : Str}{v : V}{u : Value}{Q : Unit -> Shared -> Prop}(I : Inv X pins σ H s)(hN : X.N.Nodup)(hi : X.N[i]? = some x)(hx : C3 X.env.scope x)(r : RelV v u)
  (h : ∀ s', Inv X pins (σ.set i (some v)) H s' -> (∃ a, Heap.SameBut a s.heap s'.heap /\ (a = X.env.locals \/ X.env.cells.lookup x = some a)) -> Q () s') (hf : X.fn x = true \/ X.env.scope.names.lookup x = some .local := by first | exact .inl rfl | exact .inr rfl | assumption) : wpAny M A (storeName X.env x u) Q E s := by
 obtain ⟨m, hn, hl⟩ := id I.loc
 have hcls : (X.env.scope.kind == .class || (X.env.scope.kind == .module && X.env.locals != X.env.globals)) = false := by rw [I.ok.kind]; rfl
 have TV : i < σ.length := by rw [I.len]; exact (V4.mp hi).1
 have QZ := I.QZ
 have tracked : ∀ {a : Addr} {h' : Heap}, (∃ o, s.heap.get? a = some o /\ H a = none) -> Heap.SameBut a s.heap h' -> MS X.prog X.w H h' := fun {a h'} ha hs b ob e => by
  obtain ⟨_, _, hfree⟩ := ha
  refine (I.hok b ob e).stay (fun c w' hc q => (hs.2 c ?_).trans q) (fun _ q => q) fun _ _ q => q
  rintro rfl
  rcases hc with rfl | hc
  ·rw [hfree] at e; cases e
  ·rw [hfree] at hc; cases hc
 rcases hx with hk | hk
 ·refine wpAny_storeName_local hk hn (fun h' hn' hs => ?_) hcls
  obtain ⟨oL, _, _, UD, _⟩ := id hn
  refine h _ ⟨I.ok, I.os, I.bare, ⟨fun b o e n hb hx => ?_, fun b o e n hb hx => ?_, I.base.free, fun b o e hx => ?_, I.base.tups, I.base.Oj, I.base.ON⟩, ⟨_, hn', fun j y v' e1 e2 e3 => ?_⟩, fun y c e => ?_, I.free, I.MC, fun p hp => ?_, tracked ⟨oL, UD, I.free⟩ hs, by simpa using I.len⟩ ⟨_, hs, .inl rfl⟩
  ·exact (hs.2 b (Wa (V7 (VR e) I.ok.above))).trans (I.base.keep b o e n hb hx)
  ·obtain ⟨sl, e1⟩ := I.base.slot b o e n hb hx
   exact ⟨sl, (hs.2 b (Wa (V7 (VR e) I.ok.above))).trans e1⟩
  ·obtain ⟨o', e1⟩ := I.base.there b o e hx
   exact ⟨o', (hs.2 b (Wa (V7 (VR e) I.ok.above))).trans e1⟩
  ·by_cases hj : j = i
   ·subst hj
    rw [hi] at e1; cases e1
    rw [List.getElem?_set_self TV] at e2
    cases e2
    exact ⟨u, r, .inl ⟨hk, by simp⟩⟩
   ·rw [List.getElem?_set_ne (Xl hj)] at e2
    obtain ⟨u', r', q⟩ := hl j y v' e1 e2 e3
    refine ⟨u', r', ?_⟩
    rcases q with ⟨k, e⟩ | ⟨k, c, e, z⟩
    ·refine .inl ⟨k, ?_⟩
     have : y ≠ x := fun e => hj (sw hN e1 (e ▸ hi))
     simp [this, e]
    ·exact .inr ⟨k, c, e, z.sameBut hs (QZ y c e)⟩
  ·obtain ⟨w', z⟩ := I.cell y c e
   exact ⟨w', z.sameBut hs (QZ y c e)⟩
  ·obtain ⟨e, n, ne, nf, d⟩ := I.pin p hp
   exact ⟨(hs.2 p.1 ne).trans e, n, ne, nf, d⟩
 ·have hfn : X.fn x = true := by
   rcases hf with z | z
   ·exact z
   ·rw [z] at hk; cases hk
  obtain ⟨c, hc⟩ := I.ok.has x (.inl hk)
  obtain ⟨w', z⟩ := I.cell x c hc
  refine wpAny_storeName_cell I.ok.kind hk hc z (fun h' hc' hs => ?_)
  obtain ⟨oc, hoc, SH⟩ := id z
  refine h { s with heap := h' } ⟨I.ok, I.os, I.bare, ⟨fun b o e n hb hx => ?_, fun b o e n hb hx => ?_, I.base.free, fun b o e hx => ?_, I.base.tups, I.base.Oj, I.base.ON⟩, ⟨m, hn.sameBut hs (Xl (QZ x c hc)), fun j y v' e1 e2 e3 => ?_⟩, fun y c' e => ?_, I.free, I.MC, fun p hp => ?_, tracked ⟨oc, hoc, I.MC x c hc⟩ hs, by simpa using I.len⟩ ⟨c, hs, .inr hc⟩
  ·exact (hs.2 b (Wa (V7 (VR e) (I.ok.Ro x c hfn hc)))).trans (I.base.keep b o e n hb hx)
  ·obtain ⟨sl, e1⟩ := I.base.slot b o e n hb hx
   exact ⟨sl, (hs.2 b (Wa (V7 (VR e) (I.ok.Ro x c hfn hc)))).trans e1⟩
  ·obtain ⟨o', e1⟩ := I.base.there b o e hx
   exact ⟨o', (hs.2 b (Wa (V7 (VR e) (I.ok.Ro x c hfn hc)))).trans e1⟩
  ·by_cases hj : j = i
   ·subst hj
    rw [hi] at e1; cases e1
    rw [List.getElem?_set_self TV] at e2
    cases e2
    exact ⟨u, r, .inr ⟨.inl hk, c, hc, hc'⟩⟩
   ·rw [List.getElem?_set_ne (Xl hj)] at e2
    obtain ⟨u', r', q⟩ := hl j y v' e1 e2 e3
    refine ⟨u', r', ?_⟩
    rcases q with q | ⟨k, c', e, z'⟩
    ·exact .inl q
    ·refine .inr ⟨k, c', e, z'.sameBut hs ?_⟩
     rintro rfl
     exact hj (sw hN e1 (I.ok.inj _ _ _ e hc ▸ hi))
  ·by_cases hcc : c' = c
   ·subst hcc; exact ⟨_, hc'⟩
   ·obtain ⟨w2, z2⟩ := I.cell y c' e
    exact ⟨w2, z2.sameBut hs hcc⟩
  ·obtain ⟨e, n, ne, nf, d⟩ := I.pin p hp
   refine ⟨(hs.2 p.1 ?_).trans e, n, ne, nf, d⟩
   intro q
   rw [q, hoc] at e
   have q' : oc = p.2 := WR e
   exact d w' (by rw [<- q']; exact SH)
def eF{M:Model}{A:Around}{E:Zq}{i:Nat}{x:Str}{v:V}{u:Value}{Q:Unit->Shared->Prop}(I:Inv X pins σ H s)(hN:X.N.Nodup)(hi:X.N[i]?=some x)(hx:C3 X.env.scope x)(r:RelV v u)
  (h:∀s',Inv X pins (σ.set i (some v)) H s'->Q () s') (hf:X.fn x=true\/X.env.scope.names.lookup x=some .local:=by first|exact .inl rfl|exact .inr rfl|assumption):wpAny M A (storeName X.env x u) Q E s:=
 pF I hN hi hx r (fun s' I' _=>h s' I') hf
def Inv.RA{s':Shared}{ch:List Addr}(I:Inv X pins σ H s)(ho:s'.os=s.os)(u:Un (frs X.stack) ch H H' s.heap s'.heap)(hok:MS X.prog X.w H' s'.heap)(hg:AllBare s'.gens)
  (hch:∀b∈ch,(b∈X.ex\/X.s₀.heap.objs.size<=b)/\b≠X.env.locals/\(∀x c,X.env.cells.lookup x=some c->c≠b)/\∀p∈X.pn++pins,p.1≠b):Inv X pins σ H' s':=by
 obtain⟨h',g',d',t',o'⟩:=s'
 have e:o'=s.os:=ho
 subst e
 exact I.call (g':=g') (t':=t') (d':=d') u hok hg hch
end
abbrev XK:=Value->Option Addr->Hp->Prop
abbrev St:=List (Option V)
abbrev VK:=V->Hp->Prop
abbrev TE:=St->Hp->VK->Prop
abbrev TT:=St->Hp->(Bool->Hp->Prop)->Prop
abbrev TA:=St->Hp->(List V->Hp->Prop)->Prop
structure ud where
 nx:St->Hp->Prop
 rt:VK
 bk:St->Hp->Prop:=fun _ _=>False
 ct:St->Hp->Prop:=fun _ _=>False
abbrev TS:=ud->St->Hp->Prop
def EP(X:Cx)(pins:Za)(σ:St)(Q:VK)(u:Value)(s':Shared):Prop:=∃v H',Inv X pins σ H' s'/\RelV v u/\Q v H'
def TP(X:Cx)(pins:Za)(σ:St)(Q:Bool->Hp->Prop)(b:Bool)(s':Shared):Prop:=∃H',Inv X pins σ H' s'/\Q b H'
def AP(X:Cx)(pins:Za)(σ:St)(Q:List V->Hp->Prop)(us:Zx)(s':Shared):Prop:=∃vs H',Inv X pins σ H' s'/\Vals vs us/\Q vs H'
def SP(X:Cx)(pins:Za)(D:ud)(f:Flow)(s':Shared):Prop:=
 match f with
 | .next=>∃σ' H',Inv X pins σ' H' s'/\D.nx σ' H'
 | .brk=>∃σ' H',Inv X pins σ' H' s'/\D.bk σ' H'
 | .cont=>∃σ' H',Inv X pins σ' H' s'/\D.ct σ' H'
 | .ret u=>∃v σ' H',Inv X pins σ' H' s'/\RelV v u/\D.rt v H'
def PE(X:Cx)(e:Expr)(t:TE):Prop:=
 ∀(pins:Za)(s:Shared)(σ:St)(H:Hp)(Q:VK),Inv X pins σ H s->t σ H Q->wpAny (model X.prog X.w) X.A (eval e X.env) (EP X pins σ Q) X.xe s
def PT(X:Cx)(e:Expr)(t:TT):Prop:=
 ∀(pins:Za)(s:Shared)(σ:St)(H:Hp)(Q:Bool->Hp->Prop),Inv X pins σ H s->t σ H Q->wpAny (model X.prog X.w) X.A (isTrue e X.env (eval e X.env)) (TP X pins σ Q) X.xe s
def PW(X:Cx)(e:Expr)(t:TT):Prop:=
 ∀(whole:Sem Value)(pins:Za)(s:Shared)(σ:St)(H:Hp)(Q:Bool->Hp->Prop),Inv X pins σ H s->t σ H Q->wpAny (model X.prog X.w) X.A (isTrue e X.env whole) (TP X pins σ Q) X.xe s
def PW.pt{X:Cx}{e:Expr}{t:TT}(h:PW X e t):PT X e t:=h _
def PA(X:Cx)(es:List Expr)(t:TA):Prop:=
 ∀(pos:Pos)(pins:Za)(s:Shared)(σ:St)(H:Hp)(Q:List V->Hp->Prop),Inv X pins σ H s->t σ H Q->wpAny (model X.prog X.w) X.A (spliced (backTo pos (starEach es X.env))) (AP X pins σ Q) X.xe s
def PS(X:Cx)(st:Stmt)(t:TS):Prop:=
 ∀(pins:Za)(s:Shared)(σ:St)(H:Hp)(D:ud),Inv X pins σ H s->t D σ H->wpAny (model X.prog X.w) X.A (exec st X.env) (SP X pins D) X.xe s
def OO(X:Cx)(st:List Stmt)(t:TS):Prop:=
 ∀(pins:Za)(s:Shared)(σ:St)(H:Hp)(D:ud),Inv X pins σ H s->t D σ H->wpAny (model X.prog X.w) X.A (execs st X.env) (SP X pins D) X.xe s
def J9{α:Type}{t:Sem α}{Q Q':α->Shared->Prop}{M:Model}{A:Around}{E:Zq}{s:Shared}(h:wpAny M A t Q E s)(hQ:∀a s,Q a s->Q' a s):wpAny M A t Q' E s:=Yp h hQ fun _ _ x=>x
section
variable {X:Cx}
def Ij(i:Nat):TE:=fun σ H Q=>∃v,σ[i]?=some (some v)/\Q v H
def tC(v:V):TE:=fun _ H Q=>Q v H
def DB{i:Nat}{x:Str}{pos:Pos}(hN:X.N[i]?=some x)(hv:HN X.env.scope x)(hd:(x == ("__debug__":Str))=false:=by decide)(hcd:(x == ("__classdict__":Str))=false:=by decide):PE X (.Name x pos) (Ij i):=by
 intro pins s σ H Q I h
 obtain⟨v,e,h⟩:=h
 obtain⟨m,hn,hl⟩:=I.loc
 obtain⟨u,r,l⟩:=hl i x v hN e hv
 have fin:EP X pins σ Q u s:=⟨v,H,I,r,h⟩
 rcases l with⟨hk,hm⟩|⟨hk,c,hc,hcell⟩
 ·exact wpAny_Name (wpAny_loadName_local I.ok.kind hk hn hm fin) hd
 ·rcases hk with hk|hk
  ·exact wpAny_Name (wpAny_loadName_cell I.ok.kind hk hc hcell fin) hd
  ·exact wpAny_Name (wpAny_loadName_free I.ok.kind hk hc hcell fin hcd) hd
def DC{i j pos}:PE X (.Constant (.int i) j pos) (tC (.int i)):=fun _ _ _ H _ I h=>wpAny_Constant_int ⟨.int i,H,I.tok _,⟨_,rfl⟩,h⟩
def F6{b j pos}:PE X (.Constant (.bool b) j pos) (tC (.bl b)):=fun _ _ _ H _ I h=>Constant_bool ⟨.bl b,H,I,rfl,h⟩
def DD{j pos}:PE X (.Constant .none j pos) (tC .non):=fun _ _ _ H _ I h=>Constant_none ⟨.non,H,I,rfl,h⟩
def DE{x j pos}:PE X (.Constant (.str x) j pos) (tC (.str x)):=fun _ _ _ H _ I h=>Calls.Constant_str ⟨.str x,H,I.tok _,⟨_,rfl⟩,h⟩
def Gl(X:Cx)(x:Str):Prop:=X.env.kindOf x=some .globalImplicit
def vj{E:Zq}{pins:Za}{s:Shared}{σ:St}{H:Hp}{x:Str}{u:Value}{pos:Pos}{Q:Zq}(I:Inv X pins σ H s)(hg:Gl X x)(hm:X.mg x=some u)(h:Q u s)
  (hd:(x == ("__debug__":Str))=false:=by decide):wpAny (model X.prog X.w) X.A (eval (.Name x pos) X.env) Q E s:=
 Calls.Name_function_global I.ok.kind hg (Calls.loadGlobal_global (by rw[I.ok.glob];exact I.mod.glob.keeps I.bk) hm h) hd
def fw{E:Zq}{pins:Za}{s:Shared}{σ:St}{H:Hp}{x:Str}{u:Value}{pos:Pos}{Q:Zq}(I:Inv X pins σ H s)(hg:Gl X x)(hm:X.mg x=none)(hv:bootBuiltins x=some u)(h:Q u s)
  (hn:x ≠ "__name__":=by decide) (hd:(x == ("__debug__":Str))=false:=by decide):wpAny (model X.prog X.w) X.A (eval (.Name x pos) X.env) Q E s:=by
 obtain⟨mb,h1,h2⟩:=I.mod.blt
 exact Calls.Name_function_global I.ok.kind hg (Calls.loadGlobal_builtin (by rw[I.ok.glob];exact I.mod.glob.keeps I.bk) hm (by rw[I.ok.blt];exact h1.keeps I.bk) ((h2 x hn).trans hv) h) hd
def AR{x:Str}{v:V}{u:Value}{pos:Pos}(hg:Gl X x)(hm:X.mg x=none)(hv:bootBuiltins x=some u)(r:RelV v u)(hn:x ≠ "__name__":=by decide)(hd:(x == ("__debug__":Str))=false:=by decide):PE X (.Name x pos) (tC v):=
 fun _ _ _ H _ I h=>fw I hg hm hv ⟨v,H,I,r,h⟩ hn hd
variable {a b:Expr}{ta tb:TE}{pos:Pos}
def tB(t:TE):TT:=fun σ H Q=>t σ H fun x H1=>∃c,x = .bl c/\Q c H1
def DF{e:Expr}{t:TE}(h:PE X e t)(he:∀whole,isTrue e X.env whole=(do let v <-whole;standAt e.pos;holding [v] (truthy v)):=by intro _;rfl):PT X e (tB t):=by
 intro pins s σ H Q I hw
 refine isTrue_plain (J9 (h pins s σ H _ I hw) fun v s1 ⟨x,H1,I1,r1,q1⟩=>?_) (he _)
 obtain⟨d,rfl,q⟩:=q1
 cases r1
 exact Yd ⟨H1,I1,q⟩
variable {tA Sc:TT}{rest:List Expr}
def Ik(t u:TT):TT:=fun σ H Q=>t σ H fun c H1=>if c=true then u σ H1 Q else Q false H1
def JA(t u:TT):TT:=fun σ H Q=>t σ H fun c H1=>if c=true then Q true H1 else u σ H1 Q
def Il(t:TT):TT:=fun σ H Q=>t σ H fun c H1=>Q (!c) H1
def AS(ha:PT X a tA):PW X (.BoolOp .And [a] pos) tA:=by
 intro wh pins s σ H Q I h
 refine isTrue_and (J9 (ha pins s σ H Q I h) fun c s1 e=>?_)
 cases c with
 |true=>exact isTrue_and_nil e
 |false=>exact e
def DG(ha:PT X a tA):PW X (.BoolOp .Or [a] pos) tA:=by
 intro wh pins s σ H Q I h
 refine isTrue_or (J9 (ha pins s σ H Q I h) fun c s1 e=>?_)
 cases c with
 |false=>exact isTrue_or_nil e
 |true=>exact e
def DH(ha:PT X a tA)(hb:PW X (.BoolOp .And (b::rest) pos) Sc):PW X (.BoolOp .And (a::b::rest) pos) (Ik tA Sc):=by
 intro wh pins s σ H Q I h
 refine isTrue_and (J9 (ha pins s σ H _ I h) fun c s1 ⟨H1,I1,q1⟩=>?_)
 cases c with
 |true=>exact hb wh pins s1 σ H1 Q I1 q1
 |false=>exact⟨H1,I1,q1⟩
def F7(ha:PT X a tA)(hb:PW X (.BoolOp .Or (b::rest) pos) Sc):PW X (.BoolOp .Or (a::b::rest) pos) (JA tA Sc):=by
 intro wh pins s σ H Q I h
 refine isTrue_or (J9 (ha pins s σ H _ I h) fun c s1 ⟨H1,I1,q1⟩=>?_)
 cases c with
 |true=>exact⟨H1,I1,q1⟩
 |false=>exact hb wh pins s1 σ H1 Q I1 q1
def DI(ha:PT X a tA):PT X (.UnaryOp .Not a pos) (Il tA):=by
 intro pins s σ H Q I h
 exact isTrue_not (ha pins s σ H (fun c H1=>Q (!c) H1) I h)
def F8(ta tb:TE):TE:=fun σ H Q=>ta σ H fun x H1=>∃c,x = .bl c/\if c=true then tb σ H1 Q else Q (.bl false) H1
def Im(ta tb:TE):TE:=fun σ H Q=>ta σ H fun x H1=>∃c,x = .bl c/\if c=true then Q (.bl true) H1 else tb σ H1 Q
def F9(ta:TE):TE:=fun σ H Q=>ta σ H fun x H1=>∃c,x = .bl c/\Q (.bl (!c)) H1
def DJ{op}{t:TE}(h:PE X a t):PE X (.BoolOp op [a] pos) t:=fun pins s σ H Q I hw=>BoolOp_one (h pins s σ H Q I hw)
def DK(ha:PE X a ta)(hb:PE X (.BoolOp .And (b::rest) pos) tb):PE X (.BoolOp .And (a::b::rest) pos) (F8 ta tb):=by
 intro pins s σ H Q I h
 refine BoolOp_and (J9 (ha pins s σ H _ I h) fun v s1 ⟨x,H1,I1,r1,q1⟩=>?_)
 obtain⟨c,rfl,q1⟩:=q1
 cases r1
 refine Yd ?_
 cases c with
 |true=>exact hb pins s1 σ H1 Q I1 q1
 |false=>exact⟨.bl false,H1,I1,rfl,q1⟩
def F_(ha:PE X a ta)(hb:PE X (.BoolOp .Or (b::rest) pos) tb):PE X (.BoolOp .Or (a::b::rest) pos) (Im ta tb):=by
 intro pins s σ H Q I h
 refine BoolOp_or (J9 (ha pins s σ H _ I h) fun v s1 ⟨x,H1,I1,r1,q1⟩=>?_)
 obtain⟨c,rfl,q1⟩:=q1
 cases r1
 refine Yd ?_
 cases c with
 |false=>exact hb pins s1 σ H1 Q I1 q1
 |true=>exact⟨.bl true,H1,I1,rfl,q1⟩
def DL(ha:PE X a ta):PE X (.UnaryOp .Not a pos) (F9 ta):=by
 intro pins s σ H Q I h
 refine UnaryOp_ (J9 (ha pins s σ H _ I h) fun v s1 ⟨x,H1,I1,r1,q1⟩=>?_)
 obtain⟨c,rfl,q1⟩:=q1
 cases r1
 exact not_of (Yd ⟨.bl (!c),H1,I1,rfl,q1⟩)
def JB(t:TT)(ta tb:TE):TE:=fun σ H Q=>t σ H fun c H1=>if c=true then ta σ H1 Q else tb σ H1 Q
def xX{c:Expr}(hc:PT X c tA)(ha:PE X a ta)(hb:PE X b tb):PE X (.IfExp c a b pos) (JB tA ta tb):=by
 intro pins s σ H Q I h
 refine wpAny_IfExp (J9 (hc pins s σ H _ I h) fun d s1 ⟨H1,I1,q1⟩=>?_)
 cases d with
 |true=>exact ha pins s1 σ H1 Q I1 q1
 |false=>exact hb pins s1 σ H1 Q I1 q1
end
def SqL(K:Zo)(H:Hp)(a:Addr)(xs:List V):Prop:=
 Rd H a (.lst xs) \/
  ∃(o:Obj) (its:Zy) (n:Nat),K.lookup a=some o/\o.cls = .type "list"/\o.dict=none/\o.data = .seq its n/\its.size<=sizeLine/\Vals xs its.toList
def SqT(K:Zo)(H:Hp)(a:Addr)(xs:List V):Prop:=
 Rd H a (.tup xs) \/
  ∃(o:Obj) (its:Zy) (n:Nat),K.lookup a=some o/\o.cls = .type "tuple"/\o.dict=none/\o.data = .seq its n/\its.size<=sizeLine/\Vals xs its.toList
noncomputable def Io:Value->Option V
 | .none=>some .non
 | .bool b=>some (.bl b)
 | .int i _=>some (.int i)
 | .str x _=>some (.str x)
 | .bytes b _=>some (.PU b)
 | .float b _=>some (.SA b)
 | .ref a=>some (.ref a)
 | .type n=>some (.ty n)
 |_=>none
def RelV.abs{x:V}{u:Value}(r:RelV x u):Io u=some x:=by
 cases x with
 |non=>cases r;rfl
 |bl _=>cases r;rfl
 |int _=>obtain⟨t,rfl⟩:=r;rfl
 |str _=>obtain⟨t,rfl⟩:=r;rfl
 |PU _=>obtain⟨t,rfl⟩:=r;rfl
 |SA _=>obtain⟨t,rfl⟩:=r;rfl
 |ref _=>cases r;rfl
 |ty _=>cases r;rfl
theorem RelV.inj{x y:V}{u:Value}(r:RelV x u)(q:RelV y u):x=y:=WR (r.abs.symm.trans q.abs)
theorem Vals.inj:∀{xs ys:List V}{us:Zx},Vals xs us->Vals ys us->xs=ys
 |_,_,_,.nil,.nil=>rfl
 |_,_,_,.cons r t,.cons r' t'=>by rw[r.inj r',Vals.inj t t']
section
variable {X:Cx}{pins:Za}{σ:St}{H:Hp}{s:Shared}{a:Addr}{xs ys:List V}
def SqL.of{K:Zo}(h:H a=some (.lst xs)):SqL K H a xs:=.inl (.inl h)
def SqT.of{K:Zo}(h:H a=some (.tup xs)):SqT K H a xs:=.inl (.inl h)
def Inv.list(I:Inv X pins σ H s)(h:SqL X.K H a xs):∃its:List Value,Vals xs its/\PlainL s.heap a its.toArray/\xs.length<=sizeLine:=by
 rcases h with h|⟨o,its,n,hk,hc,hd,hs,hz,r⟩
 ·obtain⟨z,its,n,r,e⟩:=h.ok I.hok
  exact⟨its,r,⟨_,n,e,rfl,rfl,rfl⟩,z⟩
 ·refine⟨its.toList,r,⟨o,n,I.PY a o hk,hc,hd,by simpa using hs⟩,?_⟩
  have e:=r.length
  simp only[Array.length_toList]at e
  omega
def Inv.tuple(I:Inv X pins σ H s)(h:SqT X.K H a xs):∃its:List Value,Vals xs its/\IsTup s.heap a its.toArray/\xs.length<=sizeLine:=by
 rcases h with h|⟨o,its,n,hk,hc,_,hs,hz,r⟩
 ·obtain⟨z,its,r,p⟩:=h.ok I.hok
  exact⟨its,r,p.tup,z⟩
 ·refine⟨its.toList,r,⟨o,I.PY a o hk,hc,n,by simpa using hs⟩,?_⟩
  have e:=r.length
  simp only[Array.length_toList]at e
  omega
def Inv.NU(I:Inv X pins σ H s)(h:SqL X.K H a xs)(h':SqL X.K H a ys):xs=ys:=by
 obtain⟨its,r,⟨o,n,e,_,_,d⟩,_⟩:=I.list h
 obtain⟨its',r',⟨o',n',e',_,_,d'⟩,_⟩:=I.list h'
 rw[e]at e';cases e'
 rw[d]at d'
 injection d' with d1 _
 have:its=its':=by simpa using WW Array.toList d1
 subst this
 exact r.inj r'
def Inv.MT(I:Inv X pins σ H s)(h:SqT X.K H a xs)(h':SqT X.K H a ys):xs=ys:=by
 obtain⟨its,r,⟨o,e,_,n,d⟩,_⟩:=I.tuple h
 obtain⟨its',r',⟨o',e',_,n',d'⟩,_⟩:=I.tuple h'
 rw[e]at e';cases e'
 rw[d]at d'
 injection d' with d1 _
 have:its=its':=by simpa using WW Array.toList d1
 subst this
 exact r.inj r'
end
noncomputable abbrev Cx.wish(X:Cx)(E:Zq):Cx:={ X with xe:=E }
noncomputable abbrev Cx.Q0(X:Cx):Cx:=X.wish fun _ _=>False
theorem Cx.Ok.wish{X:Cx}(ok:X.Ok)(E:Zq):(X.wish E).Ok:=
 ⟨ok.mod,ok.kind,ok.glob,ok.blt,ok.above,ok.inj,ok.has,ok.Ro,ok.hd,ok.frames,ok.stk,ok.SE,ok.bs,ok.Qn,ok.PC,ok.PX,ok.NO,ok.QY⟩
def Cx.Ok.MD{X:Cx}{E:Zq}(ok:(X.wish E).Ok):X.Ok:=
 ⟨ok.mod,ok.kind,ok.glob,ok.blt,ok.above,ok.inj,ok.has,ok.Ro,ok.hd,ok.frames,ok.stk,ok.SE,ok.bs,ok.Qn,ok.PC,ok.PX,ok.NO,ok.QY⟩
section
variable {X:Cx}{pins:Za}{σ:St}{H:Hp}{s:Shared}{E:Zq}
theorem Inv.wish(I:Inv X pins σ H s)(E:Zq):Inv (X.wish E) pins σ H s:=⟨I.ok.wish E,I.os,I.bare,I.base,I.loc,I.cell,I.free,I.MC,I.pin,I.hok,I.len⟩
theorem Inv.MD(I:Inv (X.wish E) pins σ H s):Inv X pins σ H s:=⟨I.ok.MD,I.os,I.bare,I.base,I.loc,I.cell,I.free,I.MC,I.pin,I.hok,I.len⟩
theorem SP.MD{D:ud}{f:Flow}{s':Shared}(h:SP (X.wish E) pins D f s'):SP X pins D f s':=by
 cases f with
 |next=>obtain⟨σ',H',I,q⟩:=h;exact⟨σ',H',I.MD,q⟩
 |brk=>obtain⟨σ',H',I,q⟩:=h;exact⟨σ',H',I.MD,q⟩
 |cont=>obtain⟨σ',H',I,q⟩:=h;exact⟨σ',H',I.MD,q⟩
 |ret u=>obtain⟨v,σ',H',I,r,q⟩:=h;exact⟨v,σ',H',I.MD,r,q⟩
theorem OO.Q0{st:List Stmt}{t:TS}(h:OO X.Q0 st t):OO X st t:=fun pins s σ H D I hw=>
 Yp (h pins s σ H D (I.wish _) hw) (fun _ _ q=>q.MD) fun _ _ z=>False.elim z
end
section
variable {X:Cx}{st:Stmt}{rest:List Stmt}{t u:TS}{e:Expr}{te:TE}{pos:Pos}
def Ga:TS:=fun D σ H=>D.nx σ H
def Ip(t u:TS):TS:=fun D σ H=>t { D with nx:=u D } σ H
def AT:OO X [] Ga:=fun _ _ σ H _ I h=>ZM ⟨σ,H,I,h⟩
def xY(h1:PS X st t)(h2:OO X rest u):OO X (st::rest) (Ip t u):=by
 intro pins s σ H D I h
 refine wpAny_execs_cons (J9 (h1 pins s σ H { D with nx:=u D } I h) fun f s1 q=>?_)
 cases f with
 |next=>
  obtain⟨σ',H',I',q⟩:=q
  exact h2 pins s1 σ' H' D I' q
 |ret v=>exact q
 |brk=>exact q
 |cont=>exact q
def AU(h1:PS X st t):OO X [st] t:=by
 intro pins s σ H D I h
 refine wpAny_execs_cons (J9 (h1 pins s σ H D I h) fun f s1 q=>?_)
 cases f with
 |next=>exact ZM q
 |ret v=>exact q
 |brk=>exact q
 |cont=>exact q
def Inv.quiet{pins:Za}{σ:St}{H:Hp}{s:Shared}(I:Inv X pins σ H s):interactive X.env=false:=by simp[interactive,I.ok.kind]
def Gb(te:TE):TS:=fun D σ H=>te σ H fun _ H1=>D.nx σ H1
def AV(he:PE X e te)(hs:swapsWith e none pos.line X.env=pure false:=by rfl):PS X (.Expr e pos) (Gb te):=by
 intro pins s σ H D I h
 exact wpAny_Expr_any (J9 (he pins s σ H _ I h) fun v s1 ⟨x,H1,I1,r1,q1⟩=>⟨σ,H1,I1,q1⟩) I.quiet hs
def Iq(te:TE):TS:=fun D σ H=>te σ H D.rt
def DM(he:PE X e te):PS X (.Return (some e) pos) (Iq te):=by
 intro pins s σ H D I h
 exact wpAny_Return_some (J9 (he pins s σ H _ I h) fun v s1 ⟨x,H1,I1,r1,q1⟩=>⟨x,σ,H1,I1,r1,q1⟩)
def Ir(c:TT)(t u:TS):TS:=fun D σ H=>c σ H fun b H1=>if b=true then t D σ H1 else u D σ H1
def Gc{c:Expr}{a b:List Stmt}{tc:TT}(hc:PT X c tc)(ha:OO X a t)(hb:OO X b u):PS X (.If c a b pos) (Ir tc t u):=by
 intro pins s σ H D I h
 refine wpAny_If (J9 (hc pins s σ H _ I h) fun d s1 ⟨H1,I1,q1⟩=>?_)
 cases d with
 |true=>exact ha pins s1 σ H1 D I1 q1
 |false=>exact hb pins s1 σ H1 D I1 q1
end
abbrev TG:=V->St->Hp->(St->Hp->Prop)->Prop
abbrev C4:=List V->St->Hp->(St->Hp->Prop)->Prop
def PG(X:Cx)(target:Expr)(t:TG):Prop:=
 ∀(pins:Za)(s:Shared)(σ:St)(H:Hp)(v:V)(u:Value)(Q:St->Hp->Prop),Inv X pins σ H s->RelV v u->t v σ H Q->
  wpAny (model X.prog X.w) X.A (assign target X.env u) (fun _ s'=>∃σ' H',Inv X pins σ' H' s'/\Q σ' H') X.xe s
def Gd(X:Cx)(ts:List Expr)(t:C4):Prop:=
 ∀(pins:Za)(s:Shared)(σ:St)(H:Hp)(vs:List V)(us:Zx)(Q:St->Hp->Prop),Inv X pins σ H s->Vals vs us->t vs σ H Q->
  wpAny (model X.prog X.w) X.A (assignInOrder ((assignEach ts X.env).map (·.2)) us) (fun _ s'=>∃σ' H',Inv X pins σ' H' s'/\Q σ' H') X.xe s
abbrev DN:=V->V->V->Hp->(Hp->Prop)->Prop
def AW(X:Cx)(t:DN):Prop:=
 ∀(pins:Za)(s:Shared)(σ:St)(H:Hp)(o i v:V)(ov iv u:Value)(Q:Hp->Prop),Inv X pins σ H s->RelV o ov->RelV i iv->RelV v u->t o i v H Q->
  wpAny (model X.prog X.w) X.A (setItem ov iv u) (fun _ s'=>∃H',Inv X pins σ H' s'/\Q H') X.xe s
section
variable {X:Cx}{pos:Pos}
def sx(i:Nat):TG:=fun v σ H Q=>Q (σ.set i (some v)) H
def AX{i:Nat}{x:Str}(hN:X.N.Nodup)(hi:X.N[i]?=some x)(hx:C3 X.env.scope x)(hf:X.fn x=true\/X.env.scope.names.lookup x=some .local:=by first|exact .inl rfl|exact .inr rfl|assumption):PG X (.Name x pos) (sx i):=by
 intro pins s σ H v u Q I r h
 exact wpAny_assign_Name (eF I hN hi hx r (fun s' I'=>⟨_,H,I',h⟩) hf)
noncomputable def Ge:C4:=fun vs σ H Q=>vs=[]/\Q σ H
noncomputable def C5(t:TG)(u:C4):C4:=fun vs σ H Q=>∃v r,vs=v::r/\t v σ H fun σ' H'=>u r σ' H' Q
def AY:Gd X [] Ge:=by
 intro pins s σ H vs us Q I r h
 obtain⟨e,h⟩:=h
 subst e
 cases r
 exact assignInOrder_nil ⟨σ,H,I,h⟩
def xZ{e:Expr}{es:List Expr}{t:TG}{u:C4}(h1:PG X e t)(h2:Gd X es u)
  (hs:(assignEach (e::es) X.env).map (·.2)=assign e X.env::(assignEach es X.env).map (·.2):=by rfl):Gd X (e::es) (C5 t u):=by
 intro pins s σ H vs us Q I r h
 obtain⟨v,vr,e1,h⟩:=h
 subst e1
 cases r with
 |cons r rr=>
  rw[hs]
  refine XR (J9 (h1 pins s σ H _ _ _ I r h) fun _ s1 ⟨σ1,H1,I1,q1⟩=>?_)
  exact h2 pins s1 σ1 H1 _ _ Q I1 rr q1
def Gf(K:Zo)(n:Nat)(t:C4):TG:=fun v σ H Q=>∃a xs,v = .ref a/\SqT K H a xs/\xs.length=n/\t xs σ H Q
def DO{es:List Expr}{k:Nat}{t:C4}{n:Nat}(hc:X.calm=true)(h:Gd X es t)
  (hn:(assignEach es X.env).length=n:=by rfl) (hst:(assignEach es X.env).findIdx? (·.1)=none:=by rfl):PG X (.Tuple es k pos) (Gf X.K n t):=by
 intro pins s σ H v u Q I r hw
 obtain⟨a,xs,e1,hq,hl,hw⟩:=hw
 subst e1
 cases r
 obtain⟨its,rv,ht,hz⟩:=I.tuple hq
 refine assign_Tuple_tuple (I.ok.hd hc) ht (by simp[hn,<-hl,rv.length]) hst fun h' hx=>?_
 have I1:Inv X pins σ H { s with heap:=h' }:=I.kept (t':=s.toks) fun b o e=>hx b o (Wa (VR e)) e
 exact h pins _ σ H xs _ Q I1 (by simpa using rv) hw
def Is(to ti:TE)(t:DN):TG:=fun v σ H Q=>to σ H fun o H1=>ti σ H1 fun i H2=>t o i v H2 fun H3=>Q σ H3
def DP{o i:Expr}{to ti:TE}{t:DN}(ho:PE X o to)(hi:PE X i ti)(hs:AW X t)
  (ha:∀v,assign (.Subscript o i pos) X.env v=(do
   let ov <-holding [v] (eval o X.env)
   let iv <-holding [v,ov] (eval i X.env)
   standAt pos
   holding [v,ov,iv] (setItem ov iv v)
   release [v,ov,iv] []):=by intro _;rfl):PG X (.Subscript o i pos) (Is to ti t):=by
 intro pins s σ H v u Q I r h
 rw[ha]
 refine VG (Yg (J9 (ho pins s σ H _ I h) fun ov s1 ⟨x,H1,I1,r1,q1⟩=>?_))
 refine VG (Yg (J9 (hi pins s1 σ H1 _ I1 q1) fun iv s2 ⟨y,H2,I2,r2,q2⟩=>?_))
 refine VG (wpAny_standAt (VG (Yg (J9 (hs pins s2 σ H2 x y v ov iv u _ I2 r1 r2 r q2) fun _ s3 ⟨H3,I3,q3⟩=>?_))))
 exact wpAny_release ⟨σ,H3,I3,q3⟩
def AZ(te:TE)(g:TG):TS:=fun D σ H=>te σ H fun x H1=>g x σ H1 D.nx
def DQ{tg e:Expr}{te:TE}{g:TG}(he:PE X e te)(hg:PG X tg g)(hs:swapsWithSole [tg] e pos.line X.env=pure false:=by rfl)(hw:swappedStores [tg] e X.env=pure none:=by rfl)
  (h1:(assignEach [tg] X.env).map (·.2)=[assign tg X.env]:=by rfl):PS X (.Assign [tg] e pos) (AZ te g):=by
 intro pins s σ H D I h
 refine wpAny_Assign_stores (J9 (he pins s σ H _ I h) fun v s1 ⟨x,H1,I1,r1,q1⟩=>?_) hs hw
 rw[h1]
 exact J9 (hg pins s1 σ H1 x v _ I1 r1 q1) fun _ s2 q=>q
def DR{i:Nat}{x:Str}{e:Expr}{te:TE}{pos':Pos}(hN:X.N.Nodup)(hi:X.N[i]?=some x)(hx:C3 X.env.scope x)(he:PE X e te)(hs:swapsWith e (some (.Name x pos')) pos.line X.env=pure false:=by rfl)(hf:X.fn x=true\/X.env.scope.names.lookup x=some .local:=by first|exact .inl rfl|exact .inr rfl|assumption) :
  PS X (.Assign [.Name x pos'] e pos) (AZ te (sx i)):=by
 intro pins s σ H D I h
 refine wpAny_Assign_Name (J9 (he pins s σ H _ I h) fun v s1 ⟨y,H1,I1,r1,q1⟩=>?_) hs
 exact eF I1 hN hi hx r1 (fun s2 I2=>⟨_,H1,I2,q1⟩) hf
def Iu(i j:Nat)(ta:TA):TS:=fun D σ H=>ta σ H fun vs H1=>∃v w,vs=[v,w]/\D.nx ((σ.set i (some v)).set j (some w)) H1
def DS{i j:Nat}{x y:Str}{a b:Expr}{ta:TA}{px py pt:Pos}{kt k2 Q4}(hc:X.calm=true)(hN:X.N.Nodup)(hi:X.N[i]?=some x)(hj:X.N[j]?=some y)(hij:i≠j)
  (hx:X.env.scope.names.lookup x=some .local) (hy:X.env.scope.names.lookup y=some .local) (ha:PA X [a,b] ta)
  (hw:swappedStores [.Tuple [.Name x px,.Name y py] kt pt] (.Tuple [a,b] k2 Q4) X.env=pure (some [x,y]))
  (hs:swapsWithSole [.Tuple [.Name x px,.Name y py] kt pt] (.Tuple [a,b] k2 Q4) pos.line X.env=pure false:=by rfl) :
  PS X (.Assign [.Tuple [.Name x px,.Name y py] kt pt] (.Tuple [a,b] k2 Q4) pos) (Iu i j ta):=by
 intro pins s σ H D I h
 rw[exec_Assign_arm]
 refine VG (wpAny_standAt ?_)
 rw[hs]
 refine VG (VP ?_)
 rw[if_neg (by decide)]
 refine VG (Tuple_ (J9 (ha _ pins s σ H _ I h) fun us s1 ⟨vs,H1,I1,r1,q1⟩=>?_))
 obtain⟨v,w,e1,q1⟩:=q1
 subst e1
 obtain⟨u1,u2,rfl,rv,rw'⟩:∃u1 u2,us=[u1,u2]/\RelV v u1/\RelV w u2:=by
  cases r1 with
  |cons p q=>
   cases q with
   |cons p' q'=>
    cases q'
    exact⟨_,_,rfl,p,p'⟩
 refine W2 ?_ (by show 2<=sizeLine;decide)
 have I2:Inv X pins σ H1 { s1 with heap:=s1.heap.push { cls:=.type "tuple",data:=.seq [u1,u2].toArray } }:=I1.kept (t':=s1.toks) fun b o e=>VJ _ e
 rw[hw]
 refine VG (VP ?_)
 show wpAny (model X.prog X.w) X.A (do rule "assign.swapped-stores"; let items <-unpackItems (.ref s1.heap.objs.size) 2 none;assignInOrder [fun v=>bindName X.env y v,fun v=>bindName X.env x v] items.reverse;pure Flow.next) _ _ _
 refine VG (Yh (VG (unpackItems_tuple (items:=#[u1,u2]) (I.ok.hd hc) (IsTup.new s1.heap _) fun h' hx'=>?_)))
 have I3:=I2.kept (h':=h') (t':=s1.toks) fun b o e=>hx' b o (Wa (VR e)) e
 show wpAny _ _ (assignInOrder [fun v=>bindName X.env y v,fun v=>bindName X.env x v] [u2,u1] >>= fun _=>pure Flow.next) _ _ _
 refine VG (XR (Y9 (eF I3 hN hj (.inl hy) rw' (fun s2 I4=>?_) (.inr hy))))
 refine XR (Y9 (eF I4 hN hi (.inl hx) rv (fun s3 I5=>assignInOrder_nil (VP ?_)) (.inr hx)))
 rw[List.set_comm _ _ (Xl hij)]at I5
 exact⟨_,H1,I5,q1⟩
end
section
variable {X:Cx}{pos:Pos}
def DT(c:TT)(tb:TS):TS:=fun D σ H=>∃W:Nat->St->Hp->Prop,(∃m,W m σ H)/\∀m σ H,W m σ H->
 c σ H fun b H1=>if b=true then ∃N:St->Hp->Prop,(∀σ' H',N σ' H'->∃m',m' < m/\W m' σ' H')/\tb { D with nx:=N,ct:=N,bk:=D.nx } σ H1 else D.nx σ H1
def x9{c:Expr}{body:List Stmt}{tc:TT}{tb:TS}(hp:PassesOwn (model X.prog X.w) X.A X.env X.xe)(hc:PT X c tc)(hb:OO X body tb):PS X (.While c body [] pos) (DT tc tb):=by
 intro pins s σ H D I h
 obtain⟨W,⟨m0,w0⟩,turn⟩:=h
 refine wpAny_While (codeAny_whileLoop (fun n s'=>∃σ' H',Inv X pins σ' H' s'/\W n σ' H') ?_ m0 ⟨σ,H,I,w0⟩)
 rintro n s1 ⟨σ1,H1,I1,w1⟩
 refine XZ hp (J9 (hc pins s1 σ1 H1 _ I1 (turn n σ1 H1 w1)) fun b s2 ⟨H2,I2,q2⟩=>?_)
 cases b with
 |true=>
  obtain⟨N,hN,q2⟩:=q2
  rw[if_pos rfl]
  refine XZ hp (J9 (hb pins s2 σ1 H2 _ I2 q2) fun f s3 q3=>?_)
  cases f with
  |next=>
   obtain⟨σ3,H3,I3,n3⟩:=q3
   obtain⟨m',hm,w3⟩:=hN σ3 H3 n3
   exact⟨m',hm,σ3,H3,I3,w3⟩
  |cont=>
   obtain⟨σ3,H3,I3,n3⟩:=q3
   obtain⟨m',hm,w3⟩:=hN σ3 H3 n3
   exact⟨m',hm,σ3,H3,I3,w3⟩
  |brk=>exact q3
  |ret v=>exact q3
 |false=>
  rw[if_neg Wk]
  exact ZM ⟨σ1,H2,I2,q2⟩
end
structure It where
 go:Nat->Hp->Prop
 Sd:Nat->Hp->V->Hp->Prop
 stop:Nat->Hp->Prop
def fV(X:Cx)(pins:Za)(H:Hp)(b:Addr):Prop:=
 H b=none/\b≠X.env.locals/\b ∉ X.fs/\(b∈X.ex\/X.s₀.heap.objs.size<=b)/\(∀x c,X.env.cells.lookup x=some c->c≠b)/\∀p∈X.pn++pins,p.1≠b
def Inv.M6{X:Cx}{pins:Za}{σ:St}{H H':Hp}{s:Shared}{b:Addr}(I:Inv X pins σ H s)(hb:s.heap.objs.size<=b)(hn:H' b=none):fV X pins H' b:=by
 refine⟨hn,Xx (V7 I.lt hb),I.Rx hb,.inr (VU I.sz hb),fun x c e z=>?_,fun p hp z=>?_⟩
 ·obtain⟨v,q⟩:=I.cell x c e
  exact absurd (V7 q.lt (by rw[z];exact hb)) (Xw _)
 ·exact absurd (V7 (VR (I.pin p hp).1) (by rw[z];exact hb)) (Xw _)
structure mV(P:Program)(w:World)(K:Zo)(tg:Expr)(J:It)(fp:List Addr)(it:Addr)(tn:Nat->Heap->Prop):Prop where
 mem:it∈fp
 obj:∀i h,tn i h->∀b∈fp,∃o,h.get? b=some o/\∀v,o.data ≠ .cell v
 keep:∀i h h',tn i h->(∀b∈fp,∀o,h.get? b=some o->h'.get? b=some o)->tn i h'
 item:∀(X:Cx),X.prog=P->X.w=w->X.K=K->X.calm=true->∀(i:Nat)(pins:Za)(s:Shared)(σ:St)(H:Hp)(E:Zq),Inv X pins σ H s->(∀b∈fp,fV X pins H b)->tn i s.heap->J.go i H->
  wpAny (model P w) X.A (pyNext (.ref it)) (fun r s1=>∃u,r=some u/\
   wpAny (model P w) X.A (letOwnedTupleGo tg (.ref it) u) (fun _ s2=>∃x H',Inv X pins σ H' s2/\RelV x u/\J.Sd i H x H'/\tn (i+1) s2.heap/\∀b∈fp,H' b=none) E s1) E s
 done:∀(X:Cx),X.prog=P->X.w=w->X.K=K->X.calm=true->∀(i:Nat)(pins:Za)(s:Shared)(σ:St)(H:Hp)(E:Zq),Inv X pins σ H s->(∀b∈fp,fV X pins H b)->tn i s.heap->J.stop i H->
  wpAny (model P w) X.A (pyNext (.ref it)) (fun r s1=>r=none/\Inv X pins σ H s1) E s
 self:∀(A:Around)(i:Nat)(s:Shared)(Q:Zq)(E:Zq),tn i s.heap->Q (.ref it) s->wpAny (model P w) A (pyIter (.ref it)) Q E s
abbrev TI:=St->Hp->(It->Hp->Prop)->Prop
def Iw(X:Cx)(pins:Za)(σ:St)(tg:Expr)(R:It->Hp->Prop)(itv:Value)(s2:Shared):Prop:=
 ∃(it:Addr) (fp:List Addr) (tn:Nat->Heap->Prop) (J:It) (H':Hp),itv = .ref it/\Inv X pins σ H' s2/\mV X.prog X.w X.K tg J fp it tn/\tn 0 s2.heap/\(∀b∈fp,fV X pins H' b)/\R J H'
def PI(X:Cx)(tg iter:Expr)(wi:TI):Prop:=
 ∀(pins:Za)(s:Shared)(σ:St)(H:Hp)(R:It->Hp->Prop),Inv X pins σ H s->wi σ H R->
  wpAny (model X.prog X.w) X.A (eval iter X.env) (fun v s1=>wpAny (model X.prog X.w) X.A (pyIter v) (Iw X pins σ tg R) X.xe s1) X.xe s
def j6{M : Model}{A : Around}{E : Value -> Shared -> Prop}{s : Shared}{tg : Expr}{it : Addr}{u : Value}{o : Obj}{n : String}{vs : Array Value}{Q : Unit -> Shared -> Prop}(ho : s.heap.get? it = some o)(hc : o.cls = .type n)(hd : o.data = .fields vs)
    (hn : ["enumerate", "zip", "dict_itemiterator", "dict_reverseitemiterator", "odict_iterator", "itertools.zip_longest", "itertools.pairwise"].contains n = false) (hQ : Q () s) : wpAny M A (letOwnedTupleGo tg (.ref it) u) Q E s := by
  unfold letOwnedTupleGo
  cases tg <;> first
    | exact VP hQ
    | (cases u <;> first
        | exact VP hQ
        | (refine VG (wpAny_load ho ?_)
           rw [hc, hd]
           show wpAny M A (if (["enumerate", "zip", "dict_itemiterator", "dict_reverseitemiterator", "odict_iterator", "itertools.zip_longest", "itertools.pairwise"].contains n && vs[0]? == some (rawInt _)) = true then _ else _) Q E s
           rw [if_neg (by intro h; rw [hn, Bool.false_and] at h; cases h)]
           exact VP hQ))
noncomputable def HQ(K:Zo)(a:Addr):It:=
 ⟨fun i H=>∃xs x,SqL K H a xs/\xs[i]?=some x,fun i H x H'=>H'=H/\∀xs,SqL K H a xs->xs[i]?=some x,fun i H=>∃xs,SqL K H a xs/\xs.length<=i⟩
noncomputable def Ix(K:Zo)(a:Addr):It:=
 ⟨fun i H=>∃xs x,SqT K H a xs/\xs[i]?=some x,fun i H x H'=>H'=H/\∀xs,SqT K H a xs->xs[i]?=some x,fun i H=>∃xs,SqT K H a xs/\xs.length<=i⟩
noncomputable def HR(lo:Int)(n:Nat):It:=⟨fun i _=>i < n,fun i H x H'=>H'=H/\x = .int (lo+i),fun i _=>n<=i⟩
def wv{P:Program}{w:World}{K:Zo}{tg:Expr}(a it:Addr):mV P w K tg (HQ K a) [it] it (fun i h=>h.IsListIter it a i) where
 mem:=by simp
 obj:=fun i h st b hb=>by
  have e:b=it:=by simpa using hb
  subst e
  obtain⟨o,e,c,d⟩:=st
  exact⟨o,e,fun v z=>by rw[d]at z;cases z⟩
 keep:=fun i h h' st k=>st.at fun o e=>k it (by simp) o e
 item:=by
  intro X hP hw hK hc i pins s σ H E I hf st hg
  subst hP hw hK
  obtain⟨xs,x,hq,hx⟩:=hg
  obtain⟨its,rv,p,hz⟩:=I.list hq
  obtain⟨u,hu,ru⟩:=rv.get hx
  obtain⟨f0,f1,f2,f3,f4,f5⟩:=hf it (by simp)
  refine wpAny_pyNext_list_item st p.isList (x:=u) (by simpa using hu) fun h' st' sb=>?_
  have I1:Inv X pins σ H { s with heap:=h' }:=I.turned (t':=s.toks) (fun b o hb e=>(sb.2 b hb).trans e) f0 f1 f3 f4 f5
  obtain⟨o,e,c,d⟩:=id st'
  exact⟨u,rfl,j6 (s:={ s with heap:=h' }) e c d (by decide) ⟨x,H,I1,ru,⟨rfl,fun ys hy=>by rw[I.NU hy hq];exact hx⟩,st',fun b hb=>(hf b hb).1⟩⟩
 done:=by
  intro X hP hw hK hc i pins s σ H E I hf st hg
  subst hP hw hK
  obtain⟨xs,hq,hx⟩:=hg
  obtain⟨its,rv,p,hz⟩:=I.list hq
  obtain⟨f0,f1,f2,f3,f4,f5⟩:=hf it (by simp)
  have hl:=rv.length
  exact wpAny_pyNext_list_end (I.ok.hd hc) st p.isList (by simp;omega) fun h' eb=>⟨rfl,I.turned (t':=s.toks) (fun b o hb e=>eb b o hb e) f0 f1 f3 f4 f5⟩
 self:=fun _ _ _ _ _ st h=>wpAny_pyIter_listiter st h
def ue{P:Program}{w:World}{K:Zo}{tg:Expr}(a it:Addr):mV P w K tg (Ix K a) [it] it (fun i h=>h.IsTupleIter it a i) where
 mem:=by simp
 obj:=fun i h st b hb=>by
  have e:b=it:=by simpa using hb
  subst e
  obtain⟨o,e,c,d⟩:=st
  exact⟨o,e,fun v z=>by rw[d]at z;cases z⟩
 keep:=fun i h h' st k=>st.at fun o e=>k it (by simp) o e
 item:=by
  intro X hP hw hK hc i pins s σ H E I hf st hg
  subst hP hw hK
  obtain⟨xs,x,hq,hx⟩:=hg
  obtain⟨its,rv,p,hz⟩:=I.tuple hq
  obtain⟨u,hu,ru⟩:=rv.get hx
  obtain⟨f0,f1,f2,f3,f4,f5⟩:=hf it (by simp)
  refine wpAny_pyNext_tuple_item st (show s.heap.IsTuple a its.toArray from p) (x:=u) (by simpa using hu) fun h' st' sb=>?_
  have I1:Inv X pins σ H { s with heap:=h' }:=I.turned (t':=s.toks) (fun b o hb e=>(sb.2 b hb).trans e) f0 f1 f3 f4 f5
  obtain⟨o,e,c,d⟩:=id st'
  exact⟨u,rfl,j6 (s:={ s with heap:=h' }) e c d (by decide) ⟨x,H,I1,ru,⟨rfl,fun ys hy=>by rw[I.MT hy hq];exact hx⟩,st',fun b hb=>(hf b hb).1⟩⟩
 done:=by
  intro X hP hw hK hc i pins s σ H E I hf st hg
  subst hP hw hK
  obtain⟨xs,hq,hx⟩:=hg
  obtain⟨its,rv,p,hz⟩:=I.tuple hq
  obtain⟨f0,f1,f2,f3,f4,f5⟩:=hf it (by simp)
  have hl:=rv.length
  exact wpAny_pyNext_tuple_end (I.ok.hd hc) st (show s.heap.IsTuple a its.toArray from p) (by simp;omega) fun h' eb=>⟨rfl,I.turned (t':=s.toks) (fun b o hb e=>eb b o hb e) f0 f1 f3 f4 f5⟩
 self:=fun _ _ _ _ _ st h=>wpAny_pyIter_tupleiter st h
def ug{P:Program}{w:World}{K:Zo}{tg:Expr}(it:Addr)(lo:Int)(n:Nat):mV P w K tg (HR lo n) [it] it (fun i h=>IsRangeIter h it (lo+(i:Nat) * 1) ((n:Int) - (i:Nat)) 1) where
 mem:=by simp
 obj:=fun i h st b hb=>by
  have e:b=it:=by simpa using hb
  subst e
  exact⟨_,st,fun v z=>by
   have z':Data.fields _=Data.cell v:=z
   cases z'⟩
 keep:=fun i h h' st k=>k it (by simp) _ st
 item:=by
  intro X hP hw hK hc i pins s σ H E I hf st hg
  subst hP hw hK
  obtain⟨f0,f1,f2,f3,f4,f5⟩:=hf it (by simp)
  have W:=Walks.range (prog:=X.prog) (w:=X.w) (I.ok.hd hc) it lo 1 n
  refine W.item i s _ _ hg st fun v h' tk hv st' kk=>?_
  obtain⟨t,rfl⟩:=hv
  have I1:Inv X pins σ H { s with heap:=h',toks:=tk }:=I.turned (fun b o hb e=>kk b o (by simpa using hb) e) f0 f1 f3 f4 f5
  refine⟨_,rfl,j6 (s:={ s with heap:=h',toks:=tk }) (n:="range_iterator") st' rfl rfl (by decide) ⟨.int (lo+i),H,I1,⟨t,?_⟩,⟨rfl,rfl⟩,st',fun b hb=>(hf b hb).1⟩⟩
  rw[Int.mul_one]
 done:=by
  intro X hP hw hK hc i pins s σ H E I hf st hg
  subst hP hw hK
  obtain⟨f0,f1,f2,f3,f4,f5⟩:=hf it (by simp)
  exact wpAny_pyNext_range_end (I.ok.hd hc) st (by have:n<=i:=hg;omega) fun h' eb=>⟨rfl,I.turned (t':=s.toks) (fun b o hb e=>eb b o hb e) f0 f1 f3 f4 f5⟩
 self:=fun _ _ _ _ _ st h=>wpAny_pyIter_rangeiter st h
section
variable {X:Cx}{tg:Expr}
def x_{pins:Za}{σ:St}{H:Hp}{s:Shared}{R:It->Hp->Prop}{E:Zq}{lo hi:Int}{t u v:Tok}{tk:Nat}(I:Inv X pins σ H s)(h1:-(2 ^ 62)<=lo)(h2:lo < 2 ^ 62)(h3:-(2 ^ 62)<=hi)(h4:hi < 2 ^ 62)
  (q:R (HR lo (hi - lo).toNat) H):wpAny (model X.prog X.w) X.A (pyIter (.ref s.heap.objs.size)) (Iw X pins σ tg R) E { s with heap:=s.heap.push { cls:=.type "range",data:=.fields #[.int lo t,.int hi u,.int 1 v] },toks:=tk }:=by
 refine wpAny_pyIter_range (IsRange.new ..) (small_one h1 h2 h3 h4) ?_
 have I1:Inv X pins σ H { s with heap:=s.heap.push { cls:=.type "range",data:=.fields #[.int lo t,.int hi u,.int 1 v] },toks:=tk }:=I.kept fun b o e=>VJ _ e
 refine⟨(s.heap.push { cls:=.type "range",data:=.fields #[.int lo t,.int hi u,.int 1 v] }).objs.size,[(s.heap.push { cls:=.type "range",data:=.fields #[.int lo t,.int hi u,.int 1 v] }).objs.size],_,_,H,rfl,
  I1.kept (t':=tk) fun b o e=>VJ _ e,ug _ lo (hi - lo).toNat,?_,fun b hb=>?_,q⟩
 ·have e1:lo+((0:Nat):Int) * 1=lo:=by simp
  have e2:(((hi - lo).toNat:Nat):Int) - ((0:Nat):Int)=Builtin.Range.rangeSize lo hi 1:=by rw[rangeSize_one];split<;>omega
  show IsRangeIter _ _ (lo+((0:Nat):Int) * 1) ((((hi - lo).toNat:Nat):Int) - ((0:Nat):Int)) 1
  rw[e1,e2]
  exact VY _ rfl
 ·have e:b=(s.heap.push { cls:=.type "range",data:=.fields #[.int lo t,.int hi u,.int 1 v] }).objs.size:=by simpa using hb
  subst e
  exact I1.M6 (VM _) (I1.hok.fresh (VM _))
def Gg(ta:TA):TI:=fun σ H R=>ta σ H fun vs H1=>∃j:Int,vs=[.int j]/\-(2 ^ 62)<=j/\j < 2 ^ 62/\R (HR 0 j.toNat) H1
def ww{a:Expr}{ta:TA}{p pos:Pos}(hg:Gl X "range")(hm:X.mg "range" = none)(ha:PA X [a] ta)(hs:starEach [a] X.env=[(false,eval a X.env)]:=by rfl):PI X tg (.Call (.Name "range" p) [a] [] pos) (Gg ta):=by
 intro pins s σ H R I h
 refine Call_ (fw I hg hm boot_range (WM (J9 (ha pos pins s σ H _ I h) fun us s1 ⟨vs,H1,I1,r1,q1⟩=>?_) hs rfl))
 obtain⟨j,e,q1,q2,q⟩:=q1
 subst e
 cases r1 with
 |cons r rr=>
  cases rr
  obtain⟨t,rfl⟩:=r
  exact call_range_1 (x_ I1 (by omega) (by omega) q1 q2 (by simpa using q))
def Iy(wi:TI)(g:TG)(tb:TS):TS:=fun D σ H=>wi σ H fun J H1=>∃W:Nat->Nat->St->Hp->Prop,(∃m,W 0 m σ H1)/\∀i m σ H,W i m σ H->
 (J.stop i H/\D.nx σ H)\/(J.go i H/\∃N:St->Hp->Prop,(∀σ' H',N σ' H'->∃m',m' < m/\W (i+1) m' σ' H')/\∀x H',J.Sd i H x H'->g x σ H' fun σ2 H2=>tb { D with nx:=N,ct:=N,bk:=D.nx } σ2 H2)
noncomputable def mW(fp:List Addr)(h:Heap):List (Addr×Obj):=fp.filterMap fun b=>(h.get? b).map fun o=>(b,o)
def jA{fp:List Addr}{h:Heap}{b:Addr}{o:Obj}(hb:b∈fp)(e:h.get? b=some o):(b,o)∈mW fp h:=List.mem_filterMap.mpr ⟨b,hb,by rw[e];rfl⟩
def wx{fp:List Addr}{h:Heap}{p:Addr×Obj}(hp:p∈mW fp h):p.1∈fp/\h.get? p.1=some p.2:=by
 obtain⟨b,hb,e⟩:=List.mem_filterMap.mp hp
 cases q:h.get? b with
 |none=>rw[q]at e;cases e
 |some o=>
  rw[q]at e
  have e':(b,o)=p:=WR e
  subst e'
  exact⟨hb,q⟩
def Inv.pinned{pins:Za}{σ:St}{H:Hp}{s:Shared}{fp:List Addr}(I:Inv X pins σ H s)(hf:∀b∈fp,fV X pins H b)(ho:∀b∈fp,∃o,s.heap.get? b=some o/\∀v,o.data ≠ .cell v):Inv X (pins++mW fp s.heap) σ H s:=
 I.NR fun p hp=>(VO.mp hp).elim (fun z=>I.pin p (Wf _ z)) fun z=>by
  obtain⟨hb,e⟩:=wx z
  obtain⟨f0,f1,f2,_⟩:=hf p.1 hb
  obtain⟨o,e',d⟩:=ho p.1 hb
  rw[e]at e';cases e'
  exact⟨e,f0,f1,f2,d⟩
def Inv.Nj{pins pl:Za}{σ:St}{H:Hp}{s:Shared}(I:Inv X (pins++pl) σ H s):Inv X pins σ H s:=I.NR fun p hp=>I.pin p (Wf _ (WU _ hp))
def DU{iter:Expr}{body:List Stmt}{wi:TI}{g:TG}{tb:TS}{pos:Pos}(hp:PassesOwn (model X.prog X.w) X.A X.env X.xe)(hc:X.calm=true)(hi:PI X tg iter wi)(hg:PG X tg g)(hb:OO X body tb)
  (hs:∀x,foldedSetIterable iter X.env x=pure x:=by intro _;rfl):PS X (.For tg iter body [] pos) (Iy wi g tb):=by
 intro pins s σ H D I h
 refine wpAny_For (J9 (hi pins s σ H _ I h) fun v s1 h1=>J9 h1 fun itv s2 h2=>?_) hs
 obtain⟨it,fp,tn,J,H2,e,I2,T,st2,f2,W,⟨m0,w0⟩,turn⟩:=h2
 subst e
 -- what stays true of the iterator's objects through the loop
 have stat:∀{H':Hp},(∀b∈fp,H' b=none)->∀b∈fp,fV X pins H' b:=fun hn b hb=>⟨hn b hb,(f2 b hb).2⟩
 refine codeAny_forLoop_any (fun n s'=>∃i σ' H',Inv X pins σ' H' s'/\tn i s'.heap/\(∀b∈fp,H' b=none)/\W i n σ' H') ?_ m0 ⟨0,σ,H2,I2,st2,fun b hb=>(f2 b hb).1,w0⟩
 rintro n s3 ⟨i,σ3,H3,I3,st3,TW,w3⟩
 rcases turn i n σ3 H3 w3 with⟨stop,qn⟩|⟨go,N,hN,step⟩
 ·refine XZ hp (J9 (T.done X rfl rfl rfl hc i pins s3 σ3 H3 X.xe I3 (stat TW) st3 stop) fun r s4 ⟨hr,I4⟩=>?_)
  subst hr
  exact ZM ⟨σ3,H3,I4,qn⟩
 ·refine XZ hp (J9 (T.item X rfl rfl rfl hc i pins s3 σ3 H3 X.xe I3 (stat TW) st3 go) fun r s4 ⟨u,hr,h4⟩=>?_)
  subst hr
  refine XZ hp (J9 h4 fun _ s5 ⟨x,H5,I5,r5,y5,Qo,SI⟩=>?_)
  have SJ:=I5.pinned (stat SI) (T.obj _ _ Qo)
  refine XZ hp (J9 (hg _ s5 σ3 H5 x u _ SJ r5 (step x H5 y5)) fun _ s6 ⟨σ6,H6,I6,q6⟩=>?_)
  refine XZ hp (J9 (hb _ s6 σ6 H6 _ I6 q6) fun f s7 q7=>?_)
  have again:∀{σ7:St} {H7:Hp},Inv X (pins++mW fp s5.heap) σ7 H7 s7->N σ7 H7->∃m,m < n/\∃i σ' H',Inv X pins σ' H' s7/\tn i s7.heap/\(∀b∈fp,H' b=none)/\W i m σ' H':=fun{σ7 H7} I7 n7=>by
   obtain⟨m',hm,w7⟩:=hN σ7 H7 n7
   refine⟨m',hm,i+1,σ7,H7,I7.Nj,T.keep _ _ _ Qo fun b hb o e=>(I7.pin (b,o) (Wf _ (Wf _ (jA hb e)))).1,fun b hb=>?_,w7⟩
   obtain⟨o,e,d⟩:=T.obj _ _ Qo b hb
   exact(I7.pin (b,o) (Wf _ (Wf _ (jA hb e)))).2.1
  cases f with
  |next=>obtain⟨σ7,H7,I7,n7⟩:=q7;exact again I7 n7
  |cont=>obtain⟨σ7,H7,I7,n7⟩:=q7;exact again I7 n7
  |brk=>obtain⟨σ7,H7,I7,q7⟩:=q7;exact⟨σ7,H7,I7.Nj,q7⟩
  |ret v=>obtain⟨x7,σ7,H7,I7,r7,q7⟩:=q7;exact⟨x7,σ7,H7,I7.Nj,r7,q7⟩
end
abbrev R2:=V->V->Hp->VK->Prop
def j3(X:Cx)(f:Value->Value->Sem Value)(r:R2):Prop:=
 ∀(pins:Za)(s:Shared)(σ:St)(H:Hp)(x y:V)(v u:Value)(Q:VK),Inv X pins σ H s->RelV x v->RelV y u->r x y H Q->
  wpAny (model X.prog X.w) X.A (f v u) (EP X pins σ Q) X.xe s
def HS(X:Cx)(f:Value->Sem Value)(r:V->Hp->VK->Prop):Prop:=
 ∀(pins:Za)(s:Shared)(σ:St)(H:Hp)(x:V)(v:Value)(Q:VK),Inv X pins σ H s->RelV x v->r x H Q->
  wpAny (model X.prog X.w) X.A (f v) (EP X pins σ Q) X.xe s
def fc(X:Cx)(f:Value)(r:List V->Hp->VK->Prop):Prop:=
 ∀(pins:Za)(s:Shared)(σ:St)(H:Hp)(xs:List V)(us:Zx)(Q:VK),Inv X pins σ H s->Vals xs us->r xs H Q->
  wpAny (model X.prog X.w) X.A (call f us) (EP X pins σ Q) X.xe s
def Gh(r:R2)(ta tb:TE):TE:=fun σ H Q=>ta σ H fun x H1=>tb σ H1 fun y H2=>r x y H2 Q
def JC(r:V->Hp->VK->Prop)(ta:TE):TE:=fun σ H Q=>ta σ H fun x H1=>r x H1 Q
def rI(C:Int->Int->Prop)(g:Int->Int->V):R2:=fun x y H Q=>∃i j,x = .int i/\y = .int j/\C i j/\Q (g i j) H
def A0(g:Int->Int->V):R2:=fun x y H Q=>∃i j,x = .int i/\y = .int j/\Q (g i j) H
noncomputable def rU(g:Int->V):V->Hp->VK->Prop:=fun x H Q=>∃i,x = .int i/\Q (g i) H
section
variable {X:Cx}{a b c:Expr}{ta tb tc:TE}{pos:Pos}
def DV(ha:PE X a ta)(hb:PE X b tb){pins:Za}{s:Shared}{σ:St}{H:Hp}{R:V->V->Hp->Prop}(I:Inv X pins σ H s)
  (h:ta σ H fun x H1=>tb σ H1 fun y H2=>R x y H2) {Q:Zq} {f:Value->Value->Sem Value}
  (hf:∀v u s2 x y H2,Inv X pins σ H2 s2->RelV x v->RelV y u->R x y H2->wpAny (model X.prog X.w) X.A (f v u) Q X.xe s2) :
  wpAny (model X.prog X.w) X.A (eval a X.env) (fun v s₁=>wpAny (model X.prog X.w) X.A (eval b X.env) (fun u s₂=>wpAny (model X.prog X.w) X.A (f v u) Q X.xe s₂) X.xe s₁) X.xe s:=by
 refine J9 (ha pins s σ H _ I h) fun v s1 ⟨x,H1,I1,r1,q1⟩=>?_
 refine J9 (hb pins s1 σ H1 _ I1 q1) fun u s2 ⟨y,H2,I2,r2,q2⟩=>?_
 exact hf v u s2 x y H2 I2 r1 r2 q2
def Gi{op:Operator}{r:R2}(ho:j3 X (binaryOp op) r)(ha:PE X a ta)(hb:PE X b tb):PE X (.BinOp a op b pos) (Gh r ta tb):=by
 intro pins s σ H Q I h
 exact wpAny_BinOp (DV ha hb I h fun v u s2 x y H2 I2 rx ry q=>ho pins s2 σ H2 x y v u Q I2 rx ry q)
def Gj{op:UnaryOp}{r:V->Hp->VK->Prop}(ho:HS X (unaryOp op) r)(ha:PE X a ta):PE X (.UnaryOp op a pos) (JC r ta):=by
 intro pins s σ H Q I h
 exact UnaryOp_ (J9 (ha pins s σ H _ I h) fun v s1 ⟨x,H1,I1,r1,q1⟩=>ho pins s1 σ H1 x v Q I1 r1 q1)
def HU{f:Value->Value->Sem Value}{C:Int->Int->Prop}{g:Int->Int->Int}
  (rule:∀(i j:Int)(t u:Tok)(s:Shared)(Q:Zq)(E:Zq),C i j->Q (.int (g i j) s.toks) { s with toks:=s.toks+1 }->wpAny (model X.prog X.w) X.A (f (.int i t) (.int j u)) Q E s) :
  j3 X f (rI C fun i j=>.int (g i j)):=by
 intro pins s σ H x y v u Q I rx ry h
 obtain⟨i,j,rfl,rfl,hc,q⟩:=h
 obtain⟨t,rfl⟩:=rx
 obtain⟨t',rfl⟩:=ry
 exact rule i j t t' s _ _ hc ⟨.int (g i j),H,I.tok _,⟨_,rfl⟩,q⟩
def Gk{f:Value->Value->Sem Value}{g:Int->Int->Int}
  (rule:∀(i j:Int)(t u:Tok)(s:Shared)(Q:Zq)(E:Zq),Q (.int (g i j) s.toks) { s with toks:=s.toks+1 }->wpAny (model X.prog X.w) X.A (f (.int i t) (.int j u)) Q E s) :
  j3 X f (A0 fun i j=>.int (g i j)):=by
 intro pins s σ H x y v u Q I rx ry h
 obtain⟨i,j,rfl,rfl,q⟩:=h
 obtain⟨t,rfl⟩:=rx
 obtain⟨t',rfl⟩:=ry
 exact rule i j t t' s _ _ ⟨.int (g i j),H,I.tok _,⟨_,rfl⟩,q⟩
def DW{f:Value->Value->Sem Value}{g:Int->Int->Bool}
  (rule:∀(i j:Int)(t u:Tok)(s:Shared)(Q:Zq)(E:Zq),Q (.bool (g i j)) s->wpAny (model X.prog X.w) X.A (f (.int i t) (.int j u)) Q E s) :
  j3 X f (A0 fun i j=>.bl (g i j)):=by
 intro pins s σ H x y v u Q I rx ry h
 obtain⟨i,j,rfl,rfl,q⟩:=h
 obtain⟨t,rfl⟩:=rx
 obtain⟨t',rfl⟩:=ry
 exact rule i j t t' s _ _ ⟨.bl (g i j),H,I,rfl,q⟩
def DX(i j:Int):Prop:=0<=j/\j<=1000000/\i.natAbs < 2 ^ 64
def Qp(i j:Int):Prop:=(-(2 ^ 64) < i/\i < 2 ^ 64)\/(-(2 ^ 64) < j/\j < 2 ^ 64)
def Qp.ok{i j:Int}(h:Qp i j):IntMulOk i j:=by
 rcases h with⟨h1,h2⟩|⟨h1,h2⟩
 ·exact .of_left (intBits_le_64 h1 h2)
 ·exact .of_right (intBits_le_64 h1 h2)
def DY:j3 X (binaryOp .Add) (A0 fun i j=>.int (i+j)):=Gk fun _ _ _ _ _ _ _ q=>add_int q
def DZ:j3 X (binaryOp .Sub) (A0 fun i j=>.int (i - j)):=Gk fun _ _ _ _ _ _ _ q=>sub_int q
def A1:j3 X (binaryOp .Mod) (rI (fun _ j=>j≠0) fun i j=>.int (i.fmod j)):=HU fun _ _ _ _ _ _ _ hc q=>mod_int' hc q
def D8:j3 X (binaryOp .Pow) (rI DX fun i j=>.int (i ^ j.toNat)):=HU fun _ _ _ _ _ _ _ hc q=>pow_int_small hc.1 hc.2.1 hc.2.2 q
def JD{f:Value->Sem Value}{g:Int->Int}
  (rule:∀(i:Int)(t:Tok)(s:Shared)(Q:Zq)(E:Zq),Q (.int (g i) s.toks) { s with toks:=s.toks+1 }->wpAny (model X.prog X.w) X.A (f (.int i t)) Q E s) :
  HS X f (rU fun i=>.int (g i)):=by
 intro pins s σ H x v Q I rx h
 obtain⟨i,rfl,q⟩:=h
 obtain⟨t,rfl⟩:=rx
 exact rule i t s _ _ ⟨.int (g i),H,I.tok _,⟨_,rfl⟩,q⟩
def D9:HS X (unaryOp .USub) (rU fun i=>.int (-i)):=JD fun _ _ _ _ _ q=>neg_int q
end
noncomputable def Gm:V->V->Bool
 | .non,.non=>true | .non,.int _=>true | .int _,.non=>true | .non,.bl _=>true | .bl _,.non=>true | .non,.str _=>true | .str _,.non=>true
 | .int _,.int _=>true | .bl _,.bl _=>true | .str _,.str _=>true | .PU _,.PU _=>true
 | .int _,.str _=>true | .str _,.int _=>true | .bl _,.str _=>true | .str _,.bl _=>true
 |_,_=>false
def JE:R2:=fun x y H Q=>Gm x y=true/\Q (.bl (decide (x=y))) H
def JF:R2:=fun x y H Q=>Gm x y=true/\Q (.bl (!decide (x=y))) H
def vk{i j:Int}:decide (V.int i=V.int j)=(i == j):=by
 rw[Yv]
 simp
def ya{i j:Bool}:decide (V.bl i=V.bl j)=(i == j):=by
 rw[Yv]
 simp
def vm{i j:Str}:decide (V.str i=V.str j)=(i == j):=by
 rw[Yv]
 simp
def vn{i j:Array UInt8}:decide (V.PU i=V.PU j)=(i.toList == j.toList):=by
 rw[Yv]
 cases i
 cases j
 simp
section
variable {X:Cx}{a b c:Expr}{ta tb tc:TE}{pos:Pos}
def aX{pins:Za}{σ:St}{H:Hp}{s:Shared}{Q:VK}{k k':Bool}(I:Inv X pins σ H s)(q:Q (.bl k) H)(e:k=k'):EP X pins σ Q (.bool k') s:=by
 subst e
 exact⟨.bl k,H,I,rfl,q⟩
def yb:j3 X (compareOp .Eq) JE:=by
 intro pins s σ H x y v u Q I rx ry h
 obtain⟨hs,q⟩:=h
 cases x with
 |non=>
  cases rx
  cases y with
  |non=>cases ry;exact PySem.EqNone.eq_none_none (aX I q (by simp))
  |bl j=>cases ry;exact PySem.EqNone.eq_none_bool (aX I q (by simp))
  |int j=>obtain⟨t',rfl⟩:=ry;exact PySem.EqNone.eq_none_int (aX I q (by simp))
  |str j=>obtain⟨t',rfl⟩:=ry;exact PySem.EqNone.eq_none_str (aX I q (by simp))
  |_=>exact absurd (show false=true from hs) Wk
 |bl i=>
  cases rx
  cases y with
  |non=>cases ry;exact PySem.EqNone.eq_bool_none (aX I q (by simp))
  |bl j=>cases ry;exact eq_bool (aX I q ya)
  |str j=>obtain⟨t',rfl⟩:=ry;exact PySem.EqMixed.eq_bool_str (aX I q (by simp))
  |_=>exact absurd (show false=true from hs) Wk
 |int i=>
  obtain⟨t,rfl⟩:=rx
  cases y with
  |non=>cases ry;exact PySem.EqNone.eq_int_none (aX I q (by simp))
  |int j=>obtain⟨t',rfl⟩:=ry;exact eq_int (aX I q vk)
  |str j=>obtain⟨t',rfl⟩:=ry;exact PySem.EqMixed.eq_int_str (aX I q (by simp))
  |_=>exact absurd (show false=true from hs) Wk
 |str i=>
  obtain⟨t,rfl⟩:=rx
  cases y with
  |non=>cases ry;exact PySem.EqNone.eq_str_none (aX I q (by simp))
  |bl j=>cases ry;exact PySem.EqMixed.eq_str_bool (aX I q (by simp))
  |int j=>obtain⟨t',rfl⟩:=ry;exact PySem.EqMixed.eq_str_int (aX I q (by simp))
  |str j=>obtain⟨t',rfl⟩:=ry;exact eq_str (aX I q vm)
  |_=>exact absurd (show false=true from hs) Wk
 |PU i=>
  obtain⟨t,rfl⟩:=rx
  cases y with
  |PU j=>obtain⟨t',rfl⟩:=ry;exact PySem.W.eq_bytes (aX I q vn)
  |_=>exact absurd (show false=true from hs) Wk
 |_=>cases y<;>exact absurd (show false=true from hs) Wk
def yc:j3 X (compareOp .NotEq) JF:=by
 intro pins s σ H x y v u Q I rx ry h
 obtain⟨hs,q⟩:=h
 cases x with
 |non=>
  cases rx
  cases y with
  |non=>cases ry;exact PySem.EqNone.ne_none_none (aX I q (by simp))
  |bl j=>cases ry;exact PySem.EqNone.ne_none_bool (aX I q (by simp))
  |int j=>obtain⟨t',rfl⟩:=ry;exact PySem.EqNone.ne_none_int (aX I q (by simp))
  |str j=>obtain⟨t',rfl⟩:=ry;exact PySem.EqNone.ne_none_str (aX I q (by simp))
  |_=>exact absurd (show false=true from hs) Wk
 |bl i=>
  cases rx
  cases y with
  |non=>cases ry;exact PySem.EqNone.ne_bool_none (aX I q (by simp))
  |bl j=>cases ry;exact ne_bool (aX I q (WW not ya))
  |str j=>obtain⟨t',rfl⟩:=ry;exact PySem.EqMixed.ne_bool_str (aX I q (by simp))
  |_=>exact absurd (show false=true from hs) Wk
 |int i=>
  obtain⟨t,rfl⟩:=rx
  cases y with
  |non=>cases ry;exact PySem.EqNone.ne_int_none (aX I q (by simp))
  |int j=>obtain⟨t',rfl⟩:=ry;exact ne_int (aX I q (WW not vk))
  |str j=>obtain⟨t',rfl⟩:=ry;exact PySem.EqMixed.ne_int_str (aX I q (by simp))
  |_=>exact absurd (show false=true from hs) Wk
 |str i=>
  obtain⟨t,rfl⟩:=rx
  cases y with
  |non=>cases ry;exact PySem.EqNone.ne_str_none (aX I q (by simp))
  |bl j=>cases ry;exact PySem.EqMixed.ne_str_bool (aX I q (by simp))
  |int j=>obtain⟨t',rfl⟩:=ry;exact PySem.EqMixed.ne_str_int (aX I q (by simp))
  |str j=>obtain⟨t',rfl⟩:=ry;exact ne_str (aX I q (WW not vm))
  |_=>exact absurd (show false=true from hs) Wk
 |PU i=>
  obtain⟨t,rfl⟩:=rx
  cases y with
  |PU j=>obtain⟨t',rfl⟩:=ry;exact PySem.W.ne_bytes (aX I q (WW not vn))
  |_=>exact absurd (show false=true from hs) Wk
 |_=>cases y<;>exact absurd (show false=true from hs) Wk
def Gn:j3 X (compareOp .Lt) (A0 fun i j=>.bl (decide (i < j))):=DW fun _ _ _ _ _ _ _ q=>lt_int q
def Go:j3 X (compareOp .Gt) (A0 fun i j=>.bl (decide (j < i))):=DW fun _ _ _ _ _ _ _ q=>gt_int q
def Gp:j3 X (compareOp .GtE) (A0 fun i j=>.bl (decide (j<=i))):=DW fun _ _ _ _ _ _ _ q=>ge_int q
def wy:j3 X (compareOp .In) (fun x y H Q=>∃i j,x = .str i/\y = .str j/\Q (.bl (!(Builtin.Str.occurrences j i 0 j.length 1).isEmpty)) H):=by
 intro pins s σ H x y v u Q I rx ry h
 obtain⟨i,j,rfl,rfl,q⟩:=h
 obtain⟨t,rfl⟩:=rx
 obtain⟨t',rfl⟩:=ry
 exact in_str (aX I q rfl)
def A2:j3 X (compareOp .IsNot) (fun x y H Q=>y = .non/\Q (.bl (!decide (x = .non))) H):=by
 intro pins s σ H x y v u Q I rx ry h
 obtain⟨rfl,q⟩:=h
 cases ry
 refine isnot_none_gen (aX I q ?_)
 cases x<;>first
  |(cases rx;rfl)
  |(obtain⟨t,rfl⟩:=rx;rfl)
def bf(b:Expr){op:CmpOp}(h:op ≠ .In:=by decide)(h2:op ≠ .NotIn:=by decide):behindInMarks op b=false:=by
 have e1:(op == CmpOp.In)=false:=by cases op<;>first|rfl|exact absurd rfl h
 have e2:(op == CmpOp.NotIn)=false:=by cases op<;>first|rfl|exact absurd rfl h2
 cases b<;>simp[behindInMarks,e1,e2]
def A3{op:CmpOp}{r:R2}(ho:j3 X (compareOp op) r)(ha:PE X a ta)(hb:PE X b tb)(hm:behindInMarks op b=false):PE X (.Compare a [op] [b] pos) (Gh r ta tb):=by
 intro pins s σ H Q I h
 exact wpAny_Compare1 (DV ha hb I h fun v u s2 x y H2 I2 rx ry q=>ho pins s2 σ H2 x y v u Q I2 rx ry q) hm
def Gq(t:TE):TT:=fun σ H Q=>t σ H fun x H'=>∃k,x = .bl k/\Q k H'
def A4{op:CmpOp}{r:R2}(ho:j3 X (compareOp op) r)(ha:PE X a ta)(hb:PE X b tb)(hm:behindInMarks op b=false):PT X (.Compare a [op] [b] pos) (Gq (Gh r ta tb)):=by
 intro pins s σ H Q I h
 refine wpAny_isTrue_Compare1 (J9 (ha pins s σ H _ I h) fun v s1 ⟨x,H1,I1,r1,q1⟩=>J9 (hb pins s1 σ H1 _ I1 q1) fun u s2 ⟨y,H2,I2,r2,q2⟩=>
  J9 (ho pins s2 σ H2 x y v u _ I2 r1 r2 q2) fun c s3 ⟨z,H3,I3,r3,k,e,q3⟩=>?_) hm
 subst e
 cases r3
 exact Yd ⟨H3,I3,q3⟩
def lg:(sizeLine:Nat) < 2 ^ 63:=by rw[sizeLine_eq];decide
def uh:j3 X (binaryOp .Add) (fun x y H Q=>∃i j,x = .str i/\y = .str j/\i.length+j.length<=sizeLine/\Q (.str (i++j)) H):=by
 intro pins s σ H x y v u Q I rx ry h
 obtain⟨i,j,rfl,rfl,hz,q⟩:=h
 obtain⟨t,rfl⟩:=rx
 obtain⟨t',rfl⟩:=ry
 exact add_str (fun t' tk=>⟨.str (i++j),H,I.tok _,⟨_,rfl⟩,q⟩) hz
def eI{x:V}{us:Zx}(r:Vals [x] us):∃u,us=[u]/\RelV x u:=by
 cases r with
 |cons r1 r2=>cases r2;exact⟨_,rfl,r1⟩
def yd{x y:V}{us:Zx}(r:Vals [x,y] us):∃u w',us=[u,w']/\RelV x u/\RelV y w':=by
 cases r with
 |cons r1 r2=>
  cases r2 with
  |cons r3 r4=>cases r4;exact⟨_,_,rfl,r1,r3⟩
def ye:fc X (.builtin "abs") (fun xs H Q=>∃i,xs=[.int i]/\Q (.int (if i < 0 then -i else i)) H):=by
 intro pins s σ H xs us Q I r h
 obtain⟨i,rfl,q⟩:=h
 obtain⟨u,rfl,t,rfl⟩:=eI r
 exact call_abs_int fun u tk=>⟨.int (if i < 0 then -i else i),H,I.tok _,⟨_,rfl⟩,q⟩
def wA(hc:X.calm=true):fc X (.builtin "max") (fun xs H Q=>∃i j,xs=[.int i,.int j]/\Q (.int (if j > i then j else i)) H):=by
 intro pins s σ H xs us Q I r h
 obtain⟨i,j,rfl,q⟩:=h
 obtain⟨u,w',rfl,⟨t,rfl⟩,⟨t',rfl⟩⟩:=yd r
 refine max_two_ints (I.ok.hd hc) fun h' tk k=>⟨_,H,I.kept k,?_,q⟩
 by_cases hj:j > i
 ·rw[if_pos hj,if_pos hj];exact⟨_,rfl⟩
 ·rw[if_neg hj,if_neg hj];exact⟨_,rfl⟩
def pG:fc X (.type "int") (fun xs H Q=>(∃i,xs=[.int i]/\Q (.int i) H)\/∃k,xs=[.bl k]/\Q (.int (if k then 1 else 0)) H):=by
 intro pins s σ H xs us Q I r h
 rcases h with⟨i,rfl,q⟩|⟨k,rfl,q⟩
 ·obtain⟨u,rfl,t,rfl⟩:=eI r
  exact call_int_int ⟨.int i,H,I,⟨_,rfl⟩,q⟩
 ·obtain⟨u,rfl,r1⟩:=eI r
  cases r1
  exact call_int_bool ⟨.int (if k then 1 else 0),H,I.tok _,⟨_,rfl⟩,q⟩
end
def RelO.some_of{v:V}{o:Option Value}(r:RelO (some v) o):∃u,o=some u/\RelV v u:=by
 cases o with
 |none=>exact(show False from r).elim
 |some u=>exact⟨u,rfl,r⟩
structure Room(k:Nat)(A:Around):Prop where
 hd:A.handled=none
 dp:A.depth+3 * k+5 < recursionLimit
 un:A.units+16 * k+200 < cLine
 gd:A.guards=some []
def Room.mono{j k:Nat}{A:Around}(r:Room k A)(h:j<=k):Room j A:=⟨r.hd,by have:=r.dp;omega,by have:=r.un;omega,r.gd⟩
theorem Room.deeper{k:Nat}{A:Around}(r:Room (k+1) A)(env:Env):Room k (A.deeper env):=
 ⟨r.hd,by have:=r.dp;show A.depth+1+3 * k+5 < _;omega,by have:=r.un;show A.units+3+16 * k+200 < _;omega,r.gd⟩
theorem Room.depth{k:Nat}{A:Around}(r:Room k A):A.depth < recursionLimit:=by have:=r.dp;omega
def Gr:TA:=fun _ H Q=>Q [] H
def C6(ta:TE)(tr:TA):TA:=fun σ H Q=>ta σ H fun x H1=>tr σ H1 fun xs H2=>Q (x::xs) H2
section
variable {X:Cx}{e:Expr}{es:List Expr}{te:TE}{t:TA}{pos:Pos}
def D_:PA X [] Gr:=fun _ _ _ _ H Q I h=>YA ⟨[],H,I,.nil,h⟩
def A5(ha:PE X e te)(hr:PA X es t)(hs:starEach (e::es) X.env=(false,eval e X.env)::starEach es X.env:=by rfl):PA X (e::es) (C6 te t):=by
 intro pos pins s σ H Q I h
 rw[hs]
 show wpAny _ _ (spliced ((false,eval e X.env)::backTo pos (starEach es X.env))) _ _ s
 refine XS (J9 (ha pins s σ H _ I h) fun u s1 ⟨x,H1,I1,r1,q1⟩=>?_)
 exact J9 (hr pos pins s1 σ H1 _ I1 q1) fun us s2 ⟨xs,H2,I2,r2,q2⟩=>⟨x::xs,H2,I2,.cons r1 r2,q2⟩
def Iz(t:TA):TE:=fun σ H Q=>t σ H fun xs H1=>xs.length<=sizeLine/\∀p,H1 p=none->Q (.ref p) (upd H1 p (.tup xs))
def IA(t:TA):TE:=fun σ H Q=>t σ H fun xs H1=>xs.length<=sizeLine/\∀p,H1 p=none->Q (.ref p) (upd H1 p (.lst xs))
def Ea{x1}(h:PA X es t):PE X (.Tuple es x1 pos) (Iz t):=by
 intro pins s σ H Q I hq
 refine wpAny_Tuple_spliced (J9 (h pos pins s σ H _ I hq) fun us s1 ⟨xs,H1,I1,r,z,q⟩=>⟨by rw[<-r.length];exact z,?_⟩)
 have hf:H1 s1.heap.objs.size=none:=I1.hok.fresh (VM _)
 refine⟨.ref s1.heap.objs.size,upd H1 s1.heap.objs.size (.tup xs),I1.laid (t':=s1.toks) (fun b u e=>VJ _ e) (VM _) ?_,rfl,q _ hf⟩
 exact⟨z,us,r,⟨_,VY _ rfl,rfl,rfl,_,rfl⟩⟩
def Eb(h:PA X es t):PE X (.List es pos) (IA t):=by
 intro pins s σ H Q I hq
 refine wpAny_List_spliced (J9 (h pos pins s σ H _ I hq) fun us s1 ⟨xs,H1,I1,r,z,q⟩=>⟨by rw[<-r.length];exact z,?_⟩)
 have hf:H1 s1.heap.objs.size=none:=I1.hok.fresh (VM _)
 refine⟨.ref s1.heap.objs.size,upd H1 s1.heap.objs.size (.lst xs),I1.laid (t':=s1.toks) (fun b u e=>VJ _ e) (VM _) ?_,rfl,q _ hf⟩
 exact⟨z,us,0,r,VY _ rfl⟩
end
abbrev Sp:=List V->Hp->VK->XK->Prop
abbrev AM:=List Env->Hp->Shared->XK->Value->Shared->Prop
structure A6(P:Program)(w:World)(K:Zo)(mg:Zr)(base:Heap)(A:Around)(outer:List Env)(s:Shared)(H:Hp):Prop where
 frames:A.frames=some outer
 mod:Mod K mg base
 bs:∀b o,base.get? b=some o->s.heap.get? b=some o/\H b=none
 Qn:base.objs.size<=s.heap.objs.size
 NO:s.heap.FunFrames base outer
 QY:∀b∈frs outer,H b=none
 hok:MS P w H s.heap
 bare:AllBare s.gens
def CE(outer:List Env)(P:Program)(w:World)(H:Hp)(s:Shared)(Q:VK)(u:Value)(s':Shared):Prop:=
 ∃v H',s'.os=s.os/\AllBare s'.gens/\Un (frs outer) [] H H' s.heap s'.heap/\MS P w H' s'.heap/\RelV v u/\Q v H'
def CR(CX:AM)(outer:List Env)(P:Program)(w:World)(H:Hp)(s:Shared)(Q:VK)(E:XK)(r:Result)(s':Shared):Prop:=
 match r with
 | .ok (.ret u)=>CE outer P w H s Q u s'
 | .ok _=>False
 | .error e=>CX outer H s E e s'
structure oP(P:Program)(w:World)(K:Zo)(mg:Zr)(base:Heap)(CX:AM)(k:Nat)(f:Addr)(fd:FuncData)(ps:Zs)(sp:Sp):Prop where
 len:∀vs H Q E,sp vs H Q E->vs.length=ps.length
 run:∀(A:Around)(outer:List Env)(s:Shared)(H:Hp)(args:Args)(us:Zx)(vs:List V)(Q:VK)(E:XK),Room k A->A6 P w K mg base A outer s H->BindsTo s fd args (ps.zip us)->Vals vs us->sp vs H Q E->
  codeAny (model P w) A (.call (.ref f) args) (CR CX outer P w H s Q E) s
section
variable {X:Cx}{pins:Za}{σ:St}{H:Hp}{s s':Shared}
def Inv.SK(I:Inv X pins σ H s):A6 X.prog X.w X.K X.mg X.base X.A X.stack s H:=
 ⟨I.ok.frames,I.ok.mod,I.bs,VU I.ok.Qn I.sz,I.stack,I.Pt,I.hok,I.bare⟩
def Inv.after{Q:VK}{u:Value}(I:Inv X pins σ H s)(h:CE X.stack X.prog X.w H s Q u s'):EP X pins σ Q u s':=by
 obtain⟨v,H',os,bare,un,hok,r,q⟩:=h
 obtain⟨hh,g,d,t,os'⟩:=s'
 obtain rfl:os'=s.os:=os
 exact⟨v,H',I.call (h':=hh) (g':=g) (d':=d) (t':=t) (ch:=[]) un hok bare (fun b z=>absurd z (by simp)),r,q⟩
end
def Gs(sp:Sp)(dvs:List V)(E:XK)(t:TA):TE:=fun σ H Q=>t σ H fun vs H1=>sp (vs++dvs) H1 Q E
def Binds(K:Zo)(fd:FuncData)(ps:Zs)(ds:Zx):Prop:=
 ∀(s:Shared)(us:Zx),K.In s.heap->(us++ds).length=ps.length->BindsTo s fd ⟨us,[]⟩ (ps.zip (us++ds))
def Binds.all{K:Zo}{fd:FuncData}{ps:Zs}(h:∀us:List Value,us.length=ps.length->bindArgs fd ⟨us,[]⟩=pure (ps.zip us)):Binds K fd ps []:=fun s us _ hl=>by
 rw[Wh]at hl ⊢
 exact .of_eq (h us hl)
def uk(CX:AM)(X:Cx)(E:XK):Prop:=∀(pins:Za)(σ:St)(H:Hp)(s:Shared)(e:Value)(s':Shared),Inv X pins σ H s->CX X.stack H s E e s'->X.xe e s'
section
variable {X:Cx}{CX:AM}{k:Nat}{f C:Addr}{fd:FuncData}{ps:Zs}{sp:Sp}{dvs:List V}{ds:Zx}{E:XK}{x m:Str}{p pos apos:Pos}{e o:Expr}{es:List Expr}{ta:TE}{t:TA}
def Ec{pins:Za}{σ:St}{H:Hp}{s:Shared}{Q:VK}{us:Zx}{vs:List V}(F:oP X.prog X.w X.K X.mg X.base CX k f fd ps sp)(hr:Room k X.A)(hb:Binds X.K fd ps ds)(hd:Vals dvs ds)(hx:uk CX X E)
  (I:Inv X pins σ H s) (r:Vals vs us) (h:sp (vs++dvs) H Q E):wpAny (model X.prog X.w) X.A (call (.ref f) us) (EP X pins σ Q) X.xe s:=by
 have r2:Vals (vs++dvs) (us++ds):=r.append hd
 have hl:(us++ds).length=ps.length:=by rw[<-r2.length];exact F.len _ _ _ _ h
 refine wpAny_call (codeAny_mono (F.run X.A X.stack s H ⟨us,[]⟩ (us++ds) (vs++dvs) Q E hr I.SK (hb s us I.PY hl) r2 h) fun r s' hq=>?_)
 cases r with
 |error e=>exact hx pins σ H s e s' I hq
 |ok fl=>
  cases fl with
  |ret u=>exact I.after hq
  |next=>exact False.elim hq
  |brk=>exact False.elim hq
  |cont=>exact False.elim hq
def vo(F:oP X.prog X.w X.K X.mg X.base CX k f fd ps sp)(hr:Room k X.A)(hg:Gl X x)(hm:X.mg x=some (.ref f))(hk:PySem.W.keepIn X.K (.ref f)=true)(hb:Binds X.K fd ps ds)(hd:Vals dvs ds)(hx:uk CX X E)
  (ha:PA X (e::es) t) (hdb:(x == ("__debug__":Str))=false:=by decide) (he:starEach (e::es) X.env=(false,eval e X.env)::starEach es X.env:=by rfl) (hpl:(backTo pos (starEach es X.env)).any (·.1)=false:=by rfl) :
  PE X (.Call (.Name x p) (e::es) [] pos) (Gs sp dvs E t):=by
 intro pins s σ H Q I h
 refine XT (vj I hg hm ?_ hdb)
 refine PySem.W.callWith_K (h₀:=X.base) I.ok.mod.SD hk (J9 (ha pos pins s σ H _ I h) fun us s1 ⟨vs,H1,I1,r,q⟩=>⟨I1.PY,?_⟩) he hpl
 exact Ec F hr hb hd hx I1 r q
end
structure eu(N P:Zs)(sc:Scope):Prop where
 kind:sc.kind = .function
 co:sc.isCoroutine=false
 gen:sc.isGenerator=false
 nd:N.Nodup
 pre:N.take P.length=P
 par:∀x∈P,sc.names.lookup x=some .local\/sc.names.lookup x=some .cell
 Q5:∀y∈sc.names,y.2 ≠ .free
theorem pH{kindOf:Str->Option NameKind}{x:Str}:∀{binds:List (Str×Value)}{m:Zr},(∀v,(x,v) ∉ binds)->bindL kindOf binds m x=m x
 |[],_,_=>rfl
 |(n,v)::r,m,h=>by
  unfold bindL
  rw[pH fun w hw=>h w (W8 _ hw)]
  split
  ·have:x≠n:=by rintro rfl;exact h v Xu
   simp[this]
  ·rfl
theorem pI{kindOf:Str->Option NameKind}{x:Str}:∀{binds:List (Str×Value)}{m:Zr},(∀v,(x,v) ∉ binds)->bindC kindOf binds m x=m x
 |[],_,_=>rfl
 |(n,v)::r,m,h=>by
  unfold bindC
  rw[pI fun w hw=>h w (W8 _ hw)]
  split
  ·rfl
  ·have:x≠n:=by rintro rfl;exact h v Xu
   simp[this]
theorem pJ{kindOf:Str->Option NameKind}{x:Str}{v:Value}:∀{P:Zs}{vs:Zx}{i:Nat}{m:Zr},P.Nodup->P[i]?=some x->vs[i]?=some v->kindOf x=some .local->
  bindL kindOf (P.zip vs) m x=some v
 |[],_,_,_,_,h,_,_=>by simp at h
 |_::_,[],_,_,_,_,h,_=>by simp at h
 |p::P,w::vs,0,m,nd,h1,h2,hk=>by
  simp at h1 h2;subst h1;subst h2
  show bindL kindOf ((p,w)::P.zip vs) m p=_
  unfold bindL
  rw[pH fun v hv=>(WJ.mp nd).1 (Yw hv).1,if_pos hk]
  simp
 |p::P,w::vs,i+1,m,nd,h1,h2,hk=>by
  show bindL kindOf ((p,w)::P.zip vs) m x=_
  unfold bindL
  exact pJ (i:=i) (WJ.mp nd).2 (by simpa using h1) (by simpa using h2) hk
theorem pK{kindOf:Str->Option NameKind}{x:Str}{v:Value}:∀{P:Zs}{vs:Zx}{i:Nat}{m:Zr},P.Nodup->P[i]?=some x->vs[i]?=some v->kindOf x≠some .local->
  bindC kindOf (P.zip vs) m x=some v
 |[],_,_,_,_,h,_,_=>by simp at h
 |_::_,[],_,_,_,_,h,_=>by simp at h
 |p::P,w::vs,0,m,nd,h1,h2,hk=>by
  simp at h1 h2;subst h1;subst h2
  show bindC kindOf ((p,w)::P.zip vs) m p=_
  unfold bindC
  rw[pI fun v hv=>(WJ.mp nd).1 (Yw hv).1,if_neg hk]
  simp
 |p::P,w::vs,i+1,m,nd,h1,h2,hk=>by
  show bindC kindOf ((p,w)::P.zip vs) m x=_
  unfold bindC
  exact pK (i:=i) (WJ.mp nd).2 (by simpa using h1) (by simpa using h2) hk
noncomputable def gV(N:Zs)(vs:List V):St:=vs.map some++List.replicate (N.length - vs.length) none
noncomputable def sy(CX:AM)(P:Program)(w:World)(K:Zo)(mg:Zr)(base:Heap)(N:Zs)(qual:Str)(scope:Scope)(f:Addr)(cd:Value)(A:Around)(outer:List Env)(s:Shared)(H:Hp)(E:XK):Cx where
 prog:=P
 w:=w
 K:=K
 mg:=mg
 base:=base
 A:=A.deeper (envOfC qual scope s.heap.objs.size f cd)
 N:=N
 s₀:=s
 H₀:=H
 env:=envOfC qual scope s.heap.objs.size f cd
 outer:=outer
 stack:=envOfC qual scope s.heap.objs.size f cd::outer
 ex:=[]
 calm:=true
 fn:=fun _=>true
 pn:=[]
 xe:=fun e s'=>wpAny (model P w) (A.deeper (envOfC qual scope s.heap.objs.size f cd)) (leaving (envOfC qual scope s.heap.objs.size f cd) e) (fun _ s''=>CX outer H s E e s'') (fun e' s''=>CX outer H s E e' s'') s'
def sA{sc:Scope}{n:Nat}{x:Str}(h:sc.names.lookup x=some .cell):∃c,(cellsFrom n sc.names []).lookup x=some c:=by
 have q:=PySem.W.cellsFrom_some sc.names n [] (.inl h)
 exact Option.isSome_iff_exists.mp q
def wB{CX:AM}{P:Program}{w:World}{K:Zo}{mg:Zr}{base:Heap}{N ps:Zs}{qual:Str}{scope:Scope}{f:Addr}{cd:Value}{A:Around}{outer:List Env}{s s1:Shared}{H:Hp}{E:XK}{us:Zx}{vs:List V}
  (S:eu N ps scope) (hd:A.handled=none) (e0:A6 P w K mg base A outer s H) (hl:vs.length=ps.length) (r:Vals vs us)
  (x:InCallC s s.heap.objs.size (bindL (envOfC qual scope s.heap.objs.size f cd).kindOf (ps.zip us) fun _=>none) (cellsFrom (s.heap.objs.size+1) scope.names []) (bindC (envOfC qual scope s.heap.objs.size f cd).kindOf (ps.zip us) fun _=>none) s1) :
  Inv (sy CX P w K mg base N qual scope f cd A outer s H E) [] (gV N vs) H s1:=by
 have hpl:ps.length<=N.length:=by have:=WW List.length S.pre;rw[WS]at this;omega
 obtain⟨h1,tk,rfl,hk⟩:=x.done
 have RB:∀b:Addr,b ∉ (sy CX P w K mg base N qual scope f cd A outer s H E).ex:=fun b z=>absurd (show b∈([]:List Addr)from z) (by simp)
 refine⟨⟨e0.mod,S.kind,rfl,rfl,VM _,fun y z c h1 h2=>?_,fun y hy=>?_,fun y c _ h=>?_,fun _=>hd,Around.frames_deeper e0.frames,.inr ⟨rfl,rfl⟩,fun b z=>absurd z (RB b),e0.bs,e0.Qn,fun b _ _=>RB b,fun b z=>absurd z (RB b),e0.NO,e0.QY⟩,
  rfl,e0.bare,Un.kept hk,⟨_,x.toInCall.ns,fun i y v h1 h2 h3=>?_⟩,fun y c h=>⟨_,x.cell y c h⟩,e0.hok.fresh (VM _),fun y c h=>?_,fun p hp=>absurd (show p∈([]:Za)from hp) (by simp),e0.hok.kept hk,?_⟩
 ·exact name_of_addr x.apart (XH h1) (XH h2)
 ·have hy:scope.names.lookup y=some .cell\/scope.names.lookup y=some .free:=hy
  rcases hy with hy|hy
  ·exact sA hy
  ·exact absurd rfl (S.Q5 _ (XH hy))
 ·exact XI (x.above y c (XH h))
 ·have hi:i < vs.length:=by
   unfold gV at h2
   by_cases hi:i < vs.length
   ·exact hi
   ·rw[WA (by simpa using hi)]at h2
    rw[Xk]at h2
    split at h2<;>cases h2
  have ha:vs[i]?=some v:=by
   unfold gV at h2
   rw[Ww (by simpa using hi),V2]at h2
   cases e:vs[i]? with
   |none=>rw[e]at h2;cases h2
   |some a=>rw[e]at h2;cases h2;rfl
  obtain⟨u,hu,rv⟩:=r.get ha
  have hp:ps[i]?=some y:=by
   rw[<-S.pre,Yi (by omega)];exact h1
  have TX:ps.Nodup:=by rw[<-S.pre];exact S.nd.sublist (Z0 _ _)
  refine⟨u,rv,?_⟩
  rcases S.par y (V6 hp)with k|k
  ·exact .inl ⟨k,pJ TX hp hu k⟩
  ·obtain⟨c,e⟩:=sA (n:=s.heap.objs.size+1) k
   refine .inr ⟨.inl k,c,e,?_⟩
   have q:=x.cell y c e
   rw[pK TX hp hu (by show scope.names.lookup y≠_;rw[k];decide)]at q
   exact q
 ·exact e0.hok.fresh (XI (x.above y c (XH h)))
 ·unfold gV
  show _=N.length
  rw[VH,VI,WQ]
  omega
def C7{CX:AM}{P:Program}{w:World}{K:Zo}{mg:Zr}{base:Heap}{k:Nat}{f:Addr}{name qual:Str}{params:Arguments}{body:List Stmt}{scope:Scope}{dV kV doc pm cdv ct oc:Value}{an od:Option Addr}
  {osl:Array (Option Value)} {N ps:Zs} {sp:Sp} (lk:K.lookup f=some ⟨oc,od,.func (PySem.W.fnOf name qual params body scope dV kV doc pm an cdv ct),osl⟩) (hcd:PySem.W.codeIn K cdv qual=true) (S:eu N ps scope)
  (len:∀vs H Q E,sp vs H Q E->vs.length=ps.length)
  (hbody:∀(A:Around)(outer:List Env)(s:Shared)(H:Hp)(vs:List V)(Q:VK)(E:XK),Room k (A.deeper (envOfC qual scope s.heap.objs.size f cdv))->sp vs H Q E->
   ∃t,OO (sy CX P w K mg base N qual scope f cdv A outer s H E) body t/\t { nx:=fun _ H'=>Q .non H',rt:=Q } (gV N vs) H) :
  oP P w K mg base CX (k+1) f (PySem.W.fnOf name qual params body scope dV kV doc pm an cdv ct) ps sp:=by
 refine⟨len,fun A outer s H args us vs Q E hr e0 hb r Qh=>?_⟩
 have hl:=len _ _ _ _ Qh
 have KX:K.In s.heap:=e0.mod.SD.keeps fun b o e=>(e0.bs b o e).1
 have lim:s.heap.NoLimit:=e0.mod.nolimit.keeps fun b o e=>(e0.bs b o e).1
 have hkind:∀y∈ps.zip us,scope.names.lookup y.1=some .local\/(scope.names.lookup y.1=some .cell/\((cellsFrom (s.heap.objs.size+1) scope.names []).lookup y.1).isSome=true):=fun⟨n,v⟩ hy=>by
  rcases S.par n (Yw hy).1 with q|q
  ·exact .inl q
  ·exact .inr ⟨q,PySem.W.cellsFrom_some _ _ _ (.inl q)⟩
 refine codeAny_call_function hr.depth (KX _ _ lk) rfl S.co S.gen rfl (PySem.W.codeRec_of KX hcd) (hb _ _ _ _ ?_)
 refine wpAny_newFunctionEnv_cells S.kind hkind fun env he s1 x=>?_
 subst he
 refine⟨lim.keeps x.toInCall.keep,codeAny_func ?_⟩
 obtain⟨t,ht,hq⟩:=hbody A outer s H vs Q E (hr.deeper _) Qh
 have I:Inv (sy CX P w K mg base N qual scope f cdv A outer s H E) [] (gV N vs) H s1:=wB S hr.hd e0 hl r x
 refine Yp (ht [] s1 (gV N vs) H _ I hq) (fun fl s' hs=>?_) fun e s' hs=>hs
 have fin:∀{σ':St} {H':Hp} {v:V} {u:Value},Inv (sy CX P w K mg base N qual scope f cdv A outer s H E) [] σ' H' s'->RelV v u->Q v H'->CE outer P w H s Q u s':=
  fun{σ' H' v u} J rv q=>⟨v,H',J.os,J.bare,J.base,J.hok,rv,q⟩
 cases fl with
 |ret u=>
  obtain⟨v,σ',H',J,rv,q⟩:=hs
  exact fin J rv q
 |next=>
  obtain⟨σ',H',J,q⟩:=hs
  exact fin (v:=V.non) (u:=Value.none) J rfl q
 |brk=>
  obtain⟨_,_,_,q⟩:=hs
  exact False.elim q
 |cont=>
  obtain⟨_,_,_,q⟩:=hs
  exact False.elim q
section
variable {X:Cx}{x:Str}{p pos:Pos}{e:Expr}{es:List Expr}{t:TA}{id T:String}{r:List V->Hp->VK->Prop}
def Js(r:List V->Hp->VK->Prop)(t:TA):TE:=fun σ H Q=>t σ H fun vs H1=>r vs H1 Q
def yf(hc:fc X (.builtin id) r)(hg:Gl X x)(hm:X.mg x=none)(hv:bootBuiltins x=some (.builtin id))(ha:PA X (e::es) t)(hn:x ≠ "__name__":=by decide)(hdb:(x == ("__debug__":Str))=false:=by decide)
  (he:starEach (e::es) X.env=(false,eval e X.env)::starEach es X.env:=by rfl) (hpl:(backTo pos (starEach es X.env)).any (·.1)=false:=by rfl):PE X (.Call (.Name x p) (e::es) [] pos) (Js r t):=by
 intro pins s σ H Q I h
 refine XT (fw I hg hm hv ?_ hn hdb)
 exact PyProof.Rows.callWith_builtin1 (J9 (ha pos pins s σ H _ I h) fun us s1 ⟨vs,H1,I1,r1,q1⟩=>hc pins s1 σ H1 vs us Q I1 r1 q1) he hpl
def wC(hc:fc X (.type T) r)(hg:Gl X x)(hm:X.mg x=none)(hv:bootBuiltins x=some (.type T))(ha:PA X (e::es) t)(hn:x ≠ "__name__":=by decide)(hdb:(x == ("__debug__":Str))=false:=by decide)
  (he:starEach (e::es) X.env=(false,eval e X.env)::starEach es X.env:=by rfl) (hpl:(backTo pos (starEach es X.env)).any (·.1)=false:=by rfl):PE X (.Call (.Name x p) (e::es) [] pos) (Js r t):=by
 intro pins s σ H Q I h
 refine XT (fw I hg hm hv ?_ hn hdb)
 exact WM (J9 (ha pos pins s σ H _ I h) fun us s1 ⟨vs,H1,I1,r1,q1⟩=>hc pins s1 σ H1 vs us Q I1 r1 q1) he hpl
end
end L2
namespace HT
open PySem PyProof.Rows
section
open PySem.SeqAt
open PySem.AutoSeq1 (wpAny_loadPart')
open PySem.MeetsSeq PySem.MeetsSeq2 PySem.MeetsSeq3
end
section
variable {prog:Program}{w:World}{A:Around}{E:Zq}{s:Shared}
def A7{t b:Addr}{vs ws:Zx}{Q:Zq}(ht:IsTup s.heap t vs.toArray)(hb:IsTup s.heap b ws.toArray)(hv:vs≠[])
  (h1:ws=[]->Q (.ref t) s) (h2:ws≠[]->Q (.ref s.heap.objs.size) { s with heap:=s.heap.push { cls:=.type "tuple",data:=.seq (vs++ws).toArray } })
  (hsz:vs.length+ws.length<=sizeLine):wpAny (model prog w) A (binaryOp .Add (.ref t) (.ref b)) Q E s:=by
 obtain⟨⟨cls,dd,data,sl⟩,ho,hc,n,hd⟩:=id ht
 obtain⟨⟨SL,dd2,data2,sl2⟩,ho2,hc2,n2,hd2⟩:=id hb
 simp only at hc hd hc2 hd2
 subst hc hd hc2 hd2
 have e:vs.toArray++ws.toArray=(vs++ws).toArray:=by simp
 by_cases hw:ws=[]
 ·exact concat_meets ⟨_,ho,rfl⟩ ⟨_,ho2,rfl⟩ noFill_tuple_add seq_tuple_add Zb Y6 (YS _ _)
   (tuple_addW1 t b vs.toArray ws.toArray n n2 dd dd2 sl sl2 (by simpa using hv) (by simp[hw])) ⟨ho,ho2,h1 hw⟩
 ·refine concat_meets ⟨_,ho,rfl⟩ ⟨_,ho2,rfl⟩ noFill_tuple_add seq_tuple_add Zb Y6 (YS _ _)
   (tuple_addW2 t b vs.toArray ws.toArray n n2 dd dd2 sl sl2 (by simpa using hv) (by simpa using hw) (by rw[VQ,VQ];exact hsz)) ⟨ho,ho2,?_⟩
  rw[e]
  exact h2 hw
noncomputable def KJ(n d:Nat):Option Int->Nat
 |none=>d
 |some v=>if v < 0 then (v+(n:Int)).toNat else min v.toNat n
def yg(n d:Nat):KJ n d none=d:=rfl
def A8(n d k:Nat):KJ n d (some (k:Int))=min k n:=by
 show(if (k:Int) < 0 then ((k:Int)+(n:Int)).toNat else min (k:Int).toNat n)=min k n
 rw[if_neg (by omega),Z1]
def Ed(n d:Nat)(hd:d<=n)(o:Option Int):KJ n d o<=n:=by
 cases o with
 |none=>exact hd
 |some v=>
  show(if v < 0 then (v+(n:Int)).toNat else min v.toNat n)<=n
  by_cases hv:v < 0
  ·rw[if_pos hv];omega
  ·rw[if_neg hv];exact Nat.min_le_right _ _
def vp(v:Int)(n d:Nat):(if v < 0 then max (v+(n:Int)) 0 else min v (n:Int))=((KJ n d (some v):Nat):Int):=by
 show(if v < 0 then max (v+(n:Int)) 0 else min v (n:Int))=(((if v < 0 then (v+(n:Int)).toNat else min v.toNat n):Nat):Int)
 by_cases hv:v < 0
 ·simp only[if_pos hv];omega
 ·simp only[if_neg hv];omega
def ul(lo hi:Option Int)(n:Nat):Builtin.Slice.sliceAdjust lo hi 1 (n:Int)=(((KJ n 0 lo:Nat):Int),((KJ n n hi:Nat):Int)):=by
 have h1:¬((1:Int) < 0):=by omega
 unfold Builtin.Slice.sliceAdjust
 simp only[h1,Wx]
 refine Prod.ext ?_ ?_
 ·cases lo with
  |none=>rfl
  |some v=>exact vp v n 0
 ·cases hi with
  |none=>rfl
  |some v=>exact vp v n n
def um(i j:Nat):Builtin.Slice.slicePlaces (i:Int) (j:Int) 1=j - i:=by
 unfold Builtin.Slice.slicePlaces
 have h1:(1:Int) > 0:=by omega
 simp only[h1,WB,Int.ediv_one]
 split<;>omega
def mX{v:Value}{o:Option Int}{Q:Option Int->Shared->Prop}(p:IsPart v o)(h:Q o s):wpAny (model prog w) A (Builtin.Slice.slicePartIndex v) Q E s:=by
 cases p with
 |none=>exact slicePart_none h
 |int i t=>exact slicePart_int h
def fJ{sl:Addr}{vl vu:Value}{lo hi:Option Int}{n:Nat}{Q:Int×Int×Nat->Shared->Prop}(hs:s.heap.IsSliceOf sl vl vu .none)(pl:IsPart vl lo)(pu:IsPart vu hi)
  (h:Q (((KJ n 0 lo:Nat):Int),1,KJ n n hi - KJ n 0 lo) s):wpAny (model prog w) A (Builtin.Slice.sliceApplied (.ref sl) (pure (n:Int))) Q E s:=by
 obtain⟨os,hos,hcs,hds⟩:=id hs
 unfold Builtin.Slice.sliceApplied Builtin.Slice.sliceFields
 refine VG (VG (Wq hos hds (x:=vl) rfl (VG (Wq hos hds (x:=vu) rfl (VG (Wq hos hds (x:=.none) rfl (VP ?_)))))))
 refine VG (slicePart_none ?_)
 show wpAny _ _ (if ((1:Int) == 0)=true then _ else _) _ _ s
 rw[if_neg (by decide)]
 refine VG (mX pl (VG (mX pu (VG (VP ?_)))))
 show wpAny _ _ (match Builtin.Slice.sliceAdjust lo hi 1 (n:Int)with|(lo,hi)=>pure (lo,(1:Int),Builtin.Slice.slicePlaces lo hi 1)) _ _ s
 rw[ul lo hi n]
 show wpAny _ _ (pure (((KJ n 0 lo:Nat):Int),(1:Int),Builtin.Slice.slicePlaces ((KJ n 0 lo:Nat):Int) ((KJ n n hi:Nat):Int) 1)) _ _ s
 rw[um]
 exact VP h
def yh(xs:Zy)(i k:Nat):((List.range k).filterMap fun(m:Nat)=>xs[((i:Int)+(m:Int) * 1).toNat]?).toArray=((xs.toList.drop i).take k).toArray:=by
 have e:(fun(m:Nat)=>xs[((i:Int)+(m:Int) * 1).toNat]?)=fun m=>xs[i+m]?:=by
  funext m
  have:((i:Int)+(m:Int) * 1).toNat=i+m:=by omega
  rw[this]
 rw[e]
 have:=pick_run xs i k
 rw[List.filterMap_map]at this
 have e2:((fun x=>xs[x]?) ∘ fun x=>i+x)=fun m=>xs[i+m]?:=rfl
 rw[e2]at this
 rw[this]
def j7{t sl:Addr}{items:Zy}{vl vu:Value}{lo hi:Option Int}{Q:Zq}(ht:IsTup s.heap t items)(hs:s.heap.IsSliceOf sl vl vu .none)(pl:IsPart vl lo)(pu:IsPart vu hi)
  (hw:¬(KJ items.size 0 lo=0/\KJ items.size items.size hi=items.size))
  (h:Q (.ref s.heap.objs.size) { s with heap:=s.heap.push { cls:=.type "tuple",data:=.seq ((items.toList.drop (KJ items.size 0 lo)).take (KJ items.size items.size hi - KJ items.size 0 lo)).toArray } })
  (hsz:items.size<=sizeLine):wpAny (model prog w) A (getItem (.ref t) (.ref sl)) Q E s:=by
 have Pu:sizeOk (.seq ((items.toList.drop (KJ items.size 0 lo)).take (KJ items.size items.size hi - KJ items.size 0 lo)).toArray):=by
  show((items.toList.drop (KJ items.size 0 lo)).take (KJ items.size items.size hi - KJ items.size 0 lo)).toArray.size<=sizeLine
  rw[VQ,WS,XO,YN]
  omega
 have hj:KJ items.size items.size hi<=items.size:=Ed _ _ (VM _) hi
 obtain⟨os,hos,hcs,hds⟩:=id hs
 have SM:s.TypeIs (.ref sl) "slice":=⟨os,hos,hcs⟩
 unfold getItem
 try with_reducible refine Yg ?_
 first|refine VG (VP ?_)|skip
 refine VG (wpAny_sequenceKey ht.typeIs (by decide) ?_)
 refine VG (WC (name:=Str.ofString "__getitem__") ht.typeIs WX
  (W4 WX ht.typeIs entry_tuple_getitem ?_ (args_tuple_getitem _ _)))
 show wpAny _ _ (Builtin.Tuple.tupleItemsOf (.ref t) >>= _) _ _ s
 refine VG (tupleItemsOf_ ht ?_)
 refine VG (Zc SM ?_)
 rw[if_pos (by decide)]
 refine VG (fJ hs pl pu ?_)
 have hno:¬((((KJ items.size 0 lo:Nat):Int) == 0&&(1:Int) == 1&&(KJ items.size items.size hi - KJ items.size 0 lo) == items.size)=true):=by
  intro q
  rw[Zp,Zp]at q
  have q1:((KJ items.size 0 lo:Nat):Int)=0:=eq_of_beq q.1.1
  have q2:KJ items.size items.size hi - KJ items.size 0 lo=items.size:=eq_of_beq q.2
  exact hw ⟨by omega,by omega⟩
 show wpAny _ _ (if (((KJ items.size 0 lo:Nat):Int) == 0&&(1:Int) == 1&&(KJ items.size items.size hi - KJ items.size 0 lo) == items.size)=true then _ else _) _ _ s
 rw[if_neg hno,yh]
 first
  |exact VG (m:=Builtin.Tuple.tupleExact _) (W2 (VP ⟨_,rfl,VP h⟩) Pu)
  |exact VG (m:=Builtin.Tuple.tupleExact _) (W2 (VG (VP (VP ⟨_,rfl,VP h⟩))) Pu)
  |exact VG (VG (m:=Builtin.Tuple.tupleExact _) (W2 (VP (VP ⟨_,rfl,VP h⟩)) Pu))
  |exact VG (VG (m:=Builtin.Tuple.tupleExact _) (W2 (VP ⟨_,rfl,VP h⟩) Pu))
end
end HT
namespace L2
open PySem PySem.Spec PyProof.Rows
abbrev TO:=St->Hp->(Option Int->Hp->Prop)->Prop
def PO(X:Cx)(e:Option Expr)(t:TO):Prop:=
 ∀(pins:Za)(s:Shared)(σ:St)(H:Hp)(Q:Option Int->Hp->Prop),Inv X pins σ H s->t σ H Q->
  wpAny (model X.prog X.w) X.A (evalPart e X.env) (fun u s'=>∃o H',Inv X pins σ H' s'/\IsPart u o/\Q o H') X.xe s
noncomputable def A9:TO:=fun _ H Q=>Q none H
noncomputable def Gu(t:TE):TO:=fun σ H Q=>t σ H fun x H1=>∃i,x = .int i/\Q (some i) H1
section
variable {X:Cx}{e:Expr}{te:TE}{lo hi:Option Expr}{tl th:TO}{pos p2:Pos}
def A_:PO X none A9:=by
 intro pins s σ H Q I h
 rw[evalPart_none]
 exact VP ⟨none,H,I,.none,h⟩
def Ba(h:PE X e te):PO X (some e) (Gu te):=by
 intro pins s σ H Q I hw
 rw[evalPart_some]
 refine J9 (h pins s σ H _ I hw) fun u s1 ⟨x,H1,I1,r1,q1⟩=>?_
 obtain⟨i,rfl,q⟩:=q1
 obtain⟨t,rfl⟩:=r1
 exact⟨some i,H1,I1,.int i t,q⟩
def FR(X:Cx)(r:V->Option Int->Option Int->Hp->VK->Prop):Prop:=
 ∀(pins:Za)(s:Shared)(σ:St)(H:Hp)(x:V)(v vl vu:Value)(lo hi:Option Int)(sl:Addr)(Q:VK),Inv X pins σ H s->RelV x v->s.heap.IsSliceOf sl vl vu .none->IsPart vl lo->IsPart vu hi->r x lo hi H Q->
  ∃T id,typeLookup (.type T) "__getitem__" = pure (some (.builtin id))/\s.TypeIs v T/\wpAny (model X.prog X.w) X.A (getItem v (.ref sl)) (EP X pins σ Q) X.xe s
def JG(r:V->Option Int->Option Int->Hp->VK->Prop)(te:TE)(tl th:TO):TE:=fun σ H Q=>te σ H fun x H1=>tl σ H1 fun l H2=>th σ H2 fun u H3=>r x l u H3 Q
def yi{r:V->Option Int->Option Int->Hp->VK->Prop}(hr:FR X r)(he:PE X e te)(hl:PO X lo tl)(hu:PO X hi th):PE X (.Subscript e (.Slice lo hi none p2) pos) (JG r te tl th):=by
 intro pins s σ H Q I h
 refine Subscript_ (J9 (he pins s σ H _ I h) fun v s1 ⟨x,H1,I1,r1,q1⟩=>?_)
 refine wpAny_Slice (J9 (hl pins s1 σ H1 _ I1 q1) fun vl s2 ⟨l,H2,I2,pl,q2⟩=>J9 (hu pins s2 σ H2 _ I2 q2) fun vu s3 ⟨u,H3,I3,pu,q3⟩=>?_)
 rw[evalPart_none]
 refine VP ?_
 have I4:Inv X pins σ H3 { s3 with heap:=s3.heap.push { cls:=.type "slice",data:=.fields #[vl,vu,.none] } }:=I3.kept (t':=s3.toks) fun b ob q=>VJ _ q
 obtain⟨T,id,hT,ht,hg⟩:=hr pins { s3 with heap:=s3.heap.push { cls:=.type "slice",data:=.fields #[vl,vu,.none] } } σ H3 x v vl vu l u s3.heap.objs.size Q I4 r1 (Heap.IsSliceOf.new ..) pl pu q3
 show wpAny (model X.prog X.w) X.A (subscriptTail e (.Slice lo hi none p2) v (.ref s3.heap.objs.size)) (EP X pins σ Q) X.xe { s3 with heap:=s3.heap.push { cls:=.type "slice",data:=.fields #[vl,vu,.none] } }
 exact tail_any (ops:=[.ref s3.heap.objs.size,v]) ht hT hg (by with_unfolding_all rfl)
noncomputable def mY(xs:List V)(lo hi:Option Int):List V:=(xs.drop (HT.KJ xs.length 0 lo)).take (HT.KJ xs.length xs.length hi - HT.KJ xs.length 0 lo)
def me(xs:List V)(lo hi:Option Int):(mY xs lo hi).length<=xs.length:=by
 unfold mY
 rw[WS,XO]
 omega
noncomputable def IB(K:Zo):V->Option Int->Option Int->Hp->VK->Prop:=fun x lo hi H Q=>∃a xs,x = .ref a/\SqT K H a xs/\
 ¬(HT.KJ xs.length 0 lo=0/\HT.KJ xs.length xs.length hi=xs.length)/\∀p,H p=none->Q (.ref p) (upd H p (.tup (mY xs lo hi)))
def Ee:FR X (IB X.K):=by
 intro pins s σ H x v vl vu lo hi sl Q I rx hs pl pu h
 obtain⟨a,xs,rfl,hx,hw,q⟩:=h
 cases rx
 obtain⟨its,r,ht,hz⟩:=I.tuple hx
 have hlen:its.toArray.size=xs.length:=by rw[VQ];exact r.length.symm
 refine⟨"tuple",_,WX.lookup,ht.typeIs,?_⟩
 refine HT.j7 ht hs pl pu (by rw[hlen];exact hw) ?_ (by rw[hlen];exact hz)
 rw[hlen]
 refine⟨.ref s.heap.objs.size,_,I.laid (t':=s.toks) (o:=.tup (mY xs lo hi)) (fun b ob q=>VJ _ q) (VM _) ?_,rfl,q _ (I.hok.fresh (VM _))⟩
 exact⟨VU (me xs lo hi) hz,_,(r.drop (HT.KJ xs.length 0 lo)).take (HT.KJ xs.length xs.length hi - HT.KJ xs.length 0 lo),KZ.new _ _⟩
def Gv(K:Zo):R2:=fun x y H Q=>∃a b xs ys,x = .ref a/\y = .ref b/\SqT K H a xs/\SqT K H b ys/\xs≠[]/\xs.length+ys.length<=sizeLine/\
 (ys=[]->Q (.ref a) H)/\(ys≠[]->∀p,H p=none->Q (.ref p) (upd H p (.tup (xs++ys))))
def Vals.Ol{xs:List V}{us:Zx}(r:Vals xs us):us=[]↔xs=[]:=by
 cases r with
 |nil=>simp
 |cons _ _=>simp
def Bb:j3 X (binaryOp .Add) (Gv X.K):=by
 intro pins s σ H x y v u Q I rx ry h
 obtain⟨a,b,xs,ys,rfl,rfl,ha,hb,hx,hz,q1,q2⟩:=h
 cases rx
 cases ry
 obtain⟨its,r1,p1,_⟩:=I.tuple ha
 obtain⟨its2,r2,p2,_⟩:=I.tuple hb
 refine HT.A7 p1 p2 (fun z=>hx (r1.Ol.mp z)) (fun z=>⟨.ref a,H,I,rfl,q1 (r2.Ol.mp z)⟩) (fun z=>?_) (by rw[<-r1.length,<-r2.length];exact hz)
 refine⟨.ref s.heap.objs.size,_,I.laid (t':=s.toks) (o:=.tup (xs++ys)) (fun b ob q=>VJ _ q) (VM _) ?_,rfl,q2 (fun w=>z (r2.Ol.mpr w)) _ (I.hok.fresh (VM _))⟩
 exact⟨by rw[VH];exact hz,_,r1.append r2,KZ.new _ _⟩
end
noncomputable def t9(n:Nat)(i:Int):Option Nat:=if 0<=i then (if i < n then some i.toNat else none) else if -(n:Int)<=i then some (i+n).toNat else none
noncomputable def KN{α:Type}(xs:List α)(i:Int):Option α:=(t9 xs.length i).bind fun j=>xs[j]?
def vq{n:Nat}{i:Int}{j:Nat}(h:t9 n i=some j):seqIndex? i n=some j/\j < n/\-(n:Int)<=i/\i < n:=by
 unfold t9 at h
 by_cases h0:0<=i
 ·rw[if_pos h0]at h
  by_cases h1:i < n
  ·rw[if_pos h1]at h
   have e:i.toNat=j:=WR h
   exact⟨by rw[seqIndex_of h0 h1,e],by omega,by omega,h1⟩
  ·rw[if_neg h1]at h;cases h
 ·rw[if_neg h0]at h
  by_cases h1:-(n:Int)<=i
  ·rw[if_pos h1]at h
   have e:(i+n).toNat=j:=WR h
   exact⟨by rw[seqIndex_neg (by omega) h1,e],by omega,h1,by omega⟩
  ·rw[if_neg h1]at h;cases h
def qz{α:Type}{xs:List α}{i:Int}{v:α}(h:KN xs i=some v):∃j,seqIndex? i xs.length=some j/\xs[j]?=some v/\j < xs.length/\-(xs.length:Int)<=i/\i < xs.length:=by
 unfold KN at h
 cases e:t9 xs.length i with
 |none=>rw[e]at h;cases h
 |some j=>
  rw[e]at h
  obtain⟨h1,h2,h3,h4⟩:=vq e
  exact⟨j,h1,h,h2,h3,h4⟩
def bU{α:Type}{xs:List α}{j:Nat}{v:α}(h:xs[j]?=some v):KN xs (j:Int)=some v:=by
 have hj:j < xs.length:=(V4.mp h).1
 have e:t9 xs.length (j:Int)=some j:=by
  unfold t9
  rw[if_pos (by omega),if_pos (by omega)];simp
 unfold KN;rw[e];exact h
def mM(b:Expr):Prop:=∀o i,subscripted b false o i=operate [o,i] (getItem o i)
def FS(X:Cx)(r:R2):Prop:=
 ∀(value slice:Expr)(pins:Za)(s:Shared)(σ:St)(H:Hp)(x y:V)(v u:Value)(Q:VK),Inv X pins σ H s->RelV x v->RelV y u->r x y H Q->
  subscripted slice false v u=operate [v,u] (getItem v u)->wpAny (model X.prog X.w) X.A (subscriptTail value slice v u) (EP X pins σ Q) X.xe s
def Ef(X:Cx)(id:String)(r:V->List V->Hp->VK->Prop):Prop:=
 ∀(pins:Za)(s:Shared)(σ:St)(H:Hp)(x:V)(xs:List V)(v:Value)(us:Zx)(Q:VK),Inv X pins σ H s->RelV x v->Vals xs us->r x xs H Q->
  wpAny (model X.prog X.w) X.A (call (.builtin id) (v::us)) (EP X pins σ Q) X.xe s
section
variable {X:Cx}{a b:Expr}{ta tb:TE}{pos:Pos}
def Gw{r:R2}(hr:FS X r)(ha:PE X a ta)(hb:PE X b tb)(hs:mM b):PE X (.Subscript a b pos) (Gh r ta tb):=by
 intro pins s σ H Q I h
 exact Subscript_ (DV ha hb I h fun v u s2 x y H2 I2 rx ry q=>hr a b pins s2 σ H2 x y v u Q I2 rx ry q (hs _ _))
def IC(K:Zo):R2:=fun x y H Q=>∃p xs i v,x = .ref p/\y = .int i/\SqL K H p xs/\KN xs i=some v/\Q v H
def ID(K:Zo):R2:=fun x y H Q=>∃p xs i v,x = .ref p/\y = .int i/\SqT K H p xs/\KN xs i=some v/\Q v H
def IE:R2:=fun x y H Q=>∃z i c,x = .str z/\y = .int i/\z.length<=sizeLine/\KN z.cps.toList i=some c/\Q (.str ⟨#[c]⟩) H
def vt:FS X (IC X.K):=by
 intro value slice pins s σ H x y v u Q I rx ry h hs
 obtain⟨p,xs,i,z,rfl,rfl,hq,he,q⟩:=h
 cases rx
 obtain⟨t,rfl⟩:=ry
 obtain⟨its,r,pl,hz⟩:=I.list hq
 obtain⟨j,h1,h2,h3,h4,h5⟩:=qz he
 obtain⟨w,ew,rw'⟩:=r.get h2
 have hl:=r.length
 have hn:=lg
 have fin:EP X pins σ Q w s:=⟨z,H,I,rw',q⟩
 by_cases h0:0<=i
 ·have hj:i.toNat=j:=by
   rw[seqIndex_of h0 h5]at h1
   exact WR h1
  exact item_listR pl.isList h0 (by omega) (by rw[hj];simpa using ew) fin hs
 ·have hj:(i+(its.toArray.size:Int)).toNat=j:=by
   rw[seqIndex_neg (by omega) h4]at h1
   rw[VQ,<-hl]
   exact WR h1
  exact subscriptTail_builtinR (x:=w) pl.isList.typeIs slot_list_getitem.lookup
   (wpAny_getItem_list_neg (Q:=fun r s'=>r=w/\EP X pins σ Q r s') pl.isList (by omega) (by rw[VQ]<;>omega) (by omega) (by rw[hj];simpa using ew) ⟨rfl,fin⟩) hs
def Eg:FS X (ID X.K):=by
 intro value slice pins s σ H x y v u Q I rx ry h hs
 obtain⟨p,xs,i,z,rfl,rfl,hq,he,q⟩:=h
 cases rx
 obtain⟨t,rfl⟩:=ry
 obtain⟨its,r,pl,hz⟩:=I.tuple hq
 obtain⟨j,h1,h2,h3,h4,h5⟩:=qz he
 obtain⟨w,ew,rw'⟩:=r.get h2
 have hl:=r.length
 have hn:=lg
 have fin:EP X pins σ Q w s:=⟨z,H,I,rw',q⟩
 exact subscriptTail_builtinR (x:=w) pl.typeIs slot_tuple_getitem.lookup
  (getItem_tuple (j:=j) (Q:=fun r s'=>r=w/\EP X pins σ Q r s') pl (by omega) (by omega) (by rw[VQ,<-hl];exact h1) (by simpa using ew) ⟨rfl,fin⟩) hs
def Eh:FS X IE:=by
 intro value slice pins s σ H x y v u Q I rx ry h hs
 obtain⟨z,i,c,rfl,rfl,hz,he,q⟩:=h
 obtain⟨t,rfl⟩:=rx
 obtain⟨t',rfl⟩:=ry
 obtain⟨j,h1,h2,h3,h4,h5⟩:=qz he
 have hl:z.cps.toList.length=z.length:=by simp[Str.length]
 rw[hl]at h1 h4 h5
 have hn:=lg
 exact tail_any (typeIs_str s z t) slot_str_getitem.lookup (getItem_str (c:=c) (by
  have e1:decide (i < -(2 ^ 63:Int))=false:=Wc (by omega)
  have e2:decide (i>=2 ^ 63)=false:=Wc (by omega)
  rw[e1,e2,Bool.or_false]) (by rw[h1];simpa using h2) ⟨.str ⟨#[c]⟩,H,I.tok _,⟨_,rfl⟩,q⟩) hs
def uo(its:Zx)(n j:Nat)(u:Value):Obj.mapSeq (·.setIfInBounds j u) { cls:=.type "list",data:=.seq its.toArray n }={ cls:=.type "list",data:=.seq (its.set j u).toArray n }:=by
 simp[Obj.mapSeq]
theorem Inv.lst{pins:Za}{σ:St}{H:Hp}{s:Shared}{p:Addr}{xs:List V}(I:Inv X pins σ H s)(h:H p=some (.lst xs)) :
  ∃(its:Zx) (n:Nat),Vals xs its/\s.heap.get? p=some { cls:=.type "list",data:=.seq its.toArray n }/\xs.length<=sizeLine:=by
 obtain⟨z,its,n,r,e⟩:=I.hok p _ h
 exact⟨its,n,r,e,z⟩
def Inv.Q6{pins:Za}{σ:St}{H:Hp}{s:Shared}{p:Addr}{xs ys:List V}{its its':Zx}{n n':Nat}{f:Obj->Obj}(I:Inv X pins σ H s)(h:H p=some (.lst xs))
  (ho:s.heap.get? p=some { cls:=.type "list",data:=.seq its.toArray n }) (hf:f { cls:=.type "list",data:=.seq its.toArray n }={ cls:=.type "list",data:=.seq its'.toArray n' }) (r:Vals ys its') (hz:ys.length<=sizeLine) (t:Nat) :
  Inv X pins σ (upd H p (.lst ys)) { s with heap:=s.heap.update p f,toks:=t }:=by
 have e:(s.heap.update p f).get? p=some { cls:=.type "list",data:=.seq its'.toArray n' }:=by
  rw[Xs f ho (by rw[hf]<;>rfl),hf]
 refine I.write (x:=p) (e:=p) (by rw[h];trivial) (.inl rfl) (fun b u hb q=>(XJ _ _ (Xl hb)).trans q) ⟨_,e⟩ ?_
 exact⟨hz,its',n',r,e⟩
noncomputable def Gx:V->V->V->Hp->(Hp->Prop)->Prop:=fun o i v H Q=>∃p xs k j,o = .ref p/\i = .int k/\H p=some (.lst xs)/\t9 xs.length k=some j/\Q (upd H p (.lst (xs.set j v)))
def yj:AW X Gx:=by
 intro pins s σ H o i v ov iv u Q I ro ri rv h
 obtain⟨p,xs,k,j,rfl,rfl,hp,hj,q⟩:=h
 cases ro
 obtain⟨t,rfl⟩:=ri
 obtain⟨its,n,r,ho,hz⟩:=I.lst hp
 obtain⟨h1,h2,h3,h4⟩:=vq hj
 have hl:=r.length
 have hn:=lg
 have I':Inv X pins σ (upd H p (.lst (xs.set j v))) { s with heap:=s.heap.update p (Obj.mapSeq (·.setIfInBounds j u)) }:=
  I.Q6 hp ho (uo its n j u) (r.set rv j) (by rw[ZN];exact hz) s.toks
 by_cases h0:0<=k
 ·have hk:k.toNat=j:=by
   rw[seqIndex_of h0 h4]at h1
   exact WR h1
  exact PySem.W.ki_setAt ho h0 (by omega) (by rw[VQ,<-hl];exact h4) (by rw[hk];exact⟨_,I',q⟩)
 ·have hk:(k+(its.toArray.size:Int)).toNat=j:=by
   rw[seqIndex_neg (by omega) h3]at h1
   rw[VQ,<-hl]
   exact WR h1
  exact PySem.W.ki_setBack ho (by omega) (by rw[VQ,<-hl];exact h3) (by omega) (by rw[hk];exact⟨_,I',q⟩)
def qA(lo hi:Option Int)(n:Nat):(sliceBounds lo hi none n).1=((HT.KJ n 0 lo:Nat):Int)/\(sliceBounds lo hi none n).2.1=((HT.KJ n n hi:Nat):Int)/\(sliceBounds lo hi none n).2.2=1:=by
 refine⟨?_,?_,rfl⟩
 ·cases lo with
  |none=>simp[sliceBounds,HT.KJ]
  |some i=>
   simp only[sliceBounds,HT.KJ,Option.getD_none,show(1:Int) > 0 by decide,WB]
   by_cases h:i < 0
   ·simp only[h,WB]<;>omega
   ·simp only[h,Wx]<;>omega
 ·cases hi with
  |none=>simp[sliceBounds,HT.KJ]
  |some i=>
   simp only[sliceBounds,HT.KJ,Option.getD_none,show(1:Int) > 0 by decide,WB]
   by_cases h:i < 0
   ·simp only[h,WB]<;>omega
   ·simp only[h,Wx]<;>omega
def oQ(its:Zx)(lo hi:Option Int):slicePick its.toArray lo hi none=((its.drop (HT.KJ its.length 0 lo)).take (HT.KJ its.length its.length hi - HT.KJ its.length 0 lo)).toArray:=by
 obtain⟨h1,h2,h3⟩:=qA lo hi its.toArray.size
 unfold slicePick
 rw[h1,h2,h3]
 simp only[sliceRange_one,pick_run,VQ]<;>rfl
noncomputable def IF(K:Zo):V->Option Int->Option Int->Hp->VK->Prop:=fun x lo hi H Q=>∃a xs,x = .ref a/\SqL K H a xs/\∀p,H p=none->Q (.ref p) (upd H p (.lst (mY xs lo hi)))
def vv:FR X (IF X.K):=by
 intro pins s σ H x v vl vu lo hi sl Q I rx hs pl pu h
 obtain⟨a,xs,rfl,hx,q⟩:=h
 cases rx
 obtain⟨its,r,ht,hz⟩:=I.list hx
 have hlen:=r.length
 refine⟨"list",_,slot_list_getitem.lookup,ht.isList.typeIs,?_⟩
 refine wpAny_getItem_list_slice ht.isList hs pl pu .none (by simp) ?_ (by rw[VQ]<;>omega)
 rw[oQ,<-hlen]
 refine⟨.ref s.heap.objs.size,_,I.laid (t':=s.toks) (o:=.lst (mY xs lo hi)) (fun b ob q=>VJ _ q) (VM _) ?_,rfl,q _ (I.hok.fresh (VM _))⟩
 exact⟨VU (me xs lo hi) hz,_,0,(r.drop (HT.KJ xs.length 0 lo)).take (HT.KJ xs.length xs.length hi - HT.KJ xs.length 0 lo),VY _ rfl⟩
def qB:j3 X (compareOp .NotIn) (fun x y H Q=>∃i j,x = .str i/\y = .str j/\Q (.bl (!(!(Builtin.Str.occurrences j i 0 j.length 1).isEmpty))) H):=by
 intro pins s σ H x y v u Q I rx ry h
 obtain⟨i,j,rfl,rfl,q⟩:=h
 obtain⟨t,rfl⟩:=rx
 obtain⟨t',rfl⟩:=ry
 exact notIn_str ⟨.bl _,H,I,rfl,q⟩
def fW:fc X (.builtin "len") (fun xs H Q=>∃p ys,xs=[.ref p]/\(SqL X.K H p ys\/SqT X.K H p ys)/\Q (.int ys.length) H):=by
 intro pins s σ H xs us Q I r h
 obtain⟨p,ys,rfl,hq,q⟩:=h
 obtain⟨u,rfl,rx⟩:=eI r
 cases rx
 have hn:=lg
 rcases hq with hq|hq
 ·obtain⟨its,r',pl,hz⟩:=I.list hq
  have hlen:=r'.length
  exact Calls.call_len_list pl.isList (by simp only[VQ]<;>omega) ⟨.int ys.length,H,I.tok _,⟨s.toks+1,by rw[VQ,hlen]⟩,q⟩
 ·obtain⟨its,r',pl,hz⟩:=I.tuple hq
  have hlen:=r'.length
  exact len_tuple pl (by simp only[VQ]<;>omega) ⟨.int ys.length,H,I.tok _,⟨s.toks+1,by rw[VQ,hlen]⟩,q⟩
def qC:fc X (.builtin "len") (fun xs H Q=>∃z,xs=[.str z]/\z.length<=sizeLine/\Q (.int z.length) H):=by
 intro pins s σ H xs us Q I r h
 obtain⟨z,rfl,hz,q⟩:=h
 obtain⟨u,rfl,t,rfl⟩:=eI r
 have hn:=lg
 exact len_str (by omega) ⟨.int z.length,H,I.tok _,⟨_,rfl⟩,q⟩
def qD:fc X (.type "list") (fun xs H Q=>∃p ys,xs=[.ref p]/\(SqL X.K H p ys\/SqT X.K H p ys)/\∀l,H l=none->Q (.ref l) (upd H l (.lst ys))):=by
 intro pins s σ H xs us Q I r h
 obtain⟨p,ys,rfl,hq,q⟩:=h
 obtain⟨u,rfl,rx⟩:=eI r
 cases rx
 have fin:∀(its:Zx),Vals ys its->ys.length<=sizeLine->∀(h':Heap) (c':Nat),(∀b o',s.heap.get? b=some o'->h'.get? b=some o')->
   h'.get? s.heap.objs.size=some { cls:=.type "list",dict:=none,data:=.seq its.toArray c',slots:=#[] }->EP X pins σ Q (.ref s.heap.objs.size) { s with heap:=h' }:=fun its r' hz h' c' kp e=>
  ⟨.ref s.heap.objs.size,_,I.laid (t':=s.toks) kp (VM _) (show KE X.prog X.w _ h' _ (.lst ys)from ⟨hz,its,c',r',e⟩),rfl,q _ (I.hok.fresh (VM _))⟩
 rcases hq with hq|hq
 ·obtain⟨its,r',pl,hz⟩:=I.list hq
  have hlen:=r'.length
  obtain⟨o,ho,hc,n,hd⟩:=pl.isList
  exact call_list_seq p (.inl rfl) ho hc hd (fun h' c' kp e=>fin its r' hz h' c' kp e) (by simp only[VQ]<;>omega)
 ·obtain⟨its,r',pl,hz⟩:=I.tuple hq
  have hlen:=r'.length
  obtain⟨o,ho,hc,n,hd⟩:=pl
  exact call_list_seq p (.inr rfl) ho hc hd (fun h' c' kp e=>fin its r' hz h' c' kp e) (by simp only[VQ]<;>omega)
def jp:fc X (.type "tuple") (fun xs H Q=>∃p ys,xs=[.ref p]/\((SqL X.K H p ys/\∀l,H l=none->Q (.ref l) (upd H l (.tup ys)))\/(SqT X.K H p ys/\Q (.ref p) H))):=by
 intro pins s σ H xs us Q I r h
 obtain⟨p,ys,rfl,h⟩:=h
 obtain⟨u,rfl,rx⟩:=eI r
 cases rx
 rcases h with⟨hq,q⟩|⟨hq,q⟩
 ·obtain⟨its,r',pl,hz⟩:=I.list hq
  have hlen:=r'.length
  refine call_tuple_list pl.isList (fun h' kp=>?_) (by simp only[VQ]<;>omega)
  have I1:Inv X pins σ H { s with heap:=h' }:=I.kept (t':=s.toks) kp
  have I2:Inv X pins σ (upd H h'.objs.size (.tup ys)) { s with heap:=h'.push { cls:=.type "tuple",data:=.seq its.toArray } }:=
   I1.laid (t':=s.toks) (fun b o e=>VJ _ e) (VM _) (show KE X.prog X.w _ _ _ (.tup ys)from ⟨hz,its,r',KZ.new _ _⟩)
  exact⟨.ref h'.objs.size,_,I2,rfl,q _ (I1.hok.fresh (VM _))⟩
 ·obtain⟨its,r',pl,hz⟩:=I.tuple hq
  exact call_tuple_same pl ⟨.ref p,H,I,rfl,q⟩
def HV(K:Zo)(T:String)(x:V)(H:Hp):Prop:=match x with
 | .str _=>T = "str"
 | .int _=>T = "int"
 | .ref p=>(T = "list"/\∃xs,SqL K H p xs)\/(T = "tuple"/\∃o,K.lookup p=some o/\o.cls = .type "tuple"/\o.dict=none) \/
   (T = "dict"/\((∃kvs,H p=some (.dK kvs))\/∃kvs,H p=some (.dT kvs)))\/(T = "set"/\∃S n,H p=some (.set S n))
 |_=>False
def yk{pins:Za}{σ:St}{H:Hp}{s:Shared}{T:String}{x:V}{v:Value}(I:Inv X pins σ H s)(r:RelV x v)(ty:HV X.K T x H) :
  s.TypeIs v T/\∀a,v = .ref a->∃ob,s.heap.get? a=some ob/\ob.dict=none:=by
 cases x with
 |str z=>
  obtain⟨t,rfl⟩:=r
  cases (show T = "str" from ty)
  exact⟨typeIs_str s z t,fun _ e=>nomatch e⟩
 |int i=>
  obtain⟨t,rfl⟩:=r
  cases (show T = "int" from ty)
  exact⟨typeIs_int s i t,fun _ e=>nomatch e⟩
 |ref p=>
  cases r
  rcases ty with⟨rfl,xs,hq⟩|⟨rfl,o,hk,hc,hd⟩|⟨rfl,hk⟩|⟨rfl,S,n,hk⟩
  ·obtain⟨its,_,pl,_⟩:=I.list hq
   refine⟨pl.isList.typeIs,fun a e=>?_⟩
   cases e
   obtain⟨o,n,e,c,hd,_⟩:=pl
   exact⟨o,e,hd⟩
  ·refine⟨⟨o,I.PY p o hk,hc⟩,fun a e=>?_⟩
   cases e
   exact⟨o,I.PY _ o hk,hd⟩
  ·have z:∃o,s.heap.get? p=some o/\o.ExactDict:=by
    rcases hk with⟨kvs,hk⟩|⟨kvs,hk⟩
    ·obtain⟨_,_,_,_,o,_,_,e,ex,_⟩:=I.hok p _ hk
     exact⟨o,e,ex⟩
    ·obtain⟨_,_,_,_,o,_,_,e,ex,_⟩:=I.hok p _ hk
     exact⟨o,e,ex⟩
   obtain⟨o,e,ex⟩:=z
   refine⟨⟨o,e,ex.1⟩,fun a e2=>?_⟩
   cases e2
   exact⟨o,e,ex.2.1⟩
  ·obtain⟨o,_,_,_,e,ex,_⟩:=I.hok p _ hk
   refine⟨⟨o,e,ex.1⟩,fun a e2=>?_⟩
   cases e2
   exact⟨o,e,ex.2.1⟩
 |_=>exact False.elim ty
def IG(K:Zo)(T:String)(r:V->List V->Hp->VK->Prop)(to:TE):TE:=fun σ H Q=>to σ H fun x H1=>HV K T x H1/\r x [] H1 Q
def JH(K:Zo)(T:String)(r:V->List V->Hp->VK->Prop)(to:TE)(t:TA):TE:=fun σ H Q=>to σ H fun x H1=>HV K T x H1/\t σ H1 fun xs H2=>r x xs H2 Q
variable {o e:Expr}{es:List Expr}{to:TE}{t:TA}{name:Str}{apos cpos:Pos}{T id:String}{r:V->List V->Hp->VK->Prop}
def Ei(pa:PlainAttrs T)(slot:Slot T name id)(hty:typeOf (.builtin id)=pure (.type "method_descriptor"))(hm:Ef X id r)(ho:PE X o to)
  (hbase:attributeBase o name X.env (eval o X.env)=eval o X.env:=by rfl) (hline:(apos.endLine == cpos.line)=true:=by rfl):PE X (.Call (.Attribute o name apos) [] [] cpos) (IG X.K T r to):=by
 intro pins s σ H Q I h
 refine wpAny_Call_method0_late hbase hline (J9 (ho pins s σ H _ I h) fun v s1 ⟨x,H1,I1,r1,ty,q1⟩=>?_)
 obtain⟨h1,h2⟩:=yk I1 r1 ty
 exact⟨T,id,pa,slot,hty,h1,h2,Yq rfl (PySem.evalArgs_none (hm pins s1 σ H1 x [] v [] Q I1 r1 .nil q1))⟩
def Gy(pa:PlainAttrs T)(slot:Slot T name id)(hty:typeOf (.builtin id)=pure (.type "method_descriptor"))(hm:Ef X id r)(ho:PE X o to)(ha:PA X (e::es) t)
  (hbase:attributeBase o name X.env (eval o X.env)=eval o X.env:=by rfl)
  (hfew:((backTo cpos (starEach (e::es) X.env)).all (fun x=>!x.1)&&(backToKw cpos (keywordEach [] X.env)).all (fun x=>x.1.isSome)
   && decide ((e::es).length+([]:List Keyword).length+(if ([]:List Keyword).isEmpty then 0 else 1) < 30))=true:=by rfl)
  (hline:(apos.endLine == cpos.line)=true:=by rfl) (hs:starEach (e::es) X.env=(false,eval e X.env)::starEach es X.env:=by rfl) (hplain:(backTo cpos (starEach es X.env)).any (·.1)=false:=by rfl) :
  PE X (.Call (.Attribute o name apos) (e::es) [] cpos) (JH X.K T r to t):=by
 intro pins s σ H Q I h
 refine wpAny_Call_method_late hbase hfew hline rfl (J9 (ho pins s σ H _ I h) fun v s1 ⟨x,H1,I1,r1,ty,q1⟩=>?_)
 obtain⟨h1,h2⟩:=yk I1 r1 ty
 refine⟨T,id,pa,slot,hty,h1,h2,?_⟩
 have hA:=ha cpos pins s1 σ H1 _ I1 q1
 rw[hs]at hA ⊢
 refine Yq (by show(false || (backTo cpos (starEach es X.env)).any (·.1))=false;rw[hplain]<;>rfl) (ZF ?_)
 exact J9 hA fun us s2 ⟨vs,H2,I2,r2,q2⟩=>hm pins s2 σ H2 x vs v us Q I2 r1 r2 q2
end
def HW(X:Cx)(id:String)(r:V->List V->Hp->VK->Prop):Prop:=
 ∀(pins:Za)(s:Shared)(σ:St)(H:Hp)(x:V)(xs:List V)(v:Value)(us:Zx)(Q:VK),Inv X pins σ H s->RelV x v->Vals xs us->r x xs H Q->
  wpAny (model X.prog X.w) X.A (call (.builtin id) (v::us)) (EP X pins σ Q) X.xe s
theorem Vals.one:∀{x:V}{us:Zx},Vals [x] us->∃u,us=[u]/\RelV x u
 |_,_,.cons r .nil=>⟨_,rfl,r⟩
theorem Vals.zero:∀{us:Zx},Vals [] us->us=[]
 |_,.nil=>rfl
theorem Vals.dropLast{xs:List V}{us:Zx}(h:Vals xs us):Vals xs.dropLast us.dropLast:=by
 induction h with
 |nil=>exact .nil
 |cons r t ih=>
  cases t with
  |nil=>exact .nil
  |cons q t'=>exact .cons r ih
theorem Vals.eraseIdx:∀{xs:List V}{us:Zx}(i:Nat),Vals xs us->Vals (xs.eraseIdx i) (us.eraseIdx i)
 |_,_,_,.nil=>.nil
 |_,_,0,.cons _ t=>t
 |_,_,i+1,.cons r t=>.cons r (Vals.eraseIdx i t)
theorem Vals.reverse{xs:List V}{us:Zx}(h:Vals xs us):Vals xs.reverse us.reverse:=by
 induction h with
 |nil=>exact .nil
 |cons r t ih=>rw[Zd,Zd];exact Vals.append ih (.cons r .nil)
theorem Vals.rep{xs:List V}{us:Zx}(h:Vals xs us):∀k:Nat,Vals (List.replicate k xs).flatten (List.replicate k us).flatten
 |0=>.nil
 |k+1=>by
  rw[Wo,Wo,Xm,Xm]
  exact Vals.append h (Vals.rep h k)
def uq{α:Type}(l:List α):l.eraseIdx (l.length - 1)=l.dropLast:=by
 induction l with
 |nil=>rfl
 |cons a r ih=>
  cases r with
  |nil=>rfl
  |cons b r=>
   have e:(a::b::r).length - 1=((b::r).length - 1)+1:=by
    have h1:(a::b::r).length=r.length+2:=rfl
    have h2:(b::r).length=r.length+1:=rfl
    omega
   rw[e,List.eraseIdx_cons_succ,ih]
   all_goals rfl
theorem pL{α:Type}:∀(l:List α)(i:Nat),(l.eraseIdx i).length<=l.length
 |[],_=>VM _
 |_::_,0=>Nat.le_succ _
 |_::r,i+1=>Nat.succ_le_succ (pL r i)
theorem lh(its:Zx):∀(k:Nat)(acc:Zx),
  List.foldl (fun x1 x2=>x1++x2) acc.toArray (List.replicate k its.toArray)=(acc++(List.replicate k its).flatten).toArray
 |0,acc=>by simp
 |k+1,acc=>by
  have e:acc.toArray++its.toArray=(acc++its).toArray:=by simp
  have e2:(acc++its)++(List.replicate k its).flatten=acc++(List.replicate (k+1) its).flatten:=by
   rw[Wo,Xm,Xn]
  rw[<-e2,<-lh its k (acc++its),<-e,Wo,List.foldl_cons]
section
variable {X:Cx}{pins:Za}{σ:St}{H:Hp}{s:Shared}{l b:Addr}{xs ys zs:List V}
def Inv.Qq{its its':Zx}{n:Nat}{f:Array Value->Array Value}{t':Nat}(I:Inv X pins σ H s)(hH:H l=some (.lst xs))
  (e:s.heap.get? l=some { cls:=.type "list",data:=.seq its.toArray n }) (hf:f its.toArray=its'.toArray) (hv:Vals ys its') (hz:ys.length<=sizeLine) :
  Inv X pins σ (upd H l (.lst ys)) { s with heap:=s.heap.update l (Obj.mapSeq f),toks:=t' }:=by
 have q:=PySem.IsL.update e f
 rw[hf]at q
 refine I.write (x:=l) (e:=l) (by rw[hH];exact trivial) (.inl rfl) (fun b' u hb hu=>(XJ s.heap (Obj.mapSeq f) (Xl hb)).trans hu) ⟨_,q⟩ ?_
 exact⟨hz,its',_,hv,q⟩
def Inv.RC{its:Zx}{t':Nat}(I:Inv X pins σ H s)(hv:Vals ys its)(hz:ys.length<=sizeLine) :
  Inv X pins σ (upd H s.heap.objs.size (.lst ys)) { s with heap:=s.heap.push { cls:=.type "list",data:=.seq its.toArray },toks:=t' }:=
 I.laid (fun _ _ q=>VJ _ q) (VM _) ⟨hz,its,0,hv,VY _ rfl⟩
theorem Inv.fresh(I:Inv X pins σ H s):H s.heap.objs.size=none:=I.hok.fresh (VM _)
def Inv.OP(I:Inv X pins σ H s)(hH:H l=some (.lst xs)):xs.length<=sizeLine/\∃(its:Zx)(n:Nat),Vals xs its/\xs.length=its.length/\s.heap.get? l=some { cls:=.type "list",data:=.seq its.toArray n }:=by
 obtain⟨z,its,n,r,e⟩:=I.hok l _ hH
 exact⟨z,its,n,r,r.length,e⟩
def sB{n:Nat}(h:n<=sizeLine):Builtin.List.listTooLong n=false:=by
 unfold Builtin.List.listTooLong
 exact Wc (by omega)
end
section
variable {X:Cx}
noncomputable def Bc:V->List V->Hp->VK->Prop:=fun x vs H Q=>∃l xs y,x = .ref l/\vs=[y]/\H l=some (.lst xs)/\xs.length < sizeLine/\Q .non (upd H l (.lst (xs++[y])))
def wD:HW X "list.append" Bc:=by
 intro pins s σ H x vs v us Q I rx rv h
 obtain⟨l,xs,y,rfl,rfl,hH,hz,q⟩:=h
 cases rx
 obtain⟨u,rfl,ru⟩:=rv.one
 obtain⟨z,its,n,r,hl,e⟩:=I.OP hH
 refine XU F.slot_list_append ⟨_,e,rfl⟩ F.entry_list_append (F.args_list_append_2 _ _) (PySem.list_append l its.toArray n u (by rw[VQ];omega)) ⟨e,?_⟩
 refine⟨.non,_,I.Qq (its':=its++[u]) hH e (by simp) (r.append (.cons ru .nil)) ?_,rfl,q⟩
 rw[VH,V0]
 omega
noncomputable def Be:V->List V->Hp->VK->Prop:=fun x vs H Q=>∃l b xs zs,x = .ref l/\vs=[.ref b]/\H l=some (.lst xs)/\H b=some (.lst zs)/\xs.length+zs.length<=sizeLine/\Q .non (upd H l (.lst (xs++zs)))
def wE:HW X "list.extend" Be:=by
 intro pins s σ H x vs v us Q I rx rv h
 obtain⟨l,b,xs,zs,rfl,rfl,hH,hB,hz,q⟩:=h
 cases rx
 obtain⟨u,rfl,ru⟩:=rv.one
 cases ru
 obtain⟨z,its,n,r,hl,e⟩:=I.OP hH
 obtain⟨z2,its2,n2,r2,hl2,e2⟩:=I.OP hB
 have hsz:its.toArray.size+its2.toArray.size<=sizeLine:=by rw[VQ,VQ];omega
 have PZ:¬(!its.toArray.isEmpty&&Builtin.List.listTooLong (its.toArray.size+its2.toArray.size))=true:=by
  rw[sB hsz,Bool.and_false]
  exact Wk
 refine XU F.slot_list_extend ⟨_,e,rfl⟩ F.entry_list_extend (F.args_list_extend_2 _ _)
  (AutoSeq1.list_extend_list_list_0 l its.toArray n b its2.toArray n2 PZ (by rw[VQ];omega) (by omega)) ⟨e,e2,?_⟩
 refine⟨.non,_,I.Qq (its':=its++its2) hH e (by simp) (r.append r2) ?_,rfl,q⟩
 rw[VH]
 omega
noncomputable def IH:V->List V->Hp->VK->Prop:=fun x vs H Q=>∃l xs y,x = .ref l/\vs=[]/\H l=some (.lst xs)/\xs[xs.length - 1]?=some y/\Q y (upd H l (.lst xs.dropLast))
def Ej:HW X "list.pop" IH:=by
 intro pins s σ H x vs v us Q I rx rv h
 obtain⟨l,xs,y,rfl,rfl,hH,hy,q⟩:=h
 cases rx
 have UE:=rv.zero
 subst UE
 obtain⟨z,its,n,r,hl,e⟩:=I.OP hH
 obtain⟨u,hu,ru⟩:=r.get hy
 have hy':its.toArray[its.toArray.size - 1]?=some u:=by
  show its.toArray[its.length - 1]?=some u
  rw[<-Array.getElem?_toList,<-hl]
  exact hu
 refine XU F.slot_list_pop ⟨_,e,rfl⟩ F.entry_list_pop (F.args_list_pop_1 _) (MeetsSeq.list_pop_last l its.toArray n u hy' (by rw[VQ];omega)) ⟨e,?_⟩
 refine⟨y,_,I.Qq (its':=its.dropLast) hH e ?_ r.dropLast ?_,ru,q⟩
 ·show its.toArray.eraseIdxIfInBounds (its.toArray.size - 1)=its.dropLast.toArray
  rw[VQ,Zl,uq]
 ·rw[List.length_dropLast]
  omega
noncomputable def Ek:V->List V->Hp->VK->Prop:=fun x vs H Q=>∃l xs i k y,x = .ref l/\vs=[.int i]/\H l=some (.lst xs)/\-(2 ^ 63)<=i/\i < 2 ^ 63/\seqIndex? i xs.length=some k/\xs[k]?=some y/\Q y (upd H l (.lst (xs.eraseIdx k)))
def ym:HW X "list.pop" Ek:=by
 intro pins s σ H x vs v us Q I rx rv h
 obtain⟨l,xs,i,k,y,rfl,rfl,hH,h1,h2,hk,hy,q⟩:=h
 cases rx
 obtain⟨u,rfl,ru⟩:=rv.one
 obtain⟨t,rfl⟩:=ru
 obtain⟨z,its,n,r,hl,e⟩:=I.OP hH
 obtain⟨w,hw,rw'⟩:=r.get hy
 refine XU F.slot_list_pop ⟨_,e,rfl⟩ F.entry_list_pop (F.args_list_pop_2 _ _)
  (MeetsSeq.list_pop_at l its.toArray n i t k w (fitsIndex_both h1 h2) (by rw[VQ,<-hl];exact hk) (by rw[<-Array.getElem?_toList];exact hw) (by rw[VQ];omega)) ⟨e,?_⟩
 refine⟨y,_,I.Qq (its':=its.eraseIdx k) hH e ?_ (r.eraseIdx k) ?_,rw',q⟩
 ·show its.toArray.eraseIdxIfInBounds k=(its.eraseIdx k).toArray
  rw[Zl]
 ·have:=pL xs k
  omega
def II:R2:=fun x y H Q=>∃l b xs zs,x = .ref l/\y = .ref b/\H l=some (.lst xs)/\H b=some (.lst zs)/\xs.length+zs.length<=sizeLine/\∀p,H p=none->Q (.ref p) (upd H p (.lst (xs++zs)))
def El:j3 X (binaryOp .Add) II:=by
 intro pins s σ H x y v u Q I rx ry h
 obtain⟨l,b,xs,zs,rfl,rfl,hH,hB,hz,q⟩:=h
 cases rx
 cases ry
 obtain⟨z,its,n,r,hl,e⟩:=I.OP hH
 obtain⟨z2,its2,n2,r2,hl2,e2⟩:=I.OP hB
 refine PySem.P.add_list e e2 ?_ (by rw[VQ,VQ];omega)
 have ea:its.toArray++its2.toArray=(its++its2).toArray:=by simp
 rw[ea]
 exact⟨.ref _,_,I.RC (t':=s.toks) (r.append r2) (by rw[VH];omega),rfl,q _ I.fresh⟩
def IJ:R2:=fun x y H Q=>∃l k xs,x = .ref l/\y = .int k/\H l=some (.lst xs)/\-(2 ^ 63)<=k/\k < 2 ^ 63/\xs.length * k.toNat<=sizeLine/\
 ∀p,H p=none->Q (.ref p) (upd H p (.lst (List.replicate k.toNat xs).flatten))
def Bf{α:Type}(xs:List α)(k:Nat):(List.replicate k xs).flatten.length=k * xs.length:=by
 induction k with
 |zero=>simp
 |succ k ih=>rw[Wo,Xm,VH,ih,ZT,Nat.add_comm]
def Em:j3 X (binaryOp .Mult) IJ:=by
 intro pins s σ H x y v u Q I rx ry h
 obtain⟨l,k,xs,rfl,rfl,hH,h1,h2,hz,q⟩:=h
 cases rx
 obtain⟨t,rfl⟩:=ry
 obtain⟨z,its,n,r,hl,e⟩:=I.OP hH
 have hlen:its.toArray.size * k.toNat<=sizeLine:=by rw[VQ,<-hl];exact hz
 have hcap:¬its.toArray.size * k.toNat > (2 ^ 63 - 1) / 8:=by
  have:(sizeLine:Nat)<=(2 ^ 63 - 1) / 8:=by decide
  omega
 have hfit:¬(!Builtin.List.listFitsIndex k)=true:=by
  rw[fitsIndex_both h1 h2]
  exact Wk
 have PZ:¬Builtin.List.listTooLong (its.toArray.size * k.toNat)=true:=by
  rw[sB hlen]
  exact Wk
 have hnew:List.foldl (fun x1 x2=>x1++x2) #[] (List.replicate (if its.toArray.isEmpty=true then 0 else k.toNat) its.toArray)=(List.replicate k.toNat its).flatten.toArray:=by
  have f0:∀m:Nat,List.foldl (fun x1 x2=>x1++x2) #[] (List.replicate m its.toArray)=(List.replicate m its).flatten.toArray:=fun m=>by
   have:=lh its m []
   rw[Wm]at this
   exact this
  rw[f0]
  cases its with
  |nil=>simp
  |cons a r'=>rw[if_neg (by simp)]
 refine wpAny_binaryOp_repeat_ref (T:="list") (U:="int") (by decide) ⟨_,e,rfl⟩ (fun s'=>typeIs_int s' k t) noFill_list_mul F.fills_int_mul ZO repeat_list F.slot_int_index.lookup
  (XU ZO (typeIs_int s k t) F.entry_int_rmul (F.args_int_rmul_2 _ _) (int___rmul___int_list k t l its.toArray n)
   ⟨e,rfl,⟨_,e,rfl⟩,XU F.slot_list_mul ⟨_,e,rfl⟩ F.entry_list_mul (F.args_list_mul_2 _ _) (AutoListH.list___mul___list_int_3 l its.toArray n k t hfit hcap PZ) ⟨e,?_⟩⟩)
 rw[hnew]
 exact⟨.ref _,_,I.RC (t':=s.toks) (r.rep k.toNat) (by rw[Bf,Nat.mul_comm];exact hz),rfl,q _ I.fresh⟩
end
section
variable {κ:Type} [DecidableEq κ]
noncomputable def jB(kvs:List (κ×V))(k:κ):Option V:=(kvs.find? fun kv=>decide (kv.1=k)).map (·.2)
noncomputable def h_(kvs:List (κ×V))(k:κ)(v:V):List (κ×V):=
 if (kvs.any fun kv=>decide (kv.1=k))=true then kvs.map (fun kv=>if kv.1=k then (kv.1,v) else kv) else kvs++[(k,v)]
def Mk{p:κ×V}{r:List (κ×V)}{k:κ}(e:p.1=k):jB (p::r) k=some p.2:=by simp[jB,List.find?_cons,e]
def Ml{p:κ×V}{r:List (κ×V)}{k:κ}(e:¬p.1=k):jB (p::r) k=jB r k:=by simp[jB,List.find?_cons,e]
theorem mZ(k:κ):∀kvs:List (κ×V),(kvs.any fun kv=>decide (kv.1=k))=(jB kvs k).isSome
 |[]=>rfl
 |p::r=>by
  rw[YT]
  by_cases e:p.1=k
  ·simp only[Mk e,Wu e,Bool.true_or,Option.isSome_some]
  ·rw[Ml e,Wc e,Bool.false_or];exact mZ k r
def ie(kvs:List (κ×V))(k:κ)(v:V):(h_ kvs k v).length<=kvs.length+1:=by
 unfold h_
 split
 ·rw[VI];omega
 ·rw[VH,V1,Wn];omega
def RelO.Mm{o:Option V}{u:Option Value}(r:RelO o u):o.isSome=u.isSome:=by
 cases o with
 |none=>cases u with
  |none=>rfl
  |some _=>exact(show False from r).elim
 |some _=>cases u with
  |none=>exact(show False from r).elim
  |some _=>rfl
theorem RelO.getD{o:Option V}{u:Option Value}{d:V}{d':Value}(r:RelO o u)(rd:RelV d d'):RelV (o.getD d) (u.getD d'):=by
 cases o with
 |none=>cases u with
  |none=>exact rd
  |some _=>exact(show False from r).elim
 |some _=>cases u with
  |none=>exact(show False from r).elim
  |some _=>exact r
def KV.val{kvs:List (κ×V)}{vs:List (κ×Value)}(r:KV kvs vs)(k:κ):RelO (jB kvs k) (valueAt vs k):=by
 unfold KV at r
 induction r with
 |nil=>exact True.intro
 |@cons p q ps qs h t ih=>
  obtain⟨h1,h2⟩:=h
  by_cases e:p.1=k
  ·have e':q.1=k:=h1.symm.trans e
   have b:valueAt (q::qs) k=some q.2:=by simp[valueAt,List.find?_cons,e']
   rw[Mk e,b];exact h2
  ·have e':¬q.1=k:=fun z=>e (h1.trans z)
   have b:valueAt (q::qs) k=valueAt qs k:=by simp[valueAt,List.find?_cons,e']
   rw[Ml e,b];exact ih
theorem KV.any{kvs:List (κ×V)}{vs:List (κ×Value)}(r:KV kvs vs)(k:κ):(kvs.any fun kv=>decide (kv.1=k))=vs.any fun kv=>decide (kv.1=k):=by
 unfold KV at r
 induction r with
 |nil=>rfl
 |cons h t ih=>rw[YT,YT,ih,h.1]
def KV.repl{kvs:List (κ×V)}{vs:List (κ×Value)}(r:KV kvs vs)(k:κ){y:V}{u:Value}(ry:RelV y u) :
  KV (kvs.map fun kv=>if kv.1=k then (kv.1,y) else kv) (vs.map fun kv=>if kv.1=k then (kv.1,u) else kv):=by
 unfold KV at r ⊢
 induction r with
 |nil=>exact .nil
 |@cons p q ps qs h t ih=>
  rw[VT,VT]
  refine .cons ?_ ih
  obtain⟨h1,h2⟩:=h
  by_cases e:p.1=k
  ·rw[if_pos e,if_pos (h1.symm.trans e)];exact⟨h1,ry⟩
  ·rw[if_neg e,if_neg (fun z=>e (h1.trans z))];exact⟨h1,h2⟩
def KV.put{kvs:List (κ×V)}{vs:List (κ×Value)}(r:KV kvs vs)(k:κ){y:V}{u:Value}(ry:RelV y u):KV (h_ kvs k y) (stored vs k u):=by
 unfold h_ stored
 rw[r.any k]
 by_cases e:(vs.any fun kv=>decide (kv.1=k))=true
 ·rw[if_pos e,if_pos e];exact r.repl k ry
 ·rw[if_neg e,if_neg e];exact Paired.snoc r ⟨rfl,ry⟩
theorem KV.length{kvs:List (κ×V)}{vs:List (κ×Value)}(r:KV kvs vs):kvs.length=vs.length:=Paired.length r
end
def mf{P:Program}{w:World}{k:bo}{u:Value}(r:RelV (kV k) u):(ba P w).is k u=true:=by
 cases k with
 |inl i=>obtain⟨t,e⟩:=(show ∃t,u=Value.int i t from r);subst e;exact su P w i t
 |inr x=>obtain⟨t,e⟩:=(show ∃t,u=Value.str x t from r);subst e;exact sv P w x t
theorem pM{P:Program}{w:World}:∀{ks:List bo}{us:Zx},Vals (ks.map kV) us->ItemsAre (ba P w) ks us
 |[],_,r=>by rw[Wr]at r;cases r;exact .nil
 |k::ks,_,r=>by
  rw[VT]at r
  cases r with
  |cons h t=>exact .cons (mf h) (pM t)
noncomputable abbrev KT(H:Hp):List (List bo×V)->List (List bo×Addr×Value)->Prop:=Paired fun p q=>p.1=q.1/\H q.2.1=some (.tup (p.1.map kV))/\RelV p.2 q.2.2
def KT.val{H:Hp}{kvs:List (List bo×V)}{xs:List (List bo×Addr×Value)}(r:KT H kvs xs)(k:List bo):RelO (jB kvs k) ((atKey xs k).map (·.2)):=by
 induction r with
 |nil=>exact True.intro
 |@cons p q ps qs h t ih=>
  obtain⟨h1,_,h2⟩:=h
  by_cases e:p.1=k
  ·have e':q.1=k:=h1.symm.trans e
   have b:atKey (q::qs) k=some q.2:=by simp[atKey,List.find?_cons,e']
   rw[Mk e,b];exact h2
  ·have e':¬q.1=k:=fun z=>e (h1.trans z)
   have b:atKey (q::qs) k=atKey qs k:=by simp[atKey,List.find?_cons,e']
   rw[Ml e,b];exact ih
def KT.repl{H:Hp}{kvs:List (List bo×V)}{xs:List (List bo×Addr×Value)}(r:KT H kvs xs)(k:List bo){y:V}{u:Value}(ry:RelV y u) :
  KT H (kvs.map fun kv=>if kv.1=k then (kv.1,y) else kv) (xs.map (putAt k u)):=by
 induction r with
 |nil=>exact .nil
 |@cons p q ps qs h t ih=>
  rw[VT,VT]
  refine .cons ?_ ih
  obtain⟨h1,h2,h3⟩:=h
  unfold putAt
  by_cases e:p.1=k
  ·rw[if_pos e,if_pos (h1.symm.trans e)];exact⟨h1,h2,ry⟩
  ·rw[if_neg e,if_neg (fun z=>e (h1.trans z))];exact⟨h1,h2,h3⟩
def KT.put{H:Hp}{kvs:List (List bo×V)}{xs:List (List bo×Addr×Value)}(r:KT H kvs xs)(k:List bo){b:Addr}{y:V}{u:Value}(hb:H b=some (.tup (k.map kV)))(ry:RelV y u) :
  KT H (h_ kvs k y) (storedH xs k b u):=by
 have e:(kvs.any fun kv=>decide (kv.1=k))=(atKey xs k).isSome:=by
  rw[mZ,(r.val k).Mm,Z2]
 unfold h_ storedH
 rw[e]
 by_cases q:(atKey xs k).isSome=true
 ·rw[if_pos q,if_pos q];exact r.repl k ry
 ·rw[if_neg q,if_neg q];exact Paired.snoc r ⟨rfl,hb,ry⟩
def KT.keeps{H H':Hp}{kvs:List (List bo×V)}{xs:List (List bo×Addr×Value)}(r:KT H kvs xs)(ht:∀b ys,H b=some (.tup ys)->H' b=some (.tup ys)):KT H' kvs xs:=
 Paired.QW r fun _ _ z=>⟨z.1,ht _ _ z.2.1,z.2.2⟩
section
variable {P:Program}{w:World}{H:Hp}{h:Heap}{a:Addr}
def C8{u:HO}(ok:MS P w H h)(e:Rd H a u):KE P w H h a u:=e.ok ok
def pN{kvs:List (bo×V)}(ok:MS P w H h)(e:Rd H a (.dK kvs)):kvs.length<=sizeLine/\(a == sysModules)=false/\∃vs,KV kvs vs/\h.DictOf (ba P w) a vs:=
 show KE P w H h a (.dK kvs)from C8 ok e
def C9{kvs:List (bo×V)}(ok:MS P w H h)(e:H a=some (.dK kvs)):kvs.length<=sizeLine/\(a == sysModules)=false/\∃vs,KV kvs vs/\h.DictOf (ba P w) a vs:=pN ok (.inl e)
def eJ{ks:List bo}(ok:MS P w H h)(e:H a=some (.tup (ks.map kV))):(tupleKind (ba P w)).is h ks a:=by
 obtain⟨_,its,r,o,h1,_,h2,n,h3⟩:=(show KE P w H h a (.tup (ks.map kV))from ok a _ e)
 exact⟨o,its.toArray,n,h1,h2,h3,by simpa using pM r⟩
def sC{kvs:List (List bo×V)}(ok:MS P w H h)(e:Rd H a (.dT kvs)):kvs.length<=sizeLine/\(a == sysModules)=false/\
  ∃xs,KT H kvs xs/\h.DictOfH (tupleKind (ba P w)) a xs:=by
 obtain⟨z,y,xs,r,o,es,ep,h1,h2,h3,h4,h5⟩:=(show KE P w H h a (.dT kvs)from C8 ok e)
 refine⟨z,y,xs,r,o,es,ep,h1,h2,h3,h4,fun x hx=>?_,h5⟩
 have all:∀{l:List (List bo×V)}{m:List (List bo×Addr×Value)},KT H l m->∀x∈m,(tupleKind (ba P w)).is h x.1 x.2.1:=by
  intro l m q
  induction q with
  |nil=>intro x hx;exact nomatch hx
  |@cons p q ps qs hq t ih=>
   intro x hx
   rcases VL.mp hx with e|hx
   ·subst e
    exact eJ ok (by rw[<-hq.1];exact hq.2.1)
   ·exact ih x hx
 exact all r x hx
def Gz{kvs:List (List bo×V)}(ok:MS P w H h)(e:H a=some (.dT kvs)):kvs.length<=sizeLine/\(a == sysModules)=false/\
  ∃xs,KT H kvs xs/\h.DictOfH (tupleKind (ba P w)) a xs:=sC ok (.inl e)
end
def DGet(H:Hp)(a:Addr)(y:V)(r:Option V):Prop:=
 (∃kvs k,Rd H a (.dK kvs)/\y=kV k/\r=jB kvs k)\/∃kvs k b,Rd H a (.dT kvs)/\y = .ref b/\H b=some (.tup (k.map kV))/\r=jB kvs k
def P0(H:Hp)(a:Addr)(y v:V)(H':Hp):Prop:=
 (∃kvs k,H a=some (.dK kvs)/\y=kV k/\kvs.length < sizeLine/\H'=upd H a (.dK (h_ kvs k v))) \/
 ∃kvs k b,H a=some (.dT kvs)/\y = .ref b/\H b=some (.tup (k.map kV))/\kvs.length < sizeLine/\H'=upd H a (.dT (h_ kvs k v))
theorem DGet.k{H:Hp}{a:Addr}{kvs:List (bo×V)}{k:bo}(e:H a=some (.dK kvs)):DGet H a (kV k) (jB kvs k):=.inl ⟨kvs,k,.inl e,rfl,rfl⟩
theorem P0.k{H:Hp}{a:Addr}{kvs:List (bo×V)}{k:bo}{v:V}(e:H a=some (.dK kvs))(hl:kvs.length < sizeLine):P0 H a (kV k) v (upd H a (.dK (h_ kvs k v))):=.inl ⟨kvs,k,e,rfl,hl,rfl⟩
section
variable {X:Cx}{pins:Za}{σ:St}{H:Hp}{s:Shared}{a:Addr}{y v:V}{u r:Value}{o:Option V}{A:Around}{E:Zq}
def Inv.big(I:Inv X pins σ H s):sysModules < s.heap.objs.size:=by
 have h:mainGlobals < s.heap.objs.size:=(I.mod.glob.keeps I.bk).lt
 exact Xy (by decide) h
def wF{Q:Zq}(hu:A.units+1 < cLine)(I:Inv X pins σ H s)(g:DGet H a y (some v))(ry:RelV y u)(h:∀w' s',Inv X pins σ H s'->RelV v w'->Q w' s') :
  wpAny (model X.prog X.w) A (getItem (.ref a) u) Q E s:=by
 rcases g with⟨kvs,k,e,ey,l⟩|⟨kvs,k,b,e,ey,eb,l⟩
 ·subst ey
  obtain⟨z,hd,vs,rel,dd⟩:=pN I.hok e
  obtain⟨w',hw,rw'⟩:=RelO.some_of (v:=v) (o:=valueAt vs k) (by rw[l];exact rel.val k)
  exact wpAny_getItem_of (mf ry) dd.mapOf hw (h w' _ (I.tok _) rw')
 ·subst ey
  cases (show u=Value.ref b from ry)
  obtain⟨z,hd,xs,rel,dd⟩:=sC I.hok e
  obtain⟨w',hw,rw'⟩:=RelO.some_of (v:=v) (o:=(atKey xs k).map (·.2)) (by rw[l];exact rel.val k)
  obtain⟨p,hp,hp2⟩:=Wg.mp hw
  refine wpAny_getItem_heap (Y3 hu) (eJ I.hok eb) dd hp ?_
  rw[hp2]
  exact h w' _ (I.tok _) rw'
def GA{Q:Zq}(hu:A.units+1 < cLine)(I:Inv X pins σ H s)(g:DGet H a y o)(ry:RelV y u)(h:∀s',Inv X pins σ H s'->Q (.bool o.isSome) s') :
  wpAny (model X.prog X.w) A (compareOp .In u (.ref a)) Q E s:=by
 rcases g with⟨kvs,k,e,ey,l⟩|⟨kvs,k,b,e,ey,eb,l⟩
 ·subst ey
  obtain⟨z,hd,vs,rel,dd⟩:=pN I.hok e
  refine wpAny_in_of (mf ry) hd dd.mapOf ?_
  rw[<-(rel.val k).Mm,<-l]
  exact h _ (I.tok _)
 ·subst ey
  cases (show u=Value.ref b from ry)
  obtain⟨z,hd,xs,rel,dd⟩:=sC I.hok e
  refine wpAny_in_heap (Y3 hu) (eJ I.hok eb) hd dd ?_
  have q:=(rel.val k).Mm
  rw[Z2]at q
  rw[<-q,<-l]
  exact h _ (I.tok _)
def vx{Q:Zq}(hu:A.units+1 < cLine)(I:Inv X pins σ H s)(g:DGet H a y o)(ry:RelV y u)(h:∀s',Inv X pins σ H s'->Q (.bool (!o.isSome)) s') :
  wpAny (model X.prog X.w) A (compareOp .NotIn u (.ref a)) Q E s:=by
 rcases g with⟨kvs,k,e,ey,l⟩|⟨kvs,k,b,e,ey,eb,l⟩
 ·subst ey
  obtain⟨z,hd,vs,rel,dd⟩:=pN I.hok e
  refine wpAny_notIn_of (mf ry) hd dd.mapOf ?_
  rw[<-(rel.val k).Mm,<-l]
  exact h _ (I.tok _)
 ·subst ey
  cases (show u=Value.ref b from ry)
  obtain⟨z,hd,xs,rel,dd⟩:=sC I.hok e
  refine wpAny_notIn_heap (Y3 hu) (eJ I.hok eb) hd dd ?_
  have q:=(rel.val k).Mm
  rw[Z2]at q
  rw[<-q,<-l]
  exact h _ (I.tok _)
def qE{h':Heap}{t':Nat}{ob:HO}(I:Inv X pins σ H s)(mu:F5 (H a))(hs:Heap.SameBut a s.heap h')(he:∃q,h'.get? a=some q)(new:KE X.prog X.w (upd H a ob) h' a ob) :
  Inv X pins σ (upd H a ob) { s with heap:=h',toks:=t' }:=
 I.write (x:=a) (e:=a) mu (.inl rfl) (fun b q hb z=>(hs.2 b hb).trans z) he new
def yn{P:Program}{w:World}{H':Hp}{h':Heap}{kvs:List (bo×V)}{vs:List (bo×Value)}(z:kvs.length<=sizeLine)(hd:(a == sysModules)=false)(rel:KV kvs vs)(dd:h'.DictOf (ba P w) a vs) :
  KE P w H' h' a (.dK kvs):=⟨z,hd,vs,rel,dd⟩
def wG{H':Hp}{Q:Unit->Shared->Prop}(hu:A.units+1 < cLine)(I:Inv X pins σ H s)(g:P0 H a y v H')(ry:RelV y u)(rv:RelV v r)(h:∀s',Inv X pins σ H' s'->Q () s') :
  wpAny (model X.prog X.w) A (setItem (.ref a) u r) Q E s:=by
 rcases g with⟨kvs,k,e,ey,l,eH⟩|⟨kvs,k,b,e,ey,eb,l,eH⟩
 ·subst ey eH
  obtain⟨z,hd,vs,rel,dd⟩:=C9 I.hok e
  have hz:vs.length<=sizeLine:=by rw[<-rel.length];exact z
  have hl:(h_ kvs k v).length<=sizeLine:=by have:=ie kvs k v;omega
  refine wpAny_setItem_pairs (hsz:=hz) (mf ry) dd fun h' Q7 hs=>h _ ?_
  have he:∃q,h'.get? a=some q:=let ⟨q,_,_,hq,_⟩:=Q7;⟨q,hq⟩
  exact qE I (by rw[e];exact True.intro) hs he (yn hl hd (rel.put k rv) Q7)
 ·subst ey eH
  cases (show u=Value.ref b from ry)
  obtain⟨z,hd,xs,rel,dd⟩:=Gz I.hok e
  have hz:xs.length<=sizeLine:=by rw[<-Paired.length rel];exact z
  have hl:(h_ kvs k v).length<=sizeLine:=by have:=ie kvs k v;omega
  refine wpAny_setItem_heap (hsz:=hz) (Y3 hu) (eJ I.hok eb) dd fun h' Q7 hs=>h _ ?_
  obtain⟨q,es,ep,hq,h2,h3,h4,_,h5⟩:=Q7
  refine qE I (by rw[e];exact True.intro) hs ⟨q,hq⟩ ⟨hl,hd,_,(rel.put k eb rv).keeps fun c ys ec=>?_,q,es,ep,hq,h2,h3,h4,h5⟩
  rw[aM (F4 ec e (fun z=>nomatch z))]
  exact ec
end
section
variable {X:Cx}{pins:Za}{σ:St}{H:Hp}{s:Shared}{a:Addr}{kvs:List (bo×V)}{k:bo}{u:Value}{A:Around}{E:Zq}
def GB{Q:Zq}(I:Inv X pins σ H s)(e:Rd H a (.dK kvs))(h:∀t s',Inv X pins σ H s'->Q (.int kvs.length t) s'):wpAny (model X.prog X.w) A (call (.builtin "len") [.ref a]) Q E s:=by
 obtain⟨z,hd,vs,rel,dd⟩:=pN I.hok e
 refine call_len_dict hd dd (by rw[<-rel.length];rw[sizeLine_eq]at z;omega) ?_
 rw[<-rel.length]
 exact h _ _ (I.tok _)
end
def sD{X:Cx}{pins:Za}{σ:St}{H:Hp}{s:Shared}{a:Addr}{y:V}{o:Option V}(I:Inv X pins σ H s)(g:DGet H a y o):s.TypeIs (.ref a) "dict":=by
 rcases g with⟨kvs,k,e,_,_⟩|⟨kvs,k,b,e,_,_,_⟩
 ·obtain⟨_,_,vs,_,dd⟩:=pN I.hok e
  exact dd.typeIs
 ·obtain⟨_,_,xs,_,dd⟩:=sC I.hok e
  exact dd.typeIs
def sE{P:Program}{w:World}{H:Hp}(h:Heap)(hb:sysModules < h.objs.size):KE P w H (h.push { cls:=.type "dict",data:=.dict #[] }) h.objs.size (.dK []):=
 ⟨Ws _,ZP.mpr (Xl (Wa hb)),[],.nil,Heap.DictOf.new h⟩
noncomputable def qF:List (TE×TE)->St->Hp->(List (V×V)->Hp->Prop)->Prop
 |[],_,H,Q=>Q [] H
 |(tk,tv)::r,σ,H,Q=>tk σ H fun x H1=>tv σ H1 fun y H2=>qF r σ H2 fun ps H3=>Q ((x,y)::ps) H3
noncomputable abbrev VV:List (V×V)->List (Value×Value)->Prop:=Paired fun p q=>RelV p.1 q.1/\RelV p.2 q.2
def GC(X:Cx)(pos:Pos)(keys:List (Option Expr))(values:List Expr)(NS:List (TE×TE)):Prop:=
 ∀(pins:Za)(s:Shared)(σ:St)(H:Hp)(Q:List (V×V)->Hp->Prop),Inv X pins σ H s->qF NS σ H Q->
  wpAny (model X.prog X.w) X.A (evalPairs (pairTrees keys values X.env pos)) (fun vs s'=>∃ps H',Inv X pins σ H' s'/\VV ps vs/\Q ps H') X.xe s
def Bg{X:Cx}{pos:Pos}:GC X pos [] [] []:=fun pins s σ H Q I h=>pairTrees_nil_walk ⟨[],H,I,.nil,h⟩
def yo{X:Cx}{pos:Pos}{k v:Expr}{ks:List (Option Expr)}{vs:List Expr}{tk tv:TE}{NS:List (TE×TE)}(hk:PE X k tk)(hv:PE X v tv)(hr:GC X pos ks vs NS) :
  GC X pos (some k::ks) (v::vs) ((tk,tv)::NS):=fun pins s σ H Q I h=>
 pairTrees_cons_walk (J9 (hk pins s σ H _ I h) fun u s1 ⟨x,H1,I1,rx,q1⟩=>J9 (hv pins s1 σ H1 _ I1 q1) fun w2 s2 ⟨y,H2,I2,ry,q2⟩=>
  J9 (hr pins s2 σ H2 _ I2 q2) fun ws s3 ⟨ps,H3,I3,rel,q3⟩=>⟨(x,y)::ps,H3,I3,.cons ⟨rx,ry⟩ rel,q3⟩)
noncomputable def fX(kvs more:List (bo×V)):List (bo×V):=more.foldl (fun acc kv=>h_ acc kv.1 kv.2) kvs
def KV.merge:∀{more:List (bo×V)}{rs:List (bo×Value)}{kvs:List (bo×V)}{vs:List (bo×Value)},KV more rs->KV kvs vs->KV (fX kvs more) (merged vs rs):=by
 intro more rs kvs vs r
 unfold KV at r
 induction r generalizing kvs vs with
 |nil=>intro q;exact q
 |@cons p q ps qs h t ih=>
  intro r0
  have e:KV (h_ kvs p.1 p.2) (stored vs q.1 q.2):=by
   have:=r0.put p.1 h.2
   rw[<-h.1];exact this
  exact ih e
theorem fx:∀(more kvs:List (bo×V)),(fX kvs more).length<=kvs.length+more.length
 |[],kvs=>by show kvs.length<=kvs.length+0;omega
 |p::r,kvs=>by
  have h1:=fx r (h_ kvs p.1 p.2)
  have h2:=ie kvs p.1 p.2
  show(fX (h_ kvs p.1 p.2) r).length<=_
  rw[V1];omega
theorem m4{P:Program}{w:World}:∀{kvs:List (bo×V)}{ws:List (Value×Value)},VV (kvs.map fun kv=>(kV kv.1,kv.2)) ws->∃rs,Carries (ba P w) ws rs/\KV kvs rs
 |[],_,r=>by rw[Wr]at r;cases r;exact⟨[],True.intro,.nil⟩
 |p::kvs,_,r=>by
  rw[VT]at r
  cases r with
  |@cons a b as bs h t=>
   obtain⟨rs,c,q⟩:=m4 (P:=P) (w:=w) t
   obtain⟨b1,b2⟩:=b
   exact⟨(p.1,b2)::rs,⟨mf h.1,rfl,c⟩,.cons ⟨rfl,h.2⟩ q⟩
def GD(NS:List (TE×TE)):TE:=fun σ H Q=>∀p,H p=none->qF NS σ (upd H p (.dK [])) fun ps H2=>H2 p=some (.dK [])/\∃kvs:List (bo×V),ps=kvs.map (fun kv=>(kV kv.1,kv.2))/\kvs.length<=15/\Q (.ref p) (upd H2 p (.dK (fX [] kvs)))
def Bh{X:Cx}{pos:Pos}{keys:List (Option Expr)}{values:List Expr}{NS:List (TE×TE)}(h:GC X pos keys values NS)(hall:keys.all (·.isSome)=true)(hl:keys.length=values.length)(h0:keys≠[])
  (SN:keys.length<=15):PE X (.Dict keys values pos) (GD NS):=by
 intro pins s σ H Q I q
 have hn:=I.hok.fresh (VM s.heap.objs.size)
 have I1:=I.laid (a:=s.heap.objs.size) (o:=.dK []) (h':=s.heap.push { cls:=.type "dict",data:=.dict #[] }) (t':=s.toks) (fun _ _ q=>VJ _ q) (VM _) (sE s.heap I.big)
 refine wpAny_Dict_walk (knd:=ba X.prog X.w) hall hl h0 SN (J9 (h pins _ σ _ _ I1 (q _ hn)) fun ws s2 ⟨ps,H2,I2,rel,e,kvs,ep,lk,q2⟩=>?_)
 subst ep
 obtain⟨rs,c,rk⟩:=m4 (P:=X.prog) (w:=X.w) rel
 obtain⟨z,hd,vs0,r0,dd⟩:=C9 I2.hok e
 cases r0
 refine⟨rs,c,dd,fun h' Q7 hs=>⟨.ref s.heap.objs.size,_,?_,rfl,q2⟩⟩
 have hz:(fX [] kvs).length<=sizeLine:=by
  have h1:=fx kvs []
  rw[Wn]at h1
  rw[sizeLine_eq];omega
 have he:∃q,h'.get? s.heap.objs.size=some q:=let ⟨q,_,_,hq,_⟩:=Q7;⟨q,hq⟩
 exact qE I2 (by rw[e];exact True.intro) hs he (yn hz hd (rk.merge .nil) Q7)
structure M2(X:Cx)(o:Expr)(m:Str)(apos:Pos)(e f:Expr)(cpos:Pos):Prop where
 base:attributeBase o m X.env (eval o X.env)=eval o X.env
 few:((backTo cpos (starEach [e,f] X.env)).all (fun x=>!x.1)&&(backToKw cpos (keywordEach [] X.env)).all (fun x=>x.1.isSome)
  && decide (([e,f]:List Expr).length+([]:List Keyword).length+(if ([]:List Keyword).isEmpty then 0 else 1) < 30))=true
 line:(apos.endLine == cpos.line)=true
 trees:backTo cpos (starEach [e,f] X.env)=[(false,eval e X.env),(false,eval f X.env)]
end L2
namespace Att
open PySem PySem.W PySem.Calls PyProof.Rows
def mH{P:Params}{h:Heap}:∀(ns:Zw)(vs:Zx),WellAll P h vs (ns.map WData.int)->IntsAre vs ns:=by
 intro ns
 induction ns with
 |nil=>
  intro vs w
  rw[Wr]at w
  cases w
  exact .nil
 |cons n ns ih=>
  intro vs w
  rw[VT]at w
  cases w with
  |cons a b=>
   cases a
   exact .cons _ _ (ih _ b)
def wH{l:OpenLaw}{n:Nat}(hn:l.most=some n){P:Params}{h:Heap}{args:List WData}{vals:Zx}
  (hpre:l.row.toRowW.claim.pre args=true) (hwl:WellAll P h vals args) :
  ∃a vs ns,vals=[Value.ref a]/\args=[WData.list (ns.map WData.int)]/\h.get? a=some { cls:=.type "list",data:=.seq vs.toArray }/\IntsAre vs ns/\ns.length<=n:=by
 have hsh:WShape.hasAll [] args [.list .int]=true:=(pre_splitW hpre).1
 have hc:l.pre.holds [] { args:=args }=true:=(pre_splitW hpre).2
 obtain⟨d,r,rfl,h1,h2⟩:=hasAllW_cons hsh
 obtain rfl:=hasAllW_nil h2
 obtain⟨xs,rfl,h3⟩:=hasW_list h1
 obtain⟨ns,rfl⟩:=items_int h3
 have hlen:ns.length<=n:=by
  unfold OpenLaw.pre at hc
  have h4:(WTm.not (.lt (.lit (.int (n:Int))) (.len (.arg 0)))).holds [] { args:=[.list (ns.map .int)] }=true:=by
   have h4:=(holds_andW hc).1
   rw[hn]at h4
   exact h4
  have h5:=condW_of h4 (w_not (w_lt w_lit (w_len_list (w_arg rfl))))
  rw[VI]at h5
  refine Nat.le_of_not_lt fun q=>?_
  have q':(n:Int) < ((ns.length:Nat):Int):=by omega
  first
   |(rw[Wu q']at h5;exact absurd h5 (by decide))
   |(simp at h5;omega)
 cases hwl with
 |cons w1 w2=>
  cases w2
  cases w1 with
  |list ho hall=>exact⟨_,_,ns,rfl,rfl,ho,mH ns _ hall,hlen⟩
def wI(l:OpenLaw)(args:List WData):l.row.toRowW.claim.post args (.bool true) args=true:=
 postW_of (r:=l.row.toRowW) (X:=(true == true))
  (show WShape.has [] (.bool true) .bool=true by first|rfl|decide|simp[WShape.has,WShape.arms,WShape.armsAll])
  (show(WTm.eq .res (.lit (.bool true))).value [] { args:=args,res:=some (.bool true),after:=args }=some (.bool (true == true))from w_eq_bool (w_res rfl) w_lit) rfl
def sF{l:OpenLaw}{n:Nat}{q:Program}{loose:Zs}{XP:(Zr)->Heap->Prop}{YP:World->Heap->Prop}{d:DefRec}
  (hn:l.most=some n) (hdf:d.params.defaults=[])
  (call:∀(w:World)(s₀ s₁:Shared)(mg mb:Zr)(fa:Addr)(o:Obj)(pm cd doc:Value)(a:Addr)(vs:Zx)(ns:Zw),
   Ground q loose [] XP w s₀ mg mb s₁.heap->YP w s₁.heap->
   s₁.heap.get? fa=some o->o.data = .func (docDef d.name d.params d.body d.scope pm cd doc)->s₁.heap.CodeRec cd d.name->mg d.name=some (.ref fa)->
   s₁.heap.get? a=some { cls:=.type "list",data:=.seq vs.toArray }->IntsAre vs ns->ns.length<=n->s₁.gens=#[]->
   codeAny (model l.prog w) callerA (.call (.ref fa) ⟨[.ref a],[]⟩) (fun r s'=>r = .ok (.ret (.bool true))/\OldK s₁.heap s'.heap/\s'.os=s₁.os/\AllBare s'.gens) s₁) :
  WalkO q loose XP YP l.row.toRowW d [] (fun f vs=>PySem.call f vs):=by
 intro w s₀ s₁ mg mb G Y fa o pm cd doc dV kV ho hd hcd hD hmg hg args vals as hpre hlay hrd hwl hlo
 obtain rfl:dV = .none:=Dflts.none hD hdf
 obtain rfl:kV = .none:=Dflts.noKw hD
 obtain⟨a,vs,ns,rfl,rfl,hobj,hints,hlen⟩:=wH hn hpre hwl
 refine enter_call (codeAny_mono (call w s₀ s₁ mg mb fa o pm cd doc a vs ns G Y ho (fd_plain hd) hcd hmg hobj hints hlen hg) fun r s' hq=>?_)
 obtain⟨rfl,h2,h3,h4⟩:=hq
 exact⟨.inl ⟨.bool true,.bool true,[],rfl,fun _=>rfl,.bool true,wI l _,fun _=>⟨List.Pairwise.nil,fun _ hm=>(nomatch hm)⟩⟩,h2,h3,h4⟩
end Att
namespace L2
open PySem PySem.Spec PyProof.Rows
theorem pO:∀{vs:Zx}{ns:Zw},IntsAre vs ns->Vals (ns.map V.int) vs
 |_,_,.nil=>.nil
 |_,_,.cons n t h=>.cons ⟨t,rfl⟩ (pO h)
def Bi(H:Hp):Prop:=∀b,H b=none\/∃o xs,H b=some (.frz o (.lst xs))
def yp{P:Program}{w:World}{K:Zo}{mg mb:Zr}{CX:AM}{k:Nat}{fa a:Addr}{fd:FuncData}{x:Str}{sp:Sp}{s₁:Shared}{vs:Zx}{ns:Zw}
  (KX:K.In s₁.heap) (hns:s₁.heap.Ns mainGlobals mg) (hb:s₁.heap.Ns builtinsNs mb) (UF:∀x:Str,x ≠ "__name__"->mb x=bootBuiltins x) (hlim:s₁.heap.NoLimit) (hg:s₁.gens=#[])
  (ha:s₁.heap.get? a=some { cls:=.type "list",data:=.seq vs.toArray }) (hi:IntsAre vs ns) (hl:ns.length<=sizeLine) (hr:Room k callerA)
  (F:∀base:Heap,K.In base->base.Ns mainGlobals mg->oP P w K mg base CX k fa fd [x] sp) (hbind:∀(s:Shared)(u:Value),BindsTo s fd ⟨[u],[]⟩ [(x,u)])
  (Qh:∀H:Hp,Bi H->SqL K H a (ns.map V.int)->sp [.ref a] H (fun v _=>v = .bl true) fun _ _ _=>False)
  (SQ:∀H e s',CX [] H s₁ (fun _ _ _=>False) e s'->False) :
  codeAny (model P w) callerA (.call (.ref fa) ⟨[.ref a],[]⟩) (fun r s'=>r = .ok (.ret (.bool true))/\OldK s₁.heap s'.heap/\s'.os=s₁.os/\AllBare s'.gens) s₁:=by
 have rv:=pO hi
 have SR:=hi.length
 -- from an abstract heap in which nothing but the script may be tracked
 have core:∀H:Hp,Bi H->SqL K H a (ns.map V.int)->MS P w H s₁.heap->(∀b,H b≠none->b=a)->(H a≠none->K.lookup a=none)->
   codeAny (model P w) callerA (.call (.ref fa) ⟨[.ref a],[]⟩) (fun r s'=>r = .ok (.ret (.bool true))/\OldK s₁.heap s'.heap/\s'.os=s₁.os/\AllBare s'.gens) s₁:=by
  intro H hO hS hok hA hK
  have Pv:∀{b:Addr}{o:Obj},s₁.heap.get? b=some o->H b=none->(qy s₁.heap H).get? b=some o:=fun e n=>xW e n
  have RB:∀{b:Addr}{o:Obj}{es:Array DictEntry}{ep:Nat},s₁.heap.get? b=some o->o.data = .dict es ep->H b=none:=fun{b o es ep} e d=>by
   cases q:H b with
   |none=>rfl
   |some u=>
    have e':b=a:=hA b (by rw[q];simp)
    subst e'
    rw[ha]at e;cases e
    have d':Data.seq vs.toArray _=Data.dict es ep:=d
    cases d'
  have Se:∀{b:Addr}{m:Zr},s₁.heap.Ns b m->(qy s₁.heap H).Ns b m:=fun{b m} ⟨o,es,ep,e,d,r⟩=>⟨o,es,ep,Pv e (RB e d),d,r⟩
  have TY:K.In (qy s₁.heap H):=fun b o e=>Pv (KX b o e) (by
   cases q:H b with
   |none=>rfl
   |some u=>
    have e':b=a:=hA b (by rw[q];simp)
    subst e'
    rw[hK (by rw[q];simp)]at e;cases e)
  have hM:Mod K mg (qy s₁.heap H):=⟨TY,Se hns,⟨mb,Se hb,UF⟩,let ⟨mc,h1,h2⟩:=hlim;⟨mc,Se h1,h2⟩⟩
  have e0:A6 P w K mg (qy s₁.heap H) callerA [] s₁ H:=⟨rfl,hM,fun b o e=>AQ e,Ze (wu _ _),trivial,fun b hb=>absurd (show b∈([]:List Addr)from hb) (by simp),hok,.of_eq hg⟩
  refine codeAny_mono ((F _ TY (Se hns)).run callerA [] s₁ H ⟨[.ref a],[]⟩ [.ref a] [.ref a] _ _ hr e0 (hbind s₁ (.ref a)) (.cons rfl .nil) (Qh H hO hS)) fun r s' h=>?_
  cases r with
  |error e=>exact(SQ H e s' h).elim
  |ok fl=>
   cases fl with
   |next=>exact False.elim h
   |brk=>exact False.elim h
   |cont=>exact False.elim h
   |ret u=>
    obtain⟨v,H',os,bare,un,SS,r',q⟩:=h
    have q':v = .bl true:=q
    subst q'
    obtain rfl:u=Value.bool true:=r'
    refine⟨rfl,OldK.of_keep fun b o e=>?_,os,bare⟩
    cases q:H b with
    |none=>exact un.keep b o e q (by intro z;exact absurd (show b∈([]:List Addr)from z) (by simp)) (by simp)
    |some u=>
     rcases hO b with z|⟨ob,xs,z⟩
     ·rw[q]at z;cases z
     ·have z2:=un.Oj b ob _ z
      obtain⟨e1,_⟩:=hok b _ z
      obtain⟨e2,_⟩:=SS b _ z2
      rw[e]at e1;cases e1
      exact e2
 cases hk:K.lookup a with
 |some o=>
  -- the script is one of the module's own objects
  have e:=KX a o hk
  rw[ha]at e
  cases e
  refine core (fun _=>none) (fun _=>.inl rfl) (.inr ⟨_,vs.toArray,_,hk,rfl,rfl,rfl,by rw[VQ,SR];exact hl,by simpa using rv⟩) (fun b u z=>by have z':(none:Option HO)=some u:=z;cases z') (fun b z=>absurd rfl z) fun z=>absurd rfl z
 |none=>
  refine core (fun b=>if b=a then some (.frz { cls:=.type "list",data:=.seq vs.toArray } (.lst (ns.map V.int))) else none) (fun b=>?_) (.inl (.inr ⟨{ cls:=.type "list",data:=.seq vs.toArray },if_pos rfl⟩)) (fun b u z=>?_) (fun b z=>?_) fun _=>hk
  ·by_cases hb:b=a
   ·exact .inr ⟨_,_,if_pos hb⟩
   ·exact .inl (if_neg hb)
  ·by_cases hb:b=a
   ·have z':=(if_pos hb).symm.trans z
    cases z'
    subst hb
    exact⟨ha,by rw[VI];exact hl,vs,_,rv,ha⟩
   ·have z':=(if_neg hb).symm.trans z
    cases z'
  ·by_cases hb:b=a
   ·exact hb
   ·exact absurd (if_neg hb) z
def Bj{l:PySem.W.OpenLaw}{n k:Nat}{q:Program}{loose:Zs}{XP:(Zr)->Heap->Prop}{YP:World->Heap->Prop}{d:DefRec}{K:Params->PySem.W.Frag}{CX:World->AM}{sp:World->Sp}{x:Str}
  (hn:l.most=some n) (hn2:n<=sizeLine) (hdf:d.params.defaults=[]) (hr:Room k callerA)
  (hY:∀(w:World)(h:Heap),YP w h->(K w.params).In h)
  (F:∀(w:World)(mg:Zr)(fa:Addr)(h:Heap),(K w.params).In h->h.Ns mainGlobals mg->mg d.name=some (.ref fa)->
   ∃fd:FuncData,(∀(s:Shared)(u:Value),BindsTo s fd ⟨[u],[]⟩ [(x,u)])/\
    ∀base:Heap,(K w.params).In base->base.Ns mainGlobals mg->oP l.prog w (K w.params) mg base (CX w) k fa fd [x] (sp w))
  (Qh:∀(w:World)(H:Hp)(a:Addr)(ns:Zw),ns.length<=n->Bi H->SqL (K w.params) H a (ns.map V.int)->sp w [.ref a] H (fun v _=>v = .bl true) fun _ _ _=>False)
  (SQ:∀(w:World) (H:Hp) (s:Shared) (e:Value) (s':Shared),CX w [] H s (fun _ _ _=>False) e s'->False) :
  PySem.W.WalkO q loose XP YP l.row.toRowW d [] (fun f vs=>PySem.call f vs):=by
 refine Att.sF hn hdf fun w s₀ s₁ mg mb fa o pm cd doc a vs ns G Y ho hd hcd hmg hobj hints hlen hg=>?_
 have KX:=hY w _ Y
 obtain⟨fd,hb,hF⟩:=F w mg fa _ KX G.T.g hmg
 exact yp KX G.T.g G.T.b G.T.builtins G.T.nolimit hg hobj hints (VU hlen hn2) hr hF hb (fun H hO hS=>Qh w H a ns hlen hO hS) fun H e s'=>SQ w H s₁ e s'
noncomputable def b_(s:Stmt):Arguments:=match s with
 | .FunctionDef _ a _ _ _ _ _ _ _ _=>a
 |_=>{ posonlyargs:=[],args:=[],vararg:=none,kwonlyargs:=[],kw_defaults:=[],kwarg:=none,defaults:=[] }
noncomputable def bp(s:Stmt):List Stmt:=match s with
 | .FunctionDef _ _ b _ _ _ _ _ _ _=>b
 |_=>[]
noncomputable def aL(s:Stmt):Scope:=match s with
 | .FunctionDef _ _ _ _ _ _ sc _ _ _=>sc
 |_=>{ kind:=.function,names:=[],isGenerator:=false,isCoroutine:=false }
noncomputable abbrev AN:AM:=fun _ _ _ _ _ _=>False
noncomputable abbrev E0:XK:=fun _ _ _=>False
def C_{X:Cx}:uk AN X E0:=fun _ _ _ _ _ _ _ h=>h.elim
structure QN(K:Zo)(x qual:Str)(st:Stmt)(f:Addr)(fd:FuncData):Prop where
 ex:∃(oc:Value)(od:Option Addr)(kV doc pm:Value)(an:Option Addr)(cdv ct:Value)(osl:Array (Option Value)),
  fd=PySem.W.fnOf x qual (b_ st) (bp st) (aL st) .none kV doc pm an cdv ct/\K.lookup f=some ⟨oc,od,.func fd,osl⟩/\PySem.W.codeIn K cdv qual=true
 kp:PySem.W.keepIn K (.ref f)=true
section
variable {P:Program}{w:World}{K:Zo}{mg:Zr}{base:Heap}
def QN.ok{x qual:Str}{st:Stmt}{f:Addr}{fd:FuncData}{N ps:Zs}{k:Nat}{sp:Sp}(F:QN K x qual st f fd)(S:eu N ps (aL st))(len:∀vs H Q E,sp vs H Q E->vs.length=ps.length)
  (hbody:∀(cdv:Value)(A:Around)(outer:List Env)(s:Shared)(H:Hp)(vs:List V)(Q:VK)(E:XK),Room k (A.deeper (envOfC qual (aL st) s.heap.objs.size f cdv))->sp vs H Q E->
   ∃t,OO (sy AN P w K mg base N qual (aL st) f cdv A outer s H E).Q0 (bp st) t/\t { nx:=fun _ H'=>Q .non H',rt:=Q } (gV N vs) H):oP P w K mg base AN (k+1) f fd ps sp:=by
 obtain⟨oc,od,kV,doc,pm,an,cdv,ct,osl,rfl,lk,hcd⟩:=F.ex
 refine C7 lk hcd S len fun A outer s H vs Q E hr Qh=>?_
 obtain⟨t,h,q⟩:=hbody cdv A outer s H vs Q E hr Qh
 exact⟨t,h.Q0,q⟩
def QN.binds{x qual:Str}{st:Stmt}{f:Addr}{fd:FuncData}{ps:Zs}(F:QN K x qual st f fd)
  (h:∀(kV doc pm:Value)(an:Option Addr)(cdv ct:Value)(us:Zx),us.length=ps.length->bindArgs (PySem.W.fnOf x qual (b_ st) (bp st) (aL st) .none kV doc pm an cdv ct) ⟨us,[]⟩=pure (ps.zip us)):Binds K fd ps []:=by
 obtain⟨oc,od,kV,doc,pm,an,cdv,ct,osl,rfl,lk,hcd⟩:=F.ex
 exact .all (h kV doc pm an cdv ct)
def qG{x qual:Str}{st:Stmt}{f:Addr}{oc:Value}{od an:Option Addr}{osl:Array (Option Value)}{kV doc pm cdv ct:Value}(l:K.lookup f=some ⟨oc,od,.func (PySem.W.fnOf x qual (b_ st) (bp st) (aL st) .none kV doc pm an cdv ct),osl⟩)
  (c:PySem.W.codeIn K cdv qual=true) (k:PySem.W.keepIn K (.ref f)=true):QN K x qual st f (PySem.W.fnOf x qual (b_ st) (bp st) (aL st) .none kV doc pm an cdv ct):=⟨⟨oc,od,kV,doc,pm,an,cdv,ct,osl,rfl,l,c⟩,k⟩
end
def fK{n:Nat}(h:n<=1000):n < sizeLine:=Wy h (by decide)
section
variable {X:Cx}
def wJ:fc X (.builtin "len") (fun xs H Q=>∃a kvs,xs=[V.ref a]/\H a=some (.dK kvs)/\Q (.int kvs.length) H):=by
 intro pins s σ H xs us Q I r h
 obtain⟨a,kvs,rfl,ha,q⟩:=h
 obtain⟨u,rfl,ru⟩:=eI r
 cases ru
 exact GB I (.inl ha) fun t s' I'=>⟨.int kvs.length,H,I',⟨t,rfl⟩,q⟩
end
end L2
set_option maxHeartbeats 4000000
namespace L2
open PySem PySem.Spec PyProof.Rows
def qH{prog:Program}{w:World}{A:Around}{R:Result->Shared->Prop}{s:Shared}{elt target iter:Expr}{ifs:List Expr}{scope:Scope}{pos:Pos}{it acc:Value}{env:Env}(I:Nat->Shared->Prop)
  (turn:∀n s,I n s->wpAny (model prog w) A (pyNext it) (fun r s₁=>match r with
   |none=>R (.ok .next) s₁
   |some v=>wpAny (model prog w) A (letOwnedTupleGo target it v) (fun _ s₁'=>wpAny (model prog w) A (assign target env v) (fun _ s₂=>
     wpAny (model prog w) A (forIn ifs true fun c r=>if r=true then do let ok <-isTrue c env (eval c env);pure (ForInStep.yield ok) else pure (ForInStep.yield r)) (fun ok s₃=>
      if ok=true then wpAny (model prog w) A (eval elt env) (fun x s₄=>
       wpAny (model prog w) A (call (.builtin "list.append") [acc,x]) (fun _ s₅=>∃m,m < n/\I m s₅) (fun _ _=>False) s₄) (fun _ _=>False) s₃
      else ∃m,m < n/\I m s₃) (fun _ _=>False) s₂) (fun _ _=>False) s₁') (fun _ _=>False) s₁) (fun _ _=>False) s)
  (n:Nat) (h:I n s) :
  codeAny (model prog w) A (.compLoop (.ListComp elt [⟨target,iter,ifs,0⟩] scope pos) 0 it acc env) R s:=by
 refine codeAny_loop rfl I (fun n s hI=>?_) n h
 show wpAny _ A ((compTurn (.ListComp elt [⟨target,iter,ifs,0⟩] scope pos) 0 it acc env).onRaise (fun x=>do noteFrame x env;theTreesLotGoes x)) _ _ s
 refine wpAny_noted ?_
 rw[compTurn_list]
 refine VG (wpAny_standAt (VG (Yp (turn n s hI) (fun r s₁ h₁=>?_) fun _ _ h'=>h'.elim)))
 cases r with
 |none=>exact VP h₁
 |some v=>
  refine VG (Yp h₁ (fun _ s₁' h₁'=>?_) fun _ _ h'=>h'.elim)
  refine VG (Yp h₁' (fun _ s₂ h₂=>VG (Yp h₂ (fun ok s₃ h₃=>?_) fun _ _ h'=>h'.elim)) fun _ _ h'=>h'.elim)
  cases ok with
  |false=>exact VP ⟨rfl,h₃⟩
  |true=>
   exact VG (VG (Yp h₃ (fun x s₄ h₄=>VG (Yp h₄ (fun _ s₅ h₅=>VP (VP ⟨rfl,h₅⟩)) fun _ _ h'=>h'.elim)) fun _ _ h'=>h'.elim))
structure Bk where
 C:Addr
 s:Shared
 H:Hp
 fp:List Addr
 pn:Za
noncomputable def di(env:Env)(fs:Zs):List (Str×Addr):=fs.map fun x=>(x,(env.cells.lookup x).getD 0)
noncomputable abbrev Cx.MU(X:Cx)(N:Zs)(scope:Scope)(fs:Zs)(B:Bk):Cx:=
 { X with N:=N,s₀:=B.s,H₀:=B.H,env:=compEnvC scope (di X.env fs) B.C X.env,outer:=X.stack,ex:=B.fp,fn:=fun _=>false,pn:=B.pn,xe:=fun _ _=>False }
noncomputable def cM(env:Env):List Str->Prop
 |[]=>True
 |x::r=>(∃c,env.cells.lookup x=some c)/\cM env r
theorem mh{env:Env}:∀{fs:Zs},cM env fs->∀{x:Str}{c:Addr},(di env fs).lookup x=some c->env.cells.lookup x=some c
 |[],_,x,c,h=>by cases h
 |y::r,k,x,c,h=>by
  obtain⟨⟨d,hd⟩,k⟩:=k
  have h':List.lookup x ((y,(env.cells.lookup y).getD 0)::di env r)=some c:=h
  rw[List.lookup_cons]at h'
  cases e:x == y with
  |true=>
   rw[e]at h'
   have e':x=y:=by simpa using e
   subst e'
   rw[hd]at h'
   rw[hd]
   exact h'
  |false=>
   rw[e]at h'
   exact mh k h'
noncomputable def qI(names:List (Str×NameKind))(cl:List (Str×Addr)):Bool:=names.all fun y=>(y.2 != .cell&&y.2 != .free) || (cl.lookup y.1).isSome
def yq{names:List (Str×NameKind)}{cl:List (Str×Addr)}{x:Str}{k:NameKind}(h:qI names cl=true)(e:names.lookup x=some k)(hk:k = .cell\/k = .free):∃c,cl.lookup x=some c:=by
 have hm:(x,k)∈names:=XH e
 have q:=XQ.mp h _ hm
 have z:(cl.lookup x).isSome=true:=by
  rcases hk with rfl|rfl
  ·simpa using q
  ·simpa using q
 exact Option.isSome_iff_exists.mp z
noncomputable def Lp(env:Env)(scope:Scope)(cl:List (Str×Addr)):List Str->Prop
 |[]=>True
 |x::r=>((env.scope.names.lookup x=some .cell\/env.scope.names.lookup x=some .free)/\((relabel scope env).names.lookup x=some .cell\/(relabel scope env).names.lookup x=some .free)/\cl.lookup x=env.cells.lookup x)/\Lp env scope cl r
theorem Lp.mem{env:Env}{scope:Scope}{cl:List (Str×Addr)}:∀{l:Zs},Lp env scope cl l->∀x∈l,
  (env.scope.names.lookup x=some .cell\/env.scope.names.lookup x=some .free)/\((relabel scope env).names.lookup x=some .cell\/(relabel scope env).names.lookup x=some .free)/\cl.lookup x=env.cells.lookup x
 |[],_,x,h=>nomatch h
 |y::r,k,x,h=>by
  rcases VL.mp h with rfl|h
  ·exact k.1
  ·exact Lp.mem k.2 x h
noncomputable def fL(own:Nat)(fr:List Nat)(σ:St):St:=List.replicate own none++fr.map fun j=>(σ[j]?).getD none
noncomputable abbrev li(us:Zx):Obj:={ cls:=.type "list",data:=.seq us.toArray us.length }
def wK(us:Zx)(u:Value):({ cls:=.type "list",data:=.seq (us.toArray.push u) (us.length+1) }:Obj)=li (us++[u]):=by
 show({ cls:=.type "list",data:=.seq (us.toArray.push u) (us.length+1) }:Obj)={ cls:=.type "list",data:=.seq (us++[u]).toArray (us++[u]).length }
 rw[VH,V0,List.push_toArray]
section
variable {X:Cx}{pins:Za}{σ:St}{H:Hp}{s:Shared}
def Inv.RD{D:Addr}{us:Zx}{n:Nat}{ys:List V}(I:Inv X pins σ H s)(f:fV X pins H D)(e:s.heap.get? D=some { cls:=.type "list",data:=.seq us.toArray n })(r:Vals ys us)(hz:ys.length<=sizeLine) :
  Inv X pins σ (upd H D (.lst ys)) s:=by
 obtain⟨f0,f1,f2,f3,f4,f5⟩:=f
 have nD:∀b u,H b=some u->b≠D:=fun b u q=>bw q f0
 have hok:MS X.prog X.w (upd H D (.lst ys)) s.heap:=fun b u q=>by
  by_cases hb:b=D
  ·subst hb
   rw[aH]at q
   cases q
   exact⟨hz,us,n,r,e⟩
  ·rw[aM hb]at q
   exact(I.hok b u q).stay (fun _ _ _ z=>z) (fun c z=>by rw[aM (nD c _ z)];exact z) fun c xs z=>by rw[aM (nD c _ z)];exact z
 exact I.step (H':=upd H D (.lst ys)) (h':=s.heap) (g':=s.gens) (t':=s.toks) (d':=s.drawn) (ch:=[D])
  (fun b hb=>by
   have z:b=D:=by simpa using hb
   subst z
   exact⟨f3,f1,f4,f5⟩)
  (fun _ _ _ _ _ q _=>q) (fun _ o _ _ _ q _=>⟨o.slots,q⟩)
  (fun b o hb _ n=>by rw[aM (fun z=>hb (by simp[z]))];exact n)
  (fun _ o _ q=>⟨o,q⟩) (fun b xs q=>by rw[aM (nD b _ q)];exact q) (fun b o u q=>by rw[aM (nD b _ q)];exact q)
  (fun b ps q=>⟨#[],by rw[aM (nD b _ q),q];simp⟩) (fun _ q=>q) hok I.bare
def En{N:Zs}{scope:Scope}{fs:Zs}{C:Addr}{fp:List Addr}(I:Inv X pins σ H s)(hkind:scope.kind = .function)(hC:s.heap.objs.size<=C)(hcl:cM X.env fs)
  (hhas:qI (relabel scope X.env).names (di X.env fs)=true) (hf:∀b∈fp,fV X pins H b) (hlt:∀b∈fp,b < s.heap.objs.size):(X.MU N scope fs ⟨C,s,H,fp,X.pn++pins⟩).Ok where
 mod:=I.ok.mod
 kind:=hkind
 glob:=I.ok.glob
 blt:=I.ok.blt
 above:=hC
 inj:=fun x y c h1 h2=>I.ok.inj x y c (mh hcl h1) (mh hcl h2)
 has:=fun x hx=>by
  rcases hx with e|e
  ·exact yq hhas e (.inl rfl)
  ·exact yq hhas e (.inr rfl)
 Ro:=fun x c h=>by cases h
 hd:=I.ok.hd
 frames:=I.ok.frames
 stk:=.inl rfl
 SE:=fun b hb=>⟨Wa (V7 (hlt b hb) hC),fun x c e=>(hf b hb).2.2.2.2.1 x c (mh hcl e)⟩
 bs:=I.bs
 Qn:=VU I.ok.Qn I.sz
 PC:=fun b o e hb=>(hf b hb).2.2.2.1.elim (fun z=>I.ok.PC b o e z) fun z=>absurd (V7 (VR e) (VU I.ok.Qn z)) (Xw _)
 PX:=fun b hb z=>(VL.mp (I.Nq b z)).elim (hf b hb).2.1 (hf b hb).2.2.1
 NO:=I.stack
 QY:=I.Pt
def Bl{N:Zs}{scope:Scope}{fs:Zs}{C D:Addr}{fp:List Addr}{own:Nat}{fr:List Nat}{h₁:Heap}{m0:Zr}{t':Nat}(I:Inv X pins σ H s)
  (ok:(X.MU N scope fs ⟨C,s,H,fp,X.pn++pins⟩).Ok) (hC:s.heap.objs.size<=C) (hD:s.heap.objs.size<=D) (hDC:D≠C) (hcl:cM X.env fs)
  (old:∀b o,s.heap.get? b=some o->h₁.get? b=some o) (hns:h₁.Ns C m0) (hacc:h₁.get? D=some (li [])) (hlen:N.length=own+fr.length) (hN:(N.drop own).map some=fr.map fun j=>X.N[j]?)
  (hF:Lp X.env scope (di X.env fs) (N.drop own)) :
  Inv (X.MU N scope fs ⟨C,s,H,fp,X.pn++pins⟩) [(D,li [])] (fL own fr σ) H { s with heap:=h₁,toks:=t' }:=by
 refine⟨ok,rfl,I.bare,Un.kept old,⟨m0,hns,fun i x v e1 e2 e3=>?_⟩,fun x c e=>?_,I.hok.fresh hC,fun x c e=>I.MC x c (mh hcl e),fun p hp=>?_,I.hok.kept old,?_⟩
 ·have e1:N[i]?=some x:=e1
  by_cases hi:i < own
  ·unfold fL at e2
   rw[Ww (by rw[WQ];exact hi),Xk,if_pos hi]at e2
   cases e2
  ·obtain⟨k,rfl⟩:∃k,i=own+k:=⟨i - own,by omega⟩
   have e1':(N.drop own)[k]?=some x:=by rw[ZU];exact e1
   have q:=WW (fun l=>l[k]?) hN
   simp only[V2,e1',Option.map_some]at q
   unfold fL at e2
   rw[WA (by rw[WQ];omega),WQ,Nat.add_sub_cancel_left,V2]at e2
   cases hj:fr[k]? with
   |none=>rw[hj]at e2;cases e2
   |some j=>
    rw[hj]at e2 q
    simp only[Option.map_some,Z3]at e2 q
    have hσ:σ[j]?=some (some v):=by
     cases z:σ[j]? with
     |none=>rw[z]at e2;cases e2
     |some w=>rw[z]at e2;simp only[Option.getD_some]at e2;rw[e2]
    obtain⟨k1,k2,k3⟩:=hF.mem x (V6 e1')
    obtain⟨m,hn,hl⟩:=I.loc
    have vis:HN X.env.scope x:=by
     rcases k1 with z|z
     ·exact .inr (.inl z)
     ·exact .inr (.inr z)
    obtain⟨u,ru,l⟩:=hl j x v q.symm hσ vis
    rcases l with⟨hk,_⟩|⟨_,c,hc,o,ho,hd⟩
    ·have hk':X.env.scope.names.lookup x=some .local:=hk
     rcases k1 with z|z
     ·rw[z]at hk';cases hk'
     ·rw[z]at hk';cases hk'
    ·exact⟨u,ru,.inr ⟨k2,c,k3.trans hc,o,old _ _ ho,hd⟩⟩
 ·obtain⟨v,o,ho,hd⟩:=I.cell x c (mh hcl e)
  exact⟨v,o,old _ _ ho,hd⟩
 ·rcases VO.mp hp with z|z
  ·obtain⟨e,n,ne,nf,d⟩:=I.pin p z
   exact⟨old _ _ e,n,Wa (V7 (VR e) hC),fun q=>(VL.mp (I.Nq _ q)).elim ne nf,d⟩
  ·have z':p=(D,li []):=by simpa using z
   subst z'
   exact⟨hacc,I.hok.fresh hD,hDC,fun q=>(VL.mp (I.Nq _ q)).elim (fun e=>absurd e (Xx (V7 I.lt hD))) (I.Rx hD),fun v z=>by cases z⟩
 ·show(fL own fr σ).length=N.length
  unfold fL
  rw[VH,WQ,VI,hlen]
end
def PF(X:Cx)(ifs:List Expr)(t:TT):Prop:=
 ∀(pins:Za)(s:Shared)(σ:St)(H:Hp)(Q:Bool->Hp->Prop),Inv X pins σ H s->t σ H Q->
  wpAny (model X.prog X.w) X.A (forIn ifs true fun c r=>if r=true then do let ok <-isTrue c X.env (eval c X.env);pure (ForInStep.yield ok) else pure (ForInStep.yield r)) (TP X pins σ Q) X.xe s
def IK:TT:=fun _ H Q=>Q true H
def Eo{X:Cx}:PF X [] IK:=fun _ _ _ H _ I h=>wpAny_tests_nil ⟨H,I,h⟩
def Ep{X:Cx}{c:Expr}{t:TT}(h:PT X c t):PF X [c] t:=fun pins s σ H Q I q=>wpAny_tests_one (h pins s σ H Q I q)
def Dc(J:It)(g:TG)(tc:TT)(te:TE)(own:Nat)(σ':St)(fin:List V->Hp->Prop)(H1:Hp):Prop:=
 ∃W:Nat->Nat->List V->Hp->Prop,(∃m,W 0 m [] H1)/\∀i m ys H,W i m ys H->
  (J.stop i H/\ys.length<=sizeLine/\fin ys H) \/
  (J.go i H/\ys.length<=sizeLine/\∃Nx:List V->Hp->Prop,(∀ys' H',Nx ys' H'->∃m',m' < m/\W (i+1) m' ys' H')/\∀x H',J.Sd i H x H'->g x σ' H' fun σ2 H2=>σ2.drop own=σ'.drop own/\tc σ2 H2 fun b H3=>
   if b=true then te σ2 H3 fun y H4=>Nx (ys++[y]) H4 else Nx ys H3)
section
variable {X:Cx}{pins:Za}{σ:St}{H:Hp}{s:Shared}
variable {elt iter tg:Expr}{ifs:List Expr}{scope:Scope}{pos:Pos}{N:Zs}{own:Nat}{fr:List Nat}{fs:Zs}{g:TG}{tc:TT}{te:TE}
def m5{J:It}{fp:List Addr}{it:Addr}{tn:Nat->Heap->Prop}{fin:List V->Hp->Prop}{E:Zq}{RR:Value->Addr->Result->Shared->Prop}
  (hc:X.calm=true) (hcell:∀y∈scope.names,y.2 ≠ .cell) (hkind:scope.kind = .function) (hcl:cM X.env fs) (hhas:qI (relabel scope X.env).names (di X.env fs)=true)
  (hlen:N.length=own+fr.length) (hN:(N.drop own).map some=fr.map fun j=>X.N[j]?) (hF:Lp X.env scope (di X.env fs) (N.drop own))
  (hg:∀B,PG (X.MU N scope fs B) tg g) (hf:∀B,PF (X.MU N scope fs B) ifs tc) (he:∀B,PE (X.MU N scope fs B) elt te)
  (I:Inv X pins σ H s) (T:mV X.prog X.w X.K tg J fp it tn) (st:tn 0 s.heap) (f:∀b∈fp,fV X pins H b) (W:Dc J g tc te own (fL own fr σ) fin H)
  (hRR:∀D C s' ys H' m',Inv X pins σ (upd H' D (.lst ys)) s'->H' D=none->s'.heap.Ns C m'->fV X pins (upd H' D (.lst ys)) C->fin ys H'->RR (.ref D) C (.ok .next) s') :
  wpAny (model X.prog X.w) X.A (newList []) (fun acc s₃=>wpAny (model X.prog X.w) X.A (newFunctionEnv scope X.env.globals (di X.env fs) [] X.env.qual none .none (some X.env)) (fun cenv s₄=>
   codeAny (model X.prog X.w) X.A (.compStart (.ListComp elt [⟨tg,iter,ifs,0⟩] scope pos) 0 (.ref it) acc { cenv with scope:=relabel scope X.env }) (RR acc cenv.locals) s₄) E s₃) E s:=by
 refine W2 (wpAny_newFunctionEnv hcell (by intro y hy;simp at hy) (fun h₁ Q8 Qr=>?_) hkind)
 dsimp only at Q8 Qr ⊢
 generalize ST:s.heap.push { cls:=.type "list",dict:=none,data:=.seq ([]:Zx).toArray }=H2 at Q8 Qr ⊢
 have hC:H2.objs.size=s.heap.objs.size+1:=by rw[<-ST,W9]
 have Q9:s.heap.objs.size<=H2.objs.size:=by rw[hC];exact Nat.le_succ _
 have hDC:s.heap.objs.size≠H2.objs.size:=by rw[hC];exact Wa (Nat.lt_succ_self _)
 have below:∀b,b < s.heap.objs.size->b≠H2.objs.size/\b≠s.heap.objs.size:=fun b hb=>⟨by rw[hC];exact Wa (Nat.lt_succ_of_lt hb),Wa hb⟩
 have old:∀b o,s.heap.get? b=some o->h₁.get? b=some o:=fun b o e=>Qr.extBut b o (below b (VR e)).1 (VJ _ (ST▸VJ _ e))
 have hacc:h₁.get? s.heap.objs.size=some (li []):=Qr.extBut _ _ hDC (VJ _ (ST▸VY _ rfl))
 have hlt:∀b∈fp,b < s.heap.objs.size:=fun b hb=>by
  obtain⟨o,e,_⟩:=T.obj 0 _ st b hb
  exact VR e
 obtain⟨Wv,⟨m0,w0⟩,turn⟩:=W
 have ok:=En (N:=N) I hkind Q9 hcl hhas f hlt
 have loop:∀s₃:Shared,s₃={ s with heap:=h₁,toks:=s.toks+([]:List (Str×Value)).length }->
   codeAny (model X.prog X.w) X.A (.compLoop (.ListComp elt [⟨tg,iter,ifs,0⟩] scope pos) 0 (.ref it) (.ref s.heap.objs.size) (compEnvC scope (di X.env fs) H2.objs.size X.env))
    (RR (.ref s.heap.objs.size) H2.objs.size) s₃:=by
  rintro s₃ rfl
  have I0:=Bl (own:=own) (fr:=fr) (t':=s.toks+([]:List (Str×Value)).length) I ok Q9 (VM _) hDC hcl old Q8 hacc hlen hN hF
  have UG:tn 0 h₁:=T.keep 0 _ _ st fun b _ o e=>old b o e
  have stat:∀{us:Zx} {H':Hp},(∀b∈fp,H' b=none)->∀b∈fp,fV (X.MU N scope fs ⟨H2.objs.size,s,H,fp,X.pn++pins⟩) [(s.heap.objs.size,li us)] H' b:=fun{us H'} hn b hb=>by
   obtain⟨f0,f1,f2,f3,f4,f5⟩:=f b hb
   refine⟨hn b hb,(below b (hlt b hb)).1,fun z=>(VL.mp (I.Nq b z)).elim f1 f2,.inl hb,fun x c e=>f4 x c (mh hcl e),fun p hp=>?_⟩
   rcases VO.mp hp with z|z
   ·exact f5 p z
   ·have z':p=(s.heap.objs.size,li us):=by simpa using z
    subst z'
    exact Xl (below b (hlt b hb)).2
  have SU:∀p∈X.pn++pins,p.1 < s.heap.objs.size:=fun p hp=>VR (I.pin p hp).1
  refine qH (fun k s'=>∃i ys us H',Inv (X.MU N scope fs ⟨H2.objs.size,s,H,fp,X.pn++pins⟩) [(s.heap.objs.size,li us)] (fL own fr σ) H' s'/\Vals ys us/\tn i s'.heap/\(∀b∈fp,H' b=none)/\Wv i k ys H') ?_ m0
   ⟨0,[],[],H,I0,.nil,UG,fun b hb=>(f b hb).1,w0⟩
  rintro n s' ⟨i,ys,us,H',I',rv,st',TZ,w'⟩
  rcases turn i n ys H' w' with⟨stop,hz,SV⟩|⟨go,hz,Nx,T0,step⟩
  ·refine J9 (T.done (X.MU N scope fs ⟨H2.objs.size,s,H,fp,X.pn++pins⟩) rfl rfl rfl hc i _ s' _ H' (fun _ _=>False) I' (stat TZ) st' stop) (fun r s1 ⟨hr,I1⟩=>?_)
   subst hr
   show RR _ _ (.ok .next) s1
   have IX:Inv X pins σ H' s1:=I.RA I1.os I1.base I1.hok I1.bare fun b hb=>by
    obtain⟨f0,f1,f2,f3,f4,f5⟩:=f b hb
    exact⟨f3,f1,f4,f5⟩
   obtain⟨eD,nD,_⟩:=I1.pin (s.heap.objs.size,li us) (by simp)
   have IT:=IX.RD (I.M6 (H':=H') (VM _) nD) eD rv hz
   obtain⟨m',hn',_⟩:=I1.loc
   exact hRR _ _ s1 ys H' m' IT nD hn' (I.M6 Q9 (by rw[aM (Xl hDC)];exact I1.free)) SV
  ·refine J9 (T.item (X.MU N scope fs ⟨H2.objs.size,s,H,fp,X.pn++pins⟩) rfl rfl rfl hc i _ s' _ H' (fun _ _=>False) I' (stat TZ) st' go) (fun r s1 ⟨u,hr,h1⟩=>?_)
   subst hr
   show wpAny _ _ (letOwnedTupleGo tg (.ref it) u) _ _ s1
   refine J9 h1 (fun _ s5 ⟨x,H5,I5,r5,y5,Qo,SI⟩=>?_)
   have SJ:=I5.pinned (stat SI) (T.obj _ _ Qo)
   refine J9 (hg _ _ s5 _ H5 x u _ SJ r5 (step x H5 y5)) (fun _ s6 ⟨σ6,H6,I6,UH,q6⟩=>?_)
   refine J9 (hf _ _ s6 σ6 H6 _ I6 q6) (fun b s7 ⟨H7,I7,q7⟩=>?_)
   -- Q_ the turn's own names
   have forget:∀{H8:Hp}{s8:Shared}{pl:Za},Inv (X.MU N scope fs ⟨H2.objs.size,s,H,fp,X.pn++pins⟩) pl σ6 H8 s8->Inv (X.MU N scope fs ⟨H2.objs.size,s,H,fp,X.pn++pins⟩) pl (fL own fr σ) H8 s8:=fun{H8 s8 pl} I8=>by
    refine I8.weak (I0.len.trans I8.len.symm) fun j v e=>?_
    by_cases hj:j < own
    ·unfold fL at e
     rw[Ww (by rw[WQ];exact hj),Xk,if_pos hj]at e
     cases e
    ·obtain⟨k,rfl⟩:∃k,j=own+k:=⟨j - own,by omega⟩
     rw[<-ZU]at e ⊢
     rw[UH]
     exact e
   have Sf:∀{H8:Hp}{s8:Shared},Inv (X.MU N scope fs ⟨H2.objs.size,s,H,fp,X.pn++pins⟩) ([(s.heap.objs.size,li us)]++mW fp s5.heap) σ6 H8 s8->∀b∈fp,∀o,s5.heap.get? b=some o->s8.heap.get? b=some o/\H8 b=none:=fun I8 b hb o e=>
    let z:=I8.pin (b,o) (Wf _ (Wf _ (jA hb e)))
    ⟨z.1,z.2.1⟩
   cases b with
   |false=>
    show ∃m,m < n/\_
    obtain⟨m',hm,w7⟩:=T0 _ _ (show Nx ys H7 from q7)
    refine⟨m',hm,i+1,ys,us,H7,(forget I7).Nj,rv,T.keep _ _ _ Qo fun b hb o e=>(Sf I7 b hb o e).1,fun b hb=>?_,w7⟩
    obtain⟨o,e,_⟩:=T.obj _ _ Qo b hb
    exact(Sf I7 b hb o e).2
   |true=>
    show wpAny _ _ (eval elt _) _ _ s7
    have UI:te σ6 H7 fun y H4=>Nx (ys++[y]) H4:=q7
    refine J9 (he _ _ s7 σ6 H7 _ I7 UI) (fun v s8 ⟨y,H8,I8,r8,n8⟩=>?_)
    obtain⟨m',hm,w8⟩:=T0 _ _ n8
    obtain⟨eD,nD,T1,UJ,_⟩:=I8.pin (s.heap.objs.size,li us) (Wf _ (WU _ (by simp)))
    refine append_at (hsz:=by show us.toArray.size<=sizeLine;rw[VQ,<-rv.length];exact hz) eD fun h9 Sg UK=>?_
    have J0:Inv (X.MU N scope fs ⟨H2.objs.size,s,H,fp,X.pn++pins⟩) [] σ6 H8 s8:=I8.NR fun p hp=>nomatch hp
    have J1:Inv (X.MU N scope fs ⟨H2.objs.size,s,H,fp,X.pn++pins⟩) [] σ6 H8 { s8 with heap:=h9 }:=J0.turned (t':=s8.toks) (it:=s.heap.objs.size) (fun b o hb e=>(Sg.2 b hb).trans e) nD T1 (.inr (VM _))
     (fun x c e z=>by
      obtain⟨v',q⟩:=I.cell x c (mh hcl e)
      exact absurd (V7 q.lt (by rw[z];exact VM _)) (Xw _))
     (fun p hp=>by
      rw[Wh]at hp
      exact Wa (SU p hp))
    have J2:Inv (X.MU N scope fs ⟨H2.objs.size,s,H,fp,X.pn++pins⟩) [(s.heap.objs.size,li (us++[v]))] σ6 H8 { s8 with heap:=h9 }:=J1.NR fun p hp=>by
     have z':p=(s.heap.objs.size,li (us++[v])):=by simpa using hp
     subst z'
     exact⟨UK.trans (WW some (wK us v)),nD,T1,UJ,fun v z=>by cases z⟩
    refine⟨m',hm,i+1,ys++[y],us++[v],H8,forget J2,Vals.append rv (.cons r8 .nil),T.keep _ _ _ Qo fun b hb o e=>(Sg.2 b (below b (hlt b hb)).2).trans (Sf I8 b hb o e).1,fun b hb=>?_,w8⟩
    obtain⟨o,e,_⟩:=T.obj _ _ Qo b hb
    exact(Sf I8 b hb o e).2
 exact codeAny_compStart_list (loop _ rfl) (T.self _ 0 _ _ _ (T.keep 0 _ _ st fun b _ o e=>old b o e) (loop _ rfl))
def yr(wi:TI)(g:TG)(tc:TT)(te:TE)(own:Nat)(fr:List Nat):TE:=fun σ H Q=>wi σ H fun J H1=>
 Dc J g tc te own (fL own fr σ) (fun ys H2=>∀D,H2 D=none->Q (.ref D) (upd H2 D (.lst ys))) H1
def Bm(fs:Zs)(own:Nat)(fr:List Nat)(N:Zs){wi:TI}(hc:X.calm=true)(hclos:closureFor scope X.env=pure (di X.env fs))(hcell:∀y∈scope.names,y.2 ≠ .cell)(hkind:scope.kind = .function)
  (hnames:∀x∈scope.names,x.2 = .local->scope.names.lookup x.1=some .local) (hcl:cM X.env fs) (hhas:qI (relabel scope X.env).names (di X.env fs)=true)
  (hlen:N.length=own+fr.length) (hN:(N.drop own).map some=fr.map fun j=>X.N[j]?) (hF:Lp X.env scope (di X.env fs) (N.drop own))
  (hi:PI X tg iter wi) (hg:∀B,PG (X.MU N scope fs B) tg g) (hf:∀B,PF (X.MU N scope fs B) ifs tc) (he:∀B,PE (X.MU N scope fs B) elt te)
  (hs:∀x,foldedSetIterable iter X.env x=pure x:=by intro _;rfl):PE X (.ListComp elt [⟨tg,iter,ifs,0⟩] scope pos) (yr wi g tc te own fr):=by
 intro pins s σ H Q I h
 rw[eval_ListComp]
 refine wpAny_comprehension_free (use:=none) (g:=⟨tg,iter,ifs,0⟩) (gs:=[]) rfl hs hclos hkind hnames (J9 (hi pins s σ H _ I h) fun v s1 h1=>J9 h1 fun itv s2 h2=>?_)
 obtain⟨it,fp,tn,J,H2,e,I2,T,st2,f2,W⟩:=h2
 subst e
 refine m5 (RR:=fun acc C=>compPost (model X.prog X.w) X.A X.xe none (EP X pins σ Q) acc C) hc hcell hkind hcl hhas hlen hN hF hg hf he I2 T st2 f2 W ?_
 intro D C s' ys H' m' I' nD hn fC fin
 exact⟨m',hn,fun h' hs'=>⟨.ref D,_,I'.turned (t':=s'.toks) (fun b o hb e=>(hs'.2 b hb).trans e) fC.1 fC.2.1 fC.2.2.2.1 fC.2.2.2.2.1 fC.2.2.2.2.2,rfl,fin D nD⟩⟩
def Bn(fs:Zs)(own:Nat)(fr:List Nat)(N:Zs){wi:TI}{i:Nat}{y:Str}{py spos:Pos}(hX:X.N.Nodup)(hix:X.N[i]?=some y)(hy:X.env.scope.names.lookup y=some .local)
  (hsw:swapsWith (.ListComp elt [⟨tg,iter,ifs,0⟩] scope pos) (some (.Name y py)) spos.line X.env=pure true)
  (hc:X.calm=true) (hclos:closureFor scope X.env=pure (di X.env fs)) (hcell:∀y∈scope.names,y.2 ≠ .cell) (hkind:scope.kind = .function)
  (hnames:∀x∈scope.names,x.2 = .local->scope.names.lookup x.1=some .local) (hcl:cM X.env fs) (hhas:qI (relabel scope X.env).names (di X.env fs)=true)
  (hlen:N.length=own+fr.length) (hN:(N.drop own).map some=fr.map fun j=>X.N[j]?) (hF:Lp X.env scope (di X.env fs) (N.drop own))
  (hi:PI X tg iter wi) (hg:∀B,PG (X.MU N scope fs B) tg g) (hf:∀B,PF (X.MU N scope fs B) ifs tc) (he:∀B,PE (X.MU N scope fs B) elt te)
  (hs:∀x,foldedSetIterable iter X.env x=pure x:=by intro _;rfl):PS X (.Assign [.Name y py] (.ListComp elt [⟨tg,iter,ifs,0⟩] scope pos) spos) (AZ (yr wi g tc te own fr) (sx i)):=by
 intro pins s σ H D I h
 rw[exec_Assign_Name_used _ _ _ _ hsw]
 refine VG (wpAny_standAt (VG ?_))
 show wpAny _ X.A (do let _ <-comprehension (.ListComp elt [⟨tg,iter,ifs,0⟩] scope pos) scope X.env _ (newList []) false (eval iter X.env) (some (assign (.Name y py) X.env))) _ _ s
 refine VG (Yp (wpAny_comprehension_free (use:=some (assign (.Name y py) X.env)) (Q:=fun _ s'=>SP X pins D .next s') (g:=⟨tg,iter,ifs,0⟩) (gs:=[]) rfl hs hclos hkind hnames
  (J9 (hi pins s σ H _ I h) fun v s1 h1=>J9 h1 fun itv s2 h2=>?_)) (fun _ s' hq=>VP (VP hq)) fun _ _ e=>e)
 obtain⟨it,fp,tn,J,H2,e,I2,T,st2,f2,W⟩:=h2
 subst e
 refine m5 (RR:=fun acc C=>compPost (model X.prog X.w) X.A X.xe (some (assign (.Name y py) X.env)) (fun _ s'=>SP X pins D .next s') acc C) hc hcell hkind hcl hhas hlen hN hF hg hf he I2 T st2 f2 W ?_
 intro Da C s' ys H' m' I' nD hn fC fin
 show wpAny _ X.A (assign (.Name y py) X.env (.ref Da)) _ _ s'
 refine wpAny_assign_Name (pF (v:=.ref Da) I' hX hix (.inl hy) rfl (fun s2 I3 ⟨a,sb,ha⟩=>?_) (.inr hy))
 have ca:C≠a:=by
  rcases ha with z|z
  ·rw[z];exact fC.2.1
  ·exact Xl (fC.2.2.2.2.1 _ _ z)
 exact⟨m',hn.sameBut sb ca,fun h' hs'=>⟨_,_,I3.turned (t':=s2.toks) (fun b o hb e=>(hs'.2 b hb).trans e) fC.1 fC.2.1 fC.2.2.2.1 fC.2.2.2.2.1 fC.2.2.2.2.2,fin Da nD⟩⟩
end
end L2
namespace PySem
open Sem (wp)
namespace F
def wL:typeLookup (.type "list_reverseiterator") "__len__" = pure none:=by rw[Yb,Xj];kernel_rfl
def yt:typeLookup (.type "list_reverseiterator") "__length_hint__" = pure (some (.builtin "list_reverseiterator.__length_hint__")):=by rw[Yb,Xj];kernel_rfl
end F
section
variable {prog:Program}{w:World}{A:Around}{s:Shared}{R:Result->Shared->Prop}
variable {I:Addr}{fp wr:List Addr}{G:Array GenState->Array GenState->Prop}{n:Nat}{P:Nat->Value->Prop}{St:Nat->Shared->Prop}
def ur(W:WalksS prog w A.in1 I fp wr G n P St)(hT:∀i s,St i s->s.TypeIs (.ref I) "list_reverseiterator")(S:Addr)(res:Value)(c₀:Nat)(hst:St 0 s)(hSf:S ∉ fp)(hI:I∈fp)
  (hS:s.heap.get? S=some { cls:=.type "list",data:=.seq #[] c₀ })
  (hR:∀s' acc' c',Moved (S::wr) G s s'->s'.heap.get? S=some { cls:=.type "list",dict:=none,data:=.seq acc' c',slots:=#[] }->ItemsOf P acc' n->R (.ok (.ret res)) s') (hn:n<=sizeLine) :
  wpAny (model prog w) A.in1 (Builtin.List.listExtendWith (.ref S) (.ref I) res)
   (fun fin s'=>match fin with | .done f=>R (.ok f) s' | .again c'=>c'.quiet=true/\codeAny (model prog w) A c' R s') (fun e s'=>R (.error e) s') s:=by
 have hSI:S≠I:=fun e=>hSf (e▸hI)
 have h1:Builtin.List.listSameRef (.ref S) (.ref I)=false:=by simp[Builtin.List.listSameRef,hSI]
 unfold Builtin.List.listExtendWith
 refine VG (Zc (hT 0 _ hst) ?_)
 rw[if_neg (by rw[h1];decide)]
 refine VG (W.self 0 _ _ _ hst ?_)
 refine VG (Yg ?_)
 unfold Builtin.List.listLengthHint
 refine VG (YX (hT 0 _ hst) F.wL ?_)
 show wpAny _ A.in1 (specialOf (Value.ref I) (Str.ofString "__length_hint__") >>= _) _ _ _
 refine VG (YX (hT 0 _ hst) F.yt ?_)
 (generalize hid:("list_reverseiterator.__length_hint__":String)=UL;wp_delta;rw[show splitId UL=some ("list_reverseiterator","__length_hint__")from by subst hid;decide +kernel];subst hid)
 refine VG (YG (b:=true) (hT 0 _ hst) (by rw[YC];kernel_rfl) ?_)
 refine VP ?_
 rw[if_neg (by decide)]
 exact VP ⟨plainId_quiet F.plain_extend_loop _,codeAny_extend_loopS W hn _ hSf _ n 0 _ _ _ rfl (Ws _) hst hS (ItemsOf.nil P) fun s' acc' c' hm hS' hacc=>hR s' acc' c' hm hS' hacc⟩
def oR(W:WalksS prog w A.in1 I fp wr G n P St)(hT:∀i s,St i s->s.TypeIs (.ref I) "list_reverseiterator")(S:Addr)(hst:St 0 s)(hSf:S ∉ fp)(hI:I∈fp)
  (hS:s.heap.get? S=some { cls:=.type "list",data:=.seq #[] })
  (hR:∀s' acc' c',Moved (S::wr) G s s'->s'.heap.get? S=some { cls:=.type "list",dict:=none,data:=.seq acc' c',slots:=#[] }->ItemsOf P acc' n->R (.ok (.ret .none)) s') (hn:n<=sizeLine) :
  wpAny (model prog w) A.in1 (Builtin.«list.__init__» ⟨[.ref S,.ref I],[]⟩)
   (fun fin s'=>match fin with | .done f=>R (.ok f) s' | .again c'=>c'.quiet=true/\codeAny (model prog w) A c' R s') (fun e s'=>R (.error e) s') s:=by
 show wpAny _ A.in1 (do let old <-Builtin.List.listItems (.ref S);Builtin.List.listUpdate (.ref S) (fun _=>#[]);letGo old.toList.reverse;Builtin.List.listExtendWith (.ref S) (.ref I) .none) _ _ s
 refine VG ?_
 unfold Builtin.List.listItems
 refine VG (WO hS rfl (VP ?_))
 show wpAny _ A.in1 (updateSeq S (fun _=>#[]) >>= fun _=>letGo (#[]:Zy).toList.reverse >>= fun _=>Builtin.List.listExtendWith (.ref S) (.ref I) .none) _ _ s
 refine VG (wpAny_updateSeq hS rfl ?_)
 have UM:=Xs (Obj.mapSeq (fun _=>(#[]:Zy))) hS rfl
 have Rp:∀b o,b≠S->s.heap.get? b=some o->(s.heap.update S (Obj.mapSeq (fun _=>(#[]:Zy)))).get? b=some o:=
  fun b o hb e=>(XJ _ _ (Xl hb)).trans e
 refine VG (Y7 ?_)
 refine ur (hn:=hn) W hT S .none _ (W.frame 0 s _ s.toks hst (VM _) fun b hb o e=>Rp b o (fun h=>hSf (h▸hb)) e) hSf hI UM fun s' acc' c' hm hS' hacc=>?_
 exact hR s' acc' c' (Moved.trans W.gtrans ((Moved.refl W.grefl).then_heap (VM _) fun b o hb e=>Rp b o (fun h=>hb (h▸Xu)) e) hm) hS' hacc
end
section
variable {prog:Program}{w:World}{A:Around}{E:Zq}{s:Shared}
def oS{I l:Addr}{items:Zy}{Q:Zq}(hh:A.handled=none)(hl:s.heap.IsList l items)(hit:s.heap.IsRevIter I l ((items.size:Int) - 1))(hne:l≠I)(hn:items.size<=sizeLine)
  (hQ:∀h' tk acc' c',(∀b o,b≠I->s.heap.get? b=some o->h'.get? b=some o)->h'.get? s.heap.objs.size=some { cls:=.type "list",dict:=none,data:=.seq acc' c',slots:=#[] }->
   acc'.toList=items.toList.reverse->Q (.ref s.heap.objs.size) { s with heap:=h',toks:=tk }) :
  wpAny (model prog w) A (call (.type "list") [.ref I]) Q E s:=by
 have W:=(Walks.listRev (prog:=prog) (w:=w) (A:=A.in1.in1) hh I l hne items).toS
 have SW:I < s.heap.objs.size:=by obtain⟨o,ho,_⟩:=hit;exact VR ho
 have SX:l < s.heap.objs.size:=by obtain⟨o,ho,_⟩:=hl;exact VR ho
 have hfp:∀b∈[I,l],b < s.heap.objs.size:=fun b hb=>by
  rcases VL.mp hb with rfl|hb
  ·exact SW
  ·rw[VN.mp hb];exact SX
 have hSf:s.heap.objs.size ∉ [I,l]:=fun hm=>Xw _ (hfp _ hm)
 have hst:(fun i (s:Shared)=>i<=items.size/\s.heap.IsRevIter I l ((items.size:Int) - 1 - (i:Int))/\s.heap.IsList l items) 0 s:=⟨Ws _,by simpa using hit,hl⟩
 refine callType_codes (Q₁:=fun obj s₁=>obj = .ref s.heap.objs.size/\s₁={ s with heap:=s.heap.push { cls:=.type "list",data:=.seq #[] } }) F.called_list (F.typeCall_list_1 _) F.entry_list_init
  (code_list_new _ ⟨rfl,rfl⟩) fun obj s₁ h₁=>?_
 obtain⟨rfl,rfl⟩:=h₁
 have hS:(s.heap.push { cls:=.type "list",data:=.seq #[] }).get? s.heap.objs.size=some { cls:=.type "list",data:=.seq #[] }:=VY _ rfl
 refine⟨⟨_,hS,rfl⟩,F.args_list_init_2 _ _,oR (hn:=hn) W (fun i s st=>st.2.1.typeIs) _ (W.frame 0 s _ s.toks hst (VM _) fun b _ o e=>VJ _ e) hSf (Xu ..) hS fun s' acc' c' hm hS' hacc=>?_⟩
 refine⟨rfl,?_⟩
 rw[hm.eq_with]
 refine hQ s'.heap s'.toks acc' c' (fun b o hb e=>hm.heap b o (fun z=>?_) (VJ _ e)) hS' ?_
 ·rcases VL.mp z with z|z
  ·exact absurd (VR e) (by rw[z];exact Xw _)
  ·exact hb (VN.mp z)
 ·obtain⟨hsz,hP⟩:=hacc
  apply Z4
  intro j
  by_cases hj:j < items.size
  ·have hj':j < acc'.size:=by rw[hsz];exact hj
   have q:=hP j acc'[j] (by simp[hj'])
   have e1:acc'.toList[j]?=some acc'[j]:=by simp[hj']
   rw[e1,List.getElem?_reverse (by simpa using hj)]
   simpa using q.symm
  ·rw[W6 (by simpa [hsz]using hj),W6 (by simpa using hj)]
end
end PySem
namespace L2
open PySem PySem.Spec PyProof.Rows
section
variable {X:Cx}
def yu(K:Zo)(te:TE):TE:=fun σ H Q=>te σ H fun x H1=>∃a xs,x = .ref a/\SqL K H1 a xs/\∀q,H1 q=none->Q (.ref q) (upd H1 q (.lst xs.reverse))
def ut{e:Expr}{te:TE}{p1 p2 q1 q2:Pos}(hc:X.calm=true)(he:PE X e te)(SY:Gl X "list")(hm1:X.mg "list" = none)(RE:Gl X "reversed")(hm2:X.mg "reversed" = none)
  (hs:starEach [e] X.env=[(false,eval e X.env)]:=by rfl) (hs2:starEach [.Call (.Name "reversed" p2) [e] [] q2] X.env=[(false,eval (.Call (.Name "reversed" p2) [e] [] q2) X.env)]:=by rfl) :
  PE X (.Call (.Name "list" p1) [.Call (.Name "reversed" p2) [e] [] q2] [] q1) (yu X.K te):=by
 intro pins s σ H Q I h
 refine XT (fw I SY hm1 (u:=.type "list") (by decide +kernel) ?_)
 refine WM ?_ hs2 rfl
 rw[hs2]
 show wpAny _ _ (spliced ((false,eval (.Call (.Name "reversed" p2) [e] [] q2) X.env)::backTo q1 [])) _ _ s
 refine XS ?_
 refine XT (fw I RE hm2 (u:=.type "reversed") boot_reversed ?_)
 refine WM ?_ hs rfl
 rw[hs]
 show wpAny _ _ (spliced ((false,eval e X.env)::backTo q2 [])) _ _ s
 refine XS (J9 (he pins s σ H _ I h) fun u s1 ⟨x,H1,I1,r1,a,xs,ex,hx,q⟩=>?_)
 subst ex
 cases r1
 obtain⟨its,rv,p,hz⟩:=I1.list hx
 have hl:=rv.length
 have hal:a < s1.heap.objs.size:=by obtain⟨o,ho,_⟩:=p.isList;exact VR ho
 refine YA (call_reversed_list p.isList ?_)
 refine YA ?_
 refine oS (I.ok.hd hc) (p.isList.push _) ⟨_,VY _ rfl,rfl,rfl⟩ (Wa hal) (by rw[VQ,<-hl];exact hz) fun h' tk acc c hk hS ha=>?_
 have hsz:(s1.heap.push (revObj a ((its.toArray.size:Int) - 1))).objs.size=s1.heap.objs.size+1:=W9 _ _
 have hle:s1.heap.objs.size<=(s1.heap.push (revObj a ((its.toArray.size:Int) - 1))).objs.size:=by rw[hsz];exact Nat.le_succ _
 refine⟨.ref _,_,I1.laid (a:=(s1.heap.push (revObj a ((its.toArray.size:Int) - 1))).objs.size) (o:=.lst xs.reverse) (h':=h') (t':=tk) (fun b u e=>hk b u (Wa (VR e)) (VJ _ e)) hle ?_,rfl,q _ (I1.hok.fresh hle)⟩
 refine⟨by rw[YO];exact hz,its.reverse,c,Vals.reverse rv,?_⟩
 rw[hS]
 have e:acc=its.reverse.toArray:=by
  apply Array.toList_inj.mp
  rw[ha]
 rw[e]
end
section
variable {X:Cx}
noncomputable abbrev lj(c:Nat):Str:=⟨#[c]⟩
noncomputable def IL(z:Str):It:=⟨fun i _=>i < z.cps.size,fun i H x H'=>H'=H/\∃c,z.cps[i]?=some c/\x = .str (lj c),fun i _=>z.cps.size<=i⟩
def yv{P:Program}{w:World}{K:Zo}{tg:Expr}{ty:String}(hty:ty = "str_ascii_iterator" \/ ty = "str_iterator")(it:Addr)(z:Str)(t:Tok):mV P w K tg (IL z) [it] it (fun i h=>i<=z.cps.size/\h.IsStrIter it ty z t i):=by
 have W:∀A':Around,A'.handled=none->Walks P w A' it [it] [it] z.cps.size (SignAt z) (fun i h=>h.IsStrIter it ty z t i):=fun A' hA=>by
  rcases hty with rfl|rfl
  ·exact Walks.strAscii hA it z t
  ·exact Walks.strWide hA it z t
 have nt:(["enumerate","zip","dict_itemiterator","dict_reverseitemiterator","odict_iterator","itertools.zip_longest","itertools.pairwise"].contains ty)=false:=by
  rcases hty with rfl|rfl<;>decide
 refine⟨by simp,fun i h st b hb=>?_,fun i h h' st k=>?_,?_,?_,?_⟩
 ·have e:b=it:=by simpa using hb
  subst e
  obtain⟨_,o,e,c,d⟩:=st
  exact⟨o,e,fun v q=>by rw[d]at q;cases q⟩
 ·obtain⟨hi,o,e,r⟩:=st
  exact⟨hi,o,k it (by simp) o e,r⟩
 ·intro X hP hw hK hc i pins s σ H E I hf st hg
  subst hP hw hK
  obtain⟨f0,f1,f2,f3,f4,f5⟩:=hf it (by simp)
  refine(W X.A (I.ok.hd hc)).item i s _ _ hg st.2 fun v h' tk hv st' kk=>?_
  obtain⟨c,u,hcp,rfl⟩:=hv
  have I1:Inv X pins σ H { s with heap:=h',toks:=tk }:=I.turned (fun b o hb e=>kk b o (by simpa using hb) e) f0 f1 f3 f4 f5
  obtain⟨o,e,co,d⟩:=id st'
  exact⟨_,rfl,j6 (s:={ s with heap:=h',toks:=tk }) e co d nt ⟨.str (lj c),H,I1,⟨u,rfl⟩,⟨rfl,c,hcp,rfl⟩,⟨hg,st'⟩,fun b hb=>(hf b hb).1⟩⟩
 ·intro X hP hw hK hc i pins s σ H E I hf st hg
  subst hP hw hK
  obtain⟨f0,f1,f2,f3,f4,f5⟩:=hf it (by simp)
  have e:i=z.cps.size:=Nat.le_antisymm st.1 hg
  subst e
  exact(W X.A (I.ok.hd hc)).done s _ _ st.2 fun h' tk kk=>⟨rfl,I.turned (fun b o hb e=>kk b o (by simpa using hb) e) f0 f1 f3 f4 f5⟩
 ·intro A i s Q E st h
  rcases hty with rfl|rfl
  ·exact wpAny_pyIter_striter_ascii st.2 h
  ·exact wpAny_pyIter_striter_wide st.2 h
def Bo{ys:Zs}:∀{us:Zx},Vals (ys.map V.str) us->StrsAre us ys:=by
 induction ys with
 |nil=>intro us r;rw[Wr]at r;cases r;exact .nil
 |cons n ns ih=>
  intro us r
  rw[VT]at r
  cases r with
  |cons r1 r2=>
   obtain⟨t,e⟩:=r1
   subst e
   exact .cons n t (ih r2)
noncomputable def GE(K:Zo):V->List V->Hp->VK->Prop:=fun x vs H Q=>∃sep p ys,x = .str sep/\vs=[.ref p]/\SqL K H p (ys.map V.str)/\(ys.map (·.length)).sum+ys.length * sep.length<=1000000/\Q (.str (Txt.join sep ys)) H
def Bp:Ef X "str.join" (GE X.K):=by
 intro pins s σ H x vs v us Q I rx rv h
 obtain⟨sep,p,ys,rfl,rfl,hp,hz,q⟩:=h
 obtain⟨t,rfl⟩:=rx
 obtain⟨u,rfl,ru⟩:=eI rv
 cases ru
 obtain⟨its,r,pl,_⟩:=I.list hp
 exact join_list pl.isList (by simpa using Bo r) (by omega) fun t' k=>⟨.str _,H,I.tok k,⟨t',rfl⟩,q⟩
def uu{z:Str}{acc:Zy}(h:ItemsOf (SignAt z) acc z.cps.size):Vals (z.cps.toList.map fun c=>V.str (lj c)) acc.toList:=by
 obtain⟨hs,hP⟩:=h
 have key:∀(cs:List Nat)(us:Zx),us.length=cs.length->(∀(j:Nat)(v:Value),us[j]?=some v->∃c u,cs[j]?=some c/\v = .str (lj c) u)->Vals (cs.map fun c=>V.str (lj c)) us:=by
  intro cs
  induction cs with
  |nil=>
   intro us hl _
   cases us with
   |nil=>exact .nil
   |cons u us=>cases hl
  |cons c cs ih=>
   intro us hl hu
   cases us with
   |nil=>cases hl
   |cons u us=>
    obtain⟨c',t,e1,e2⟩:=hu 0 u rfl
    have e1':c=c':=by simpa using e1
    subst e1'
    refine .cons ⟨t,e2⟩ (ih us (by simpa using hl) fun j v e=>?_)
    exact hu (j+1) v (by simpa using e)
 refine key z.cps.toList acc.toList (by simp[hs]) fun j v e=>?_
 obtain⟨c,u,e1,e2⟩:=hP j v (by simpa using e)
 exact⟨c,u,by simpa using e1,e2⟩
def lm(hc:X.calm=true):fc X (.type "list") (fun xs H Q=>∃z,xs=[.str z]/\z.length<=sizeLine/\∀l,H l=none->Q (.ref l) (upd H l (.lst (z.cps.toList.map fun c=>V.str (lj c))))):=by
 intro pins s σ H xs us Q I r h
 obtain⟨z,rfl,hz,q⟩:=h
 obtain⟨u,rfl,t,rfl⟩:=eI r
 refine call_list_str (I.ok.hd hc) z t (fun h' tk acc c hk hS ha=>?_) hz
 refine⟨.ref _,_,I.laid (a:=s.heap.objs.size) (o:=.lst (z.cps.toList.map fun c=>V.str (lj c))) (h':=h') (t':=tk) hk (VM _) ?_,rfl,q _ (I.hok.fresh (VM _))⟩
 exact⟨by rw[VI,YN];exact hz,acc.toList,c,uu ha,by rw[hS]⟩
def wM(hc:X.calm=true):fc X (.builtin "all") (fun xs H Q=>∃(p:Addr)(bs:List Bool),xs=[.ref p]/\SqL X.K H p (bs.map V.bl)/\Q (.bl (bs.all id)) H):=by
 intro pins s σ H xs us Q I r h
 obtain⟨p,bs,rfl,hp,q⟩:=h
 obtain⟨u,rfl,rx⟩:=eI r
 cases rx
 obtain⟨its,rv,pl,hz⟩:=I.list hp
 have hl:=rv.length
 rw[VI]at hl
 have hlt:p < s.heap.objs.size:=by obtain⟨o,ho,_⟩:=pl.isList;exact VR ho
 refine call_all_walk (WN pl.isList ?_)
 have up:∀b o,s.heap.get? b=some o->(s.heap.push { cls:=.type "list_iterator",data:=.fields #[.ref p,.int 0 0] }).get? b=some o:=fun b o e=>VJ _ e
 refine⟨s.heap.objs.size,_,_,_,_,_,fun i=>(bs[i]?).getD true,rfl,Walks.list (A:=X.A.in1) (I.ok.hd hc) s.heap.objs.size p (Wa hlt) its.toArray,⟨⟨_,VY _ rfl,rfl,rfl⟩,pl.isList.push _⟩,?_,fun h' tk hk=>?_⟩
 ·intro i v s' Q' E' hv hq
  have hi:i < its.length:=by
   by_cases z:i < its.length
   ·exact z
   ·rw[Yr (by simpa using z)]at hv;cases hv
  obtain⟨u',e1,r1⟩:=rv.get (i:=i) (x:=.bl bs[i]) (by rw[V2,V8 (by omega)];rfl)
  have e2:v=u':=by
   have z:its[i]?=some v:=by simpa using hv
   rw[z]at e1;exact WR e1
  subst e2
  cases (show v=Value.bool bs[i] from r1)
  refine Yd ?_
  have hq':Q' ((bs[i]?).getD true) s':=hq
  rw[V8 (show i < bs.length by omega)]at hq'
  exact hq'
 ·have e:(List.range its.toArray.size).all (fun i=>(bs[i]?).getD true)=bs.all id:=by
   rw[VQ,<-hl,Yv,XQ,XQ]
   constructor
   ·intro h1 x hx
    obtain⟨j,hj,e⟩:=List.getElem_of_mem hx
    have q1:=h1 j (Ym.mpr hj)
    rw[V8 hj]at q1
    rw[<-e];exact q1
   ·intro h1 j hj
    have hj':=Ym.mp hj
    rw[V8 hj']
    exact h1 _ (List.getElem_mem hj')
  rw[e]
  exact⟨.bl _,H,(I.kept (t':=tk) (h':=h') fun b o eo=>hk b o (by
   intro hm
   have hb:b=s.heap.objs.size:=by simpa using hm
   exact absurd (VR eo) (by rw[hb];exact Xw _)) (up b o eo)),rfl,q⟩
end
section
variable {X:Cx}
noncomputable def IM:V->Option Int->Option Int->Hp->VK->Prop:=fun x lo hi H Q=>∃z,x = .str z/\z.length<=sizeLine/\Q (.str (Txt.slice z lo hi)) H
def Er:FR X IM:=by
 intro pins s σ H x v vl vu lo hi sl Q I rx hs pl pu h
 obtain⟨z,rfl,hz,q⟩:=h
 obtain⟨t,rfl⟩:=rx
 refine⟨"str",_,F.slot_str_getitem.lookup,typeIs_str _ _ _,?_⟩
 obtain⟨o,e,c,d⟩:=hs
 have fin:∀l u:Option (Int×Tok),(vl=partValue l/\lo=l.map (·.1))->(vu=partValue u/\hi=u.map (·.1))->wpAny (model X.prog X.w) X.A (getItem (.str z t) (.ref sl)) (EP X pins σ Q) X.xe s:=by
  rintro l u ⟨rfl,rfl⟩ ⟨rfl,rfl⟩
  exact wpAny_getItem_str_slice (l:=l) (u:=u) (st:=none) ⟨o,e,c,d⟩ rfl (post_val_or_str ⟨VU (Txt.slice_le z _ _) hz,fun t' k=>⟨.str _,H,I.tok k,⟨t',rfl⟩,q⟩⟩)
 cases pl with
 |none=>
  cases pu with
  |none=>exact fin none none ⟨rfl,rfl⟩ ⟨rfl,rfl⟩
  |int j uj=>exact fin none (some (j,uj)) ⟨rfl,rfl⟩ ⟨rfl,rfl⟩
 |int i ui=>
  cases pu with
  |none=>exact fin (some (i,ui)) none ⟨rfl,rfl⟩ ⟨rfl,rfl⟩
  |int j uj=>exact fin (some (i,ui)) (some (j,uj)) ⟨rfl,rfl⟩ ⟨rfl,rfl⟩
noncomputable def Es:V->List V->Hp->VK->Prop:=fun x vs H Q=>∃a b i rest,x = .str a/\vs=[.str b]/\Builtin.Str.occurrences a b 0 a.length 1=i::rest/\Q (.int i) H
def yw:Ef X "str.index" Es:=by
 intro pins s σ H x vs v us Q I rx rv h
 obtain⟨a,b,i,rest,rfl,rfl,ho,q⟩:=h
 obtain⟨t,rfl⟩:=rx
 obtain⟨w,rfl,u,rfl⟩:=eI rv
 exact call_gives F.slot_str_index (typeIs_str _ _ _) F.entry_str_index (F.args_str_index_2 _ _) (gives_str_index a b t u i rest ho) ⟨.int i,H,I.tok _,⟨_,rfl⟩,q⟩
def Eu(K:Zo)(i j k:Nat)(te:TE):TS:=fun D σ H=>te σ H fun x H1=>∃p v w u,x = .ref p/\SqT K H1 p [v,w,u]/\D.nx (((σ.set k (some u)).set j (some w)).set i (some v)) H1
def yx{i j k:Nat}{x y z:Str}{e:Expr}{te:TE}{px py pz pt:Pos}{kt:Nat}{pos:Pos}(hc:X.calm=true)(hN:X.N.Nodup)(hi:X.N[i]?=some x)(hj:X.N[j]?=some y)(hk:X.N[k]?=some z)
  (hx:X.env.scope.names.lookup x=some .local) (hy:X.env.scope.names.lookup y=some .local) (hz:X.env.scope.names.lookup z=some .local) (he:PE X e te)
  (hw:swappedStores [.Tuple [.Name x px,.Name y py,.Name z pz] kt pt] e X.env=pure (some [x,y,z]))
  (hs:swapsWithSole [.Tuple [.Name x px,.Name y py,.Name z pz] kt pt] e pos.line X.env=pure false) :
  PS X (.Assign [.Tuple [.Name x px,.Name y py,.Name z pz] kt pt] e pos) (Eu X.K i j k te):=by
 intro pins s σ H D I h
 refine Assign_Tuple_swapped (names:=[x,y,z]) (J9 (he pins s σ H _ I h) fun r s1 ⟨xr,H1,I1,r1,p,v,w,u,ex,hp,q⟩=>?_) hs hw
 subst ex
 cases r1
 obtain⟨its,rv,tp,_⟩:=I1.tuple hp
 obtain⟨u1,u2,u3,ei,a1,a2,a3⟩:∃u1 u2 u3,its=[u1,u2,u3]/\RelV v u1/\RelV w u2/\RelV u u3:=by
  cases rv with
  |cons a1 rv=>
   cases rv with
   |cons a2 rv=>
    cases rv with
    |cons a3 rv=>
     cases rv
     exact⟨_,_,_,rfl,a1,a2,a3⟩
 subst ei
 refine unpackItems_tuple (items:=#[u1,u2,u3]) (I.ok.hd hc) tp fun h' kp=>?_
 have I2:=I1.kept (h':=h') (t':=s1.toks) fun b o eb=>kp b o (Wa (VR eb)) eb
 refine XR (Y9 (eF I2 hN hk (.inl hz) a3 (fun s2 I3=>?_) (.inr hz)))
 refine XR (Y9 (eF I3 hN hj (.inl hy) a2 (fun s3 I4=>?_) (.inr hy)))
 exact XR (Y9 (eF I4 hN hi (.inl hx) a1 (fun s4 I5=>assignInOrder_nil ⟨_,H1,I5,q⟩) (.inr hx)))
end
end L2
namespace Zt
open PySem
open Sem (wp)
def Si(kd:Bool)(h:Heap)(a t:Addr)(i:Nat):Prop:=cond kd (h.IsListIter a t i) (h.IsTupleIter a t i)
def Sq(kd:Bool)(h:Heap)(a:Addr)(xs:Zy):Prop:=cond kd (h.IsList a xs) (h.IsTuple a xs)
theorem Si.at{kd:Bool}{h h':Heap}{a t:Addr}{i:Nat}(x:Si kd h a t i)(e:∀o,h.get? a=some o->h'.get? a=some o):Si kd h' a t i:=match kd,x with|true,x=>Heap.IsListIter.at x e|false,x=>Heap.IsTupleIter.at x e
theorem Sq.at{kd:Bool}{h h':Heap}{a:Addr}{xs:Zy}(x:Sq kd h a xs)(e:∀o,h.get? a=some o->h'.get? a=some o):Sq kd h' a xs:=match kd,x with|true,x=>Heap.IsList.at x e|false,x=>Heap.IsTuple.at x e
def Sq.lt{kd:Bool}{h:Heap}{a:Addr}{xs:Zy}(x:Sq kd h a xs):a < h.objs.size:=match kd,x with|true,⟨_,e,_⟩=>VR e|false,⟨_,e,_⟩=>VR e
def Si.ob{kd:Bool}{h:Heap}{a t:Addr}{i:Nat}(x:Si kd h a t i):∃o f,h.get? a=some o/\o.data = .fields f:=match kd,x with|true,⟨o,e,_,d⟩=>⟨o,_,e,d⟩|false,⟨o,e,_,d⟩=>⟨o,_,e,d⟩
def Si.extBut{kd:Bool}{h h':Heap}{a c t:Addr}{i:Nat}(x:Si kd h a t i)(e:Heap.ExtBut c h h')(n:a≠c):Si kd h' a t i:=x.at fun _ q=>e _ _ n q
def Sq.extBut{kd:Bool}{h h':Heap}{a c:Addr}{xs:Zy}(x:Sq kd h a xs)(e:Heap.ExtBut c h h')(n:a≠c):Sq kd h' a xs:=x.at fun _ q=>e _ _ n q
section
variable {prog:Program}{w:World}{A:Around}{E:Zq}{s:Shared}
def nx{j t:Addr}{i:Nat}{its:Zy}{x:Value}{Q:Zq}(hj:s.heap.IsTupleIter j t i)(ht:s.heap.IsTuple t its)(hx:its[i]?=some x)
  (k:∀g:Heap,g.IsTupleIter j t (i+1)->Heap.SameBut j s.heap g->Q x { s with heap:=g }):wpAny (model prog w) A (Builtin.SmallTypes.nextOf (.ref j)) Q E s:=by
 obtain⟨ob,eb,kb,db⟩:=id hj
 obtain⟨oc,ec,_,nc,dc⟩:=ht
 unfold Builtin.SmallTypes.nextOf
 refine VG (WC (name:=Str.ofString "__next__") hj.typeIs XW (W4 XW hj.typeIs F.entry_tuple_iterator_next ?_ (F.args_tuple_iterator_next_1 _)))
 show wpAny _ _ (field (.ref j) 0 >>= _) _ _ s;refine VG (Wq eb db (x:=.ref t) rfl ?_)
 show wpAny _ _ (if (Value.ref t == Value.none)=true then _ else _) _ _ s;rw[if_neg (show ¬((Value.ref t == Value.none)=true)from Wk)]
 show wpAny _ _ (field (.ref j) 1 >>= _) _ _ s;refine VG (Wq eb db (x:=.int i 0) rfl ?_)
 show wpAny _ _ (seqItems? (.ref t) >>= _) _ _ s;refine VG (WO ec dc ?_)
 simp only[Int.toNat_natCast,hx];refine VG (Zf eb db (by simp) (VP ⟨x,rfl,VP (k _ ?_ (YQ ..))⟩))
 exact⟨_,Xs _ eb (Zm (XX db _)),(Obj.cls_mapFields ..).trans kb,by rw[XX db];simp[rawInt]⟩
def Jt{j t:Addr}{i:Nat}{its:Zy}{Q:Zq}(hh:A.handled=none)(hj:s.heap.IsTupleIter j t i)(ht:s.heap.IsTuple t its)(hx:its[i]?=none)
  (k:∀(g:Heap) (e:Addr),Heap.ExtBut j s.heap g->(∃o,g.get? e=some o/\o.cls = .type "StopIteration")->E (.ref e) { s with heap:=g }):wpAny (model prog w) A (Builtin.SmallTypes.nextOf (.ref j)) Q E s:=by
 obtain⟨ob,eb,kb,db⟩:=id hj
 obtain⟨oc,ec,_,nc,dc⟩:=ht
 unfold Builtin.SmallTypes.nextOf
 refine VG (WC (name:=Str.ofString "__next__") hj.typeIs XW (W4 XW hj.typeIs F.entry_tuple_iterator_next ?_ (F.args_tuple_iterator_next_1 _)))
 show wpAny _ _ (field (.ref j) 0 >>= _) _ _ s;refine VG (Wq eb db (x:=.ref t) rfl ?_)
 show wpAny _ _ (if (Value.ref t == Value.none)=true then _ else _) _ _ s;rw[if_neg (show ¬((Value.ref t == Value.none)=true)from Wk)]
 show wpAny _ _ (field (.ref j) 1 >>= _) _ _ s;refine VG (Wq eb db (x:=.int i 0) rfl ?_)
 show wpAny _ _ (seqItems? (.ref t) >>= _) _ _ s;refine VG (WO ec dc ?_)
 simp only[Int.toNat_natCast,hx];refine VG (Yh (VG (Zf eb db (by simp) ?_)))
 show wpAny _ _ (newExc (.type "StopIteration") [] >>= _) _ _ _;refine VG ?_
 simp only[newExc,newTuple];refine VG (W2 ?_ (by size_fits))
 refine VG (m:=firstArgMember _ _) (Yo (a:=Value.none) (by first|rfl|(simp only[firstArgMember];rfl)) ?_);refine W2 ?_ (by size_fits)
 simp only[raiseNew];refine VG (wpAny_handled ?_)
 first|(rw[hh])|(rw[show A.in1.handled=none from hh])
 exact VG (VP (wpAny_throw (k _ _ (((YQ ..).extBut.push _).push _) ⟨_,VY _ rfl,rfl⟩)))
def FT{kd:Bool}{j t:Addr}{i:Nat}{its:Zy}{x:Value}{Q:Zq}(hj:Si kd s.heap j t i)(ht:Sq kd s.heap t its)(hx:its[i]?=some x)
  (k:∀g:Heap,Si kd g j t (i+1)->Heap.SameBut j s.heap g->Q x { s with heap:=g }):wpAny (model prog w) A (Builtin.SmallTypes.nextOf (.ref j)) Q E s:=by
 cases kd with
 |true=>exact wpAny_nextOf_list_item hj ht hx k
 |false=>exact nx hj ht hx k
def Ev{kd:Bool}{j t:Addr}{i:Nat}{its:Zy}{Q:Zq}(hh:A.handled=none)(hj:Si kd s.heap j t i)(ht:Sq kd s.heap t its)(hx:its[i]?=none)
  (k:∀(g:Heap) (e:Addr),Heap.ExtBut j s.heap g->(∃o,g.get? e=some o/\o.cls = .type "StopIteration")->E (.ref e) { s with heap:=g }):wpAny (model prog w) A (Builtin.SmallTypes.nextOf (.ref j)) Q E s:=by
 cases kd with
 |true=>exact wpAny_nextOf_list_end hh hj ht hx k
 |false=>exact Jt hh hj ht hx k
variable {ka kb:Bool}{z TI TO i1 i2 l1 l2:Addr}{k1 k2:Nat}{xs ys:Zy}{x y a b:Value}
def qJ{Q:Zq}(D:ZipApart z TI TO i1 i2 l1 l2)(gz:IsZip s.heap z TI TO .none)(gI:IsPair s.heap TI (.ref i1) (.ref i2))(gO:IsPair s.heap TO a b)
  (g1:Si ka s.heap i1 l1 k1) (g2:Si kb s.heap i2 l2 k2) (t1:Sq ka s.heap l1 xs) (t2:Sq kb s.heap l2 ys) (hx:xs[k1]?=some x) (hy:ys[k2]?=some y)
  (k:∀g,IsZip g z TI TO (rawInt s.heap.objs.size)->IsPair g TO x y->Si ka g i1 l1 (k1+1)->Si kb g i2 l2 (k2+1)->IsPair g s.heap.objs.size x y->
   (∀c o,c≠z->c≠TO->c≠i1->c≠i2->s.heap.get? c=some o->g.get? c=some o)->Q (.ref s.heap.objs.size) { s with heap:=g }) :
  wpAny (model prog w) A (Builtin.«zip.__next__» ⟨[.ref z],[]⟩) (fun fin s'=>∃v,fin = .done (.ret v)/\Q v s') E s:=by
 show wpAny _ _ (field (.ref z) 2 >>= _) _ _ _;refine VG (Wq gz rfl (x:=.bool false) rfl ?_)
 show wpAny _ _ (field (.ref z) 3 >>= _) _ _ _;refine VG (Wq gz rfl (x:=.ref TI) rfl (VG (WO gI rfl ?_)))
 show wpAny _ _ (Builtin.SmallTypes.ownedTupleIsFree (.ref z) >>= _) _ _ _;refine VG ?_;unfold Builtin.SmallTypes.ownedTupleIsFree
 refine VG (Wq gz rfl (x:=.none) rfl (VP ?_));simp only[WB]
 refine VG (Yh (VG (Wq gz rfl (x:=.ref TO) rfl (VG (WV gz (by simp) fun h₁ z1 q1=>?_)))))
 replace z1:IsZip h₁ z TI TO .ellipsis:=z1
 refine VG ?_;simp only[List.zipIdx_cons,List.zipIdx_nil,YY,List.forIn_nil]
 refine VG (VG (Yj ?_));show wpAny _ _ (Builtin.SmallTypes.nextOf (.ref i1) >>= _) _ _ _
 refine VG (FT (g1.extBut q1.extBut D.i1z) (t1.extBut q1.extBut D.l1z) hx fun h₂ n1 q2=>VP ?_)
 have o2:IsPair h₂ TO a b:=q2.extBut _ _ D.TOi1 (q1.extBut _ _ D.TOz gO)
 refine VG (WO o2 rfl (VG (ZG o2 fun h₃ o3 q3=>?_)))
 replace o3:IsPair h₃ TO x b:=o3
 refine VG (Y7 (VP ?_));refine VG (VG (Yj ?_));show wpAny _ _ (Builtin.SmallTypes.nextOf (.ref i2) >>= _) _ _ _
 refine VG (FT (((g2.extBut q1.extBut D.i2z).extBut q2.extBut D.i12.symm).extBut q3.extBut D.TOi2.symm) (((t2.extBut q1.extBut D.l2z).extBut q2.extBut D.l2i1).extBut q3.extBut D.l2TO) hy fun h₄ n2 q4=>VP ?_)
 have o4:IsPair h₄ TO x b:=q4.extBut _ _ D.TOi2 o3
 refine VG (WO o4 rfl (VG (ZG o4 fun h₅ o5 q5=>?_)))
 replace o5:IsPair h₅ TO x y:=o5
 refine VG (Y7 (VP (VP ?_)));refine VG (WO o5 rfl (VG (wpAny_newTuple ?_)))
 have sz:h₅.objs.size=s.heap.objs.size:=by rw[q5.1,q4.1,q3.1,q2.1,q1.1]
 have z5:IsZip h₅ z TI TO .ellipsis:=q5.extBut _ _ D.TOz.symm (q4.extBut _ _ D.i2z.symm (q3.extBut _ _ D.TOz.symm (q2.extBut _ _ D.i1z.symm z1)))
 have kk:∀c o,c≠z->c≠TO->c≠i1->c≠i2->s.heap.get? c=some o->h₅.get? c=some o:=fun c o c1 c2 c3 c4 e=>q5.extBut _ _ c2 (q4.extBut _ _ c4 (q3.extBut _ _ c2 (q2.extBut _ _ c3 (q1.extBut _ _ c1 e))))
 have m1:Si ka h₅ i1 l1 (k1+1):=((n1.extBut q3.extBut D.TOi1.symm).extBut q4.extBut D.i12).extBut q5.extBut D.TOi1.symm
 have m2:Si kb h₅ i2 l2 (k2+1):=n2.extBut q5.extBut D.TOi2.symm
 have zl:z < h₅.objs.size:=VR z5
 show wpAny _ _ (Builtin.SmallTypes.ownedTupleHandOut (.ref z) (.ref h₅.objs.size) >>= _) _ _ _;refine VG ?_;unfold Builtin.SmallTypes.ownedTupleHandOut
 have z6:IsZip (h₅.push { cls:=.type "tuple",data:=.seq #[x,y] }) z TI TO .ellipsis:=VJ _ z5
 refine VG (WV z6 (by simp) fun h₇ z7 q7=>?_)
 replace z7:IsZip h₇ z TI TO (rawInt h₅.objs.size):=z7
 refine WV z7 (by simp) fun h₈ z8 q8=>?_
 replace z8:IsZip h₈ z TI TO (rawInt h₅.objs.size):=z8
 have up:∀c o,c≠z->h₅.get? c=some o->h₈.get? c=some o:=fun c o c1 e=>q8.extBut _ _ c1 (q7.extBut _ _ c1 (VJ _ e))
 have T8:IsPair h₈ h₅.objs.size x y:=q8.extBut _ _ (Xx zl) (q7.extBut _ _ (Xx zl) (VY _ rfl))
 rw[sz]at z8 T8
 refine VP ⟨_,rfl,?_⟩
 show Q (.ref h₅.objs.size) _
 rw[sz]
 exact k h₈ z8 (up _ _ D.TOz o5) (m1.at fun o e=>up _ o D.i1z e) (m2.at fun o e=>up _ o D.i2z e) T8 fun c o c1 c2 c3 c4 e=>up c o c1 (kk c o c1 c2 c3 c4 e)
def uv{Q:Fin->Shared->Prop}(hh:A.handled=none)(D:ZipApart z TI TO i1 i2 l1 l2)(gz:IsZip s.heap z TI TO .none)(gI:IsPair s.heap TI (.ref i1) (.ref i2))(gO:IsPair s.heap TO a b)
  (g1:Si ka s.heap i1 l1 k1) (g2:Si kb s.heap i2 l2 k2) (t1:Sq ka s.heap l1 xs) (t2:Sq kb s.heap l2 ys) (he:xs[k1]?=none\/ys[k2]?=none)
  (k:∀(g:Heap) (e:Addr),(∀c o,c≠z->c≠TO->c≠i1->c≠i2->s.heap.get? c=some o->g.get? c=some o)->(∃o,g.get? e=some o/\o.cls = .type "StopIteration")->E (.ref e) { s with heap:=g }) :
  wpAny (model prog w) A (Builtin.«zip.__next__» ⟨[.ref z],[]⟩) Q E s:=by
 show wpAny _ _ (field (.ref z) 2 >>= _) _ _ _;refine VG (Wq gz rfl (x:=.bool false) rfl ?_)
 show wpAny _ _ (field (.ref z) 3 >>= _) _ _ _;refine VG (Wq gz rfl (x:=.ref TI) rfl (VG (WO gI rfl ?_)))
 show wpAny _ _ (Builtin.SmallTypes.ownedTupleIsFree (.ref z) >>= _) _ _ _;refine VG ?_;unfold Builtin.SmallTypes.ownedTupleIsFree
 refine VG (Wq gz rfl (x:=.none) rfl (VP ?_));simp only[WB]
 refine VG (Yh (VG (Wq gz rfl (x:=.ref TO) rfl (VG (WV gz (by simp) fun h₁ z1 q1=>?_)))))
 replace z1:IsZip h₁ z TI TO .ellipsis:=z1
 refine VG ?_;simp only[List.zipIdx_cons,List.zipIdx_nil,YY,List.forIn_nil]
 refine VG (VG (Yj ?_));show wpAny _ _ (Builtin.SmallTypes.nextOf (.ref i1) >>= _) _ _ _
 cases hx:xs[k1]? with
 |none=>
  refine VG (Ev hh (g1.extBut q1.extBut D.i1z) (t1.extBut q1.extBut D.l1z) hx fun h₂ e q2 ⟨oe,ge,ce⟩=>?_)
  have z2:IsZip h₂ z TI TO .ellipsis:=q2 _ _ D.i1z.symm z1
  have ez:e≠z:=fun u=>by subst u;rw[z2]at ge;cases ge;simp at ce
  exact WV z2 (by simp) fun h₃ _ q3=>k h₃ e (fun c o c1 _ c3 _ u=>q3.extBut _ _ c1 (q2 _ _ c3 (q1.extBut _ _ c1 u))) ⟨oe,q3.extBut _ _ ez ge,ce⟩
 |some x=>
  have hy:ys[k2]?=none:=he.elim (fun q=>by rw[hx]at q;cases q) id
  refine VG (FT (g1.extBut q1.extBut D.i1z) (t1.extBut q1.extBut D.l1z) hx fun h₂ n1 q2=>VP ?_)
  have o2:IsPair h₂ TO a b:=q2.extBut _ _ D.TOi1 (q1.extBut _ _ D.TOz gO)
  refine VG (WO o2 rfl (VG (ZG o2 fun h₃ o3 q3=>?_)))
  refine VG (Y7 (VP ?_));refine VG (VG (Yj ?_));show wpAny _ _ (Builtin.SmallTypes.nextOf (.ref i2) >>= _) _ _ _
  refine VG (Ev hh (((g2.extBut q1.extBut D.i2z).extBut q2.extBut D.i12.symm).extBut q3.extBut D.TOi2.symm) (((t2.extBut q1.extBut D.l2z).extBut q2.extBut D.l2i1).extBut q3.extBut D.l2TO) hy fun h₄ e q4 ⟨oe,ge,ce⟩=>?_)
  have z4:IsZip h₄ z TI TO .ellipsis:=q4 _ _ D.i2z.symm (q3.extBut _ _ D.TOz.symm (q2.extBut _ _ D.i1z.symm z1))
  have ez:e≠z:=fun u=>by subst u;rw[z4]at ge;cases ge;simp at ce
  exact WV z4 (by simp) fun h₅ _ q5=>k h₅ e (fun c o c1 c2 c3 c4 u=>q5.extBut _ _ c1 (q4 _ _ c4 (q3.extBut _ _ c2 (q2.extBut _ _ c3 (q1.extBut _ _ c1 u))))) ⟨oe,q5.extBut _ _ ez ge,ce⟩
def lq{Q:Option Value->Shared->Prop}(D:ZipApart z TI TO i1 i2 l1 l2)(gz:IsZip s.heap z TI TO .none)(gI:IsPair s.heap TI (.ref i1) (.ref i2))(gO:IsPair s.heap TO a b)
  (g1:Si ka s.heap i1 l1 k1) (g2:Si kb s.heap i2 l2 k2) (t1:Sq ka s.heap l1 xs) (t2:Sq kb s.heap l2 ys) (hx:xs[k1]?=some x) (hy:ys[k2]?=some y)
  (k:∀g,IsZip g z TI TO (rawInt s.heap.objs.size)->IsPair g TO x y->Si ka g i1 l1 (k1+1)->Si kb g i2 l2 (k2+1)->IsPair g s.heap.objs.size x y->
   (∀c o,c≠z->c≠TO->c≠i1->c≠i2->s.heap.get? c=some o->g.get? c=some o)->Q (some (.ref s.heap.objs.size)) { s with heap:=g }):wpAny (model prog w) A (pyNext (.ref z)) Q E s:=by
 have ty:s.TypeIs (.ref z) "zip":=⟨_,gz,rfl⟩
 unfold pyNext
 exact VG (Yz (WC (name:=Str.ofString "__next__") ty XF (W4 XF ty Zz
  (qJ D gz gI gO g1 g2 t1 t2 hx hy fun g a1 a2 a3 a4 a5 a6=>VP (k g a1 a2 a3 a4 a5 a6)) (Zg _))))
def m6{Q:Option Value->Shared->Prop}(hh:A.handled=none)(D:ZipApart z TI TO i1 i2 l1 l2)(gz:IsZip s.heap z TI TO .none)(gI:IsPair s.heap TI (.ref i1) (.ref i2))(gO:IsPair s.heap TO a b)
  (g1:Si ka s.heap i1 l1 k1) (g2:Si kb s.heap i2 l2 k2) (t1:Sq ka s.heap l1 xs) (t2:Sq kb s.heap l2 ys) (he:xs[k1]?=none\/ys[k2]?=none)
  (k:∀g:Heap,(∀c o,c≠z->c≠TO->c≠i1->c≠i2->s.heap.get? c=some o->g.get? c=some o)->Q none { s with heap:=g }):wpAny (model prog w) A (pyNext (.ref z)) Q E s:=by
 have ty:s.TypeIs (.ref z) "zip":=⟨_,gz,rfl⟩
 unfold pyNext
 refine VG (Yz (WC (name:=Str.ofString "__next__") ty XF (W4 XF ty Zz (uv hh D gz gI gO g1 g2 t1 t2 he fun g e kk ⟨o,ho,hc⟩=>?_) (Zg _))))
 exact VG (YG (T:="StopIteration") (b:=true) ⟨o,ho,hc⟩ isSubtype_stop (VP (k _ kk)))
end
noncomputable abbrev it(kd:Bool)(l:Addr):Obj:={ cls:=.type (cond kd "list_iterator" "tuple_iterator"),data:=.fields #[.ref l,.int 0 0] }
def Si.mk{kd:Bool}{h:Heap}{a l:Addr}(e:h.get? a=some (it kd l)):Si kd h a l 0:=match kd,e with|true,e=>⟨_,e,rfl,rfl⟩|false,e=>⟨_,e,rfl,rfl⟩
noncomputable abbrev H1(ka:Bool)(h:Heap)(l1:Addr):Heap:=h.push (it ka l1)
noncomputable abbrev H2(ka kb:Bool)(h:Heap)(l1 l2:Addr):Heap:=(H1 ka h l1).push (it kb l2)
noncomputable abbrev H3(ka kb:Bool)(h:Heap)(l1 l2:Addr):Heap:=(H2 ka kb h l1 l2).push { cls:=.type "tuple",data:=.seq #[.ref h.objs.size,.ref (H1 ka h l1).objs.size] }
noncomputable abbrev H4(ka kb:Bool)(h:Heap)(l1 l2:Addr):Heap:=(H3 ka kb h l1 l2).push { cls:=.type "tuple",data:=.seq #[.none,.none] }
noncomputable abbrev H5(ka kb:Bool)(h:Heap)(l1 l2:Addr):Heap:=(H4 ka kb h l1 l2).push { cls:=.type "zip",data:=.fields #[.none,.bool false,.bool false,.ref (H2 ka kb h l1 l2).objs.size,.ref (H3 ka kb h l1 l2).objs.size] }
def fM(ka kb:Bool)(l1 l2:Addr)(xs ys:Zy) :
  Meets (Builtin.«zip.__new__» ⟨[.type "zip",.ref l1,.ref l2],[]⟩) (fun _ R s=>Sq ka s.heap l1 xs/\Sq kb s.heap l2 ys/\R (.ok (.ret (.ref (H4 ka kb s.heap l1 l2).objs.size))) { s with heap:=H5 ka kb s.heap l1 l2 }):=
 .of_wp fun prog w A R s h=>by
  obtain⟨hp,g,d,tk,os⟩:=s;obtain⟨e1,e2,h⟩:=h
  have hsub:=sub_zip
  match ka,kb,e1,e2,h with
  |false,false,e1,e2,h=>
   have L1:Heap.IsTuple (Shared.heap ⟨hp,g,d,tk,os⟩) l1 xs:=e1
   have L2:Heap.IsTuple (Shared.heap ⟨hp.push { cls:=.type "tuple_iterator",data:=.fields #[.ref l1,.int 0 0] },g,d,tk,os⟩) l2 ys:=Xo e2 _
   wp_walk using Wz L1,Wz L2
   exact⟨_,rfl,h⟩
  |false,true,e1,e2,h=>
   have L1:Heap.IsTuple (Shared.heap ⟨hp,g,d,tk,os⟩) l1 xs:=e1
   have L2:Heap.IsList (Shared.heap ⟨hp.push { cls:=.type "tuple_iterator",data:=.fields #[.ref l1,.int 0 0] },g,d,tk,os⟩) l2 ys:=Xv e2 _
   wp_walk using Wz L1,WN L2
   exact⟨_,rfl,h⟩
  |true,false,e1,e2,h=>
   have L1:Heap.IsList (Shared.heap ⟨hp,g,d,tk,os⟩) l1 xs:=e1
   have L2:Heap.IsTuple (Shared.heap ⟨hp.push { cls:=.type "list_iterator",data:=.fields #[.ref l1,.int 0 0] },g,d,tk,os⟩) l2 ys:=Xo e2 _
   wp_walk using WN L1,Wz L2
   exact⟨_,rfl,h⟩
  |true,true,e1,e2,h=>
   have L1:Heap.IsList (Shared.heap ⟨hp,g,d,tk,os⟩) l1 xs:=e1
   have L2:Heap.IsList (Shared.heap ⟨hp.push { cls:=.type "list_iterator",data:=.fields #[.ref l1,.int 0 0] },g,d,tk,os⟩) l2 ys:=Xv e2 _
   wp_walk using WN L1,WN L2
   exact⟨_,rfl,h⟩
section
variable {ka kb:Bool}{prog:Program}{w:World}{A:Around}{E:Zq}{s:Shared}
def ig{l1 l2:Addr}{xs ys:Zy}{Q:Zq}(e1:Sq ka s.heap l1 xs)(e2:Sq kb s.heap l2 ys)
  (k:∀g,IsZip g (s.heap.objs.size+4) (s.heap.objs.size+2) (s.heap.objs.size+3) .none->IsPair g (s.heap.objs.size+2) (.ref s.heap.objs.size) (.ref (s.heap.objs.size+1))->
   IsPair g (s.heap.objs.size+3) .none .none->Si ka g s.heap.objs.size l1 0->Si kb g (s.heap.objs.size+1) l2 0->
   (∀c o,s.heap.get? c=some o->g.get? c=some o)->Q (.ref (s.heap.objs.size+4)) { s with heap:=g }) :
  wpAny (model prog w) A (call (.type "zip") [.ref l1,.ref l2]) Q E s:=by
 refine callType_new F.called_zip (by decide) (F.typeCall_zip_2 _ _) (F.newCall_zip_2 _ _) (fun obj=>F.args_object_init_3 obj _ _) F.entry_zip_new (fM ka kb l1 l2 xs ys) ⟨e1,e2,?_⟩
 have z1:(H1 ka s.heap l1).objs.size=s.heap.objs.size+1:=W9 ..
 have z2:(H2 ka kb s.heap l1 l2).objs.size=s.heap.objs.size+2:=by rw[W9,z1]
 have z3:(H3 ka kb s.heap l1 l2).objs.size=s.heap.objs.size+3:=by rw[W9,z2]
 have z4:(H4 ka kb s.heap l1 l2).objs.size=s.heap.objs.size+4:=by rw[W9,z3]
 have g5:(H5 ka kb s.heap l1 l2).get? (H4 ka kb s.heap l1 l2).objs.size=some _:=VY _ rfl
 have g4:(H5 ka kb s.heap l1 l2).get? (H3 ka kb s.heap l1 l2).objs.size=some _:=VJ _ (VY _ rfl)
 have g3:(H5 ka kb s.heap l1 l2).get? (H2 ka kb s.heap l1 l2).objs.size=some _:=VJ _ (VJ _ (VY _ rfl))
 have g2:(H5 ka kb s.heap l1 l2).get? (H1 ka s.heap l1).objs.size=some _:=VJ _ (VJ _ (VJ _ (VY _ rfl)))
 have g1:(H5 ka kb s.heap l1 l2).get? s.heap.objs.size=some _:=VJ _ (VJ _ (VJ _ (VJ _ (VY _ rfl))))
 show _/\_
 rw[z2,z3,z4]at g5
 rw[z1,z2]at g3
 rw[z3]at g4
 rw[z1]at g2
 rw[z4]
 exact⟨⟨_,g5,rfl⟩,k _ g5 g3 g4 (.mk g1) (.mk g2) fun c o e=>VJ _ (VJ _ (VJ _ (VJ _ (VJ _ e))))⟩
end
end Zt
namespace L2
open PySem PySem.Spec PyProof.Rows
section
variable {X:Cx}{pins:Za}{σ:St}{H:Hp}{s:Shared}{h':Heap}
def Inv.LV{t':Nat}{fp:List Addr}(I:Inv X pins σ H s)(k:∀b o,b ∉ fp->s.heap.get? b=some o->h'.get? b=some o)(hf:∀b∈fp,fV X pins H b):Inv X pins σ H { s with heap:=h',toks:=t' }:=by
 have Rz:∀b u,H b=some u->b ∉ fp:=fun b u e z=>by rw[(hf b z).1]at e;cases e
 refine I.step (g':=s.gens) (d':=s.drawn) (ch:=fp) (fun b hb=>?_) (fun b o _ _ hc e _=>k b o hc e) (fun b o _ _ hc e _=>⟨o.slots,k b o hc e⟩) (fun _ _ _ _ n=>n)
  (fun b o hc e=>⟨o,k b o hc e⟩) (fun _ _ e=>e) (fun _ _ _ e=>e) (fun b ps e=>⟨#[],by rw[e];simp⟩) (fun m hm=>?_) (fun b u e=>?_) I.bare
 ·obtain⟨f0,f1,f2,f3,f4,f5⟩:=hf b hb
  exact⟨f3,f1,f4,f5⟩
 ·obtain⟨o,es,ep,ho,r⟩:=hm
  exact⟨o,es,ep,k _ o (fun z=>(hf _ z).2.1 rfl) ho,r⟩
 ·refine(I.hok b u e).stay (fun c v hc q=>k c v ?_ q) (fun _ q=>q) fun _ _ q=>q
  rcases hc with z|z
  ·rw[z];exact Rz b u e
  ·exact Rz c _ z
def Inv.Om{D:Addr}{us:Zx}{ys:List V}(I:Inv X pins σ H s)(f:fV X pins H D)(e:KZ s.heap D us.toArray)(r:Vals ys us)(hz:ys.length<=sizeLine) :
  Inv X pins σ (upd H D (.tup ys)) s:=by
 obtain⟨f0,f1,f2,f3,f4,f5⟩:=f
 have nD:∀b u,H b=some u->b≠D:=fun b u q=>bw q f0
 have hok:MS X.prog X.w (upd H D (.tup ys)) s.heap:=fun b u q=>by
  by_cases hb:b=D
  ·subst hb
   rw[aH]at q
   cases q
   exact⟨hz,us,r,e⟩
  ·rw[aM hb]at q
   exact(I.hok b u q).stay (fun _ _ _ z=>z) (fun c z=>by rw[aM (nD c _ z)];exact z) fun c xs z=>by rw[aM (nD c _ z)];exact z
 exact I.step (H':=upd H D (.tup ys)) (h':=s.heap) (g':=s.gens) (t':=s.toks) (d':=s.drawn) (ch:=[D])
  (fun b hb=>by
   have z:b=D:=by simpa using hb
   subst z
   exact⟨f3,f1,f4,f5⟩)
  (fun _ _ _ _ _ q _=>q) (fun _ o _ _ _ q _=>⟨o.slots,q⟩)
  (fun b o hb _ n=>by rw[aM (fun z=>hb (by simp[z]))];exact n)
  (fun _ o _ q=>⟨o,q⟩) (fun b xs q=>by rw[aM (nD b _ q)];exact q) (fun b o u q=>by rw[aM (nD b _ q)];exact q)
  (fun b ps q=>⟨#[],by rw[aM (nD b _ q),q];simp⟩) (fun _ q=>q) hok I.bare
end
def m7(kd:Bool)(K:Zo)(H:Hp)(a:Addr)(xs:List V):Prop:=cond kd (SqL K H a xs) (SqT K H a xs)
def Inv.Nr{X:Cx}{pins:Za}{σ:St}{H:Hp}{s:Shared}{kd:Bool}{a:Addr}{xs:List V}(I:Inv X pins σ H s)(h:m7 kd X.K H a xs):∃its:List Value,Vals xs its/\Zt.Sq kd s.heap a its.toArray:=by
 cases kd with
 |true=>obtain⟨i,r,p,z⟩:=I.list h;exact⟨i,r,p.isList⟩
 |false=>obtain⟨i,r,p,z⟩:=I.tuple h;exact⟨i,r,p⟩
def Inv.ME{X:Cx}{pins:Za}{σ:St}{H:Hp}{s:Shared}{kd:Bool}{a:Addr}{xs ys:List V}(I:Inv X pins σ H s)(h:m7 kd X.K H a xs)(g:m7 kd X.K H a ys):xs=ys:=by
 cases kd with
 |true=>exact I.NU h g
 |false=>exact I.MT h g
noncomputable def IN(ka kb:Bool)(K:Zo)(a b:Addr):It:=
  ⟨fun i H=>∃xs ys x y,m7 ka K H a xs/\m7 kb K H b ys/\xs[i]?=some x/\ys[i]?=some y,
   fun i H v H'=>∃p x y,v = .ref p/\H p=none/\H'=upd H p (.tup [x,y])/\∀xs ys,m7 ka K H a xs->m7 kb K H b ys->xs[i]?=some x/\ys[i]?=some y,
   fun i H=>∃xs ys,m7 ka K H a xs/\m7 kb K H b ys/\(xs.length<=i\/ys.length<=i)⟩
def yy{ka kb:Bool}{P:Program}{w:World}{K:Zo}{elts:List Expr}{k0:Nat}{L6:Pos}{z TI TO i1 i2 a b:Addr}(D:ZipApart z TI TO i1 i2 a b) :
  mV P w K (.Tuple elts k0 L6) (IN ka kb K a b) [z,TI,TO,i1,i2] z (fun i h=>IsZip h z TI TO .none/\IsPair h TI (.ref i1) (.ref i2)/\(∃x y,IsPair h TO x y)/\Zt.Si ka h i1 a i/\Zt.Si kb h i2 b i) where
 mem:=by simp
 obj:=fun i h st c hc=>by
  obtain⟨gz,gI,⟨x,y,gO⟩,g1,g2⟩:=st
  obtain⟨o1,_,e1,d1⟩:=g1.ob;obtain⟨o2,_,e2,d2⟩:=g2.ob
  simp only[VL,V3,WK]at hc
  rcases hc with rfl|rfl|rfl|rfl|rfl
  ·exact⟨_,gz,fun v q=>by cases q⟩
  ·exact⟨_,gI,fun v q=>by cases q⟩
  ·exact⟨_,gO,fun v q=>by cases q⟩
  ·exact⟨_,e1,fun v q=>by rw[d1]at q;cases q⟩
  ·exact⟨_,e2,fun v q=>by rw[d2]at q;cases q⟩
 keep:=fun i h h' st k=>by
  obtain⟨gz,gI,⟨x,y,gO⟩,g1,g2⟩:=st
  exact⟨k z (by simp) _ gz,k TI (by simp) _ gI,⟨x,y,k TO (by simp) _ gO⟩,g1.at fun o e=>k i1 (by simp) o e,g2.at fun o e=>k i2 (by simp) o e⟩
 item:=by
  intro X hP hw hK hc i pins s σ H E I hf st hg
  subst hP hw hK
  obtain⟨gz,gI,⟨ta,tb,gO⟩,g1,g2⟩:=st
  obtain⟨xs,ys,x,y,On,Ra,hx,hy⟩:=hg
  obtain⟨ia,ra,pa⟩:=I.Nr On
  obtain⟨ib,rb,pb⟩:=I.Nr Ra
  obtain⟨u,hu,ru⟩:=ra.get hx
  obtain⟨v,hv,rv⟩:=rb.get hy
  refine Zt.lq D gz gI gO g1 g2 pa pb (x:=u) (y:=v) (by simpa using hu) (by simpa using hv) fun g a1 a2 a3 a4 a5 a6=>?_
  refine⟨_,rfl,wpAny_letOwnedTupleGo_zip (s:={ s with heap:=g }) a1 fun g' z' q'=>?_⟩
  have kk:∀c o,c ∉ [z,TI,TO,i1,i2]->s.heap.get? c=some o->g'.get? c=some o:=fun c o hc e=>by
   simp only[VL,V3,WK,not_or]at hc
   exact q'.extBut _ _ hc.1 (a6 c o hc.1 hc.2.2.1 hc.2.2.2.1 hc.2.2.2.2 e)
  have I1:Inv X pins σ H { s with heap:=g' }:=I.LV (t':=s.toks) kk hf
  have f0:fV X pins H s.heap.objs.size:=I.M6 (VM _) (I.hok.fresh (VM _))
  have eT:KZ g' s.heap.objs.size [u,v].toArray:=⟨_,q'.extBut _ _ (Xx (VR gz)) a5,rfl,rfl,_,rfl⟩
  have I2:=I1.Om f0 eT (.cons ru (.cons rv .nil)) (by show 2<=sizeLine;decide)
  refine⟨.ref s.heap.objs.size,_,I2,rfl,⟨s.heap.objs.size,x,y,rfl,f0.1,rfl,fun xs' ys' h1 h2=>by rw[I.ME h1 On,I.ME h2 Ra];exact⟨hx,hy⟩⟩,
   ⟨z',q'.extBut _ _ D.TIz (a6 TI _ D.TIz D.TITO D.TIi1 D.TIi2 gI),⟨_,_,q'.extBut _ _ D.TOz a2⟩,a3.extBut q'.extBut D.i1z,a4.extBut q'.extBut D.i2z⟩,fun c hc=>?_⟩
  have hlt:c < s.heap.objs.size:=by
   obtain⟨_,_,e1,_⟩:=g1.ob
   obtain⟨_,_,e2,_⟩:=g2.ob
   simp only[VL,V3,WK]at hc
   rcases hc with rfl|rfl|rfl|rfl|rfl
   ·exact VR gz
   ·exact VR gI
   ·exact VR gO
   ·exact VR e1
   ·exact VR e2
  rw[aM (Wa hlt)]
  exact(hf c hc).1
 done:=by
  intro X hP hw hK hc i pins s σ H E I hf st hg
  subst hP hw hK
  obtain⟨gz,gI,⟨ta,tb,gO⟩,g1,g2⟩:=st
  obtain⟨xs,ys,On,Ra,hl⟩:=hg
  obtain⟨ia,ra,pa⟩:=I.Nr On
  obtain⟨ib,rb,pb⟩:=I.Nr Ra
  have la:=ra.length
  have lb:=rb.length
  refine Zt.m6 (I.ok.hd hc) D gz gI gO g1 g2 pa pb ?_ fun g kk=>⟨rfl,I.LV (t':=s.toks) (fun c o hc e=>?_) hf⟩
  ·rcases hl with q|q
   ·exact .inl (by simp;omega)
   ·exact .inr (by simp;omega)
  ·simp only[VL,V3,WK,not_or]at hc
   exact kk c o hc.1 hc.2.2.1 hc.2.2.2.1 hc.2.2.2.2 e
 self:=fun _ _ _ _ _ st h=>ZA st.1 h
section
variable {X:Cx}
def IP(K:Zo)(ta:TA):TI:=fun σ H R=>ta σ H fun vs H1=>∃ka kb a b,vs=[.ref a,.ref b]/\(∃xs,m7 ka K H1 a xs)/\(∃ys,m7 kb K H1 b ys)/\R (IN ka kb K a b) H1
def yz{elts:List Expr}{k0:Nat}{L6:Pos}{a b:Expr}{ta:TA}{p pos:Pos}(hg:Gl X "zip")(hm:X.mg "zip" = none)(hv:bootBuiltins "zip" = some (.type "zip"))(ha:PA X [a,b] ta)
  (hs:starEach [a,b] X.env=[(false,eval a X.env),(false,eval b X.env)]:=by rfl) (hs2:starEach [b] X.env=[(false,eval b X.env)]:=by rfl):PI X (.Tuple elts k0 L6) (.Call (.Name "zip" p) [a,b] [] pos) (IP X.K ta):=by
 intro pins s σ H R I h
 refine Call_ (fw I hg hm hv (WM (J9 (ha pos pins s σ H _ I h) fun us s1 ⟨vs,H1,I1,r1,q1⟩=>?_) (by rw[hs,hs2]) (by rw[hs2];rfl)))
 obtain⟨ka,kb,a,b,e,⟨xs,qa⟩,⟨ys,qb⟩,q⟩:=q1
 subst e
 obtain⟨u,v,rfl,ru,rv⟩:=yd r1
 cases ru
 cases rv
 obtain⟨ia,ra,pa⟩:=I1.Nr qa
 obtain⟨ib,rb,pb⟩:=I1.Nr qb
 have la:a < s1.heap.objs.size:=pa.lt
 have lb:b < s1.heap.objs.size:=pb.lt
 refine Zt.ig pa pb fun g gz gI gO g1 g2 kk=>?_
 refine ZA (s:={ s1 with heap:=g }) gz ?_
 refine⟨_,[s1.heap.objs.size+4,s1.heap.objs.size+2,s1.heap.objs.size+3,s1.heap.objs.size,s1.heap.objs.size+1],_,_,H1,rfl,I1.kept (t':=s1.toks) kk,yy (zipApart_new la lb),⟨gz,gI,⟨_,_,gO⟩,g1,g2⟩,fun c hc=>?_,q⟩
 have hle:s1.heap.objs.size<=c:=by
  simp only[VL,V3,WK]at hc
  rcases hc with rfl|rfl|rfl|rfl|rfl
  ·exact WE _ _
  ·exact WE _ _
  ·exact WE _ _
  ·exact VM _
  ·exact WE _ _
 exact I1.M6 hle (I1.hok.fresh hle)
def KD(P:Program)(w:World)(K:Zo)(a:Addr)(kvs:List (bo×V)):Prop:=(a == sysModules)=false/\∃o vs,K.lookup a=some o/\KV kvs vs/\Obj.IsDictOf (ba P w) o vs
def GF(a:Addr)(kvs:List (bo×V))(ty tx:TE):TE:=fun σ H Q=>ty σ H fun y H2=>tx σ H2 fun z H3=>∃k,y=kV k/\Q ((jB kvs k).getD z) H3
def Bq{x:Str}{e f:Expr}{px apos cpos:Pos}{ty tx:TE}{a:Addr}{kvs:List (bo×V)}(hu:X.A.units+1 < cLine)(hg:Gl X x)(hm:X.mg x=some (.ref a))(hD:KD X.prog X.w X.K a kvs)(he:PE X e ty)(hf:PE X f tx)(m:M2 X (.Name x px) "get" apos e f cpos)
  (hd:(x == ("__debug__":Str))=false:=by decide):PE X (.Call (.Attribute (.Name x px) "get" apos) [e,f] [] cpos) (GF a kvs ty tx):=by
 intro pins s σ H Q I h
 obtain⟨hsys,o,vs,hk,rel,ii⟩:=hD
 have dd:∀{s1:Shared}{H1:Hp},Inv X pins σ H1 s1->s1.heap.DictOf (ba X.prog X.w) a vs:=fun I1=>Heap.dictOf_iff.mpr ⟨o,I1.PY a o hk,ii⟩
 refine wpAny_Call_method m.base m.few m.line PySem.F.plainAttrs_dict PySem.F.slot_dict_get PySem.F.type_dict_get (vj I hg hm ?_ hd)
 refine⟨(dd I).typeIs,fun b q=>?_,?_⟩
 ·cases q
  obtain⟨ob,_,_,h1,h2,_⟩:=dd I
  exact⟨ob,h1,h2.2.1⟩
 rw[m.trees]
 refine Yq rfl (ZF (XS (J9 (he pins s σ H _ I h) fun iv s2 ⟨y,H2,I2,ry,q2⟩=>
  XS (J9 (hf pins s2 σ H2 _ I2 q2) fun fv s3 ⟨z,H3,I3,rz,k,ey,q3⟩=>YA ?_))))
 subst ey
 refine call_meetsIn PySem.F.slot_dict_get (dd I3).typeIs PySem.F.entry_dict_get (PySem.F.args_dict_get_3 _ _ _) (meets_dict_get_default (ba X.prog X.w) a (mf ry) hsys fv) ⟨_,(dd I3).mapOf,⟨_,H3,I3.tok _,?_,q3⟩⟩
 exact(rel.val k).getD rz
end
section
variable {env:Env}{rest:List Expr}{pos:Pos}
def Br{x:Str}:starEach (.Name x pos::rest) env=(false,eval (.Name x pos) env)::starEach rest env:=rfl
def wN{a:Expr}{gs:List Comprehension}{sc:Scope}:starEach (.ListComp a gs sc pos::rest) env=(false,eval (.ListComp a gs sc pos) env)::starEach rest env:=rfl
end
noncomputable def IQ(K:Zo)(a:Addr):It:=
  ⟨fun i H=>∃xs x,SqL K H a xs/\xs[i]?=some x,
   fun i H v H'=>∃p x,v = .ref p/\H p=none/\H'=upd H p (.tup [.int (i:Nat),x])/\∀xs,SqL K H a xs->xs[i]?=some x,
   fun i H=>∃xs,SqL K H a xs/\xs.length<=i⟩
def wO{P:Program}{w:World}{K:Zo}{elts:List Expr}{k0:Nat}{L6:Pos}{e it a:Addr}(hei:e≠it) :
  mV P w K (.Tuple elts k0 L6) (IQ K a) [e,it] e (fun i h=>(∃old,IsEnum h e it i old)/\h.IsListIter it a i) where
 mem:=by simp
 obj:=fun i h st c hc=>by
  obtain⟨⟨old,ge⟩,⟨o1,e1,_,d1⟩⟩:=st
  simp only[VL,V3,WK]at hc
  rcases hc with rfl|rfl
  ·exact⟨_,ge,fun v q=>by cases q⟩
  ·exact⟨_,e1,fun v q=>by rw[d1]at q;cases q⟩
 keep:=fun i h h' st k=>by
  obtain⟨⟨old,ge⟩,g1⟩:=st
  exact⟨⟨old,k e (by simp) _ ge⟩,g1.at fun o q=>k it (by simp) o q⟩
 item:=by
  intro X hP hw hK hc i pins s σ H E I hf st hg
  subst hP hw hK
  obtain⟨⟨old,ge⟩,g1⟩:=st
  obtain⟨xs,x,On,hx⟩:=hg
  obtain⟨ia,ra,pa,za⟩:=I.list On
  obtain⟨u,hu,ru⟩:=ra.get hx
  refine wpAny_pyNext_enum_item ge g1 pa.isList (x:=u) (by simpa using hu) hei fun g a1 a2 a3 a4 a5=>?_
  refine⟨_,rfl,wpAny_letOwnedTupleGo_enum (s:={ s with heap:=g,toks:=s.toks+1 }) a1 fun g' z' q'=>?_⟩
  have kk:∀c o,c ∉ [e,it]->s.heap.get? c=some o->g'.get? c=some o:=fun c o hc q=>by
   simp only[VL,V3,WK,not_or]at hc
   exact(q'.2 c hc.1).trans (a5 c o hc.1 hc.2 q)
  have I1:Inv X pins σ H { s with heap:=g',toks:=s.toks+1 }:=I.LV kk hf
  have f0:fV X pins H s.heap.objs.size:=I.M6 (VM _) (I.hok.fresh (VM _))
  have SZ:s.heap.objs.size≠e:=Xx (VR ge)
  have eT:KZ g' s.heap.objs.size [Value.int i s.toks,u].toArray:=⟨_,(q'.2 _ SZ).trans a3,rfl,rfl,_,rfl⟩
  have I2:=I1.Om (ys:=[.int i,x]) f0 eT (.cons ⟨_,rfl⟩ (.cons ru .nil)) (by show 2<=sizeLine;decide)
  refine⟨.ref s.heap.objs.size,_,I2,rfl,⟨s.heap.objs.size,x,rfl,f0.1,rfl,fun xs' h1=>by rw[I.NU h1 On];exact hx⟩,⟨⟨u,by simpa using z'⟩,a2.at fun o q=>(q'.2 it hei.symm).trans q⟩,fun c hc=>?_⟩
  have hlt:c < s.heap.objs.size:=by
   obtain⟨o1,e1,_⟩:=g1
   simp only[VL,V3,WK]at hc
   rcases hc with rfl|rfl
   ·exact VR ge
   ·exact VR e1
  rw[aM (Wa hlt)]
  exact(hf c hc).1
 done:=by
  intro X hP hw hK hc i pins s σ H E I hf st hg
  subst hP hw hK
  obtain⟨⟨old,ge⟩,g1⟩:=st
  obtain⟨xs,On,hl⟩:=hg
  obtain⟨ia,ra,pa,za⟩:=I.list On
  have la:=ra.length
  refine wpAny_pyNext_enum_end (I.ok.hd hc) ge g1 pa.isList (by simp;omega) fun g kk=>⟨rfl,I.LV (t':=s.toks) (fun c o hc q=>?_) hf⟩
  simp only[VL,V3,WK,not_or]at hc
  exact kk c o hc.2 q
 self:=fun _ _ _ _ _ st h=>by
  obtain⟨⟨old,ge⟩,_⟩:=st
  exact Zh ge h
end L2
namespace Et
open PySem
open Sem (wp)
open AutoSeq1 (wpAny_loadPart')
def Dd{P:Program}{w:World}{A:Around}(hh:A.handled=none)(it t:Addr)(hne:t≠it)(its:Zy) :
  Draws P w A it [it,t] its.size (fun i v=>its[i]?=some v) (fun i h=>h.IsTupleIter it t i/\h.IsTuple t its) where
 live:=fun i h st=>let ⟨⟨o,e,_⟩,_⟩:=st;⟨o,e⟩
 frame:=fun i h h' st k=>⟨st.1.at fun o e=>k it (by simp) o e,let ⟨o,e,r⟩:=st.2;⟨o,k t (by simp) o e,r⟩⟩
 item:=fun i s Q E hi st hQ=>Zt.nx st.1 st.2 (YL hi) fun g a b=>hQ _ g s.toks (YL hi) ⟨a,st.2.extBut b.extBut hne⟩ b
 done:=fun s Q E st hE=>Zt.Jt hh st.1 st.2 (Yr (VM _)) hE
noncomputable abbrev E1(h:Heap)(l:Addr):Heap:=h.push { cls:=.type "tuple_iterator",data:=.fields #[.ref l,.int 0 0] }
noncomputable abbrev E2(h:Heap)(l:Addr):Heap:=(E1 h l).push { cls:=.type "enumerate",data:=.fields #[.none,.bool false,.ref h.objs.size,rawInt 0,.none,.none] }
def fM(l:Addr)(its:Zy)(n:Nat)(dct:Option Addr)(sl:Array (Option Value)) :
  Meets (Builtin.«enumerate.__new__» ⟨[.type "enumerate",.ref l],[]⟩) (fun _ R s=>s.heap.get? l=some { cls:=.type "tuple",dict:=dct,data:=.seq its n,slots:=sl }/\R (.ok (.ret (.ref (E1 s.heap l).objs.size))) { s with heap:=E2 s.heap l }):=
 .of_wp fun prog w A R s h=>by
  obtain⟨hp,g,d,tk,os⟩:=s;obtain⟨hl,h⟩:=h
  have hsub:=sub_enumerate
  have T:Heap.IsTuple (Shared.heap ⟨hp,g,d,tk,os⟩) l its:=⟨_,hl,rfl,n,rfl⟩
  wp_walk using WT hl
  refine wpAny_stack_any fun st=>VP ?_
  split
  ·rename_i c _ _ _ _ _
   cases (c == Value.type "enumerate")
   ·wp_walk using WT hl,Wz T
    exact⟨_,rfl,h⟩
   ·wp_walk using WT hl,Wz T
    exact⟨_,rfl,h⟩
  ·wp_walk using WT hl,Wz T
   exact⟨_,rfl,h⟩
def ig{P:Program}{w:World}{A:Around}{E:Zq}{s:Shared}{l:Addr}{its:Zy}{Q:Zq}(hT:s.heap.IsTuple l its)
  (k:∀g,IsEnum g (s.heap.objs.size+1) s.heap.objs.size 0 .none->g.IsTupleIter s.heap.objs.size l 0->(∀b o,s.heap.get? b=some o->g.get? b=some o)->Q (.ref (s.heap.objs.size+1)) { s with heap:=g }) :
  wpAny (model P w) A (call (.type "enumerate") [.ref l]) Q E s:=by
 obtain⟨⟨c,dct,dt,sl⟩,hl,hc,n,hd⟩:=hT
 replace hc:c = .type "tuple":=hc
 replace hd:dt = .seq its n:=hd
 subst hc hd
 refine callType_new F.called_enumerate (by decide) (F.typeCall_enumerate_1 _) (F.newCall_enumerate_1 _) (fun obj=>F.args_object_init_2 obj _) F.entry_enumerate_new (fM l its n dct sl) ⟨hl,?_⟩
 have hz:(E1 s.heap l).objs.size=s.heap.objs.size+1:=W9 ..
 show _/\_
 rw[hz]
 have he:IsEnum (E2 s.heap l) (s.heap.objs.size+1) s.heap.objs.size 0 .none:=by
  have q:=VY (E1 s.heap l) (o:={ cls:=.type "enumerate",data:=.fields #[.none,.bool false,.ref s.heap.objs.size,rawInt 0,.none,.none] }) rfl
  rw[hz]at q
  exact q
 exact⟨⟨_,he,rfl⟩,k _ he ⟨_,VJ _ (VY _ rfl),rfl,rfl⟩ fun b o x=>VJ _ (VJ _ x)⟩
end Et
namespace L2
open PySem PySem.Spec PyProof.Rows
noncomputable def IR(K:Zo)(a:Addr):It:=
  ⟨fun i H=>∃xs x,SqT K H a xs/\xs[i]?=some x,
   fun i H v H'=>∃p x,v = .ref p/\H p=none/\H'=upd H p (.tup [.int (i:Nat),x])/\∀xs,SqT K H a xs->xs[i]?=some x,
   fun i H=>∃xs,SqT K H a xs/\xs.length=i⟩
def ux{P:Program}{w:World}{K:Zo}{elts:List Expr}{k0:Nat}{L6:Pos}{e it a:Addr}(hei:e≠it)(UN:a≠e)(hai:a≠it) :
  mV P w K (.Tuple elts k0 L6) (IR K a) [e,it] e (fun i h=>(∃old,IsEnum h e it i old)/\h.IsTupleIter it a i) where
 mem:=by simp
 obj:=fun i h st c hc=>by
  obtain⟨⟨old,ge⟩,⟨o1,e1,_,d1⟩⟩:=st
  simp only[VL,V3,WK]at hc
  rcases hc with rfl|rfl
  ·exact⟨_,ge,fun v q=>by cases q⟩
  ·exact⟨_,e1,fun v q=>by rw[d1]at q;cases q⟩
 keep:=fun i h h' st k=>by
  obtain⟨⟨old,ge⟩,g1⟩:=st
  exact⟨⟨old,k e (by simp) _ ge⟩,g1.at fun o q=>k it (by simp) o q⟩
 item:=by
  intro X hP hw hK hc i pins s σ H E I hf st hg
  subst hP hw hK
  obtain⟨⟨old,ge⟩,g1⟩:=st
  obtain⟨xs,x,On,hx⟩:=hg
  obtain⟨ia,ra,pa,za⟩:=I.tuple On
  obtain⟨u,hu,ru⟩:=ra.get hx
  have hil:i < ia.toArray.size:=by
   rcases Nat.lt_or_ge i ia.length with q|q
   ·simpa using q
   ·rw[W6 q]at hu;cases hu
  refine wpAny_pyNext_enum_itemD (Et.Dd (P:=X.prog) (w:=X.w) (A:=X.A.in1) (I.ok.hd hc) it a hai ia.toArray) ge ⟨g1,(show s.heap.IsTuple a ia.toArray from pa)⟩ hil hei (by simp[hei,Xl UN]) fun v g tk hv a1 a2 a3 a4 a5=>?_
  have ev:v=u:=by
   have q:ia[i]?=some v:=by simpa using hv
   rw[q]at hu
   exact WR hu
  subst ev
  refine⟨_,rfl,wpAny_letOwnedTupleGo_enum (s:={ s with heap:=g,toks:=tk+1 }) a1 fun g' z' q'=>?_⟩
  have kk:∀c o,c ∉ [e,it]->s.heap.get? c=some o->g'.get? c=some o:=fun c o hc q=>by
   simp only[VL,V3,WK,not_or]at hc
   exact(q'.2 c hc.1).trans (a5 c o hc.1 hc.2 q)
  have I1:Inv X pins σ H { s with heap:=g',toks:=tk+1 }:=I.LV kk hf
  have f0:fV X pins H s.heap.objs.size:=I.M6 (VM _) (I.hok.fresh (VM _))
  have SZ:s.heap.objs.size≠e:=Xx (VR ge)
  have eT:KZ g' s.heap.objs.size [Value.int i tk,v].toArray:=⟨_,(q'.2 _ SZ).trans a3,rfl,rfl,_,rfl⟩
  have I2:=I1.Om (ys:=[.int i,x]) f0 eT (.cons ⟨_,rfl⟩ (.cons ru .nil)) (by show 2<=sizeLine;decide)
  refine⟨.ref s.heap.objs.size,_,I2,rfl,⟨s.heap.objs.size,x,rfl,f0.1,rfl,fun xs' h1=>by rw[I.MT h1 On];exact hx⟩,⟨⟨v,by simpa using z'⟩,a2.1.at fun o q=>(q'.2 it hei.symm).trans q⟩,fun c hc=>?_⟩
  have hlt:c < s.heap.objs.size:=by
   obtain⟨o1,e1,_⟩:=g1
   simp only[VL,V3,WK]at hc
   rcases hc with rfl|rfl
   ·exact VR ge
   ·exact VR e1
  rw[aM (Wa hlt)]
  exact(hf c hc).1
 done:=by
  intro X hP hw hK hc i pins s σ H E I hf st hg
  subst hP hw hK
  obtain⟨⟨old,ge⟩,g1⟩:=st
  obtain⟨xs,On,hl⟩:=hg
  obtain⟨ia,ra,pa,za⟩:=I.tuple On
  have la:=ra.length
  have ei:i=ia.toArray.size:=by simp;omega
  subst ei
  refine wpAny_pyNext_enum_endD (Et.Dd (P:=X.prog) (w:=X.w) (A:=X.A.in1) (I.ok.hd hc) it a hai ia.toArray) ge ⟨g1,(show s.heap.IsTuple a ia.toArray from pa)⟩ fun g kk=>⟨rfl,I.LV (t':=s.toks) (fun c o hc q=>?_) hf⟩
  simp only[VL,V3,WK,not_or]at hc
  exact kk c o hc.2 q
 self:=fun _ _ _ _ _ st h=>by
  obtain⟨⟨old,ge⟩,_⟩:=st
  exact Zh ge h
section
variable {X:Cx}
def wP:j3 X (compareOp .IsNot) (fun x y H Q=>x = .bl true/\y = .bl true/\Q (.bl false) H):=by
 intro pins s σ H x y v u Q I rx ry h
 obtain⟨rfl,rfl,q⟩:=h
 cases (show v=Value.bool true from rx)
 cases (show u=Value.bool true from ry)
 exact wpAny_isNot_self rfl ⟨.bl false,H,I,rfl,q⟩
end
def yA(w:World)(x:Str):PyData.keyHash w.params x=hashStr w x:=rfl
noncomputable abbrev HX(w:World)(x:Str×Int×Tok×Tok):DictEntry:=⟨PyData.keyHash w.params x.1,.str x.1 x.2.2.1,.int x.2.1 x.2.2.2⟩
def Ew(P:Program)(w:World)(xs:List (Str×Int×Tok×Tok))(ep:Nat)(nd:(xs.map (·.1)).Nodup) :
  ∃vs,KV (xs.map fun x=>((Sum.inr x.1:bo),V.int x.2.1)) vs/\Obj.IsDictOf (ba P w) { cls:=.type "dict",data:=.dict (xs.map (HX w)).toArray ep } vs:=by
 refine⟨xs.map fun x=>((Sum.inr x.1:bo),Value.int x.2.1 x.2.2.2),?_,(xs.map (HX w)).toArray,ep,⟨rfl,rfl,rfl⟩,rfl,?_,?_,?_⟩
 ·induction xs with
  |nil=>exact .nil
  |cons x xs ih=>exact .cons ⟨rfl,_,rfl⟩ (ih (by simpa using(WJ.mp (by simpa using nd)).2))
 ·intro e he
  have he':e∈xs.map (HX w):=by simpa using he
  obtain⟨x,_,rfl⟩:=VW.mp he'
  exact⟨Sum.inr x.1,ld x.1 x.2.2.1,yA w x.1⟩
 ·have key:∀ys:List (Str×Int×Tok×Tok),Pairs (ba P w) (ys.map (HX w)) (ys.map fun x=>((Sum.inr x.1:bo),Value.int x.2.1 x.2.2.2)):=by
   intro ys
   induction ys with
   |nil=>exact .nil
   |cons y ys ih=>exact .cons (ld y.1 y.2.2.1) rfl ih
  exact key xs
 ·rw[V9]
  have e:((fun x:bo×Value=>x.1) ∘ fun x:Str×Int×Tok×Tok=>((Sum.inr x.1:bo),Value.int x.2.1 x.2.2.2))=fun x=>Sum.inr x.1:=rfl
  have key:∀ys:List (Str×Int×Tok×Tok),(ys.map (·.1)).Nodup->(ys.map fun x=>(Sum.inr x.1:bo)).Nodup:=by
   intro ys
   induction ys with
   |nil=>intro _;exact ZV
   |cons y ys ih=>
    intro h
    rw[VT,WJ]at h ⊢
    refine⟨fun hm=>h.1 ?_,ih h.2⟩
    obtain⟨z,hz,e⟩:=VW.mp hm
    have e':z.1=y.1:=Sum.inr.inj e
    exact VW.mpr ⟨z,hz,e'⟩
  exact key xs nd
end L2
namespace Wd
open PySem L2 PyProof.Rows
noncomputable def abc:Str:="abcdefghijklmnopqrstuvwxyz"
noncomputable def LB:List Str:=["jars","deed","rest","pay","put","then","either","take","often","use"]
def Ex:∀i,i < 26->abc.cps.toList[i]?=some (97+i):=by decide +kernel
def mN:abc.length<=sizeLine/\abc.cps.toList.length=26:=by decide +kernel
def yB:∀i,i < 26->Builtin.Str.occurrences abc (lj (97+i)) 0 abc.length 1=[i]:=by decide +kernel
theorem vy{α:Type} [BEq α] [LawfulBEq α]:∀{xs ys:List α},xs.Nodup->(∀x∈xs,x∈ys)->xs.length<=ys.length
 |[],ys,_,_=>Ws _
 |x::xs,ys,nd,h=>by
  have hx:=h x (Xu ..)
  have q:=vy (xs:=xs) (ys:=ys.erase x) (WJ.mp nd).2 fun y hy=>by
   have ne:y≠x:=fun e=>(WJ.mp nd).1 (e▸hy)
   exact(List.mem_erase_of_ne ne).mpr (h y (W8 _ hy))
  rw[List.length_erase_of_mem hx]at q
  have:=List.length_pos_of_mem hx
  rw[V1]
  omega
noncomputable def cand(r:List Nat)(i:Nat):Str:=⟨((97+i % 26)::r).toArray⟩
def yC{r:List Nat}{i j:Nat}(h:cand r i=cand r j):i % 26=j % 26:=by
 have e:(((97+i % 26)::r).toArray).toList=(((97+j % 26)::r).toArray).toList:=WW (fun z:Str=>z.cps.toList) h
 simp only[Yx]at e
 omega
def uy(r:List Nat)(c:Nat):((List.range 26).map fun i=>cand r (c+i)).Nodup:=by
 refine List.pairwise_map.mpr (List.Pairwise.imp_of_mem (R:=(·≠·)) ?_ List.nodup_range)
 intro a b ha hb ne e
 have h1:=Ym.mp ha
 have h2:=Ym.mp hb
 have h3:=yC e
 omega
def wQ(r:List Nat)(c:Nat)(bad:Zs)(h:bad.length < 26):∃j,j < 26/\cand r (c+j) ∉ bad:=by
 refine YM fun no=>?_
 have q:=vy (uy r c) (ys:=bad) fun x hx=>by
  obtain⟨j,hj,rfl⟩:=VW.mp hx
  exact YM fun z=>no ⟨j,Ym.mp hj,z⟩
 rw[VI,List.length_range]at q
 omega
structure OQ(z:Str):Prop where
 ne:z.cps.toList≠[]
 le:z.cps.toList.length<=6
 sm:∀c∈z.cps.toList,97<=c/\c<=122
theorem OQ.cand{z:Str}(h:OQ z):∃i r,z=Wd.cand r i/\i < 26/\r.length<=5/\∀c∈r,97<=c/\c<=122:=by
 obtain⟨⟨⟨l⟩⟩,ne,le,sm⟩:∃z',_/\_/\_:=⟨z,h.ne,h.le,h.sm⟩
 obtain⟨⟨l⟩⟩:=z
 cases l with
 |nil=>exact absurd rfl h.ne
 |cons c r=>
  have q:=h.sm c (Xu ..)
  refine⟨c - 97,r,?_,by omega,by have:=h.le;simp at this;omega,fun d hd=>h.sm d (W8 _ hd)⟩
  unfold Wd.cand
  rw[show 97+(c - 97) % 26=c by omega]
def yD{r:List Nat}(h:r.length<=5)(hs:∀c∈r,97<=c/\c<=122)(i:Nat):OQ (cand r i):=by
 refine⟨by simp[cand],by simp[cand];omega,fun c hc=>?_⟩
 have hc':c∈(97+i % 26)::r:=hc
 rcases VL.mp hc' with e|e
 ·omega
 ·exact hs c e
def OQ.len{z:Str}(h:OQ z):z.length<=6:=by have q:=h.le;rw[YN]at q;exact q
def OQ.line{z:Str}(h:OQ z):z.length<=sizeLine:=VU h.len (by decide)
def pP(r:List Nat)(i:Nat):KN (cand r i).cps.toList 0=some (97+i % 26):=bU (j:=0) rfl
def i0(r:List Nat)(i:Nat):Txt.slice (cand r i) (some 1) none=⟨r.toArray⟩:=by
 have e:Txt.slice (cand r i) (some 1) none=StrLaws.sliceText (cand r i) (some 1) none:=rfl
 rw[e,StrLaws.sliceText_from ⟨by decide,by simp[cand];omega⟩]
 simp[cand]
def pQ(r:List Nat)(i:Nat):(lj (97+(i+1) % 26):Str)++(⟨r.toArray⟩:Str)=cand r (i+1):=by
 refine Str.ext' ?_
 show #[97+(i+1) % 26]++r.toArray=_
 simp[cand]
def qK(i:Nat):KN abc.cps.toList ((i % 26:Nat):Int)=some (97+i % 26):=bU (Ex _ (Nat.mod_lt _ (by decide)))
def m8(cs:List Nat):Txt.join "" (cs.map lj)=⟨cs.toArray⟩:=by
 have q:=join_nil_signs ⟨cs.toArray⟩
 have e:Txt.join "" (cs.map lj)=Str.join ⟨#[]⟩ (cs.map lj):=StrLaws.glued_eq_join _ _
 rw[e]
 exact q
def Bs(cs:List Nat):((cs.map lj).map (·.length)).sum=cs.length:=by
 induction cs with
 |nil=>rfl
 |cons c r ih=>rw[VT,VT,Z8,ih,V1];show 1+r.length=_;omega
def Bt{cs:List Nat}{a i:Nat}(h:cs.length<=5)(hs:∀c∈cs,97<=c/\c<=122)(ha:a<=cs.length)(hi:i < 26) :
  OQ (Txt.slice ⟨cs.toArray⟩ none (some (a:Int))++(lj (97+i):Str)++Txt.slice ⟨cs.toArray⟩ (some (a:Int)) none)/\(Txt.slice ⟨cs.toArray⟩ none (some (a:Int))).length<=5/\(Txt.slice ⟨cs.toArray⟩ (some (a:Int)) none).length<=5:=by
 have e1:Txt.slice ⟨cs.toArray⟩ none (some (a:Int))=⟨(cs.take a).toArray⟩:=by
  have e:Txt.slice ⟨cs.toArray⟩ none (some (a:Int))=StrLaws.sliceText ⟨cs.toArray⟩ none (some (a:Int)):=rfl
  rw[e,StrLaws.sliceText_to ⟨by omega,by simp;omega⟩]
  simp
 have e2:Txt.slice ⟨cs.toArray⟩ (some (a:Int)) none=⟨(cs.drop a).toArray⟩:=by
  have e:Txt.slice ⟨cs.toArray⟩ (some (a:Int)) none=StrLaws.sliceText ⟨cs.toArray⟩ (some (a:Int)) none:=rfl
  rw[e,StrLaws.sliceText_from ⟨by omega,by simp;omega⟩]
  refine Str.ext' ?_
  show((cs.drop (a:Int).toNat).take ((cs.length:Int) - a).toNat).toArray=(cs.drop a).toArray
  rw[Z1,List.take_of_length_le (by rw[XO];omega)]
 rw[e1,e2]
 have e3:((⟨(cs.take a).toArray⟩:Str)++(lj (97+i):Str)++(⟨(cs.drop a).toArray⟩:Str)).cps.toList=cs.take a++[97+i]++cs.drop a:=by
  show((cs.take a).toArray++#[97+i]++(cs.drop a).toArray).toList=_
  simp
 refine⟨⟨by rw[e3];simp,by rw[e3];simp;omega,fun c hc=>?_⟩,?_,?_⟩
 ·rw[e3]at hc
  rcases VO.mp hc with hc|hc
  ·rcases VO.mp hc with hc|hc
   ·exact hs c (ZH hc)
   ·rw[VN.mp hc];omega
  ·exact hs c (List.mem_of_mem_drop hc)
 ·show(cs.take a).toArray.size<=5
  rw[VQ,WS];omega
 ·show(cs.drop a).toArray.size<=5
  rw[VQ,XO];omega
end Wd
namespace M3
noncomputable def aW(t b:Int):Int:=(if b < 0 then -t else t) / (Int.gcd t b:Int)
noncomputable def aE(t b:Int):Int:=(if b < 0 then -b else b) / (Int.gcd t b:Int)
def fY{t b:Int}(h:b≠0):0 < Int.gcd t b:=Nat.gcd_pos_of_pos_right _ (by omega)
def uz{t b:Int}(h:b≠0):(Int.gcd t b:Int)<=b.natAbs:=by
 have q:Nat.gcd t.natAbs b.natAbs<=b.natAbs:=Nat.gcd_le_right _ (by omega)
 have e:Int.gcd t b=Nat.gcd t.natAbs b.natAbs:=rfl
 omega
def yE(t b:Int):Int.gcd (-t) (-b)=Int.gcd t b:=by rw[Int.gcd_neg,Int.neg_gcd]
def parts(t b:Int):∃x y:Int,t=(Int.gcd t b:Int) * x/\b=(Int.gcd t b:Int) * y:=by
 obtain⟨x,hx⟩:=Int.gcd_dvd_left t b
 obtain⟨y,hy⟩:=Int.gcd_dvd_right t b
 exact⟨x,y,hx,hy⟩
def uA{t b x y g:Int}(hg:g=(Int.gcd t b:Int))(h:b≠0)(ht:t=g * x)(hb:b=g * y):aW t b=(if y < 0 then -x else x)/\aE t b=(if y < 0 then -y else y):=by
 have gp:0 < g:=by rw[hg];exact Yy.mpr (fY h)
 have hy:b < 0↔y < 0:=by
  rw[hb]
  constructor
  ·intro q
   by_cases z:y < 0
   ·exact z
   ·have:=Xd (Xz gp) (ZC.mp z)
    omega
  ·intro q
   exact Int.mul_neg_of_pos_of_neg gp q
 unfold aW aE
 rw[<-hg]
 by_cases z:y < 0
 ·rw[if_pos (hy.mpr z),if_pos (hy.mpr z),if_pos z,if_pos z]
  constructor
  ·rw[ht,<-ZI,Yk _ (by omega)]
  ·rw[hb,<-ZI,Yk _ (by omega)]
 ·rw[if_neg (fun q=>z (hy.mp q)),if_neg (fun q=>z (hy.mp q)),if_neg z,if_neg z]
  constructor
  ·rw[ht,Yk _ (by omega)]
  ·rw[hb,Yk _ (by omega)]
def Bu{t b x y:Int}(h:b≠0)(ht:t=(Int.gcd t b:Int) * x)(hb:b=(Int.gcd t b:Int) * y):Int.gcd x y=1:=by
 have gp:=fY (t:=t) h
 have q:Int.gcd ((Int.gcd t b:Int) * x) ((Int.gcd t b:Int) * y)=(Int.gcd t b:Int).natAbs * Int.gcd x y:=Int.gcd_mul_left _ _ _
 rw[<-ht,<-hb,Int.natAbs_natCast]at q
 have q2:Int.gcd t b * 1=Int.gcd t b * Int.gcd x y:=by omega
 exact(Nat.eq_of_mul_eq_mul_left gp q2).symm
structure FU(a b:Int):Prop where
 pos:0 < b
 one:Int.gcd a b=1
def i3{t b:Int}(h:b≠0):FU (aW t b) (aE t b):=by
 obtain⟨x,y,ht,hb⟩:=parts t b
 have c:=Bu h ht hb
 obtain⟨e1,e2⟩:=uA rfl h ht hb
 have y0:y≠0:=fun z=>h (by rw[hb,z,Int.mul_zero])
 rw[e1,e2]
 by_cases z:y < 0
 ·rw[if_pos z,if_pos z]
  exact⟨by omega,by rw[yE];exact c⟩
 ·rw[if_neg z,if_neg z]
  exact⟨by omega,c⟩
def dj{a b x y:Int}(L:FU a b)(hy:0 < y)(e:x * b=a * y):aW x y=a/\aE x y=b:=by
 have b0:=L.pos
 have d1:b.natAbs ∣ a.natAbs * y.natAbs:=by
  rw[<-ZW,<-e,ZW]
  exact Nat.dvd_mul_left _ _
 have c:Nat.Coprime b.natAbs a.natAbs:=by
  show Nat.gcd b.natAbs a.natAbs=1
  rw[Nat.gcd_comm]
  exact L.one
 obtain⟨k,hk⟩:=Int.natAbs_dvd_natAbs.mp (c.dvd_of_dvd_mul_left d1)
 have k0:0 < k:=by
  by_cases z:0 < k
  ·exact z
  ·have:=Xd (Xz b0) (show 0 <= -k by omega)
   rw[ZI]at this
   omega
 have hx:x=a * k:=by
  have q:x * b=a * k * b:=by rw[e,hk,ZE,Ys k b]
  exact Int.eq_of_mul_eq_mul_right (by omega) q
 have g:(Int.gcd x y:Int)=k:=by
  rw[hx,hk,Int.gcd_mul_right,L.one,Nat.one_mul]
  omega
 have q:=uA (g:=k) (x:=a) (y:=b) (t:=x) (b:=y) g.symm (by omega) (by rw[hx,Ys]) (by rw[hk,Ys])
 rw[if_neg (by omega),if_neg (by omega)]at q
 exact q
def yF{a b:Int}(L:FU a b):aW a b=a/\aE a b=b:=dj L L.pos rfl
def cg{t b:Int}(h:b≠0):aW t b * b=t * aE t b:=by
 obtain⟨x,y,ht,hb⟩:=parts t b
 obtain⟨e1,e2⟩:=uA rfl h ht hb
 rw[e1,e2]
 have q:x * b=t * y:=by
  have e3:x * ((Int.gcd t b:Int) * y)=(Int.gcd t b:Int) * x * y:=by rw[<-ZE,Ys x]
  rw[<-ht,<-hb]at e3
  exact e3
 by_cases z:y < 0
 ·rw[if_pos z,if_pos z,ZJ,ZI,q]
 ·rw[if_neg z,if_neg z]
  exact q
def yG{g x y:Int}(h:g≠0)(e:x * g=y * g):x=y:=Int.eq_of_mul_eq_mul_right h e
def m_{t b:Int}(h:b≠0):t.fdiv (if b < 0 then -(Int.gcd t b:Int) else (Int.gcd t b:Int))=aW t b/\b.fdiv (if b < 0 then -(Int.gcd t b:Int) else (Int.gcd t b:Int))=aE t b:=by
 have gp:(0:Int) < (Int.gcd t b:Int):=Yy.mpr (fY h)
 have d1:=Int.gcd_dvd_left t b
 have d2:=Int.gcd_dvd_right t b
 unfold aW aE
 by_cases z:b < 0
 ·rw[if_pos z,if_pos z,if_pos z,Int.fdiv_neg (by omega),if_pos d1,Int.fdiv_neg (by omega),if_pos d2,Yn d1,Yn d2,Int.neg_ediv_of_dvd d1,Int.neg_ediv_of_dvd d2]
  exact⟨rfl,rfl⟩
 ·rw[if_neg z,if_neg z,if_neg z,Yn d1,Yn d2]
  exact⟨rfl,rfl⟩
def nh(x y:Int):Int.gcd y (x.fmod y)=Int.gcd x y:=by
 have q:=Int.mul_fdiv_add_fmod x y
 have e:Int.gcd y (x.fmod y+x.fdiv y * y)=Int.gcd y (x.fmod y):=Int.gcd_add_mul_right_right _ _ _
 rw[<-e,Ys (x.fdiv y) y,Int.add_comm,q,Int.gcd_comm]
def sG{t b T B:Int}(h:b≠0)(h1:-T<=t)(h2:t<=T)(h3:-B<=b)(h4:b<=B)(hT:0<=T)(hB:0<=B):-T<=aW t b/\aW t b<=T/\0 < aE t b/\aE t b<=B:=by
 have gp:(0:Int) < (Int.gcd t b:Int):=Yy.mpr (fY h)
 have L:=(i3 (t:=t) h).pos
 have key:∀z M:Int,0<=M->-M<=z->z<=M->-M<=z / (Int.gcd t b:Int)/\z / (Int.gcd t b:Int)<=M:=fun z M hM z1 z2=>by
  generalize (Int.gcd t b:Int)=g at gp
  have m2:M * 1<=M * g:=Int.mul_le_mul_of_nonneg_left (by omega) hM
  have m3:-M * g = -(M * g):=ZJ M g
  exact⟨Int.le_ediv_of_mul_le gp (by omega),Int.ediv_le_of_le_mul gp (by omega)⟩
 have k1:=key (if b < 0 then -t else t) T hT (by split<;>omega) (by split<;>omega)
 have k2:=key (if b < 0 then -b else b) B hB (by split<;>omega) (by split<;>omega)
 exact⟨k1.1,k1.2,L,k2.2⟩
end M3
namespace Xc
open PySem PySem.W PySem.Calls PyProof.Rows Builtin Builtin.ObjectAttr
structure IS(h:Heap)(e:Addr)(oe:Obj)(vs:Zy):Prop where
 at_:h.get? e=some oe
 dat:oe.data = .fields vs
 tb:vs[1]?=some .none\/∃T oT ts,vs[1]?=some (.ref T)/\T≠e/\h.get? T=some oT/\oT.data = .fields ts/\ts[3]?=some .none
end Xc
namespace L2
open PySem PySem.Spec PyProof.Rows Xc
def JI(X:Cx)(pins:Za)(H:Hp)(h:Heap)(a C dx:Addr):Prop:=
 ∃oe vs,IS h a oe vs/\oe.cls = .ref C/\oe.dict=some dx/\fV X pins H a/\∀T,vs[1]?=some (.ref T)->fV X pins H T
def XD(dx:Addr)(fs:List (Str×V))(h:Heap):Prop:=∃mA,h.Ns1 dx mA/\(∀f,RelO (fs.lookup f) (mA f))/\PySem.Within mA (fs.map (·.1))
end L2
namespace L3
open PySem L2
inductive PV where
 |non|bl (b:Bool)|int (i:Int)|str (x:Str)|tup (xs:List PV)|cl (xs:List PV)|ref (a:Addr)|ty (n:String)|exc (c:Str) (ks:Zs) (ps:List PV)|cls (c:Str)
def Rq(K:Zo)(H:Hp)(a:Addr)(xs:List V):Prop:=
 (∃o,H a=some (.frz o (.lst xs))) \/
  ∃(o:Obj) (its:Zy) (n:Nat),K.lookup a=some o/\o.cls = .type "list"/\o.dict=none/\o.data = .seq its n/\its.size<=sizeLine/\Vals xs its.toList
def Rq.sq{K:Zo}{H:Hp}{a:Addr}{xs:List V}(h:Rq K H a xs):SqL K H a xs:=h.elim (fun z=>.inl (.inr z)) .inr
def Sh(H:Hp)(a C:Addr)(ks:Zs)(vs:List V):Prop:=
 ∃oe dx od,H a=some (.frz oe (.ext fun _=>True))/\oe.cls = .ref C/\oe.dict=some dx/\(∀c,oe.data ≠ .cls c)/\H dx=some (.frz od (.ext (XD dx (ks.zip vs))))
def Bv(K:Zo)(c:Str)(C:Addr):Prop:=PySem.W.nsIn K mainGlobals c=some (some (.ref C))
mutual
inductive Rep(K:Zo)(H:Hp):V->PV->Prop
 |non:Rep K H .non .non
 |bl (b:Bool):Rep K H (.bl b) (.bl b)
 |int (i:Int):Rep K H (.int i) (.int i)
 |str (x:Str):Rep K H (.str x) (.str x)
 |ty (n:String):Rep K H (.ty n) (.ty n)
 |ref (a:Addr):Rep K H (.ref a) (.ref a)
 |tup {a:Addr} {vs:List V} {ps:List PV}:SqT K H a vs->Reps K H vs ps->Rep K H (.ref a) (.tup ps)
 |cl {a:Addr} {vs:List V} {ps:List PV}:Rq K H a vs->Reps K H vs ps->Rep K H (.ref a) (.cl ps)
 |exc {a C:Addr} {c:Str} {ks:Zs} {vs:List V} {ps:List PV}:Bv K c C->Sh H a C ks vs->Reps K H vs ps->Rep K H (.ref a) (.exc c ks ps)
 |cls {C:Addr} {c:Str}:Bv K c C->Rep K H (.ref C) (.cls c)
inductive Reps(K:Zo)(H:Hp):List V->List PV->Prop
 |nil:Reps K H [] []
 |cons {v:V} {p:PV} {vs:List V} {ps:List PV}:Rep K H v p->Reps K H vs ps->Reps K H (v::vs) (p::ps)
end
structure Grow(K:Zo)(H H':Hp):Prop where
 t:∀a vs,SqT K H a vs->SqT K H' a vs
 c:∀a vs,Rq K H a vs->Rq K H' a vs
 x:∀a o u,H a=some (.frz o u)->H' a=some (.frz o u)
def Grow.refl{K:Zo}{H:Hp}:Grow K H H:=⟨fun _ _ h=>h,fun _ _ h=>h,fun _ _ _ h=>h⟩
def Grow.trans{K:Zo}{H H1 H2:Hp}(a:Grow K H H1)(b:Grow K H1 H2):Grow K H H2:=⟨fun x vs h=>b.t x vs (a.t x vs h),fun x vs h=>b.c x vs (a.c x vs h),fun x o u h=>b.x x o u (a.x x o u h)⟩
def Sh.mono{K:Zo}{H H':Hp}(g:Grow K H H'){a C:Addr}{ks:Zs}{vs:List V}(h:Sh H a C ks vs):Sh H' a C ks vs:=let ⟨oe,dx,od,h1,h2,h3,h4,h5⟩:=h;⟨oe,dx,od,g.x _ _ _ h1,h2,h3,h4,g.x _ _ _ h5⟩
def Grow.of{K:Zo}{H H':Hp}(h:∀a xs,H a=some (.tup xs)->H' a=some (.tup xs))(h2:∀a o u,H a=some (.frz o u)->H' a=some (.frz o u)):Grow K H H':=by
 refine⟨fun a vs q=>?_,fun a vs q=>?_,h2⟩
 ·rcases q with(q|⟨o,q⟩)|q
  ·exact .inl (.inl (h a vs q))
  ·exact .inl (.inr ⟨o,h2 a o _ q⟩)
  ·exact .inr q
 ·rcases q with⟨o,q⟩|q
  ·exact .inl ⟨o,h2 a o _ q⟩
  ·exact .inr q
def Grow.same{K:Zo}{H H':Hp}(h:∀c o,H c=some o->H' c=some o):Grow K H H':=.of (fun a _ q=>h a _ q) (fun a _ _ q=>h a _ q)
def Grow.new{K:Zo}{H:Hp}{p:Addr}{o:HO}(h:H p=none):Grow K H (upd H p o):=.same fun c u q=>by rw[aM (bw q h)];exact q
noncomputable def Mu:HO->Prop
 | .tup _=>False
 | .frz _ _=>False
 |_=>True
def Grow.mut{K:Zo}{H:Hp}{p:Addr}{o u:HO}(h:H p=some u)(m:Mu u):Grow K H (upd H p o):=
 .of (fun a xs q=>by rw[aM (fun e=>by subst e;rw[h]at q;cases q;exact m)];exact q) (fun a _ _ q=>by rw[aM (fun e=>by subst e;rw[h]at q;cases q;exact m)];exact q)
mutual
theorem Rep.mono{K:Zo}{H H':Hp}(g:Grow K H H'):∀{v:V}{p:PV},Rep K H v p->Rep K H' v p
 |_,_,.non=>.non
 |_,_,.bl b=>.bl b
 |_,_,.int i=>.int i
 |_,_,.str x=>.str x
 |_,_,.ty n=>.ty n
 |_,_,.ref a=>.ref a
 |_,_,.tup h r=>.tup (g.t _ _ h) (Reps.mono g r)
 |_,_,.cl h r=>.cl (g.c _ _ h) (Reps.mono g r)
 |_,_,.exc n h r=>.exc n (h.mono g) (Reps.mono g r)
 |_,_,.cls n=>.cls n
theorem Reps.mono{K:Zo}{H H':Hp}(g:Grow K H H'):∀{vs:List V}{ps:List PV},Reps K H vs ps->Reps K H' vs ps
 |_,_,.nil=>.nil
 |_,_,.cons a r=>.cons (Rep.mono g a) (Reps.mono g r)
end
theorem Reps.length{K:Zo}{H:Hp}:∀{vs:List V}{ps:List PV},Reps K H vs ps->vs.length=ps.length
 |_,_,.nil=>rfl
 |_,_,.cons _ r=>by rw[V1,V1,Reps.length r]
theorem Reps.append{K:Zo}{H:Hp}:∀{vs us:List V}{ps qs:List PV},Reps K H vs ps->Reps K H us qs->Reps K H (vs++us) (ps++qs)
 |_,_,_,_,.nil,s=>s
 |_,_,_,_,.cons a r,s=>.cons a (Reps.append r s)
theorem Reps.get{K:Zo}{H:Hp}:∀{vs:List V}{ps:List PV}{i:Nat}{p:PV},Reps K H vs ps->ps[i]?=some p->∃v,vs[i]?=some v/\Rep K H v p
 |_,_,_,_,.nil,e=>by simp at e
 |_,_,0,_,.cons a r,e=>by simp at e;subst e;exact⟨_,rfl,a⟩
 |_,_,i+1,p,.cons a r,e=>by
  obtain⟨v,h1,h2⟩:=Reps.get (i:=i) (p:=p) r (by simpa using e)
  exact⟨v,by simpa using h1,h2⟩
theorem Reps.take{K:Zo}{H:Hp}:∀{vs:List V}{ps:List PV}(n:Nat),Reps K H vs ps->Reps K H (vs.take n) (ps.take n)
 |_,_,0,_=>.nil
 |_,_,_+1,.nil=>.nil
 |_,_,n+1,.cons a r=>.cons a (Reps.take n r)
theorem Reps.drop{K:Zo}{H:Hp}:∀{vs:List V}{ps:List PV}(n:Nat),Reps K H vs ps->Reps K H (vs.drop n) (ps.drop n)
 |_,_,0,r=>r
 |_,_,_+1,.nil=>.nil
 |_,_,n+1,.cons _ r=>Reps.drop n r
theorem Reps.set{K:Zo}{H:Hp}{v:V}{p:PV}(q:Rep K H v p):∀{vs:List V}{ps:List PV}(n:Nat),Reps K H vs ps->Reps K H (vs.set n v) (ps.set n p)
 |_,_,_,.nil=>.nil
 |_,_,0,.cons _ r=>.cons q r
 |_,_,n+1,.cons a r=>.cons a (Reps.set q n r)
theorem Reps.eraseIdx{K:Zo}{H:Hp}:∀{vs:List V}{ps:List PV}(n:Nat),Reps K H vs ps->Reps K H (vs.eraseIdx n) (ps.eraseIdx n)
 |_,_,_,.nil=>.nil
 |_,_,0,.cons _ r=>r
 |_,_,n+1,.cons a r=>.cons a (Reps.eraseIdx n r)
theorem Reps.reverse{K:Zo}{H:Hp}:∀{vs:List V}{ps:List PV},Reps K H vs ps->Reps K H vs.reverse ps.reverse
 |_,_,.nil=>.nil
 |_,_,.cons a r=>by rw[Zd,Zd];exact(Reps.reverse r).append (.cons a .nil)
theorem Reps.dropLast{K:Zo}{H:Hp}{vs:List V}{ps:List PV}(r:Reps K H vs ps):Reps K H vs.dropLast ps.dropLast:=by
 rw[List.dropLast_eq_take,List.dropLast_eq_take,r.length]
 exact r.take _
inductive SO where
 |lst (xs:List PV)
 |dct (kvs:List (bo×PV))
 |ins (c:Str) (fs:List (Str×PV))
abbrev ax:=Addr->Option SO
noncomputable def JZ(S:ax)(a:Addr)(o:SO):ax:=fun b=>if b=a then some o else S b
def aa{S:ax}{a:Addr}{o:SO}:JZ S a o a=some o:=by unfold JZ;rw[if_pos rfl]
def av{S:ax}{a b:Addr}{o:SO}(h:b≠a):JZ S a o b=S b:=by unfold JZ;rw[if_neg h]
inductive Kz(K:Zo)(H:Hp){κ:Type}:List (κ×V)->List (κ×PV)->Prop
 |nil:Kz K H [] []
 |cons {k:κ} {v:V} {p:PV} {vs:List (κ×V)} {ps:List (κ×PV)}:Rep K H v p->Kz K H vs ps->Kz K H ((k,v)::vs) ((k,p)::ps)
theorem Kz.mono{K:Zo}{H H':Hp}(g:Grow K H H'){κ:Type}:∀{vs:List (κ×V)}{ps:List (κ×PV)},Kz K H vs ps->Kz K H' vs ps
 |_,_,.nil=>.nil
 |_,_,.cons a r=>.cons (a.mono g) (Kz.mono g r)
theorem Kz.length{K:Zo}{H:Hp}{κ:Type}:∀{vs:List (κ×V)}{ps:List (κ×PV)},Kz K H vs ps->vs.length=ps.length
 |_,_,.nil=>rfl
 |_,_,.cons _ r=>by rw[V1,V1,Kz.length r]
noncomputable def OR(K:Zo)(H:Hp)(a:Addr):SO->Prop
 | .lst xs=>∃vs,H a=some (.lst vs)/\Reps K H vs xs
 | .dct kvs=>∃kv,H a=some (.dK kv)/\Kz K H kv kvs
 | .ins c fs=>∃C dx f',Bv K c C/\H a=some (.ins C dx f')/\Kz K H f' fs
theorem OR.stay{K:Zo}{H H':Hp}(g:Grow K H H'){a:Addr}(e:H' a=H a):∀{o:SO},OR K H a o->OR K H' a o
 | .lst _,⟨vs,h,r⟩=>⟨vs,e.trans h,r.mono g⟩
 | .dct _,⟨vs,h,r⟩=>⟨vs,e.trans h,r.mono g⟩
 | .ins _ _,⟨C,dx,vs,n,h,r⟩=>⟨C,dx,vs,n,e.trans h,r.mono g⟩
theorem OR.some{K:Zo}{H:Hp}{a:Addr}:∀{o:SO},OR K H a o->∃u,H a=Option.some u/\Mu u
 | .lst _,⟨_,h,_⟩=>⟨_,h,trivial⟩
 | .dct _,⟨_,h,_⟩=>⟨_,h,trivial⟩
 | .ins _ _,⟨_,_,_,_,h,_⟩=>⟨_,h,trivial⟩
def Kc(K:Zo)(H:Hp)(S:ax):Prop:=∀a o,S a=some o->OR K H a o
def Kc.free{K:Zo}{H:Hp}{S:ax}(r:Kc K H S){p:Addr}(h:H p=none):S p=none:=by
 cases e:S p with
 |none=>rfl
 |some o=>
  obtain⟨u,q,_⟩:=(r p o e).some
  rw[h]at q;cases q
def Kc.grow{K:Zo}{H H':Hp}{S:ax}(r:Kc K H S)(h:∀c o,H c=some o->H' c=some o):Kc K H' S:=fun a o e=>by
 obtain⟨u,q,_⟩:=(r a o e).some
 exact(r a o e).stay (.same h) ((h a u q).trans q.symm)
def Kc.other{K:Zo}{H:Hp}{S:ax}(r:Kc K H S){p:Addr}{o:HO}(h:H p=none):Kc K (upd H p o) S:=r.grow fun c u q=>by rw[aM (bw q h)];exact q
theorem Kc.new{K:Zo}{H:Hp}{S:ax}(r:Kc K H S){p:Addr}{u:HO}{o:SO}(h:H p=none)(q:OR K (upd H p u) p o):Kc K (upd H p u) (JZ S p o):=fun a x e=>by
 by_cases z:a=p
 ·subst z;rw[aa]at e;cases e;exact q
 ·rw[av z]at e;exact(r a x e).stay (.new h) (aM z)
def Kc.put{K:Zo}{H:Hp}{S:ax}(r:Kc K H S){p:Addr}{u0 u:HO}{o:SO}(h:H p=some u0)(m:Mu u0)(q:OR K (upd H p u) p o):Kc K (upd H p u) (JZ S p o):=fun a x e=>by
 by_cases z:a=p
 ·subst z;rw[aa]at e;cases e;exact q
 ·rw[av z]at e;exact(r a x e).stay (.mut h m) (aM z)
abbrev cG:=List (Option PV)
noncomputable def lk:cG->Nat->Option PV
 |[],_=>none
 |x::_,0=>x
 |_::r,i+1=>lk r i
def yH{σ:cG}{i:Nat}{p:PV}(h:lk σ i=some p):σ[i]?=some (some p):=by
 induction σ generalizing i with
 |nil=>cases h
 |cons x r ih=>
  cases i with
  |zero=>exact WW some h
  |succ i=>exact ih h
structure Kk(K:Zo)(H:Hp)(σ:St)(σ3:cG):Prop where
 len:σ.length=σ3.length
 at':∀(i:Nat) (p:PV),σ3[i]?=some (some p)->∃v,σ[i]?=some (some v)/\Rep K H v p
theorem Kk.mono{K:Zo}{H H':Hp}{σ:St}{σ3:cG}(r:Kk K H σ σ3)(g:Grow K H H'):Kk K H' σ σ3:=⟨r.len,fun i p e=>let ⟨v,h,q⟩:=r.at' i p e;⟨v,h,q.mono g⟩⟩
theorem Kk.set{K:Zo}{H:Hp}{σ:St}{σ3:cG}(r:Kk K H σ σ3){v:V}{p:PV}(q:Rep K H v p)(i:Nat):Kk K H (σ.set i (some v)) (σ3.set i (some p)):=by
 refine⟨by rw[ZN,ZN,r.len],fun j x e=>?_⟩
 rw[Z5]at e ⊢
 split at e
 ·rename_i hij
  rw[if_pos hij]
  subst hij
  split at e
  ·rename_i hl
   cases e
   rw[if_pos (by rw[r.len];exact hl)]
   exact⟨v,rfl,q⟩
  ·cases e
 ·rename_i hij
  rw[if_neg hij]
  exact r.at' j x e
abbrev bc:=PV->ax->Prop
abbrev bC:=PV->cG->ax->Prop
abbrev bd:=cG->ax->bc->bC->Prop
abbrev k8:=cG->ax->(Bool->ax->Prop)->bC->Prop
abbrev JJ:=cG->ax->(List PV->ax->Prop)->bC->Prop
structure ni where
 nx:cG->ax->Prop
 rt:bc
 ex:bC
 bk:cG->ax->Prop:=fun _ _=>False
 ct:cG->ax->Prop:=fun _ _=>False
abbrev bx:=ni->cG->ax->Prop
def PP(X:Cx)(H:Hp)(E:bC):Prop:=∀(c:Str)(ks:Zs)(ps:List PV)(σ3:cG)(S':ax)(H':Hp)(pins:Za)(σ:St)(s':Shared)(a C dx:Addr)(od:Obj)(vs:List V),E (.exc c ks ps) σ3 S'->Bv X.K c C->vs.length=ks.length->
 H' dx=some (.frz od (.ext (XD dx (ks.zip vs))))->Reps X.K H' vs ps->Kc X.K H' S'->Kk X.K H' σ σ3->Grow X.K H H'->Inv X pins σ H' s'->JI X pins H' s'.heap a C dx->X.xe (.ref a) s'
def PP.mono{X:Cx}{H H':Hp}{E:bC}(x:PP X H E)(g:Grow X.K H H'):PP X H' E:=fun c ks ps σ3 S' H2 pins σ s' a C dx od vs h1 h2 h3 h4 h5 h6 h7 h8 h9 UO=>x c ks ps σ3 S' H2 pins σ s' a C dx od vs h1 h2 h3 h4 h5 h6 h7 (g.trans h8) h9 UO
def PQ(K:Zo)(H:Hp)(Q3:bc)(Q:VK):Prop:=∀p S' v H',Q3 p S'->Rep K H' v p->Kc K H' S'->Grow K H H'->Q v H'
def PQ.mono{K:Zo}{H H':Hp}{Q3:bc}{Q:VK}(r:PQ K H Q3 Q)(g:Grow K H H'):PQ K H' Q3 Q:=fun p S' v H2 h1 h2 h3 h4=>r p S' v H2 h1 h2 h3 (g.trans h4)
def Rr(K:Zo)(H:Hp)(N3:cG->ax->Prop)(N:St->Hp->Prop):Prop:=∀σ3 S' σ H',N3 σ3 S'->Kk K H' σ σ3->Kc K H' S'->Grow K H H'->N σ H'
def Rr.mono{K:Zo}{H H':Hp}{Q3:cG->ax->Prop}{Q:St->Hp->Prop}(r:Rr K H Q3 Q)(g:Grow K H H'):Rr K H' Q3 Q:=fun p S' v H2 h1 h2 h3 h4=>r p S' v H2 h1 h2 h3 (g.trans h4)
inductive LE(X:Cx)(t:bd)(σ:L2.St)(H:Hp)(Q:VK):Prop
 |mk (σ3 S Q3 E3) (rσ:Kk X.K H σ σ3) (rS:Kc X.K H S) (h:t σ3 S Q3 E3) (xo:PP X H E3) (k:PQ X.K H Q3 Q):LE X t σ H Q
inductive LT(X:Cx)(t:k8)(σ:L2.St)(H:Hp)(Q:Bool->Hp->Prop):Prop
 |mk (σ3 S Q3 E3) (rσ:Kk X.K H σ σ3) (rS:Kc X.K H S) (h:t σ3 S Q3 E3) (xo:PP X H E3) (k:∀b S' H',Q3 b S'->Kc X.K H' S'->Grow X.K H H'->Q b H'):LT X t σ H Q
inductive LS(X:Cx)(t:bx)(D:ud)(σ:L2.St)(H:Hp):Prop
 |mk (σ3 S D3) (rσ:Kk X.K H σ σ3) (rS:Kc X.K H S) (h:t D3 σ3 S) (xo:PP X H D3.ex) (nx:Rr X.K H D3.nx D.nx) (rt:PQ X.K H D3.rt D.rt) (bk:Rr X.K H D3.bk D.bk) (ct:Rr X.K H D3.ct D.ct):LS X t D σ H
structure bB(X:Cx)(e:Expr)(t:bd):Prop where
 ok:PE X e (LE X t)
structure uB(X:Cx)(e:Expr)(t:k8):Prop where
 ok:PT X e (LT X t)
structure Ey(X:Cx)(e:Expr)(t:k8):Prop where
 ok:PW X e (LT X t)
structure vz(X:Cx)(st:Stmt)(t:bx):Prop where
 ok:PS X st (LS X t)
structure lr(X:Cx)(st:List Stmt)(t:bx):Prop where
 ok:OO X st (LS X t)
def bb{X:Cx}{e:Expr}{t t':TE}(h:PE X e t)(k:∀σ H Q,t' σ H Q->t σ H Q):PE X e t':=fun pins s σ H Q I q=>h pins s σ H Q I (k σ H Q q)
def uC{X:Cx}{e:Expr}{t t':TT}(h:PT X e t)(k:∀σ H Q,t' σ H Q->t σ H Q):PT X e t':=fun pins s σ H Q I q=>h pins s σ H Q I (k σ H Q q)
def yI{X:Cx}{e:Expr}{t t':TT}(h:PW X e t)(k:∀σ H Q,t' σ H Q->t σ H Q):PW X e t':=fun wh pins s σ H Q I q=>h wh pins s σ H Q I (k σ H Q q)
def fy{X:Cx}{e:Stmt}{t t':TS}(h:PS X e t)(k:∀D σ H,t' D σ H->t D σ H):PS X e t':=fun pins s σ H D I q=>h pins s σ H D I (k D σ H q)
def vA{X:Cx}{e:List Stmt}{t t':TS}(h:OO X e t)(k:∀D σ H,t' D σ H->t D σ H):OO X e t':=fun pins s σ H D I q=>h pins s σ H D I (k D σ H q)
section
variable {X:Cx}{a b c e o:Expr}{es:List Expr}{ta tb tc te:bd}{pos:Pos}
def v3(i:Nat):bd:=fun σ S Q _=>match lk σ i with|some p=>Q p S|none=>False
def ac(i:Nat){x:Str}(hN:X.N[i]?=some x:=by rfl)(hv:HN X.env.scope x:=by first|exact Or.inl rfl|exact Or.inr (Or.inl rfl)|exact Or.inr (Or.inr rfl))(hd:(x == ("__debug__":Str))=false:=by decide)
  (hcd:(x == ("__classdict__":Str))=false:=by decide):bB X (.Name x pos) (v3 i):=
 ⟨bb (DB hN hv hd hcd) fun σ H Q ⟨σ3,S,Q3,E3,rσ,rS,h,xo,k⟩=>by
  unfold v3 at h
  split at h
  ·rename_i p e
   obtain⟨v,ev,rv⟩:=rσ.at' i p (yH e)
   exact⟨v,ev,k p S v H h rv rS .refl⟩
  ·exact h.elim⟩
def c3(p:PV):bd:=fun _ S Q _=>Q p S
def ai{i:Int}{j:Nat}:bB X (.Constant (.int i) j pos) (c3 (.int i)):=⟨bb DC fun σ H Q ⟨σ3,S,Q3,E3,rσ,rS,h,xo,k⟩=>k _ S _ H h (.int i) rS .refl⟩
def Bw{i:Bool}{j:Nat}:bB X (.Constant (.bool i) j pos) (c3 (.bl i)):=⟨bb F6 fun σ H Q ⟨σ3,S,Q3,E3,rσ,rS,h,xo,k⟩=>k _ S _ H h (.bl i) rS .refl⟩
def aw{i:Str}{j:Nat}:bB X (.Constant (.str i) j pos) (c3 (.str i)):=⟨bb DE fun σ H Q ⟨σ3,S,Q3,E3,rσ,rS,h,xo,k⟩=>k _ S _ H h (.str i) rS .refl⟩
def ij{j:Nat}:bB X (.Constant .none j pos) (c3 .non):=⟨bb DD fun σ H Q ⟨σ3,S,Q3,E3,rσ,rS,h,xo,k⟩=>k _ S _ H h .non rS .refl⟩
def IU{x:Str}{n:String}(hg:Gl X x)(hm:X.mg x=none)(hv:bootBuiltins x=some (.type n))(hn:x ≠ "__name__":=by decide)(hd:(x == ("__debug__":Str))=false:=by decide):bB X (.Name x pos) (c3 (.ty n)):=
 ⟨bb (AR (v:=.ty n) hg hm hv rfl hn hd) fun σ H Q ⟨σ3,S,Q3,E3,rσ,rS,h,xo,k⟩=>k _ S _ H h (.ty n) rS .refl⟩
noncomputable def ao:List bd->JJ
 |[],_,S,Q,_=>Q [] S
 |t::ts,σ,S,Q,E=>t σ S (fun x S1=>ao ts σ S1 (fun xs S2=>Q (x::xs) S2) E) E
noncomputable def HY:List TE->TA
 |[]=>Gr
 |t::ts=>C6 t (HY ts)
structure mi(X:Cx)(es:List Expr)(ts:List bd):Prop where
 ok:PA X es (HY (ts.map (LE X)))
def cn:mi X [] []:=⟨D_⟩
def yJ{ts:List bd}(hs:starEach (e::es) X.env=(false,eval e X.env)::starEach es X.env)(ha:bB X e te)(hr:mi X es ts):mi X (e::es) (te::ts):=⟨A5 ha.ok hr.ok hs⟩
theorem cH:∀{ts:List bd}{σ:L2.St}{H:Hp}{Q:List V->Hp->Prop}{σ3:cG}{S:ax}{Q3:List PV->ax->Prop}{E3:bC},Kk X.K H σ σ3->Kc X.K H S->ao ts σ3 S Q3 E3->PP X H E3->
  (∀ps S' vs H',ps.length=ts.length->Q3 ps S'->Reps X.K H' vs ps->Kc X.K H' S'->Grow X.K H H'->Q vs H')->HY (ts.map (LE X)) σ H Q
 |[],σ,H,Q,σ3,S,Q3,E3,rσ,rS,h,xo,k=>k [] S [] H rfl h .nil rS .refl
 |t::ts,σ,H,Q,σ3,S,Q3,E3,rσ,rS,h,xo,k=>
  ⟨σ3,S,_,E3,rσ,rS,h,xo,fun p S1 v H1 h1 rv Kn g1=>cH (rσ.mono g1) Kn h1 (xo.mono g1) fun ps S2 vs H2 hl h2 S_ MF g2=>k (p::ps) S2 (v::vs) H2 (by rw[V1,V1,hl]) h2 (.cons (rv.mono g2) S_) MF (g1.trans g2)⟩
def aC(ts:List bd):bd:=fun σ S Q E=>ao ts σ S (fun xs S1=>Q (.tup xs) S1) E
def aA{ts:List bd}{x1:Nat}(h:mi X es ts)(hn:ts.length<=1000:=by exact Zn rfl):bB X (.Tuple es x1 pos) (aC ts):=
 ⟨bb (Ea h.ok) fun σ H Q ⟨σ3,S,Q3,E3,rσ,rS,hq,xo,k⟩=>cH rσ rS hq xo fun ps S' vs H' hl q rv M0 g=>
  ⟨XI (fK (by rw[rv.length,hl];exact hn)),fun p hp=>k _ S' _ _ q (.tup (SqT.of aH) (rv.mono (.new hp))) (M0.other hp) (g.trans (.new hp))⟩⟩
def aY(ts:List bd):bd:=fun σ S Q E=>ao ts σ S (fun xs S1=>∀p,S1 p=none->Q (.ref p) (JZ S1 p (.lst xs))) E
def a_{ts:List bd}(h:mi X es ts)(hn:ts.length<=1000:=by exact Zn rfl):bB X (.List es pos) (aY ts):=
 ⟨bb (Eb h.ok) fun σ H Q ⟨σ3,S,Q3,E3,rσ,rS,hq,xo,k⟩=>cH rσ rS hq xo fun ps S' vs H' hl q rv M0 g=>
  ⟨XI (fK (by rw[rv.length,hl];exact hn)),fun p hp=>k _ _ _ _ (q p (M0.free hp)) (.ref p) (M0.new hp ⟨vs,aH,rv.mono (.new hp)⟩) (g.trans (.new hp))⟩⟩
abbrev R3:=PV->PV->ax->bc->Prop
inductive LR(X:Cx)(r:R3)(x y:V)(H:Hp)(Q:VK):Prop
 |mk (px py S Q3) (rx:Rep X.K H x px) (ry:Rep X.K H y py) (rS:Kc X.K H S) (h:r px py S Q3) (k:PQ X.K H Q3 Q):LR X r x y H Q
structure k9(X:Cx)(f:Value->Value->Sem Value)(r:R3):Prop where
 ok:j3 X f (LR X r)
def af(r:R3)(ta tb:bd):bd:=fun σ S Q E=>ta σ S (fun x S1=>tb σ S1 (fun y S2=>r x y S2 Q) E) E
def mO{r:R3}{σ:L2.St}{H:Hp}{Q:VK}:LE X (af r ta tb) σ H Q->Gh (LR X r) (LE X ta) (LE X tb) σ H Q:=fun⟨σ3,S,Q3,E3,rσ,rS,h,xo,k⟩=>
 ⟨σ3,S,_,E3,rσ,rS,h,xo,fun x S1 v H1 h1 rx Kn g1=>⟨σ3,S1,_,E3,rσ.mono g1,Kn,h1,xo.mono g1,fun y S2 u H2 h2 ry MF g2=>⟨x,y,S2,Q3,rx.mono g2,ry,MF,h2,k.mono (g1.trans g2)⟩⟩⟩
def aB{op:Operator}{r:R3}(ho:k9 X (binaryOp op) r)(ha:bB X a ta)(hb:bB X b tb):bB X (.BinOp a op b pos) (af r ta tb):=⟨bb (Gi ho.ok ha.ok hb.ok) fun _ _ _=>mO⟩
def ik{op:CmpOp}{r:R3}(ho:k9 X (compareOp op) r)(ha:bB X a ta)(hb:bB X b tb)(hm:behindInMarks op b=false):bB X (.Compare a [op] [b] pos) (af r ta tb):=⟨bb (A3 ho.ok ha.ok hb.ok hm) fun _ _ _=>mO⟩
def aR(t:bd):k8:=fun σ S Q E=>t σ S (fun v S'=>match v with | .bl k=>Q k S'|_=>False) E
def yK{σ:L2.St}{H:Hp}{Q:Bool->Hp->Prop}:LT X (aR te) σ H Q->LE X te σ H (fun x H'=>∃k,x = .bl k/\Q k H'):=fun⟨σ3,S,Q3,E3,rσ,rS,h,xo,k⟩=>
 ⟨σ3,S,_,E3,rσ,rS,h,xo,fun p S' v H' h1 rv M0 g=>by
  cases p with
  |bl z=>cases rv;exact⟨z,rfl,k z S' H' h1 M0 g⟩
  |_=>exact h1.elim⟩
def bq{op:CmpOp}{r:R3}(ho:k9 X (compareOp op) r)(ha:bB X a ta)(hb:bB X b tb)(hm:behindInMarks op b=false):uB X (.Compare a [op] [b] pos) (aR (af r ta tb)):=
 ⟨uC (A4 ho.ok ha.ok hb.ok hm) fun σ H Q ⟨σ3,S,Q3,E3,rσ,rS,h,xo,k⟩=>mO ⟨σ3,S,_,E3,rσ,rS,h,xo,fun p S' v H' h1 rv M0 g=>by
  cases p with
  |bl z=>cases rv;exact⟨z,rfl,k z S' H' h1 M0 g⟩
  |_=>exact h1.elim⟩⟩
def fe(h:bB X e te)(he:∀whole,isTrue e X.env whole=(do let v <-whole;standAt e.pos;holding [v] (truthy v)):=by intro _;rfl):uB X e (aR te):=
 ⟨uC (DF h.ok he) fun σ H Q q=>yK q⟩
end
section
variable {X:Cx}{a b c:Expr}{rest:List Expr}{ta tb te:bd}{tA tB:k8}{pos:Pos}
def fZ(t u:k8):k8:=fun σ S Q E=>t σ S (fun c S1=>if c=true then u σ S1 Q E else Q false S1) E
def oM(t u:k8):k8:=fun σ S Q E=>t σ S (fun c S1=>if c=true then Q true S1 else u σ S1 Q E) E
def oU(t:k8):k8:=fun σ S Q E=>t σ S (fun c S1=>Q (!c) S1) E
def il(ha:uB X a tA):Ey X (.BoolOp .And [a] pos) tA:=⟨AS ha.ok⟩
def j8(ha:uB X a tA):Ey X (.BoolOp .Or [a] pos) tA:=⟨DG ha.ok⟩
def j9(ha:uB X a tA)(hb:Ey X (.BoolOp .And (b::rest) pos) tB):Ey X (.BoolOp .And (a::b::rest) pos) (fZ tA tB):=
 ⟨yI (DH ha.ok hb.ok) fun σ H Q ⟨σ3,S,Q3,E3,rσ,rS,h,xo,k⟩=>⟨σ3,S,_,E3,rσ,rS,h,xo,fun c S1 H1 h1 Kn g1=>by
  cases c with
  |true=>rw[if_pos rfl]at h1 ⊢;exact⟨σ3,S1,Q3,E3,rσ.mono g1,Kn,h1,xo.mono g1,fun b S2 H2 h2 MF g2=>k b S2 H2 h2 MF (g1.trans g2)⟩
  |false=>rw[if_neg (by decide)]at h1 ⊢;exact k false S1 H1 h1 Kn g1⟩⟩
def nj(ha:uB X a tA)(hb:Ey X (.BoolOp .Or (b::rest) pos) tB):Ey X (.BoolOp .Or (a::b::rest) pos) (oM tA tB):=
 ⟨yI (F7 ha.ok hb.ok) fun σ H Q ⟨σ3,S,Q3,E3,rσ,rS,h,xo,k⟩=>⟨σ3,S,_,E3,rσ,rS,h,xo,fun c S1 H1 h1 Kn g1=>by
  cases c with
  |true=>rw[if_pos rfl]at h1 ⊢;exact k true S1 H1 h1 Kn g1
  |false=>rw[if_neg (by decide)]at h1 ⊢;exact⟨σ3,S1,Q3,E3,rσ.mono g1,Kn,h1,xo.mono g1,fun b S2 H2 h2 MF g2=>k b S2 H2 h2 MF (g1.trans g2)⟩⟩⟩
def sH(h:Ey X a tA):uB X a tA:=⟨h.ok.pt⟩
def vB(ha:uB X a tA):uB X (.UnaryOp .Not a pos) (oU tA):=
 ⟨uC (DI ha.ok) fun σ H Q ⟨σ3,S,Q3,E3,rσ,rS,h,xo,k⟩=>⟨σ3,S,_,E3,rσ,rS,h,xo,fun c S1 H1 h1 Kn g1=>k (!c) S1 H1 h1 Kn g1⟩⟩
def cO(t u:bd):bd:=fun σ S Q E=>t σ S (fun v S1=>match v with | .bl c=>if c=true then u σ S1 Q E else Q (.bl false) S1|_=>False) E
def oV(t u:bd):bd:=fun σ S Q E=>t σ S (fun v S1=>match v with | .bl c=>if c=true then Q (.bl true) S1 else u σ S1 Q E|_=>False) E
def pR(t:bd):bd:=fun σ S Q E=>t σ S (fun v S1=>match v with | .bl c=>Q (.bl (!c)) S1|_=>False) E
def sI{op:BoolOp}(h:bB X a ta):bB X (.BoolOp op [a] pos) ta:=⟨DJ h.ok⟩
def sJ(ha:bB X a ta)(hb:bB X (.BoolOp .And (b::rest) pos) tb):bB X (.BoolOp .And (a::b::rest) pos) (cO ta tb):=
 ⟨bb (DK ha.ok hb.ok) fun σ H Q ⟨σ3,S,Q3,E3,rσ,rS,h,xo,k⟩=>⟨σ3,S,_,E3,rσ,rS,h,xo,fun p S1 v H1 h1 rv Kn g1=>by
  cases p with
  |bl z=>
   cases rv
   refine⟨z,rfl,?_⟩
   cases z with
   |true=>rw[if_pos rfl];exact⟨σ3,S1,Q3,E3,rσ.mono g1,Kn,h1,xo.mono g1,k.mono g1⟩
   |false=>rw[if_neg (by decide)];exact k _ S1 _ H1 h1 (.bl false) Kn g1
  |_=>exact h1.elim⟩⟩
def IV(ha:bB X a ta)(hb:bB X (.BoolOp .Or (b::rest) pos) tb):bB X (.BoolOp .Or (a::b::rest) pos) (oV ta tb):=
 ⟨bb (F_ ha.ok hb.ok) fun σ H Q ⟨σ3,S,Q3,E3,rσ,rS,h,xo,k⟩=>⟨σ3,S,_,E3,rσ,rS,h,xo,fun p S1 v H1 h1 rv Kn g1=>by
  cases p with
  |bl z=>
   cases rv
   refine⟨z,rfl,?_⟩
   cases z with
   |true=>rw[if_pos rfl];exact k _ S1 _ H1 h1 (.bl true) Kn g1
   |false=>rw[if_neg (by decide)];exact⟨σ3,S1,Q3,E3,rσ.mono g1,Kn,h1,xo.mono g1,k.mono g1⟩
  |_=>exact h1.elim⟩⟩
def GG(ha:bB X a ta):bB X (.UnaryOp .Not a pos) (pR ta):=
 ⟨bb (DL ha.ok) fun σ H Q ⟨σ3,S,Q3,E3,rσ,rS,h,xo,k⟩=>⟨σ3,S,_,E3,rσ,rS,h,xo,fun p S1 v H1 h1 rv Kn g1=>by
  cases p with
  |bl z=>cases rv;exact⟨z,rfl,k _ S1 _ H1 h1 (.bl _) Kn g1⟩
  |_=>exact h1.elim⟩⟩
def uD(t:k8)(ta tb:bd):bd:=fun σ S Q E=>t σ S (fun c S1=>if c=true then ta σ S1 Q E else tb σ S1 Q E) E
def yL(hc:uB X c tA)(ha:bB X a ta)(hb:bB X b tb):bB X (.IfExp c a b pos) (uD tA ta tb):=
 ⟨bb (xX hc.ok ha.ok hb.ok) fun σ H Q ⟨σ3,S,Q3,E3,rσ,rS,h,xo,k⟩=>⟨σ3,S,_,E3,rσ,rS,h,xo,fun c S1 H1 h1 Kn g1=>by
  cases c with
  |true=>rw[if_pos rfl]at h1 ⊢;exact⟨σ3,S1,Q3,E3,rσ.mono g1,Kn,h1,xo.mono g1,k.mono g1⟩
  |false=>rw[if_neg (by decide)]at h1 ⊢;exact⟨σ3,S1,Q3,E3,rσ.mono g1,Kn,h1,xo.mono g1,k.mono g1⟩⟩⟩
abbrev GH:=PV->ax->bc->Prop
noncomputable def JK(X:Cx)(r:GH):V->Hp->VK->Prop:=fun x H Q=>∃px S Q3,Rep X.K H x px/\Kc X.K H S/\r px S Q3/\PQ X.K H Q3 Q
structure Ju(X:Cx)(f:Value->Sem Value)(r:GH):Prop where
 ok:HS X f (JK X r)
def hW(r:GH)(ta:bd):bd:=fun σ S Q E=>ta σ S (fun x S1=>r x S1 Q) E
def fN{op:UnaryOp}{r:GH}(ho:Ju X (unaryOp op) r)(ha:bB X a ta):bB X (.UnaryOp op a pos) (hW r ta):=
 ⟨bb (Gj ho.ok ha.ok) fun σ H Q ⟨σ3,S,Q3,E3,rσ,rS,h,xo,k⟩=>⟨σ3,S,_,E3,rσ,rS,h,xo,fun p S1 v H1 h1 rv Kn g1=>⟨p,S1,Q3,rv,Kn,h1,k.mono g1⟩⟩⟩
noncomputable def bX:GH:=fun x S Q=>match x with | .int i=>Q (.int (-i)) S|_=>False
def bK:Ju X (unaryOp .USub) bX:=⟨fun pins s σ H x v Q I rx ⟨px,S,Q3,r1,rS,h,k⟩=>by
 cases px with
 |int i=>cases r1;exact D9 pins s σ H _ v Q I rx ⟨i,rfl,k _ S _ H h (.int _) rS .refl⟩
 |_=>exact h.elim⟩
end
section
variable {X:Cx}
def f_(g:Int->Int->PV):R3:=fun x y S Q=>match x,y with | .int i,.int j=>Q (g i j) S|_,_=>False
def gW(C:Int->Int->Prop)(g:Int->Int->PV):R3:=fun x y S Q=>match x,y with | .int i,.int j=>C i j/\Q (g i j) S|_,_=>False
def Ez{f:Value->Value->Sem Value}{g:Int->Int->Int}(h:j3 X f (A0 fun i j=>.int (g i j))):k9 X f (f_ fun i j=>.int (g i j)):=⟨fun pins s σ H x y v u Q I rx ry ⟨px,py,S,Q3,r1,r2,rS,q,k⟩=>by
 cases px with
 |int i=>
  cases py with
  |int j=>cases r1;cases r2;exact h pins s σ H _ _ v u Q I rx ry ⟨i,j,rfl,rfl,k _ S _ H q (.int _) rS .refl⟩
  |_=>exact q.elim
 |_=>exact q.elim⟩
def qL{f:Value->Value->Sem Value}{g:Int->Int->Bool}(h:j3 X f (A0 fun i j=>.bl (g i j))):k9 X f (f_ fun i j=>.bl (g i j)):=⟨fun pins s σ H x y v u Q I rx ry ⟨px,py,S,Q3,r1,r2,rS,q,k⟩=>by
 cases px with
 |int i=>
  cases py with
  |int j=>cases r1;cases r2;exact h pins s σ H _ _ v u Q I rx ry ⟨i,j,rfl,rfl,k _ S _ H q (.bl _) rS .refl⟩
  |_=>exact q.elim
 |_=>exact q.elim⟩
def qM{f:Value->Value->Sem Value}{C:Int->Int->Prop}{g:Int->Int->Int}(h:j3 X f (rI C fun i j=>.int (g i j))):k9 X f (gW C fun i j=>.int (g i j)):=⟨fun pins s σ H x y v u Q I rx ry ⟨px,py,S,Q3,r1,r2,rS,q,k⟩=>by
 cases px with
 |int i=>
  cases py with
  |int j=>cases r1;cases r2;exact h pins s σ H _ _ v u Q I rx ry ⟨i,j,rfl,rfl,q.1,k _ S _ H q.2 (.int _) rS .refl⟩
  |_=>exact q.elim
 |_=>exact q.elim⟩
def mj(i j:Int):Prop:=j≠0/\j.natAbs < 2 ^ 8000
def uE{n:Nat}(h:n < 2 ^ 8000):n.log2 < 9000:=by
 by_cases z:n=0
 ·rw[z];decide +kernel
 ·exact Xy ((Nat.log2_lt z).mpr h) (by decide)
def EA:k9 X (binaryOp .Sub) (f_ fun i j=>.int (i - j)):=Ez DZ
def EB:k9 X (binaryOp .Mod) (gW (fun _ j=>j≠0) fun i j=>.int (i.fmod j)):=qM A1
def Bx:k9 X (binaryOp .FloorDiv) (gW mj fun i j=>.int (i.fdiv j)):=qM (HU fun _ _ _ _ _ _ _ hc q=>PyProof.Rows.floordiv_int hc.1 q (.inl (PyProof.noPylong_of_log2 (uE hc.2))))
def EC:k9 X (binaryOp .Pow) (gW DX fun i j=>.int (i ^ j.toNat)):=qM D8
def GI:k9 X (compareOp .Lt) (f_ fun i j=>.bl (decide (i < j))):=qL Gn
def GJ:k9 X (compareOp .Gt) (f_ fun i j=>.bl (decide (j < i))):=qL Go
def GK:k9 X (compareOp .GtE) (f_ fun i j=>.bl (decide (j<=i))):=qL Gp
end
end L3
namespace L2
open PySem PySem.Spec PyProof.Rows
section
variable {X:Cx}
def GL(K:Zo):R2:=fun x y H Q=>∃a b xs ys,x = .ref a/\y = .ref b/\SqT K H a xs/\SqT K H b ys/\xs.length+ys.length<=sizeLine/\∀r H',(∀c o,H c=some o->H' c=some o)->SqT K H' r (xs++ys)->Q (.ref r) H'
def By:j3 X (binaryOp .Add) (GL X.K):=by
 intro pins s σ H x y v u Q I rx ry h
 obtain⟨a,b,xs,ys,rfl,rfl,ha,hb,hz,q⟩:=h
 by_cases hx:xs=[]
 ·subst hx
  cases rx
  cases ry
  obtain⟨its,r1,p1,_⟩:=I.tuple ha
  obtain⟨its2,r2,p2,_⟩:=I.tuple hb
  cases r1
  obtain⟨⟨cls,dd,data,sl⟩,ho,hc,n,hd⟩:=id p1
  obtain⟨⟨SL,dd2,data2,sl2⟩,ho2,hc2,n2,hd2⟩:=id p2
  simp only at hc hd hc2 hd2
  subst hc hd hc2 hd2
  exact concat_meets ⟨_,ho,rfl⟩ ⟨_,ho2,rfl⟩ noFill_tuple_add seq_tuple_add Zb Y6 (YS _ _)
   (tuple_addW0 a b _ its2.toArray n n2 dd dd2 sl sl2 rfl) ⟨ho,ho2,⟨.ref b,H,I,rfl,q b H (fun _ _ e=>e) hb⟩⟩
 ·exact Bb pins s σ H _ _ v u Q I rx ry ⟨a,b,xs,ys,rfl,rfl,ha,hb,hx,hz,fun e=>q a H (fun _ _ e=>e) (by rw[e,Wh];exact ha),
   fun _ p hp=>q p _ (fun c o e=>by rw[aM (bw e hp)];exact e) (SqT.of aH)⟩
end
end L2
namespace L3
open PySem L2
section
variable {X:Cx}
def aN:R3:=fun x y S Q=>match x,y with
 | .int i,.int j=>Q (.int (i+j)) S
 | .str i,.str j=>i.length+j.length<=sizeLine/\Q (.str (i++j)) S
 | .tup i,.tup j=>i.length+j.length<=sizeLine/\Q (.tup (i++j)) S
 | .ref i,.ref j=>match S i,S j with
  |some (.lst xs),some (.lst ys)=>xs.length+ys.length<=sizeLine/\∀p,S p=none->Q (.ref p) (JZ S p (.lst (xs++ys)))
  |_,_=>False
 |_,_=>False
def aD:k9 X (binaryOp .Add) aN:=⟨fun pins s σ H x y v u Q I rx ry ⟨px,py,S,Q3,r1,r2,rS,q,k⟩=>by
 unfold aN at q
 split at q
 ·cases r1;cases r2
  exact DY pins s σ H _ _ v u Q I rx ry ⟨_,_,rfl,rfl,k _ S _ H q (.int _) rS .refl⟩
 ·cases r1;cases r2
  exact uh pins s σ H _ _ v u Q I rx ry ⟨_,_,rfl,rfl,q.1,k _ S _ H q.2 (.str _) rS .refl⟩
 ·cases r1 with
  |tup h1 s1=>
   cases r2 with
   |tup h2 s2=>
    refine By pins s σ H _ _ v u Q I rx ry ⟨_,_,_,_,rfl,rfl,h1,h2,by rw[s1.length,s2.length];exact q.1,fun r H' hs hr=>?_⟩
    exact k _ S _ H' q.2 (.tup hr ((s1.mono (.same hs)).append (s2.mono (.same hs)))) (rS.grow hs) (.same hs)
 ·cases r1;cases r2
  split at q
  ·rename_i i j xs ys e1 e2
   obtain⟨vs,h1,s1⟩:=rS _ _ e1
   obtain⟨us,h2,s2⟩:=rS _ _ e2
   exact El pins s σ H _ _ v u Q I rx ry ⟨_,_,_,_,rfl,rfl,h1,h2,by rw[s1.length,s2.length];exact q.1,fun p hp=>k _ _ _ _ (q.2 p (rS.free hp)) (.ref p) (rS.new hp ⟨_,aH,(s1.append s2).mono (.new hp)⟩) (.new hp)⟩
  ·exact q.elim
 ·exact q.elim⟩
end
mutual
inductive Dat(S:ax):PV->PyData->Prop
 |non:Dat S .non .none
 |bl (b:Bool):Dat S (.bl b) (.bool b)
 |int (i:Int):Dat S (.int i) (.int i)
 |str (x:Str):Dat S (.str x) (.str x)
 |tup {ps:List PV} {ds:List PyData}:MB S ps ds->Dat S (.tup ps) (.tuple ds)
 |cl {ps:List PV} {ds:List PyData}:MB S ps ds->Dat S (.cl ps) (.list ds)
 |ref {a:Addr} {ps:List PV} {ds:List PyData}:S a=some (.lst ps)->MB S ps ds->Dat S (.ref a) (.list ds)
inductive MB(S:ax):List PV->List PyData->Prop
 |nil:MB S [] []
 |cons {p:PV} {d:PyData} {ps:List PV} {ds:List PyData}:Dat S p d->MB S ps ds->MB S (p::ps) (d::ds)
end
section
variable {X:Cx}{pins:Za}{σ:L2.St}{H:Hp}{s:Shared}{S:ax}
def uF(I:Inv X pins σ H s)(rS:Kc X.K H S):(∀{p:PV}{d:PyData},Dat S p d->∀{v:V}{u:Value},Rep X.K H v p->RelV v u->∃as,Reads s.heap u d as)/\∀{ps:List PV}{ds:List PyData},MB S ps ds->∀{vs:List V}{us:Zx},Reps X.K H vs ps->Vals vs us->∃as,ReadsAll s.heap us ds as:=by
 have one:=@Dat.rec S (motive_1:=fun p d _=>∀{v:V}{u:Value},Rep X.K H v p->RelV v u->∃as,Reads s.heap u d as) (motive_2:=fun ps ds _=>∀{vs:List V}{us:Zx},Reps X.K H vs ps->Vals vs us->∃as,ReadsAll s.heap us ds as)
 have two:=@MB.rec S (motive_1:=fun p d _=>∀{v:V}{u:Value},Rep X.K H v p->RelV v u->∃as,Reads s.heap u d as) (motive_2:=fun ps ds _=>∀{vs:List V}{us:Zx},Reps X.K H vs ps->Vals vs us->∃as,ReadsAll s.heap us ds as)
 have c1:∀{v:V}{u:Value},Rep X.K H v .non->RelV v u->∃as,Reads s.heap u .none as:=fun h r=>by cases h;cases r;exact⟨_,.none⟩
 have c2:∀(b:Bool){v:V}{u:Value},Rep X.K H v (.bl b)->RelV v u->∃as,Reads s.heap u (.bool b) as:=fun b _ _ h r=>by cases h;cases r;exact⟨_,.bool b⟩
 have c3:∀(i:Int){v:V}{u:Value},Rep X.K H v (.int i)->RelV v u->∃as,Reads s.heap u (.int i) as:=fun i _ _ h r=>by cases h;obtain⟨t,rfl⟩:=r;exact⟨_,.int i t⟩
 have c4:∀(x:Str){v:V}{u:Value},Rep X.K H v (.str x)->RelV v u->∃as,Reads s.heap u (.str x) as:=fun x _ _ h r=>by cases h;obtain⟨t,rfl⟩:=r;exact⟨_,.str x t⟩
 have c5:∀{ps:List PV}{ds:List PyData},MB S ps ds->(∀{vs:List V}{us:Zx},Reps X.K H vs ps->Vals vs us->∃as,ReadsAll s.heap us ds as)->∀{v:V}{u:Value},Rep X.K H v (.tup ps)->RelV v u->∃as,Reads s.heap u (.tuple ds) as:=fun _ ih _ _ h r=>by
  cases h with
  |tup h rs=>
   cases r
   obtain⟨its,rv,⟨o,ho,hc,n,hd⟩,hz⟩:=I.tuple h
   obtain⟨as,q⟩:=ih rs rv
   exact⟨as,.tuple ho hc hd (by simpa using q)⟩
 have c6:∀{ps:List PV}{ds:List PyData},MB S ps ds->(∀{vs:List V}{us:Zx},Reps X.K H vs ps->Vals vs us->∃as,ReadsAll s.heap us ds as)->∀{v:V}{u:Value},Rep X.K H v (.cl ps)->RelV v u->∃as,Reads s.heap u (.list ds) as:=fun _ ih _ _ h r=>by
  cases h with
  |cl h rs=>
   cases r
   obtain⟨its,rv,⟨o,n,ho,hc,_,hd⟩,hz⟩:=I.list h.sq
   obtain⟨as,q⟩:=ih rs rv
   exact⟨_,.list ho hc hd (by simpa using q)⟩
 have c7:∀{a:Addr}{ps:List PV}{ds:List PyData},S a=some (.lst ps)->MB S ps ds->(∀{vs:List V}{us:Zx},Reps X.K H vs ps->Vals vs us->∃as,ReadsAll s.heap us ds as)->∀{v:V}{u:Value},Rep X.K H v (.ref a)->RelV v u->∃as,Reads s.heap u (.list ds) as:=fun e _ ih _ _ h r=>by
  cases h
  cases r
  obtain⟨vs,hv,rs⟩:=rS _ _ e
  obtain⟨its,rv,⟨o,n,ho,hc,_,hd⟩,hz⟩:=I.list (SqL.of hv)
  obtain⟨as,q⟩:=ih rs rv
  exact⟨_,.list ho hc hd (by simpa using q)⟩
 have c8:∀{vs:List V}{us:Zx},Reps X.K H vs []->Vals vs us->∃as,ReadsAll s.heap us [] as:=fun h r=>by cases h;cases r;exact⟨_,.nil⟩
 have c9:∀{p:PV}{d:PyData}{ps:List PV}{ds:List PyData},Dat S p d->MB S ps ds->(∀{v:V}{u:Value},Rep X.K H v p->RelV v u->∃as,Reads s.heap u d as)->(∀{vs:List V}{us:Zx},Reps X.K H vs ps->Vals vs us->∃as,ReadsAll s.heap us ds as)->∀{vs:List V}{us:Zx},Reps X.K H vs (p::ps)->Vals vs us->∃as,ReadsAll s.heap us (d::ds) as:=fun _ _ i1 i2 _ _ h r=>by
  cases h with
  |cons a rs=>
   cases r with
   |cons r1 r2=>
    obtain⟨as,q⟩:=i1 a r1
    obtain⟨bs,q2⟩:=i2 rs r2
    exact⟨_,.cons q q2⟩
 exact⟨fun h=>one c1 c2 c3 c4 c5 c6 c7 c8 c9 h,fun h=>two c1 c2 c3 c4 c5 c6 c7 c8 c9 h⟩
def Dat.reads(I:Inv X pins σ H s)(rS:Kc X.K H S){p:PV}{d:PyData}{v:V}{u:Value}(h:Dat S p d)(r:Rep X.K H v p)(r2:RelV v u):∃as,Reads s.heap u d as:=(uF I rS).1 h r r2
end
section
variable {X:Cx}
def bn(neg:Bool):R3:=fun x y S Q=>match x,y with
 | .int i,.int j=>Q (.bl (neg != decide (i=j))) S
 | .str i,.str j=>Q (.bl (neg != decide (i=j))) S
 | .bl i,.bl j=>Q (.bl (neg != decide (i=j))) S
 |x,y=>∃d d',Dat S x d/\Dat S y d'/\d.canLay0=true/\d'.canLay0=true/\min d.depth d'.depth<=150/\Q (.bl (neg != PyData.eqv d d')) S
def nl(hu:X.A.units+150 < cLine):k9 X (compareOp .Eq) (bn false):=⟨fun pins s σ H x y v u Q I rx ry ⟨px,py,S,Q3,r1,r2,rS,q,k⟩=>by
 unfold bn at q
 split at q
 ·cases r1;cases r2
  exact yb pins s σ H _ _ v u Q I rx ry ⟨rfl,k _ S _ H (by simpa using q) (.bl _) rS .refl⟩
 ·cases r1;cases r2
  exact yb pins s σ H _ _ v u Q I rx ry ⟨rfl,k _ S _ H (by simpa using q) (.bl _) rS .refl⟩
 ·cases r1;cases r2
  exact yb pins s σ H _ _ v u Q I rx ry ⟨rfl,k _ S _ H (by simpa using q) (.bl _) rS .refl⟩
 ·obtain⟨d,d',h1,h2,c1,c2,hd,q⟩:=q
  obtain⟨as,a1⟩:=h1.reads I rS r1 rx
  obtain⟨bs,a2⟩:=h2.reads I rS r2 ry
  exact SeqAt.compareEq_reads a1 a2 c1 c2 (by omega) ⟨.bl _,H,I,rfl,k _ S _ H (by simpa using q) (.bl _) rS .refl⟩⟩
def De(hu:X.A.units+150 < cLine):k9 X (compareOp .NotEq) (bn true):=⟨fun pins s σ H x y v u Q I rx ry ⟨px,py,S,Q3,r1,r2,rS,q,k⟩=>by
 unfold bn at q
 split at q
 ·cases r1;cases r2
  exact yc pins s σ H _ _ v u Q I rx ry ⟨rfl,k _ S _ H (by simpa using q) (.bl _) rS .refl⟩
 ·cases r1;cases r2
  exact yc pins s σ H _ _ v u Q I rx ry ⟨rfl,k _ S _ H (by simpa using q) (.bl _) rS .refl⟩
 ·cases r1;cases r2
  exact yc pins s σ H _ _ v u Q I rx ry ⟨rfl,k _ S _ H (by simpa using q) (.bl _) rS .refl⟩
 ·obtain⟨d,d',h1,h2,c1,c2,hd,q⟩:=q
  obtain⟨as,a1⟩:=h1.reads I rS r1 rx
  obtain⟨bs,a2⟩:=h2.reads I rS r2 ry
  exact SeqAt.compareNe_reads a1 a2 c1 c2 (by omega) ⟨.bl _,H,I,rfl,k _ S _ H (by simpa using q) (.bl _) rS .refl⟩⟩
def vC(neg:Bool):R3:=fun x y S Q=>match y with
 | .non=>Q (.bl (neg != match x with | .non=>true|_=>false)) S
 | .bl true=>match x with | .bl true=>Q (.bl (neg != true)) S|_=>False
 |_=>False
def j_:k9 X (compareOp .IsNot) (vC true):=⟨fun pins s σ H x y v u Q I rx ry ⟨px,py,S,Q3,r1,r2,rS,q,k⟩=>by
 unfold vC at q
 split at q
 ·cases r2
  refine A2 pins s σ H _ _ v u Q I rx ry ⟨rfl,?_⟩
  cases r1<;>exact k _ S _ H (by simpa using q) (.bl _) rS .refl
 ·cases r2
  split at q
  ·cases r1
   exact wP pins s σ H _ _ v u Q I rx ry ⟨rfl,rfl,k _ S _ H (by simpa using q) (.bl _) rS .refl⟩
  ·exact q.elim
 ·exact q.elim⟩
noncomputable def jj(S:ax):PV->Option (List PV)
 | .tup xs=>some xs
 | .cl xs=>some xs
 | .ref a=>match S a with|some (.lst xs)=>some xs|_=>none
 |_=>none
def yM{H:Hp}{S:ax}{v:V}{p:PV}{xs:List PV}(rS:Kc X.K H S)(r:Rep X.K H v p)(h:jj S p=some xs):∃a vs,v = .ref a/\(SqL X.K H a vs\/SqT X.K H a vs)/\Reps X.K H vs xs:=by
 unfold jj at h
 split at h
 ·cases h;cases r with|tup h1 rs=>exact⟨_,_,rfl,.inr h1,rs⟩
 ·cases h;cases r with|cl h1 rs=>exact⟨_,_,rfl,.inl h1.sq,rs⟩
 ·cases r
  split at h
  ·rename_i e
   cases h
   obtain⟨vs,hv,rs⟩:=rS _ _ e
   exact⟨_,vs,rfl,.inl (SqL.of hv),rs⟩
  ·cases h
 ·cases h
noncomputable def ml(x:PyData)(xs:List PyData):Bool:=xs.any fun y=>PyData.eqv y x
def jC(neg:Bool):R3:=fun x y S Q=>match x,y with
 | .str i,.str j=>Q (.bl (neg != !(Builtin.Str.occurrences j i 0 j.length 1).isEmpty)) S
 |x,y=>match y with
  | .ref a=>match S a with
   |some (.lst xs)=>∃d ds,Dat S x d/\MB S xs ds/\d.canLay0=true/\PyData.canLayAll0 ds=true/\d.depth<=150/\Q (.bl (neg != ml d ds)) S
   |some (.dct kvs)=>match x with
    | .str z=>Q (.bl (neg != (kvs.any fun kv=>decide (kv.1=Sum.inr z)))) S
    | .int z=>Q (.bl (neg != (kvs.any fun kv=>decide (kv.1=Sum.inl z)))) S
    |_=>False
   |_=>False
  | .tup xs=>∃d ds,Dat S x d/\MB S xs ds/\d.canLay0=true/\PyData.canLayAll0 ds=true/\d.depth<=150/\Q (.bl (neg != ml d ds)) S
  |_=>False
theorem Kz.any{K:Zo}{H:Hp}{κ:Type} [DecidableEq κ](k:κ):∀{vs:List (κ×V)}{ps:List (κ×PV)},Kz K H vs ps->(jB vs k).isSome=ps.any fun kv=>decide (kv.1=k)
 |_,_,.nil=>rfl
 |_,_,.cons (k:=k') a r=>by
  rw[YT,<-Kz.any k r]
  by_cases e:k'=k
  ·rw[Mk e];simp[e]
  ·rw[Ml e];simp[e]
def jq(hu:X.A.units+160 < cLine):k9 X (compareOp .In) (jC false):=⟨fun pins s σ H x y v u Q I rx ry ⟨px,py,S,Q3,r1,r2,rS,q,k⟩=>by
 unfold jC at q
 split at q
 ·cases r1;cases r2
  exact wy pins s σ H _ _ v u Q I rx ry ⟨_,_,rfl,rfl,k _ S _ H (by simpa using q) (.bl _) rS .refl⟩
 ·split at q
  ·cases r2
   cases ry
   split at q
   ·rename_i xs e
    obtain⟨d,ds,h1,h2,c1,c2,hd,q⟩:=q
    obtain⟨as,a1⟩:=h1.reads I rS r1 rx
    obtain⟨bs,a2⟩:=(Dat.ref e h2).reads I rS (.ref _) (rfl:RelV (.ref _) (.ref _))
    exact SeqAt.in_list_reads a2 a1 c2 c1 (by omega) ⟨.bl _,H,I,rfl,k _ S _ H (by simpa [ml]using q) (.bl _) rS .refl⟩
   ·rename_i kvs e
    obtain⟨kv,hv,rk⟩:=rS _ _ e
    split at q
    ·cases r1
     exact GA (by omega) I (DGet.k (k:=Sum.inr _) hv) rx fun s3 I3=>⟨.bl _,H,I3,rfl,k _ S _ H (by rw[rk.any];simpa using q) (.bl _) rS .refl⟩
    ·cases r1
     exact GA (by omega) I (DGet.k (k:=Sum.inl _) hv) rx fun s3 I3=>⟨.bl _,H,I3,rfl,k _ S _ H (by rw[rk.any];simpa using q) (.bl _) rS .refl⟩
    ·exact q.elim
   ·exact q.elim
  ·rename_i xs
   obtain⟨d,ds,h1,h2,c1,c2,hd,q⟩:=q
   obtain⟨as,a1⟩:=h1.reads I rS r1 rx
   obtain⟨bs,a2⟩:=(Dat.tup h2).reads I rS r2 ry
   exact SeqAt.in_tuple_reads a2 a1 c2 c1 (by omega) ⟨.bl _,H,I,rfl,k _ S _ H (by simpa [ml]using q) (.bl _) rS .refl⟩
  ·exact q.elim⟩
def eL(hu:X.A.units+160 < cLine):k9 X (compareOp .NotIn) (jC true):=⟨fun pins s σ H x y v u Q I rx ry ⟨px,py,S,Q3,r1,r2,rS,q,k⟩=>by
 unfold jC at q
 split at q
 ·cases r1;cases r2
  exact qB pins s σ H _ _ v u Q I rx ry ⟨_,_,rfl,rfl,k _ S _ H (by simpa using q) (.bl _) rS .refl⟩
 ·split at q
  ·cases r2
   cases ry
   split at q
   ·rename_i xs e
    obtain⟨d,ds,h1,h2,c1,c2,hd,q⟩:=q
    obtain⟨as,a1⟩:=h1.reads I rS r1 rx
    obtain⟨bs,a2⟩:=(Dat.ref e h2).reads I rS (.ref _) (rfl:RelV (.ref _) (.ref _))
    exact SeqAt.notIn_list_reads a2 a1 c2 c1 (by omega) ⟨.bl _,H,I,rfl,k _ S _ H (by simpa [ml]using q) (.bl _) rS .refl⟩
   ·rename_i kvs e
    obtain⟨kv,hv,rk⟩:=rS _ _ e
    split at q
    ·cases r1
     exact vx (by omega) I (DGet.k (k:=Sum.inr _) hv) rx fun s3 I3=>⟨.bl _,H,I3,rfl,k _ S _ H (by rw[rk.any];simpa using q) (.bl _) rS .refl⟩
    ·cases r1
     exact vx (by omega) I (DGet.k (k:=Sum.inl _) hv) rx fun s3 I3=>⟨.bl _,H,I3,rfl,k _ S _ H (by rw[rk.any];simpa using q) (.bl _) rS .refl⟩
    ·exact q.elim
   ·exact q.elim
  ·rename_i xs
   obtain⟨d,ds,h1,h2,c1,c2,hd,q⟩:=q
   obtain⟨as,a1⟩:=h1.reads I rS r1 rx
   obtain⟨bs,a2⟩:=(Dat.tup h2).reads I rS r2 ry
   exact SeqAt.notIn_tuple_reads a2 a1 c2 c1 (by omega) ⟨.bl _,H,I,rfl,k _ S _ H (by simpa [ml]using q) (.bl _) rS .refl⟩
  ·exact q.elim⟩
end
end L3
namespace HT
open PySem PySem.Spec PyProof.Rows
section
variable {prog:Program}{w:World}{A:Around}{E:Zq}{s:Shared}
def ke{t sl:Addr}{items:Zy}{vl vu:Value}{lo hi:Option Int}{Q:Zq}(ht:IsTup s.heap t items)(hs:s.heap.IsSliceOf sl vl vu .none)(pl:IsPart vl lo)(pu:IsPart vu hi)
  (hw:KJ items.size 0 lo=0/\KJ items.size items.size hi=items.size)
  (h:Q (.ref t) s):wpAny (model prog w) A (getItem (.ref t) (.ref sl)) Q E s:=by
 obtain⟨os,hos,hcs,hds⟩:=id hs
 have SM:s.TypeIs (.ref sl) "slice":=⟨os,hos,hcs⟩
 unfold getItem
 try with_reducible refine Yg ?_
 first|refine VG (VP ?_)|skip
 refine VG (wpAny_sequenceKey ht.typeIs (by decide) ?_)
 refine VG (WC (name:=Str.ofString "__getitem__") ht.typeIs WX
  (W4 WX ht.typeIs entry_tuple_getitem ?_ (args_tuple_getitem _ _)))
 show wpAny _ _ (Builtin.Tuple.tupleItemsOf (.ref t) >>= _) _ _ s
 refine VG (tupleItemsOf_ ht ?_)
 refine VG (Zc SM ?_)
 rw[if_pos (by decide)]
 refine VG (fJ hs pl pu ?_)
 have hyes:(((KJ items.size 0 lo:Nat):Int) == 0&&(1:Int) == 1&&(KJ items.size items.size hi - KJ items.size 0 lo) == items.size)=true:=by
  rw[hw.1,hw.2];simp
 show wpAny _ _ (if (((KJ items.size 0 lo:Nat):Int) == 0&&(1:Int) == 1&&(KJ items.size items.size hi - KJ items.size 0 lo) == items.size)=true then _ else _) _ _ s
 rw[if_pos hyes]
 unfold Builtin.Tuple.tupleIsExact
 refine VG (VG (Zc ht.typeIs (VP ?_)))
 rw[if_pos (by decide)]
 first
  |exact VG (Yh (VP ⟨_,rfl,VP h⟩))
  |exact VG (Yh (VG (VP (VP ⟨_,rfl,VP h⟩))))
  |exact VG (Yh (VG (VP ⟨_,rfl,VP h⟩)))
end
end HT
namespace L2
open PySem PySem.Spec PyProof.Rows
section
variable {X:Cx}
noncomputable def GM(K:Zo):V->Option Int->Option Int->Hp->VK->Prop:=fun x lo hi H Q=>∃a xs,x = .ref a/\SqT K H a xs/\∀r H',(∀c o,H c=some o->H' c=some o)->SqT K H' r (mY xs lo hi)->Q (.ref r) H'
def Bz:FR X (GM X.K):=by
 intro pins s σ H x v vl vu lo hi sl Q I rx hs pl pu h
 obtain⟨a,xs,rfl,hx,q⟩:=h
 by_cases hw:HT.KJ xs.length 0 lo=0/\HT.KJ xs.length xs.length hi=xs.length
 ·cases rx
  obtain⟨its,r,ht,hz⟩:=I.tuple hx
  have hlen:its.toArray.size=xs.length:=by rw[VQ];exact r.length.symm
  refine⟨"tuple",_,WX.lookup,ht.typeIs,HT.ke ht hs pl pu (by rw[hlen];exact hw) ⟨.ref a,H,I,rfl,q a H (fun _ _ e=>e) ?_⟩⟩
  have e:mY xs lo hi=xs:=by unfold mY;rw[hw.1,hw.2];simp
  rw[e];exact hx
 ·exact Ee pins s σ H _ v vl vu lo hi sl Q I rx hs pl pu ⟨a,xs,rfl,hx,hw,fun p hp=>q p _ (fun c o e=>by rw[aM (bw e hp)];exact e) (SqT.of aH)⟩
def BA(hu:X.A.units+1 < cLine):FS X (fun x y H Q=>∃a v,x = .ref a/\DGet H a y (some v)/\Q v H):=by
 intro value slice pins s σ H x y v u Q I rx ry h hs
 obtain⟨a,z,rfl,g,q⟩:=h
 cases rx
 exact tail_any (sD I g) PySem.F.slot_dict_getitem.lookup (wF hu I g ry fun w' s3 I3 rw'=>⟨z,H,I3,rw',q⟩) hs
def yN(hu:X.A.units+1 < cLine):AW X (fun o i v H Q=>∃a H',o = .ref a/\P0 H a i v H'/\Q H'):=by
 intro pins s σ H o i v ov iv u Q I ro ri rv h
 obtain⟨a,H',rfl,g,q⟩:=h
 cases ro
 exact wG hu I g ri rv fun s' I'=>⟨H',I',q⟩
end
end L2
namespace L3
open PySem L2
theorem Reps.KN{K:Zo}{H:Hp}{vs:List V}{ps:List PV}{i:Int}{p:PV}(r:Reps K H vs ps)(h:L2.KN ps i=some p):∃v,L2.KN vs i=some v/\Rep K H v p:=by
 unfold L2.KN at h ⊢
 rw[r.length]
 cases e:t9 ps.length i with
 |none=>rw[e]at h;cases h
 |some j=>
  rw[e]at h
  obtain⟨v,h1,h2⟩:=r.get h
  exact⟨v,h1,h2⟩
noncomputable def oW:PV->Option bo
 | .int i=>some (.inl i)
 | .str x=>some (.inr x)
 |_=>none
def eJ{K:Zo}{H:Hp}{v:V}{p:PV}{k:bo}(r:Rep K H v p)(h:oW p=some k):v=kV k:=by
 cases p with
 |int i=>cases h;cases r;rfl
 |str i=>cases h;cases r;rfl
 |_=>cases h
noncomputable def lw{κ:Type} [DecidableEq κ]:List (κ×PV)->κ->Option PV
 |[],_=>none
 |(k',v)::r,k=>if k'=k then some v else lw r k
theorem Kz.val{K:Zo}{H:Hp}{κ:Type} [DecidableEq κ]{k:κ}{p:PV}:∀{vs:List (κ×V)}{ps:List (κ×PV)},Kz K H vs ps->lw ps k=some p->∃v,jB vs k=some v/\Rep K H v p
 |_,_,.nil,h=>by cases h
 |_,_,.cons (k:=k') a r,h=>by
  unfold lw at h
  split at h
  ·rename_i e;cases h;exact⟨_,Mk e,a⟩
  ·rename_i e;rw[Ml e];exact Kz.val r h
section
variable {X:Cx}{a b e lo hi:Expr}{ta tb te:bd}{pos p2:Pos}
structure Jv(X:Cx)(r:R3):Prop where
 ok:FS X (LR X r)
def GN{r:R3}(hr:Jv X r)(ha:bB X a ta)(hb:bB X b tb)(hs:mM b):bB X (.Subscript a b pos) (af r ta tb):=⟨bb (Gw hr.ok ha.ok hb.ok hs) fun _ _ _=>mO⟩
def ae:R3:=fun x y S Q=>match x with
 | .tup xs=>match y with | .int i=>(match KN xs i with|some v=>Q v S|none=>False)|_=>False
 | .cl xs=>match y with | .int i=>(match KN xs i with|some v=>Q v S|none=>False)|_=>False
 | .str z=>match y with | .int i=>z.length<=sizeLine/\(match KN z.cps.toList i with|some c=>Q (.str ⟨#[c]⟩) S|none=>False)|_=>False
 | .ref a=>match S a with
  |some (.lst xs)=>(match y with | .int i=>(match KN xs i with|some v=>Q v S|none=>False)|_=>False)
  |some (.dct kvs)=>(match oW y with|some k=>(match lw kvs k with|some v=>Q v S|none=>False)|none=>False)
  |_=>False
 |_=>False
def Jw(hu:X.A.units+1 < cLine):Jv X ae:=⟨fun value slice pins s σ H x y v u Q I rx ry ⟨px,py,S,Q3,r1,r2,rS,q,k⟩ hs=>by
 unfold ae at q
 split at q
 ·split at q
  ·split at q
   ·rename_i e
    cases r2
    cases r1 with
    |tup h1 rs=>
     obtain⟨w,hw,rw'⟩:=rs.KN e
     exact Eg value slice pins s σ H _ _ v u Q I rx ry ⟨_,_,_,w,rfl,rfl,h1,hw,k _ S _ H q rw' rS .refl⟩ hs
   ·exact q.elim
  ·exact q.elim
 ·split at q
  ·split at q
   ·rename_i e
    cases r2
    cases r1 with
    |cl h1 rs=>
     obtain⟨w,hw,rw'⟩:=rs.KN e
     exact vt value slice pins s σ H _ _ v u Q I rx ry ⟨_,_,_,w,rfl,rfl,h1.sq,hw,k _ S _ H q rw' rS .refl⟩ hs
   ·exact q.elim
  ·exact q.elim
 ·split at q
  ·obtain⟨hz,q⟩:=q
   split at q
   ·rename_i e
    cases r1;cases r2
    exact Eh value slice pins s σ H _ _ v u Q I rx ry ⟨_,_,_,rfl,rfl,hz,e,k _ S _ H q (.str _) rS .refl⟩ hs
   ·exact q.elim
  ·exact q.elim
 ·split at q
  ·rename_i e0
   split at q
   ·split at q
    ·rename_i e
     cases r1;cases r2
     obtain⟨vs,hv,rs⟩:=rS _ _ e0
     obtain⟨w,hw,rw'⟩:=rs.KN e
     exact vt value slice pins s σ H _ _ v u Q I rx ry ⟨_,_,_,w,rfl,rfl,SqL.of hv,hw,k _ S _ H q rw' rS .refl⟩ hs
    ·exact q.elim
   ·exact q.elim
  ·rename_i e0
   split at q
   ·rename_i ek
    split at q
    ·rename_i ev
     cases r1
     have e1:=eJ r2 ek
     subst e1
     obtain⟨kv,hv,rk⟩:=rS _ _ e0
     obtain⟨w,hw,rw'⟩:=rk.val ev
     refine BA hu value slice pins s σ H _ _ v u Q I rx ry ⟨_,w,rfl,?_,k _ S _ H q rw' rS .refl⟩ hs
     rw[<-hw]
     exact DGet.k hv
    ·exact q.elim
   ·exact q.elim
  ·exact q.elim
 ·exact q.elim⟩
abbrev FV:=cG->ax->(Option Int->ax->Prop)->bC->Prop
inductive LO(X:Cx)(t:FV)(σ:L2.St)(H:Hp)(Q:Option Int->Hp->Prop):Prop
 |mk (σ3 S Q3 E3) (rσ:Kk X.K H σ σ3) (rS:Kc X.K H S) (h:t σ3 S Q3 E3) (xo:PP X H E3) (k:∀o S' H',Q3 o S'->Kc X.K H' S'->Grow X.K H H'->Q o H'):LO X t σ H Q
structure HZ(X:Cx)(e:Option Expr)(t:FV):Prop where
 ok:PO X e (LO X t)
noncomputable def xS:FV:=fun _ S Q _=>Q none S
noncomputable def t_(t:bd):FV:=fun σ S Q E=>t σ S (fun v S'=>match v with | .int i=>Q (some i) S'|_=>False) E
def yO{e:Option Expr}{t t':TO}(h:PO X e t)(k:∀σ H Q,t' σ H Q->t σ H Q):PO X e t':=fun pins s σ H Q I q=>h pins s σ H Q I (k σ H Q q)
def ly:HZ X none xS:=⟨yO A_ fun σ H Q ⟨σ3,S,Q3,E3,rσ,rS,h,xo,k⟩=>k none S H h rS .refl⟩
def fz(h:bB X e te):HZ X (some e) (t_ te):=⟨yO (Ba h.ok) fun σ H Q ⟨σ3,S,Q3,E3,rσ,rS,h,xo,k⟩=>⟨σ3,S,_,E3,rσ,rS,h,xo,fun p S' v H' h1 rv M0 g=>by
 cases p with
 |int i=>cases rv;exact⟨i,rfl,k _ S' H' h1 M0 g⟩
 |_=>exact h1.elim⟩⟩
noncomputable def jm{α:Type}(xs:List α)(lo hi:Option Int):List α:=(xs.drop (HT.KJ xs.length 0 lo)).take (HT.KJ xs.length xs.length hi - HT.KJ xs.length 0 lo)
def Reps.cut{K:Zo}{H:Hp}{vs:List V}{ps:List PV}(r:Reps K H vs ps)(lo hi:Option Int):Reps K H (mY vs lo hi) (jm ps lo hi):=by
 unfold mY jm
 rw[r.length]
 exact(r.drop _).take _
def uG(x:PV)(lo hi:Option Int)(S:ax)(Q:bc):Prop:=match x with
 | .tup xs=>Q (.tup (jm xs lo hi)) S
 | .cl xs=>∀p,S p=none->Q (.ref p) (JZ S p (.lst (jm xs lo hi)))
 | .str z=>z.length<=sizeLine/\Q (.str (Txt.slice z lo hi)) S
 | .ref a=>match S a with|some (.lst xs)=>∀p,S p=none->Q (.ref p) (JZ S p (.lst (jm xs lo hi)))|_=>False
 |_=>False
noncomputable def JL(X:Cx):V->Option Int->Option Int->Hp->VK->Prop:=fun x lo hi H Q=>∃px S Q3,Rep X.K H x px/\Kc X.K H S/\uG px lo hi S Q3/\PQ X.K H Q3 Q
def JM:FR X (JL X):=by
 intro pins s σ H x v vl vu lo hi sl Q I rx hs pl pu ⟨px,S,Q3,r1,rS,q,k⟩
 unfold uG at q
 split at q
 ·cases r1 with
  |tup h1 rs=>exact Bz pins s σ H _ v vl vu lo hi sl Q I rx hs pl pu ⟨_,_,rfl,h1,fun r H' hh hr=>k _ S _ H' q (.tup hr ((rs.cut lo hi).mono (.same hh))) (rS.grow hh) (.same hh)⟩
 ·cases r1 with
  |cl h1 rs=>exact vv pins s σ H _ v vl vu lo hi sl Q I rx hs pl pu ⟨_,_,rfl,h1.sq,fun p hp=>k _ _ _ _ (q p (rS.free hp)) (.ref p) (rS.new hp ⟨_,aH,(rs.cut lo hi).mono (.new hp)⟩) (.new hp)⟩
 ·cases r1
  exact Er pins s σ H _ v vl vu lo hi sl Q I rx hs pl pu ⟨_,rfl,q.1,k _ S _ H q.2 (.str _) rS .refl⟩
 ·split at q
  ·rename_i e
   cases r1
   obtain⟨vs,hv,rs⟩:=rS _ _ e
   exact vv pins s σ H _ v vl vu lo hi sl Q I rx hs pl pu ⟨_,_,rfl,SqL.of hv,fun p hp=>k _ _ _ _ (q p (rS.free hp)) (.ref p) (rS.new hp ⟨_,aH,(rs.cut lo hi).mono (.new hp)⟩) (.new hp)⟩
  ·exact q.elim
 ·exact q.elim
def cP(te:bd)(tl th:FV):bd:=fun σ S Q E=>te σ S (fun x S1=>tl σ S1 (fun l S2=>th σ S2 (fun u S3=>uG x l u S3 Q) E) E) E
def fg{lo hi:Option Expr}{tl th:FV}(he:bB X e te)(hl:HZ X lo tl)(hu:HZ X hi th):bB X (.Subscript e (.Slice lo hi none p2) pos) (cP te tl th):=
 ⟨bb (yi JM he.ok hl.ok hu.ok) fun σ H Q ⟨σ3,S,Q3,E3,rσ,rS,h,xo,k⟩=>⟨σ3,S,_,E3,rσ,rS,h,xo,fun x S1 v H1 h1 rx Kn g1=>⟨σ3,S1,_,E3,rσ.mono g1,Kn,h1,xo.mono g1,fun l S2 H2 h2 MF g2=>
  ⟨σ3,S2,_,E3,rσ.mono (g1.trans g2),MF,h2,xo.mono (g1.trans g2),fun u S3 H3 h3 Qt g3=>⟨x,S3,Q3,rx.mono (g2.trans g3),Qt,h3,k.mono (g1.trans (g2.trans g3))⟩⟩⟩⟩⟩
def BC:j3 X (binaryOp .Mult) (rI IntMulOk fun i j=>.int (i * j)):=HU fun _ _ _ _ _ _ _ hc q=>PyProof.Rows.mul_int q hc
def bM:R3:=fun x y S Q=>match x,y with
 | .int i,.int j=>IntMulOk i j/\Q (.int (i * j)) S
 | .ref a,.int j=>(match S a with|some (.lst xs)=>-(2 ^ 63)<=j/\j < 2 ^ 63/\xs.length * j.toNat<=sizeLine/\∀p,S p=none->Q (.ref p) (JZ S p (.lst (List.replicate j.toNat xs).flatten))|_=>False)
 |_,_=>False
theorem Reps.rep{K:Zo}{H:Hp}{vs:List V}{ps:List PV}(r:Reps K H vs ps):∀n:Nat,Reps K H (List.replicate n vs).flatten (List.replicate n ps).flatten
 |0=>.nil
 |n+1=>by
  rw[Wo,Wo,Xm,Xm]
  exact r.append (Reps.rep r n)
def bi:k9 X (binaryOp .Mult) bM:=⟨fun pins s σ H x y v u Q I rx ry ⟨px,py,S,Q3,r1,r2,rS,q,k⟩=>by
 unfold bM at q
 split at q
 ·cases r1;cases r2
  exact BC pins s σ H _ _ v u Q I rx ry ⟨_,_,rfl,rfl,q.1,k _ S _ H q.2 (.int _) rS .refl⟩
 ·split at q
  ·rename_i e
   cases r1;cases r2
   obtain⟨vs,hv,rs⟩:=rS _ _ e
   exact Em pins s σ H _ _ v u Q I rx ry ⟨_,_,_,rfl,rfl,hv,q.1,q.2.1,by rw[rs.length];exact q.2.2.1,fun p hp=>k _ _ _ _ (q.2.2.2 p (rS.free hp)) (.ref p) (rS.new hp ⟨_,aH,(rs.rep _).mono (.new hp)⟩) (.new hp)⟩
  ·exact q.elim
 ·exact q.elim⟩
end
end L3
namespace L2
open PySem PySem.Spec PyProof.Rows
section
variable {X:Cx}
def uH{pins:Za}{σ:St}{H:Hp}{s:Shared}{x:Value}{t:Value}{p:Heap->Prop}{vs:List V}{tp:Addr}{b:Bool}{Q:Zq}{E:Zq}(I:Inv X pins σ H s)(Z:PySem.W.KitX X.K x t p)(hp:p s.heap)(hx:x ≠ .builtin "__main__.__loader__#opaque")
  (ht:SqT X.K H tp vs) (e:∀its,Vals vs its->PySem.W.kitAny X.K t its=some b) (h:∀tk,Q (.bool b) { s with toks:=tk }):wpAny (model X.prog X.w) X.A (call (.builtin "isinstance") [x,.ref tp]) Q E s:=by
 obtain⟨its,rv,⟨⟨cls,dd,data,sl⟩,ho,hc,n,hd⟩,hz⟩:=I.tuple ht
 simp only at hc hd
 subst hc hd
 exact PySem.W.kia_tup Z I.PY hp ho (e its rv) hx h
end
end L2
namespace L3
open PySem L2
abbrev sK:=List PV->ax->bc->Prop
section
variable {X:Cx}{e o:Expr}{es:List Expr}{te to:bd}{ts:List bd}{x:Str}{p pos apos cpos:Pos}
inductive LC(X:Cx)(r:sK)(xs:List V)(H:Hp)(Q:VK):Prop
 |mk (ps S Q3) (rx:Reps X.K H xs ps) (rS:Kc X.K H S) (h:r ps S Q3) (k:PQ X.K H Q3 Q):LC X r xs H Q
structure fO(X:Cx)(f:Value)(r:sK):Prop where
 ok:fc X f (LC X r)
def au(r:sK)(ts:List bd):bd:=fun σ S Q E=>ao ts σ S (fun ps S1=>r ps S1 Q) E
def vD{r:sK}{σ:L2.St}{H:Hp}{Q:VK}:LE X (au r ts) σ H Q->HY (ts.map (LE X)) σ H fun vs H1=>LC X r vs H1 Q:=fun⟨σ3,S,Q3,E3,rσ,rS,h,xo,k⟩=>
 cH rσ rS h xo fun ps S' vs H' hl q rv M0 g=>⟨ps,S',Q3,rv,M0,q,k.mono g⟩
def BD{id:String}{r:sK}(hc:fO X (.builtin id) r)(hg:Gl X x)(hm:X.mg x=none)(hv:bootBuiltins x=some (.builtin id))(he:starEach (e::es) X.env=(false,eval e X.env)::starEach es X.env)(ha:mi X (e::es) ts)
  (hn:x ≠ "__name__":=by decide) (hdb:(x == ("__debug__":Str))=false:=by decide) (hpl:(backTo pos (starEach es X.env)).any (·.1)=false:=by rfl):bB X (.Call (.Name x p) (e::es) [] pos) (au r ts):=
 ⟨bb (yf hc.ok hg hm hv ha.ok hn hdb he hpl) fun _ _ _=>vD⟩
def BE{id:String}{r:sK}(hc:fO X (.type id) r)(hg:Gl X x)(hm:X.mg x=none)(hv:bootBuiltins x=some (.type id))(he:starEach (e::es) X.env=(false,eval e X.env)::starEach es X.env)(ha:mi X (e::es) ts)
  (hn:x ≠ "__name__":=by decide) (hdb:(x == ("__debug__":Str))=false:=by decide) (hpl:(backTo pos (starEach es X.env)).any (·.1)=false:=by rfl):bB X (.Call (.Name x p) (e::es) [] pos) (au r ts):=
 ⟨bb (wC hc.ok hg hm hv ha.ok hn hdb he hpl) fun _ _ _=>vD⟩
def dg:sK:=fun ps S Q=>match ps with
 |[.tup xs]=>Q (.int xs.length) S
 |[.cl xs]=>Q (.int xs.length) S
 |[.str z]=>z.length<=sizeLine/\Q (.int z.length) S
 |[.ref a]=>(match S a with|some (.lst xs)=>Q (.int xs.length) S|some (.dct kvs)=>Q (.int kvs.length) S|_=>False)
 |_=>False
def dP:fO X (.builtin "len") dg:=⟨fun pins s σ H xs us Q I r ⟨ps,S,Q3,rp,rS,q,k⟩=>by
 unfold dg at q
 split at q
 ·cases rp with|cons a rr=>cases rr;cases a with|tup h rs=>exact fW pins s σ H _ us Q I r ⟨_,_,rfl,.inr h,by rw[rs.length];exact k _ S _ H q (.int _) rS .refl⟩
 ·cases rp with|cons a rr=>cases rr;cases a with|cl h rs=>exact fW pins s σ H _ us Q I r ⟨_,_,rfl,.inl h.sq,by rw[rs.length];exact k _ S _ H q (.int _) rS .refl⟩
 ·cases rp with|cons a rr=>cases rr;cases a;exact qC pins s σ H _ us Q I r ⟨_,rfl,q.1,k _ S _ H q.2 (.int _) rS .refl⟩
 ·cases rp with
  |cons a rr=>
   cases rr;cases a
   split at q
   ·rename_i e
    obtain⟨vs,hv,rs⟩:=rS _ _ e
    exact fW pins s σ H _ us Q I r ⟨_,_,rfl,.inl (SqL.of hv),by rw[rs.length];exact k _ S _ H q (.int _) rS .refl⟩
   ·rename_i e
    obtain⟨vs,hv,rs⟩:=rS _ _ e
    exact wJ pins s σ H _ us Q I r ⟨_,_,rfl,hv,by rw[rs.length];exact k _ S _ H q (.int _) rS .refl⟩
   ·exact q.elim
 ·exact q.elim⟩
def wR:sK:=fun ps S Q=>match ps with|[.int i]=>Q (.int (if i < 0 then -i else i)) S|_=>False
def GO:fO X (.builtin "abs") wR:=⟨fun pins s σ H xs us Q I r ⟨ps,S,Q3,rp,rS,q,k⟩=>by
 unfold wR at q
 split at q
 ·cases rp with|cons a rr=>cases rr;cases a;exact ye pins s σ H _ us Q I r ⟨_,rfl,k _ S _ H q (.int _) rS .refl⟩
 ·exact q.elim⟩
def kf:sK:=fun ps S Q=>match ps with|[.int i,.int j]=>Q (.int (if j > i then j else i)) S|_=>False
def qN(hc:X.calm=true):fO X (.builtin "max") kf:=⟨fun pins s σ H xs us Q I r ⟨ps,S,Q3,rp,rS,q,k⟩=>by
 unfold kf at q
 split at q
 ·cases rp with|cons a rr=>cases rr with|cons b r3=>cases r3;cases a;cases b;exact wA hc pins s σ H _ us Q I r ⟨_,_,rfl,k _ S _ H q (.int _) rS .refl⟩
 ·exact q.elim⟩
def np:sK:=fun ps S Q=>match ps with|[.int i]=>Q (.int i) S|[.bl b]=>Q (.int (if b then 1 else 0)) S|_=>False
def GP:fO X (.type "int") np:=⟨fun pins s σ H xs us Q I r ⟨ps,S,Q3,rp,rS,q,k⟩=>by
 unfold np at q
 split at q
 ·cases rp with|cons a rr=>cases rr;cases a;exact pG pins s σ H _ us Q I r (.inl ⟨_,rfl,k _ S _ H q (.int _) rS .refl⟩)
 ·cases rp with|cons a rr=>cases rr;cases a;exact pG pins s σ H _ us Q I r (.inr ⟨_,rfl,k _ S _ H q (.int _) rS .refl⟩)
 ·exact q.elim⟩
def im:sK:=fun ps S Q=>match ps with
 |[.str z]=>z.length<=sizeLine/\∀p,S p=none->Q (.ref p) (JZ S p (.lst (z.cps.toList.map fun c=>.str (lj c))))
 |[v]=>(match jj S v with|some xs=>∀p,S p=none->Q (.ref p) (JZ S p (.lst xs))|none=>False)
 |_=>False
theorem nu{K:Zo}{H:Hp}:∀cs:List Nat,Reps K H (cs.map fun c=>V.str (lj c)) (cs.map fun c=>PV.str (lj c))
 |[]=>.nil
 |c::r=>.cons (.str _) (nu r)
def ED(hc:X.calm=true):fO X (.type "list") im:=⟨fun pins s σ H xs us Q I r ⟨ps,S,Q3,rp,rS,q,k⟩=>by
 unfold im at q
 split at q
 ·cases rp with|cons a rr=>cases rr;cases a;exact lm hc pins s σ H _ us Q I r ⟨_,rfl,q.1,fun p hp=>k _ _ _ _ (q.2 p (rS.free hp)) (.ref p) (rS.new hp ⟨_,aH,(nu _)⟩) (.new hp)⟩
 ·cases rp with
  |cons a rr=>
   cases rr
   split at q
   ·rename_i e
    obtain⟨b,vs,rfl,hs,rs⟩:=yM rS a e
    exact qD pins s σ H _ us Q I r ⟨_,_,rfl,hs,fun p hp=>k _ _ _ _ (q p (rS.free hp)) (.ref p) (rS.new hp ⟨_,aH,rs.mono (.new hp)⟩) (.new hp)⟩
   ·exact q.elim
 ·exact q.elim⟩
def aS:sK:=fun ps S Q=>match ps with
 |[v]=>(match jj S v with|some xs=>Q (.tup xs) S|none=>False)
 |_=>False
def bJ:fO X (.type "tuple") aS:=⟨fun pins s σ H xs us Q I r ⟨ps,S,Q3,rp,rS,q,k⟩=>by
 unfold aS at q
 split at q
 ·cases rp with
  |cons a rr=>
   cases rr
   split at q
   ·rename_i e
    obtain⟨b,vs,rfl,hs,rs⟩:=yM rS a e
    rcases hs with hs|hs
    ·exact jp pins s σ H _ us Q I r ⟨_,_,rfl,.inl ⟨hs,fun p hp=>k _ S _ _ q (.tup (SqT.of aH) (rs.mono (.new hp))) (rS.other hp) (.new hp)⟩⟩
    ·exact jp pins s σ H _ us Q I r ⟨_,_,rfl,.inr ⟨hs,k _ S _ _ q (.tup hs rs) rS .refl⟩⟩
   ·exact q.elim
 ·exact q.elim⟩
noncomputable def nv:List PV->Option (List Bool)
 |[]=>some []
 | .bl b::r=>(nv r).map (b::·)
 |_::_=>none
theorem nw{K:Zo}{H:Hp}:∀{vs:List V}{ps:List PV}{bs:List Bool},Reps K H vs ps->nv ps=some bs->vs=bs.map V.bl
 |_,_,_,.nil,h=>by cases h;rfl
 |_,_,bs,.cons (p:=p) a r,h=>by
  cases p with
  |bl b=>
   cases a
   unfold nv at h
   cases e:nv _ with
   |none=>rw[e]at h;cases h
   |some l=>rw[e]at h;cases h;rw[nw r e];rfl
  |_=>cases h
def BF:sK:=fun ps S Q=>match ps with
 |[.ref a]=>(match S a with|some (.lst xs)=>(match nv xs with|some bs=>Q (.bl (bs.all id)) S|none=>False)|_=>False)
 |_=>False
def GQ(hc:X.calm=true):fO X (.builtin "all") BF:=⟨fun pins s σ H xs us Q I r ⟨ps,S,Q3,rp,rS,q,k⟩=>by
 unfold BF at q
 split at q
 ·cases rp with
  |cons a rr=>
   cases rr;cases a
   split at q
   ·rename_i e
    split at q
    ·rename_i eb
     obtain⟨vs,hv,rs⟩:=rS _ _ e
     have e2:=nw rs eb
     subst e2
     exact wM hc pins s σ H _ us Q I r ⟨_,_,rfl,SqL.of hv,k _ S _ H q (.bl _) rS .refl⟩
    ·exact q.elim
   ·exact q.elim
 ·exact q.elim⟩
end
noncomputable def qO(t c:String):Bool:=t == c || (t == "bool" && c == "int")
noncomputable def AO(S:ax):PV->Option String
 | .non=>some "NoneType"
 | .bl _=>some "bool"
 | .int _=>some "int"
 | .str _=>some "str"
 | .tup _=>some "tuple"
 | .cl _=>some "list"
 | .ref a=>(match S a with|some (.lst _)=>some "list" | some (.dct _)=>some "dict" | _=>none)
 | .ty _=>none
 | .exc _ _ _=>none
 | .cls _=>none
noncomputable def cN(c:String):Bool:=["int","str","bool","tuple","list","dict"].contains c
def yP(K:Zo)(t c:String):PySem.W.kitCls K (.type t) (.type c)=(if PySem.W.kitMeta c=true then (PySem.fastBuiltinMro t).map (·.contains (Value.type c)) else none):=rfl
def vE{K:Zo}{t c:String}(ht:t∈["NoneType","bool","int","str","tuple","list","dict"])(hc:cN c=true):PySem.W.kitOne K (.type t) (.type c)=some (qO t c):=by
 have hc':c∈["int","str","bool","tuple","list","dict"]:=by
  have:=hc
  unfold cN at this
  simpa using this
 simp only[VL,V3,WK]at ht hc'
 rcases ht with rfl|rfl|rfl|rfl|rfl|rfl|rfl<;>rcases hc' with rfl|rfl|rfl|rfl|rfl|rfl <;>
  first
   |(unfold PySem.W.kitOne;rw[if_pos (by decide)];rfl)
   |(unfold PySem.W.kitOne;rw[if_neg (by decide),yP];decide +kernel)
def yQ{S:ax}{p:PV}{t:String}(h:AO S p=some t):t∈["NoneType","bool","int","str","tuple","list","dict"]:=by
 unfold AO at h
 split at h<;>first|(cases h;decide)|(split at h<;>first|(cases h;decide)|cases h)|cases h
section
variable {X:Cx}
noncomputable def GR:List PV->Option (List String)
 |[]=>some []
 | .ty c::r=>if cN c then (GR r).map (c::·) else none
 |_::_=>none
def qP:sK:=fun ps S Q=>match ps with
 |[x,.ty c]=>(match AO S x with|some t=>cN c=true/\Q (.bl (qO t c)) S|none=>False)
 |[x,.tup cs]=>(match AO S x,GR cs with|some t,some l=>Q (.bl (l.any (qO t))) S|_,_=>False)
 |_=>False
def BG{K:Zo}{H:Hp}{t:String}(ht:t∈["NoneType","bool","int","str","tuple","list","dict"]):∀(cs:List PV){l:List String}{vs:List V}{its:Zx},GR cs=some l->Reps K H vs cs->Vals vs its->PySem.W.kitAny K (.type t) its=some (l.any (qO t)):=by
 intro cs
 induction cs with
 |nil=>intro l vs its h rs r;cases h;cases rs;cases r;rfl
 |cons p cs ih=>
  intro l vs its h rs r
  cases p with
  |ty c=>
   unfold GR at h
   split at h
   ·rename_i hc
    cases e:GR cs with
    |none=>rw[e]at h;cases h
    |some l'=>
     rw[e]at h
     cases h
     cases rs with
     |cons a rs=>
      cases a
      cases r with
      |@cons _ u _ us r1 r2=>
       cases (show u=Value.type c from r1)
       show(match PySem.W.kitOne K (.type t) (.type c)with|some true=>some true|some false=>PySem.W.kitAny K (.type t) us|none=>none)=_
       rw[vE ht hc,YT]
       cases qO t c with
       |true=>rfl
       |false=>exact ih e rs r2
   ·cases h
  |_=>cases h
def pS:fO X (.builtin "isinstance") qP:=⟨fun pins s σ H xs us Q I r ⟨ps,S,Q3,rp,rS,q,k⟩=>by
 have main:∀{v:PV} {x:V} {u:Value} {t:String},Rep X.K H x v->RelV x u->AO S v=some t->∃(h:Heap->Prop),PySem.W.KitX X.K u (.type t) h/\h s.heap/\u ≠ .builtin "__main__.__loader__#opaque":=by
  intro v x u t rv rx ht
  cases rv with
  |non=>cases ht;cases rx;exact⟨_,PySem.W.kitx_none,True.intro,fun z=>nomatch z⟩
  |bl b=>cases ht;cases rx;exact⟨_,PySem.W.kitx_bool,True.intro,fun z=>nomatch z⟩
  |int b=>cases ht;obtain⟨t,rfl⟩:=rx;exact⟨_,PySem.W.kitx_int,True.intro,fun z=>nomatch z⟩
  |str b=>cases ht;obtain⟨t,rfl⟩:=rx;exact⟨_,PySem.W.kitx_str,True.intro,fun z=>nomatch z⟩
  |ty b=>cases ht
  |exc _ _ _=>cases ht
  |cls _=>cases ht
  |tup h rs=>
   cases ht;cases rx
   obtain⟨its,_,⟨o,ho,hc,_⟩,_⟩:=I.tuple h
   exact⟨_,PySem.W.kitx_tuple,⟨o,ho,hc⟩,fun z=>nomatch z⟩
  |cl h rs=>
   cases ht;cases rx
   obtain⟨its,_,⟨o,n,ho,hc,_⟩,_⟩:=I.list h.sq
   exact⟨_,PySem.W.kitx_list,⟨o,ho,hc⟩,fun z=>nomatch z⟩
  |ref a=>
   cases rx
   unfold AO at ht
   simp only at ht
   split at ht
   ·rename_i e
    cases ht
    obtain⟨vs,hv,_⟩:=rS _ _ e
    obtain⟨its,_,⟨o,n,ho,hc,_⟩,_⟩:=I.list (SqL.of hv)
    exact⟨_,PySem.W.kitx_list,⟨o,ho,hc⟩,fun z=>nomatch z⟩
   ·rename_i e
    cases ht
    obtain⟨vs,hv,_⟩:=rS _ _ e
    obtain⟨_,_,vs',_,p⟩:=(show KE X.prog X.w H s.heap _ (.dK vs)from I.hok _ _ hv)
    obtain⟨o,es,ep,h1,h2,_⟩:=p
    exact⟨_,PySem.W.kitx_dict,⟨o,h1,h2.1⟩,fun z=>nomatch z⟩
   ·cases ht
 unfold qP at q
 split at q
 ·split at q
  ·rename_i ht
   cases rp with
   |cons a rr=>
    cases rr with
    |cons b r3=>
     cases r3;cases b
     cases r with
     |cons r1 r2=>
      cases r2 with
      |cons r4 r5=>
       cases r5
       cases (show _=Value.type _ from r4)
       obtain⟨h,Z,hp,hx⟩:=main a r1 ht
       exact PySem.W.kia_one Z I.PY hp (vE (yQ ht) q.1) hx fun tk=>⟨.bl _,H,I.tok _,rfl,k _ S _ H q.2 (.bl _) rS .refl⟩
  ·exact q.elim
 ·split at q
  ·rename_i ht hl
   cases rp with
   |cons a rr=>
    cases rr with
    |cons b r3=>
     cases r3
     cases b with
     |tup h1 rs=>
      cases r with
      |cons r1 r2=>
       cases r2 with
       |cons r4 r5=>
        cases r5
        cases r4
        obtain⟨h,Z,hp,hx⟩:=main a r1 ht
        exact uH I Z hp hx h1 (fun its rv=>BG (yQ ht) _ hl rs rv) fun tk=>⟨.bl _,H,I.tok _,rfl,k _ S _ H q (.bl _) rS .refl⟩
  ·exact q.elim
 ·exact q.elim⟩
end
abbrev vF:=PV->List PV->ax->bc->Prop
section
variable {X:Cx}{e o:Expr}{es:List Expr}{te to:bd}{ts:List bd}{name:Str}{p pos apos cpos:Pos}{T id:String}
inductive LM(X:Cx)(r:vF)(x:V)(xs:List V)(H:Hp)(Q:VK):Prop
 |mk (px ps S Q3) (rx:Rep X.K H x px) (rs:Reps X.K H xs ps) (rS:Kc X.K H S) (h:r px ps S Q3) (k:PQ X.K H Q3 Q):LM X r x xs H Q
structure yR(X:Cx)(id:String)(r:vF):Prop where
 ok:Ef X id (LM X r)
def uI(T:String)(x:PV)(S:ax):Prop:=match x with
 | .str _=>T = "str"
 | .ref a=>(match S a with|some (.lst _)=>T = "list" | some (.dct _)=>T = "dict" | _=>False)
 | .cl _=>T = "list"
 |_=>False
def yS{H:Hp}{S:ax}{v:V}{p:PV}(rS:Kc X.K H S)(r:Rep X.K H v p)(h:uI T p S):HV X.K T v H:=by
 cases r with
 |str x=>exact h
 |ref a=>
  unfold uI at h
  simp only at h
  split at h
  ·rename_i e
   obtain⟨vs,hv,_⟩:=rS _ _ e
   exact .inl ⟨h,_,SqL.of hv⟩
  ·rename_i e
   obtain⟨vs,hv,_⟩:=rS _ _ e
   exact .inr (.inr (.inl ⟨h,.inl ⟨_,hv⟩⟩))
  ·exact h.elim
 |cl h1 _=>exact .inl ⟨h,_,h1.sq⟩
 |_=>exact h.elim
def hZ(T:String)(r:vF)(to:bd)(ts:List bd):bd:=fun σ S Q E=>to σ S (fun x S1=>uI T x S1/\ao ts σ S1 (fun ps S2=>r x ps S2 Q) E) E
def IW{r:vF}(pa:PlainAttrs T)(slot:Slot T name id)(hty:typeOf (.builtin id)=pure (.type "method_descriptor"))(hm:yR X id r)(hs:starEach (e::es) X.env=(false,eval e X.env)::starEach es X.env)(ho:bB X o to)(ha:mi X (e::es) ts)
  (hbase:attributeBase o name X.env (eval o X.env)=eval o X.env:=by rfl)
  (hfew:((backTo cpos (starEach (e::es) X.env)).all (fun x=>!x.1)&&(backToKw cpos (keywordEach [] X.env)).all (fun x=>x.1.isSome)
   && decide ((e::es).length+([]:List Keyword).length+(if ([]:List Keyword).isEmpty then 0 else 1) < 30))=true:=by rfl)
  (hline:(apos.endLine == cpos.line)=true:=by rfl) (hplain:(backTo cpos (starEach es X.env)).any (·.1)=false:=by rfl):bB X (.Call (.Attribute o name apos) (e::es) [] cpos) (hZ T r to ts):=
 ⟨bb (Gy pa slot hty hm.ok ho.ok ha.ok hbase hfew hline hs hplain) fun σ H Q ⟨σ3,S,Q3,E3,rσ,rS,h,xo,k⟩=>⟨σ3,S,_,E3,rσ,rS,h,xo,fun x S1 v H1 h1 rx Kn g1=>
  ⟨yS Kn rx h1.1,cH (rσ.mono g1) Kn h1.2 (xo.mono g1) fun ps S2 vs H2 hl q rv MF g2=>⟨x,ps,S2,Q3,rx.mono g2,rv,MF,q,k.mono (g1.trans g2)⟩⟩⟩⟩
def GS{r:vF}(pa:PlainAttrs T)(slot:Slot T name id)(hty:typeOf (.builtin id)=pure (.type "method_descriptor"))(hm:yR X id r)(ho:bB X o to)
  (hbase:attributeBase o name X.env (eval o X.env)=eval o X.env:=by rfl) (hline:(apos.endLine == cpos.line)=true:=by rfl):bB X (.Call (.Attribute o name apos) [] [] cpos) (hZ T r to []):=
 ⟨bb (Ei pa slot hty hm.ok ho.ok hbase hline) fun σ H Q ⟨σ3,S,Q3,E3,rσ,rS,h,xo,k⟩=>⟨σ3,S,_,E3,rσ,rS,h,xo,fun x S1 v H1 h1 rx Kn g1=>
  ⟨yS Kn rx h1.1,⟨x,[],S1,Q3,rx,.nil,Kn,h1.2,k.mono g1⟩⟩⟩⟩
def bA:vF:=fun x ps S Q=>match x,ps with
 | .ref a,[y]=>(match S a with|some (.lst xs)=>xs.length < sizeLine/\Q .non (JZ S a (.lst (xs++[y])))|_=>False)
 |_,_=>False
def dQ:yR X "list.append" bA:=⟨fun pins s σ H x xs v us Q I rx rs ⟨px,ps,S,Q3,r1,rp,rS,q,k⟩=>by
 unfold bA at q
 split at q
 ·split at q
  ·rename_i e
   cases r1
   cases rp with
   |cons b rr=>
    cases rr
    obtain⟨vs,hv,rl⟩:=rS _ _ e
    exact wD pins s σ H _ _ v us Q I rx rs ⟨_,_,_,rfl,rfl,hv,by rw[rl.length];exact q.1,k _ _ _ _ q.2 .non (rS.put hv trivial ⟨_,aH,(rl.append (.cons b .nil)).mono (.mut hv trivial)⟩) (.mut hv trivial)⟩
  ·exact q.elim
 ·exact q.elim⟩
def bI:vF:=fun x ps S Q=>match x,ps with
 | .ref a,[.ref b]=>(match S a,S b with|some (.lst xs),some (.lst ys)=>xs.length+ys.length<=sizeLine/\Q .non (JZ S a (.lst (xs++ys)))|_,_=>False)
 |_,_=>False
def io:yR X "list.extend" bI:=⟨fun pins s σ H x xs v us Q I rx rs ⟨px,ps,S,Q3,r1,rp,rS,q,k⟩=>by
 unfold bI at q
 split at q
 ·split at q
  ·rename_i e e2
   cases r1
   cases rp with
   |cons b rr=>
    cases rr
    cases b
    obtain⟨vs,hv,rl⟩:=rS _ _ e
    obtain⟨us',hu,ru⟩:=rS _ _ e2
    exact wE pins s σ H _ _ v us Q I rx rs ⟨_,_,_,_,rfl,rfl,hv,hu,by rw[rl.length,ru.length];exact q.1,k _ _ _ _ q.2 .non (rS.put hv trivial ⟨_,aH,(rl.append ru).mono (.mut hv trivial)⟩) (.mut hv trivial)⟩
  ·exact q.elim
 ·exact q.elim⟩
def wS:vF:=fun x ps S Q=>match x,ps with
 | .ref a,[]=>(match S a with|some (.lst xs)=>(match xs[xs.length - 1]? with|some y=>Q y (JZ S a (.lst xs.dropLast))|none=>False)|_=>False)
 | .ref a,[.int i]=>(match S a with|some (.lst xs)=>-(2 ^ 63)<=i/\i < 2 ^ 63/\(match seqIndex? i xs.length with|some j=>(match xs[j]? with|some y=>Q y (JZ S a (.lst (xs.eraseIdx j)))|none=>False)|none=>False)|_=>False)
 |_,_=>False
def GT:yR X "list.pop" wS:=⟨fun pins s σ H x xs v us Q I rx rs ⟨px,ps,S,Q3,r1,rp,rS,q,k⟩=>by
 unfold wS at q
 split at q
 ·split at q
  ·rename_i e
   split at q
   ·rename_i ey
    cases r1
    cases rp
    obtain⟨vs,hv,rl⟩:=rS _ _ e
    rw[<-rl.length]at ey
    obtain⟨y',Ta,ry⟩:=rl.get ey
    exact Ej pins s σ H _ _ v us Q I rx rs ⟨_,_,_,rfl,rfl,hv,Ta,k _ _ _ _ q (ry.mono (.mut hv trivial)) (rS.put hv trivial ⟨_,aH,rl.dropLast.mono (.mut hv trivial)⟩) (.mut hv trivial)⟩
   ·exact q.elim
  ·exact q.elim
 ·split at q
  ·rename_i e
   obtain⟨h1,h2,q⟩:=q
   split at q
   ·rename_i ej
    split at q
    ·rename_i ey
     cases r1
     cases rp with
     |cons b rr=>
      cases rr;cases b
      obtain⟨vs,hv,rl⟩:=rS _ _ e
      obtain⟨y',Ta,ry⟩:=rl.get ey
      rw[<-rl.length]at ej
      exact ym pins s σ H _ _ v us Q I rx rs ⟨_,_,_,_,_,rfl,rfl,hv,h1,h2,ej,Ta,k _ _ _ _ q (ry.mono (.mut hv trivial)) (rS.put hv trivial ⟨_,aH,(rl.eraseIdx _).mono (.mut hv trivial)⟩) (.mut hv trivial)⟩
    ·exact q.elim
   ·exact q.elim
  ·exact q.elim
 ·exact q.elim⟩
noncomputable def texts:List PV->Option (List Str)
 |[]=>some []
 | .str b::r=>(texts r).map (b::·)
 |_::_=>none
theorem ny{K:Zo}{H:Hp}:∀{vs:List V}{ps:List PV}{bs:Zs},Reps K H vs ps->texts ps=some bs->vs=bs.map V.str
 |_,_,_,.nil,h=>by cases h;rfl
 |_,_,bs,.cons (p:=p) a r,h=>by
  cases p with
  |str b=>
   cases a
   unfold texts at h
   cases e:texts _ with
   |none=>rw[e]at h;cases h
   |some l=>rw[e]at h;cases h;rw[ny r e];rfl
  |_=>cases h
def pU:vF:=fun x ps S Q=>match x,ps with
 | .str z,[.ref a]=>(match S a with|some (.lst xs)=>(match texts xs with|some ys=>(ys.map (·.length)).sum+ys.length * z.length<=1000000/\Q (.str (Txt.join z ys)) S|none=>False)|_=>False)
 |_,_=>False
def yT:yR X "str.join" pU:=⟨fun pins s σ H x xs v us Q I rx rs ⟨px,ps,S,Q3,r1,rp,rS,q,k⟩=>by
 unfold pU at q
 split at q
 ·split at q
  ·rename_i e
   split at q
   ·rename_i et
    cases r1
    cases rp with
    |cons b rr=>
     cases rr;cases b
     obtain⟨vs,hv,rl⟩:=rS _ _ e
     have e2:=ny rl et
     subst e2
     exact Bp pins s σ H _ _ v us Q I rx rs ⟨_,_,_,rfl,rfl,SqL.of hv,q.1,k _ S _ H q.2 (.str _) rS .refl⟩
   ·exact q.elim
  ·exact q.elim
 ·exact q.elim⟩
def lz:vF:=fun x ps S Q=>match x,ps with
 | .str a,[.str b]=>(match Builtin.Str.occurrences a b 0 a.length 1 with|i::_=>Q (.int i) S|[]=>False)
 |_,_=>False
def BH:yR X "str.index" lz:=⟨fun pins s σ H x xs v us Q I rx rs ⟨px,ps,S,Q3,r1,rp,rS,q,k⟩=>by
 unfold lz at q
 split at q
 ·split at q
  ·rename_i e
   cases r1
   cases rp with
   |cons b rr=>
    cases rr;cases b
    exact yw pins s σ H _ _ v us Q I rx rs ⟨_,_,_,_,rfl,rfl,e,k _ S _ H q (.int _) rS .refl⟩
  ·exact q.elim
 ·exact q.elim⟩
end
section
variable {X:Cx}{e c:Expr}{te:bd}{st:Stmt}{rest a b:List Stmt}{t u:bx}{tc:k8}{pos:Pos}
def aQ:bx:=fun D σ S=>D.nx σ S
def ah(t u:bx):bx:=fun D σ S=>t { D with nx:=u D } σ S
def aI:lr X [] aQ:=⟨vA AT fun D σ H ⟨σ3,S,D3,rσ,rS,h,xo,n,r,bk,ct⟩=>n σ3 S σ H h rσ rS .refl⟩
def ad(h1:vz X st t)(h2:lr X rest u):lr X (st::rest) (ah t u):=
 ⟨vA (xY h1.ok h2.ok) fun D σ H ⟨σ3,S,D3,rσ,rS,h,xo,n,r,bk,ct⟩=>⟨σ3,S,{ D3 with nx:=u D3 },rσ,rS,h,xo,fun σ4 S' σ' H' h' Qi M0 g=>⟨σ4,S',D3,Qi,M0,h',xo.mono g,n.mono g,r.mono g,bk.mono g,ct.mono g⟩,r,bk,ct⟩⟩
def aj(h1:vz X st t):lr X [st] t:=⟨AU h1.ok⟩
def bm(te:bd):bx:=fun D σ S=>te σ S (fun _ S1=>D.nx σ S1) D.ex
def bY(he:bB X e te)(hs:swapsWith e none pos.line X.env=pure false:=by rfl):vz X (.Expr e pos) (bm te):=
 ⟨fy (AV he.ok hs) fun D σ H ⟨σ3,S,D3,rσ,rS,h,xo,n,r,bk,ct⟩=>⟨σ3,S,_,D3.ex,rσ,rS,h,xo,fun p S1 v H1 h1 rv Kn g1=>n σ3 S1 σ H1 h1 (rσ.mono g1) Kn g1⟩⟩
def ar(te:bd):bx:=fun D σ S=>te σ S D.rt D.ex
def al(he:bB X e te):vz X (.Return (some e) pos) (ar te):=
 ⟨fy (DM he.ok) fun D σ H ⟨σ3,S,D3,rσ,rS,h,xo,n,r,bk,ct⟩=>⟨σ3,S,D3.rt,D3.ex,rσ,rS,h,xo,r⟩⟩
def br(c:k8)(t u:bx):bx:=fun D σ S=>c σ S (fun b S1=>if b=true then t D σ S1 else u D σ S1) D.ex
def aZ(hc:uB X c tc)(ha:lr X a t)(hb:lr X b u):vz X (.If c a b pos) (br tc t u):=
 ⟨fy (Gc hc.ok ha.ok hb.ok) fun D σ H ⟨σ3,S,D3,rσ,rS,h,xo,n,r,bk,ct⟩=>⟨σ3,S,_,D3.ex,rσ,rS,h,xo,fun z S1 H1 h1 Kn g1=>by
  cases z with
  |true=>rw[if_pos rfl]at h1 ⊢;exact⟨σ3,S1,D3,rσ.mono g1,Kn,h1,xo.mono g1,n.mono g1,r.mono g1,bk.mono g1,ct.mono g1⟩
  |false=>rw[if_neg (by decide)]at h1 ⊢;exact⟨σ3,S1,D3,rσ.mono g1,Kn,h1,xo.mono g1,n.mono g1,r.mono g1,bk.mono g1,ct.mono g1⟩⟩⟩
def aq(i:Nat)(te:bd):bx:=fun D σ S=>te σ S (fun v S1=>D.nx (σ.set i (some v)) S1) D.ex
def yU{i:Nat}{D:ud}{σ:L2.St}{H:Hp}:LS X (aq i te) D σ H->AZ (LE X te) (sx i) D σ H:=fun⟨σ3,S,D3,rσ,rS,h,xo,n,r,bk,ct⟩=>
 ⟨σ3,S,_,D3.ex,rσ,rS,h,xo,fun p S1 v H1 h1 rv Kn g1=>n _ S1 _ H1 h1 ((rσ.mono g1).set rv i) Kn g1⟩
def GU{i:Nat}{x:Str}{pos':Pos}(hN:X.N.Nodup)(hi:X.N[i]?=some x)(hx:C3 X.env.scope x)(he:bB X e te)(hs:swapsWith e (some (.Name x pos')) pos.line X.env=pure false:=by rfl)
  (hf:X.fn x=true\/X.env.scope.names.lookup x=some .local:=by first|exact .inl rfl|exact .inr rfl|assumption):vz X (.Assign [.Name x pos'] e pos) (aq i te):=⟨fy (DR hN hi hx he.ok hs hf) fun _ _ _=>yU⟩
def wT(i j:Nat)(ta tb:bd):bx:=fun D σ S=>ta σ S (fun v S1=>tb σ S1 (fun w S2=>D.nx ((σ.set i (some v)).set j (some w)) S2) D.ex) D.ex
def Df{i j:Nat}{x y:Str}{a b:Expr}{ta tb:bd}{px py pt:Pos}{kt k2 Q4}(hc:X.calm=true)(hN:X.N.Nodup)(hi:X.N[i]?=some x)(hj:X.N[j]?=some y)(hij:i≠j)
  (hx:X.env.scope.names.lookup x=some .local) (hy:X.env.scope.names.lookup y=some .local) (ha:mi X [a,b] [ta,tb])
  (hw:swappedStores [.Tuple [.Name x px,.Name y py] kt pt] (.Tuple [a,b] k2 Q4) X.env=pure (some [x,y]):=by rfl)
  (hs:swapsWithSole [.Tuple [.Name x px,.Name y py] kt pt] (.Tuple [a,b] k2 Q4) pos.line X.env=pure false:=by rfl) :
  vz X (.Assign [.Tuple [.Name x px,.Name y py] kt pt] (.Tuple [a,b] k2 Q4) pos) (wT i j ta tb):=
 ⟨fy (DS hc hN hi hj hij hx hy ha.ok hw hs) fun D σ H ⟨σ3,S,D3,rσ,rS,h,xo,n,r,bk,ct⟩=>
  ⟨σ3,S,_,D3.ex,rσ,rS,h,xo,fun v S1 v' H1 h1 rv Kn g1=>⟨σ3,S1,_,D3.ex,rσ.mono g1,Kn,h1,xo.mono g1,fun w S2 w' H2 h2 rw' MF g2=>
   ⟨v',w',rfl,n _ S2 _ H2 h2 (((rσ.mono (g1.trans g2)).set (rv.mono g2) i).set rw' j) MF (g1.trans g2)⟩⟩⟩⟩
def nA(i j k:Nat)(te:bd):bx:=fun D σ S=>te σ S (fun p S1=>match p with | .tup [v,w,u]=>D.nx (((σ.set k (some u)).set j (some w)).set i (some v)) S1|_=>False) D.ex
def BI{i j k:Nat}{x y z:Str}{px py pz pt:Pos}{kt:Nat}(hc:X.calm=true)(hN:X.N.Nodup)(hi:X.N[i]?=some x)(hj:X.N[j]?=some y)(hk:X.N[k]?=some z)
  (hx:X.env.scope.names.lookup x=some .local) (hy:X.env.scope.names.lookup y=some .local) (hz:X.env.scope.names.lookup z=some .local) (he:bB X e te)
  (hw:swappedStores [.Tuple [.Name x px,.Name y py,.Name z pz] kt pt] e X.env=pure (some [x,y,z]):=by rfl)
  (hs:swapsWithSole [.Tuple [.Name x px,.Name y py,.Name z pz] kt pt] e pos.line X.env=pure false:=by rfl):vz X (.Assign [.Tuple [.Name x px,.Name y py,.Name z pz] kt pt] e pos) (nA i j k te):=
 ⟨fy (yx hc hN hi hj hk hx hy hz he.ok hw hs) fun D σ H ⟨σ3,S,D3,rσ,rS,h,xo,n,r,bk,ct⟩=>⟨σ3,S,_,D3.ex,rσ,rS,h,xo,fun p S1 v H1 h1 rv Kn g1=>by
  try dsimp only at h1
  split at h1
  ·cases rv with
   |tup hq rs=>
    cases rs with
    |cons r1 rs=>
     cases rs with
     |cons r2 rs=>
      cases rs with
      |cons r3 rs=>
       cases rs
       exact⟨_,_,_,_,rfl,hq,n _ S1 _ H1 h1 ((((rσ.mono g1).set r3 k).set r2 j).set r1 i) Kn g1⟩
  ·exact h1.elim⟩⟩
inductive Tg where
 |n (i:Nat)|tp (l:Tg)|nil|cons (a r:Tg)
mutual
noncomputable def Tg.put:Tg->PV->cG->Option cG
 | .n i,p,σ=>some (σ.set i (some p))
 | .tp l,.tup xs,σ=>l.J7 xs σ
 |_,_,_=>none
noncomputable def Tg.J7:Tg->List PV->cG->Option cG
 | .nil,[],σ=>some σ
 | .cons a r,x::xs,σ=>(match a.put x σ with|some σ'=>r.J7 xs σ'|none=>none)
 |_,_,_=>none
end
noncomputable def Tg.len:Tg->Nat
 | .cons _ r=>r.len+1
 |_=>0
mutual
noncomputable def Tg.g2(K:Zo):Tg->TG
 | .n i=>sx i
 | .tp l=>Gf K l.len (l.QO K)
 |_=>fun _ _ _ _=>False
noncomputable def Tg.QO(K:Zo):Tg->C4
 | .nil=>Ge
 | .cons a r=>C5 (a.g2 K) (r.QO K)
 |_=>fun _ _ _ _=>False
end
noncomputable def Tg.under(own:Nat):Tg->Bool
 | .n i=>decide (i < own)
 | .tp l=>l.under own
 | .nil=>true
 | .cons a r=>a.under own&&r.under own
theorem Tg.Kq:∀(g:Tg){ps:List PV}{σ3 σ4:cG},g.J7 ps σ3=some σ4->ps.length=g.len
 | .nil,ps,σ3,σ4,h=>by
  cases ps with
  |nil=>rfl
  |cons _ _=>unfold Tg.J7 at h;cases h
 | .cons a r,ps,σ3,σ4,h=>by
  cases ps with
  |nil=>unfold Tg.J7 at h;cases h
  |cons x xs=>
   unfold Tg.J7 at h
   split at h
   ·rw[V1,Tg.Kq r h];rfl
   ·cases h
 | .n _,ps,σ3,σ4,h=>by unfold Tg.J7 at h;cases h
 | .tp _,ps,σ3,σ4,h=>by unfold Tg.J7 at h;cases h
mutual
theorem Tg.Pf{K:Zo}{H:Hp}{own:Nat}:∀(g:Tg){v:V}{p:PV}{σ:L2.St}{σ3 σ4:cG}{Q:L2.St->Hp->Prop},Rep K H v p->Kk K H σ σ3->g.put p σ3=some σ4->(∀σ',Kk K H σ' σ4->(g.under own=true->σ'.drop own=σ.drop own)->Q σ' H)->g.g2 K v σ H Q
 | .n i,v,p,σ,σ3,σ4,Q,r,rσ,h,k=>by
  unfold Tg.put at h
  cases h
  unfold Tg.g2
  refine k _ (rσ.set r i) fun hb=>?_
  have hi:i < own:=of_decide_eq_true hb
  rw[List.drop_set]
  rw[if_pos hi]
 | .tp l,v,p,σ,σ3,σ4,Q,r,rσ,h,k=>by
  cases p with
  |tup xs=>
   unfold Tg.put at h
   cases r with
   |tup hq rs=>
    have hg:=Tg.Pw (own:=own) l rs rσ h k
    unfold Tg.g2
    exact⟨_,_,rfl,hq,rs.length.trans (Tg.Kq l h),hg⟩
  |_=>unfold Tg.put at h;cases h
 | .nil,v,p,σ,σ3,σ4,Q,r,rσ,h,k=>by unfold Tg.put at h;cases h
 | .cons _ _,v,p,σ,σ3,σ4,Q,r,rσ,h,k=>by unfold Tg.put at h;cases h
theorem Tg.Pw{K:Zo}{H:Hp}{own:Nat}:∀(g:Tg){vs:List V}{ps:List PV}{σ:L2.St}{σ3 σ4:cG}{Q:L2.St->Hp->Prop},Reps K H vs ps->Kk K H σ σ3->g.J7 ps σ3=some σ4->(∀σ',Kk K H σ' σ4->(g.under own=true->σ'.drop own=σ.drop own)->Q σ' H)->g.QO K vs σ H Q
 | .nil,vs,ps,σ,σ3,σ4,Q,r,rσ,h,k=>by
  cases ps with
  |nil=>
   unfold Tg.J7 at h
   cases h
   cases r
   unfold Tg.QO
   exact⟨rfl,k _ rσ fun _=>rfl⟩
  |cons _ _=>unfold Tg.J7 at h;cases h
 | .cons a r',vs,ps,σ,σ3,σ4,Q,r,rσ,h,k=>by
  cases ps with
  |nil=>unfold Tg.J7 at h;cases h
  |cons x xs=>
   unfold Tg.J7 at h
   split at h
   ·rename_i σ5 e5
    cases r with
    |cons r1 r2=>
     unfold Tg.QO
     refine⟨_,_,rfl,Tg.Pf (own:=own) a r1 rσ e5 fun σ' Qi d1=>Tg.Pw (own:=own) r' r2 Qi h fun UP Tb d2=>k UP Tb fun hb=>?_⟩
     have hb':a.under own=true/\r'.under own=true:=by simpa [Tg.under]using hb
     rw[d2 hb'.2,d1 hb'.1]
   ·cases h
 | .n _,vs,ps,σ,σ3,σ4,Q,r,rσ,h,k=>by unfold Tg.J7 at h;cases h
 | .tp _,vs,ps,σ,σ3,σ4,Q,r,rσ,h,k=>by unfold Tg.J7 at h;cases h
end
structure BJ(X:Cx)(e:Expr)(g:Tg):Prop where
 ok:PG X e (g.g2 X.K)
structure BK(X:Cx)(es:List Expr)(g:Tg):Prop where
 ok:Gd X es (g.QO X.K)
 len:(assignEach es X.env).length=g.len
def JN(i:Nat){x:Str}(hN:X.N.Nodup)(hi:X.N[i]?=some x)(hx:C3 X.env.scope x)(hf:X.fn x=true\/X.env.scope.names.lookup x=some .local:=by first|exact .inl rfl|exact .inr rfl|assumption):BJ X (.Name x pos) (.n i):=⟨by
 have h:=AX (pos:=pos) hN hi hx hf
 unfold Tg.g2
 exact h⟩
def cI:BK X [] .nil:=⟨by unfold Tg.QO;exact AY,rfl⟩
def aO{es:List Expr}{a r:Tg}(h1:BJ X e a)(h2:BK X es r)(hs:(assignEach (e::es) X.env).map (·.2)=assign e X.env::(assignEach es X.env).map (·.2):=by rfl)(hl:(assignEach (e::es) X.env).length=(assignEach es X.env).length+1:=by rfl):BK X (e::es) (.cons a r):=
 ⟨by unfold Tg.QO;exact xZ h1.ok h2.ok hs,by rw[hl,h2.len];rfl⟩
def pV{es:List Expr}{k:Nat}{l:Tg}(hc:X.calm=true)(h:BK X es l)(hst:(assignEach es X.env).findIdx? (·.1)=none:=by rfl):BJ X (.Tuple es k pos) (.tp l):=⟨by
 have h:=DO (pos:=pos) (k:=k) hc h.ok h.len hst
 unfold Tg.g2
 exact h⟩
end
noncomputable def nB{κ:Type} [DecidableEq κ](kvs:List (κ×PV))(k:κ)(v:PV):List (κ×PV):=
 if (kvs.any fun kv=>decide (kv.1=k))=true then kvs.map (fun kv=>if kv.1=k then (kv.1,v) else kv) else kvs++[(k,v)]
theorem Kz.append{K:Zo}{H:Hp}{κ:Type}:∀{vs us:List (κ×V)}{ps qs:List (κ×PV)},Kz K H vs ps->Kz K H us qs->Kz K H (vs++us) (ps++qs)
 |_,_,_,_,.nil,s=>s
 |_,_,_,_,.cons a r,s=>.cons a (Kz.append r s)
def Kz.put{K:Zo}{H:Hp}{κ:Type} [DecidableEq κ]{k:κ}{v:V}{p:PV}(q:Rep K H v p){vs:List (κ×V)}{ps:List (κ×PV)}(r:Kz K H vs ps):Kz K H (h_ vs k v) (nB ps k p):=by
 have e:(vs.any fun kv=>decide (kv.1=k))=(ps.any fun kv=>decide (kv.1=k)):=by rw[mZ,r.any]
 unfold h_ nB
 rw[e]
 split
 ·clear e
  rename_i h
  clear h
  induction r with
  |nil=>exact .nil
  |@cons k' v' p' vs' ps' a r ih=>
   rw[VT,VT]
   by_cases z:k'=k
   ·rw[if_pos z,if_pos z];exact .cons q ih
   ·rw[if_neg z,if_neg z];exact .cons a ih
 ·exact r.append (.cons q .nil)
def eM(o i v:PV)(S:ax)(Q:ax->Prop):Prop:=match o with
 | .ref a=>(match S a with
  |some (.lst xs)=>(match i with | .int k=>(match t9 xs.length k with|some j=>Q (JZ S a (.lst (xs.set j v)))|none=>False)|_=>False)
  |some (.dct kvs)=>(match oW i with|some k=>kvs.length < sizeLine/\Q (JZ S a (.dct (nB kvs k v)))|none=>False)
  |_=>False)
 |_=>False
section
variable {X:Cx}{e o i:Expr}{te to ti:bd}{pos pos':Pos}
noncomputable def IY(X:Cx):V->V->V->Hp->(Hp->Prop)->Prop:=fun o i v H Q=>∃po pi pv S Q3,Rep X.K H o po/\Rep X.K H i pi/\Rep X.K H v pv/\Kc X.K H S/\eM po pi pv S Q3/\∀S' H',Q3 S'->Kc X.K H' S'->Grow X.K H H'->Q H'
def EE(hu:X.A.units+1 < cLine):AW X (IY X):=by
 intro pins s σ H o i v ov iv u Q I ro ri rv ⟨po,pi,pv,S,Q3,r1,r2,r3,rS,q,k⟩
 unfold eM at q
 split at q
 ·split at q
  ·rename_i e
   split at q
   ·split at q
    ·rename_i ej
     cases r1;cases r2
     obtain⟨vs,hv,rl⟩:=rS _ _ e
     rw[<-rl.length]at ej
     exact yj pins s σ H _ _ _ ov iv u Q I ro ri rv ⟨_,_,_,_,rfl,rfl,hv,ej,k _ _ q (rS.put hv trivial ⟨_,aH,((rl.set r3 _).mono (.mut hv trivial))⟩) (.mut hv trivial)⟩
    ·exact q.elim
   ·exact q.elim
  ·rename_i e
   split at q
   ·rename_i ek
    cases r1
    have e1:=eJ r2 ek
    subst e1
    obtain⟨kv,hv,rk⟩:=rS _ _ e
    exact yN hu pins s σ H _ _ _ ov iv u Q I ro ri rv ⟨_,_,rfl,P0.k hv (by rw[rk.length];exact q.1),k _ _ q.2 (rS.put hv trivial ⟨_,aH,(rk.put r3).mono (.mut hv trivial)⟩) (.mut hv trivial)⟩
   ·exact q.elim
  ·exact q.elim
 ·exact q.elim
def gf(te to ti:bd):bx:=fun D σ S=>te σ S (fun v S1=>to σ S1 (fun o S2=>ti σ S2 (fun i S3=>eM o i v S3 (fun S4=>D.nx σ S4)) D.ex) D.ex) D.ex
def kg(hu:X.A.units+1 < cLine)(he:bB X e te)(ho:bB X o to)(hi:bB X i ti)
  (ha:∀v,assign (.Subscript o i pos') X.env v=(do
   let ov <-holding [v] (eval o X.env)
   let iv <-holding [v,ov] (eval i X.env)
   standAt pos'
   holding [v,ov,iv] (setItem ov iv v)
   release [v,ov,iv] []):=by intro _;rfl)
  (hs:swapsWithSole [.Subscript o i pos'] e pos.line X.env=pure false:=by rfl) (hw:swappedStores [.Subscript o i pos'] e X.env=pure none:=by rfl)
  (h1:(assignEach [.Subscript o i pos'] X.env).map (·.2)=[assign (.Subscript o i pos') X.env]:=by rfl):vz X (.Assign [.Subscript o i pos'] e pos) (gf te to ti):=
 ⟨fy (DQ he.ok (DP ho.ok hi.ok (EE hu) ha) hs hw h1) fun D σ H ⟨σ3,S,D3,rσ,rS,h,xo,n,r,bk,ct⟩=>⟨σ3,S,_,D3.ex,rσ,rS,h,xo,fun v S1 v' H1 h1 rv Kn g1=>
  ⟨σ3,S1,_,D3.ex,rσ.mono g1,Kn,h1,xo.mono g1,fun o S2 o' H2 h2 ro MF g2=>⟨σ3,S2,_,D3.ex,rσ.mono (g1.trans g2),MF,h2,xo.mono (g1.trans g2),fun i S3 i' H3 h3 ri Qt g3=>
   ⟨o,i,v,S3,_,ro.mono g3,ri,rv.mono (g2.trans g3),Qt,h3,fun S4 H4 h4 UQ g4=>n _ S4 _ H4 h4 (rσ.mono (g1.trans (g2.trans (g3.trans g4)))) UQ (g1.trans (g2.trans (g3.trans g4)))⟩⟩⟩⟩⟩
end
end L3
namespace L2
open PySem PySem.Spec PyProof.Rows
section
variable {X:Cx}{tg:Expr}
def IZ(K:Zo)(tl:TE):TI:=fun σ H R=>tl σ H fun x H1=>(∃a,x = .ref a/\(∃xs,SqL K H1 a xs)/\R (HQ K a) H1)\/(∃a,x = .ref a/\(∃xs,SqT K H1 a xs)/\R (Ix K a) H1)\/∃z,x = .str z/\R (IL z) H1
def EF{l:Expr}{tl:TE}(hl:PE X l tl):PI X tg l (IZ X.K tl):=by
 intro pins s σ H R I h
 refine J9 (hl pins s σ H _ I h) fun v s1 ⟨x,H1,I1,r1,q1⟩=>?_
 rcases q1 with⟨a,e,⟨xs,hq⟩,q⟩|⟨a,e,⟨xs,hq⟩,q⟩|⟨z,e,q⟩
 ·subst e
  cases r1
  obtain⟨its,rv,p,hz⟩:=I1.list hq
  refine WN p.isList ?_
  refine⟨s1.heap.objs.size,[s1.heap.objs.size],_,_,H1,rfl,I1.kept (t':=s1.toks) fun b o e=>VJ _ e,wv a _,⟨_,VY _ rfl,rfl,rfl⟩,fun b hb=>?_,q⟩
  have e:b=s1.heap.objs.size:=by simpa using hb
  subst e
  exact I1.M6 (VM _) (I1.hok.fresh (VM _))
 ·subst e
  cases r1
  obtain⟨its,rv,p,hz⟩:=I1.tuple hq
  refine Wz (show s1.heap.IsTuple a its.toArray from p) ?_
  refine⟨s1.heap.objs.size,[s1.heap.objs.size],_,_,H1,rfl,I1.kept (t':=s1.toks) fun b o e=>VJ _ e,ue a _,⟨_,VY _ rfl,rfl,rfl⟩,fun b hb=>?_,q⟩
  have e:b=s1.heap.objs.size:=by simpa using hb
  subst e
  exact I1.M6 (VM _) (I1.hok.fresh (VM _))
 ·subst e
  obtain⟨t,rfl⟩:=r1
  have fin:∀ty,(ty = "str_ascii_iterator" \/ ty = "str_iterator")->Iw X pins σ tg R (.ref s1.heap.objs.size) { s1 with heap:=s1.heap.push { cls:=.type ty,data:=.fields #[.str z t,.int 0 0] } }:=fun ty hty=>by
   refine⟨s1.heap.objs.size,[s1.heap.objs.size],_,_,H1,rfl,I1.kept (t':=s1.toks) fun b o e=>VJ _ e,yv hty _ z t,⟨Ws _,_,VY _ rfl,rfl,rfl⟩,fun b hb=>?_,q⟩
   have e:b=s1.heap.objs.size:=by simpa using hb
   subst e
   exact I1.M6 (VM _) (I1.hok.fresh (VM _))
  cases ha:z.cps.all (· < 128)
  ·exact wpAny_pyIter_wide ha (fin _ (.inr rfl))
  ·exact wpAny_pyIter_ascii ha (fin _ (.inl rfl))
def EG(K:Zo)(ta:TA):TI:=fun σ H R=>ta σ H fun vs H1=>∃a,vs=[.ref a]/\(((∃xs,SqL K H1 a xs)/\R (IQ K a) H1)\/((∃xs,SqT K H1 a xs)/\R (IR K a) H1))
def yV{elts:List Expr}{k0:Nat}{L6:Pos}{a:Expr}{ta:TA}{p pos:Pos}(hg:Gl X "enumerate")(hm:X.mg "enumerate" = none)(hv:bootBuiltins "enumerate" = some (.type "enumerate"))(ha:PA X [a] ta)
  (hs:starEach [a] X.env=[(false,eval a X.env)]:=by rfl):PI X (.Tuple elts k0 L6) (.Call (.Name "enumerate" p) [a] [] pos) (EG X.K ta):=by
 intro pins s σ H R I h
 refine Call_ (fw I hg hm hv (WM (J9 (ha pos pins s σ H _ I h) fun us s1 ⟨vs,H1,I1,r1,q1⟩=>?_) hs rfl))
 obtain⟨a,e,q⟩:=q1
 subst e
 obtain⟨u,rfl,ru⟩:=eI r1
 cases ru
 rcases q with⟨⟨xs,qa⟩,q⟩|⟨⟨xs,qa⟩,q⟩
 ·obtain⟨ia,ra,pa,za⟩:=I1.list qa
  refine call_enumerate_list pa.isList fun g ge g1 gz kk=>?_
  refine Zh (s:={ s1 with heap:=g }) ge ?_
  refine⟨_,[s1.heap.objs.size+1,s1.heap.objs.size],_,_,H1,rfl,I1.kept (t':=s1.toks) kk,wO (Nat.succ_ne_self _),⟨⟨_,ge⟩,g1⟩,fun c hc=>?_,q⟩
  have hle:s1.heap.objs.size<=c:=by
   simp only[VL,V3,WK]at hc
   rcases hc with rfl|rfl
   ·exact WE _ _
   ·exact VM _
  exact I1.M6 hle (I1.hok.fresh hle)
 ·obtain⟨ia,ra,pa,za⟩:=I1.tuple qa
  have la:a < s1.heap.objs.size:=by obtain⟨o,e,_⟩:=pa;exact VR e
  refine Et.ig (show s1.heap.IsTuple a ia.toArray from pa) fun g ge g1 kk=>?_
  refine Zh (s:={ s1 with heap:=g }) ge ?_
  refine⟨_,[s1.heap.objs.size+1,s1.heap.objs.size],_,_,H1,rfl,I1.kept (t':=s1.toks) kk,ux (Nat.succ_ne_self _) (Wa (Nat.lt_succ_of_lt la)) (Wa la),⟨⟨_,ge⟩,g1⟩,fun c hc=>?_,q⟩
  have hle:s1.heap.objs.size<=c:=by
   simp only[VL,V3,WK]at hc
   rcases hc with rfl|rfl
   ·exact WE _ _
   ·exact VM _
  exact I1.M6 hle (I1.hok.fresh hle)
end
end L2
namespace L3
open PySem L2
structure I9 where
 items:List PV
 keep:ax->Prop
def ip(K:Zo)(H0:Hp)(J:It)(src:I9):Prop:=∀(i:Nat)(S:ax)(H:Hp),Grow K H0 H->Kc K H S->src.keep S->
 (∀p,src.items[i]?=some p->J.go i H/\∀x H',J.Sd i H x H'->Rep K H' x p/\Kc K H' S/\Grow K H H')/\(i=src.items.length->J.stop i H)
abbrev vG:=cG->ax->(I9->ax->Prop)->bC->Prop
inductive LI(X:Cx)(t:vG)(σ:L2.St)(H:Hp)(R:It->Hp->Prop):Prop
 |mk (σ3 S R3 E3) (rσ:Kk X.K H σ σ3) (rS:Kc X.K H S) (h:t σ3 S R3 E3) (xo:PP X H E3) (k:∀src S' J H',R3 src S'->ip X.K H' J src->Kc X.K H' S'->Grow X.K H H'->R J H'):LI X t σ H R
structure xT(X:Cx)(tg iter:Expr)(t:vG):Prop where
 ok:PI X tg iter (LI X t)
def jD{X:Cx}{tg iter:Expr}{t t':TI}(h:PI X tg iter t)(k:∀σ H R,t' σ H R->t σ H R):PI X tg iter t':=fun pins s σ H R I q=>h pins s σ H R I (k σ H R q)
section
variable {X:Cx}{e tg:Expr}{es:List Expr}{te:bd}{ts:List bd}{p pos:Pos}
noncomputable def bF(S:ax):PV->Option I9
 | .tup xs=>some ⟨xs,fun _=>True⟩
 | .cl xs=>some ⟨xs,fun _=>True⟩
 | .str z=>some ⟨z.cps.toList.map fun c=>.str (lj c),fun _=>True⟩
 | .ref a=>(match S a with|some (.lst xs)=>some ⟨xs,fun S'=>S' a=some (.lst xs)⟩|_=>none)
 |_=>none
def aJ(te:bd):vG:=fun σ S R E=>te σ S (fun v S1=>match bF S1 v with|some src=>R src S1|none=>False) E
end
section
variable {X:Cx}{e tg a b:Expr}{es:List Expr}{te ta tb:bd}{ts:List bd}{p pos:Pos}
def yW{K:Zo}{H0:Hp}{a:Addr}{xs:List PV}:ip K H0 (HQ K a) ⟨xs,fun S'=>S' a=some (.lst xs)⟩:=by
 intro i S H g rS hk
 obtain⟨vs,hv,rs⟩:=rS a _ hk
 refine⟨fun p hp=>?_,fun hi=>⟨vs,SqL.of hv,by rw[rs.length,hi];exact VM _⟩⟩
 obtain⟨v,hx,rv⟩:=rs.get hp
 refine⟨⟨vs,v,SqL.of hv,hx⟩,fun x H' ⟨e,h⟩=>?_⟩
 subst e
 have:=h vs (SqL.of hv)
 rw[hx]at this
 cases this
 exact⟨rv,rS,.refl⟩
def BL{K:Zo}{H0:Hp}{a:Addr}{vs:List V}{xs:List PV}(h:SqT K H0 a vs)(rs:Reps K H0 vs xs):ip K H0 (Ix K a) ⟨xs,fun _=>True⟩:=by
 intro i S H g rS _
 have hv:=g.t _ _ h
 refine⟨fun p hp=>?_,fun hi=>⟨vs,hv,by rw[rs.length,hi];exact VM _⟩⟩
 obtain⟨v,hx,rv⟩:=rs.get hp
 refine⟨⟨vs,v,hv,hx⟩,fun x H' ⟨e,h⟩=>?_⟩
 subst e
 have:=h vs hv
 rw[hx]at this
 cases this
 exact⟨rv.mono g,rS,.refl⟩
def EH{K:Zo}{H0:Hp}{a:Addr}{vs:List V}{xs:List PV}(h:Rq K H0 a vs)(rs:Reps K H0 vs xs):ip K H0 (HQ K a) ⟨xs,fun _=>True⟩:=by
 intro i S H g rS _
 have hv:=(g.c _ _ h).sq
 refine⟨fun p hp=>?_,fun hi=>⟨vs,hv,by rw[rs.length,hi];exact VM _⟩⟩
 obtain⟨v,hx,rv⟩:=rs.get hp
 refine⟨⟨vs,v,hv,hx⟩,fun x H' ⟨e,h⟩=>?_⟩
 subst e
 have:=h vs hv
 rw[hx]at this
 cases this
 exact⟨rv.mono g,rS,.refl⟩
def BM{K:Zo}{H0:Hp}{z:Str}:ip K H0 (IL z) ⟨z.cps.toList.map fun c=>.str (lj c),fun _=>True⟩:=by
 intro i S H g rS _
 refine⟨fun p hp=>?_,fun hi=>by show z.cps.size<=i;rw[hi,VI,YN];exact VM _⟩
 rw[V2]at hp
 cases hc:z.cps.toList[i]? with
 |none=>rw[hc]at hp;cases hp
 |some c=>
  rw[hc]at hp
  cases hp
  have hc':z.cps[i]?=some c:=by simpa using hc
  refine⟨?_,fun x H' ⟨e,c',h1,h2⟩=>?_⟩
  ·show i < z.cps.size
   by_cases hi:i < z.cps.size
   ·exact hi
   ·rw[Yr (by omega)]at hc';cases hc'
  ·subst e
   rw[hc']at h1
   cases h1
   subst h2
   exact⟨.str _,rS,.refl⟩
def bD(he:bB X e te):xT X tg e (aJ te):=⟨jD (EF he.ok) fun σ H R ⟨σ3,S,R3,E3,rσ,rS,h,xo,k⟩=>⟨σ3,S,_,E3,rσ,rS,h,xo,fun v S1 v' H1 h1 rv Kn g1=>by
 split at h1
 ·rename_i src hs
  unfold bF at hs
  split at hs
  ·cases hs
   cases rv with
   |tup hq rs=>exact .inr (.inl ⟨_,rfl,⟨_,hq⟩,k _ S1 _ H1 h1 (BL hq rs) Kn g1⟩)
  ·cases hs
   cases rv with
   |cl hq rs=>exact .inl ⟨_,rfl,⟨_,hq.sq⟩,k _ S1 _ H1 h1 (EH hq rs) Kn g1⟩
  ·cases hs
   cases rv
   exact .inr (.inr ⟨_,rfl,k _ S1 _ H1 h1 BM Kn g1⟩)
  ·cases rv
   split at hs
   ·rename_i ea
    cases hs
    obtain⟨vs,hv,rs⟩:=Kn _ _ ea
    exact .inl ⟨_,rfl,⟨_,SqL.of hv⟩,k _ S1 _ H1 h1 yW Kn g1⟩
   ·cases hs
  ·cases hs
 ·exact h1.elim⟩⟩
noncomputable def bQ(lo:Int)(n:Nat):List PV:=(List.range n).map fun(i:Nat)=>PV.int (lo+i)
def wU{K:Zo}{H0:Hp}{lo:Int}{n:Nat}:ip K H0 (HR lo n) ⟨bQ lo n,fun _=>True⟩:=by
 intro i S H g rS _
 refine⟨fun p hp=>?_,fun hi=>by show n<=i;rw[hi];simp[bQ]⟩
 unfold bQ at hp
 rw[V2]at hp
 by_cases hi:i < n
 ·rw[ZR hi]at hp
  cases hp
  refine⟨hi,fun x H' ⟨e,h⟩=>?_⟩
  subst e h
  exact⟨.int _,rS,.refl⟩
 ·rw[W6 (by simpa using hi)]at hp
  cases hp
def nC(ta:bd):vG:=fun σ S R E=>ta σ S (fun v S1=>match v with | .int j=>-(2 ^ 62)<=j/\j < 2 ^ 62/\R ⟨bQ 0 j.toNat,fun _=>True⟩ S1|_=>False) E
def iq(hs:starEach [a] X.env=[(false,eval a X.env)])(hg:Gl X "range")(hm:X.mg "range" = none)(ha:mi X [a] [ta]):xT X tg (.Call (.Name "range" p) [a] [] pos) (nC ta):=
 ⟨jD (ww hg hm ha.ok hs) fun σ H R ⟨σ3,S,R3,E3,rσ,rS,h,xo,k⟩=>⟨σ3,S,_,E3,rσ,rS,h,xo,fun v S1 v' H1 h1 rv Kn g1=>by
  split at h1
  ·cases rv
   exact⟨_,rfl,h1.1,h1.2.1,k _ S1 _ H1 h1.2.2 wU Kn g1⟩
  ·exact h1.elim⟩⟩
noncomputable def aV(xs:List PV):List PV:=xs.mapIdx fun i x=>.tup [.int i,x]
def wV{K:Zo}{H0:Hp}{a:Addr}{xs:List PV}:ip K H0 (IQ K a) ⟨aV xs,fun S'=>S' a=some (.lst xs)⟩:=by
 intro i S H g rS hk
 obtain⟨vs,hv,rs⟩:=rS a _ hk
 refine⟨fun p hp=>?_,fun hi=>⟨vs,SqL.of hv,by rw[rs.length,hi];simp[aV]⟩⟩
 unfold aV at hp
 rw[YD]at hp
 cases hx:xs[i]? with
 |none=>rw[hx]at hp;cases hp
 |some y=>
  rw[hx]at hp
  cases hp
  obtain⟨v,hx',rv⟩:=rs.get hx
  refine⟨⟨vs,v,SqL.of hv,hx'⟩,fun x H' ⟨q,x2,e1,hq,e2,h⟩=>?_⟩
  subst e1 e2
  have:=h vs (SqL.of hv)
  rw[hx']at this
  cases this
  exact⟨.tup (SqT.of aH) (.cons (.int _) (.cons (rv.mono (.new hq)) .nil)),rS.other hq,.new hq⟩
def wW{K:Zo}{H0:Hp}{a:Addr}{vs:List V}{xs:List PV}(h0:SqT K H0 a vs)(rs:Reps K H0 vs xs):ip K H0 (IR K a) ⟨aV xs,fun _=>True⟩:=by
 intro i S H g rS _
 have hv:=g.t _ _ h0
 refine⟨fun p hp=>?_,fun hi=>⟨vs,hv,by rw[rs.length,hi];simp[aV]⟩⟩
 unfold aV at hp
 rw[YD]at hp
 cases hx:xs[i]? with
 |none=>rw[hx]at hp;cases hp
 |some y=>
  rw[hx]at hp
  cases hp
  obtain⟨v,hx',rv⟩:=rs.get hx
  refine⟨⟨vs,v,hv,hx'⟩,fun x H' ⟨q,x2,e1,hq,e2,h⟩=>?_⟩
  subst e1 e2
  have:=h vs hv
  rw[hx']at this
  cases this
  exact⟨.tup (SqT.of aH) (.cons (.int _) (.cons ((rv.mono g).mono (.new hq)) .nil)),rS.other hq,.new hq⟩
def dR(ta:bd):vG:=fun σ S R E=>ta σ S (fun v S1=>match v with
 | .tup xs=>R ⟨aV xs,fun _=>True⟩ S1
 | .ref a=>(match S1 a with|some (.lst xs)=>R ⟨aV xs,fun S'=>S' a=some (.lst xs)⟩ S1|_=>False)
 |_=>False) E
def jE{elts:List Expr}{k0:Nat}{L6:Pos}(hs:starEach [a] X.env=[(false,eval a X.env)])(hg:Gl X "enumerate")(hm:X.mg "enumerate" = none)(hv:bootBuiltins "enumerate" = some (.type "enumerate"))(ha:mi X [a] [ta]):xT X (.Tuple elts k0 L6) (.Call (.Name "enumerate" p) [a] [] pos) (dR ta):=
 ⟨jD (yV hg hm hv ha.ok hs) fun σ H R ⟨σ3,S,R3,E3,rσ,rS,h,xo,k⟩=>⟨σ3,S,_,E3,rσ,rS,h,xo,fun v S1 v' H1 h1 rv Kn g1=>by
  split at h1
  ·cases rv with
   |tup hq rs=>exact⟨_,rfl,.inr ⟨⟨_,hq⟩,k _ S1 _ H1 h1 (wW hq rs) Kn g1⟩⟩
  ·cases rv
   split at h1
   ·rename_i ea
    obtain⟨vs,hv,rs⟩:=Kn _ _ ea
    exact⟨_,rfl,.inl ⟨⟨_,SqL.of hv⟩,k _ S1 _ H1 h1 wV Kn g1⟩⟩
   ·exact h1.elim
  ·exact h1.elim⟩⟩
noncomputable def bz(xs ys:List PV):List PV:=(xs.zip ys).map fun z=>.tup [z.1,z.2]
def PD(K:Zo)(H0:Hp)(ka:Bool)(a:Addr)(xs:List PV)(keep:ax->Prop):Prop:=∀S H,Grow K H0 H->Kc K H S->keep S->∃vs,m7 ka K H a vs/\Reps K H vs xs
def PD.tup{K:Zo}{H0:Hp}{a:Addr}{vs:List V}{xs:List PV}{keep:ax->Prop}(h:SqT K H0 a vs)(r:Reps K H0 vs xs):PD K H0 false a xs keep:=fun _ _ g _ _=>⟨vs,g.t _ _ h,r.mono g⟩
theorem PD.lst{K:Zo}{H0:Hp}{a:Addr}{xs:List PV}{keep:ax->Prop}(h:∀S,keep S->S a=some (.lst xs)):PD K H0 true a xs keep:=fun S _ _ rS k=>let ⟨vs,hv,r⟩:=rS _ _ (h S k);⟨vs,SqL.of hv,r⟩
def kh{K:Zo}{H0:Hp}{ka kb:Bool}{a b:Addr}{xs ys:List PV}{keep:ax->Prop}(h1:PD K H0 ka a xs keep)(h2:PD K H0 kb b ys keep):ip K H0 (IN ka kb K a b) ⟨bz xs ys,keep⟩:=by
 intro i S H g rS kp
 obtain⟨vs,hv,r1⟩:=h1 S H g rS kp
 obtain⟨us,hu,r2⟩:=h2 S H g rS kp
 have l1:=r1.length
 have l2:=r2.length
 refine⟨fun p hp=>?_,fun hi=>⟨vs,us,hv,hu,?_⟩⟩
 ·unfold bz at hp
  rw[V2]at hp
  cases hz:(xs.zip ys)[i]? with
  |none=>rw[hz]at hp;cases hp
  |some z=>
   rw[hz]at hp
   cases hp
   obtain⟨e1,e2⟩:=Xr.mp hz
   obtain⟨v,hx',rv⟩:=r1.get e1
   obtain⟨u,hy',ru⟩:=r2.get e2
   refine⟨⟨vs,us,v,u,hv,hu,hx',hy'⟩,fun x H' ⟨q,x2,y2,e3,hq,e4,h⟩=>?_⟩
   subst e3 e4
   obtain⟨k1,k2⟩:=h vs us hv hu
   rw[hx']at k1
   rw[hy']at k2
   cases k1;cases k2
   exact⟨.tup (SqT.of aH) (.cons (rv.mono (.new hq)) (.cons (ru.mono (.new hq)) .nil)),rS.other hq,.new hq⟩
 ·have e:(bz xs ys).length=min xs.length ys.length:=by simp[bz]
  rw[e]at hi
  by_cases hle:xs.length<=ys.length
  ·exact .inl (by omega)
  ·exact .inr (by omega)
def ki(ta tb:bd):vG:=fun σ S R E=>ta σ S (fun v S1=>tb σ S1 (fun w S2=>match v,w with
 | .tup xs,.tup ys=>R ⟨bz xs ys,fun _=>True⟩ S2
 |_,_=>False) E) E
def pW{elts:List Expr}{k0:Nat}{L6:Pos}(hs:starEach [a,b] X.env=[(false,eval a X.env),(false,eval b X.env)])(hs2:starEach [b] X.env=[(false,eval b X.env)])(hg:Gl X "zip")(hm:X.mg "zip" = none)(hv:bootBuiltins "zip" = some (.type "zip"))(ha:mi X [a,b] [ta,tb]) :
  xT X (.Tuple elts k0 L6) (.Call (.Name "zip" p) [a,b] [] pos) (ki ta tb):=
 ⟨jD (yz hg hm hv ha.ok hs hs2) fun σ H R ⟨σ3,S,R3,E3,rσ,rS,h,xo,k⟩=>⟨σ3,S,_,E3,rσ,rS,h,xo,fun v S1 v' H1 h1 rv Kn g1=>⟨σ3,S1,_,E3,rσ.mono g1,Kn,h1,xo.mono g1,fun w S2 w' H2 h2 rw' MF g2=>by
  split at h2
  ·cases rv with
   |tup hq rs=>
    cases rw' with
    |tup hq2 Rb=>exact⟨false,false,_,_,rfl,⟨_,g2.t _ _ hq⟩,⟨_,hq2⟩,k _ S2 _ H2 h2 (kh (.tup (g2.t _ _ hq) (rs.mono g2)) (.tup hq2 Rb)) MF (g1.trans g2)⟩
  ·exact h2.elim⟩⟩⟩
end
section
variable {X:Cx}{iter tg c:Expr}{body:List Stmt}{ti:vG}{g:Tg}{tb:bx}{tc:k8}{pos:Pos}
noncomputable def oX(g:Tg)(tb:bx)(D:ni)(keep:ax->Prop):List PV->cG->ax->Prop
 |[],σ,S=>keep S/\D.nx σ S
 |x::r,σ,S=>keep S/\match g.put x σ with|some σ'=>tb { D with nx:=oX g tb D keep r,ct:=oX g tb D keep r,bk:=D.nx } σ' S|none=>False
def bE(ti:vG)(g:Tg)(tb:bx):bx:=fun D σ S=>ti σ S (fun src S1=>oX g tb D src.keep src.items σ S1) D.ex
def bZ(hp:PassesOwn (model X.prog X.w) X.A X.env X.xe)(hc:X.calm=true)(hi:xT X tg iter ti)(hg:BJ X tg g)(hb:lr X body tb)(hs:∀x,foldedSetIterable iter X.env x=pure x:=by intro _;rfl):vz X (.For tg iter body [] pos) (bE ti g tb):=
 ⟨fy (DU hp hc hi.ok hg.ok hb.ok hs) fun D σ H ⟨σ3,S,D3,rσ,rS,h,xo,n,r,bk,ct⟩=>⟨σ3,S,_,D3.ex,rσ,rS,h,xo,fun src S1 J H1 h1 sim Kn g1=>by
  refine⟨fun i m σ' H'=>i+m=src.items.length/\∃σ4 S',Kk X.K H' σ' σ4/\Kc X.K H' S'/\Grow X.K H1 H'/\oX g tb D3 src.keep (src.items.drop i) σ4 S',⟨src.items.length,WY _,σ3,S1,rσ.mono g1,Kn,.refl,by simpa using h1⟩,?_⟩
  rintro i m σ' H' ⟨hm,σ4,S',Qi,M0,g',hw⟩
  cases hd:src.items.drop i with
  |nil=>
   rw[hd]at hw
   have hi:i=src.items.length:=by
    have:=WW List.length hd
    rw[XO,Wn]at this
    omega
   exact .inl ⟨(sim i S' H' g' M0 hw.1).2 hi,n _ S' _ H' hw.2 Qi M0 (g1.trans g')⟩
  |cons x rest=>
   rw[hd]at hw
   have hx:src.items[i]?=some x:=by
    have:=WW (fun l=>l[0]?) hd
    simpa using this
   have hrest:src.items.drop (i+1)=rest:=by
    have:=WW List.tail hd
    simpa [List.tail_drop]using this
   have hlt:i < src.items.length:=by
    by_cases z:i < src.items.length
    ·exact z
    ·rw[W6 (by omega)]at hx;cases hx
   obtain⟨go,yl⟩:=(sim i S' H' g' M0 hw.1).1 x hx
   refine .inr ⟨go,fun σ5 H5=>∃σ6 S6,Kk X.K H5 σ5 σ6/\Kc X.K H5 S6/\Grow X.K H1 H5/\oX g tb D3 src.keep rest σ6 S6,?_,fun v H5 hv=>?_⟩
   ·rintro σ5 H5 ⟨σ6,S6,q1,q2,q3,q4⟩
    exact⟨m - 1,by omega,by omega,σ6,S6,q1,q2,q3,by rw[hrest];exact q4⟩
   ·obtain⟨rv,Tc,g5⟩:=yl v H5 hv
    obtain⟨_,hw⟩:=hw
    split at hw
    ·rename_i σ6 e6
     refine Tg.Pf (own:=0) g rv (Qi.mono g5) e6 fun σ7 Sj _=>?_
     exact⟨σ6,S',_,Sj,Tc,hw,xo.mono (g1.trans (g'.trans g5)),fun σ8 S8 σ9 H9 q1 q2 q3 q4=>⟨σ8,S8,q2,q3,g'.trans (g5.trans q4),q1⟩,r.mono (g1.trans (g'.trans g5)),n.mono (g1.trans (g'.trans g5)),
      fun σ8 S8 σ9 H9 q1 q2 q3 q4=>⟨σ8,S8,q2,q3,g'.trans (g5.trans q4),q1⟩⟩
    ·exact hw.elim⟩⟩
def ir(tc:k8)(tb:bx):bx:=fun D σ S=>∃W:Nat->cG->ax->Prop,(∃m,W m σ S)/\∀m σ S,W m σ S->
 tc σ S (fun b S1=>if b=true then ∃N:cG->ax->Prop,(∀σ' S',N σ' S'->∃m',m' < m/\W m' σ' S')/\tb { D with nx:=N,ct:=N,bk:=D.nx } σ S1 else D.nx σ S1) D.ex
def i4(hp:PassesOwn (model X.prog X.w) X.A X.env X.xe)(hc:uB X c tc)(hb:lr X body tb):vz X (.While c body [] pos) (ir tc tb):=
 ⟨fy (x9 hp hc.ok hb.ok) fun D σ H ⟨σ3,S,D3,rσ,rS,⟨W,⟨m0,w0⟩,turn⟩,xo,n,r,bk,ct⟩=>by
  refine⟨fun m σ' H'=>∃σ4 S',Kk X.K H' σ' σ4/\Kc X.K H' S'/\Grow X.K H H'/\W m σ4 S',⟨m0,σ3,S,rσ,rS,.refl,w0⟩,?_⟩
  rintro m σ' H' ⟨σ4,S',Qi,M0,g',w'⟩
  refine⟨σ4,S',_,D3.ex,Qi,M0,turn m σ4 S' w',xo.mono g',fun b S1 H1 h1 Kn g1=>?_⟩
  cases b with
  |true=>
   rw[if_pos rfl]at h1 ⊢
   obtain⟨N,hN,h1⟩:=h1
   refine⟨fun σ5 H5=>∃σ6 S6,Kk X.K H5 σ5 σ6/\Kc X.K H5 S6/\Grow X.K H H5/\N σ6 S6,?_,?_⟩
   ·rintro σ5 H5 ⟨σ6,S6,q1,q2,q3,q4⟩
    obtain⟨m',hm,w6⟩:=hN σ6 S6 q4
    exact⟨m',hm,σ6,S6,q1,q2,q3,w6⟩
   ·exact⟨σ4,S1,_,Qi.mono g1,Kn,h1,xo.mono (g'.trans g1),fun σ8 S8 σ9 H9 q1 q2 q3 q4=>⟨σ8,S8,q2,q3,g'.trans (g1.trans q4),q1⟩,r.mono (g'.trans g1),n.mono (g'.trans g1),
     fun σ8 S8 σ9 H9 q1 q2 q3 q4=>⟨σ8,S8,q2,q3,g'.trans (g1.trans q4),q1⟩⟩
  |false=>
   rw[if_neg (by decide)]at h1 ⊢
   exact n _ S1 _ H1 h1 (Qi.mono g1) Kn (g'.trans g1)⟩
end
noncomputable def eE:bC:=fun _ _ _=>False
def PP.no{X:Cx}{H:Hp}:PP X H eE:=fun _ _ _ _ _ _ _ _ _ _ _ _ _ _ h=>h.elim
section
variable {X:Cx}{elt iter tg c:Expr}{ifs:List Expr}{scope:Scope}{pos:Pos}{ti:vG}{g:Tg}{tc:k8}{te:bd}{fs N:Zs}{own:Nat}{fr:List Nat}
noncomputable def cJ(g:Tg)(tc:k8)(te:bd)(σ':cG)(keep:ax->Prop)(fin:List PV->ax->Prop):List PV->List PV->ax->Prop
 |[],ys,S=>keep S/\ys.length<=sizeLine/\fin ys S
 |x::r,ys,S=>keep S/\ys.length<=sizeLine/\match g.put x σ' with
  |some σ2=>tc σ2 S (fun b S3=>if b=true then te σ2 S3 (fun y S4=>cJ g tc te σ' keep fin r (ys++[y]) S4) eE else cJ g tc te σ' keep fin r ys S3) eE
  |none=>False
def bN:k8:=fun _ S Q _=>Q true S
structure FW(X:Cx)(ifs:List Expr)(t:k8):Prop where
 ok:PF X ifs (LT X t)
def uJ{t t':TT}(h:PF X ifs t)(k:∀σ H Q,t' σ H Q->t σ H Q):PF X ifs t':=fun pins s σ H Q I q=>h pins s σ H Q I (k σ H Q q)
def cp:FW X [] bN:=⟨uJ Eo fun σ H Q ⟨σ3,S,Q3,E3,rσ,rS,h,xo,k⟩=>k true S H h rS .refl⟩
def kj(h:uB X c tc):FW X [c] tc:=⟨Ep h.ok⟩
noncomputable def cQ(own:Nat)(fr:List Nat)(σ:cG):cG:=List.replicate own none++fr.map fun j=>lk σ j
def BN{K:Zo}{H:Hp}{σ:L2.St}{σ3:cG}(r:Kk K H σ σ3)(own:Nat)(fr:List Nat):Kk K H (fL own fr σ) (cQ own fr σ3):=by
 refine⟨by unfold fL cQ;simp,fun i p e=>?_⟩
 unfold cQ at e
 unfold fL
 by_cases hi:i < own
 ·rw[Ww (by simpa using hi),Xk,if_pos hi]at e
  cases e
 ·rw[WA (by simpa using hi),WQ,V2]at e ⊢
  cases hj:fr[i - own]? with
  |none=>rw[hj]at e;cases e
  |some j=>
   rw[hj]at e
   simp only[Option.map_some,Z3]at e ⊢
   obtain⟨v,hv,rv⟩:=r.at' j p (yH e)
   exact⟨v,by rw[hv];rfl,rv⟩
def aK(ti:vG)(g:Tg)(tc:k8)(te:bd)(own:Nat)(fr:List Nat):bd:=fun σ S Q E=>ti σ S (fun src S1=>cJ g tc te (cQ own fr σ) src.keep (fun ys S2=>∀p,S2 p=none->Q (.ref p) (JZ S2 p (.lst ys))) src.items [] S1) E
def pX{σ:L2.St}{H:Hp}{Q:VK}(Qu:g.under own=true)(B0:Bk):LE X (aK ti g tc te own fr) σ H Q->yr (LI X ti) (g.g2 X.K) (fun σ H Q=>∃σ3 S Q3,Kk X.K H σ σ3/\Kc X.K H S/\tc σ3 S Q3 eE/\∀b S' H',Q3 b S'->Kc X.K H' S'->Grow X.K H H'->Q b H')
  (fun σ H Q=>∃σ3 S Q3,Kk X.K H σ σ3/\Kc X.K H S/\te σ3 S Q3 eE/\PQ X.K H Q3 Q) own fr σ H Q:=fun⟨σ3,S,Q3,E3,rσ,rS,h,xo,k⟩=>by
 refine⟨σ3,S,_,E3,rσ,rS,h,xo,fun src S1 J H1 h1 sim Kn g1=>?_⟩
 refine⟨fun i m ys H'=>i+m=src.items.length/\∃zs S',Reps X.K H' ys zs/\Kc X.K H' S'/\Grow X.K H1 H'/\cJ g tc te (cQ own fr σ3) src.keep (fun ys S2=>∀p,S2 p=none->Q3 (.ref p) (JZ S2 p (.lst ys))) (src.items.drop i) zs S',⟨src.items.length,WY _,[],S1,.nil,Kn,.refl,by simpa using h1⟩,?_⟩
 rintro i m ys H' ⟨hm,zs,S',rz,M0,g',hw⟩
 cases hd:src.items.drop i with
 |nil=>
  rw[hd]at hw
  have hi:i=src.items.length:=by
   have:=WW List.length hd
   rw[XO,Wn]at this
   omega
  refine .inl ⟨(sim i S' H' g' M0 hw.1).2 hi,by rw[rz.length];exact hw.2.1,fun D hD=>?_⟩
  exact k _ _ _ _ (hw.2.2 D (M0.free hD)) (.ref D) (M0.new hD ⟨_,aH,rz.mono (.new hD)⟩) (g1.trans (g'.trans (.new hD)))
 |cons x rest=>
  rw[hd]at hw
  have hx:src.items[i]?=some x:=by
   have:=WW (fun l=>l[0]?) hd
   simpa using this
  have hrest:src.items.drop (i+1)=rest:=by
   have:=WW List.tail hd
   simpa [List.tail_drop]using this
  have hlt:i < src.items.length:=by
   by_cases z:i < src.items.length
   ·exact z
   ·rw[W6 (by omega)]at hx;cases hx
  obtain⟨go,yl⟩:=(sim i S' H' g' M0 hw.1).1 x hx
  refine .inr ⟨go,by rw[rz.length];exact hw.2.1,fun ys' H5=>∃zs' S6,Reps X.K H5 ys' zs'/\Kc X.K H5 S6/\Grow X.K H1 H5/\cJ g tc te (cQ own fr σ3) src.keep (fun ys S2=>∀p,S2 p=none->Q3 (.ref p) (JZ S2 p (.lst ys))) rest zs' S6,?_,fun v H5 hv=>?_⟩
  ·rintro ys' H5 ⟨zs',S6,q1,q2,q3,q4⟩
   exact⟨m - 1,by omega,by omega,zs',S6,q1,q2,q3,by rw[hrest];exact q4⟩
  ·obtain⟨rv,Tc,g5⟩:=yl v H5 hv
   obtain⟨_,_,hw⟩:=hw
   split at hw
   ·rename_i σ6 e6
    refine Tg.Pf (own:=own) g rv ((BN rσ own fr).mono (g1.trans (g'.trans g5))) e6 fun σ7 Sj d7=>⟨d7 Qu,?_⟩
    refine⟨σ6,S',_,Sj,Tc,hw,fun b S8 H8 h8 T2 g8=>?_⟩
    cases b with
    |true=>
     rw[if_pos rfl]at h8 ⊢
     exact⟨σ6,S8,_,Sj.mono g8,T2,h8,fun y S9 y' H9 h9 ry UR g9=>⟨zs++[y],S9,(rz.mono (g5.trans (g8.trans g9))).append (.cons ry .nil),UR,g'.trans (g5.trans (g8.trans g9)),h9⟩⟩
    |false=>
     rw[if_neg (by decide)]at h8 ⊢
     exact⟨zs,S8,rz.mono (g5.trans g8),T2,g'.trans (g5.trans g8),h8⟩
   ·exact hw.elim
def EI(fs:Zs)(own:Nat)(fr:List Nat)(N:Zs)(Qu:g.under own=true)(hc:X.calm=true)(hclos:closureFor scope X.env=pure (di X.env fs))(hcell:∀y∈scope.names,y.2 ≠ .cell)(hkind:scope.kind = .function)
  (hnames:∀x∈scope.names,x.2 = .local->scope.names.lookup x.1=some .local) (hcl:cM X.env fs) (hhas:qI (relabel scope X.env).names (di X.env fs)=true)
  (hlen:N.length=own+fr.length) (hN:(N.drop own).map some=fr.map fun j=>X.N[j]?) (hF:Lp X.env scope (di X.env fs) (N.drop own))
  (hi:xT X tg iter ti) (hg:∀B,BJ (X.MU N scope fs B) tg g) (hf:∀B,FW (X.MU N scope fs B) ifs tc) (he:∀B,bB (X.MU N scope fs B) elt te)
  (hs:∀x,foldedSetIterable iter X.env x=pure x:=by intro _;rfl):bB X (.ListComp elt [⟨tg,iter,ifs,0⟩] scope pos) (aK ti g tc te own fr):=
 ⟨bb (Bm fs own fr N hc hclos hcell hkind hnames hcl hhas hlen hN hF hi.ok (fun B=>(hg B).ok)
  (fun B=>uJ (hf B).ok fun σ H Q ⟨σ3,S,Q3,rσ,rS,h,k⟩=>⟨σ3,S,Q3,eE,rσ,rS,h,.no,k⟩) (fun B=>bb (he B).ok fun σ H Q ⟨σ3,S,Q3,rσ,rS,h,k⟩=>⟨σ3,S,Q3,eE,rσ,rS,h,.no,k⟩) hs) fun _ _ _=>pX Qu ⟨0,X.s₀,X.H₀,[],[]⟩⟩
def EJ(fs:Zs)(own:Nat)(fr:List Nat)(N:Zs){i:Nat}{y:Str}{py spos:Pos}(hX:X.N.Nodup)(hix:X.N[i]?=some y)(hy:X.env.scope.names.lookup y=some .local)
  (hsw:swapsWith (.ListComp elt [⟨tg,iter,ifs,0⟩] scope pos) (some (.Name y py)) spos.line X.env=pure true)
  (Qu:g.under own=true) (hc:X.calm=true) (hclos:closureFor scope X.env=pure (di X.env fs)) (hcell:∀y∈scope.names,y.2 ≠ .cell) (hkind:scope.kind = .function)
  (hnames:∀x∈scope.names,x.2 = .local->scope.names.lookup x.1=some .local) (hcl:cM X.env fs) (hhas:qI (relabel scope X.env).names (di X.env fs)=true)
  (hlen:N.length=own+fr.length) (hN:(N.drop own).map some=fr.map fun j=>X.N[j]?) (hF:Lp X.env scope (di X.env fs) (N.drop own))
  (hi:xT X tg iter ti) (hg:∀B,BJ (X.MU N scope fs B) tg g) (hf:∀B,FW (X.MU N scope fs B) ifs tc) (he:∀B,bB (X.MU N scope fs B) elt te)
  (hs:∀x,foldedSetIterable iter X.env x=pure x:=by intro _;rfl):vz X (.Assign [.Name y py] (.ListComp elt [⟨tg,iter,ifs,0⟩] scope pos) spos) (aq i (aK ti g tc te own fr)):=
 ⟨fy (Bn fs own fr N hX hix hy hsw hc hclos hcell hkind hnames hcl hhas hlen hN hF hi.ok (fun B=>(hg B).ok)
  (fun B=>uJ (hf B).ok fun σ H Q ⟨σ3,S,Q3,rσ,rS,h,k⟩=>⟨σ3,S,Q3,eE,rσ,rS,h,.no,k⟩) (fun B=>bb (he B).ok fun σ H Q ⟨σ3,S,Q3,rσ,rS,h,k⟩=>⟨σ3,S,Q3,eE,rσ,rS,h,.no,k⟩) hs)
  fun D σ H ⟨σ3,S,D3,rσ,rS,h,xo,n,r,bk,ct⟩=>pX Qu ⟨0,X.s₀,X.H₀,[],[]⟩ ⟨σ3,S,_,D3.ex,rσ,rS,h,xo,fun p S1 v H1 h1 rv Kn g1=>n _ S1 _ H1 h1 ((rσ.mono g1).set rv i) Kn g1⟩⟩
end
abbrev ap:=List PV->ax->bc->bC->Prop
noncomputable def GV(K:Zo)(n:Nat)(sp:ap):Sp:=fun vs H Q _=>vs.length=n/\∃ps S Q3 E3,Reps K H vs ps/\Kc K H S/\sp ps S Q3 E3/\PQ K H Q3 Q
structure Qj(P:Program)(w:World)(K:Zo)(mg:Zr)(base:Heap)(k:Nat)(f:Addr)(fd:FuncData)(ps:Zs)(sp:ap):Prop where
 ok:oP P w K mg base AN k f fd ps (GV K ps.length sp)
section
variable {X:Cx}{e o:Expr}{es:List Expr}{te to:bd}{ts:List bd}{x:Str}{p pos apos cpos:Pos}{k:Nat}{f:Addr}{fd:FuncData}{ps:Zs}{sp:ap}
def ab(sp:ap)(ts:List bd):bd:=fun σ S Q E=>ao ts σ S (fun ps S1=>sp ps S1 Q E) E
def yX(F:Qj X.prog X.w X.K X.mg X.base k f fd ps sp)(hr:Room k X.A)(hg:Gl X x)(hm:X.mg x=some (.ref f))(hk:PySem.W.keepIn X.K (.ref f)=true)(hb:Binds X.K fd ps [])(he:starEach (e::es) X.env=(false,eval e X.env)::starEach es X.env)(ha:mi X (e::es) ts)
  (hl:ts.length=ps.length:=by rfl) (hdb:(x == ("__debug__":Str))=false:=by decide) (hpl:(backTo pos (starEach es X.env)).any (·.1)=false:=by rfl):bB X (.Call (.Name x p) (e::es) [] pos) (ab sp ts):=
 ⟨bb (vo F.ok hr hg hm hk hb .nil C_ ha.ok hdb he hpl) fun σ H Q ⟨σ3,S,Q3,E3,rσ,rS,h,xo,k⟩=>cH rσ rS h xo fun ps' S' vs H' hl' q rv M0 g=>by
  rw[Wh]
  exact⟨by rw[rv.length,hl',hl],ps',S',Q3,E3,rv,M0,q,k.mono g⟩⟩
end
noncomputable def am(n:Nat)(args:List PV):cG:=args.map some++List.replicate (n - args.length) none
def aP(n:Nat)(t:bx):ap:=fun args S Q _=>t { nx:=fun _ S'=>Q .non S',rt:=Q,ex:=eE } (am n args) S
def pY{K:Zo}{H:Hp}{N:Zs}{vs:List V}{ps:List PV}(r:Reps K H vs ps):Kk K H (L2.gV N vs) (am N.length ps):=by
 refine⟨by unfold L2.gV am;simp[r.length],fun i p e=>?_⟩
 unfold am at e
 unfold L2.gV
 by_cases hi:i < ps.length
 ·rw[Ww (by simpa using hi),V2]at e
  cases hp:ps[i]? with
  |none=>rw[hp]at e;cases e
  |some q=>
   rw[hp]at e
   cases e
   obtain⟨v,hv,rv⟩:=r.get hp
   rw[Ww (by rw[VI,r.length];exact hi),V2,hv]
   exact⟨v,rfl,rv⟩
 ·rw[WA (by simpa using hi),Xk]at e
  split at e
  ·cases e
  ·cases e
section
variable {P:Program}{w:World}{K:Zo}{mg:Zr}{base:Heap}
noncomputable abbrev GW(P:Program)(w:World)(K:Zo)(mg:Zr)(base:Heap)(N:Zs)(qual:Str)(st:Stmt)(f:Addr)(cdv:Value)(A:Around)(outer:List Env)(s:Shared)(H:Hp)(E:XK):Cx:=(sy AN P w K mg base N qual (aL st) f cdv A outer s H E).Q0
def Jx{x qual:Str}{st:Stmt}{f:Addr}{fd:FuncData}{N ps:Zs}{k:Nat}{t:bx}(F:QN K x qual st f fd)(S:eu N ps (aL st))
  (hbody:∀(cdv:Value)(A:Around)(outer:List Env)(s:Shared)(H:Hp)(E:XK),Room k (A.deeper (PyProof.Rows.envOfC qual (aL st) s.heap.objs.size f cdv))->lr (GW P w K mg base N qual st f cdv A outer s H E) (bp st) t) :
  Qj P w K mg base (k+1) f fd ps (aP N.length t):=
 ⟨F.ok S (fun vs H Q E h=>h.1) fun cdv A outer s H vs Q E hr ⟨hl,ps',S',Q3,E3,rv,rS,q,kk⟩=>⟨_,(hbody cdv A outer s H E hr).ok,am N.length ps',S',_,pY rv,rS,q,.no,fun σ3 S2 σ2 H2 h2 _ MF g2=>kk _ S2 _ H2 h2 .non MF g2,kk,fun _ _ _ _ h2=>h2.elim,fun _ _ _ _ h2=>h2.elim⟩⟩
end
section
variable {X:Cx}{o e f:Expr}{to te tf:bd}{pos apos cpos:Pos}
noncomputable def lA:List (bd×bd)->cG->ax->(List (PV×PV)->ax->Prop)->bC->Prop
 |[],_,S,Q,_=>Q [] S
 |(tk,tv)::r,σ,S,Q,E=>tk σ S (fun x S1=>tv σ S1 (fun y S2=>lA r σ S2 (fun ps S3=>Q ((x,y)::ps) S3) E) E) E
noncomputable def sL:List (PV×PV)->Option (List (bo×PV))
 |[]=>some []
 |(x,y)::r=>match oW x,sL r with|some k,some l=>some ((k,y)::l)|_,_=>none
noncomputable def iu(kvs more:List (bo×PV)):List (bo×PV):=more.foldl (fun acc kv=>nB acc kv.1 kv.2) kvs
structure H_(X:Cx)(pos:Pos)(keys:List (Option Expr))(values:List Expr)(NS:List (bd×bd)):Prop where
 ok:GC X pos keys values (NS.map fun t=>(LE X t.1,LE X t.2))
def EK:H_ X pos [] [] []:=⟨Bg⟩
def qQ{k v:Expr}{ks:List (Option Expr)}{vs:List Expr}{tk tv:bd}{NS:List (bd×bd)}(hk:bB X k tk)(hv:bB X v tv)(hr:H_ X pos ks vs NS):H_ X pos (some k::ks) (v::vs) ((tk,tv)::NS):=⟨yo hk.ok hv.ok hr.ok⟩
inductive pZ(K:Zo)(H:Hp):List (V×V)->List (PV×PV)->Prop
 |nil:pZ K H [] []
 |cons {a b:V} {p q:PV} {vs:List (V×V)} {ps:List (PV×PV)}:Rep K H a p->Rep K H b q->pZ K H vs ps->pZ K H ((a,b)::vs) ((p,q)::ps)
theorem nE:∀{NS:List (bd×bd)}{σ:L2.St}{H:Hp}{Q:List (V×V)->Hp->Prop}{σ3:cG}{S:ax}{Q3:List (PV×PV)->ax->Prop}{E3:bC},Kk X.K H σ σ3->Kc X.K H S->lA NS σ3 S Q3 E3->PP X H E3->
  (∀ps S' vs H',ps.length=NS.length->Q3 ps S'->pZ X.K H' vs ps->Kc X.K H' S'->Grow X.K H H'->Q vs H')->qF (NS.map fun t=>(LE X t.1,LE X t.2)) σ H Q
 |[],σ,H,Q,σ3,S,Q3,E3,rσ,rS,h,xo,k=>k [] S [] H rfl h .nil rS .refl
 |(tk,tv)::ts,σ,H,Q,σ3,S,Q3,E3,rσ,rS,h,xo,k=>
  ⟨σ3,S,_,E3,rσ,rS,h,xo,fun p S1 v H1 h1 rv Kn g1=>⟨σ3,S1,_,E3,rσ.mono g1,Kn,h1,xo.mono g1,fun p2 S2 v2 H2 h2 US MF g2=>nE (rσ.mono (g1.trans g2)) MF h2 (xo.mono (g1.trans g2)) fun ps S3 vs H3 hl h3 S_ Qt g3=>
   k ((p,p2)::ps) S3 ((v,v2)::vs) H3 (by rw[V1,V1,hl]) h3 (.cons (rv.mono (g2.trans g3)) (US.mono g3) S_) Qt (g1.trans (g2.trans g3))⟩⟩
theorem p7{K:Zo}{H:Hp}:∀{vs:List (V×V)}{ps:List (PV×PV)}{l:List (bo×PV)},pZ K H vs ps->sL ps=some l->∃kvs:List (bo×V),vs=kvs.map (fun kv=>(kV kv.1,kv.2))/\Kz K H kvs l
 |_,_,_,.nil,h=>by cases h;exact⟨[],rfl,.nil⟩
 |_,_,l,.cons a b r,h=>by
  unfold sL at h
  split at h
  ·rename_i k l' ek el
   cases h
   obtain⟨kvs,e,q⟩:=p7 r el
   refine⟨(k,_)::kvs,?_,.cons b q⟩
   rw[VT,<-e,eJ a ek]
  ·cases h
def Kz.merge{K:Zo}{H:Hp}{more:List (bo×V)}{m3:List (bo×PV)}(r:Kz K H more m3):∀{kvs:List (bo×V)}{k3:List (bo×PV)},Kz K H kvs k3->Kz K H (fX kvs more) (iu k3 m3):=by
 induction r with
 |nil=>intro kvs k3 q;exact q
 |cons a r ih=>intro kvs k3 q;exact ih (q.put a)
def sM(NS:List (bd×bd)):bd:=fun σ S Q E=>∀p,S p=none->lA NS σ (JZ S p (.dct [])) (fun ps S2=>S2 p=some (.dct [])/\match sL ps with|some kvs=>Q (.ref p) (JZ S2 p (.dct (iu [] kvs)))|none=>False) E
def EL{keys:List (Option Expr)}{values:List Expr}{NS:List (bd×bd)}(h:H_ X pos keys values NS)(hall:keys.all (·.isSome)=true:=by rfl)(hl:keys.length=values.length:=by rfl)(h0:keys≠[]:=by exact List.cons_ne_nil _ _)(SN:keys.length<=15:=by decide)
  (ht:NS.length<=15:=by exact Zn rfl):bB X (.Dict keys values pos) (sM NS):=
 ⟨bb (Bh h.ok hall hl h0 SN) fun σ H Q ⟨σ3,S,Q3,E3,rσ,rS,hq,xo,k⟩=>fun p hp=>by
  have g0:Grow X.K H (upd H p (.dK [])):=.new hp
  refine nE (rσ.mono g0) (rS.new hp (o:=.dct []) ⟨[],aH,.nil⟩) (hq p (rS.free hp)) (xo.mono g0) fun ps S' vs H' hl' q rv M0 g=>?_
  obtain⟨e,q⟩:=q
  obtain⟨kv,hv,rk⟩:=M0 _ _ e
  cases rk
  refine⟨hv,?_⟩
  split at q
  ·rename_i kvs ek
   obtain⟨l,el,rl⟩:=p7 rv ek
   refine⟨l,el,?_,k _ _ _ _ q (.ref p) (M0.put hv trivial ⟨_,aH,(Kz.merge rl .nil).mono (.mut hv trivial)⟩) (g0.trans (g.trans (.mut hv trivial)))⟩
   have z1:∀{vs:List (V×V)} {ps:List (PV×PV)},pZ X.K H' vs ps->vs.length=ps.length:=by
    intro vs ps r
    induction r with
    |nil=>rfl
    |cons _ _ _ ih=>rw[V1,V1,ih]
   have z2:=WW List.length el
   rw[VI,z1 rv,hl']at z2
   omega
  ·exact q.elim⟩
def vH(kvs:List (bo×Int))(te tf:bd):bd:=fun σ S Q E=>te σ S (fun y S2=>tf σ S2 (fun z S3=>match oW y with|some k=>Q (((kvs.find? fun kv=>decide (kv.1=k)).map fun kv=>PV.int kv.2).getD z) S3|none=>False) E) E
def EM{x:Str}{px:Pos}{a:Addr}{kvs:List (bo×Int)}(hu:X.A.units+1 < cLine)(hg:Gl X x)(hm:X.mg x=some (.ref a))(hD:KD X.prog X.w X.K a (kvs.map fun kv=>(kv.1,V.int kv.2)))(he:bB X e te)(hf:bB X f tf)(m:M2 X (.Name x px) "get" apos e f cpos)
  (hd:(x == ("__debug__":Str))=false:=by decide):bB X (.Call (.Attribute (.Name x px) "get" apos) [e,f] [] cpos) (vH kvs te tf):=
 ⟨bb (Bq hu hg hm hD he.ok hf.ok m hd) fun σ H Q ⟨σ3,S,Q3,E3,rσ,rS,h,xo,k⟩=>⟨σ3,S,_,E3,rσ,rS,h,xo,fun y S2 y' H2 h2 ry MF g2=>⟨σ3,S2,_,E3,rσ.mono g2,MF,h2,xo.mono g2,fun z S3 z' H3 h3 rz Qt g3=>by
  split at h3
  ·rename_i k' ek
   have e1:=eJ (ry.mono g3) ek
   subst e1
   refine⟨_,rfl,k _ S3 _ H3 h3 ?_ Qt (g2.trans g3)⟩
   have:∀l:List (bo×Int),Rep X.K H3 ((jB (l.map fun kv=>(kv.1,V.int kv.2)) k').getD z') (((l.find? fun kv=>decide (kv.1=k')).map fun kv=>PV.int kv.2).getD z):=by
    intro l
    induction l with
    |nil=>exact rz
    |cons q r ih=>
     rw[VT,List.find?_cons]
     by_cases e:q.1=k'
     ·rw[Mk e,Wu e];exact .int _
     ·rw[Ml e,Wc e];exact ih
   exact this kvs
  ·exact h3.elim⟩⟩⟩
def sN(te:bd):bd:=fun σ S Q E=>te σ S (fun x S1=>match x with
 | .ref a=>(match S1 a with|some (.lst xs)=>∀p,S1 p=none->Q (.ref p) (JZ S1 p (.lst xs.reverse))|_=>False)
 |_=>False) E
def EN{p1 p2 q1 q2:Pos}(hs:starEach [e] X.env=[(false,eval e X.env)])(hc:X.calm=true)(he:bB X e te)(SY:Gl X "list")(hm1:X.mg "list" = none)(RE:Gl X "reversed")(hm2:X.mg "reversed" = none):bB X (.Call (.Name "list" p1) [.Call (.Name "reversed" p2) [e] [] q2] [] q1) (sN te):=
 ⟨bb (ut hc he.ok SY hm1 RE hm2 hs rfl) fun σ H Q ⟨σ3,S,Q3,E3,rσ,rS,h,xo,k⟩=>⟨σ3,S,_,E3,rσ,rS,h,xo,fun x S1 v H1 h1 rx Kn g1=>by
  split at h1
  ·cases rx
   split at h1
   ·rename_i ea
    obtain⟨vs,hv,rs⟩:=Kn _ _ ea
    exact⟨_,_,rfl,SqL.of hv,fun q hq=>k _ _ _ _ (h1 q (Kn.free hq)) (.ref q) (Kn.new hq ⟨_,aH,rs.reverse.mono (.new hq)⟩) (g1.trans (.new hq))⟩
   ·exact h1.elim
  ·exact h1.elim⟩⟩
end
def b3:R3:=f_ fun i j=>.int (i - j)
def iw:R3:=gW (fun _ j=>j≠0) fun i j=>.int (i.fmod j)
def gX:R3:=gW mj fun i j=>.int (i.fdiv j)
def sO:R3:=gW DX fun i j=>.int (i ^ j.toNat)
def uK:R3:=f_ fun i j=>.bl (decide (i < j))
def yY:R3:=f_ fun i j=>.bl (decide (j < i))
def GX:R3:=f_ fun i j=>.bl (decide (j<=i))
section
variable {X:Cx}
def dS:k9 X (binaryOp .Sub) b3:=EA
def gY:k9 X (binaryOp .Mod) iw:=EB
def jF:k9 X (binaryOp .FloorDiv) gX:=Bx
def Dg:k9 X (binaryOp .Pow) sO:=EC
def qR:k9 X (compareOp .Lt) uK:=GI
def yZ:k9 X (compareOp .Gt) yY:=GJ
def I_:k9 X (compareOp .GtE) GX:=GK
end
def xU{A:Around}{k:Nat}(hr:Room k A):A.units+1 < cLine:=by have:=hr.un;omega
def kl{A:Around}{k:Nat}(hr:Room k A):A.units+150 < cLine:=by have:=hr.un;omega
def dU{A:Around}{k:Nat}(hr:Room k A):A.units+160 < cLine:=by have:=hr.un;omega
structure Ia(K:Zo)(mg:Zr)(x:Str)(st:Stmt)(ps:Zs)(f:Addr)(fd:FuncData):Prop where
 F:QN K x x st f fd
 b:Binds K fd ps []
 k:PySem.W.keepIn K (.ref f)=true
 m:mg x=some (.ref f)
def Qj.zero{P:Program}{w:World}{K:Zo}{mg:Zr}{base:Heap}{k:Nat}{f:Addr}{fd:FuncData}{ps:Zs}{sp:ap}(h:sp=fun _ _ _ _=>False):Qj P w K mg base k f fd ps sp:=by
 subst h
 exact⟨⟨fun vs H Q E q=>q.1,fun A outer s H args us vs Q E _ _ _ _ ⟨_,_,_,_,_,_,_,q,_⟩=>q.elim⟩⟩
def Ja{K:Zo}{H:Hp}{a:Addr}{ns:Zw}{sp:ap}(hO:Bi H)(hS:SqL K H a (ns.map V.int))(h:sp [.cl (ns.map PV.int)] (fun _=>none) (fun v _=>v = .bl true) eE):GV K 1 sp [.ref a] H (fun v _=>v = .bl true) fun _ _ _=>False:=by
 have hr:∀l:List Int,Reps K H (l.map V.int) (l.map PV.int):=by
  intro l
  induction l with
  |nil=>exact .nil
  |cons x r ih=>exact .cons (.int x) ih
 refine⟨rfl,[.cl (ns.map PV.int)],fun _=>none,_,eE,.cons (.cl (vs:=ns.map V.int) ?_ (hr ns)) .nil,(fun b o e=>by simp at e),h,fun p S' v H' q rv rS g=>?_⟩
 ·rcases hS with(q|q)|q
  ·rcases hO a with z|⟨o,xs,z⟩
   ·rw[z]at q;cases q
   ·rw[z]at q;cases q
  ·exact .inl q
  ·exact .inr q
 ·subst q
  cases rv
  rfl
end L3
namespace L2
open PySem PySem.Spec PyProof.Rows
end L2
namespace HT
open PySem PySem.Spec PyProof.Rows
end HT
namespace L2
open PySem PySem.Spec PyProof.Rows
end L2
namespace L3
open PySem L2
end L3
namespace L2
open PySem PySem.Spec PyProof.Rows
end L2
namespace L3
open PySem L2
end L3
namespace L2
open PySem PySem.Spec PyProof.Rows PySem.AutoSeq1
end L2
namespace L3
open PySem L2
end L3
namespace C
open PySem L2 L3
noncomputable def k_SIDES_FROM:List (bo×Int):=[(Sum.inr "then",1),(Sum.inr "either",1),(Sum.inr "take",3),(Sum.inr "often",1)]
def ix:bx:=(ah (aq 3 (aK (aJ (cP (v3 0) (t_ (v3 1)) (t_ (c3 (.int 63))))) (.n 0) bN (au kf [(v3 0),(af b3 (c3 (.int 0)) (v3 0))]) 1 []))
  (ah (aq 4 (af aN (c3 (.int 7919)) (v3 1)))
  (ah (bE (aJ (v3 3)) (.n 2) (aq 4 (af iw (af aN (af bM (v3 4) (c3 (.int 48271))) (af iw (v3 2) (c3 (.int 2147483629)))) (c3 (.int 2147483647)))))
  (ar (sM [((c3 (.str "seed")),(v3 4)),((c3 (.str "number")),(c3 (.int 0))),((c3 (.str "left")),(sN (aK (aJ (v3 3)) (.n 0) (aR (af GX (v3 0) (af sO (c3 (.int 10)) (c3 (.int 18))))) (v3 0) 1 [])))])))))
def iy:bx:=(ah (ir (fZ (aR (af (bn false) (af ae (v3 0) (c3 (.str "number"))) (c3 (.int 0)))) (aR (af yY (au dg [(af ae (v3 0) (c3 (.str "left")))]) (c3 (.int 0))))) (gf (hZ "list" wS (af ae (v3 0) (c3 (.str "left"))) []) (v3 0) (c3 (.str "number"))))
  (ah (aq 2 (af ae (v3 0) (c3 (.str "number"))))
  (ah (br (aR (af yY (v3 2) (c3 (.int 0)))) (ah (gf (af gX (v3 2) (v3 1)) (v3 0) (c3 (.str "number")))
  (ar (af iw (v3 2) (v3 1)))) aQ)
  (ah (aq 3 (af iw (af aN (af bM (af ae (v3 0) (c3 (.str "seed"))) (c3 (.int 48271))) (c3 (.int 7919))) (c3 (.int 2147483647))))
  (ah (gf (af iw (af aN (af bM (v3 3) (c3 (.int 40692))) (c3 (.int 104729))) (c3 (.int 2147483399))) (v3 0) (c3 (.str "seed")))
  (ah (aq 4 (af iw (af bM (af ae (v3 0) (c3 (.str "seed"))) (af ae (v3 0) (c3 (.str "seed")))) (c3 (.int 2147483563))))
  (ar (af iw (af aN (af bM (af iw (af bM (v3 3) (v3 3)) (c3 (.int 2147483629))) (c3 (.int 2147483563))) (v3 4)) (v3 1)))))))))
def jG:bx:=(ah (wT 2 3 (au kf [(v3 0),(af b3 (c3 (.int 0)) (v3 0))]) (v3 1))
  (ah (ir (aR (af yY (v3 3) (c3 (.int 0)))) (wT 2 3 (v3 3) (af iw (v3 2) (v3 3))))
  (ar (aC [(af gX (v3 0) (v3 2)),(af gX (v3 1) (v3 2))]))))
def gg(J4:ap):bx:=(ah (aq 2 (c3 (.str "abcdefghijklmnopqrstuvwxyz")))
  (ah (aq 3 (aY [(c3 (.str "jars")),(c3 (.str "deed")),(c3 (.str "rest")),(c3 (.str "pay")),(c3 (.str "put")),(c3 (.str "then")),(c3 (.str "either")),(c3 (.str "take")),(c3 (.str "often")),(c3 (.str "use"))]))
  (ah (aq 5 (hZ "str" pU (c3 (.str "")) [(aK (nC (ab J4 [(v3 0),(c3 (.int 6))])) (.n 0) bN (af ae (v3 2) (ab J4 [(v3 1),(c3 (.int 26))])) 1 [0,2])]))
  (ah (nA 6 7 8 (aC [(ab J4 [(v3 0),(af aN (au dg [(v3 5)]) (c3 (.int 1)))]),(ab J4 [(v3 0),(c3 (.int 26))]),(af (bn false) (ab J4 [(v3 0),(c3 (.int 2))]) (c3 (.int 0)))]))
  (ah (aq 9 (aY []))
  (ah (bE (nC (v3 1)) (.n 4) (ah (aq 10 (af aN (af aN (cP (v3 5) xS (t_ (v3 6))) (af ae (v3 2) (af iw (af aN (v3 7) (v3 4)) (c3 (.int 26))))) (cP (v3 5) (t_ (v3 6)) xS)))
  (ah (br (oU (aR (v3 8))) (aq 10 (hZ "str" pU (c3 (.str "")) [(aK (nC (af aN (c3 (.int 1)) (ab J4 [(v3 0),(c3 (.int 6))]))) (.n 0) bN (af ae (v3 2) (ab J4 [(v3 1),(c3 (.int 26))])) 1 [0,2])])) aQ)
  (ah (ir (oM (aR (af (jC false) (v3 10) (v3 3))) (aR (af (jC false) (v3 10) (v3 9)))) (aq 10 (af aN (af ae (v3 2) (af iw (af aN (hZ "str" lz (v3 2) [(af ae (v3 10) (c3 (.int 0)))]) (c3 (.int 1))) (c3 (.int 26)))) (cP (v3 10) (t_ (c3 (.int 1))) xS))))
  (bm (hZ "list" bA (v3 9) [(v3 10)]))))))
  (ar (v3 9))))))))
def iz(J4 Ku:ap):bx:=(ah (aq 1 (ab J4 [(v3 0),(c3 (.int 4))]))
  (ah (br (aR (af (bn false) (v3 1) (c3 (.int 0)))) (ar (aC [(c3 (.int 0)),(c3 (.int 1))])) aQ)
  (ah (br (aR (af uK (v3 1) (c3 (.int 3)))) (ar (aC [(af aN (c3 (.int 1)) (ab J4 [(v3 0),(c3 (.int 5))])),(c3 (.int 1))])) aQ)
  (ar (ab Ku [(ab J4 [(v3 0),(c3 (.int 1000))]),(af aN (c3 (.int 1)) (ab J4 [(v3 0),(c3 (.int 9))]))])))))
def iA(J4 OS:ap):bx:=(ah (aq 2 (ab J4 [(v3 0),(c3 (.int 7))]))
  (ah (br (aR (af (bn false) (v3 2) (c3 (.int 0)))) (ar (aC [(c3 (.str "rest"))])) aQ)
  (ah (br (oM (aR (af uK (v3 2) (c3 (.int 4)))) (aR (af (bn false) (au dg [(v3 1)]) (c3 (.int 0))))) (ar (aC [(c3 (.str "pay")),(ab OS [(v3 0)])])) aQ)
  (ah (aq 3 (af ae (aY [(c3 (.int 1)),(c3 (.int 2)),(af aN (c3 (.int 1)) (ab J4 [(v3 0),(c3 (.int 9))]))]) (ab J4 [(v3 0),(c3 (.int 3))])))
  (ar (aC [(c3 (.str "put")),(af ae (v3 1) (ab J4 [(v3 0),(au dg [(v3 1)])])),(v3 3)]))))))
def iB(J4 LW s0:ap):bx:=(ah (aq 4 (ab J4 [(v3 0),(c3 (.int 12))]))
  (ah (br (oM (aR (af (bn false) (v3 3) (c3 (.int 0)))) (oM (aR (af uK (af ae (v3 2) (c3 (.int 0))) (c3 (.int 2)))) (aR (af uK (v3 4) (c3 (.int 3)))))) (ar (ab LW [(v3 0),(v3 1)])) aQ)
  (ah (br (aR (af uK (v3 4) (c3 (.int 5)))) (ah (gf (af b3 (af ae (v3 2) (c3 (.int 0))) (c3 (.int 1))) (v3 2) (c3 (.int 0)))
  (ar (aC [(c3 (.str "often")),(ab s0 [(v3 0),(v3 1),(v3 2),(af b3 (v3 3) (c3 (.int 1)))])]))) aQ)
  (ah (gf (af b3 (af ae (v3 2) (c3 (.int 0))) (c3 (.int 2))) (v3 2) (c3 (.int 0)))
  (ah (aq 5 (ab s0 [(v3 0),(v3 1),(v3 2),(af b3 (v3 3) (c3 (.int 1)))]))
  (ah (aq 6 (ab s0 [(v3 0),(v3 1),(v3 2),(af b3 (v3 3) (c3 (.int 1)))]))
  (ah (br (aR (af uK (v3 4) (c3 (.int 8)))) (ar (aC [(c3 (.str "then")),(v3 5),(v3 6)])) aQ)
  (ah (br (oM (aR (af (bn false) (v3 4) (c3 (.int 8)))) (aR (af (bn false) (au dg [(v3 1)]) (c3 (.int 0))))) (ar (aC [(c3 (.str "either")),(v3 5),(v3 6)])) aQ)
  (ah (aq 7 (af ae (aY [(c3 (.int 1)),(c3 (.int 1)),(c3 (.int 2)),(af aN (c3 (.int 1)) (ab J4 [(v3 0),(c3 (.int 9))]))]) (ab J4 [(v3 0),(c3 (.int 4))])))
  (ar (aC [(c3 (.str "take")),(af ae (v3 1) (ab J4 [(v3 0),(au dg [(v3 1)])])),(v3 7),(v3 5),(v3 6)])))))))))))
def cR(s0:ap):bx:=(ah (br (aR (af (bn false) (af ae (v3 0) (c3 (.int 0))) (c3 (.str "then")))) (ar (af bM (ab s0 [(af ae (v3 0) (c3 (.int 1)))]) (ab s0 [(af ae (v3 0) (c3 (.int 2)))]))) aQ)
  (ah (br (oM (aR (af (bn false) (af ae (v3 0) (c3 (.int 0))) (c3 (.str "either")))) (aR (af (bn false) (af ae (v3 0) (c3 (.int 0))) (c3 (.str "take"))))) (ar (af aN (ab s0 [(af ae (v3 0) (hW bX (c3 (.int 2))))]) (ab s0 [(af ae (v3 0) (hW bX (c3 (.int 1))))]))) aQ)
  (ar (c3 (.int 1)))))
def cC(K0 s0:ap):bx:=(ah (br (aR (af (bn false) (af ae (v3 0) (c3 (.int 0))) (c3 (.str "often")))) (ar (af aN (ab K0 [(af ae (v3 0) (c3 (.int 1)))]) (ab s0 [(af ae (v3 0) (c3 (.int 1)))]))) aQ)
  (ah (br (aR (af (jC false) (af ae (v3 0) (c3 (.int 0))) (aC [(c3 (.str "then")),(c3 (.str "either")),(c3 (.str "take"))]))) (ar (af aN (ab s0 [(af ae (v3 0) (hW bX (c3 (.int 2))))]) (ab s0 [(af ae (v3 0) (hW bX (c3 (.int 1))))]))) aQ)
  (ar (c3 (.int 0)))))
def dr(OT K0 M7 LW:ap):bx:=(ah (aq 4 (ab OT [(v3 0),(v3 1),(aY [(af b3 (v3 2) (c3 (.int 1)))]),(c3 (.int 5))]))
  (ah (br (aR (af yY (af aN (ab K0 [(v3 4)]) (ab M7 [(v3 4)])) (v3 3))) (aq 4 (aC [(c3 (.str "then")),(aC [(c3 (.str "often")),(ab LW [(v3 0),(v3 1)])]),(ab LW [(v3 0),(v3 1)])])) aQ)
  (ar (v3 4))))
def gh(Oo J4 Nt:ap):bx:=(ah (aq 4 (ab Oo [(v3 0),(c3 (.int 8))]))
  (ah (aq 5 (au aS [(cP (v3 4) xS (t_ (ab J4 [(v3 0),(af aN (v3 1) (c3 (.int 1)))])))]))
  (ah (aq 6 (af ae (aY [(c3 (.int 0)),(c3 (.int 4))]) (ab J4 [(v3 0),(c3 (.int 2))])))
  (ah (aq 7 (af aN (c3 (.int 1)) (ab J4 [(v3 0),(v3 2)])))
  (ah (aq 8 (aK (nC (v3 7)) (.n 0) bN (aC [(af ae (v3 6) (af aN (v3 2) (v3 0))),(ab Nt [(v3 1),(v3 3),(v3 5),(af gX (c3 (.int 24)) (v3 4))])]) 1 [0,6,5,7,3,4]))
  (ar (aC [(v3 5),(au aS [(v3 8)])])))))))
def jH:bx:=(ar (cP (v3 0) (t_ (vH C.k_SIDES_FROM (af ae (v3 0) (c3 (.int 0))) (au dg [(v3 0)]))) xS))
def jI(M8 s0:ap):bx:=(ah (aq 1 (aY [(v3 0)]))
  (ah (bE (aJ (ab M8 [(v3 0)])) (.n 2) (bm (hZ "list" bI (v3 1) [(ab s0 [(v3 2)])])))
  (ar (v3 1))))
def iC:bx:=(ah (ir (aR (af (bn true) (v3 1) (c3 (.int 0)))) (ah (aq 2 (af iw (v3 0) (v3 1)))
  (ah (aq 0 (v3 1))
  (aq 1 (v3 2)))))
  (ar (au wR [(v3 0)])))
def eN(P1:ap):bx:=(ah (aq 2 (ab P1 [(v3 0),(v3 1)]))
  (ah (br (aR (af uK (v3 1) (c3 (.int 0)))) (aq 2 (hW bX (v3 2))) aQ)
  (ar (aC [(af gX (v3 0) (v3 2)),(af gX (v3 1) (v3 2))]))))
def iD(LD:ap):bx:=(ar (ab LD [(af aN (af bM (af ae (v3 0) (c3 (.int 0))) (af ae (v3 1) (c3 (.int 1)))) (af bM (af ae (v3 1) (c3 (.int 0))) (af ae (v3 0) (c3 (.int 1))))),(af bM (af ae (v3 0) (c3 (.int 1))) (af ae (v3 1) (c3 (.int 1))))]))
def gi(LD:ap):bx:=(ar (ab LD [(af bM (af ae (v3 0) (c3 (.int 0))) (af ae (v3 1) (c3 (.int 0)))),(af bM (af ae (v3 0) (c3 (.int 1))) (af ae (v3 1) (c3 (.int 1))))]))
def nF:bx:=(ar (af ae (v3 0) (af aN (hW bX (c3 (.int 2))) (af ae (v3 1) (c3 (.int 0))))))
def iE:bx:=(ar (au aS [(aK (aJ (v3 0)) (.n 0) bN (uD (aR (af (bn false) (v3 0) (v3 1))) (v3 2) (c3 (.int 0))) 1 [1,2])]))
def qS:bx:=(ar (au aS [(aK (ki (v3 0) (v3 1)) (.tp (.cons (.n 0) (.cons (.n 1) .nil))) bN (af aN (v3 0) (v3 1)) 2 [])]))
def gj:bx:=(ar (au aS [(aK (aJ (v3 0)) (.n 0) bN (af bM (v3 0) (v3 1)) 1 [1])]))
def qT(Op MV:ap):bx:=(ah (aq 2 (aK (ki (af ae (v3 0) (c3 (.int 1))) (af ae (v3 0) (c3 (.int 2)))) (.tp (.cons (.n 0) (.cons (.n 1) .nil))) bN (af aN (v3 1) (au kf [(c3 (.int 0)),(af bM (hW bX (v3 0)) (af b3 (v3 2) (c3 (.int 1))))])) 2 [1]))
  (ar (aC [(ab MV [(af ae (v3 0) (c3 (.int 0))),(aC [(v3 1),(c3 (.int 1))])]),(ab Op [(af ae (v3 0) (c3 (.int 1))),(v3 1)]),(au aS [(v3 2)])])))
def d0(LX:ap):bx:=(ar (aC [(aC [(c3 (.int 0)),(c3 (.int 1))]),(ab LX [(v3 0),(af ae (v3 1) (c3 (.int 1))),(hW bX (af ae (v3 1) (c3 (.int 2))))]),(ab LX [(v3 0),(af ae (v3 1) (c3 (.int 1))),(af ae (v3 1) (c3 (.int 2)))])]))
def fh(Ku:ap):bx:=(ar (ab Ku [(af aN (af bM (af ae (v3 0) (c3 (.int 0))) (af ae (v3 1) (c3 (.int 1)))) (af bM (af ae (v3 1) (c3 (.int 0))) (af ae (v3 0) (c3 (.int 1))))),(af bM (af ae (v3 0) (c3 (.int 1))) (af ae (v3 1) (c3 (.int 1))))]))
def qU(M9:ap):bx:=(ar (au dg [(ab M9 [(v3 0)])]))
def lB:bx:=(ar (af (jC true) (af ae (v3 0) (c3 (.int 0))) (aC [(c3 (.str "rest")),(c3 (.str "then"))])))
def lC(M9 Nu:ap):bx:=(ar (au dg [(aK (aJ (ab M9 [(v3 0)])) (.n 0) (aR (ab Nu [(v3 0)])) (v3 0) 1 [])]))
def qV(Lc:ap):bx:=(ah (br (aR (af (bn false) (ab Lc [(v3 0)]) (c3 (.int 0)))) (ar (v3 2)) aQ)
  (ar (v3 1)))
def cS(Lc MW s0 s1 s2 s3:ap):bx:=(ah (aq 3 (af aN (v3 1) (ab Lc [(af ae (v3 0) (c3 (.int 1)))])))
  (ah (aq 4 (ab MW [(af ae (v3 0) (c3 (.int 2))),(v3 3),(v3 2)]))
  (ar (af aN (ab s3 [(af ae (v3 0) (c3 (.int 1))),(v3 1),(v3 4)]) (ab s3 [(af ae (v3 0) (c3 (.int 2))),(v3 3),(v3 2)])))))
def ci(Lc MW s0 s1 s2 s3:ap):bx:=(ah (aq 3 (af ae (v3 0) (hW bX (c3 (.int 2)))))
  (ah (aq 4 (af ae (v3 0) (hW bX (c3 (.int 1)))))
  (ah (aq 5 (af aN (af aN (v3 1) (c3 (.int 1))) (ab Lc [(v3 3)])))
  (ah (aq 6 (af aN (cP (v3 0) xS (t_ (hW bX (c3 (.int 2))))) (aC [(ab MW [(v3 3),(af aN (v3 1) (c3 (.int 1))),(v3 2)]),(ab MW [(v3 4),(v3 5),(v3 2)])])))
  (ar (af aN (af aN (aC [(v3 6)]) (ab s3 [(v3 3),(af aN (v3 1) (c3 (.int 1))),(v3 2)])) (ab s3 [(v3 4),(v3 5),(v3 2)])))))))
def cw(MW s0 s1 s2 s3:ap):bx:=(ah (aq 3 (aC [(c3 (.str "often")),(ab MW [(af ae (v3 0) (c3 (.int 1))),(af aN (v3 1) (c3 (.int 1))),(v3 1)]),(v3 2)]))
  (ar (af aN (aC [(v3 3)]) (ab s3 [(af ae (v3 0) (c3 (.int 1))),(af aN (v3 1) (c3 (.int 1))),(v3 1)]))))
def i5(s0 s1 s2 s3:ap):bx:=(ah (aq 3 (af ae (v3 0) (c3 (.int 0))))
  (ah (br (aR (af (bn false) (v3 3) (c3 (.str "rest")))) (ar (aC [])) aQ)
  (ah (br (aR (af (bn false) (v3 3) (c3 (.str "then")))) (ar (ab s0 [(v3 0),(v3 1),(v3 2)])) aQ)
  (ah (br (aR (af (bn false) (v3 3) (c3 (.str "often")))) (ar (ab s2 [(v3 0),(v3 1),(v3 2)])) aQ)
  (ah (br (aR (af (jC false) (v3 3) (aC [(c3 (.str "either")),(c3 (.str "take"))]))) (ar (ab s1 [(v3 0),(v3 1),(v3 2)])) aQ)
  (ar (aC [(af aN (v3 0) (aC [(v3 2)]))])))))))
def qW(PH Lc:ap):bx:=(ar (af aN (ab PH [(v3 0),(c3 (.int 0)),(ab Lc [(v3 0)])]) (aC [(aC [(c3 (.str "end"))])])))
def fA(s0:ap):bx:=(ah (br (aR (af (bn false) (af ae (v3 0) (c3 (.int 0))) (c3 (.str "then")))) (ar (aC [(ab s0 [(af ae (v3 0) (c3 (.int 1)))]),(ab s0 [(af ae (v3 0) (c3 (.int 2)))])])) aQ)
  (ah (br (aR (af (bn false) (af ae (v3 0) (c3 (.int 0))) (c3 (.str "either")))) (ar (aC [(c3 (.int 0)),(ab s0 [(af ae (v3 0) (c3 (.int 1)))])])) aQ)
  (ah (br (aR (af (bn false) (af ae (v3 0) (c3 (.int 0))) (c3 (.str "take")))) (ar (aC [(c3 (.int 1)),(ab s0 [(af ae (v3 0) (c3 (.int 4)))])])) aQ)
  (ar (aC [])))))
def fB(Qv M1 s0:ap):bx:=(ah (br (aR (af (bn false) (v3 1) (c3 (.int 0)))) (ar (v3 2)) aQ)
  (ah (br (aR (af (bn false) (af ae (v3 0) (c3 (.int 0))) (c3 (.str "often")))) (ar (aC [(aC [(c3 (.int 1)),(ab s0 [(af ae (v3 0) (c3 (.int 1))),(af b3 (v3 1) (c3 (.int 1))),(v3 2)])])])) aQ)
  (ah (aq 3 (af ae (v3 0) (hW bX (c3 (.int 2)))))
  (ah (aq 4 (af ae (v3 0) (hW bX (c3 (.int 1)))))
  (ah (aq 5 (af aN (c3 (.int 1)) (ab Qv [(v3 3)])))
  (ah (aq 6 (uD (aR (af uK (v3 1) (v3 5))) (c3 (.int 0)) (c3 (.int 1))))
  (ah (aq 7 (uD (aR (af (bn false) (v3 6) (c3 (.int 0)))) (ab s0 [(v3 3),(af b3 (v3 1) (c3 (.int 1))),(v3 2)]) (ab s0 [(v3 4),(af b3 (v3 1) (v3 5)),(v3 2)])))
  (ah (br (aR (af (bn true) (af ae (v3 0) (c3 (.int 0))) (c3 (.str "then")))) (ar (aC [(v3 6),(v3 7)])) aQ)
  (ah (br (aR (af (bn false) (v3 6) (c3 (.int 0)))) (ar (aC [(v3 7),(ab M1 [(v3 4)])])) aQ)
  (ar (aC [(ab M1 [(v3 3)]),(v3 7)])))))))))))
def iF(s0:ap):bx:=(ah (br (aR (af (bn false) (af ae (v3 0) (c3 (.int 0))) (c3 (.str "put")))) (bm (hZ "list" bA (v3 2) [(af ae (v3 0) (c3 (.int 1)))])) aQ)
  (ah (br (aR (af (bn false) (af ae (v3 0) (c3 (.int 0))) (c3 (.str "often")))) (bm (ab s0 [(af ae (v3 0) (c3 (.int 1))),(v3 1),(v3 2)])) aQ)
  (br (aR (af (jC false) (af ae (v3 0) (c3 (.int 0))) (aC [(c3 (.str "then")),(c3 (.str "either")),(c3 (.str "take"))]))) (ah (br (oM (aR (af (bn true) (af ae (v3 0) (c3 (.int 0))) (c3 (.str "take")))) (aR (af (jC false) (af ae (v3 0) (c3 (.int 1))) (v3 1)))) (bm (ab s0 [(af ae (v3 0) (hW bX (c3 (.int 2)))),(v3 1),(v3 2)])) aQ)
  (bm (ab s0 [(af ae (v3 0) (hW bX (c3 (.int 1)))),(v3 1),(v3 2)]))) aQ)))
def d4(OU:ap):bx:=(ah (aq 1 (aY []))
  (ah (bE (aJ (af ae (v3 0) (c3 (.int 0)))) (.n 2) (ah (aq 3 (aY []))
  (ah (bE (aJ (af ae (v3 0) (c3 (.int 1)))) (.tp (.cons (.n 4) (.cons (.n 5) .nil))) (bm (ab OU [(v3 5),(v3 1),(v3 3)])))
  (aq 1 (v3 3)))))
  (ar (v3 1))))
end C
namespace Zu
open PySem Zt
open Sem (wp)
def nn{a b:Nat}(h:a≠b):@Ne Addr a b:=h
abbrev cr(h:Heap)(T:Nat)(a b c:Value):Prop:=h.get? T=some { cls:=.type "tuple",data:=.seq #[a,b,c] }
section
variable {kd kc:Bool}{prog:Program}{w:World}{A:Around}{E:Zq}{s:Shared}
def qX{T:Addr}{a b c x:Value}{k:Nat}{Q:Unit->Shared->Prop}(hT:cr s.heap T a b c)
  (h:∀h',h'.get? T=some { cls:=.type "tuple",data:=.seq ((#[a,b,c]:Zy).setIfInBounds k x) }->Heap.SameBut T s.heap h'->Q () { s with heap:=h' }) :
  wpAny (model prog w) A (updateSeq T (·.setIfInBounds k x)) Q E s:=by
 refine wpAny_updateSeq hT rfl (h _ ?_ (YQ ..))
 rw[Xs _ hT rfl]
 simp[Obj.mapSeq]
variable {n l1 l2 l3:Nat}{i:Nat}{xs ys zs:Zy}{x y z a b c:Value}
def qJ{Q:Zq}(d1:l1 < n)(d2:l2 < n)(d3:l3 < n)(gz:IsZip s.heap (n+5) (n+3) (n+4) .none)(gI:cr s.heap (n+3) (.ref n) (.ref (n+1)) (.ref (n+2)))(gO:cr s.heap (n+4) a b c)
  (g1:Si kd s.heap n l1 i) (g2:Si kc s.heap (n+1) l2 i) (g3:Si kc s.heap (n+2) l3 i) (t1:Sq kd s.heap l1 xs) (t2:Sq kc s.heap l2 ys) (t3:Sq kc s.heap l3 zs) (hx:xs[i]?=some x) (hy:ys[i]?=some y) (hz:zs[i]?=some z)
  (k:∀g,IsZip g (n+5) (n+3) (n+4) (rawInt s.heap.objs.size)->cr g (n+4) x y z->Si kd g n l1 (i+1)->Si kc g (n+1) l2 (i+1)->Si kc g (n+2) l3 (i+1)->cr g s.heap.objs.size x y z->
   (∀c o,c≠n+5->c≠n+4->c≠n->c≠n+1->c≠n+2->s.heap.get? c=some o->g.get? c=some o)->Q (.ref s.heap.objs.size) { s with heap:=g }) :
  wpAny (model prog w) A (Builtin.«zip.__next__» ⟨[.ref (n+5)],[]⟩) (fun fin s'=>∃v,fin = .done (.ret v)/\Q v s') E s:=by
 show wpAny _ _ (field (.ref (n+5)) 2 >>= _) _ _ _;refine VG (Wq gz rfl (x:=.bool false) rfl ?_)
 show wpAny _ _ (field (.ref (n+5)) 3 >>= _) _ _ _;refine VG (Wq gz rfl (x:=.ref (n+3)) rfl (VG (WO gI rfl ?_)))
 show wpAny _ _ (Builtin.SmallTypes.ownedTupleIsFree (.ref (n+5)) >>= _) _ _ _;refine VG ?_;unfold Builtin.SmallTypes.ownedTupleIsFree
 refine VG (Wq gz rfl (x:=.none) rfl (VP ?_));simp only[WB]
 refine VG (Yh (VG (Wq gz rfl (x:=.ref (n+4)) rfl (VG (WV gz (by simp) fun h₁ z1 q1=>?_)))))
 replace z1:IsZip h₁ (n+5) (n+3) (n+4) .ellipsis:=z1
 refine VG ?_;simp only[List.zipIdx_cons,List.zipIdx_nil,YY,List.forIn_nil]
 refine VG (VG (Yj ?_));show wpAny _ _ (Builtin.SmallTypes.nextOf (.ref n) >>= _) _ _ _
 refine VG (FT (g1.extBut q1.extBut (nn (by omega))) (t1.extBut q1.extBut (nn (by omega))) hx fun h₂ n1 q2=>VP ?_)
 have o2:cr h₂ (n+4) a b c:=q2.extBut _ _ (nn (by omega)) (q1.extBut _ _ (nn (by omega)) gO)
 refine VG (WO o2 rfl (VG (qX o2 fun h₃ o3 q3=>?_)))
 replace o3:cr h₃ (n+4) x b c:=o3
 refine VG (Y7 (VP ?_));refine VG (VG (Yj ?_));show wpAny _ _ (Builtin.SmallTypes.nextOf (.ref (n+1)) >>= _) _ _ _
 refine VG (FT (((g2.extBut q1.extBut (nn (by omega))).extBut q2.extBut (nn (by omega))).extBut q3.extBut (nn (by omega))) (((t2.extBut q1.extBut (nn (by omega))).extBut q2.extBut (nn (by omega))).extBut q3.extBut (nn (by omega))) hy fun h₄ n2 q4=>VP ?_)
 have o4:cr h₄ (n+4) x b c:=q4.extBut _ _ (nn (by omega)) o3
 refine VG (WO o4 rfl (VG (qX o4 fun h₅ o5 q5=>?_)))
 replace o5:cr h₅ (n+4) x y c:=o5
 refine VG (Y7 (VP ?_));refine VG (VG (Yj ?_));show wpAny _ _ (Builtin.SmallTypes.nextOf (.ref (n+2)) >>= _) _ _ _
 refine VG (FT (((((g3.extBut q1.extBut (nn (by omega))).extBut q2.extBut (nn (by omega))).extBut q3.extBut (nn (by omega))).extBut q4.extBut (nn (by omega))).extBut q5.extBut (nn (by omega))) (((((t3.extBut q1.extBut (nn (by omega))).extBut q2.extBut (nn (by omega))).extBut q3.extBut (nn (by omega))).extBut q4.extBut (nn (by omega))).extBut q5.extBut (nn (by omega))) hz fun h₆ n3 q6=>VP ?_)
 have o6:cr h₆ (n+4) x y c:=q6.extBut _ _ (nn (by omega)) o5
 refine VG (WO o6 rfl (VG (qX o6 fun h₇ o7 q7=>?_)))
 replace o7:cr h₇ (n+4) x y z:=o7
 refine VG (Y7 (VP (VP ?_)));refine VG (WO o7 rfl (VG (wpAny_newTuple ?_)))
 have sz:h₇.objs.size=s.heap.objs.size:=by rw[q7.1,q6.1,q5.1,q4.1,q3.1,q2.1,q1.1]
 have kk:∀c o,c≠n+5->c≠n+4->c≠n->c≠n+1->c≠n+2->s.heap.get? c=some o->h₇.get? c=some o:=fun c o c1 c2 c3 c4 c5 e=>q7.extBut _ _ c2 (q6.extBut _ _ c5 (q5.extBut _ _ c2 (q4.extBut _ _ c4 (q3.extBut _ _ c2 (q2.extBut _ _ c3 (q1.extBut _ _ c1 e))))))
 have z7:IsZip h₇ (n+5) (n+3) (n+4) .ellipsis:=q7.extBut _ _ (nn (by omega)) (q6.extBut _ _ (nn (by omega)) (q5.extBut _ _ (nn (by omega)) (q4.extBut _ _ (nn (by omega)) (q3.extBut _ _ (nn (by omega)) (q2.extBut _ _ (nn (by omega)) z1)))))
 have m1:Si kd h₇ n l1 (i+1):=((((n1.extBut q3.extBut (nn (by omega))).extBut q4.extBut (nn (by omega))).extBut q5.extBut (nn (by omega))).extBut q6.extBut (nn (by omega))).extBut q7.extBut (nn (by omega))
 have m2:Si kc h₇ (n+1) l2 (i+1):=((n2.extBut q5.extBut (nn (by omega))).extBut q6.extBut (nn (by omega))).extBut q7.extBut (nn (by omega))
 have m3:Si kc h₇ (n+2) l3 (i+1):=n3.extBut q7.extBut (nn (by omega))
 have zl:n+5 < h₇.objs.size:=VR z7
 show wpAny _ _ (Builtin.SmallTypes.ownedTupleHandOut (.ref (n+5)) (.ref h₇.objs.size) >>= _) _ _ _;refine VG ?_;unfold Builtin.SmallTypes.ownedTupleHandOut
 have z8:IsZip (h₇.push { cls:=.type "tuple",data:=.seq #[x,y,z] }) (n+5) (n+3) (n+4) .ellipsis:=VJ _ z7
 refine VG (WV z8 (by simp) fun h₉ z9 q9=>?_)
 replace z9:IsZip h₉ (n+5) (n+3) (n+4) (rawInt h₇.objs.size):=z9
 refine WV z9 (by simp) fun g za qa=>?_
 replace za:IsZip g (n+5) (n+3) (n+4) (rawInt h₇.objs.size):=za
 have up:∀c o,c≠n+5->h₇.get? c=some o->g.get? c=some o:=fun c o c1 e=>qa.extBut _ _ c1 (q9.extBut _ _ c1 (VJ _ e))
 have T8:cr g h₇.objs.size x y z:=qa.extBut _ _ (Xx zl) (q9.extBut _ _ (Xx zl) (VY _ rfl))
 rw[sz]at za T8
 refine VP ⟨_,rfl,?_⟩
 show Q (.ref h₇.objs.size) _
 rw[sz]
 exact k g za (up _ _ (nn (by omega)) o7) (m1.at fun o e=>up _ o (nn (by omega)) e) (m2.at fun o e=>up _ o (nn (by omega)) e) (m3.at fun o e=>up _ o (nn (by omega)) e) T8 fun c o c1 c2 c3 c4 c5 e=>up c o c1 (kk c o c1 c2 c3 c4 c5 e)
def uv{Q:Fin->Shared->Prop}(hh:A.handled=none)(d1:l1 < n)(gz:IsZip s.heap (n+5) (n+3) (n+4) .none)(gI:cr s.heap (n+3) (.ref n) (.ref (n+1)) (.ref (n+2)))
  (g1:Si kd s.heap n l1 i) (t1:Sq kd s.heap l1 xs) (hx:xs[i]?=none)
  (k:∀(g:Heap) (e:Addr),(∀c o,c≠n+5->c≠n+4->c≠n->c≠n+1->c≠n+2->s.heap.get? c=some o->g.get? c=some o)->(∃o,g.get? e=some o/\o.cls = .type "StopIteration")->E (.ref e) { s with heap:=g }) :
  wpAny (model prog w) A (Builtin.«zip.__next__» ⟨[.ref (n+5)],[]⟩) Q E s:=by
 show wpAny _ _ (field (.ref (n+5)) 2 >>= _) _ _ _;refine VG (Wq gz rfl (x:=.bool false) rfl ?_)
 show wpAny _ _ (field (.ref (n+5)) 3 >>= _) _ _ _;refine VG (Wq gz rfl (x:=.ref (n+3)) rfl (VG (WO gI rfl ?_)))
 show wpAny _ _ (Builtin.SmallTypes.ownedTupleIsFree (.ref (n+5)) >>= _) _ _ _;refine VG ?_;unfold Builtin.SmallTypes.ownedTupleIsFree
 refine VG (Wq gz rfl (x:=.none) rfl (VP ?_));simp only[WB]
 refine VG (Yh (VG (Wq gz rfl (x:=.ref (n+4)) rfl (VG (WV gz (by simp) fun h₁ z1 q1=>?_)))))
 replace z1:IsZip h₁ (n+5) (n+3) (n+4) .ellipsis:=z1
 refine VG ?_;simp only[List.zipIdx_cons,List.zipIdx_nil,YY,List.forIn_nil]
 refine VG (VG (Yj ?_));show wpAny _ _ (Builtin.SmallTypes.nextOf (.ref n) >>= _) _ _ _
 refine VG (Ev hh (g1.extBut q1.extBut (nn (by omega))) (t1.extBut q1.extBut (nn (by omega))) hx fun h₂ e q2 ⟨oe,ge,ce⟩=>?_)
 have z2:IsZip h₂ (n+5) (n+3) (n+4) .ellipsis:=q2 _ _ (nn (by omega)) z1
 have ez:e≠n+5:=fun u=>by subst u;rw[z2]at ge;cases ge;simp at ce
 exact WV z2 (by simp) fun h₃ _ q3=>k h₃ e (fun c o c1 _ c3 _ _ u=>q3.extBut _ _ c1 (q2 _ _ c3 (q1.extBut _ _ c1 u))) ⟨oe,q3.extBut _ _ ez ge,ce⟩
def lq{Q:Option Value->Shared->Prop}(d1:l1 < n)(d2:l2 < n)(d3:l3 < n)(gz:IsZip s.heap (n+5) (n+3) (n+4) .none)(gI:cr s.heap (n+3) (.ref n) (.ref (n+1)) (.ref (n+2)))(gO:cr s.heap (n+4) a b c)
  (g1:Si kd s.heap n l1 i) (g2:Si kc s.heap (n+1) l2 i) (g3:Si kc s.heap (n+2) l3 i) (t1:Sq kd s.heap l1 xs) (t2:Sq kc s.heap l2 ys) (t3:Sq kc s.heap l3 zs) (hx:xs[i]?=some x) (hy:ys[i]?=some y) (hz:zs[i]?=some z)
  (k:∀g,IsZip g (n+5) (n+3) (n+4) (rawInt s.heap.objs.size)->cr g (n+4) x y z->Si kd g n l1 (i+1)->Si kc g (n+1) l2 (i+1)->Si kc g (n+2) l3 (i+1)->cr g s.heap.objs.size x y z->
   (∀c o,c≠n+5->c≠n+4->c≠n->c≠n+1->c≠n+2->s.heap.get? c=some o->g.get? c=some o)->Q (some (.ref s.heap.objs.size)) { s with heap:=g }):wpAny (model prog w) A (pyNext (.ref (n+5))) Q E s:=by
 have ty:s.TypeIs (.ref (n+5)) "zip":=⟨_,gz,rfl⟩
 unfold pyNext
 exact VG (Yz (WC (name:=Str.ofString "__next__") ty XF (W4 XF ty Zz
  (qJ d1 d2 d3 gz gI gO g1 g2 g3 t1 t2 t3 hx hy hz fun g a1 a2 a3 a4 a5 a6 a7=>VP (k g a1 a2 a3 a4 a5 a6 a7)) (Zg _))))
def m6{Q:Option Value->Shared->Prop}(hh:A.handled=none)(d1:l1 < n)(gz:IsZip s.heap (n+5) (n+3) (n+4) .none)(gI:cr s.heap (n+3) (.ref n) (.ref (n+1)) (.ref (n+2)))
  (g1:Si kd s.heap n l1 i) (t1:Sq kd s.heap l1 xs) (hx:xs[i]?=none)
  (k:∀g:Heap,(∀c o,c≠n+5->c≠n+4->c≠n->c≠n+1->c≠n+2->s.heap.get? c=some o->g.get? c=some o)->Q none { s with heap:=g }):wpAny (model prog w) A (pyNext (.ref (n+5))) Q E s:=by
 have ty:s.TypeIs (.ref (n+5)) "zip":=⟨_,gz,rfl⟩
 unfold pyNext
 refine VG (Yz (WC (name:=Str.ofString "__next__") ty XF (W4 XF ty Zz (uv hh d1 gz gI g1 t1 hx fun g e kk ⟨o,ho,hc⟩=>?_) (Zg _))))
 exact VG (YG (T:="StopIteration") (b:=true) ⟨o,ho,hc⟩ isSubtype_stop (VP (k _ kk)))
end
def JO(a b c:Value):checkTypeCall "zip" ⟨[a,b,c],[]⟩=pure ():=by kernel_rfl
def JP(a b c:Value):checkBuiltinCall "zip.__new__" ⟨[.type "zip",a,b,c],[]⟩=pure ():=by kernel_rfl
def JQ(a b c d:Value):argsOk "object.__init__" ⟨[a,b,c,d],[]⟩:=by
 unfold argsOk;rw[signature?_of (id:="object.__init__") (n:="__init__".toList.reverse) (o:="object".toList.reverse) (by kernel_rfl) F.owner_object];kernel_rfl
noncomputable abbrev K3(kd kc:Bool)(h:Heap)(l1 l2 l3:Addr):Heap:=((h.push (it kd l1)).push (it kc l2)).push (it kc l3)
noncomputable abbrev K4(kd kc:Bool)(h:Heap)(l1 l2 l3:Addr):Heap:=(K3 kd kc h l1 l2 l3).push { cls:=.type "tuple",data:=.seq #[.ref h.objs.size,.ref (h.push (it kd l1)).objs.size,.ref ((h.push (it kd l1)).push (it kc l2)).objs.size] }
noncomputable abbrev K5(kd kc:Bool)(h:Heap)(l1 l2 l3:Addr):Heap:=(K4 kd kc h l1 l2 l3).push { cls:=.type "tuple",data:=.seq #[.none,.none,.none] }
noncomputable abbrev K6(kd kc:Bool)(h:Heap)(l1 l2 l3:Addr):Heap:=(K5 kd kc h l1 l2 l3).push { cls:=.type "zip",data:=.fields #[.none,.bool false,.bool false,.ref (K3 kd kc h l1 l2 l3).objs.size,.ref (K4 kd kc h l1 l2 l3).objs.size] }
def fM(kd kc:Bool)(l1 l2 l3:Addr)(xs ys zs:Zy) :
  Meets (Builtin.«zip.__new__» ⟨[.type "zip",.ref l1,.ref l2,.ref l3],[]⟩) (fun _ R s=>Sq kd s.heap l1 xs/\Sq kc s.heap l2 ys/\Sq kc s.heap l3 zs/\R (.ok (.ret (.ref (K5 kd kc s.heap l1 l2 l3).objs.size))) { s with heap:=K6 kd kc s.heap l1 l2 l3 }):=
 .of_wp fun prog w A R s h=>by
  obtain⟨hp,g,d,tk,os⟩:=s;obtain⟨e1,e2,e3,h⟩:=h
  have hsub:=sub_zip
  cases kd with
  |false=>
   cases kc with
   |false=>
    have L1:Heap.IsTuple (Shared.heap ⟨hp,g,d,tk,os⟩) l1 xs:=e1
    have L2:Heap.IsTuple (Shared.heap ⟨hp.push { cls:=.type "tuple_iterator",data:=.fields #[.ref l1,.int 0 0] },g,d,tk,os⟩) l2 ys:=Xo e2 _
    have L3:Heap.IsTuple (Shared.heap ⟨(hp.push { cls:=.type "tuple_iterator",data:=.fields #[.ref l1,.int 0 0] }).push { cls:=.type "tuple_iterator",data:=.fields #[.ref l2,.int 0 0] },g,d,tk,os⟩) l3 zs:=Xo (Xo e3 _) _
    wp_walk using Wz L1,Wz L2,Wz L3
    exact⟨_,rfl,h⟩
   |true=>
    have L1:Heap.IsTuple (Shared.heap ⟨hp,g,d,tk,os⟩) l1 xs:=e1
    have L2:Heap.IsList (Shared.heap ⟨hp.push { cls:=.type "tuple_iterator",data:=.fields #[.ref l1,.int 0 0] },g,d,tk,os⟩) l2 ys:=Xv e2 _
    have L3:Heap.IsList (Shared.heap ⟨(hp.push { cls:=.type "tuple_iterator",data:=.fields #[.ref l1,.int 0 0] }).push { cls:=.type "list_iterator",data:=.fields #[.ref l2,.int 0 0] },g,d,tk,os⟩) l3 zs:=Xv (Xv e3 _) _
    wp_walk using Wz L1,WN L2,WN L3
    exact⟨_,rfl,h⟩
  |true=>
   cases kc with
   |false=>
    have L1:Heap.IsList (Shared.heap ⟨hp,g,d,tk,os⟩) l1 xs:=e1
    have L2:Heap.IsTuple (Shared.heap ⟨hp.push { cls:=.type "list_iterator",data:=.fields #[.ref l1,.int 0 0] },g,d,tk,os⟩) l2 ys:=Xo e2 _
    have L3:Heap.IsTuple (Shared.heap ⟨(hp.push { cls:=.type "list_iterator",data:=.fields #[.ref l1,.int 0 0] }).push { cls:=.type "tuple_iterator",data:=.fields #[.ref l2,.int 0 0] },g,d,tk,os⟩) l3 zs:=Xo (Xo e3 _) _
    wp_walk using WN L1,Wz L2,Wz L3
    exact⟨_,rfl,h⟩
   |true=>
    have L1:Heap.IsList (Shared.heap ⟨hp,g,d,tk,os⟩) l1 xs:=e1
    have L2:Heap.IsList (Shared.heap ⟨hp.push { cls:=.type "list_iterator",data:=.fields #[.ref l1,.int 0 0] },g,d,tk,os⟩) l2 ys:=Xv e2 _
    have L3:Heap.IsList (Shared.heap ⟨(hp.push { cls:=.type "list_iterator",data:=.fields #[.ref l1,.int 0 0] }).push { cls:=.type "list_iterator",data:=.fields #[.ref l2,.int 0 0] },g,d,tk,os⟩) l3 zs:=Xv (Xv e3 _) _
    wp_walk using WN L1,WN L2,WN L3
    exact⟨_,rfl,h⟩
section
variable {kd kc:Bool}{prog:Program}{w:World}{A:Around}{E:Zq}{s:Shared}
def ig{l1 l2 l3:Addr}{xs ys zs:Zy}{Q:Zq}(e1:Sq kd s.heap l1 xs)(e2:Sq kc s.heap l2 ys)(e3:Sq kc s.heap l3 zs)
  (k:∀g,IsZip g (s.heap.objs.size+5) (s.heap.objs.size+3) (s.heap.objs.size+4) .none->cr g (s.heap.objs.size+3) (.ref s.heap.objs.size) (.ref (s.heap.objs.size+1)) (.ref (s.heap.objs.size+2))->
   cr g (s.heap.objs.size+4) .none .none .none->Si kd g s.heap.objs.size l1 0->Si kc g (s.heap.objs.size+1) l2 0->Si kc g (s.heap.objs.size+2) l3 0->
   (∀c o,s.heap.get? c=some o->g.get? c=some o)->Q (.ref (s.heap.objs.size+5)) { s with heap:=g }) :
  wpAny (model prog w) A (call (.type "zip") [.ref l1,.ref l2,.ref l3]) Q E s:=by
 refine callType_new F.called_zip (by decide) (JO _ _ _) (JP _ _ _) (fun obj=>JQ obj _ _ _) F.entry_zip_new (fM kd kc l1 l2 l3 xs ys zs) ⟨e1,e2,e3,?_⟩
 have z1:(s.heap.push (it kd l1)).objs.size=s.heap.objs.size+1:=W9 ..
 have z2:((s.heap.push (it kd l1)).push (it kc l2)).objs.size=s.heap.objs.size+2:=by rw[W9,z1]
 have z3:(K3 kd kc s.heap l1 l2 l3).objs.size=s.heap.objs.size+3:=by rw[W9,z2]
 have z4:(K4 kd kc s.heap l1 l2 l3).objs.size=s.heap.objs.size+4:=by rw[W9,z3]
 have z5:(K5 kd kc s.heap l1 l2 l3).objs.size=s.heap.objs.size+5:=by rw[W9,z4]
 have p:∀{h:Heap} {b:Addr} {o o':Obj},h.get? b=some o->(h.push o').get? b=some o:=fun e=>VJ _ e
 have g6:(K6 kd kc s.heap l1 l2 l3).get? (K5 kd kc s.heap l1 l2 l3).objs.size=some _:=VY _ rfl
 have g5:(K6 kd kc s.heap l1 l2 l3).get? (K4 kd kc s.heap l1 l2 l3).objs.size=some _:=p (VY _ rfl)
 have g4:(K6 kd kc s.heap l1 l2 l3).get? (K3 kd kc s.heap l1 l2 l3).objs.size=some _:=p (p (VY _ rfl))
 have g3:(K6 kd kc s.heap l1 l2 l3).get? ((s.heap.push (it kd l1)).push (it kc l2)).objs.size=some _:=p (p (p (VY _ rfl)))
 have g2:(K6 kd kc s.heap l1 l2 l3).get? (s.heap.push (it kd l1)).objs.size=some _:=p (p (p (p (VY _ rfl))))
 have g1:(K6 kd kc s.heap l1 l2 l3).get? s.heap.objs.size=some _:=p (p (p (p (p (VY _ rfl)))))
 show _/\_
 rw[z3,z4,z5]at g6
 rw[z4]at g5
 rw[z1,z2,z3]at g4
 rw[z2]at g3
 rw[z1]at g2
 rw[z5]
 exact⟨⟨_,g6,rfl⟩,k _ g6 g4 g5 (.mk g1) (.mk g2) (.mk g3) fun c o x=>p (p (p (p (p (p x)))))⟩
end
end Zu
namespace L2
open PySem PySem.Spec PyProof.Rows
noncomputable def Jb(kd kc:Bool)(K:Zo)(a b c:Addr):It:=
  ⟨fun i H=>∃xs ys zs x y z,m7 kd K H a xs/\m7 kc K H b ys/\m7 kc K H c zs/\xs[i]?=some x/\ys[i]?=some y/\zs[i]?=some z,
   fun i H v H'=>∃p x y z,v = .ref p/\H p=none/\H'=upd H p (.tup [x,y,z])/\∀xs ys zs,m7 kd K H a xs->m7 kc K H b ys->m7 kc K H c zs->xs[i]?=some x/\ys[i]?=some y/\zs[i]?=some z,
   fun i H=>∃xs,m7 kd K H a xs/\xs.length<=i⟩
def y3{kd kc:Bool}{P:Program}{w:World}{K:Zo}{elts:List Expr}{k0:Nat}{L6:Pos}{n a b c:Nat}(d1:a < n)(d2:b < n)(d3:c < n) :
  mV P w K (.Tuple elts k0 L6) (Jb kd kc K a b c) [n+5,n+3,n+4,n,n+1,n+2] (n+5) (fun i h=>IsZip h (n+5) (n+3) (n+4) .none/\Zu.cr h (n+3) (.ref n) (.ref (n+1)) (.ref (n+2))/\(∃x y z,Zu.cr h (n+4) x y z)/\Zt.Si kd h n a i/\Zt.Si kc h (n+1) b i/\Zt.Si kc h (n+2) c i) where
 mem:=by simp
 obj:=fun i h st c hc=>by
  obtain⟨gz,gI,⟨x,y,z,gO⟩,g1,g2,g3⟩:=st
  obtain⟨o1,_,e1,f1⟩:=g1.ob;obtain⟨o2,_,e2,f2⟩:=g2.ob;obtain⟨o3,_,e3,f3⟩:=g3.ob
  simp only[VL,V3,WK]at hc
  rcases hc with rfl|rfl|rfl|rfl|rfl|rfl
  ·exact⟨_,gz,fun v q=>by cases q⟩
  ·exact⟨_,gI,fun v q=>by cases q⟩
  ·exact⟨_,gO,fun v q=>by cases q⟩
  ·exact⟨_,e1,fun v q=>by rw[f1]at q;cases q⟩
  ·exact⟨_,e2,fun v q=>by rw[f2]at q;cases q⟩
  ·exact⟨_,e3,fun v q=>by rw[f3]at q;cases q⟩
 keep:=fun i h h' st k=>by
  obtain⟨gz,gI,⟨x,y,z,gO⟩,g1,g2,g3⟩:=st
  exact⟨k _ (by simp) _ gz,k _ (by simp) _ gI,⟨x,y,z,k _ (by simp) _ gO⟩,g1.at fun o e=>k _ (by simp) o e,g2.at fun o e=>k _ (by simp) o e,g3.at fun o e=>k _ (by simp) o e⟩
 item:=by
  intro X hP hw hK hc i pins s σ H E I hf st hg
  subst hP hw hK
  obtain⟨gz,gI,⟨ta,tb,tc,gO⟩,g1,g2,g3⟩:=st
  obtain⟨xs,ys,zs,x,y,z,On,Ra,T3,hx,hy,hz⟩:=hg
  obtain⟨ia,ra,pa⟩:=I.Nr On
  obtain⟨ib,rb,pb⟩:=I.Nr Ra
  obtain⟨ic,rc,pc⟩:=I.Nr T3
  obtain⟨u,hu,ru⟩:=ra.get hx
  obtain⟨v,hv,rv⟩:=rb.get hy
  obtain⟨t,ht,rt⟩:=rc.get hz
  refine Zu.lq (kd:=kd) (kc:=kc) d1 d2 d3 gz gI gO g1 g2 g3 pa pb pc (x:=u) (y:=v) (z:=t) (by simpa using hu) (by simpa using hv) (by simpa using ht) fun g a1 a2 a3 a4 a5 a6 a7=>?_
  refine⟨_,rfl,wpAny_letOwnedTupleGo_zip (s:={ s with heap:=g }) a1 fun g' z' q'=>?_⟩
  have kk:∀c o,c ∉ ([n+5,n+3,n+4,n,n+1,n+2]:List Addr)->s.heap.get? c=some o->g'.get? c=some o:=fun c o hc e=>by
   simp only[VL,V3,WK,not_or]at hc
   exact q'.extBut _ _ hc.1 (a7 c o hc.1 hc.2.2.1 hc.2.2.2.1 hc.2.2.2.2.1 hc.2.2.2.2.2 e)
  have I1:Inv X pins σ H { s with heap:=g' }:=I.LV (t':=s.toks) kk hf
  have f0:fV X pins H s.heap.objs.size:=I.M6 (VM _) (I.hok.fresh (VM _))
  have eT:KZ g' s.heap.objs.size [u,v,t].toArray:=⟨_,q'.extBut _ _ (Xx (VR gz)) a6,rfl,rfl,_,rfl⟩
  have I2:=I1.Om f0 eT (.cons ru (.cons rv (.cons rt .nil))) (by show 3<=sizeLine;decide)
  refine⟨.ref s.heap.objs.size,_,I2,rfl,⟨s.heap.objs.size,x,y,z,rfl,f0.1,rfl,fun xs' ys' zs' h1 h2 h3=>by rw[I.ME h1 On,I.ME h2 Ra,I.ME h3 T3];exact⟨hx,hy,hz⟩⟩,
   ⟨z',q'.extBut _ _ (Zu.nn (by omega)) (a7 _ _ (Zu.nn (by omega)) (Zu.nn (by omega)) (Zu.nn (by omega)) (Zu.nn (by omega)) (Zu.nn (by omega)) gI),⟨_,_,_,q'.extBut _ _ (Zu.nn (by omega)) a2⟩,a3.extBut q'.extBut (Zu.nn (by omega)),a4.extBut q'.extBut (Zu.nn (by omega)),a5.extBut q'.extBut (Zu.nn (by omega))⟩,fun c hc=>?_⟩
  have hlt:c < s.heap.objs.size:=by
   obtain⟨_,_,e1,_⟩:=g1.ob
   obtain⟨_,_,e2,_⟩:=g2.ob
   obtain⟨_,_,e3,_⟩:=g3.ob
   simp only[VL,V3,WK]at hc
   rcases hc with rfl|rfl|rfl|rfl|rfl|rfl
   ·exact VR gz
   ·exact VR gI
   ·exact VR gO
   ·exact VR e1
   ·exact VR e2
   ·exact VR e3
  rw[aM (Wa hlt)]
  exact(hf c hc).1
 done:=by
  intro X hP hw hK hc i pins s σ H E I hf st hg
  subst hP hw hK
  obtain⟨gz,gI,⟨ta,tb,tc,gO⟩,g1,g2,g3⟩:=st
  obtain⟨xs,On,hl⟩:=hg
  obtain⟨ia,ra,pa⟩:=I.Nr On
  have la:=ra.length
  refine Zu.m6 (kd:=kd) (I.ok.hd hc) d1 gz gI g1 pa (by simp;omega) fun g kk=>⟨rfl,I.LV (t':=s.toks) (fun c o hc e=>?_) hf⟩
  simp only[VL,V3,WK,not_or]at hc
  exact kk c o hc.1 hc.2.2.1 hc.2.2.2.1 hc.2.2.2.2.1 hc.2.2.2.2.2 e
 self:=fun _ _ _ _ _ st h=>ZA st.1 h
section
variable {X:Cx}
def Jc(kd kc:Bool)(K:Zo)(ta:TA):TI:=fun σ H R=>ta σ H fun vs H1=>∃a b c,vs=[.ref a,.ref b,.ref c]/\(∃xs,m7 kd K H1 a xs)/\(∃ys,m7 kc K H1 b ys)/\(∃zs,m7 kc K H1 c zs)/\R (Jb kd kc K a b c) H1
def EO{kd kc:Bool}{elts:List Expr}{k0:Nat}{L6:Pos}{a b c:Expr}{ta:TA}{p pos:Pos}(hg:Gl X "zip")(hm:X.mg "zip" = none)(hv:bootBuiltins "zip" = some (.type "zip"))(ha:PA X [a,b,c] ta)
  (hs:starEach [a,b,c] X.env=[(false,eval a X.env),(false,eval b X.env),(false,eval c X.env)]) (hs2:starEach [b,c] X.env=[(false,eval b X.env),(false,eval c X.env)]):PI X (.Tuple elts k0 L6) (.Call (.Name "zip" p) [a,b,c] [] pos) (Jc kd kc X.K ta):=by
 intro pins s σ H R I h
 refine Call_ (fw I hg hm hv (WM (J9 (ha pos pins s σ H _ I h) fun us s1 ⟨vs,H1,I1,r1,q1⟩=>?_) (by rw[hs,hs2]) (by rw[hs2];rfl)))
 obtain⟨a,b,c,e,⟨xs,qa⟩,⟨ys,qb⟩,⟨zs,qc⟩,q⟩:=q1
 subst e
 obtain⟨u,us,rfl⟩:∃u us',us=u::us':=by cases r1;exact⟨_,_,rfl⟩
 cases r1 with
 |cons ru r1=>
 obtain⟨v,t,rfl,rv,rt⟩:=yd r1
 cases ru
 cases rv
 cases rt
 obtain⟨ia,ra,pa⟩:=I1.Nr qa
 obtain⟨ib,rb,pb⟩:=I1.Nr qb
 obtain⟨ic,rc,pc⟩:=I1.Nr qc
 have la:a < s1.heap.objs.size:=pa.lt
 have lb:b < s1.heap.objs.size:=pb.lt
 have lc:c < s1.heap.objs.size:=pc.lt
 refine Zu.ig (kd:=kd) (kc:=kc) pa pb pc fun g gz gI gO g1 g2 g3 kk=>?_
 refine ZA (s:={ s1 with heap:=g }) gz ?_
 refine⟨_,[s1.heap.objs.size+5,s1.heap.objs.size+3,s1.heap.objs.size+4,s1.heap.objs.size,s1.heap.objs.size+1,s1.heap.objs.size+2],_,_,H1,rfl,I1.kept (t':=s1.toks) kk,y3 la lb lc,⟨gz,gI,⟨_,_,_,gO⟩,g1,g2,g3⟩,fun c hc=>?_,q⟩
 have hle:s1.heap.objs.size<=c:=by
  simp only[VL,V3,WK]at hc
  rcases hc with rfl|rfl|rfl|rfl|rfl|rfl
  ·exact WE _ _
  ·exact WE _ _
  ·exact WE _ _
  ·exact VM _
  ·exact WE _ _
  ·exact WE _ _
 exact I1.M6 hle (I1.hok.fresh hle)
end
end L2
namespace L3
open PySem L2
section
variable {X:Cx}{a b c:Expr}{ta tb tc:bd}{p pos:Pos}
noncomputable def GY(z:PV×PV×PV):PV:=.tup [z.1,z.2.1,z.2.2]
noncomputable def gk(xs ys zs:List PV):List PV:=(xs.zip (ys.zip zs)).map GY
def y8{K:Zo}{H0:Hp}{a b c:Addr}{vs us ws:List V}{xs ys zs:List PV}(h1:SqT K H0 a vs)(h2:SqT K H0 b us)(h3:SqT K H0 c ws)(r1:Reps K H0 vs xs)(r2:Reps K H0 us ys)(r3:Reps K H0 ws zs)(l12:xs.length<=ys.length)(l13:xs.length<=zs.length):ip K H0 (Jb false false K a b c) ⟨gk xs ys zs,fun _=>True⟩:=by
 intro i S H g rS _
 have hv:=g.t _ _ h1
 have hu:=g.t _ _ h2
 have hw:=g.t _ _ h3
 have l1:=r1.length
 refine⟨fun p hp=>?_,fun hi=>⟨vs,hv,?_⟩⟩
 ·unfold gk at hp
  rw[V2]at hp
  cases hz:(xs.zip (ys.zip zs))[i]? with
  |none=>rw[hz]at hp;cases hp
  |some z=>
   rw[hz]at hp
   cases hp
   obtain⟨e1,UT⟩:=Xr.mp hz
   obtain⟨e2,e3⟩:=Xr.mp UT
   obtain⟨v,hx',rv⟩:=r1.get e1
   obtain⟨u,hy',ru⟩:=r2.get e2
   obtain⟨t,hz',rt⟩:=r3.get e3
   refine⟨⟨vs,us,ws,v,u,t,hv,hu,hw,hx',hy',hz'⟩,fun x H' ⟨q,x2,y2,z2,e3,hq,e4,h⟩=>?_⟩
   subst e3 e4
   obtain⟨k1,k2,k3⟩:=h vs us ws hv hu hw
   rw[hx']at k1
   rw[hy']at k2
   rw[hz']at k3
   cases k1;cases k2;cases k3
   exact⟨.tup (SqT.of aH) (.cons ((rv.mono g).mono (.new hq)) (.cons ((ru.mono g).mono (.new hq)) (.cons ((rt.mono g).mono (.new hq)) .nil))),rS.other hq,.new hq⟩
 ·have e:(gk xs ys zs).length=min xs.length (min ys.length zs.length):=by simp[gk]
  rw[e]at hi
  omega
def y9(ta tb tc:bd):vG:=fun σ S R E=>ta σ S (fun v S1=>tb σ S1 (fun w S2=>tc σ S2 (fun x S3=>match v,w,x with
 | .tup xs,.tup ys,.tup zs=>xs.length<=ys.length/\xs.length<=zs.length/\R ⟨gk xs ys zs,fun _=>True⟩ S3
 |_,_,_=>False) E) E) E
def EQ{elts:List Expr}{k0:Nat}{L6:Pos}(hs:starEach [a,b,c] X.env=[(false,eval a X.env),(false,eval b X.env),(false,eval c X.env)])(hs2:starEach [b,c] X.env=[(false,eval b X.env),(false,eval c X.env)])(hg:Gl X "zip")(hm:X.mg "zip" = none)(hv:bootBuiltins "zip" = some (.type "zip"))(ha:mi X [a,b,c] [ta,tb,tc]) :
  xT X (.Tuple elts k0 L6) (.Call (.Name "zip" p) [a,b,c] [] pos) (y9 ta tb tc):=
 ⟨jD (EO (kd:=false) (kc:=false) hg hm hv ha.ok hs hs2) fun σ H R ⟨σ3,S,R3,E3,rσ,rS,h,xo,k⟩=>⟨σ3,S,_,E3,rσ,rS,h,xo,fun v S1 v' H1 h1 rv Kn g1=>⟨σ3,S1,_,E3,rσ.mono g1,Kn,h1,xo.mono g1,fun w S2 w' H2 h2 rw' MF g2=>⟨σ3,S2,_,E3,(rσ.mono g1).mono g2,MF,h2,(xo.mono g1).mono g2,fun x S3 x' H3 h3 Td Qt g3=>by
  split at h3
  ·cases rv with
   |tup hq rs=>
    cases rw' with
    |tup hq2 Rb=>
     cases Td with
     |tup T4 UU=>exact⟨_,_,_,rfl,⟨_,g3.t _ _ (g2.t _ _ hq)⟩,⟨_,g3.t _ _ hq2⟩,⟨_,T4⟩,k _ S3 _ H3 h3.2.2 (y8 (g3.t _ _ (g2.t _ _ hq)) (g3.t _ _ hq2) T4 ((rs.mono g2).mono g3) (Rb.mono g3) UU h3.1 h3.2.1) Qt ((g1.trans g2).trans g3)⟩
  ·exact h3.elim⟩⟩⟩⟩
end
end L3
namespace L2
open PySem PySem.Spec PyProof.Rows
def lD:fillsNumberSlot (.type "tuple") "mul" = pure false:=
 PySem.fillsNumberSlot_seq (id:="tuple.__mul__") (r:=some (.builtin "tuple.__rmul__")) YH.lookup (by decide +kernel) F.slot_tuple_rmul.lookup (by decide +kernel)
def qY:seqRepeat? (.type "tuple")=pure (some (.builtin "tuple.__mul__")):=by
 unfold seqRepeat?
 rw[PySem.seqSlot_of (T:="tuple") (name:="__mul__") (id:="tuple.__mul__") YH.lookup (by decide +kernel),PySem.seqSlot_of (T:="tuple") (name:="__rmul__") (id:="tuple.__rmul__") F.slot_tuple_rmul.lookup (by decide +kernel)]
 rfl
def nG(a:Int)(t:Tok)(l:Addr)(its:Zy)(n:Nat)(dd:Option Addr)(sl:Array (Option Value)) :
  Meets (Builtin.«int.__rmul__» ⟨[.int a t,.ref l],[]⟩) (fun _ R s=>s.heap.get? l=some { cls:=.type "tuple",dict:=dd,data:=.seq its n,slots:=sl }/\R (.ok (.ret Value.notImplemented)) s):=
 .of_wp fun prog w A R s h=>by obtain⟨hp,g,d,tk,os⟩:=s;obtain⟨hl,h⟩:=h;wp_walk;exact⟨_,rfl,h⟩
def GZ(l:Addr)(x:Value)(n:Nat)(dd:Option Addr)(sl:Array (Option Value))(t:Tok) :
  Meets (Builtin.«tuple.__mul__» ⟨[.ref l,.int 1 t],[]⟩) (fun _ R s=>s.heap.get? l=some { cls:=.type "tuple",dict:=dd,data:=.seq #[x] n,slots:=sl }/\R (.ok (.ret (.ref l))) s):=
 .of_wp fun prog w A R s h=>by
  obtain⟨hp,g,d,tk,os⟩:=s;obtain⟨hl,h⟩:=h
  have t1:=AutoSeq1.idx_int
  wp_walk using WT hl
  exact⟨_,rfl,h⟩
def G0(l:Addr)(x:Value)(n:Nat)(dd:Option Addr)(sl:Array (Option Value))(t:Tok) :
  Meets (Builtin.«tuple.__mul__» ⟨[.ref l,.int 0 t],[]⟩) (fun _ R s=>s.heap.get? l=some { cls:=.type "tuple",dict:=dd,data:=.seq #[x] n,slots:=sl }/\R (.ok (.ret (.ref s.heap.objs.size))) { s with heap:=s.heap.push { cls:=.type "tuple",data:=.seq #[] } }):=
 .of_wp fun prog w A R s h=>by
  obtain⟨hp,g,d,tk,os⟩:=s;obtain⟨hl,h⟩:=h
  have t1:=AutoSeq1.idx_int
  wp_walk using WT hl
  exact⟨_,rfl,h⟩
def vI(x:Value)(m:Nat):(List.replicate m (#[x]:Zy)).foldl (·++·) #[]=(List.replicate m x).toArray:=by
 have:=lh [x] m []
 rw[Wm]at this
 refine this.trans ?_
 rw[List.flatten_replicate_singleton]
def G1(l:Addr)(x:Value)(n:Nat)(dd:Option Addr)(sl:Array (Option Value))(k:Int)(t:Tok)(h2:2<=k)(hk:k<=2 ^ 20) :
  Meets (Builtin.«tuple.__mul__» ⟨[.ref l,.int k t],[]⟩) (fun _ R s=>s.heap.get? l=some { cls:=.type "tuple",dict:=dd,data:=.seq #[x] n,slots:=sl }/\R (.ok (.ret (.ref s.heap.objs.size))) { s with heap:=s.heap.push { cls:=.type "tuple",data:=.seq ((List.replicate k.toNat #[x]).foldl (·++·) #[]) } }):=
 .of_wp fun prog w A R s h=>by
  obtain⟨hp,g,d,tk,os⟩:=s;obtain⟨hl,h⟩:=h
  have t1:=AutoSeq1.idx_int
  have c1:¬((decide (k < -(2 ^ 63)) || decide (k>=2 ^ 63))=true):=by rw[Bool.or_eq_true,VS,VS];omega
  have c2:¬(((#[x]:Zy).isEmpty || k == 1)=true):=by
   have:(k == 1)=false:=by rw[ZP];omega
   rw[this];simp
  have c3:¬((decide (k<=0) || (#[x]:Zy).isEmpty)=true):=by
   have:decide (k<=0)=false:=Wc (by omega)
   rw[this];simp
  have c4:¬(((#[x]:Zy).size:Int) * k > (2 ^ 63 - 1) / 8):=by show ¬((1:Int) * k > _);omega
  have sl:(2:Int) ^ 20<=(sizeLine:Int):=by decide
  have c5:¬(Builtin.Tuple.tupleTooMany (((#[x]:Zy).size:Int) * k)=true):=by show ¬(decide ((1:Int) * k > (sizeLine:Int))=true);rw[VS];omega
  wp_walk using WT hl
  rw[if_neg c1]
  wp_walk using WT hl
  rw[if_neg c2]
  wp_walk using WT hl
  rw[if_neg c3]
  wp_walk using WT hl
  rw[if_neg c4]
  wp_walk using WT hl
  rw[if_neg c5]
  wp_walk using WT hl
  have c6:¬((List.replicate k.toNat (#[x]:Zy)).foldl (·++·) #[]).size > sizeLine:=by
   rw[vI,VQ,WQ];have:=Int.toNat_of_nonneg (show 0<=k by omega);omega
  rw[if_neg c6]
  wp_walk using WT hl
  exact⟨_,rfl,h⟩
section
variable {X:Cx}
def G2(H H':Hp):Prop:=∀c o,H c=some o->H' c=some o
def G3(K:Zo):R2:=fun x y H Q=>∃l k x0,x = .ref l/\y = .int k/\SqT K H l [x0]/\0<=k/\k<=2 ^ 20/\∀r H',G2 H H'->SqT K H' r (List.replicate k.toNat x0)->Q (.ref r) H'
def BO:j3 X (binaryOp .Mult) (G3 X.K):=by
 intro pins s σ H x y v u Q I rx ry h
 obtain⟨l,k,x0,rfl,rfl,hH,h1,h2,q⟩:=h
 cases rx
 obtain⟨t,rfl⟩:=ry
 obtain⟨its,r1,p1,_⟩:=I.tuple hH
 obtain⟨w,rfl,UV⟩:=r1.one
 obtain⟨⟨cls,dd,data,sl⟩,ho,hc,n,hd⟩:=id p1
 simp only at hc hd
 subst hc hd
 have new:∀(ys:List V) (us:Zx),Vals ys us->ys.length<=sizeLine->ys=List.replicate k.toNat x0->∃v H1,Inv X pins σ H1 { s with heap:=s.heap.push { cls:=.type "tuple",data:=.seq us.toArray } }/\RelV v (.ref s.heap.objs.size)/\Q v H1:=fun ys us r hz e=>
  ⟨.ref s.heap.objs.size,_,I.laid (t':=s.toks) (o:=.tup ys) (fun b ob q=>VJ _ q) (VM _) ⟨hz,_,r,KZ.new _ _⟩,rfl,
   q _ _ (fun c o z=>by rw[aM (bw z (I.hok.fresh (VM _)))];exact z) (by rw[<-e];exact SqT.of aH)⟩
 refine wpAny_binaryOp_repeat_ref (T:="tuple") (U:="int") (by decide) ⟨_,ho,rfl⟩ (fun s'=>typeIs_int s' k t) lD F.fills_int_mul ZO qY F.slot_int_index.lookup
  (XU ZO (typeIs_int s k t) F.entry_int_rmul (F.args_int_rmul_2 _ _) (nG k t l _ n dd sl) ⟨ho,rfl,⟨_,ho,rfl⟩,?_⟩)
 by_cases k0:k=0
 ·subst k0
  exact XU YH ⟨_,ho,rfl⟩ F.entry_tuple_mul (F.args_tuple_mul_2 _ _) (G0 l w n dd sl t) ⟨ho,new [] [] .nil (Ws _) rfl⟩
 by_cases k1:k=1
 ·subst k1
  exact XU YH ⟨_,ho,rfl⟩ F.entry_tuple_mul (F.args_tuple_mul_2 _ _) (GZ l w n dd sl t) ⟨ho,⟨.ref l,H,I,rfl,q l H (fun _ _ e=>e) hH⟩⟩
 ·refine XU YH ⟨_,ho,rfl⟩ F.entry_tuple_mul (F.args_tuple_mul_2 _ _) (G1 l w n dd sl k t (by omega) h2) ⟨ho,?_⟩
  rw[vI]
  have hz:(2:Nat) ^ 20<=sizeLine:=by decide
  have e:∀m:Nat,Vals (List.replicate m x0) (List.replicate m w):=fun m=>by
   induction m with
   |zero=>exact .nil
   |succ m ih=>rw[Wo,Wo];exact .cons UV ih
  exact new _ _ (e k.toNat) (by rw[WQ];omega) rfl
end
end L2
namespace L3
open PySem L2
section
variable {X:Cx}
def sP:R3:=fun x y S Q=>match x,y with
 | .tup [v],.int k=>0<=k/\k<=2 ^ 20/\Q (.tup (List.replicate k.toNat v)) S
 |_,_=>False
def vJ:k9 X (binaryOp .Mult) sP:=⟨fun pins s σ H x y v u Q I rx ry ⟨px,py,S,Q3,r1,r2,rS,q,k⟩=>by
 unfold sP at q
 split at q
 ·cases r2
  cases r1 with
  |tup hq rs=>
   cases rs with
   |cons r0 rn=>
    cases rn
    refine BO pins s σ H _ _ v u Q I rx ry ⟨_,_,_,rfl,rfl,hq,q.1,q.2.1,fun r H' hh hr=>k _ S _ H' q.2.2 (.tup hr ?_) (rS.grow hh) (.same hh)⟩
    have e:∀m:Nat,Reps X.K H (List.replicate m _) (List.replicate m _):=fun m=>by
     induction m with
     |zero=>exact .nil
     |succ m ih=>rw[Wo,Wo];exact .cons r0 ih
    exact(e _).mono (.same hh)
 ·exact q.elim⟩
end
end L3
namespace C
open PySem L2 L3
def jJ:bx:=(ar (aC [(aC [(c3 (.int 0)),(c3 (.int 1))]),(af sP (aC [(c3 (.int 0))]) (au dg [(v3 0)])),(af sP (aC [(c3 (.int 0))]) (au dg [(v3 0)]))]))
def nH(Qw MG:ap):bx:=(ah (aq 2 (aK (y9 (af ae (v3 0) (c3 (.int 1))) (af ae (v3 0) (c3 (.int 2))) (af ae (v3 1) (c3 (.int 2)))) (.tp (.cons (.n 0) (.cons (.n 1) (.cons (.n 2) .nil)))) bN (au kf [(v3 1),(af b3 (v3 2) (v3 0))]) 3 []))
  (ar (aC [(ab MG [(af ae (v3 0) (c3 (.int 0))),(af ae (v3 1) (c3 (.int 0)))]),(ab Qw [(af ae (v3 0) (c3 (.int 1))),(af ae (v3 1) (c3 (.int 1)))]),(au aS [(v3 2)])])))
def cj(M_ Nk Qx s0 s1:ap):bx:=(ah (aq 3 (ab M_ [(v3 0)]))
  (ah (bE (aJ (v3 2)) (.n 4) (aq 3 (ab Nk [(v3 3),(ab Qx [(ab s1 [(v3 0),(af ae (v3 1) (c3 (.int 1))),(af ae (v3 4) (c3 (.int 1)))]),(af ae (v3 4) (c3 (.int 0)))])])))
  (ar (v3 3))))
def gq(M_ LX Nk P2 NP s0 s1:ap):bx:=(ah (aq 3 (af ae (v3 1) (c3 (.int 0))))
  (ah (aq 4 (ab M_ [(v3 0)]))
  (ah (br (aR (af (bn false) (v3 3) (c3 (.str "pay")))) (ar (aC [(af ae (v3 1) (c3 (.int 1))),(af ae (v3 4) (c3 (.int 1))),(af ae (v3 4) (c3 (.int 2)))])) aQ)
  (ah (br (aR (af (bn false) (v3 3) (c3 (.str "put")))) (ar (aC [(af ae (v3 4) (c3 (.int 0))),(ab LX [(v3 0),(af ae (v3 1) (c3 (.int 1))),(af ae (v3 1) (c3 (.int 2)))]),(af ae (v3 4) (c3 (.int 2)))])) aQ)
  (ah (br (aR (af (bn false) (v3 3) (c3 (.str "then")))) (ar (ab Nk [(ab s1 [(v3 0),(af ae (v3 1) (c3 (.int 1))),(af ae (v3 2) (c3 (.int 0)))]),(ab s1 [(v3 0),(af ae (v3 1) (c3 (.int 2))),(af ae (v3 2) (c3 (.int 1)))])])) aQ)
  (ah (br (aR (af (bn false) (v3 3) (c3 (.str "often")))) (ar (ab s0 [(v3 0),(v3 1),(v3 2)])) aQ)
  (ah (br (aR (af (jC true) (v3 3) (aC [(c3 (.str "either")),(c3 (.str "take"))]))) (ar (v3 4)) aQ)
  (ah (aq 5 (ab s1 [(v3 0),(ab P2 [(v3 1),(v3 2)]),(af ae (v3 2) (c3 (.int 1)))]))
  (ah (br (fZ (aR (af (bn false) (v3 3) (c3 (.str "take")))) (aR (af (bn false) (af ae (v3 2) (c3 (.int 0))) (c3 (.int 0))))) (ar (ab Nk [(ab NP [(v3 0),(v3 1)]),(v3 5)])) aQ)
  (ar (v3 5)))))))))))
end C
namespace Zv
open PySem
open Sem (wp)
end Zv
namespace L2
open PySem PySem.Spec PyProof.Rows
structure Qy(K:Zo)(x:Str)(st:Stmt)(T:Addr)(f:Addr)(fd:FuncData):Prop where
 ex:∃(oc:Value)(od:Option Addr)(kV doc pm:Value)(an:Option Addr)(cdv ct:Value)(osl:Array (Option Value)),
  fd=PySem.W.fnOf x x (b_ st) (bp st) (aL st) (.ref T) kV doc pm an cdv ct/\K.lookup f=some ⟨oc,od,.func fd,osl⟩/\PySem.W.codeIn K cdv x=true
 kp:PySem.W.keepIn K (.ref f)=true
section
variable {P:Program}{w:World}{K:Zo}{mg:Zr}{base:Heap}
def Qy.ok{x:Str}{st:Stmt}{T f:Addr}{fd:FuncData}{N ps:Zs}{k:Nat}{sp:Sp}(F:Qy K x st T f fd)(S:eu N ps (aL st))(len:∀vs H Q E,sp vs H Q E->vs.length=ps.length)
  (hbody:∀(cdv:Value)(A:Around)(outer:List Env)(s:Shared)(H:Hp)(vs:List V)(Q:VK)(E:XK),Room k (A.deeper (envOfC x (aL st) s.heap.objs.size f cdv))->sp vs H Q E->
   ∃t,OO (sy AN P w K mg base N x (aL st) f cdv A outer s H E).Q0 (bp st) t/\t { nx:=fun _ H'=>Q .non H',rt:=Q } (gV N vs) H):oP P w K mg base AN (k+1) f fd ps sp:=by
 obtain⟨oc,od,kV,doc,pm,an,cdv,ct,osl,rfl,lk,hcd⟩:=F.ex
 refine C7 lk hcd S len fun A outer s H vs Q E hr Qh=>?_
 obtain⟨t,h,q⟩:=hbody cdv A outer s H vs Q E hr Qh
 exact⟨t,h.Q0,q⟩
end
end L2
namespace L3
open PySem L2
section
variable {P:Program}{w:World}{K:Zo}{mg:Zr}{base:Heap}
def Jd{x:Str}{st:Stmt}{T f:Addr}{fd:FuncData}{N ps:Zs}{k:Nat}{t:bx}(F:Qy K x st T f fd)(S:eu N ps (aL st))
  (hbody:∀(cdv:Value)(A:Around)(outer:List Env)(s:Shared)(H:Hp)(E:XK),Room k (A.deeper (PyProof.Rows.envOfC x (aL st) s.heap.objs.size f cdv))->lr (GW P w K mg base N x st f cdv A outer s H E) (bp st) t) :
  Qj P w K mg base (k+1) f fd ps (aP N.length t):=
 ⟨F.ok S (fun vs H Q E h=>h.1) fun cdv A outer s H vs Q E hr ⟨hl,ps',S',Q3,E3,rv,rS,q,kk⟩=>⟨_,(hbody cdv A outer s H E hr).ok,am N.length ps',S',_,pY rv,rS,q,.no,fun σ3 S2 σ2 H2 h2 _ MF g2=>kk _ S2 _ H2 h2 .non MF g2,kk,fun _ _ _ _ h2=>h2.elim,fun _ _ _ _ h2=>h2.elim⟩⟩
structure Je(K:Zo)(mg:Zr)(x:Str)(st:Stmt)(ps:Zs)(T:Addr)(f:Addr)(fd:FuncData):Prop where
 F:Qy K x st T f fd
 b:Binds K fd ps []
 d:Binds K fd ps [.bool true]
 k:PySem.W.keepIn K (.ref f)=true
 m:mg x=some (.ref f)
end
section
variable {X:Cx}{e o:Expr}{es:List Expr}{te to:bd}{ts:List bd}{x:Str}{p pos apos cpos:Pos}{k:Nat}{f:Addr}{fd:FuncData}{ps:Zs}{sp:ap}
def iG(sp:ap)(ts:List bd):bd:=fun σ S Q E=>ao ts σ S (fun ps S1=>sp (ps++[.bl true]) S1 Q E) E
def BP(F:Qj X.prog X.w X.K X.mg X.base k f fd ps sp)(hr:Room k X.A)(hg:Gl X x)(hm:X.mg x=some (.ref f))(hk:PySem.W.keepIn X.K (.ref f)=true)(hb:Binds X.K fd ps [.bool true])(he:starEach (e::es) X.env=(false,eval e X.env)::starEach es X.env)(ha:mi X (e::es) ts)
  (hl:ts.length+1=ps.length:=by rfl) (hdb:(x == ("__debug__":Str))=false:=by decide) (hpl:(backTo pos (starEach es X.env)).any (·.1)=false:=by rfl):bB X (.Call (.Name x p) (e::es) [] pos) (iG sp ts):=
 ⟨bb (vo (dvs:=[.bl true]) F.ok hr hg hm hk hb (.cons rfl .nil) C_ ha.ok hdb he hpl) fun σ H Q ⟨σ3,S,Q3,E3,rσ,rS,h,xo,k⟩=>cH rσ rS h xo fun ps' S' vs H' hl' q rv M0 g=>by
  refine⟨by rw[VH,rv.length,hl'];exact hl,ps'++[.bl true],S',Q3,E3,rv.append (.cons (.bl true) .nil),M0,q,k.mono g⟩⟩
end
end L3
namespace L2
open PySem PySem.Spec PyProof.Rows
noncomputable def km(its:Zy)(z:Str)(u:Tok)(i:Nat)(_:Option Fin×Unit):Sem (ForInStep (Option Fin×Unit)):=
 match its[i]? with
 |some y=>do
  let __do_lift <-eqBool y (Value.str z u)
  if __do_lift=true then do
   let __do_lift <-retInt (i:Int)
   pure (ForInStep.done (some __do_lift,()))
  else pure (ForInStep.yield (none,()))
 |_=>pure (ForInStep.yield (none,()))
theorem sQ{prog:Program}{w:World}{A:Around}{E:Zq}{z:Str}{u:Tok}{its:Zy}{k:Nat}{Q:Option Fin×Unit->Shared->Prop}(hk:∃t,its[k]?=some (.str z t)) :
  ∀(m i:Nat)(s:Shared),i+m=its.size->i<=k->(∀j v,i<=j->j < k->its[j]?=some v->∃a t,v = .str a t/\a≠z)->(∀tk,Q (some (.done (.ret (.int k tk))),()) { s with toks:=s.toks+1 })->
  wpAny (model prog w) A (forIn (List.range' i m 1) ((none,()):Option Fin×Unit) (km its z u)) Q E s
 |0,i,s,hm,hi,h,q=>by
  obtain⟨t,hk⟩:=hk
  have:=(YE.mp hk).1
  omega
 |m+1,i,s,hm,hi,h,q=>by
  rw[List.range'_succ,YY]
  have hlt:i < its.size:=by omega
  by_cases e:i=k
  ·subst e
   obtain⟨t,hk⟩:=hk
   refine VG ?_
   unfold km
   rw[hk]
   refine VG (wpAny_eqBool_str ?_)
   rw[Wu rfl,if_pos rfl]
   exact VG (VG (wpAny_mkInt (VP (VP (VP (q _))))))
  ·have hv:=YL hlt
   obtain⟨a,t,ea,ne⟩:=h i _ (VM _) (by omega) hv
   refine VG ?_
   have eb:km its z u i (none,())=(do let __do_lift <-eqBool (Value.str a t) (Value.str z u);if __do_lift=true then do { let __do_lift <-retInt (i:Int);pure (ForInStep.done (some __do_lift,())) } else pure (ForInStep.yield (none,()))):=by
    unfold km
    rw[hv,ea]
   rw[eb]
   refine VG (wpAny_eqBool_str ?_)
   rw[Wc ne,if_neg (by decide)]
   exact VP (sQ hk m (i+1) s (by omega) (by omega) (fun j v h1 h2=>h j v (by omega) h2) q)
def ER(l:Addr)(its:Zy)(n:Nat)(dd:Option Addr)(sl:Array (Option Value))(z:Str)(u:Tok)(k:Nat)(hk:∃t,its[k]?=some (.str z t))(h:∀j v,j < k->its[j]?=some v->∃a t,v = .str a t/\a≠z) :
  Meets (Builtin.«tuple.index» ⟨[.ref l,.str z u],[]⟩) (fun _ R s=>s.heap.get? l=some { cls:=.type "tuple",dict:=dd,data:=.seq its n,slots:=sl }/\∀tk,R (.ok (.ret (.int k tk))) { s with toks:=s.toks+1 }):=
 .of_wp fun prog w A R s hh=>by
  obtain⟨hp,g,d,tk,os⟩:=s;obtain⟨hl,q⟩:=hh
  wp_walk using WT hl
  show wpAny _ _ (forIn (⟨0,min its.size its.size,1,Nat.one_pos⟩:Std.Legacy.Range) ((none,()):Option Fin×Unit) (km its z u)) _ _ _
  rw[Std.Legacy.Range.forIn_eq_forIn_range']
  have e:Std.Legacy.Range.size ⟨0,min its.size its.size,1,Nat.one_pos⟩=its.size:=by unfold Std.Legacy.Range.size;simp
  rw[e]
  exact sQ hk its.size 0 _ (by omega) (Ws _) (fun j v _ hj hv=>h j v hj hv) fun tk'=>VP ⟨_,rfl,q tk'⟩
section
variable {X:Cx}
noncomputable def BQ(K:Zo):V->List V->Hp->VK->Prop:=fun x vs H Q=>∃(l:Addr)(zs:Zs)(z:Str)(k:Nat),x = .ref l/\vs=[.str z]/\SqT K H l (zs.map V.str)/\zs[k]?=some z/\(∀j:Nat,j < k->zs[j]?≠some z)/\Q (.int k) H
def wX:Ef X "tuple.index" (BQ X.K):=by
 intro pins s σ H x vs v us Q I rx rv h
 obtain⟨l,zs,z,k,rfl,rfl,hT,hk,hf,q⟩:=h
 cases rx
 obtain⟨w,rfl,u,rfl⟩:=eI rv
 obtain⟨its,r1,p1,_⟩:=I.tuple hT
 obtain⟨⟨cls,dd,data,sl⟩,ho,hc,n,hd⟩:=id p1
 simp only at hc hd
 subst hc hd
 refine XU Yl ⟨_,ho,rfl⟩ PySem.F.entry_tuple_index (PySem.F.args_tuple_index_2 _ _) (ER l its.toArray n dd sl z u k ?_ ?_) ⟨ho,fun tk=>⟨.int k,H,I.tok _,⟨_,rfl⟩,q⟩⟩
 ·obtain⟨v,hv,t,rfl⟩:=r1.get (i:=k) (x:=.str z) (by rw[V2,hk];rfl)
  exact⟨t,by simpa using hv⟩
 ·intro j v hj hv
  have hjl:j < its.length:=by simpa using(YE.mp hv).1
  have hl:=r1.length
  rw[VI]at hl
  obtain⟨v',hv',t,rfl⟩:=r1.get (i:=j) (x:=.str (zs[j]'(by omega))) (by rw[V2,V8 (by omega)];rfl)
  have e:v = .str (zs[j]'(by omega)) t:=by
   have h1:its[j]?=some v:=by simpa using hv
   rw[hv']at h1;cases h1;rfl
  exact⟨_,t,e,fun h=>hf j hj (by rw[V8 (by omega),h])⟩
def BR{pins:Za}{σ:St}{H:Hp}{s:Shared}{a:Addr}{xs:List V}(I:Inv X pins σ H s)(h:SqT X.K H a xs):s.TypeIs (.ref a) "tuple"/\∀b,Value.ref a = .ref b->∃ob,s.heap.get? b=some ob/\ob.dict=none:=by
 rcases h with h|⟨o,its,n,hk,hc,hd,_⟩
 ·obtain⟨z,its,r,o,e,hd,hc,_⟩:=h.ok I.hok
  exact⟨⟨o,e,hc⟩,fun b q=>by cases q;exact⟨o,e,hd⟩⟩
 ·exact⟨⟨o,I.PY a o hk,hc⟩,fun b q=>by cases q;exact⟨o,I.PY _ o hk,hd⟩⟩
variable {o e:Expr}{es:List Expr}{to:TE}{t:TA}{name:Str}{apos cpos:Pos}{id:String}{r:V->List V->Hp->VK->Prop}
def Jf(K:Zo)(r:V->List V->Hp->VK->Prop)(to:TE)(t:TA):TE:=fun σ H Q=>to σ H fun x H1=>(∃a xs,x = .ref a/\SqT K H1 a xs)/\t σ H1 fun xs H2=>r x xs H2 Q
def ES(pa:PlainAttrs "tuple")(slot:Slot "tuple" name id)(hty:typeOf (.builtin id)=pure (.type "method_descriptor"))(hm:Ef X id r)(ho:PE X o to)(ha:PA X (e::es) t)
  (hbase:attributeBase o name X.env (eval o X.env)=eval o X.env:=by rfl)
  (hfew:((backTo cpos (starEach (e::es) X.env)).all (fun x=>!x.1)&&(backToKw cpos (keywordEach [] X.env)).all (fun x=>x.1.isSome)
   && decide ((e::es).length+([]:List Keyword).length+(if ([]:List Keyword).isEmpty then 0 else 1) < 30))=true:=by rfl)
  (hline:(apos.endLine == cpos.line)=true:=by rfl) (hs:starEach (e::es) X.env=(false,eval e X.env)::starEach es X.env:=by rfl) (hplain:(backTo cpos (starEach es X.env)).any (·.1)=false:=by rfl) :
  PE X (.Call (.Attribute o name apos) (e::es) [] cpos) (Jf X.K r to t):=by
 intro pins s σ H Q I h
 refine wpAny_Call_method_late hbase hfew hline rfl (J9 (ho pins s σ H _ I h) fun v s1 ⟨x,H1,I1,r1,⟨a,xs,ex,hT⟩,q1⟩=>?_)
 subst ex
 have r1':=r1
 cases r1
 obtain⟨h1,h2⟩:=BR I1 hT
 refine⟨"tuple",id,pa,slot,hty,h1,h2,?_⟩
 have hA:=ha cpos pins s1 σ H1 _ I1 q1
 rw[hs]at hA ⊢
 refine Yq (by show(false || (backTo cpos (starEach es X.env)).any (·.1))=false;rw[hplain]<;>rfl) (ZF ?_)
 exact J9 hA fun us s2 ⟨vs,H2,I2,r2,q2⟩=>hm pins s2 σ H2 _ vs _ us Q I2 r1' r2 q2
end
end L2
namespace L3
open PySem L2
section
variable {X:Cx}
noncomputable def jK:List PV->Option (List Str)
 |[]=>some []
 | .str z::r=>(jK r).map (z::·)
 |_::_=>none
theorem jL:∀zs:List Str,jK (zs.map PV.str)=some zs
 |[]=>rfl
 |z::r=>by show(jK (r.map PV.str)).map (z::·)=_;rw[jL r];rfl
theorem p8:∀{ps:List PV}{zs:Zs},jK ps=some zs->ps=zs.map PV.str
 |[],zs,h=>by cases h;rfl
 | .str z::r,zs,h=>by
  unfold jK at h
  cases e:jK r with
  |none=>rw[e]at h;cases h
  |some ws=>rw[e]at h;cases h;rw[p8 e];rfl
def fi:vF:=fun x ps S Q=>match x,ps with
 | .tup xs,[.str z]=>(match jK xs with|some zs=>∃k:Nat,zs[k]?=some z/\(∀j:Nat,j < k->zs[j]?≠some z)/\Q (.int k) S|none=>False)
 |_,_=>False
theorem p9{K:Zo}{H:Hp}:∀{vs:List V}{zs:Zs},Reps K H vs (zs.map PV.str)->vs=zs.map V.str
 |[],[],_=>rfl
 |v::vs,z::zs,.cons a r=>by cases a;rw[p9 r];rfl
def nI:yR X "tuple.index" fi:=⟨fun pins s σ H x xs v us Q I rx rs ⟨px,ps,S,Q3,r1,rp,rS,q,k⟩=>by
 unfold fi at q
 split at q
 ·split at q
  ·rename_i e
   obtain⟨j,hk,hf,q⟩:=q
   cases r1 with
   |tup hq rs'=>
    rw[p8 e]at rs'
    have ev:=p9 rs'
    subst ev
    cases rp with
    |cons b rr=>
     cases rr;cases b
     exact wX pins s σ H _ _ v us Q I rx rs ⟨_,_,_,j,rfl,rfl,hq,hk,hf,k _ S _ H q (.int _) rS .refl⟩
  ·exact q.elim
 ·exact q.elim⟩
variable {o e:Expr}{es:List Expr}{to:bd}{ts:List bd}{name:Str}{apos cpos:Pos}{id:String}
def uL(r:vF)(to:bd)(ts:List bd):bd:=fun σ S Q E=>to σ S (fun x S1=>match x with | .tup _=>ao ts σ S1 (fun ps S2=>r x ps S2 Q) E|_=>False) E
def y_{r:vF}(pa:PlainAttrs "tuple")(slot:Slot "tuple" name id)(hty:typeOf (.builtin id)=pure (.type "method_descriptor"))(hm:yR X id r)(hs:starEach (e::es) X.env=(false,eval e X.env)::starEach es X.env)(ho:bB X o to)(ha:mi X (e::es) ts)
  (hbase:attributeBase o name X.env (eval o X.env)=eval o X.env:=by rfl)
  (hfew:((backTo cpos (starEach (e::es) X.env)).all (fun x=>!x.1)&&(backToKw cpos (keywordEach [] X.env)).all (fun x=>x.1.isSome)
   && decide ((e::es).length+([]:List Keyword).length+(if ([]:List Keyword).isEmpty then 0 else 1) < 30))=true:=by rfl)
  (hline:(apos.endLine == cpos.line)=true:=by rfl) (hplain:(backTo cpos (starEach es X.env)).any (·.1)=false:=by rfl):bB X (.Call (.Attribute o name apos) (e::es) [] cpos) (uL r to ts):=
 ⟨bb (ES pa slot hty hm.ok ho.ok ha.ok hbase hfew hline hs hplain) fun σ H Q ⟨σ3,S,Q3,E3,rσ,rS,h,xo,k⟩=>⟨σ3,S,_,E3,rσ,rS,h,xo,fun x S1 v H1 h1 rx Kn g1=>by
  split at h1
  ·have Td:=rx
   cases rx with
   |tup hq rs=>exact⟨⟨_,_,rfl,hq⟩,cH (rσ.mono g1) Kn h1 (xo.mono g1) fun ps S2 vs H2 hl q rv MF g2=>⟨_,ps,S2,Q3,Td.mono g2,rv,MF,q,k.mono (g1.trans g2)⟩⟩
  ·exact h1.elim⟩⟩
end
section
variable {X:Cx}{a b:Expr}{ta tb:bd}{p pos:Pos}
def nJ(ta tb:bd):vG:=fun σ S R E=>ta σ S (fun v S1=>tb σ S1 (fun w S2=>match v,w with
 | .tup xs,.tup ys=>R ⟨bz xs ys,fun _=>True⟩ S2
 | .ref a,.ref b=>(match S2 a,S2 b with|some (.lst xs),some (.lst ys)=>R ⟨bz xs ys,fun S'=>S' a=some (.lst xs)/\S' b=some (.lst ys)⟩ S2|_,_=>False)
 | .ref a,.tup ys=>(match S2 a with|some (.lst xs)=>R ⟨bz xs ys,fun S'=>S' a=some (.lst xs)⟩ S2|_=>False)
 | .tup xs,.ref b=>(match S2 b with|some (.lst ys)=>R ⟨bz xs ys,fun S'=>S' b=some (.lst ys)⟩ S2|_=>False)
 |_,_=>False) E) E
def uM{elts:List Expr}{k0:Nat}{L6:Pos}(hs:starEach [a,b] X.env=[(false,eval a X.env),(false,eval b X.env)])(hs2:starEach [b] X.env=[(false,eval b X.env)])(hg:Gl X "zip")(hm:X.mg "zip" = none)(hv:bootBuiltins "zip" = some (.type "zip"))(ha:mi X [a,b] [ta,tb]) :
  xT X (.Tuple elts k0 L6) (.Call (.Name "zip" p) [a,b] [] pos) (nJ ta tb):=
 ⟨jD (yz hg hm hv ha.ok hs hs2) fun σ H R ⟨σ3,S,R3,E3,rσ,rS,h,xo,k⟩=>⟨σ3,S,_,E3,rσ,rS,h,xo,fun v S1 v' H1 h1 rv Kn g1=>⟨σ3,S1,_,E3,rσ.mono g1,Kn,h1,xo.mono g1,fun w S2 w' H2 h2 rw' MF g2=>by
  have L:∀{a:Addr}{xs:List PV},S2 a=some (.lst xs)->∃vs,m7 true X.K H2 a vs:=fun e=>let ⟨_,h,_⟩:=MF _ _ e;⟨_,SqL.of h⟩
  split at h2
  ·cases rv with
   |tup hq rs=>
    cases rw' with
    |tup hq2 Rb=>exact⟨false,false,_,_,rfl,⟨_,g2.t _ _ hq⟩,⟨_,hq2⟩,k _ S2 _ H2 h2 (kh (.tup (g2.t _ _ hq) (rs.mono g2)) (.tup hq2 Rb)) MF (g1.trans g2)⟩
  ·cases rv
   cases rw'
   split at h2
   ·rename_i ea eb
    exact⟨true,true,_,_,rfl,L ea,L eb,k _ S2 _ H2 h2 (kh (.lst fun _ q=>q.1) (.lst fun _ q=>q.2)) MF (g1.trans g2)⟩
   ·exact h2.elim
  ·cases rv
   cases rw' with
   |tup hq2 Rb=>
    split at h2
    ·rename_i ea
     exact⟨true,false,_,_,rfl,L ea,⟨_,hq2⟩,k _ S2 _ H2 h2 (kh (.lst fun _ q=>q) (.tup hq2 Rb)) MF (g1.trans g2)⟩
    ·exact h2.elim
  ·cases rv with
   |tup hq rs=>
    cases rw'
    split at h2
    ·rename_i eb
     exact⟨false,true,_,_,rfl,⟨_,g2.t _ _ hq⟩,L eb,k _ S2 _ H2 h2 (kh (.tup (g2.t _ _ hq) (rs.mono g2)) (.lst fun _ q=>q)) MF (g1.trans g2)⟩
    ·exact h2.elim
  ·exact h2.elim⟩⟩⟩
end
end L3
namespace C
open PySem L2 L3
def d5(M8 s0:ap):bx:=(ah (aq 3 (aY [(aC [(v3 0),(v3 2)])]))
  (ah (bE (dR (ab M8 [(v3 0)])) (.tp (.cons (.n 4) (.cons (.n 5) .nil))) (ah (aq 6 (cO (af (bn false) (af ae (v3 0) (c3 (.int 0))) (c3 (.str "take"))) (cO (af (bn false) (v3 4) (c3 (.int 0))) (af (jC true) (af ae (v3 0) (c3 (.int 1))) (v3 1)))))
  (bm (hZ "list" bI (v3 3) [(ab s0 [(v3 5),(v3 1),(cO (v3 2) (pR (v3 6)))])]))))
  (ar (v3 3))))
def iH(Kr Of:ap):bx:=(ah (bE (dR (af ae (v3 0) (c3 (.int 1)))) (.tp (.cons (.n 2) (.cons (.n 3) .nil))) (bE (dR (iG Kr [(af ae (v3 3) (c3 (.int 1))),(v3 1)])) (.tp (.cons (.n 4) (.cons (.n 5) .nil))) (ah (aq 6 (af ae (v3 5) (c3 (.int 0))))
  (br (fZ (aR (af ae (v3 5) (c3 (.int 1)))) (fZ (aR (af (bn false) (af ae (v3 6) (c3 (.int 0))) (c3 (.str "put")))) (aR (af (jC true) (af ae (v3 6) (c3 (.int 1))) (v3 1))))) (ar (aC [(uL fi (af ae (v3 0) (c3 (.int 0))) [(af ae (v3 6) (c3 (.int 1)))]),(v3 2),(ab Of [(af ae (v3 3) (c3 (.int 1))),(v3 4),(aC [])])])) aQ))))
  (ar (c3 .non)))
def lE(NM:ap):bx:=(ah (aq 1 (aY []))
  (ah (aq 2 (aY []))
  (ah (aq 3 (ab NM [(v3 0),(v3 2)]))
  (ah (ir (aR (af (vC true) (v3 3) (c3 .non))) (ah (bm (hZ "list" bA (v3 1) [(v3 3)]))
  (ah (bm (hZ "list" bA (v3 2) [(af ae (af ae (v3 0) (c3 (.int 0))) (af ae (v3 3) (c3 (.int 0))))]))
  (aq 3 (ab NM [(v3 0),(v3 2)])))))
  (ar (v3 1))))))
def jM(PJ:ap):bx:=(ar (aK (aJ (ab PJ [(v3 0)])) (.n 0) bN (af ae (af ae (v3 1) (c3 (.int 0))) (af ae (v3 0) (c3 (.int 0)))) 1 [0]))
def ck(s0 s1:ap):bx:=(ah (aq 2 (aY []))
  (ah (aq 3 (ab s1 [(af ae (v3 0) (c3 (.int 2))),(v3 1)]))
  (ah (bE (aJ (ab s1 [(af ae (v3 0) (c3 (.int 1))),(v3 1)])) (.n 4) (bm (hZ "list" bI (v3 2) [(aK (aJ (v3 3)) (.n 0) bN (aC [(v3 1),(v3 0)]) 1 [4])])))
  (ar (v3 2)))))
def fj(s0 s1:ap):bx:=(ah (br (aR (af (bn false) (af ae (v3 0) (c3 (.int 0))) (c3 (.str "then")))) (ar (ab s0 [(v3 0),(v3 1)])) aQ)
  (ah (br (aR (af (jC true) (af ae (v3 0) (c3 (.int 0))) (aC [(c3 (.str "either")),(c3 (.str "take"))]))) (ar (aY [(aC [])])) aQ)
  (ah (aq 2 (aK (aJ (ab s1 [(af ae (v3 0) (hW bX (c3 (.int 1)))),(v3 1)])) (.n 0) bN (aC [(c3 (.int 1)),(v3 0)]) 1 []))
  (ah (br (fZ (aR (af (bn false) (af ae (v3 0) (c3 (.int 0))) (c3 (.str "take")))) (aR (af (jC true) (af ae (v3 0) (c3 (.int 1))) (v3 1)))) (ar (v3 2)) aQ)
  (ar (af aN (aK (aJ (ab s1 [(af ae (v3 0) (hW bX (c3 (.int 2)))),(v3 1)])) (.n 0) bN (aC [(c3 (.int 0)),(v3 0)]) 1 []) (v3 2)))))))
def du(Kr:ap):bx:=(ah (aq 2 (aK (aJ (iG Kr [(v3 0),(v3 1)])) (.n 0) (aR (af (bn false) (af ae (af ae (v3 0) (c3 (.int 0))) (c3 (.int 0))) (c3 (.str "often")))) (v3 0) 1 []))
  (ar (aK (dR (v3 2)) (.tp (.cons (.n 0) (.cons (.n 1) .nil))) (aR (af ae (v3 1) (c3 (.int 1)))) (aC [(v3 0),(af ae (af ae (v3 1) (c3 (.int 0))) (c3 (.int 1)))]) 2 [])))
def eO(Kr Nu:ap):bx:=(ah (aq 2 (aK (aJ (iG Kr [(v3 0),(v3 1)])) (.n 0) (aR (ab Nu [(af ae (v3 0) (c3 (.int 0)))])) (v3 0) 1 []))
  (ah (aq 3 (aK (dR (v3 2)) (.tp (.cons (.n 0) (.cons (.n 1) .nil))) (aR (af ae (v3 1) (c3 (.int 1)))) (v3 0) 2 []))
  (ar (au aS [(af aN (v3 3) (aY [(au dg [(v3 2)])]))]))))
def eP(LF NV:ap):bx:=(ah (aq 1 (ab LF [(v3 0)]))
  (ar (au aS [(aK (aJ (af ae (v3 0) (c3 (.int 1)))) (.n 0) bN (ab NV [(af ae (v3 0) (c3 (.int 1))),(v3 1)]) 1 [1])])))
end C
namespace L3
open PySem L2 Xc
end L3
namespace L3
open PySem L2
end L3
namespace L2
open PySem PySem.Spec PyProof.Rows Xc
end L2
namespace L3
open PySem L2 Xc
section
variable {P:Program}{w:World}{K:Zo}{mg:Zr}{base:Heap}
structure aT(K:Zo)(mg:Zr)(x:Str)(st:Stmt)(ps:Zs):Prop where
 ex:∃f fd,Ia K mg x st ps f fd
structure Kb(P:Program)(w:World)(K:Zo)(mg:Zr)(base:Heap)(k:Nat)(x:Str)(n:Nat)(sp:ap):Prop where
 ex:∃f fd ps,ps.length=n/\Qj P w K mg base k f fd ps sp/\mg x=some (.ref f)/\PySem.W.keepIn K (.ref f)=true/\Binds K fd ps []
def b9{x:Str}{st:Stmt}{ps:Zs}{k n:Nat}{t:bx}{sp:ap}(N:Zs)(O:aT K mg x st ps)
  (hbody:∀(f:Addr)(cdv:Value)(A:Around)(outer:List Env)(s:Shared)(H:Hp)(E:XK),Room k (A.deeper (PyProof.Rows.envOfC x (aL st) s.heap.objs.size f cdv))->N.Nodup->lr (GW P w K mg base N x st f cdv A outer s H E) (bp st) t) (e:sp=aP N.length t)
  (hn:ps.length=n:=by rfl) (S:eu N ps (aL st):=by exact⟨rfl,rfl,rfl,by decide +kernel,rfl,by decide +kernel,by decide +kernel⟩):Kb P w K mg base (k+1) x n sp:=by
 subst e
 obtain⟨f,fd,o⟩:=O.ex
 exact⟨f,fd,ps,hn,Jx o.F S fun cdv A outer s H E hr=>hbody f cdv A outer s H E hr S.nd,o.m,o.k,o.b⟩
def JR{x:Str}{st:Stmt}{ps:Zs}{k:Nat}{t:bx}{sp:ap}{f:Addr}{fd:FuncData}(N:Zs)(o:Ia K mg x st ps f fd)
  (hbody:∀(f:Addr)(cdv:Value)(A:Around)(outer:List Env)(s:Shared)(H:Hp)(E:XK),Room k (A.deeper (PyProof.Rows.envOfC x (aL st) s.heap.objs.size f cdv))->N.Nodup->lr (GW P w K mg base N x st f cdv A outer s H E) (bp st) t) (e:sp=aP N.length t)
  (S:eu N ps (aL st):=by exact⟨rfl,rfl,rfl,by decide +kernel,rfl,by decide +kernel,by decide +kernel⟩):Qj P w K mg base (k+1) f fd ps sp:=by
 subst e
 exact Jx o.F S fun cdv A outer s H E hr=>hbody f cdv A outer s H E hr S.nd
def nK:ap:=fun _ _ _ _=>False
theorem Kb.zero{x:Str}{st:Stmt}{ps:Zs}{k n:Nat}(O:aT K mg x st ps)(hn:ps.length=n:=by rfl):Kb P w K mg base k x n nK:=by
 obtain⟨f,fd,o⟩:=O.ex
 exact⟨f,fd,ps,hn,.zero rfl,o.m,o.k,o.b⟩
theorem nL{b n:Nat}{x:Str}{st:Stmt}{ps:Zs}{r:Nat->ap}(O:aT K mg x st ps)(h:∀j,Kb P w K mg base (b+j) x n (r j)->Kb P w K mg base (b+j+1) x n (r (j+1)))(h0:r 0=nK)(hn:ps.length=n:=by rfl):∀j,Kb P w K mg base (b+j) x n (r j)
 |0=>by rw[h0];exact .zero O hn
 |j+1=>h j (nL O h h0 hn j)
end
section
variable {X:Cx}{a b e o:Expr}{es:List Expr}{ta tb te to:bd}{ts:List bd}{x c m f:Str}{p pos apos cpos:Pos}{j k n:Nat}{sp:ap}
def c4(O:Kb X.prog X.w X.K X.mg X.base k x n sp)(hr:Room j X.A)(ha:mi X (e::es) ts)(hj:k<=j:=by omega)(hl:ts.length=n:=by rfl)(hg:Gl X x:=by rfl)(he:starEach (e::es) X.env=(false,eval e X.env)::starEach es X.env:=by rfl)(hdb:(x == ("__debug__":Str))=false:=by decide)(hpl:(backTo pos (starEach es X.env)).any (·.1)=false:=by rfl) :
  bB X (.Call (.Name x p) (e::es) [] pos) (ab sp ts):=by
 obtain⟨f,fd,ps,hn,F,h1,h2,h3⟩:=O.ex
 exact yX F (hr.mono hj) hg h1 h2 h3 he ha (hl.trans hn.symm) hdb hpl
def cB{id:String}{r:sK}(hc:fO X (.builtin id) r)(hm:X.mg x=none)(ha:mi X (e::es) ts)(hg:Gl X x:=by rfl)(hv:bootBuiltins x=some (.builtin id):=by decide +kernel)(he:starEach (e::es) X.env=(false,eval e X.env)::starEach es X.env:=by rfl)
  (hnn:x ≠ "__name__":=by decide) (hdb:(x == ("__debug__":Str))=false:=by decide) (hpl:(backTo pos (starEach es X.env)).any (·.1)=false:=by rfl):bB X (.Call (.Name x p) (e::es) [] pos) (au r ts):=BD hc hg hm hv he ha hnn hdb hpl
def cT{id:String}{r:sK}(hc:fO X (.type id) r)(hm:X.mg x=none)(ha:mi X (e::es) ts)(hg:Gl X x:=by rfl)(hv:bootBuiltins x=some (.type id):=by decide +kernel)(he:starEach (e::es) X.env=(false,eval e X.env)::starEach es X.env:=by rfl)
  (hnn:x ≠ "__name__":=by decide) (hdb:(x == ("__debug__":Str))=false:=by decide) (hpl:(backTo pos (starEach es X.env)).any (·.1)=false:=by rfl):bB X (.Call (.Name x p) (e::es) [] pos) (au r ts):=BE hc hg hm hv he ha hnn hdb hpl
def lc{r:List Expr}(ha:bB X a ta)(hr:mi X r ts)(hs:starEach (a::r) X.env=(false,eval a X.env)::starEach r X.env:=by rfl):mi X (a::r) (ta::ts):=yJ hs ha hr
def l1(ha:bB X a ta)(hs:starEach [a] X.env=(false,eval a X.env)::starEach [] X.env:=by rfl):mi X [a] [ta]:=yJ hs ha cn
def aF{i:Int}{q:Nat}{p2:Pos}(hr:Room j X.A)(ha:bB X a ta)(hs:mM (.Constant (.int i) q p2):=by exact fun _ _=>rfl):bB X (.Subscript a (.Constant (.int i) q p2) pos) (af ae ta (c3 (.int i))):=GN (Jw (xU hr)) ha ai hs
def eA(hr:Room j X.A)(ha:bB X a ta)(hb:bB X b tb)(hs:mM b:=by exact fun _ _=>rfl):bB X (.Subscript a b pos) (af ae ta tb):=GN (Jw (xU hr)) ha hb hs
def e_(hr:Room j X.A)(ha:bB X a ta)(hb:bB X b tb):uB X (.Compare a [.Eq] [b] pos) (aR (af (bn false) ta tb)):=bq (nl (kl hr)) ha hb (bf _)
def BS(hr:Room j X.A)(ha:bB X a ta)(hb:bB X b tb):uB X (.Compare a [.NotEq] [b] pos) (aR (af (bn true) ta tb)):=bq (De (kl hr)) ha hb (bf _)
def s4(i:Nat){pos':Pos}(nd:X.N.Nodup)(he:bB X e te)(hi:X.N[i]?=some x:=by rfl)(hx:C3 X.env.scope x:=by first|exact Or.inl rfl|exact Or.inr rfl)(hs:swapsWith e (some (.Name x pos')) pos.line X.env=pure false:=by rfl)
  (hf:X.fn x=true\/X.env.scope.names.lookup x=some .local:=by first|exact .inl rfl|exact .inr rfl|assumption):vz X (.Assign [.Name x pos'] e pos) (aq i te):=GU nd hi hx he hs hf
def gn(i:Nat)(nd:X.N.Nodup)(hi:X.N[i]?=some x:=by rfl)(hx:C3 X.env.scope x:=by first|exact Or.inl rfl|exact Or.inr rfl)(hf:X.fn x=true\/X.env.scope.names.lookup x=some .local:=by first|exact .inl rfl|exact .inr rfl|assumption):BJ X (.Name x pos) (.n i):=JN i nd hi hx hf
def JS{px:Pos}{kvs:List (bo×Int)}{g:Expr}{tg:bd}(hr:Room j X.A)(hD:∃a,X.mg x=some (.ref a)/\KD X.prog X.w X.K a (kvs.map fun kv=>(kv.1,V.int kv.2)))(he:bB X e te)(hf:bB X g tg)(hg:Gl X x:=by rfl)(m:M2 X (.Name x px) "get" apos e g cpos:=by exact⟨rfl,rfl,rfl,rfl⟩)
  (hd:(x == ("__debug__":Str))=false:=by decide):bB X (.Call (.Attribute (.Name x px) "get" apos) [e,g] [] cpos) (vH kvs te tg):=let ⟨_,h1,h2⟩:=hD;EM (xU hr) hg h1 h2 he hf m hd
end
structure EU(T:String)(name:Str)(id:String):Prop where
 pa:PlainAttrs T
 slot:Slot T name id
 ty:typeOf (.builtin id)=pure (.type "method_descriptor")
section
variable {X:Cx}{e o:Expr}{es:List Expr}{to:bd}{ts:List bd}{name:Str}{T id:String}{p pos apos cpos:Pos}{r:vF}
def cK:EU "list" "append" "list.append":=⟨Y8,PySem.F.slot_list_append,PySem.F.type_list_append⟩
def fP:EU "list" "extend" "list.extend":=⟨Y8,PySem.F.slot_list_extend,PySem.F.type_list_extend⟩
def EV:EU "list" "pop" "list.pop":=⟨Y8,PySem.F.slot_list_pop,PySem.F.type_list_pop⟩
def vK:EU "str" "join" "str.join":=⟨PySem.F.plainAttrs_str,PySem.F.slot_str_join,PySem.F.type_str_join⟩
def zb:EU "str" "index" "str.index":=⟨PySem.F.plainAttrs_str,PySem.F.slot_str_index,PySem.F.type_str_index⟩
def ua(k:EU T name id)(hm:yR X id r)(ho:bB X o to)(ha:mi X (e::es) ts)(hs:starEach (e::es) X.env=(false,eval e X.env)::starEach es X.env:=by rfl)
  (hbase:attributeBase o name X.env (eval o X.env)=eval o X.env:=by rfl)
  (hfew:((backTo cpos (starEach (e::es) X.env)).all (fun x=>!x.1)&&(backToKw cpos (keywordEach [] X.env)).all (fun x=>x.1.isSome)
   && decide ((e::es).length+([]:List Keyword).length+(if ([]:List Keyword).isEmpty then 0 else 1) < 30))=true:=by rfl)
  (hline:(apos.endLine == cpos.line)=true:=by rfl) (hplain:(backTo cpos (starEach es X.env)).any (·.1)=false:=by rfl):bB X (.Call (.Attribute o name apos) (e::es) [] cpos) (hZ T r to ts):=IW k.pa k.slot k.ty hm hs ho ha hbase hfew hline hplain
def Jg(k:EU T name id)(hm:yR X id r)(ho:bB X o to)
  (hbase:attributeBase o name X.env (eval o X.env)=eval o X.env:=by rfl) (hline:(apos.endLine == cpos.line)=true:=by rfl):bB X (.Call (.Attribute o name apos) [] [] cpos) (hZ T r to []):=GS k.pa k.slot k.ty hm ho hbase hline
end
section
variable {X:Cx}{tg iter elt:Expr}{ifs:List Expr}{scope:Scope}{pos:Pos}{ti:vG}{g:Tg}{tc:k8}{te:bd}
def p_(fs:Zs)(own:Nat)(fr:List Nat)(N:Zs)(hi:xT X tg iter ti)(hg:∀B,BJ (X.MU N scope fs B) tg g)(hf:∀B,FW (X.MU N scope fs B) ifs tc)(he:∀B,bB (X.MU N scope fs B) elt te)
  (Qu:g.under own=true:=by rfl) (hc:X.calm=true:=by rfl) (hclos:closureFor scope X.env=pure (di X.env fs):=by rfl) (hcell:∀y∈scope.names,y.2 ≠ .cell:=by decide +kernel) (hkind:scope.kind = .function:=by rfl)
  (hnames:∀x∈scope.names,x.2 = .local->scope.names.lookup x.1=some .local:=by decide +kernel) (hcl:cM X.env fs:=by repeat' first|exact trivial|exact⟨_,rfl⟩|constructor) (hhas:qI (relabel scope X.env).names (di X.env fs)=true:=by rfl)
  (hlen:N.length=own+fr.length:=by rfl) (hN:(N.drop own).map some=fr.map (fun j=>X.N[j]?):=by rfl) (hF:Lp X.env scope (di X.env fs) (N.drop own):=by repeat' first|exact trivial|exact .inl rfl|exact .inr rfl|exact rfl|apply And.intro)
  (hs:∀x,foldedSetIterable iter X.env x=pure x:=by intro _;rfl):bB X (.ListComp elt [⟨tg,iter,ifs,0⟩] scope pos) (aK ti g tc te own fr):=EI fs own fr N Qu hc hclos hcell hkind hnames hcl hhas hlen hN hF hi hg hf he hs
def zc(fs:Zs)(own:Nat)(fr:List Nat)(N:Zs)(i:Nat){y:Str}{py spos:Pos}(hX:X.N.Nodup)(hi:xT X tg iter ti)(hg:∀B,BJ (X.MU N scope fs B) tg g)(hf:∀B,FW (X.MU N scope fs B) ifs tc)(he:∀B,bB (X.MU N scope fs B) elt te)
  (hix:X.N[i]?=some y:=by rfl) (hy:X.env.scope.names.lookup y=some .local:=by rfl) (hsw:swapsWith (.ListComp elt [⟨tg,iter,ifs,0⟩] scope pos) (some (.Name y py)) spos.line X.env=pure true:=by rfl)
  (Qu:g.under own=true:=by rfl) (hc:X.calm=true:=by rfl) (hclos:closureFor scope X.env=pure (di X.env fs):=by rfl) (hcell:∀y∈scope.names,y.2 ≠ .cell:=by decide +kernel) (hkind:scope.kind = .function:=by rfl)
  (hnames:∀x∈scope.names,x.2 = .local->scope.names.lookup x.1=some .local:=by decide +kernel) (hcl:cM X.env fs:=by repeat' first|exact trivial|exact⟨_,rfl⟩|constructor) (hhas:qI (relabel scope X.env).names (di X.env fs)=true:=by rfl)
  (hlen:N.length=own+fr.length:=by rfl) (hN:(N.drop own).map some=fr.map (fun j=>X.N[j]?):=by rfl) (hF:Lp X.env scope (di X.env fs) (N.drop own):=by repeat' first|exact trivial|exact .inl rfl|exact .inr rfl|exact rfl|apply And.intro)
  (hs:∀x,foldedSetIterable iter X.env x=pure x:=by intro _;rfl):vz X (.Assign [.Name y py] (.ListComp elt [⟨tg,iter,ifs,0⟩] scope pos) spos) (aq i (aK ti g tc te own fr)):=EJ fs own fr N hX hix hy hsw Qu hc hclos hcell hkind hnames hcl hhas hlen hN hF hi hg hf he hs
end
section
variable {X:Cx}{e:Expr}{es:List Expr}{ts:List bd}{x:Str}{p pos cpos:Pos}{ks:Zs}{j:Nat}
def FX{n:String}(hm:X.mg x=none)(hg:Gl X x:=by rfl)(hv:bootBuiltins x=some (.type n):=by decide +kernel)(hn:x ≠ "__name__":=by decide)(hd:(x == ("__debug__":Str))=false:=by decide):bB X (.Name x pos) (c3 (.ty n)):=IU hg hm hv hn hd
end
section
variable {P:Program}{w:World}{K:Zo}{mg:Zr}{base:Heap}
structure sR(K:Zo)(mg:Zr)(x:Str)(st:Stmt)(ps:Zs):Prop where
 ex:∃T f fd,Je K mg x st ps T f fd
structure Qz(P:Program)(w:World)(K:Zo)(mg:Zr)(base:Heap)(k:Nat)(x:Str)(n:Nat)(sp:ap):Prop where
 ex:∃f fd ps,ps.length=n/\Qj P w K mg base k f fd ps sp/\mg x=some (.ref f)/\PySem.W.keepIn K (.ref f)=true/\Binds K fd ps []/\Binds K fd ps [.bool true]
def JT{x:Str}{st:Stmt}{ps:Zs}{k n:Nat}{t:bx}{sp:ap}(N:Zs)(O:sR K mg x st ps)
  (hbody:∀(f:Addr)(cdv:Value)(A:Around)(outer:List Env)(s:Shared)(H:Hp)(E:XK),Room k (A.deeper (PyProof.Rows.envOfC x (aL st) s.heap.objs.size f cdv))->N.Nodup->lr (GW P w K mg base N x st f cdv A outer s H E) (bp st) t) (e:sp=aP N.length t)
  (hn:ps.length=n:=by rfl) (S:eu N ps (aL st):=by exact⟨rfl,rfl,rfl,by decide +kernel,rfl,by decide +kernel,by decide +kernel⟩):Qz P w K mg base (k+1) x n sp:=by
 subst e
 obtain⟨T,f,fd,o⟩:=O.ex
 exact⟨f,fd,ps,hn,Jd o.F S fun cdv A outer s H E hr=>hbody f cdv A outer s H E hr S.nd,o.m,o.k,o.b,o.d⟩
theorem Qz.zero{x:Str}{st:Stmt}{ps:Zs}{k n:Nat}(O:sR K mg x st ps)(hn:ps.length=n:=by rfl):Qz P w K mg base k x n nK:=by
 obtain⟨T,f,fd,o⟩:=O.ex
 exact⟨f,fd,ps,hn,.zero rfl,o.m,o.k,o.b,o.d⟩
theorem G4{b n:Nat}{x:Str}{st:Stmt}{ps:Zs}{r:Nat->ap}(O:sR K mg x st ps)(h:∀j,Qz P w K mg base (b+j) x n (r j)->Qz P w K mg base (b+j+1) x n (r (j+1)))(h0:r 0=nK)(hn:ps.length=n:=by rfl):∀j,Qz P w K mg base (b+j) x n (r j)
 |0=>by rw[h0];exact .zero O hn
 |j+1=>h j (G4 O h h0 hn j)
end
section
variable {X:Cx}{e:Expr}{es:List Expr}{ts:List bd}{x:Str}{p pos:Pos}{j k n:Nat}{sp:ap}
def cD(O:Qz X.prog X.w X.K X.mg X.base k x n sp)(hr:Room j X.A)(ha:mi X (e::es) ts)(hj:k<=j:=by omega)(hl:ts.length+1=n:=by rfl)(hg:Gl X x:=by rfl)(he:starEach (e::es) X.env=(false,eval e X.env)::starEach es X.env:=by rfl)(hdb:(x == ("__debug__":Str))=false:=by decide)(hpl:(backTo pos (starEach es X.env)).any (·.1)=false:=by rfl) :
  bB X (.Call (.Name x p) (e::es) [] pos) (iG sp ts):=by
 obtain⟨f,fd,ps,hn,F,h1,h2,h3,h4⟩:=O.ex
 exact BP F (hr.mono hj) hg h1 h2 h4 he ha (hl.trans hn.symm) hdb hpl
def JU(O:Qz X.prog X.w X.K X.mg X.base k x n sp)(hr:Room j X.A)(ha:mi X (e::es) ts)(hj:k<=j:=by omega)(hl:ts.length=n:=by rfl)(hg:Gl X x:=by rfl)(he:starEach (e::es) X.env=(false,eval e X.env)::starEach es X.env:=by rfl)(hdb:(x == ("__debug__":Str))=false:=by decide)(hpl:(backTo pos (starEach es X.env)).any (·.1)=false:=by rfl) :
  bB X (.Call (.Name x p) (e::es) [] pos) (ab sp ts):=by
 obtain⟨f,fd,ps,hn,F,h1,h2,h3,h4⟩:=O.ex
 exact yX F (hr.mono hj) hg h1 h2 h3 he ha (hl.trans hn.symm) hdb hpl
end
end L3
namespace L2
open PySem PySem.Spec PyProof.Rows
end L2
namespace L3
open PySem L2
end L3
namespace CY
open PySem L2 L3
end CY
namespace L3
open PySem L2
end L3
namespace L2
open PySem PySem.Spec PyProof.Rows
end L2
namespace L3
open PySem L2
end L3
namespace L2
open PySem PySem.Spec PyProof.Rows
end L2
namespace L3
open PySem L2
end L3
namespace L2
open PySem PySem.Spec PyProof.Rows
end L2
namespace L3
open PySem L2
end L3
namespace Md
open PySem PySem.Spec PyProof.Rows
end Md
namespace L2
open PySem PySem.Spec PyProof.Rows
end L2
namespace L3
open PySem L2
end L3
namespace CW
open PySem L2 L3
def uN:bx:=(ar (af uK (af bM (af ae (v3 0) (c3 (.int 0))) (af ae (v3 1) (c3 (.int 1)))) (af bM (af ae (v3 1) (c3 (.int 0))) (af ae (v3 0) (c3 (.int 1))))))
def lF(Pg:ap):bx:=(ah (aq 1 (af ae (v3 0) (c3 (.int 0))))
  (ah (bE (aJ (v3 0)) (.n 2) (br (aR (ab Pg [(v3 1),(v3 2)])) (aq 1 (v3 2)) aQ))
  (ar (v3 1))))
def jN(MG:ap):bx:=(ah (aq 1 (aC [(c3 (.int 0)),(c3 (.int 1))]))
  (ah (bE (aJ (v3 0)) (.n 2) (aq 1 (ab MG [(v3 1),(v3 2)])))
  (ar (v3 1))))
end CW
namespace CL
open PySem L2 L3
def cU(Nv:ap):bx:=(ar (af aN (aY [(aC [(c3 .non),(v3 0)])]) (ab Nv [(v3 0),(v3 1)])))
def qZ(LF Nl OV Ph:ap):bx:=(ah (aq 1 (ab LF [(v3 0)]))
  (ah (aq 2 (aY []))
  (ah (bE (dR (af ae (v3 0) (c3 (.int 1)))) (.tp (.cons (.n 3) (.cons (.n 4) .nil))) (bE (aJ (ab Nl [(af ae (v3 4) (c3 (.int 1))),(v3 1)])) (.tp (.cons (.n 5) (.cons (.n 6) .nil))) (bE (aJ (ab OV [(v3 6),(v3 1)])) (.n 7) (ah (aq 8 (ab Ph [(af ae (v3 0) (c3 (.int 0))),(v3 6),(v3 7)]))
  (bm (hZ "list" bA (v3 2) [(aC [(v3 3),(v3 5),(af ae (v3 8) (c3 (.int 0))),(af ae (v3 8) (c3 (.int 1))),(v3 7)])]))))))
  (ar (au aS [(v3 2)])))))
def gr(Ku:ap):bx:=(ar (ab Ku [(af bM (af ae (v3 0) (c3 (.int 0))) (v3 1)),(af ae (v3 0) (c3 (.int 1)))]))
def cV(s0:ap):bx:=(ah (br (oM (aR (au qP [(v3 1),(c3 (.ty "tuple"))])) (aR (au qP [(v3 0),(c3 (.ty "tuple"))]))) (ah (br (oM (oU (aR (au qP [(v3 0),(c3 (.ty "tuple"))]))) (oM (oU (aR (au qP [(v3 1),(c3 (.ty "tuple"))]))) (aR (af (bn true) (au dg [(v3 0)]) (au dg [(v3 1)]))))) (ar (c3 (.bl false))) aQ)
  (ar (au BF [(aK (nJ (v3 0) (v3 1)) (.tp (.cons (.n 0) (.cons (.n 1) .nil))) bN (ab s0 [(v3 0),(v3 1)]) 2 [])]))) aQ)
  (ar (cO (af (bn false) (v3 0) (v3 1)) (af (bn false) (au qP [(v3 0),(c3 (.ty "bool"))]) (au qP [(v3 1),(c3 (.ty "bool"))])))))
def jO:bx:=(ah (aq 2 (af bM (aY [(c3 (.int 0))]) (au dg [(v3 1)])))
  (ah (br (aR (af (bn false) (af ae (v3 0) (c3 (.int 0))) (c3 (.str "put")))) (gf (af ae (v3 0) (c3 (.int 2))) (v3 2) (uL fi (v3 1) [(af ae (v3 0) (c3 (.int 1)))])) aQ)
  (ar (aC [(af ae (aY [(aC [(c3 (.int 0)),(c3 (.int 1))]),(af ae (v3 0) (hW bX (c3 (.int 1))))]) (au np [(af (bn false) (af ae (v3 0) (c3 (.int 0))) (c3 (.str "pay")))])),(au aS [(v3 2)]),(aC [])]))))
def fD:bx:=(ah (aq 4 (aY []))
  (ah (bE (aJ (v3 0)) (.tp (.cons (.n 5) (.cons (.n 6) (.cons (.n 7) .nil)))) (ah (aq 8 (af bM (aY [(c3 (.int 0))]) (au dg [(v3 2)])))
  (ah (br (aR (af (vC true) (v3 3) (c3 .non))) (gf (af ae (v3 3) (c3 (.int 1))) (v3 8) (uL fi (v3 2) [(af ae (v3 3) (c3 (.int 0)))])) aQ)
  (bm (hZ "list" bA (v3 4) [(aC [(v3 5),(au aS [(aK (nJ (v3 6) (v3 8)) (.tp (.cons (.n 0) (.cons (.n 1) .nil))) bN (af b3 (v3 0) (v3 1)) 2 [])]),(aC [(v3 1),(v3 7)])])])))))
  (ar (v3 4))))
def fE(MH Lj Pi s0:ap):bx:=(ah (br (aR (af (bn false) (af ae (v3 0) (c3 (.int 0))) (c3 (.str "then")))) (ah (aq 3 (aY []))
  (ah (bE (aJ (ab s0 [(af ae (v3 0) (c3 (.int 1))),(v3 1),(v3 2)])) (.n 4) (bE (aJ (ab s0 [(af ae (v3 0) (c3 (.int 2))),(v3 1),(v3 2)])) (.n 5) (ah (aq 6 (au aS [(aK (ki (af ae (v3 4) (c3 (.int 1))) (af ae (v3 5) (c3 (.int 1)))) (.tp (.cons (.n 0) (.cons (.n 1) .nil))) bN (af aN (v3 0) (v3 1)) 2 [])]))
  (bm (hZ "list" bA (v3 3) [(aC [(ab MH [(af ae (v3 4) (c3 (.int 0))),(af ae (v3 5) (c3 (.int 0)))]),(v3 6),(aC [(af ae (v3 4) (c3 (.int 2))),(af ae (v3 5) (c3 (.int 2)))])])])))))
  (ar (v3 3)))) aQ)
  (ah (br (aR (af (bn false) (af ae (v3 0) (c3 (.int 0))) (c3 (.str "either")))) (ah (aq 7 (ab Lj [(ab s0 [(af ae (v3 0) (c3 (.int 1))),(v3 1),(v3 2)]),(c3 (.int 0)),(v3 1),(c3 .non)]))
  (ar (af aN (v3 7) (ab Lj [(ab s0 [(af ae (v3 0) (c3 (.int 2))),(v3 1),(v3 2)]),(c3 (.int 1)),(v3 1),(c3 .non)])))) aQ)
  (ah (br (aR (af (bn false) (af ae (v3 0) (c3 (.int 0))) (c3 (.str "take")))) (ah (aq 7 (aY []))
  (ah (br (aR (af (jC false) (af ae (v3 0) (c3 (.int 1))) (v3 2))) (aq 7 (ab Lj [(ab s0 [(af ae (v3 0) (c3 (.int 3))),(v3 1),(v3 2)]),(c3 (.int 0)),(v3 1),(cP (v3 0) (t_ (c3 (.int 1))) (t_ (c3 (.int 3))))])) aQ)
  (ar (af aN (v3 7) (ab Lj [(ab s0 [(af ae (v3 0) (c3 (.int 4))),(v3 1),(v3 2)]),(c3 (.int 1)),(v3 1),(c3 .non)]))))) aQ)
  (ar (aY [(ab Pi [(v3 0),(v3 1)])])))))
def fF(L7 s0:ap):bx:=(ah (aq 5 (aY []))
  (ah (br (aR (af (bn false) (af ae (v3 0) (c3 (.int 0))) (c3 (.str "often")))) (ah (gf (af aN (af ae (v3 3) (c3 (.int 0))) (c3 (.int 1))) (v3 3) (c3 (.int 0)))
  (ah (br (aR (v3 4)) (aq 5 (aK (aJ (ab L7 [(af ae (v3 0) (c3 (.int 1))),(v3 1),(v3 2)])) (.n 0) bN (af aN (aC [(af b3 (af ae (v3 1) (c3 (.int 0))) (c3 (.int 1)))]) (v3 0)) 1 [3])) aQ)
  (ar (af aN (v3 5) (ab s0 [(af ae (v3 0) (c3 (.int 1))),(v3 1),(v3 2),(v3 3),(v3 4)]))))) aQ)
  (ah (br (aR (af (jC false) (af ae (v3 0) (c3 (.int 0))) (aC [(c3 (.str "then")),(c3 (.str "either")),(c3 (.str "take"))]))) (ah (aq 5 (ab s0 [(af ae (v3 0) (hW bX (c3 (.int 2)))),(v3 1),(v3 2),(v3 3),(cO (v3 4) (oV (af (bn true) (af ae (v3 0) (c3 (.int 0))) (c3 (.str "take"))) (af (jC false) (af ae (v3 0) (c3 (.int 1))) (v3 2))))]))
  (ar (af aN (v3 5) (ab s0 [(af ae (v3 0) (hW bX (c3 (.int 1)))),(v3 1),(v3 2),(v3 3),(v3 4)])))) aQ)
  (ar (v3 5)))))
def gu(NQ L7 Og:ap):bx:=(ah (aq 1 (ab NQ [(v3 0)]))
  (ah (aq 2 (aY []))
  (ah (bE (dR (af ae (v3 0) (c3 (.int 1)))) (.tp (.cons (.n 3) (.cons (.n 4) .nil))) (ah (bm (hZ "list" bI (v3 2) [(aK (aJ (ab L7 [(af ae (v3 4) (c3 (.int 1))),(af ae (v3 0) (c3 (.int 0))),(v3 1)])) (.n 0) bN (af aN (aC [(v3 1),(c3 .non)]) (v3 0)) 1 [3])]))
  (bm (hZ "list" bI (v3 2) [(aK (aJ (ab Og [(af ae (v3 4) (c3 (.int 1))),(af ae (v3 0) (c3 (.int 0))),(v3 1),(aY [(c3 (.int 0))]),(c3 (.bl true))])) (.n 0) bN (af aN (aC [(v3 1)]) (v3 0)) 1 [3])]))))
  (ar (v3 2)))))
def jP(Pj MV:ap):bx:=(ar (ab Pj [(aK (nJ (v3 0) (v3 1)) (.tp (.cons (.n 0) (.cons (.n 1) .nil))) bN (ab MV [(aC [(v3 0),(c3 (.int 1))]),(v3 1)]) 2 [])]))
end CL
namespace PySem
open PyProof.Rows
namespace F
def jr:entryFor table "dict.update.loop" = some Builtin.«dict.update.loop»:=entryFor_of_tree (by kernel_rfl)
def dH:plainId "dict.update.loop" = true:=by decide +kernel
def uO:typeLookup (.type "list") "keys" = pure none:=by rw[Yb,Xj];kernel_rfl
end F
def BU{prog:Program}{w:World}{A:Around}{E:Zq}{s:Shared}{a:Addr}{o:Obj}{xs:Zy}{k:Nat}{Q:Option Value->Shared->Prop}
  (hx:s.heap.get? a=some o) (hc:o.cls = .type "list") (hdat:o.data = .seq xs k) (hd:o.dict=none) (hA:A.handled=none)
  (hQ:∀h' tk,(∀b ob,s.heap.get? b=some ob->h'.get? b=some ob)->Q none { s with heap:=h',toks:=tk }) :
  wpAny (model prog w) A (getAttr? (.ref a) "keys") Q E s:=by
 obtain⟨c,dct,dat,sl⟩:=o
 simp only at hc hdat hd
 subst hc hdat hd
 obtain⟨hp,g,d,tk,os⟩:=s
 have hT:∀tk',(⟨hp,g,d,tk',os⟩:Shared).TypeIs (.ref a) "list":=fun _=>⟨_,hx,rfl⟩
 have f1:=sub_AttributeError
 have f3:=YU.lookup
 have f4:=YU.bind (.ref a)
 have f5:=am_list_getattr_none
 unfold getAttr? getAttrBy? getAttrBy
 repeat (any_goals (first|assumption|exact hT _|((with_reducible show wpAny _ _ (call (Value.builtin "list.__getattribute__") _ _) _ _ _);refine XU YU (hT _) am_entry_list_getattribute (F.args_list_getattribute_2 _ _) (meets_getattribute_miss_list a xs k sl "keys" _ F.uO (by decide +kernel)) ⟨hx,hA,fun h' tk' e hx'=>?_⟩)|wp_step))
 obtain⟨t',u',he⟩:=hx'.there
 show wpAny _ _ (getattributeRaised _ _ _ _ _ _ _) _ _ _
 unfold getattributeRaised
 repeat (any_goals (first|assumption|wp_step))
 exact hQ _ _ hx'.keeps
section
variable {prog:Program}{w:World}{K:Type} [DecidableEq K] {knd:KeyKind prog w K} {A:Around} {E:Zq} {s:Shared}
def NT(knd:KeyKind prog w K)(h:Heap)(it d:Addr)(items:Zy)(rs:List (K×Value)):Prop:=rs.length=items.size/\∀(j:Nat)(kv:K×Value),rs[j]?=some kv->∃t key,items[j]?=some (.ref t)/\IsTup h t #[key,kv.2]/\knd.is kv.1 key=true/\t≠it/\t≠d
def NT.at{h h':Heap}{it d:Addr}{items:Zy}{rs:List (K×Value)}(x:NT knd h it d items rs)(k:∀b o,b≠it->b≠d->h.get? b=some o->h'.get? b=some o):NT knd h' it d items rs:=⟨x.1,fun j kv e=>by
 obtain⟨t,key,h1,⟨o,ho,r⟩,h3,h4,h5⟩:=x.2 j kv e
 exact⟨t,key,h1,⟨o,k t o h4 h5 ho,r⟩,h3,h4,h5⟩⟩
theorem vL{it l d:Addr}{items:Zy}{rs:List (K×Value)}(hh:A.handled=none)(hli:l≠it)(RF:l≠d)(hid:it≠d)(hz:items.size<=sizeLine):∀(m i:Nat)(s:Shared)(kvs:List (K×Value)){R:Result->Shared->Prop},i+m=items.size->s.heap.IsListIter it l i->s.heap.IsList l items->NT knd s.heap it d items rs->s.heap.DictOf knd d kvs->kvs.length<=i->
  (∀h' tk,h'.DictOf knd d (merged kvs (rs.drop i))->(∀b o,b≠it->b≠d->s.heap.get? b=some o->h'.get? b=some o)->R (.ok (.ret .none)) { s with heap:=h',toks:=tk })->
  codeAny (model prog w) A (.builtin "dict.update.loop" ⟨[.ref d,.ref it,rawInt i,.none],[]⟩) R s
 |0,i,s,kvs,R,hm,hit,hl,hp,hd,hk,hR=>by
  refine codeAny_builtin F.jr ?_
  rw[ZK F.dH _]
  unfold Builtin.«dict.update.loop»
  show wpAny _ A.in1 (pyNext (.ref it) >>= _) _ _ s
  refine VG (wpAny_pyNext_list_end hh hit hl (by rw[Yr (by omega)]) fun h' he=>?_)
  dsimp only
  show wpAny _ _ (Builtin.Dict.addKeywords d [] >>= _) _ _ _
  have ed:rs.drop i=[]:=List.drop_of_length_le (by rw[hp.1];omega)
  refine VG (VP (VP (hR h' s.toks ?_ fun b o hb _ e=>he b o hb e)))
  rw[ed]
  obtain⟨o,es,ep,ho,r⟩:=hd
  exact⟨o,es,ep,he d o (Xl hid) ho,r⟩
 |m+1,i,s,kvs,R,hm,hit,hl,hp,hd,hk,hR=>by
  have hlt:i < items.size:=by omega
  refine codeAny_builtin F.jr ?_
  rw[ZK F.dH _]
  unfold Builtin.«dict.update.loop»
  show wpAny _ A.in1 (pyNext (.ref it) >>= _) _ _ s
  have T5:i < rs.length:=by rw[hp.1];exact hlt
  have er:=V8 T5
  have T6:=List.drop_eq_getElem_cons T5
  generalize rs[i]=kv at er T6
  obtain⟨t,key,e1,e2,e3,e4,e5⟩:=hp.2 i _ er
  refine VG (wpAny_pyNext_list_item hit hl e1 fun h1 Te hs1=>?_)
  dsimp only
  refine VG (Yg ?_)
  have t1:IsTup h1 t #[key,kv.2]:=let ⟨o,ho,r⟩:=e2;⟨o,(hs1.2 t e4).trans ho,r⟩
  have d1:h1.DictOf knd d kvs:=let ⟨o,es,ep,ho,r⟩:=hd;⟨o,es,ep,(hs1.2 d (Xl hid)).trans ho,r⟩
  refine VG (wpAny_tryCatch ?_)
  unfold Builtin.Dict.pairItems
  refine VG (Zc t1.typeIs ?_)
  rw[if_pos (by decide)]
  obtain⟨ot,Sk,_,nt,hdt⟩:=t1
  refine VG (WO Sk hdt ?_)
  refine VP ?_
  show wpAny _ _ (holding [key,kv.2] (dictSet d key kv.2)) _ _ _
  refine Yg (wpAny_dictSet_pairs e3 d1 (fun h2 d2 hs2=>?_) (by omega))
  refine VP ⟨plainId_quiet F.dH _,?_⟩
  have Rp:∀b o,b≠it->b≠d->s.heap.get? b=some o->h2.get? b=some o:=fun b o hb hb2 e=>(hs2.2 b hb2).trans ((hs1.2 b hb).trans e)
  refine vL hh hli RF hid hz m (i+1) _ _ (by omega) ?_ ?_ (hp.at Rp) d2 (by have:=stored_length_le kvs kv.1 kv.2;omega) fun h' tk dd oo=>hR h' tk ?_ fun b o hb hb2 e=>oo b o hb hb2 (Rp b o hb hb2 e)
  ·obtain⟨o,ho,r⟩:=Te
   exact⟨o,(hs2.2 it hid).trans ho,r⟩
  ·obtain⟨o,ho,r⟩:=hl
   exact⟨o,Rp l o hli RF ho,r⟩
  ·rw[T6]
   exact dd
def BV{l:Addr}{o:Obj}{items:Zy}{k:Nat}{rs:List (K×Value)}{Q:Zq}(hh:A.handled=none)(hx:s.heap.get? l=some o)(hc:o.cls = .type "list")(hdat:o.data = .seq items k)(hdn:o.dict=none)(hz:items.size<=sizeLine)
  (hp:rs.length=items.size/\∀(j:Nat)(kv:K×Value),rs[j]?=some kv->∃t key,items[j]?=some (.ref t)/\IsTup s.heap t #[key,kv.2]/\knd.is kv.1 key=true)
  (h:∀h' tk,h'.DictOf knd s.heap.objs.size (merged [] rs)->(∀b o,s.heap.get? b=some o->h'.get? b=some o)->Q (.ref s.heap.objs.size) { s with heap:=h',toks:=tk }) :
  wpAny (model prog w) A (call (.type "dict") [.ref l]) Q E s:=by
 refine callType_codes (Q₁:=fun obj s₁=>obj = .ref s.heap.objs.size/\s₁={ s with heap:=s.heap.push { cls:=.type "dict",data:=.dict #[] } }) F.kt_called_dict (F.kt_typeCall_dict_1 _) F.entry_dict_init (kt_code_dict_new _ ⟨rfl,rfl⟩) ?_
 rintro obj s₁ ⟨rfl,rfl⟩
 have hnew:(s.heap.push { cls:=.type "dict",data:=.dict #[] }).DictOf knd s.heap.objs.size []:=Heap.DictOf.new s.heap
 have QA:(s.heap.push { cls:=.type "dict",data:=.dict #[] }).get? l=some o:=VJ _ hx
 have T7:l < s.heap.objs.size:=VR hx
 refine⟨hnew.typeIs,F.args_dict_init_2 _ _,?_⟩
 unfold Builtin.«dict.__init__»
 refine VG ?_
 unfold Builtin.Dict.selfAndRest
 refine VG (wpAny_notOrdered_dict hnew.typeIs ?_)
 show wpAny _ _ (pure (s.heap.objs.size,[Value.ref l])) _ _ _
 refine VP ?_
 show wpAny _ _ (Builtin.Dict.updateFrom "dict.__init__" s.heap.objs.size (.ref l) [] .none) _ _ _
 unfold Builtin.Dict.updateFrom
 refine VG (Zc (T:="list") ⟨o,QA,hc⟩ ?_)
 rw[if_pos (by decide)]
 refine VG (BU (s:={ s with heap:=s.heap.push { cls:=.type "dict",data:=.dict #[] } }) QA hc hdat hdn hh fun h1 UW Sl=>?_)
 show wpAny _ _ (if (Option.isNone none)=true then _ else _) _ _ _
 rw[if_pos (by decide)]
 refine VG (Yh ?_)
 have hl1:h1.IsList l items:=⟨o,Sl _ _ QA,hc,k,hdat⟩
 refine VG (WN (s:={ s with heap:=h1,toks:=UW }) hl1 ?_)
 have hs1:s.heap.objs.size < h1.objs.size:=by
  obtain⟨o2,_,_,ho2,_⟩:=hnew
  exact VR (Sl _ _ ho2)
 have T9:∀b ob,s.heap.get? b=some ob->(h1.push { cls:=.type "list_iterator",data:=.fields #[.ref l,.int 0 0] }).get? b=some ob:=fun b ob e=>VJ _ (Sl _ _ (VJ _ e))
 refine VP ⟨plainId_quiet F.dH _,?_⟩
 refine vL (A:=A.in1) (knd:=knd) (rs:=rs) (it:=h1.objs.size) hh (Wa (Xy T7 hs1)) (Wa T7) (Xx hs1) hz items.size 0 _ [] (by omega) ⟨_,VY _ rfl,rfl,rfl⟩ (hl1.push _) ⟨hp.1,fun j kv e=>?_⟩ ?_ (VM _) fun h' tk dd oo=>?_
 ·obtain⟨t,key,a1,⟨ot,Sk,r⟩,a3⟩:=hp.2 j kv e
  have T_:=VR Sk
  exact⟨t,key,a1,⟨ot,T9 _ _ Sk,r⟩,a3,Wa (Xy T_ hs1),Wa T_⟩
 ·obtain⟨o2,es,ep,ho2,r⟩:=hnew
  exact⟨o2,es,ep,VJ _ (Sl _ _ ho2),r⟩
 ·rw[List.drop_zero]at dd
  exact⟨rfl,h h' tk dd fun b ob e=>oo b ob (Wa (Xy (VR e) hs1)) (Wa (VR e)) (T9 b ob e)⟩
end
end PySem
namespace L2
open PySem PySem.Spec PyProof.Rows
section
variable {X:Cx}
theorem Dh{pins:Za}{σ:St}{H:Hp}{s:Shared}(I:Inv X pins σ H s):∀{vs:List V}{its:Zx}{kvs:List (bo×V)},Vals vs its->vs.length=kvs.length->(∀(j:Nat)(v:V)(kv:bo×V),vs[j]?=some v->kvs[j]?=some kv->∃t,v = .ref t/\SqT X.K H t [kV kv.1,kv.2])->
  ∃rs:List (bo×Value),KV kvs rs/\rs.length=its.length/\∀(j:Nat)(kv:bo×Value),rs[j]?=some kv->∃t key,its[j]?=some (.ref t)/\IsTup s.heap t #[key,kv.2]/\(ba X.prog X.w).is kv.1 key=true
 |[],_,[],.nil,_,_=>⟨[],.nil,rfl,fun j kv e=>by simp at e⟩
 |[],_,_::_,_,e,_=>by simp at e
 |_::_,_,[],_,e,_=>by simp at e
 |v::vs,u::its,kv::kvs,.cons r1 r2,e,h=>by
  obtain⟨rs,a,b,c⟩:=Dh I r2 (by simpa using e) fun j v kv h1 h2=>h (j+1) v kv h1 h2
  obtain⟨t,rfl,ht⟩:=h 0 v kv rfl rfl
  cases r1
  obtain⟨its',rv,p,_⟩:=I.tuple ht
  cases rv with
  |cons q1 q2=>
   cases q2 with
   |cons q3 q4=>
    cases q4
    rename_i u1 u2
    refine⟨(kv.1,u2)::rs,.cons ⟨rfl,q3⟩ a,by simp[b],fun j kv' ej=>?_⟩
    cases j with
    |zero=>cases ej;exact⟨t,u1,rfl,p,mf q1⟩
    |succ j=>exact c j kv' ej
def uP(hc:X.calm=true):fc X (.type "dict") (fun xs H Q=>∃(p:Addr)(vs:List V)(kvs:List (bo×V)),xs=[.ref p]/\SqL X.K H p vs/\vs.length=kvs.length/\(∀(j:Nat)(v:V)(kv:bo×V),vs[j]?=some v->kvs[j]?=some kv->∃t,v = .ref t/\SqT X.K H t [kV kv.1,kv.2])/\∀q,H q=none->Q (.ref q) (upd H q (.dK (fX [] kvs)))):=by
 intro pins s σ H xs us Q I r h
 obtain⟨p,vs,kvs,rfl,hp,hl,hk,q⟩:=h
 obtain⟨u,rfl,rx⟩:=eI r
 cases rx
 obtain⟨its,rv,⟨o,n,e,hcl,hdn,hdt⟩,hz⟩:=I.list hp
 obtain⟨rs,a,b,c⟩:=Dh I rv hl hk
 have hvl:=rv.length
 refine BV (knd:=ba X.prog X.w) (rs:=rs) (items:=its.toArray) (I.ok.hd hc) e hcl hdt hdn (by rw[VQ,<-hvl];exact hz) ⟨by rw[b,VQ],fun j kv ej=>?_⟩ fun h' tk dd kp=>?_
 ·obtain⟨t,key,c1,c2,c3⟩:=c j kv ej
  exact⟨t,key,by simpa using c1,c2,c3⟩
 ·have dk:=sE (P:=X.prog) (w:=X.w) (H:=H) s.heap I.big
  have hm:(fX [] kvs).length<=sizeLine:=by
   have h1:=fx kvs []
   rw[Wn]at h1
   omega
  exact⟨.ref _,_,I.laid (a:=s.heap.objs.size) (o:=.dK (fX [] kvs)) (h':=h') (t':=tk) kp (VM _) ⟨hm,dk.2.1,_,a.merge .nil,dd⟩,rfl,q _ (I.hok.fresh (VM _))⟩
end
end L2
namespace L3
open PySem PySem.Spec PyProof.Rows L2
section
variable {X:Cx}
noncomputable def i6:List PV->Option (List (bo×PV))
 |[]=>some []
 | .tup [x,y]::r=>match oW x,i6 r with|some k,some l=>some ((k,y)::l)|_,_=>none
 |_::_=>none
theorem nM{K:Zo}{H:Hp}:∀{vs:List V}{ps:List PV}{kvs:List (bo×PV)},Reps K H vs ps->i6 ps=some kvs->∃ks:List (bo×V),vs.length=ks.length/\(∀(j:Nat)(v:V)(kv:bo×V),vs[j]?=some v->ks[j]?=some kv->∃t,v = .ref t/\SqT K H t [kV kv.1,kv.2])/\Kz K H ks kvs
 |_,_,_,.nil,h=>by cases h;exact⟨[],rfl,fun j v kv h1 _=>by simp at h1,.nil⟩
 |_,_,kvs,.cons (p:=p) a r,h=>by
  unfold i6 at h
  split at h
  ·rename_i e;cases e
  ·rename_i x y r' e
   cases e
   split at h
   ·rename_i k l e1 e2
    cases h
    obtain⟨ks,h1,h2,h3⟩:=nM r e2
    cases a with
    |tup hq rs=>
     cases rs with
     |cons q1 q2=>
      cases q2 with
      |cons q3 q4=>
       cases q4
       obtain rfl:=eJ q1 e1
       refine⟨(k,_)::ks,by simp[h1],fun j v kv g1 g2=>?_,.cons q3 h3⟩
       cases j with
       |zero=>cases g1;cases g2;exact⟨_,rfl,hq⟩
       |succ j=>exact h2 j v kv g1 g2
   ·cases h
  ·cases h
def q_:sK:=fun ps S Q=>match ps with
 |[.ref a]=>(match S a with|some (.lst xs)=>(match i6 xs with|some kvs=>∀p,S p=none->Q (.ref p) (JZ S p (.dct (iu [] kvs)))|none=>False)|_=>False)
 |_=>False
def BW(hc:X.calm=true):fO X (.type "dict") q_:=⟨fun pins s σ H xs us Q I r ⟨ps,S,Q3,rp,rS,q,k⟩=>by
 unfold q_ at q
 split at q
 ·cases rp with
  |cons a rr=>
   cases rr;cases a
   split at q
   ·rename_i e
    split at q
    ·rename_i eb
     obtain⟨vs,hv,rs⟩:=rS _ _ e
     obtain⟨ks,h1,h2,h3⟩:=nM rs eb
     refine uP hc pins s σ H _ us Q I r ⟨_,vs,ks,rfl,SqL.of hv,h1,h2,fun p hp=>k _ _ _ _ (q p (rS.free hp)) (.ref p) (rS.new hp ⟨_,aH,?_⟩) (.new hp)⟩
     exact(Kz.merge h3 .nil).mono (.new hp)
    ·exact q.elim
   ·exact q.elim
 ·exact q.elim⟩
end
end L3
namespace L2
open PySem PySem.Spec PyProof.Rows
end L2
namespace L3
open PySem PySem.Spec PyProof.Rows L2
end L3
namespace PySem
namespace F
def qd:Manifest.owners.lookup (String.ofList ['d','e','s','r','e','v','e','r'].reverse)=some Manifest.sig_reversed:=by kernel_rfl
def KK:Slot "reversed" "__next__" "reversed.__next__" :=
 .of (owner:="reversed") (n:="__next__") (by rw[Yb,Xj];kernel_rfl) (by decide +kernel) (by decide +kernel) (by decide +kernel)
  (by first|exact .inl (by decide +kernel)|exact .inr (by decide +kernel)) (by rw[YC];kernel_rfl)
def iI:entryFor table "reversed.__next__" = some Builtin.«reversed.__next__»:=entryFor_of_tree (by kernel_rfl)
def jt(a:Value):argsOk "reversed.__next__" ⟨[a],[]⟩:=by
 unfold argsOk;rw[signature?_of (id:="reversed.__next__") (n:=['_','_','t','x','e','n','_','_']) (o:=['d','e','s','r','e','v','e','r']) (by kernel_rfl) qd];kernel_rfl
def ju:Slot "reversed" "__iter__" "reversed.__iter__" :=
 .of (owner:="reversed") (n:="__iter__") (by rw[Yb,Xj];kernel_rfl) (by decide +kernel) (by decide +kernel) (by decide +kernel)
  (by first|exact .inl (by decide +kernel)|exact .inr (by decide +kernel)) (by rw[YC];kernel_rfl)
def oY(a:Value):argsOk "reversed.__iter__" ⟨[a],[]⟩:=by
 unfold argsOk;rw[signature?_of (id:="reversed.__iter__") (n:=['_','_','r','e','t','i','_','_']) (o:=['d','e','s','r','e','v','e','r']) (by kernel_rfl) qd];kernel_rfl
def nN:entryFor table "reversed.__iter__" = some Builtin.«dict_keyiterator.__iter__»:=
 entryFor_alias (id':="dict_keyiterator.__iter__") (by kernel_rfl) (by first|rfl|decide +kernel|(unfold String.splitOn;simp +decide [String.splitOnAux])) (by decide +kernel) (by kernel_rfl)
def oZ:Slot "reversed" "__init__" "object.__init__" :=
 .of (owner:="object") (n:="__init__") (by rw[Yb,Xj];kernel_rfl) (by decide +kernel) (by decide +kernel) (by decide +kernel)
  (by first|exact .inl (by decide +kernel)|exact .inr (by decide +kernel)) (by rw[YC];kernel_rfl)
def Na:TypeCalled "reversed" "reversed.__new__" "object.__init__" :=
 ⟨by decide +kernel,by decide +kernel,⟨_,_,mro_reversed⟩,madeBy_type mro_reversed lookup_reversed_new (by decide +kernel),by decide +kernel,by rw[YC];kernel_rfl,oZ⟩
def re:typeLookup (.type "tuple") "__reversed__" = pure none:=by rw[Yb,Xj];kernel_rfl
def o0:isSubtype (.type "tuple") (.type "dict")=pure false:=by rw[YC];kernel_rfl
end F
section
open PyProof.Rows
variable {prog:Program}{w:World}{A:Around}{E:Zq}{s:Shared}
noncomputable def rf(t:Addr)(i:Int):Obj:={ cls:=.type "reversed",data:=.fields #[.ref t,rawInt i] }
def Heap.MI(h:Heap)(a t:Addr)(i:Int):Prop:=∃o,h.get? a=some o/\o.cls = .type "reversed"/\o.data = .fields #[.ref t,rawInt i]
def Heap.MI.typeIs{a l:Addr}{i:Int}(x:s.heap.MI a l i):s.TypeIs (.ref a) "reversed":=let ⟨o,ho,hc,_⟩:=x;⟨o,ho,hc⟩
def Heap.MI.at{h h':Heap}{a l:Addr}{i:Int}(x:h.MI a l i)(e:∀o,h.get? a=some o->h'.get? a=some o):h'.MI a l i:=let ⟨o,ho,r⟩:=x;⟨o,e _ ho,r⟩
def rg{t:Addr}{items:Zy}{Q₁:Zq}(ht:IsTup s.heap t items)(hfit:items.size<=sizeLine)
  (h:∀tk,Q₁ (.ref s.heap.objs.size) { s with heap:=s.heap.push (rf t ((items.size:Int) - 1)),toks:=tk }) :
  codeAny (model prog w) A (.call (.builtin "reversed.__new__") ⟨[.type "reversed",.ref t],[]⟩) (wants Q₁ E) s:=by
 refine codeAny_of_tree ?_
 show wpAny _ A.in1 (do checkBuiltinCall "reversed.__new__" ⟨[.type "reversed",.ref t],[]⟩;again (.builtin "reversed.__new__" ⟨[.type "reversed",.ref t],[]⟩)) _ _ s
 refine VG (Yo (F.newCall_reversed_1 _) (VP ⟨plainId_quiet F.plain_reversed_new _,codeAny_builtin F.entry_reversed_new ?_⟩))
 rw[ZK F.plain_reversed_new _]
 unfold Builtin.«reversed.__new__»
 refine VG (Yo (newClass_reversed _) ?_)
 try dsimp only
 refine VG (Yo (a:=()) (by first|rfl|kernel_rfl) ?_)
 refine VG (Yo (a:=()) (by first|rfl|kernel_rfl) ?_)
 try dsimp only
 refine VG (YX ht.typeIs F.re ?_)
 try dsimp only
 refine VG ?_
 show wpAny _ _ (isInstance (.ref t) (.type "dict") >>= _) _ _ s
 refine VG (YG ht.typeIs F.o0 ?_)
 show wpAny _ _ (specialOf (.ref t) "__getitem__" >>= _) _ _ s
 refine VG (YX ht.typeIs F.slot_tuple_getitem.lookup ?_)
 dsimp only
 rw[if_pos (by decide +kernel)]
 refine VP ?_
 rw[if_neg (by decide)]
 have big:sizeLine < 2 ^ 62:=by decide
 refine VG (len_tuple ht (by omega) ?_)
 refine VG (Yo (a:=some (items.size:Int)) rfl ?_)
 dsimp only
 refine VG (m:=Builtin.SmallTypes.newRecord _ _) ?_
 show wpAny _ _ (newObj (.type "reversed") (.fields #[.ref t,rawInt ((items.size:Int) - 1)])) _ _ _
 refine W2 ?_ (by size_fits)
 exact VP (h _)
def zd{t:Addr}{items:Zy}{Q:Zq}(ht:IsTup s.heap t items)(hfit:items.size<=sizeLine)
  (h:∀tk,Q (.ref s.heap.objs.size) { s with heap:=s.heap.push (rf t ((items.size:Int) - 1)),toks:=tk }):wpAny (model prog w) A (call (.type "reversed") [.ref t]) Q E s:=
 callType_codes (Q₁:=fun obj s₁=>s₁.TypeIs obj "reversed"/\Q obj s₁) F.Na (F.typeCall_reversed_1 _) F.entry_object_init (rg ht hfit fun tk=>⟨⟨_,VY _ rfl,rfl⟩,h tk⟩) fun obj s₁ h₁=>
  ⟨h₁.1,F.args_object_init_2 obj _,object_init_meets F.Na.init.lookup F.Na.made (by decide) prog w A.in1 _ s₁ ⟨h₁.1,rfl,h₁.2⟩⟩
def o8{it t:Addr}{i:Nat}{items:Zy}{x:Value}{Q:Option Value->Shared->Prop}(hit:s.heap.MI it t (i:Int))(ht:IsTup s.heap t items)(hfit:items.size<=sizeLine)(hx:items[i]?=some x)
  (hQ:∀h' tk,h'.MI it t ((i:Int) - 1)->Heap.SameBut it s.heap h'->Q (some x) { s with heap:=h',toks:=tk }):wpAny (model prog w) A (pyNext (.ref it)) Q E s:=by
 obtain⟨o,ho,hc,hd⟩:=id hit
 have big:sizeLine < 2 ^ 62:=by decide
 have hi:i < items.size:=(YE.mp hx).1
 unfold pyNext
 refine VG (Yz (WC (name:=Str.ofString "__next__") hit.typeIs F.KK
  (W4 F.KK hit.typeIs F.iI ?_ (F.jt _))))
 unfold Builtin.«reversed.__next__»
 refine VG (Yo (a:=(Value.ref it,[])) rfl ?_)
 try dsimp only
 refine VG (Wq ho hd (x:=.ref t) rfl ?_)
 refine VG (Wq ho hd (x:=rawInt (i:Int)) rfl ?_)
 show wpAny _ _ (if (i:Int) < 0 then _ else _) _ _ s
 rw[if_neg (by omega)]
 show wpAny _ _ (specialOf (.ref t) "__getitem__" >>= _) _ _ s
 refine VG (YX ht.typeIs F.slot_tuple_getitem.lookup ?_)
 show wpAny _ _ (if (Option.isNone (some _))=true then _ else _) _ _ s
 rw[if_neg (by decide)]
 refine VG (wpAny_mkInt ?_)
 refine VG (Yz (getItem_tuple (j:=i) ht (by omega) (by omega) (by unfold seqIndex?;simp;omega) hx ?_))
 dsimp only
 refine VG (Wq ho hd (x:=rawInt (i:Int)) rfl ?_)
 show wpAny _ _ (setField (.ref it) 1 (rawInt ((i:Int) - 1)) >>= _) _ _ _
 refine VG (Zf ho hd (by simp) ?_)
 refine VP ⟨x,rfl,VP (hQ _ _ ?_ (YQ ..))⟩
 exact⟨_,Xs _ ho (Zm (XX hd _)),(Obj.cls_mapFields ..).trans hc,by
  rw[XX hd];simp⟩
def rh{it t:Addr}{Q:Option Value->Shared->Prop}(hh:A.handled=none)(hit:s.heap.MI it t (-1))
  (hQ:∀h',Heap.ExtBut it s.heap h'->Q none { s with heap:=h' }):wpAny (model prog w) A (pyNext (.ref it)) Q E s:=by
 obtain⟨o,ho,hc,hd⟩:=id hit
 unfold pyNext
 refine VG (Yz (WC (name:=Str.ofString "__next__") hit.typeIs F.KK
  (W4 F.KK hit.typeIs F.iI ?_ (F.jt _))))
 unfold Builtin.«reversed.__next__»
 refine VG (Yo (a:=(Value.ref it,[])) rfl ?_)
 try dsimp only
 refine VG (Wq ho hd (x:=.ref t) rfl ?_)
 refine VG (Wq ho hd (x:=rawInt (-1)) rfl ?_)
 show wpAny _ _ (if (-1:Int) < 0 then _ else _) _ _ s
 rw[if_pos (by decide)]
 refine VG (Yh ?_)
 refine VG ?_
 show wpAny _ _ (setField (.ref it) 1 (rawInt (-1)) >>= fun _=>setField (.ref it) 0 .none) _ _ s
 refine VG (Zf ho hd (by simp) ?_)
 have ho2:=Xs (Obj.mapFields (·.set! 1 (rawInt (-1)))) ho (Zm (XX hd _))
 refine Zf ho2 (XX hd _) (by simp) ?_
 refine VG ?_
 show wpAny _ _ (newExc (.type "StopIteration") [] >>= _) _ _ _
 refine VG ?_
 simp only[newExc,newTuple]
 refine VG (W2 ?_ (by size_fits))
 refine VG (m:=firstArgMember _ _) (Yo (a:=Value.none) (by first|rfl|(simp only[firstArgMember];rfl)) ?_)
 refine W2 ?_ (by size_fits)
 simp only[raiseNew]
 refine VG (wpAny_handled ?_)
 first|rw[show A.in1.handled=none from hh]|rw[hh]
 refine VG (VP (wpAny_throw ?_))
 refine VG (YG (T:="StopIteration") (b:=true) ⟨_,VY _ rfl,rfl⟩ isSubtype_stop ?_)
 refine VP (hQ _ ?_)
 refine Heap.ExtBut.push (Heap.ExtBut.push ?_ _) _
 exact fun b o hb e=>(XJ _ _ (Xl hb)).trans ((XJ _ _ (Xl hb)).trans e)
def sU{it t:Addr}{i:Int}{Q:Zq}(hit:s.heap.MI it t i)(h:Q (.ref it) s):wpAny (model prog w) A (pyIter (.ref it)) Q E s:=by
 refine wpAny_pyIter_slot hit.typeIs F.ju (W4 F.ju hit.typeIs F.nN ?_ (F.oY _))
 show wpAny _ _ (ret (.ref it)) _ _ s
 exact VP ⟨_,rfl,"reversed",_,hit.typeIs,F.KK.lookup,h⟩
end
section
open PyProof.Rows
variable {prog:Program}{w:World}{A:Around}{E:Zq}{s:Shared}
end
end PySem
namespace L2
open PySem PySem.Spec PyProof.Rows
end L2
namespace L3
open PySem PySem.Spec PyProof.Rows L2
end L3
namespace L2
open PySem PySem.Spec PyProof.Rows
end L2
namespace L3
open PySem PySem.Spec PyProof.Rows L2
end L3
namespace L2
open PySem PySem.Spec PyProof.Rows
noncomputable def Jh(K:Zo)(a:Addr)(n:Nat):It:=
 ⟨fun i H=>∃xs x,SqT K H a xs/\xs.length=n/\i < n/\xs[n - 1 - i]?=some x,fun i H x H'=>H'=H/\∀xs,SqT K H a xs->xs[n - 1 - i]?=some x,fun i _=>n<=i⟩
def wY{P:Program}{w:World}{K:Zo}{tg:Expr}(a it:Addr)(n:Nat):mV P w K tg (Jh K a n) [it] it (fun i h=>i<=n/\Heap.MI h it a ((n:Int) - 1 - (i:Int))) where
 mem:=by simp
 obj:=fun i h st b hb=>by
  have e:b=it:=by simpa using hb
  subst e
  obtain⟨_,o,e,c,d⟩:=st
  exact⟨o,e,fun v z=>by rw[d]at z;cases z⟩
 keep:=fun i h h' st k=>⟨st.1,st.2.at fun o e=>k it (by simp) o e⟩
 item:=by
  intro X hP hw hK hc i pins s σ H E I hf st hg
  subst hP hw hK
  obtain⟨xs,x,hq,hn,hi,hx⟩:=hg
  obtain⟨its,rv,p,hz⟩:=I.tuple hq
  have hl:=rv.length
  obtain⟨u,hu,ru⟩:=rv.get hx
  obtain⟨f0,f1,f2,f3,f4,f5⟩:=hf it (by simp)
  have e1:(n:Int) - 1 - (i:Int)=((n - 1 - i:Nat):Int):=by omega
  have st2:=st.2
  rw[e1]at st2
  refine o8 st2 p (by rw[VQ,<-hl];exact hz) (x:=u) (by simpa using hu) fun h' tk st' sb=>?_
  have I1:Inv X pins σ H { s with heap:=h',toks:=tk }:=I.turned (t':=tk) (fun b o hb e=>(sb.2 b hb).trans e) f0 f1 f3 f4 f5
  have e2:((n - 1 - i:Nat):Int) - 1=(n:Int) - 1 - ((i+1:Nat):Int):=by omega
  rw[e2]at st'
  obtain⟨o,e,c,d⟩:=id st'
  exact⟨u,rfl,j6 (s:={ s with heap:=h',toks:=tk }) e c d (by decide) ⟨x,H,I1,ru,⟨rfl,fun ys hy=>by rw[I.MT hy hq];exact hx⟩,⟨hi,st'⟩,fun b hb=>(hf b hb).1⟩⟩
 done:=by
  intro X hP hw hK hc i pins s σ H E I hf st hg
  subst hP hw hK
  have hg:n<=i:=hg
  obtain⟨f0,f1,f2,f3,f4,f5⟩:=hf it (by simp)
  have e1:(n:Int) - 1 - (i:Int) = -1:=by have:=st.1;omega
  have st2:=st.2
  rw[e1]at st2
  exact rh (I.ok.hd hc) st2 fun h' eb=>⟨rfl,I.turned (t':=s.toks) (fun b o hb e=>eb b o hb e) f0 f1 f3 f4 f5⟩
 self:=fun _ _ _ _ _ st h=>sU st.2 h
section
variable {X:Cx}{tg:Expr}
def G5(K:Zo)(te:TE):TI:=fun σ H R=>te σ H fun x H1=>∃a xs,x = .ref a/\SqT K H1 a xs/\R (Jh K a xs.length) H1
def BX{e:Expr}{te:TE}{p pos:Pos}(hg:Gl X "reversed")(hm:X.mg "reversed" = none)(he:PE X e te)(hs:starEach [e] X.env=[(false,eval e X.env)]:=by rfl):PI X tg (.Call (.Name "reversed" p) [e] [] pos) (G5 X.K te):=by
 intro pins s σ H R I h
 refine XT (fw I hg hm (u:=.type "reversed") boot_reversed ?_)
 refine WM ?_ hs rfl
 rw[hs]
 show wpAny _ _ (spliced ((false,eval e X.env)::backTo pos [])) _ _ s
 refine XS (J9 (he pins s σ H _ I h) fun u s1 ⟨x,H1,I1,r1,a,xs,ex,hx,q⟩=>?_)
 subst ex
 cases r1
 obtain⟨its,rv,pl,hz⟩:=I1.tuple hx
 have hl:=rv.length
 have hn:its.toArray.size<=sizeLine:=by rw[VQ,<-hl];exact hz
 refine YA (zd (items:=its.toArray) pl hn fun tk=>?_)
 have st:Heap.MI (s1.heap.push (rf a ((its.toArray.size:Int) - 1))) s1.heap.objs.size a ((xs.length:Int) - 1 - ((0:Nat):Int)):=⟨_,VY _ rfl,rfl,by
  show Data.fields #[.ref a,rawInt ((its.toArray.size:Int) - 1)]=_
  rw[VQ,<-hl];simp⟩
 refine sU (s:={ s1 with heap:=s1.heap.push (rf a ((its.toArray.size:Int) - 1)),toks:=tk }) st ?_
 refine⟨s1.heap.objs.size,[s1.heap.objs.size],_,_,H1,rfl,I1.kept (t':=tk) fun b o e=>VJ _ e,wY a _ xs.length,⟨Ws _,st⟩,fun b hb=>?_,q⟩
 have e:b=s1.heap.objs.size:=by simpa using hb
 subst e
 exact I1.M6 (VM _) (I1.hok.fresh (VM _))
end
end L2
namespace L3
open PySem PySem.Spec PyProof.Rows L2
section
variable {X:Cx}{e tg:Expr}{te:bd}{p pos:Pos}
def ze{K:Zo}{H0:Hp}{a:Addr}{vs:List V}{xs:List PV}{n:Nat}(hv:SqT K H0 a vs)(rs:Reps K H0 vs xs)(hn:n=xs.length):ip K H0 (Jh K a n) ⟨xs.reverse,fun _=>True⟩:=by
 intro i S H g rS hk
 subst hn
 have hl:=rs.length
 refine⟨fun p hp=>?_,fun hi=>by show xs.length<=i;rw[hi,YO];exact VM _⟩
 have hi:i < xs.length:=by
  have:=(V4.mp hp).1
  rwa [YO]at this
 rw[List.getElem?_reverse hi]at hp
 obtain⟨v,hx,rv⟩:=rs.get hp
 refine⟨⟨vs,v,g.t _ _ hv,hl,hi,hx⟩,fun x H' ⟨e,h⟩=>?_⟩
 subst e
 have:=h vs (g.t _ _ hv)
 rw[hx]at this
 cases this
 exact⟨rv.mono g,rS,.refl⟩
def vM(te:bd):vG:=fun σ S R E=>te σ S (fun v S1=>match v with
 | .tup xs=>R ⟨xs.reverse,fun _=>True⟩ S1
 |_=>False) E
def EW(hs:starEach [e] X.env=[(false,eval e X.env)])(hg:Gl X "reversed")(hm:X.mg "reversed" = none)(he:bB X e te):xT X tg (.Call (.Name "reversed" p) [e] [] pos) (vM te):=
 ⟨jD (BX hg hm he.ok hs) fun σ H R ⟨σ3,S,R3,E3,rσ,rS,h,xo,k⟩=>⟨σ3,S,_,E3,rσ,rS,h,xo,fun v S1 v' H1 h1 rv Kn g1=>by
  split at h1
  ·cases rv with
   |tup hq rs=>exact⟨_,_,rfl,hq,k _ S1 _ H1 h1 (ze hq rs rs.length) Kn g1⟩
  ·exact h1.elim⟩⟩
end
end L3
namespace CL
open PySem L2 L3
def rj(LD:ap):bx:=(ar (ab LD [(af b3 (af bM (af ae (v3 0) (c3 (.int 0))) (af ae (v3 1) (c3 (.int 1)))) (af bM (af ae (v3 1) (c3 (.int 0))) (af ae (v3 0) (c3 (.int 1))))),(af bM (af ae (v3 0) (c3 (.int 1))) (af ae (v3 1) (c3 (.int 1))))]))
def b4(LF:ap):bx:=(ah (aq 2 (ab LF [(v3 0)]))
  (ar (au q_ [(aK (ki (af ae (v3 0) (c3 (.int 0))) (v3 1)) (.tp (.cons (.n 0) (.cons (.n 1) .nil))) (aR (af (jC false) (v3 0) (v3 2))) (aC [(v3 0),(v3 1)]) 2 [2])])))
def eQ(MG MV QB:ap):bx:=(ah (aq 3 (af ae (v3 0) (c3 (.int 0))))
  (ah (br (aR (af (bn false) (v3 3) (c3 (.str "end")))) (ar (aY [(aC [(c3 (.int 0)),(c3 (.int 1))])])) aQ)
  (ah (br (aR (af (bn false) (v3 3) (c3 (.str "pay")))) (ar (aY [(ab MG [(af ae (v3 0) (c3 (.int 1))),(af ae (v3 1) (af ae (v3 0) (c3 (.int 2))))])])) aQ)
  (ah (br (aR (af (bn false) (v3 3) (c3 (.str "put")))) (ar (aY [(ab MG [(ab MV [(af ae (v3 2) (af ae (v3 0) (c3 (.int 1)))),(aC [(af ae (v3 0) (c3 (.int 2))),(c3 (.int 1))])]),(af ae (v3 1) (af ae (v3 0) (c3 (.int 3))))])])) aQ)
  (ah (br (aR (af (bn true) (v3 3) (c3 (.str "take")))) (ar (aY [(af ae (v3 1) (af ae (v3 0) (c3 (.int 1)))),(af ae (v3 1) (af ae (v3 0) (c3 (.int 2))))])) aQ)
  (ah (br (aR (af (jC true) (af ae (v3 0) (c3 (.int 1))) (v3 2))) (ar (aY [(af ae (v3 1) (af ae (v3 0) (c3 (.int 4))))])) aQ)
  (ar (aY [(af ae (v3 1) (af ae (v3 0) (c3 (.int 4)))),(ab QB [(af ae (v3 1) (af ae (v3 0) (c3 (.int 3)))),(ab MV [(af ae (v3 2) (af ae (v3 0) (c3 (.int 1)))),(aC [(af ae (v3 0) (c3 (.int 2))),(c3 (.int 1))])])])]))))))))
def fG(PK Pk:ap):bx:=(ah (aq 3 (af bM (aY [(aC [(c3 (.int 0)),(c3 (.int 1))])]) (au dg [(v3 0)])))
  (ah (aq 4 (c3 .non))
  (ah (ir (aR (af (bn true) (v3 3) (v3 4))) (ah (aq 4 (au im [(v3 3)]))
  (bE (vM (v3 1)) (.n 5) (gf (ab PK [(af aN (aY [(af ae (v3 3) (v3 5))]) (ab Pk [(af ae (v3 0) (v3 5)),(v3 3),(v3 2)]))]) (v3 3) (v3 5)))))
  (ar (au aS [(v3 3)])))))
def rm(Pg MG Pl:ap):bx:=(ar (ab Pg [(aC [(c3 (.int 0)),(c3 (.int 1))]),(ab MG [(af ae (v3 0) (c3 (.int 2))),(ab Pl [(af ae (v3 0) (c3 (.int 3))),(v3 1)])])]))
def jQ(QC QD MJ NW Oh QE:ap):bx:=(ah (aq 2 (aK (aJ (ab QC [(v3 0)])) (.n 0) (fZ (aR (af (vC true) (af ae (v3 0) (c3 (.int 1))) (c3 .non))) (aR (ab QD [(v3 0),(v3 1)]))) (v3 0) 1 [1]))
  (ah (br (aR (af (bn true) (v3 2) (aY []))) (ar (aC [(c3 (.str "round")),(af ae (v3 2) (c3 (.int 0)))])) aQ)
  (ah (aq 3 (ab MJ [(v3 0),(v3 1)]))
  (ah (aq 4 (aY []))
  (ah (bE (ki (af ae (v3 0) (c3 (.int 1))) (ab NW [(v3 0)])) (.tp (.cons (.n 5) (.cons (.n 6) .nil))) (bm (hZ "list" bA (v3 4) [(ab Oh [(ab QE [(af ae (v3 5) (c3 (.int 1)))]),(v3 6),(v3 3)])])))
  (ar (aC [(c3 (.str "paper")),(aC [(v3 1),(au aS [(v3 4)])])])))))))
end CL
namespace L3
open PySem L2
theorem sV:∀{a b:List Char},a.map Char.toNat=b.map Char.toNat->a=b
 |[],[],_=>rfl
 |[],_::_,h=>by simp at h
 |_::_,[],h=>by simp at h
 |x::a,y::b,h=>by
  simp only[VT,Yx]at h
  rw[sV h.2,Char.toNat_inj.mp h.1]
def aG{a b:String}:(Str.ofString a=Str.ofString b)↔a=b:=by
 refine⟨fun h=>?_,fun h=>by rw[h]⟩
 rw[Str.ofString_eq_toList,Str.ofString_eq_toList]at h
 have h':a.toList.map Char.toNat=b.toList.map Char.toNat:=by
  have:=WW (fun s:Str=>s.cps.toList) h
  simpa using this
 exact String.toList_inj.mp (sV h')
def sS{a b:String}:((Sum.inr (Str.ofString a):bo)=Sum.inr (Str.ofString b))↔a=b:=by
 rw[Sum.inr.injEq,aG]
def EX{i j:Int}(h1:-(2 ^ 64) < i)(h2:i < 2 ^ 64):IntMulOk i j:=(show Qp i j from .inl ⟨h1,h2⟩).ok
def nO{i j:Int}(h1:-(2 ^ 64) < j)(h2:j < 2 ^ 64):IntMulOk i j:=(show Qp i j from .inr ⟨h1,h2⟩).ok
def iJ{i j:Int}(h:0<=j):i.fmod j=i % j:=Int.fmod_eq_emod_of_nonneg i h
def G6{i j:Int}(h:0<=j):i.fdiv j=i / j:=Int.fdiv_eq_ediv_of_nonneg i h
def G7{i j:Int}(h:0 < j)(h2:j < 2 ^ 64):mj i j:=⟨by omega,Xy (show j.natAbs < 2 ^ 64 by omega) (Xe (by decide) (by decide))⟩
def LU(d l:Addr)(S S':ax):Prop:=∀a o,S a=some o->a≠d->a≠l->S' a=some o
def LU.refl{d l:Addr}{S:ax}:LU d l S S:=fun _ _ h _ _=>h
def LU.trans{d l:Addr}{S S1 S2:ax}(a:LU d l S S1)(b:LU d l S1 S2):LU d l S S2:=fun x o h h1 h2=>b x o (a x o h h1 h2) h1 h2
def LU.upd{d l:Addr}{S:ax}{o:SO}:LU d l S (JZ S d o):=fun x u h h1 h2=>by rw[av h1];exact h
def LU.UX{d l:Addr}{S:ax}{o:SO}:LU d l S (JZ S l o):=fun x u h h1 h2=>by rw[av h2];exact h
def LU.new{d l p:Addr}{S:ax}{o:SO}(h:S p=none):LU d l S (JZ S p o):=fun x u hx h1 h2=>by rw[av (fun e=>by rw[e,h]at hx;cases hx)];exact hx
end L3
def walkL:Array Lean.Name:=#[`L3.ah,`L3.aq,`L3.ar,`L3.bm,`L3.br,`L3.aQ,`L3.af,`L3.v3,`L3.c3,`L3.lk,`L3.ao,`L3.au,`L3.ab,`L3.hZ,`L3.aR,`L3.fZ,`L3.oM,`L3.oU,`L3.cO,`L3.oV,`L3.pR,`L3.uD,`L3.gf,`L3.wT,`L3.nA,`L3.aC,`L3.aY,`L3.hW,`L3.bX,`L3.ae,`L3.oW,`L3.cP,`L3.xS,`L3.t_,`L3.uG,`L3.f_,`L3.gW,`L3.b3,`L3.iw,`L3.gX,`L3.sO,`L3.uK,`L3.yY,`L3.GX,`L3.bn,`L3.vC,`L3.aN,`L3.bM,`L3.dg,`L3.wR,`L3.kf,`L3.np,`L3.aS,`L3.im,`L3.jj,`List.set_cons_zero,`List.set_cons_succ,`List.set_nil,`L3.uI,`L3.eM,`L3.wS,`L3.aK,`L3.aJ,`L3.bF,`L3.bE,`L3.cQ,`L3.Tg.put,`L3.Tg.J7,`L3.sM,`L3.lA,`L3.sN,`L3.nC,`L3.dR,`L3.ki,`L3.bA,`L3.bI,`List.reduceReplicate,`List.map_cons,`List.map_nil,`List.cons_append,`List.nil_append]
def walkA(a:Array Lean.Name):Array Lean.Syntax:=Lean.mkSepArray (a.map fun n=>Lean.mkNode ``Lean.Parser.Tactic.simpLemma #[Lean.mkNullNode,Lean.mkNullNode,Lean.mkIdent n]) (Lean.mkAtom ",")
local macro_rules | `(tactic| walk_at "x")=>do
 let a:=⟨walkA walkL⟩
 `(tactic| ((try dsimp only [$a,*]); (try simp only [$a,*])))
namespace C
open PySem L2 L3
noncomputable def cu(seed number:Int)(l:Addr):List (bo×PV):=[(Sum.inr "seed",.int seed),(Sum.inr "number",.int number),(Sum.inr "left",.ref l)]
structure Nw(S:ax)(d l:Addr)(seed number:Int)(left:Zw):Prop where
 d:S d=some (.dct (cu seed number l))
 l:S l=some (.lst (left.map PV.int))
 s0:0<=seed
 s1:seed < 2147483647
 nm:0<=number
 lf:∀x∈left,0<=x
 ln:left.length<=100
def Ko(S:ax)(d l:Addr):Prop:=∃seed number left,Nw S d l seed number left
def Nw.ne{S:ax}{d l:Addr}{seed number:Int}{left:Zw}(D:Nw S d l seed number left):d≠l:=fun e=>by
 have h:=D.d
 rw[e,D.l]at h
 cases h
def Ko.new{S:ax}{d l p:Addr}{o:SO}(D:Ko S d l)(h:S p=none):Ko (JZ S p o) d l:=by
 obtain⟨s,n,f,D⟩:=D
 refine⟨s,n,f,?_,?_,D.s0,D.s1,D.nm,D.lf,D.ln⟩
 ·rw[av (fun e=>by have:=D.d;rw[e,h]at this;cases this)];exact D.d
 ·rw[av (fun e=>by have:=D.l;rw[e,h]at this;cases this)];exact D.l
def Ko.upd{S:ax}{d l p:Addr}{o:SO}(D:Ko S d l)(h1:p≠d)(h2:p≠l):Ko (JZ S p o) d l:=by
 obtain⟨s,n,f,D⟩:=D
 exact⟨s,n,f,by rw[av h1.symm];exact D.d,by rw[av h2.symm];exact D.l,D.s0,D.s1,D.nm,D.lf,D.ln⟩
def Ko.free{S:ax}{d l p:Addr}(D:Ko S d l)(h:S p=none):p≠d/\p≠l:=by
 obtain⟨s,n,f,D⟩:=D
 exact⟨(fun e=>by have:=D.d;rw[<-e,h]at this;cases this),(fun e=>by have:=D.l;rw[<-e,h]at this;cases this)⟩
def nP(s n m:Int)(l:Addr):nB (cu s n l) (Sum.inr "number") (.int m)=cu s m l:=by
 simp[nB,cu,sS,aG]
def zf(s n m:Int)(l:Addr):nB (cu s n l) (Sum.inr "seed") (.int m)=cu m n l:=by
 simp[nB,cu,sS,aG]
def EY(s n:Int)(l:Addr):lw (cu s n l) (Sum.inr "seed")=some (.int s):=by simp[lw,cu,sS,aG]
def zg(s n:Int)(l:Addr):lw (cu s n l) (Sum.inr "number")=some (.int n):=by simp[lw,cu,sS,aG]
def EZ(s n:Int)(l:Addr):lw (cu s n l) (Sum.inr "left")=some (.ref l):=by simp[lw,cu,sS,aG]
abbrev cW(w:ap):Prop:=∀{S:ax}{d l:Addr}{m:Int}{Q:bc}{E:bC},Ko S d l->0 < m->m < 2 ^ 62->(∀r S',0<=r->r < m->Ko S' d l->LU d l S S'->Q (.int r) S')->w [.ref d,.int m] S Q E
def J8:cW (aP 5 iy):=by
  intro S d l m Q E D h0 h1 k
  obtain⟨seed,number,left,D⟩:=D
  have hne:=D.ne
  have hsz:∀a b,(cu a b l).length < sizeLine:=fun _ _=>fK (by show 3<=1000;decide)
  have fin:∀num Px S1,Nw S1 d l seed num Px->LU d l S S1->¬(num=0/\0 < Px.length)->
      (if 0 < num then mj num m/\(cu seed num l).length < sizeLine/\m≠0/\Q (PV.int (num.fmod m)) (JZ S1 d (SO.dct (cu seed (num.fdiv m) l)))
       else IntMulOk seed 48271/\(2147483647:Int)≠0/\IntMulOk ((seed * 48271+7919).fmod 2147483647) 40692/\(2147483399:Int)≠0/\(cu seed num l).length < sizeLine/\
        IntMulOk (((seed * 48271+7919).fmod 2147483647 * 40692+104729).fmod 2147483399) (((seed * 48271+7919).fmod 2147483647 * 40692+104729).fmod 2147483399)/\(2147483563:Int)≠0/\
        IntMulOk ((seed * 48271+7919).fmod 2147483647) ((seed * 48271+7919).fmod 2147483647)/\(2147483629:Int)≠0/\
        IntMulOk (((seed * 48271+7919).fmod 2147483647 * (seed * 48271+7919).fmod 2147483647).fmod 2147483629) 2147483563/\m≠0/\
        Q (PV.int ((((seed * 48271+7919).fmod 2147483647 * (seed * 48271+7919).fmod 2147483647).fmod 2147483629 * 2147483563+((((seed * 48271+7919).fmod 2147483647 * 40692+104729).fmod 2147483399) * (((seed * 48271+7919).fmod 2147483647 * 40692+104729).fmod 2147483399)).fmod 2147483563).fmod m))
          (JZ S1 d (SO.dct (cu (((seed * 48271+7919).fmod 2147483647 * 40692+104729).fmod 2147483399) num l)))):=by
    intro num Px S1 D1 O1 hz
    split
    . rename_i hp
      rw[iJ (Xz h0),G6 (Xz h0)]
      refine⟨G7 h0 (by omega),hsz _ _,by omega,k _ _ (YZ _ (by omega)) (Yt _ h0) ⟨seed,num / m,Px,aa,by rw[av hne.symm];exact D1.l,D1.s0,D1.s1,Yc D1.nm (Xz h0),D1.lf,D1.ln⟩ (O1.trans .upd)⟩
    . have e1:∀x:Int,x.fmod 2147483647=x % 2147483647:=fun x=>iJ (by decide)
      have e2:∀x:Int,x.fmod 2147483399=x % 2147483399:=fun x=>iJ (by decide)
      simp only[e1,e2,iJ (Xz h0)]
      have p1:=D1.s0
      have p2:=D1.s1
      refine⟨nO (by decide) (by decide),by decide,nO (by decide) (by decide),by decide,hsz _ _,EX (by omega) (by omega),by decide,EX (by omega) (by omega),by decide,nO (by decide) (by decide),by omega,
        k _ _ (YZ _ (by omega)) (Yt _ h0) ⟨_,num,Px,aa,by rw[av hne.symm];exact D1.l,by omega,by omega,D1.nm,D1.lf,D1.ln⟩ (O1.trans .upd)⟩
  unfold aP iy
  rw[show am 5 [PV.ref d,PV.int m]=[some (.ref d),some (.int m),none,none,none] from rfl]
  simp only[ah]
  refine⟨fun n σ S'=>σ=[some (.ref d),some (.int m),none,none,none]/\∃number left,Nw S' d l seed number left/\left.length=n/\LU d l S S',⟨_,rfl,number,left,D,rfl,.refl⟩,?_⟩
  rintro n σ S1 ⟨rfl,num,Px,D1,hn,O1⟩
  walk_at "x"
  simp only[D1.d,D1.l,zg,EZ,EY,zf,nP,aa,VX,VS]
  have hlen:(List.map PV.int Px).length=Px.length:=VI ..
  rw[hlen]
  split
  . rename_i hz
    subst hz
    split
    . rename_i hl
      refine⟨fun σ S'=>σ=[some (.ref d),some (.int m),none,none,none]/\∃number left,Nw S' d l seed number left/\left.length < n/\LU d l S S',?_,?_⟩
      . rintro σ' S' ⟨rfl,a,b,h2,h3,h4⟩
        exact⟨_,h3,rfl,a,b,h2,rfl,h4⟩
      . have hl':0 < Px.length:=by omega
        obtain⟨pre,x,rfl⟩:∃pre x,Px=pre++[x]:=by
          refine⟨Px.dropLast,Px.getLast (by intro e;rw[e]at hl';simp at hl'),(List.dropLast_concat_getLast _).symm⟩
        refine⟨trivial,?_⟩
        rw[show(List.map PV.int (pre++[x]))[(pre++[x]).length - 1]?=some (.int x) by simp,show(List.map PV.int (pre++[x])).dropLast=pre.map PV.int by simp]
        simp only[av hne,D1.d,nP]
        refine⟨hsz _ _,trivial,x,pre,⟨aa,by rw[av hne.symm,aa],D1.s0,D1.s1,D1.lf x (by simp),fun y hy=>D1.lf y (by simp[hy]),by have:=D1.ln;simp at this;omega⟩,?_,O1.trans (LU.UX.trans .upd)⟩
        rw[<-hn];simp
    . rename_i hl
      exact fin 0 Px S1 D1 O1 (fun z=>hl (by omega))
  . rename_i hz
    rw[if_neg (by decide)]
    exact fin num Px S1 D1 O1 (fun z=>hz z.1)
end C
namespace L3
open PySem L2
def Ext(S S':ax):Prop:=∀a o,S a=some o->S' a=some o
def Ext.refl{S:ax}:Ext S S:=fun _ _ h=>h
def Ext.trans{S S1 S2:ax}(a:Ext S S1)(b:Ext S1 S2):Ext S S2:=fun x o h=>b x o (a x o h)
def Ext.new{S:ax}{p:Addr}{o:SO}(h:S p=none):Ext S (JZ S p o):=fun x u hx=>by rw[av (fun e=>by rw[e,h]at hx;cases hx)];exact hx
def Ext.free{S S':ax}(e:Ext S S'){p:Addr}(h:S' p=none):S p=none:=by
 cases q:S p with
 |none=>rfl
 |some o=>rw[e p o q]at h;cases h
theorem gv{g:Tg}{tc:k8}{te:bd}{σ':cG}{keep:ax->Prop}{fin:List PV->ax->Prop}{S:ax}(f:PV->PV)(c:PV->Bool)(hk:keep S):∀(items ys:List PV),
  (∀x∈items,∃σ2,g.put x σ'=some σ2/\(∀Q:Bool->ax->Prop,Q (c x) S->tc σ2 S Q eE)/\(c x=true->∀Q:bc,Q (f x) S->te σ2 S Q eE))->ys.length+items.length<=sizeLine->fin (ys++(items.filter c).map f) S->cJ g tc te σ' keep fin items ys S
 |[],ys,_,hl,hf=>⟨hk,by simpa using hl,by simpa using hf⟩
 |x::r,ys,h,hl,hf=>by
  obtain⟨σ2,e,h1,h2⟩:=h x (by simp)
  refine⟨hk,by simp at hl;omega,?_⟩
  rw[e]
  refine h1 _ ?_
  cases hc:c x with
  |true=>
   rw[if_pos rfl]
   refine h2 hc _ (gv f c hk r (ys++[f x]) (fun y hy=>h y (by simp[hy])) (by simp at hl ⊢;omega) ?_)
   rw[YI,hc,if_pos rfl]at hf
   simpa using hf
  |false=>
   rw[if_neg (by decide)]
   refine gv f c hk r ys (fun y hy=>h y (by simp[hy])) (by simp at hl ⊢;omega) ?_
   rw[YI,hc,if_neg (by decide)]at hf
   exact hf
def wZ{g:Tg}{te:bd}{σ':cG}{keep:ax->Prop}{fin:List PV->ax->Prop}{S:ax}(f:PV->PV){items:List PV}(hk:keep S)
  (h:∀x∈items,∃σ2,g.put x σ'=some σ2/\∀Q:bc,Q (f x) S->te σ2 S Q eE) (hl:items.length<=sizeLine) (hf:fin (items.map f) S):cJ g bN te σ' keep fin items [] S:=by
 refine gv f (fun _=>true) hk items [] (fun x hx=>?_) (by simpa using hl) (by rw[List.filter_eq_self.mpr (fun _ _=>rfl)];exact hf)
 obtain⟨σ2,e,k⟩:=h x hx
 exact⟨σ2,e,fun Q q=>q,fun _=>k⟩
theorem qe{g:Tg}{tc:k8}{te:bd}{σ':cG}{keep:ax->Prop}{fin:List PV->ax->Prop}{items:List PV}(Iv:List PV->List PV->ax->Prop)(hk:∀done ys S,Iv done ys S->keep S/\ys.length<=sizeLine)
  (step:∀done x rest ys S (K:List PV->ax->Prop),items=done++x::rest->Iv done ys S->(∀ys' S',Iv (done++[x]) ys' S'->K ys' S')->match g.put x σ' with
   |some σ2=>tc σ2 S (fun b S3=>if b=true then te σ2 S3 (fun y S4=>K (ys++[y]) S4) eE else K ys S3) eE
   |none=>False)
  (hf:∀ys S,Iv items ys S->fin ys S):∀(rest done ys:List PV) (S:ax),items=done++rest->Iv done ys S->cJ g tc te σ' keep fin rest ys S
 |[],done,ys,S,e,h=>by
  rw[Wh]at e
  exact⟨(hk _ _ _ h).1,(hk _ _ _ h).2,hf ys S (e▸h)⟩
 |x::rest,done,ys,S,e,h=>by
  refine⟨(hk _ _ _ h).1,(hk _ _ _ h).2,?_⟩
  exact step done x rest ys S (fun ys' S'=>cJ g tc te σ' keep fin rest ys' S') e h fun ys' S' h'=>qe Iv hk step hf rest (done++[x]) ys' S' (by rw[e];simp) h'
theorem sW{g:Tg}{tb:bx}{D:ni}{keep:ax->Prop}{items:List PV}(Iv:List PV->cG->ax->Prop)(hk:∀done σ S,Iv done σ S->keep S)
  (step:∀done x rest σ S (K:cG->ax->Prop),items=done++x::rest->Iv done σ S->(∀σ' S',Iv (done++[x]) σ' S'->K σ' S')->match g.put x σ with
   |some σ'=>tb { D with nx:=K,ct:=K,bk:=D.nx } σ' S
   |none=>False)
  (hd:∀σ S,Iv items σ S->D.nx σ S):∀(rest done:List PV)(σ:cG)(S:ax),items=done++rest->Iv done σ S->oX g tb D keep rest σ S
 |[],done,σ,S,e,h=>by
  rw[Wh]at e
  exact⟨hk _ _ _ h,hd σ S (e▸h)⟩
 |x::rest,done,σ,S,e,h=>
  ⟨hk _ _ _ h,step done x rest σ S (oX g tb D keep rest) e h fun σ' S' h'=>sW Iv hk step hd rest (done++[x]) σ' S' (by rw[e];simp) h'⟩
def bg{g:Tg}{tb:bx}{D:ni}{keep:ax->Prop}{items:List PV}{σ:cG}{S:ax}(Iv:List PV->cG->ax->Prop)(h0:Iv [] σ S)(hk:∀done σ S,Iv done σ S->keep S)
  (step:∀done x rest σ S (K:cG->ax->Prop),items=done++x::rest->Iv done σ S->(∀σ' S',Iv (done++[x]) σ' S'->K σ' S')->match g.put x σ with
   |some σ'=>tb { D with nx:=K,ct:=K,bk:=D.nx } σ' S
   |none=>False)
  (hd:∀σ S,Iv items σ S->D.nx σ S):oX g tb D keep items σ S:=sW Iv hk step hd items [] σ S rfl h0
def kn{g:Tg}{tc:k8}{te:bd}{σ':cG}{keep:ax->Prop}{fin:List PV->ax->Prop}{items:List PV}{S:ax}(Iv:List PV->List PV->ax->Prop)(h0:Iv [] [] S)(hk:∀done ys S,Iv done ys S->keep S/\ys.length<=sizeLine)
  (step:∀done x rest ys S (K:List PV->ax->Prop),items=done++x::rest->Iv done ys S->(∀ys' S',Iv (done++[x]) ys' S'->K ys' S')->match g.put x σ' with
   |some σ2=>tc σ2 S (fun b S3=>if b=true then te σ2 S3 (fun y S4=>K (ys++[y]) S4) eE else K ys S3) eE
   |none=>False)
  (hf:∀ys S,Iv items ys S->fin ys S):cJ g tc te σ' keep fin items [] S:=qe Iv hk step hf items [] [] S rfl h0
def ak{t u:bx}{D:ni}{σ:cG}{S:ax}(h:∀N:cG->ax->Prop,(∀σ S,u D σ S->N σ S)->t { D with nx:=N } σ S):ah t u D σ S:=h (u D) fun _ _ q=>q
def bT{n:Nat}{b:bx}{args:List PV}{S:ax}{Q:bc}{E:bC}(h:b { nx:=fun _ S'=>Q .non S',rt:=Q,ex:=eE } (am n args) S):aP n b args S Q E:=h
def zh{α β:Type}(f:α->β)(xs:List α)(lo hi:Option Int):jm (xs.map f) lo hi=(jm xs lo hi).map f:=by
 unfold jm
 rw[VI,List.map_take,List.map_drop]
def zi{α:Type}(xs:List α)(lo hi:Option Int):(jm xs lo hi).length<=xs.length:=by
 unfold jm
 rw[WS,XO]
 omega
def bh{n:Nat}(h:n<=1000):n<=sizeLine:=XI (fK h)
section
variable {α:Type}{a b c d e:α}{l:List α}
def cv:KN (a::l) 0=some a:=by simp[KN,t9]
def cX:KN (a::b::l) 1=some b:=bU (j:=1) rfl
def vN:KN (a::b::c::l) 2=some c:=bU (j:=2) rfl
def Ib:KN (a::b::c::d::l) 3=some d:=bU (j:=3) rfl
def Jy:KN (a::b::c::d::e::l) 4=some e:=bU (j:=4) rfl
def E4:KN [a] (-1)=some a:=rfl
def E5:KN [a,b] (-1)=some b:=rfl
def E6:KN [a,b,c] (-1)=some c:=rfl
def E7:KN [a,b,c,d] (-1)=some d:=rfl
def E8:KN [a,b,c,d,e] (-1)=some e:=rfl
def E9:KN [a,b] (-2)=some a:=rfl
def E_:KN [a,b,c] (-2)=some b:=rfl
def Fa:KN [a,b,c,d] (-2)=some c:=rfl
def Fb:KN [a,b,c,d,e] (-2)=some d:=rfl
end
def fQ(lo:Int)(n:Nat):(bQ lo n).length=n:=by simp[bQ]
end L3
namespace C
open PySem L2 L3
abbrev sX(w:ap):Prop:=∀{S:ax}{ns:Zw}{b:Int}{Q:bc}{E:bC},ns.length<=63->0<=b->b < 1000->(∀d l S',S d=none->S l=none->Ko S' d l->Ext S S'->Q (.ref d) S')->w [.cl (ns.map PV.int),.int b] S Q E
def Oq:sX (aP 5 ix):=by
 intro S ns b Q E hn h0 h1 k
 unfold aP ix
 rw[show am 5 [PV.cl (ns.map PV.int),PV.int b]=[some (.cl (ns.map PV.int)),some (.int b),none,none,none] from rfl]
 walk_at "x"
 intro p hp
 rw[aa]
 dsimp only
 rw[zh]
 have hx:(jm ns (some b) (some 63)).length<=63:=VU (zi _ _ _) hn
 generalize jm ns (some b) (some 63)=xs at hx
 refine wZ (fun v=>match v with | .int i=>.int (if 0 - i > i then 0 - i else i)|v=>v) aa (fun x hx=>?_) (bh (by rw[VI];omega)) ?_
 ·obtain⟨i,hi,rfl⟩:=VW.mp hx
  refine⟨[some (.int i)],rfl,fun Q q=>?_⟩
  walk_at "x"
  exact q
 intro p2 hp2
 rw[aa]
 dsimp only
 rw[V9]
 have e0:(xs.map ((fun v=>match v with | .int i=>.int (if 0 - i > i then 0 - i else i)|v=>v) ∘ PV.int))=(xs.map fun i=>if 0 - i > i then 0 - i else i).map PV.int:=by
  rw[V9];rfl
 rw[e0]
 have hy:((xs.map fun i=>if 0 - i > i then 0 - i else i)).length<=63:=by rw[VI];exact hx
 have QP:∀y∈xs.map (fun i:Int=>if 0 - i > i then 0 - i else i),0<=y:=by
  intro y hy
  obtain⟨i,_,rfl⟩:=VW.mp hy
  split<;>omega
 generalize (xs.map fun i=>if 0 - i > i then 0 - i else i)=ys at hy QP
 have h2:p2≠p:=fun e=>by rw[e,aa]at hp2;cases hp2
 have hp2':S p2=none:=by rw[<-hp2,av h2]
 refine bg (fun done σ S'=>S'=JZ (JZ S p (.lst (xs.map PV.int))) p2 (.lst (ys.map PV.int))/\∃v2 n,0<=n/\n < 2147483647/\σ=[some (.cl (ns.map PV.int)),some (.int b),v2,some (.ref p2),some (.int n)]) ⟨rfl,none,7919+b,by omega,by omega,rfl⟩ (fun done σ S' h=>by rw[h.1];exact aa) ?_ ?_
 ·rintro done x rest σ S' K e ⟨rfl,v2,n,n0,n1,rfl⟩ hK
  obtain⟨i,hi,rfl⟩:∃i,i∈ys/\x = .int i:=by
   have:x∈ys.map PV.int:=by rw[e];simp
   obtain⟨i,hi,rfl⟩:=VW.mp this
   exact⟨i,hi,rfl⟩
  walk_at "x"
  refine⟨nO (by decide) (by decide),by decide,by decide,hK _ _ ⟨rfl,_,_,?_,?_,rfl⟩⟩
  ·rw[iJ (by decide)];omega
  ·rw[iJ (i:=(n * 48271+_)) (by decide)];omega
 ·rintro σ S' ⟨rfl,v2,n,n0,n1,rfl⟩
  walk_at "x"
  intro d hd
  have hd2:d≠p2:=fun e=>by rw[e,aa]at hd;cases hd
  rw[av hd2]at hd
  have hd1:d≠p:=fun e=>by rw[e,aa]at hd;cases hd
  rw[av hd1]at hd
  rw[av hd2.symm,aa]
  dsimp only
  refine gv (fun v=>v) (fun v=>match v with | .int i=>decide (10 ^ 18<=i)|_=>false) (by rw[av hd2.symm,aa]) _ [] (fun x hx=>?_) (by rw[VI];exact bh (by simp;omega)) ?_
  ·obtain⟨i,hi,rfl⟩:=VW.mp hx
   refine⟨[some (.int i)],rfl,fun Q q=>?_,fun _ Q q=>?_⟩
   ·walk_at "x"
    exact⟨⟨by decide,by decide,by decide⟩,q⟩
   ·walk_at "x"
    exact q
  intro p3 hp3
  rw[aa]
  intro l hl
  have e3:([]++List.map (fun v:PV=>v) (List.filter (fun v=>match v with | .int i=>decide (10 ^ 18<=i)|_=>false) (List.map PV.int ys)))=(ys.filter fun i=>decide (10 ^ 18<=i)).map PV.int:=by
   rw[Wm,List.map_id',List.filter_map]
   rfl
  rw[e3]at hl ⊢
  rw[<-List.map_reverse]
  generalize Ua:JZ (JZ (JZ (JZ S p (SO.lst (List.map PV.int xs))) p2 (SO.lst (List.map PV.int ys))) d (SO.dct [])) p3 (SO.lst (List.map PV.int (List.filter (fun i=>decide (10 ^ 18<=i)) ys)))=S3 at hl ⊢
  have Ub:S3 d=some (.dct []):=by rw[<-Ua,av (fun e=>by rw[<-e,aa]at hp3;cases hp3),aa]
  have RF:l≠d:=fun e=>by rw[e,Ub]at hl;cases hl
  have Tf:Ext S S3:=by
   rw[<-Ua]
   refine(Ext.new hp).trans ((Ext.new hp2).trans ((Ext.new ?_).trans (.new hp3)))
   rw[av hd2,av hd1];exact hd
  refine⟨by rw[av RF.symm];exact Ub,?_⟩
  have e4:sL [(PV.str "seed",PV.int n),(PV.str "number",PV.int 0),(PV.str "left",PV.ref l)]=some (cu n 0 l):=rfl
  rw[e4]
  have e5:iu [] (cu n 0 l)=cu n 0 l:=by simp[iu,cu,nB,sS,aG]
  dsimp only
  rw[e5]
  refine k d l _ hd (Tf.free hl) ⟨n,0,_,aa,by rw[av RF,aa],n0,n1,Wi _,fun y hy=>?_,?_⟩ ?_
  ·exact QP y (WI.mp (List.mem_reverse.mp hy)).1
  ·rw[YO]
   exact VU (W7 _ _) (by omega)
  ·intro a o ha
   have had:a≠d:=fun e=>by rw[e,hd]at ha;cases ha
   rw[av had,av (fun e=>by rw[e,Tf.free hl]at ha;cases ha)]
   exact Tf a o ha
end C
namespace L3
open PySem L2
theorem nQ(S:ax):∀zs:List Str,MB S (zs.map PV.str) (zs.map PyData.str)
 |[]=>.nil
 |z::r=>.cons (.str z) (nQ S r)
theorem iK:∀{zs:Zs},(∀z∈zs,PyData.strOk z=true)->PyData.canLayAll0 (zs.map PyData.str)=true
 |[],_=>rfl
 |z::r,h=>by
  show(PyData.canLay0 (.str z)&&PyData.canLayAll0 (r.map PyData.str))=true
  rw[iK fun y hy=>h y (by simp[hy])]
  have:PyData.canLay0 (.str z)=true:=h z (by simp)
  rw[this];rfl
def nR(z:Str)(zs:Zs):ml (.str z) (zs.map PyData.str)=decide (z∈zs):=by
 unfold ml
 rw[List.any_map,Yv,List.any_eq_true,decide_eq_true_iff]
 constructor
 ·rintro⟨y,hy,e⟩
  have e':(y == z)=true:=e
  exact(eq_of_beq e')▸hy
 ·intro h
  exact⟨z,h,beq_self_eq_true z⟩
def eB{neg:Bool}{z:Str}{zs:Zs}{a:Addr}{S:ax}{Q:bc}(hS:S a=some (.lst (zs.map PV.str)))(hz:PyData.strOk z=true)(hzs:∀y∈zs,PyData.strOk y=true)(q:Q (.bl (neg != decide (z∈zs))) S):jC neg (.str z) (.ref a) S Q:=by
 unfold jC
 simp only[hS]
 exact⟨_,_,.str z,nQ S zs,hz,iK hzs,by show 0<=150;decide,by rw[nR];exact q⟩
def bR{neg:Bool}{z:Str}{zs:Zs}{S:ax}{Q:bc}(hz:PyData.strOk z=true)(hzs:∀y∈zs,PyData.strOk y=true)(q:Q (.bl (neg != decide (z∈zs))) S):jC neg (.str z) (.tup (zs.map PV.str)) S Q:=by
 unfold jC
 exact⟨_,_,.str z,nQ S zs,hz,iK hzs,by show 0<=150;decide,by rw[nR];exact q⟩
end L3
namespace C
open PySem L2 L3 Wd
abbrev i7(w:ap):Prop:=∀{S:ax}{t b:Int}{Q:bc}{E:bC},0 < b->b.natAbs < 2 ^ 8000->Q (.tup [.int (M3.aW t b),.int (M3.aE t b)]) S->w [.int t,.int b] S Q E
def L8:i7 (aP 4 jG):=by
 intro S t b Q E hb hs k
 unfold aP jG
 rw[show am 4 [PV.int t,PV.int b]=[some (.int t),some (.int b),none,none] from rfl]
 simp only[ah]
 walk_at "x"
 refine⟨fun n σ S'=>S'=S/\∃x y:Int,σ=[some (.int t),some (.int b),some (.int x),some (.int y)]/\0<=x/\0<=y/\Int.gcd x y=Int.gcd t b/\y.toNat=n,⟨_,rfl,_,b,rfl,by split<;>omega,by omega,?_,rfl⟩,?_⟩
 ·split
  ·rw[show(0 - t) = -t by omega,Int.neg_gcd]
  ·rfl
 rintro n σ S' ⟨rfl,x,y,rfl,hx,hy,hg,rfl⟩
 walk_at "x"
 simp only[VS]
 split
 ·rename_i hp
  refine⟨fun σ' Os=>Os=S'/\∃x' y':Int,σ'=[some (.int t),some (.int b),some (.int x'),some (.int y')]/\0<=x'/\0<=y'/\Int.gcd x' y'=Int.gcd t b/\y'.toNat < y.toNat,?_,?_⟩
  ·rintro σ' Os ⟨rfl,x',y',rfl,h1,h2,h3,h4⟩
   exact⟨_,h4,rfl,x',y',rfl,h1,h2,h3,rfl⟩
  ·walk_at "x"
   have e:x.fmod y=x % y:=iJ hy
   have l1:=YZ x (b:=y) (by omega)
   have l2:=Yt x hp
   refine⟨by omega,trivial,y,x.fmod y,rfl,hy,by omega,?_,by omega⟩
   rw[M3.nh];exact hg
 ·rename_i hp
  have QP:y=0:=by omega
  subst QP
  have RG:x=(Int.gcd t b:Int):=by
   rw[<-hg]
   rw[ZX]
   omega
  subst RG
  have gp:(0:Int) < (Int.gcd t b:Int):=Yy.mpr (M3.fY (by omega))
  have gl:=M3.uz (t:=t) (b:=b) (by omega)
  have cd:∀z,mj z (Int.gcd t b:Int):=fun z=>⟨by omega,Wy (by omega) hs⟩
  refine⟨cd _,cd _,?_⟩
  have d1:=(M3.m_ (t:=t) (b:=b) (by omega))
  rw[if_neg (by omega)]at d1
  rw[d1.1,d1.2]
  exact k
structure uQ(x y:Int):Prop where
 low:M3.FU x y
 x0:0<=x
 x1:x<=999
 y1:y<=9
def i8{n:Nat}(h:n < 2 ^ 64):n < 2 ^ 8000:=Xy h (Xe (by decide) (by decide))
abbrev nS(w:ap):Prop:=∀{S:ax}{d l:Addr}{Q:bc}{E:bC},Ko S d l->(∀x y S',uQ x y->Ko S' d l->LU d l S S'->Q (.tup [.int x,.int y]) S')->w [.ref d] S Q E
def Ot{wd wl:ap}(J8:cW wd)(L8:i7 wl):nS (aP 2 (iz wd wl)):=by
 intro S d l Q E D k
 unfold aP iz
 rw[show am 2 [PV.ref d]=[some (.ref d),none] from rfl]
 walk_at "x"
 refine J8 D (by decide) (by decide) fun r S1 r0 r1 D1 O1=>?_
 simp only[VX,VS]
 split
 ·exact k 0 1 S1 ⟨⟨by decide,by decide⟩,by decide,by decide,by decide⟩ D1 O1
 ·split
  ·refine J8 D1 (by decide) (by decide) fun r2 S2 a0 a1 D2 O2=>?_
   exact k _ 1 S2 ⟨⟨by decide,Int.gcd_one_right _⟩,by omega,by omega,by decide⟩ D2 (O1.trans O2)
  ·refine J8 D1 (by decide) (by decide) fun r2 S2 a0 a1 D2 O2=>J8 D2 (by decide) (by decide) fun r3 S3 b0 b1 D3 O3=>?_
   refine L8 (by omega) (i8 (by omega)) ?_
   have z:=M3.sG (t:=r2) (b:=1+r3) (T:=999) (B:=9) (by omega) (by omega) (by omega) (by omega) (by omega) (by decide) (by decide)
   refine k _ _ S3 ⟨M3.i3 (by omega),?_,z.2.1,z.2.2.2⟩ D3 (O1.trans (O2.trans O3))
   unfold M3.aW
   rw[if_neg (by omega)]
   exact Yc a0 (by omega)
def w4{r:Int}(h0:0<=r)(h1:r < 26):∃c,KN abc.cps.toList r=some c/\97<=c/\c<=122:=by
 obtain⟨n,rfl⟩:=WG h0
 have q:=qK n
 rw[Nat.mod_eq_of_lt (by omega)]at q
 exact⟨_,q,by omega,by omega⟩
def rq{z:Str}(h:OQ z):PyData.strOk z=true:=by
 unfold PyData.strOk
 rw[Array.all_eq_true']
 intro c hc
 have:=h.sm c (by simpa using hc)
 simp;omega
def BY:∀z∈LB,PyData.strOk z=true:=by decide +kernel
theorem lG:∀zs:List Str,texts (zs.map PV.str)=some zs
 |[]=>rfl
 |z::r=>by show(texts (r.map PV.str)).map (z::·)=_;rw[lG r];rfl
def w5:("":Str).length=0:=by decide +kernel
def qf{cs:List Nat}(h:cs.length<=1000):((cs.map lj).map (·.length)).sum+(cs.map lj).length * ("":Str).length<=1000000:=by
 rw[Bs,w5]
 omega
def nU{w__law_draw:ap}(J8:cW w__law_draw){S:ax}{d l:Addr}{σ:cG}{n:Int}{fin:List PV->ax->Prop}(D:Ko S d l)(hn:n.toNat<=100)(h1:lk σ 1=some (.ref d))(h2:lk σ 2=some (.str abc))(hσ:∃x,σ=[x,some (.ref d),some (.str abc)])
  (k:∀(cs:List Nat) S',cs.length=n.toNat->(∀c∈cs,97<=c/\c<=122)->Ko S' d l->LU d l S S'->fin ((cs.map lj).map PV.str) S') :
  cJ (Tg.n 0) bN (af ae (v3 2) (ab w__law_draw [v3 1,c3 (.int 26)])) σ (fun _=>True) fin (bQ 0 n.toNat) [] S:=by
 obtain⟨x0,rfl⟩:=hσ
 refine kn (fun done ys S'=>∃cs:List Nat,ys=(cs.map lj).map PV.str/\cs.length=done.length/\done.length<=n.toNat/\(∀c∈cs,97<=c/\c<=122)/\Ko S' d l/\LU d l S S') ⟨[],rfl,rfl,Ws _,by simp,D,.refl⟩ ?_ ?_ ?_
 ·rintro done ys S' ⟨cs,rfl,e,hd,_⟩
  exact⟨trivial,bh (by rw[VI,VI,e];omega)⟩
 ·rintro done x rest ys S' K e ⟨cs,rfl,e2,hd,hc,D',O'⟩ hK
  have hlen:done.length+1<=n.toNat:=by
   have:=WW List.length e
   rw[fQ,VH,V1]at this
   omega
  walk_at "x"
  simp only[bN,WB]
  refine J8 D' (by decide) (by decide) fun r S2 r0 r1 D2 O2=>⟨mN.1,?_⟩
  obtain⟨c,ec,c0,c1⟩:=w4 r0 r1
  rw[ec]
  refine hK _ _ ⟨cs++[c],by simp,by simp[e2],by simpa using hlen,fun y hy=>?_,D2,O'.trans O2⟩
  rcases VO.mp hy with hy|hy
  ·exact hc y hy
  ·rw[VN.mp hy];exact⟨c0,c1⟩
 ·rintro ys S' ⟨cs,rfl,e,hd,hc,D',O'⟩
  exact k cs S' (by rw[e,fQ]) hc D' O'
theorem sY{f:Str->List Nat}(r:List Nat):∀xs:List Str,(xs.map f).Nodup->(xs.filter fun z=>f z == r).length<=1
 |[],_=>Ws _
 |x::xs,h=>by
  rw[VT,WJ]at h
  rw[YI]
  by_cases e:(f x == r)=true
  ·rw[if_pos e]
   have no:(xs.filter fun z=>f z == r)=[]:=by
    refine List.filter_eq_nil_iff.mpr fun z hz q=>h.1 ?_
    rw[eq_of_beq e,<-eq_of_beq q]
    exact VW.mpr ⟨z,hz,rfl⟩
   rw[no]
   exact VM _
  ·rw[if_neg e]
   exact sY r xs h.2
def zj(r:List Nat):(LB.filter fun z=>z.cps.toList.tail == r).length<=1:=sY (f:=fun z=>z.cps.toList.tail) r LB (by decide +kernel)
def uR(r:List Nat)(c:Nat)(ns:Zs)(h:ns.length < 17):∃j,j < 26/\cand r (c+j) ∉ LB++ns:=by
 obtain⟨j,hj,free⟩:=wQ r c ((LB.filter fun z=>z.cps.toList.tail == r)++ns) (by rw[VH];have:=zj r;omega)
 refine⟨j,hj,fun hm=>free ?_⟩
 rcases VO.mp hm with q|q
 ·exact WU _ (WI.mpr ⟨q,by simp[cand]⟩)
 ·exact Wf _ q
abbrev lH(w:ap):Prop:=∀{S:ax}{d l:Addr}{m:Int}{Q:bc}{E:bC},Ko S d l->0<=m->m<=17->(∀p (ns:Zs) S',ns.length=m.toNat->ns.Nodup->(∀z∈ns,OQ z/\z ∉ LB)->S p=none->p≠d->p≠l->S' p=some (.lst (ns.map PV.str))->Ko S' d l->LU d l S S'->Q (.ref p) S')->w [.ref d,.int m] S Q E
def NX{wd:ap}(J8:cW wd):lH (aP 11 (gg wd)):=by
 intro S d l m Q E D h0 h1 k
 unfold gg
 refine bT ?_
 rw[show am 11 [PV.ref d,PV.int m]=[some (.ref d),some (.int m),none,none,none,none,none,none,none,none,none] from rfl]
 refine ak fun N hN=>?_
 walk_at "x"
 refine hN _ _ (ak fun N hN=>?_)
 walk_at "x"
 intro pT hT
 have dT:=D.free hT
 have D0:Ko (JZ S pT (.lst (LB.map PV.str))) d l:=D.new hT
 have Uc:(JZ S pT (.lst (LB.map PV.str))) pT=some (.lst (LB.map PV.str)):=aa
 have O0:LU d l S (JZ S pT (.lst (LB.map PV.str))):=.new hT
 have eK:[PV.str "jars",PV.str "deed",PV.str "rest",PV.str "pay",PV.str "put",PV.str "then",PV.str "either",PV.str "take",PV.str "often",PV.str "use"]=LB.map PV.str:=rfl
 rw[eK]
 generalize JZ S pT (.lst (LB.map PV.str))=S0 at D0 Uc O0 ⊢
 refine hN _ _ (ak fun N hN=>?_)
 walk_at "x"
 refine⟨trivial,J8 D0 (by decide) (by decide) fun n S1 n0 n1 D1 O1=>⟨by omega,by omega,?_⟩⟩
 refine nU J8 D1 (by omega) rfl rfl ⟨_,rfl⟩ fun cs S2 hl hc D2 O2 pj hj=>?_
 simp only[pU,aa,lG]
 refine⟨qf (by omega),?_⟩
 rw[show Txt.join (Str.ofString "") (cs.map lj)=⟨cs.toArray⟩from m8 cs]
 refine hN _ _ (ak fun N hN=>?_)
 walk_at "x"
 have hcl:cs.length<=5:=by omega
 have lc:(⟨cs.toArray⟩:Str).length=cs.length:=VQ
 refine⟨by rw[lc];exact bh (by omega),J8 (D2.new hj) (by rw[lc];omega) (by rw[lc];omega) fun at' S3 a0 a1 D3 O3=>J8 D3 (by decide) (by decide) fun tu S4 t0 t1 D4 O4=>J8 D4 (by decide) (by decide) fun nr S5 r0 r1 D5 O5=>?_⟩
 rw[lc]at a1
 obtain⟨an,rfl⟩:=WG a0
 obtain⟨tn,rfl⟩:=WG t0
 refine hN _ _ (ak fun N hN=>?_)
 walk_at "x"
 intro q hq
 have dq:=D5.free hq
 have OA:LU d l S0 S5:=O1.trans (O2.trans ((LU.new hj).trans (O3.trans (O4.trans O5))))
 have Th:=OA _ _ Uc dT.1 dT.2
 have Ud:pT≠q:=fun e=>by rw[e,hq]at Th;cases Th
 have Ue:S q=none:=by
  cases e:S q with
  |none=>rfl
  |some o=>rw[OA _ _ (O0 _ _ e dq.1 dq.2) dq.1 dq.2]at hq;cases hq
 refine hN _ _ (ak fun N hN=>?_)
 simp only[bE,nC,v3,lk]
 refine⟨by omega,by omega,?_⟩
 refine bg (fun done σ S'=>∃(ns:Zs) (v4 v10:Option PV) (near:Bool),σ=[some (.ref d),some (.int m),some (.str abc),some (.ref pT),v4,some (.str ⟨cs.toArray⟩),some (.int an),some (.int tn),some (.bl near),some (.ref q),v10]/\ns.length=done.length/\ns.Nodup/\(∀z∈ns,OQ z/\z ∉ LB)/\S' q=some (.lst (ns.map PV.str))/\S' pT=some (.lst (LB.map PV.str))/\Ko S' d l/\LU d l S S')
  ⟨[],_,_,_,rfl,rfl,ZV,(fun z hz=>nomatch hz),aa,by rw[av Ud];exact Th,D5.new hq,O0.trans (OA.trans (.new hq))⟩ (fun _ _ _ _=>trivial) ?_ ?_
 ·rintro done x rest σ S6 K e ⟨ns,v4,v10,near,rfl,Ti,Tj,w6,Sm,Tk,D6,O6⟩ hK
  have hlen:done.length < m.toNat:=by
   have:=WW List.length e
   rw[fQ,VH,V1]at this
   omega
  have hx:x = .int (0+(done.length:Nat)):=by
   have h2:=WW (fun l=>l[done.length]?) e
   simp only[WA (VM _),Nat.sub_self,List.getElem?_cons_zero]at h2
   unfold bQ at h2
   rw[V2,ZR hlen]at h2
   simpa using h2.symm
  subst hx
  -- the tail: a word is changed UY it is new,then laid down
  have ql:∀(z:Str)(v4:Option PV)(S7:ax),OQ z->S7 q=some (.lst (ns.map PV.str))->S7 pT=some (.lst (LB.map PV.str))->Ko S7 d l->LU d l S S7->
    ah (ir (oM (aR (af (jC false) (v3 10) (v3 3))) (aR (af (jC false) (v3 10) (v3 9)))) (aq 10 (af aN (af ae (v3 2) (af iw (af aN (hZ "str" lz (v3 2) [(af ae (v3 10) (c3 (.int 0)))]) (c3 (.int 1))) (c3 (.int 26)))) (cP (v3 10) (t_ (c3 (.int 1))) xS))))
     (bm (hZ "list" bA (v3 9) [(v3 10)])) { nx:=K,rt:=Q,ex:=eE,bk:=N,ct:=K } [some (.ref d),some (.int m),some (.str abc),some (.ref pT),v4,some (.str ⟨cs.toArray⟩),some (.int an),some (.int tn),some (.bl near),some (.ref q),some (.str z)] S7:=by
   intro z v4 S7 hz Uf Ug D7 O7
   obtain⟨i,r,rfl,hi,UZ,hrs⟩:=hz.cand
   obtain⟨j,hj,free⟩:=uR r i ns (by omega)
   refine⟨fun mm σ S'=>∃t,σ=[some (.ref d),some (.int m),some (.str abc),some (.ref pT),v4,some (.str ⟨cs.toArray⟩),some (.int an),some (.int tn),some (.bl near),some (.ref q),some (.str (cand r (i+t)))]/\S'=S7/\t<=j/\mm=j - t,⟨j,0,rfl,rfl,Ws _,rfl⟩,?_⟩
   rintro mm σ S' ⟨t,rfl,rfl,ht,rfl⟩
   have hw:=yD UZ hrs (i+t)
   have Tl:∀y∈ns,PyData.strOk y=true:=fun y hy=>rq (w6 y hy).1
   have go:t < j->∃N:cG->ax->Prop,(∀σ' Os,N σ' Os->∃m',m' < j - t/\∃t',σ'=[some (.ref d),some (.int m),some (.str abc),some (.ref pT),v4,some (.str ⟨cs.toArray⟩),some (.int an),some (.int tn),some (.bl near),some (.ref q),some (.str (cand r (i+t')))]/\Os=S'/\t'<=j/\m'=j - t')/\
     N ([some (.ref d),some (.int m),some (.str abc),some (.ref pT),v4,some (.str ⟨cs.toArray⟩),some (.int an),some (.int tn),some (.bl near),some (.ref q),some (.str (cand r (i+(t+1))))]) S':=fun lt=>
    ⟨fun σ' Os=>σ'=[some (.ref d),some (.int m),some (.str abc),some (.ref pT),v4,some (.str ⟨cs.toArray⟩),some (.int an),some (.int tn),some (.bl near),some (.ref q),some (.str (cand r (i+(t+1))))]/\Os=S',fun σ' Os ⟨e1,e2⟩=>⟨j - (t+1),by omega,t+1,e1,e2,by omega,rfl⟩,rfl,rfl⟩
   have Sn:((((i+t) % 26:Nat):Int)+1).fmod 26=(((i+t+1) % 26:Nat):Int):=by rw[iJ (by decide)];omega
   walk_at "x"
   refine eB Ug (rq hw) BY ?_
   simp only[VX,VS]
   split
   ·rename_i g
    have lt:t < j:=Nat.lt_of_le_of_ne ht fun e=>by subst e;exact free (WU _ g)
    obtain⟨N,hN,hn⟩:=go lt
    rw[if_pos trivial]
    refine⟨N,hN,trivial,hw.line,?_⟩
    rw[pP]
    simp only[lz,yB _ (Nat.mod_lt _ (by decide))]
    refine⟨by decide,mN.1,?_⟩
    rw[Sn,qK (i+t+1)]
    refine⟨hw.line,?_,?_⟩
    ·rw[i0]
     exact bh (show 1+r.toArray.size<=1000 by rw[VQ];omega)
    ·rw[i0,pQ]
     exact hn
   ·rename_i g
    refine eB Uf (rq hw) Tl ?_
    simp only[VX,VS]
    split
    ·rename_i g2
     have lt:t < j:=Nat.lt_of_le_of_ne ht fun e=>by subst e;exact free (Wf _ g2)
     obtain⟨N,hN,hn⟩:=go lt
     refine⟨N,hN,trivial,hw.line,?_⟩
     rw[pP]
     simp only[lz,yB _ (Nat.mod_lt _ (by decide))]
     refine⟨by decide,mN.1,?_⟩
     rw[Sn,qK (i+t+1)]
     refine⟨hw.line,?_,?_⟩
     ·rw[i0]
      exact bh (show 1+r.toArray.size<=1000 by rw[VQ];omega)
     ·rw[i0,pQ]
      exact hn
    ·rename_i g2
     simp only[Uf]
     refine⟨trivial,by rw[VI];exact fK (by omega),hK _ _ ⟨ns++[cand r (i+t)],_,_,_,rfl,by simp[Ti],Z6.mpr ⟨Tj,by simp,fun a ha b hb e=>?_⟩,fun z hz=>?_,by rw[We];exact aa,by rw[av Ud];exact Ug,D7.upd dq.1 dq.2,fun a o ha h1 h2=>?_⟩⟩
     ·rw[VN.mp hb]at e
      exact g2 (e▸ha)
     ·rcases VO.mp hz with hz|hz
      ·exact w6 z hz
      ·rw[VN.mp hz]
       exact⟨hw,g⟩
     ·rw[av (fun e=>by rw[e,Ue]at ha;cases ha)]
      exact O7 a o ha h1 h2
  obtain⟨pw,U0,pl2⟩:=Bt hcl hc (a:=an) (i:=(tn+done.length) % 26) (by omega) (Nat.mod_lt _ (by decide))
  have Sn:((tn:Int)+(0+(done.length:Int))).fmod 26=(((tn+done.length) % 26:Nat):Int):=by rw[iJ (by decide)];omega
  have Uh:(⟨cs.toArray⟩:Str).length<=sizeLine:=by rw[lc];exact bh (by omega)
  simp only[Tg.put]
  refine ak fun N2 MZ=>?_
  walk_at "x"
  refine⟨Uh,by decide,mN.1,?_⟩
  rw[Sn,qK (tn+done.length)]
  refine⟨VU (Nat.add_le_add U0 (VM 1)) (by decide),Uh,VU (Ze (Array.size_append).symm) (VU pw.len (by decide)),?_⟩
  refine MZ _ _ (ak fun N3 Pb=>?_)
  walk_at "x"
  split
  ·refine⟨trivial,J8 D6 (by decide) (by decide) fun n2 Sa m0 m1 Da Oa=>⟨by omega,by omega,?_⟩⟩
   refine nU J8 Da (by omega) rfl rfl ⟨_,rfl⟩ fun Rc Sb hl2 hc2 Db Ob U1 hj2=>?_
   simp only[pU,aa,lG]
   refine⟨qf (by omega),?_⟩
   rw[show Txt.join (Str.ofString "") (Rc.map lj)=⟨Rc.toArray⟩from m8 Rc]
   refine Pb _ _ ?_
   have wz:OQ (⟨Rc.toArray⟩:Str):=⟨fun e=>by have e':Rc=[]:=e;rw[e']at hl2;simp at hl2;omega,by show Rc.length<=6;omega,hc2⟩
   have OB:LU d l S6 (JZ Sb U1 (.lst ((Rc.map lj).map PV.str))):=Oa.trans (Ob.trans (.new hj2))
   exact ql _ _ _ wz (OB _ _ Sm dq.1 dq.2) (OB _ _ Tk dT.1 dT.2) (Db.new hj2) (O6.trans OB)
  ·exact Pb _ _ (ql _ _ S6 pw Sm Tk D6 O6)
 ·rintro σ S6 ⟨ns,v4,v10,near,rfl,Ti,Tj,w6,Sm,Tk,D6,O6⟩
  refine hN _ _ ?_
  walk_at "x"
  exact k q ns S6 (by rw[Ti,fQ]) Tj w6 Ue dq.1 dq.2 Sm D6 O6
inductive Bd where
 |rest|pay (x y:Int)|put (z:Str) (m:Int)|use (z:Str)|Kf (a:Bd)|J9 (a b:Bd)|Kg (a b:Bd)|Ka (z:Str) (m:Int) (a b:Bd)
noncomputable def Bd.pv:Bd->PV
 | .rest=>.tup [.str "rest"]
 | .pay x y=>.tup [.str "pay",.tup [.int x,.int y]]
 | .put z m=>.tup [.str "put",.str z,.int m]
 | .use z=>.tup [.str "use",.str z]
 | .Kf a=>.tup [.str "often",a.pv]
 | .J9 a b=>.tup [.str "then",a.pv,b.pv]
 | .Kg a b=>.tup [.str "either",a.pv,b.pv]
 | .Ka z m a b=>.tup [.str "take",.str z,.int m,a.pv,b.pv]
noncomputable def Bd.dep:Bd->Nat
 | .Kf a=>a.dep+1
 | .J9 a b=>max a.dep b.dep+1
 | .Kg a b=>max a.dep b.dep+1
 | .Ka _ _ a b=>max a.dep b.dep+1
 |_=>1
noncomputable def Bd.size:Bd->Nat
 | .Kf a=>a.size+1
 | .J9 a b=>a.size+b.size+1
 | .Kg a b=>a.size+b.size+1
 | .Ka _ _ a b=>a.size+b.size+1
 |_=>1
noncomputable def Bd.good(js us:Zs):Bd->Prop
 | .rest=>True
 | .pay x y=>uQ x y
 | .put z m=>z∈js/\1<=m/\m<=9
 | .use z=>z∈us
 | .Kf a=>a.good js us
 | .J9 a b=>a.good js us/\b.good js us
 | .Kg a b=>a.good js us/\b.good js us
 | .Ka z m a b=>z∈js/\1<=m/\m<=9/\a.good js us/\b.good js us
def Bd.Ke(t:Bd):1<=t.dep:=by cases t<;>simp[Bd.dep]
def ko{α:Type}{xs:List α}{r:Int}(h0:0<=r)(h1:r < xs.length):∃v,KN xs r=some v/\v∈xs:=by
 obtain⟨n,rfl⟩:=WG h0
 have hn:n < xs.length:=by omega
 exact⟨xs[n],bU (by simp[hn]),List.getElem_mem hn⟩
noncomputable def Bd.leaf:Bd->Prop
 | .rest=>True
 | .pay _ _=>True
 | .put _ _=>True
 |_=>False
def Bd.Nm{t:Bd}(h:t.leaf):t.dep=1/\t.size=1:=by cases t<;>first|exact⟨rfl,rfl⟩|exact h.elim
abbrev kq(w:ap):Prop:=∀{S:ax}{d l:Addr}{js:Zs}{Q:bc}{E:bC},Ko S d l->js.length < 2 ^ 61->(∀(t:Bd) S',t.leaf->t.good js []->Ko S' d l->LU d l S S'->Q t.pv S')->w [.ref d,.tup (js.map PV.str)] S Q E
def MX{wd wc:ap}(J8:cW wd)(Ot:nS wc):kq (aP 4 (iA wd wc)):=by
 intro S d l js Q E D hj k
 unfold iA
 refine bT ?_
 rw[show am 4 [PV.ref d,PV.tup (js.map PV.str)]=[some (.ref d),some (.tup (js.map PV.str)),none,none] from rfl]
 refine ak fun N hN=>?_
 walk_at "x"
 refine J8 D (by decide) (by decide) fun r S1 r0 r1 D1 O1=>?_
 refine hN _ _ (ak fun N hN=>?_)
 walk_at "x"
 simp only[VX,VS]
 split
 ·exact k .rest S1 trivial trivial D1 O1
 refine hN _ _ (ak fun N hN=>?_)
 walk_at "x"
 simp only[VX,VS,VI]
 have pay:wc [.ref d] S1 (fun x S=>Q (.tup [.str "pay",x]) S) eE:=Ot D1 fun x y S2 c D2 O2=>k (.pay x y) S2 trivial c D2 (O1.trans O2)
 split
 ·rw[if_pos trivial];exact pay
 split
 ·exact pay
 rename_i hr hz
 refine hN _ _ (ak fun N hN=>?_)
 walk_at "x"
 refine J8 D1 (by decide) (by decide) fun r2 S2 a0 a1 D2 O2 p hp=>J8 (D2.new hp) (by decide) (by decide) fun r3 S3 b0 b1 D3 O3=>?_
 have dp:=D2.free hp
 have hp3:=O3 _ _ (aa (S:=S2) (o:=.lst [.int 1,.int 2,.int (1+r2)])) dp.1 dp.2
 simp only[hp3]
 obtain⟨v,hv,hm⟩:=ko (xs:=[PV.int 1,.int 2,.int (1+r2)]) b0 (by simpa using b1)
 rw[hv]
 obtain⟨m,rfl,m0,m1⟩:∃m,v = .int m/\1<=m/\m<=9:=by
  simp only[VL,V3,WK]at hm
  rcases hm with rfl|rfl|rfl
  ·exact⟨1,rfl,by omega,by omega⟩
  ·exact⟨2,rfl,by omega,by omega⟩
  ·exact⟨1+r2,rfl,by omega,by omega⟩
 refine hN _ _ ?_
 walk_at "x"
 simp only[VI]
 refine J8 D3 (by omega) (by omega) fun r4 S4 c0 c1 D4 O4=>?_
 obtain⟨w,hw,Tm⟩:=ko (xs:=js.map PV.str) c0 (by rw[VI];exact c1)
 dsimp only
 rw[hw]
 obtain⟨z,hz,rfl⟩:=VW.mp Tm
 exact k (.put z m) S4 trivial ⟨hz,m0,m1⟩ D4 (O1.trans (O2.trans ((LU.new hp).trans (O3.trans O4))))
def NY(d l x:Addr)(S S':ax):Prop:=∀a o,S a=some o->a≠d->a≠l->a≠x->S' a=some o
theorem _root_.L3.LU.x{d l x:Addr}{S S':ax}(h:LU d l S S'):NY d l x S S':=fun a o e h1 h2 _=>h a o e h1 h2
def NY.trans{d l x:Addr}{S S1 S2:ax}(a:NY d l x S S1)(b:NY d l x S1 S2):NY d l x S S2:=fun y o h h1 h2 h3=>b y o (a y o h h1 h2 h3) h1 h2 h3
def NY.upd{d l x:Addr}{S:ax}{o:SO}:NY d l x S (JZ S x o):=fun y u h h1 h2 h3=>by rw[av h3];exact h
abbrev kr(n:Nat)(w:ap):Prop:=∀{S:ax}{d l x:Addr}{js:Zs}{left down:Int}{Q:bc}{E:bC},Ko S d l->S x=some (.lst [.int left])->x≠d->x≠l->js.length < 2 ^ 61->0<=left->left < 2 ^ 61->0<=down->down < n->
  (∀(t:Bd) S' left',t.good js []->(t.dep:Int)<=down+1->0<=left'->(t.size:Int)+left'<=left+1->Ko S' d l->S' x=some (.lst [.int left'])->NY d l x S S'->Q t.pv S')->w [.ref d,.tup (js.map PV.str),.ref x,.int down] S Q E
def Ou{wd wl rb:ap}(J8:cW wd)(MX:kq wl)(n:Nat)(ih:kr n rb):kr (n+1) (aP 8 (iB wd wl rb)):=by
 intro S d l x js left down Q E D hx hxd Qk hj h0 h1 h2 h3 k
 unfold iB
 refine bT ?_
 rw[show am 8 [PV.ref d,PV.tup (js.map PV.str),PV.ref x,PV.int down]=[some (.ref d),some (.tup (js.map PV.str)),some (.ref x),some (.int down),none,none,none,none] from rfl]
 refine ak fun N hN=>?_
 walk_at "x"
 refine J8 D (by decide) (by decide) fun r S1 r0 r1 D1 O1=>?_
 have QA:=O1 _ _ hx hxd Qk
 refine hN _ _ (ak fun N hN=>?_)
 walk_at "x"
 have a0:KN [PV.int left] 0=some (.int left):=rfl
 simp only[VX,VS,QA,a0]
 have lf:wl [.ref d,.tup (js.map PV.str)] S1 Q eE:=MX D1 hj fun t S2 hl hg D2 O2=>k t S2 left hg (by rw[(Bd.Nm hl).1];omega) h0 (by rw[(Bd.Nm hl).2];omega) D2 (O2 _ _ QA hxd Qk) (O1.x.trans O2.x)
 split
 ·rw[if_pos trivial];exact lf
 split
 ·rw[if_pos trivial];exact lf
 split
 ·exact lf
 rename_i hd hl hf
 refine hN _ _ (ak fun N hN=>?_)
 simp only[br,aR,af,v3,c3,lk,uK,f_,VS]
 have Ui:t9 [PV.int left].length 0=some 0:=rfl
 split
 ·refine ak fun N2 MZ=>?_
  walk_at "x"
  simp only[QA,a0,Ui]
  refine MZ _ _ ?_
  walk_at "x"
  refine ih (left:=left - 1) (D1.upd hxd Qk) aa hxd Qk hj (by omega) (by omega) (by omega) (by omega) fun t S2 l2 hg Rs q0 q1 D2 Tn O2=>?_
  exact k (.Kf t) S2 l2 hg (by simp only[Bd.dep];omega) q0 (by simp only[Bd.size];omega) D2 Tn (O1.x.trans (NY.upd.trans O2))
 ·refine hN _ _ (ak fun N hN=>?_)
  walk_at "x"
  simp only[QA,a0,Ui]
  refine hN _ _ (ak fun N hN=>?_)
  walk_at "x"
  refine ih (left:=left - 2) (D1.upd hxd Qk) aa hxd Qk hj (by omega) (by omega) (by omega) (by omega) fun ta S2 l2 ga da q0 q1 D2 Tn O2=>?_
  refine hN _ _ (ak fun N hN=>?_)
  walk_at "x"
  refine ih (left:=l2) D2 Tn hxd Qk hj q0 (by omega) (by omega) (by omega) fun tb S3 l3 gb db p0 p1 D3 To O3=>?_
  have OA:NY d l x S S3:=O1.x.trans (NY.upd.trans (O2.trans O3))
  refine hN _ _ (ak fun N hN=>?_)
  walk_at "x"
  simp only[VS]
  split
  ·exact k (.J9 ta tb) S3 l3 ⟨ga,gb⟩ (by simp only[Bd.dep];omega) p0 (by simp only[Bd.size];omega) D3 To OA
  refine hN _ _ (ak fun N hN=>?_)
  walk_at "x"
  simp only[VX,VS,VI]
  have ei:Q (Bd.Kg ta tb).pv S3:=k (.Kg ta tb) S3 l3 ⟨ga,gb⟩ (by simp only[Bd.dep];omega) p0 (by simp only[Bd.size];omega) D3 To OA
  split
  ·rw[if_pos trivial];exact ei
  split
  ·exact ei
  rename_i hz8 hz
  refine hN _ _ (ak fun N hN=>?_)
  walk_at "x"
  refine J8 D3 (by decide) (by decide) fun r2 S4 e0 e1 D4 O4 p hp=>J8 (D4.new hp) (by decide) (by decide) fun r3 S5 b0 b1 D5 O5=>?_
  have dp:=D4.free hp
  have hp3:=O5 _ _ (aa (S:=S4) (o:=.lst [.int 1,.int 1,.int 2,.int (1+r2)])) dp.1 dp.2
  simp only[hp3]
  obtain⟨v,hv,hm⟩:=ko (xs:=[PV.int 1,.int 1,.int 2,.int (1+r2)]) b0 (by simpa using b1)
  rw[hv]
  obtain⟨m,rfl,m0,m1⟩:∃m,v = .int m/\1<=m/\m<=9:=by
   simp only[VL,V3,WK]at hm
   rcases hm with rfl|rfl|rfl|rfl
   ·exact⟨1,rfl,by omega,by omega⟩
   ·exact⟨1,rfl,by omega,by omega⟩
   ·exact⟨2,rfl,by omega,by omega⟩
   ·exact⟨1+r2,rfl,by omega,by omega⟩
  refine hN _ _ ?_
  walk_at "x"
  simp only[VI]
  refine J8 D5 (by omega) (by omega) fun r4 S6 c0 c1 D6 O6=>?_
  obtain⟨w,hw,Tm⟩:=ko (xs:=js.map PV.str) c0 (by rw[VI];exact c1)
  dsimp only
  rw[hw]
  obtain⟨z,hz,rfl⟩:=VW.mp Tm
  have Tp:=O4 _ _ To hxd Qk
  have U2:x≠p:=fun e=>by rw[e,hp]at Tp;cases Tp
  have U3:=O6 _ _ (O5 _ _ (show JZ S4 p _ x=some (.lst [.int l3]) by rw[av U2];exact Tp) hxd Qk) hxd Qk
  exact k (.Ka z m ta tb) S6 l3 ⟨hz,m0,m1,ga,gb⟩ (by simp only[Bd.dep];omega) p0 (by simp only[Bd.size];omega) D6 U3 (OA.trans (O4.x.trans ((LU.new hp).x.trans (O5.x.trans O6.x))))
end C
local macro_rules | `(tactic| walk_at "w")=>do
 let a:=⟨walkA (walkL++#[`L3.cv,`L3.cX,`L3.vN,`L3.Ib,`L3.Jy,`L3.E4,`L3.E5,`L3.E6,`L3.E7,`L3.E8,`L3.E9,`L3.E_,`L3.Fa,`L3.Fb,`L3.aG,`String.reduceEq,`decide_true,`decide_false,`Bool.false_bne,`Bool.true_bne,`Bool.not_true,`Bool.not_false,`if_true,`if_false,`Bool.false_eq_true,`reduceIte,`ite_true,`ite_false])⟩
 `(tactic| simp only [$a,*])
local macro_rules | `(tactic| walk_at "y")=>`(tactic| ((try walk_at "x"); (try walk_at "w")))
namespace C
open PySem L2 L3 Wd
noncomputable def Bd.J3:Bd->Nat
 | .J9 a b=>a.J3 * b.J3
 | .Kg a b=>a.J3+b.J3
 | .Ka _ _ a b=>a.J3+b.J3
 |_=>1
noncomputable def Bd.J6:Bd->Nat
 | .Kf a=>a.J3+a.J6
 | .J9 a b=>a.J6+b.J6
 | .Kg a b=>a.J6+b.J6
 | .Ka _ _ a b=>a.J6+b.J6
 |_=>0
theorem Bd.Ld:∀t:Bd,t.J3<=2 ^ t.size
 | .rest=>by simp[Bd.J3,Bd.size]
 | .pay _ _=>by simp[Bd.J3,Bd.size]
 | .put _ _=>by simp[Bd.J3,Bd.size]
 | .use _=>by simp[Bd.J3,Bd.size]
 | .Kf a=>by simp only[Bd.J3,Bd.size];exact Nat.one_le_two_pow
 | .J9 a b=>by
  simp only[Bd.J3,Bd.size]
  refine VU (ZY a.Ld b.Ld) ?_
  rw[<-Nat.pow_add]
  exact XA (by decide) (by omega)
 | .Kg a b=>by
  simp only[Bd.J3,Bd.size]
  have h1:2 ^ a.size<=2 ^ (a.size+b.size):=XA (by decide) (by omega)
  have h2:2 ^ b.size<=2 ^ (a.size+b.size):=XA (by decide) (by omega)
  have:=a.Ld
  have:=b.Ld
  rw[Nat.pow_succ]
  omega
 | .Ka _ _ a b=>by
  simp only[Bd.J3,Bd.size]
  have h1:2 ^ a.size<=2 ^ (a.size+b.size):=XA (by decide) (by omega)
  have h2:2 ^ b.size<=2 ^ (a.size+b.size):=XA (by decide) (by omega)
  have:=a.Ld
  have:=b.Ld
  rw[Nat.pow_succ]
  omega
def Bd.PL{t:Bd}(h:t.size<=60):(t.J3:Int) < 2 ^ 64:=by
 have h1:=t.Ld
 have h2:2 ^ t.size<=2 ^ 60:=XA (by decide) h
 omega
abbrev dv(n:Nat)(w:ap):Prop:=∀{S:ax}{t:Bd}{Q:bc}{E:bC},t.dep<=n->t.size<=60->Q (.int t.J3) S->w [t.pv] S Q E
def w9{s0:ap}(n:Nat)(ih:dv n s0):dv (n+1) (aP 1 (cR s0)):=by
 intro S t Q E hd hs k
 unfold cR
 refine bT ?_
 rw[show am 1 [t.pv]=[some t.pv] from rfl]
 cases t with
 |J9 a b=>
  simp only[Bd.dep,Bd.size]at hd hs
  simp only[Bd.pv]
  walk_at "w"
  refine ih (by omega) (by omega) (ih (by omega) (by omega) ⟨EX (by omega) (Bd.PL (by omega)),?_⟩)
  simpa [Bd.J3]using k
 |Kg a b=>
  simp only[Bd.dep,Bd.size]at hd hs
  simp only[Bd.pv]
  walk_at "w"
  refine ih (by omega) (by omega) (ih (by omega) (by omega) ?_)
  simpa [Bd.J3]using k
 |Ka z m a b=>
  simp only[Bd.dep,Bd.size]at hd hs
  simp only[Bd.pv]
  walk_at "w"
  refine ih (by omega) (by omega) (ih (by omega) (by omega) ?_)
  simpa [Bd.J3]using k
 |_=>
  simp only[Bd.pv]
  walk_at "w"
  exact k
abbrev gy(n:Nat)(w:ap):Prop:=∀{S:ax}{t:Bd}{Q:bc}{E:bC},t.dep<=n->t.size<=60->Q (.int t.J6) S->w [t.pv] S Q E
def iL:∀y∈(["then","either","take"]:Zs),PyData.strOk y=true:=by decide +kernel
def ku:∀y∈(["rest","pay","put","use","often","then","either","take"]:Zs),PyData.strOk y=true:=by decide +kernel
def w_{x0 s0:ap}(n m:Nat)(hp:dv m x0)(ih:gy n s0)(hnm:n<=m):gy (n+1) (aP 1 (cC x0 s0)):=by
 intro S t Q E hd hs k
 unfold cC
 refine bT ?_
 rw[show am 1 [t.pv]=[some t.pv] from rfl]
 have e3:[PV.str "then",PV.str "either",PV.str "take"]=(["then","either","take"]:Zs).map PV.str:=rfl
 cases t with
 |Kf a=>
  simp only[Bd.dep,Bd.size]at hd hs
  simp only[Bd.pv]
  walk_at "y"
  refine hp (by omega) (by omega) (ih (by omega) (by omega) ?_)
  simpa [Bd.J6]using k
 |J9 a b=>
  simp only[Bd.dep,Bd.size]at hd hs
  simp only[Bd.pv]
  walk_at "y"
  rw[e3]
  refine bR (ku _ (by simp)) iL ?_
  simp[aG]
  refine ih (by omega) (by omega) (ih (by omega) (by omega) ?_)
  simpa [Bd.J6]using k
 |Kg a b=>
  simp only[Bd.dep,Bd.size]at hd hs
  simp only[Bd.pv]
  walk_at "y"
  rw[e3]
  refine bR (ku _ (by simp)) iL ?_
  simp[aG]
  refine ih (by omega) (by omega) (ih (by omega) (by omega) ?_)
  simpa [Bd.J6]using k
 |Ka z m a b=>
  simp only[Bd.dep,Bd.size]at hd hs
  simp only[Bd.pv]
  walk_at "y"
  rw[e3]
  refine bR (ku _ (by simp)) iL ?_
  simp[aG]
  refine ih (by omega) (by omega) (ih (by omega) (by omega) ?_)
  simpa [Bd.J6]using k
 |_=>
  simp only[Bd.pv]
  walk_at "y"
  rw[e3]
  refine bR (ku _ (by simp)) iL ?_
  simp[aG]
  simpa [Bd.J6]using k
abbrev gA(w:ap):Prop:=∀{S:ax}{d l:Addr}{js:Zs}{size bound:Int}{Q:bc}{E:bC},Ko S d l->js.length < 2 ^ 61->1<=size->size<=60->
  (∀(t:Bd) S',t.good js []->t.dep<=6->t.size<=60->(t.size:Int)<=max size 4->((t.J3:Int)+t.J6<=bound\/(t.J3:Int)+t.J6<=2)->Ko S' d l->LU d l S S'->Q t.pv S')->w [.ref d,.tup (js.map PV.str),.int size,.int bound] S Q E
def rA{x0 x1 x2 x3:ap}(n:Nat)(hn:6<=n)(Ou:kr n x0)(RH:dv n x1)(P3:gy n x2)(MX:kq x3):gA (aP 5 (dr x0 x1 x2 x3)):=by
 intro S d l js size bound Q E D hj h1 h2 k
 unfold dr
 refine bT ?_
 rw[show am 5 [PV.ref d,PV.tup (js.map PV.str),PV.int size,PV.int bound]=[some (.ref d),some (.tup (js.map PV.str)),some (.int size),some (.int bound),none] from rfl]
 refine ak fun N hN=>?_
 walk_at "x"
 intro p hp
 have dp:=D.free hp
 refine Ou (D.new hp) aa dp.1 dp.2 hj (by omega) (by omega) (by decide) (by omega) fun t S1 l1 hg hd q0 q1 D1 QA O1=>?_
 have Uj:LU d l S S1:=fun a o ha h1 h2=>O1 a o (by rw[av (fun e=>by rw[e,hp]at ha;cases ha)];exact ha) h1 h2 (fun e=>by rw[e,hp]at ha;cases ha)
 refine hN _ _ (ak fun N hN=>?_)
 simp only[br,aR,af,ab,ao,v3,lk,List.set_cons_zero,List.set_cons_succ,yY,aN,f_]
 refine RH (by omega) (by omega) (P3 (by omega) (by omega) ?_)
 simp only[VS]
 split
 ·walk_at "x"
  refine MX D1 hj fun t2 S2 hl2 RE D2 O2=>MX D2 hj fun t3 S3 hl3 U4 D3 O3=>?_
  refine hN _ _ ?_
  walk_at "x"
  have e2:=Bd.Nm hl2
  have e3:=Bd.Nm hl3
  refine k (.J9 (.Kf t2) t3) S3 ⟨RE,U4⟩ (by simp only[Bd.dep];omega) (by simp only[Bd.size];omega) (by simp only[Bd.size];omega) (.inr ?_) D3 (Uj.trans (O2.trans O3))
  have c2:t2.J3=1/\t2.J6=0:=by cases t2<;>first|exact⟨rfl,rfl⟩|exact hl2.elim
  have c3:t3.J3=1/\t3.J6=0:=by cases t3<;>first|exact⟨rfl,rfl⟩|exact hl3.elim
  simp only[Bd.J3,Bd.J6,c2,c3]
  decide
 ·rename_i hb
  walk_at "x"
  refine hN _ _ ?_
  walk_at "x"
  exact k t S1 hg (by omega) (by omega) (by omega) (.inl (by omega)) D1 Uj
noncomputable def gZ(p:Str×Bd):PV:=.tup [.str p.1,p.2.pv]
noncomputable def jv(js:Zs)(ds:List (Str×Bd)):PV:=.tup [.tup (js.map PV.str),.tup (ds.map gZ)]
structure G8(js:Zs)(us:Zs)(ds:List (Str×Bd)):Prop where
 jl:js.length<=16
 dl:ds.length<=16
 jw:∀z∈js,OQ z
 uw:∀z∈us,OQ z
 dw:∀p∈ds,OQ p.1
 gd:∀p∈ds,p.2.good js us
 dp:∀p∈ds,p.2.dep<=60
 sz:∀p∈ds,p.2.size<=60
def Ko.ext{S S':ax}{d l:Addr}(D:Ko S d l)(e:Ext S S'):Ko S' d l:=by
 obtain⟨s,n,f,D⟩:=D
 exact⟨s,n,f,e _ _ D.d,e _ _ D.l,D.s0,D.s1,D.nm,D.lf,D.ln⟩
def _root_.L3.Ext.put{p:Addr}{S S':ax}{o:SO}(O:Ext S S')(h:S p=none):Ext S (JZ S' p o):=fun x u hx=>by rw[av (fun e=>by rw[e,h]at hx;cases hx)];exact O x u hx
def Fc{α:Type}{xs:List α}{n:Nat}(h:n<=xs.length):jm xs none (some (n:Int))=xs.take n:=by
 unfold jm
 rw[HT.yg,HT.A8,List.drop_zero,Nat.min_eq_left h]
 rfl
def BZ{x:PV}{n:Nat}{a b:List PV}(e:bQ 0 n=a++x::b):x = .int a.length/\a.length < n:=by
 have h1:(bQ 0 n)[a.length]?=some x:=by rw[e];simp
 unfold bQ at h1
 rw[V2]at h1
 have hl:a.length < n:=by
  have:=WW List.length e
  rw[fQ,VH,V1]at this
  omega
 rw[ZR hl]at h1
 simp at h1
 exact⟨h1.symm,hl⟩
def Fd{α:Type}{xs:List α}{n:Nat}{v:α}(h:xs[n]?=some v):KN xs (n:Int)=some v:=bU h
noncomputable def Bd.sides:Bd->List Bd
 | .Kf a=>[a]
 | .J9 a b=>[a,b]
 | .Kg a b=>[a,b]
 | .Ka _ _ a b=>[a,b]
 |_=>[]
noncomputable def Bd.parts:Bd->List Bd
 | .Kf a=>.Kf a::a.parts
 | .J9 a b=>.J9 a b::(a.parts++b.parts)
 | .Kg a b=>.Kg a b::(a.parts++b.parts)
 | .Ka z m a b=>.Ka z m a b::(a.parts++b.parts)
 |t=>[t]
def Bd.OW(t:Bd):t.parts=t::t.sides.flatMap Bd.parts:=by cases t<;>simp[Bd.parts,Bd.sides]
theorem Bd.Kl:∀t:Bd,t.parts.length=t.size
 | .rest=>rfl
 | .pay _ _=>rfl
 | .put _ _=>rfl
 | .use _=>rfl
 | .Kf a=>by simp only[Bd.parts,Bd.size,List.length_cons,a.Kl]
 | .J9 a b=>by simp only[Bd.parts,Bd.size,List.length_cons,VH,a.Kl,b.Kl]
 | .Kg a b=>by simp only[Bd.parts,Bd.size,List.length_cons,VH,a.Kl,b.Kl]
 | .Ka _ _ a b=>by simp only[Bd.parts,Bd.size,List.length_cons,VH,a.Kl,b.Kl]
def Bd.OX{t u:Bd}(h:u∈t.sides):u.dep < t.dep/\u.size < t.size:=by
 cases t<;>simp[Bd.sides]at h
 ·subst h;simp[Bd.dep,Bd.size]
 all_goals (rcases h with rfl|rfl<;>simp only[Bd.dep,Bd.size]<;>omega)
abbrev i9(w:ap):Prop:=∀{S:ax}{t:Bd}{Q:bc}{E:bC},Q (.tup (t.sides.map Bd.pv)) S->w [t.pv] S Q E
def MK:i9 (aP 1 jH):=by
 intro S t Q E k
 unfold jH
 refine bT ?_
 rw[show am 1 [t.pv]=[some t.pv] from rfl]
 cases t<;>(unfold Bd.pv;walk_at "y"; simp only[vH,af,v3,lk,c3,ae,cv,oW,au,ao,dg,k_SIDES_FROM,List.find?,sS,String.reduceEq,Xp,Ye,Option.map,Option.getD];exact k)
abbrev dW(n:Nat)(w:ap):Prop:=∀{S:ax}{t:Bd}{Q:bc}{E:bC},t.dep<=n->t.size<=900->(∀p S',S p=none->Ext S S'->S' p=some (.lst (t.parts.map Bd.pv))->Q (.ref p) S')->w [t.pv] S Q E
def ML{xs s0:ap}(MK:i9 xs)(n:Nat)(ih:dW n s0):dW (n+1) (aP 3 (jI xs s0)):=by
 intro S t Q E hd hs k
 unfold jI
 refine bT ?_
 rw[show am 3 [t.pv]=[some t.pv,none,none] from rfl]
 refine ak fun N hN=>?_
 walk_at "x"
 intro p hp
 have X0:Ext S (JZ S p (.lst [t.pv])):=.new hp
 have hp0:(JZ S p (.lst [t.pv])) p=some (.lst [t.pv]):=aa
 generalize JZ S p (.lst [t.pv])=S0 at X0 hp0
 refine hN _ _ (ak fun N hN=>?_)
 simp only[bE,aJ,ab,ao,v3,lk]
 refine MK ?_
 simp only[bF]
 refine bg (fun done σ S'=>∃(ts:List Bd) (x:Option PV) (rs:List Bd),done=ts.map Bd.pv/\t.sides=ts++rs/\σ=[some t.pv,some (.ref p),x]/\Ext S S'/\S' p=some (.lst ((t::ts.flatMap Bd.parts).map Bd.pv))) ⟨[],_,t.sides,rfl,rfl,rfl,X0,hp0⟩ (fun _ _ _ _=>trivial) ?_ ?_
 ·rintro done x rest σ S1 K e ⟨ts,y,rs,rfl,es,rfl,X1,h1⟩ hK
  rw[es,We]at e
  have e2:=List.append_cancel_left e
  rcases rs with _|⟨r,rs⟩
  ·cases e2
  rw[VT,Yx]at e2
  obtain⟨rfl,e3⟩:=e2
  have hr:r∈t.sides:=by rw[es];simp
  have hrd:=Bd.OX hr
  walk_at "x"
  refine⟨by rw[h1];trivial,ih (t:=r) (by omega) (by omega) fun q S2 hq X2 h2=>?_⟩
  simp only[X2 _ _ h1,h2]
  have hlen:(t::ts.flatMap Bd.parts).length+r.parts.length<=t.size:=by
   rw[<-Bd.Kl t,Bd.OW t,es,WZ,XC]
   simp only[List.length_cons,VH]
   omega
  refine⟨bh (by simp only[VI]at *;omega),?_⟩
  refine hK _ _ ⟨ts++[r],_,rs,by simp,by rw[es];simp,rfl,(X1.trans X2).put hp,?_⟩
  rw[aa,WZ]
  simp
 ·rintro σ S1 ⟨ts,y,rs,e,es,rfl,X1,h1⟩
  refine hN _ _ ?_
  walk_at "x"
  have ez:rs=[]:=by
   have:=WW List.length e
   rw[es]at this
   simp at this
   exact this
  subst ez
  rw[Wh]at es
  rw[<-es,<-Bd.OW]at h1
  exact k p S1 hp X1 h1
noncomputable def heads:List Str:=["rest","pay","put","use","often","then","either","take"]
def xi:∀z∈heads,PyData.strOk z=true:=by decide +kernel
structure MS(n:Nat)(js us:Zs)(ds:List (Str×Bd)):Prop extends G8 js us ds where
 jn:js.Nodup
 dn:(ds.map Prod.fst).Nodup
 dq:∀p∈ds,p.2.dep<=n
def iM{xs:List PV}{x:PV}{a b:List PV}(e:L3.aV xs=a++x::b):∃y,x = .tup [.int a.length,y]/\xs[a.length]?=some y:=by
 have h1:(L3.aV xs)[a.length]?=some x:=by rw[e];simp
 unfold L3.aV at h1
 rw[YD]at h1
 cases h:xs[a.length]? with
 |none=>rw[h]at h1;cases h1
 |some y=>
  rw[h]at h1
  simp only[Option.map_some,Z3]at h1
  exact⟨y,h1.symm,rfl⟩
def B4{α:Type}{a b c:α}:jm [a,b,c] none (some (-2))=[a]:=rfl
def B8{α:Type}{a b c d e:α}:jm [a,b,c,d,e] none (some (-2))=[a,b,c]:=rfl
noncomputable def bO:Bd->PV->Bool
 | .Kf a,.tup gs=>gs.all fun g=>match g with | .tup [.int m,tr]=>decide (1<=m)&&bO a tr|_=>false
 | .J9 a b,.tup [x,y]=>bO a x&&bO b y
 | .Kg a b,.tup [.int i,y]=>if i=0 then bO a y else if i=1 then bO b y else false
 | .Ka _ _ a b,.tup [.int i,y]=>if i=0 then bO a y else if i=1 then bO b y else false
 | .rest,.tup []=>true
 | .pay _ _,.tup []=>true
 | .put _ _,.tup []=>true
 | .use _,.tup []=>true
 |_,_=>false
noncomputable def B9(a:Bd):PV->Bool
 | .tup [.int m,tr]=>decide (1<=m)&&bO a tr
 |_=>false
def sZ(a b:Bd)(x y:PV):bO (.J9 a b) (.tup [x,y])=(bO a x&&bO b y):=rfl
def nV(a b:Bd)(i:Int)(y:PV):bO (.Kg a b) (.tup [.int i,y])=if i=0 then bO a y else if i=1 then bO b y else false:=rfl
def nW(z:Str)(m:Int)(a b:Bd)(i:Int)(y:PV):bO (.Ka z m a b) (.tup [.int i,y])=if i=0 then bO a y else if i=1 then bO b y else false:=rfl
def zk(a:Bd)(gs:List PV):bO (.Kf a) (.tup gs)=gs.all (B9 a):=rfl
abbrev nX(w:ap):Prop:=∀{S:ax}{a b:Bd}{hd:List PV}{i:Int}{y:PV}{Q:bc}{E:bC},(i=0\/i=1)->hd.length<=3->Q (if i=0 then a.pv else b.pv) S->w [.tup (hd++[a.pv,b.pv]),.tup [.int i,y]] S Q E
def Ny:nX (aP 2 nF):=by
 intro S a b hd i y Q E hi hl k
 unfold nF
 refine bT ?_
 rw[show am 2 [PV.tup (hd++[a.pv,b.pv]),PV.tup [.int i,y]]=[some (.tup (hd++[a.pv,b.pv])),some (.tup [.int i,y])] from rfl]
 walk_at "y"
 have e:KN (hd++[a.pv,b.pv]) (-2+i)=some (if i=0 then a.pv else b.pv):=by
  unfold KN t9
  rcases hi with rfl|rfl
  ·rw[if_neg (by omega),if_pos (by simp;omega)]
   have:(-2+0+((hd++[a.pv,b.pv]).length:Int)).toNat=hd.length:=by simp;omega
   rw[this,if_pos rfl]
   show(hd++[a.pv,b.pv])[hd.length]?=some a.pv
   simp
  ·rw[if_neg (by omega),if_pos (by simp;omega)]
   have:(-2+1+((hd++[a.pv,b.pv]).length:Int)).toNat=hd.length+1:=by simp;omega
   rw[this,if_neg (by decide)]
   show(hd++[a.pv,b.pv])[hd.length+1]?=some b.pv
   simp
 rw[e]
 exact k
def uS{xs:List PV}(h:xs.length=2):∃x y,xs=[x,y]:=by
 match xs,h with
 |[x,y],_=>exact⟨x,y,rfl⟩
def rB{a b:Bd}{xs:List PV}(h:xs.length≠2):bO (.J9 a b) (.tup xs)=false:=by
 match xs,h with
 |[],_=>rfl
 |[_],_=>rfl
 |[_,_],h=>exact absurd rfl h
 |_::_::_::_,_=>rfl
def rC{a b:Bd}{xs:List PV}(h:xs.length≠2):bO (.Kg a b) (.tup xs)=false:=by
 match xs,h with
 |[],_=>rfl
 |[x],_=>cases x<;>rfl
 |[_,_],h=>exact absurd rfl h
 |x::_::_::_,_=>cases x<;>rfl
def rD{z:Str}{m:Int}{a b:Bd}{xs:List PV}(h:xs.length≠2):bO (.Ka z m a b) (.tup xs)=false:=by
 match xs,h with
 |[],_=>rfl
 |[x],_=>cases x<;>rfl
 |[_,_],h=>exact absurd rfl h
 |x::_::_::_,_=>cases x<;>rfl
def kw(t:Bd)(z:Str):bO t (.str z)=false:=by cases t<;>rfl
def ky(t:Bd)(i:Int):bO t (.int i)=false:=by cases t<;>rfl
noncomputable def Bd.hd:Bd->Str
 | .rest=>"rest" | .pay _ _=>"pay" | .put _ _=>"put" | .use _=>"use" | .Kf _=>"often" | .J9 _ _=>"then" | .Kg _ _=>"either" | .Ka _ _ _ _=>"take"
noncomputable def Bd.tl:Bd->List PV
 | .rest=>[] | .pay x y=>[.tup [.int x,.int y]] | .put z m=>[.str z,.int m] | .use z=>[.str z] | .Kf a=>[a.pv] | .J9 a b=>[a.pv,b.pv] | .Kg a b=>[a.pv,b.pv] | .Ka z m a b=>[.str z,.int m,a.pv,b.pv]
def Bd.LY(t:Bd):t.pv = .tup (.str t.hd::t.tl):=by cases t<;>rfl
def Bd.NN(t:Bd):PyData.strOk t.hd=true:=by cases t<;>exact xi _ (by simp[heads,Bd.hd])
def Bd.Pm(t:Bd):t.hd=("then":Str)↔∃a b,t = .J9 a b:=by cases t<;>simp[Bd.hd,aG]
def Bd.Pn(t:Bd):t.hd=("often":Str)↔∃a,t = .Kf a:=by cases t<;>simp[Bd.hd,aG]
def rE:([PV.str "then",PV.str "either",PV.str "take"]:List PV)=(["then","either","take"]:Zs).map PV.str:=rfl
theorem qg:∀bs:List Bool,nv (bs.map PV.bl)=some bs
 |[]=>rfl
 |b::bs=>by rw[VT];unfold nv;rw[qg bs];rfl
def i_{a b:PV}{hd:List PV}{i:Int}(hi:i=0\/i=1):KN (hd++[a,b]) (i - 2)=some (if i=0 then a else b):=by
 unfold KN t9
 rcases hi with rfl|rfl
 ·rw[if_neg (by omega),if_pos (by simp;omega)]
  have:(0 - 2+((hd++[a,b]).length:Int)).toNat=hd.length:=by simp;omega
  rw[this,if_pos rfl]
  show(hd++[a,b])[hd.length]?=some a
  simp
 ·rw[if_neg (by omega),if_pos (by simp;omega)]
  have:(1 - 2+((hd++[a,b]).length:Int)).toNat=hd.length+1:=by simp;omega
  rw[this,if_neg (by decide)]
  show(hd++[a,b])[hd.length+1]?=some b
  simp
noncomputable def Bd.Lq:Bd->Bool
 | .rest=>false
 | .J9 _ _=>false
 |_=>true
noncomputable def Bd.rows:Bd->Nat
 | .rest=>0
 | .Kf a=>a.rows+1
 | .J9 a b=>a.rows+b.rows
 | .Kg a b=>a.rows+b.rows+1
 | .Ka _ _ a b=>a.rows+b.rows+1
 |_=>1
theorem Bd.Kj:∀t:Bd,(t.parts.filter Bd.Lq).length=t.rows
 | .rest=>rfl
 | .pay _ _=>rfl
 | .put _ _=>rfl
 | .use _=>rfl
 | .Kf a=>by simp only[Bd.parts,Bd.rows];rw[Wj rfl,V1,a.Kj]
 | .J9 a b=>by simp only[Bd.parts,Bd.rows];rw[W0 (by simp[Bd.Lq]),Wb,VH,a.Kj,b.Kj]
 | .Kg a b=>by simp only[Bd.parts,Bd.rows];rw[Wj rfl,V1,Wb,VH,a.Kj,b.Kj]
 | .Ka _ _ a b=>by simp only[Bd.parts,Bd.rows];rw[Wj rfl,V1,Wb,VH,a.Kj,b.Kj]
def Bd.J_(t:Bd):t.rows<=t.size:=by
 rw[<-t.Kj,<-t.Kl];exact W7 _ _
noncomputable def Bd.beg(t:Bd)(first behind:Int):Int:=if t.rows=0 then behind else first
noncomputable def Bd.rowsOf:Bd->Int->Int->List PV
 | .rest,_,_=>[]
 | .pay x y,_,n=>[.tup [.str "pay",.tup [.int x,.int y],.int n]]
 | .put z m,_,n=>[.tup [.str "put",.str z,.int m,.int n]]
 | .use z,_,n=>[.tup [.str "use",.str z,.int n]]
 | .Kf a,f,n=>.tup [.str "often",.int (a.beg (f+1) f),.int n]::a.rowsOf (f+1) f
 | .J9 a b,f,n=>a.rowsOf f (b.beg (f+a.rows) n)++b.rowsOf (f+a.rows) n
 | .Kg a b,f,n=>.tup [.str "either",.int (a.beg (f+1) n),.int (b.beg (f+1+a.rows) n)]::(a.rowsOf (f+1) n++b.rowsOf (f+1+a.rows) n)
 | .Ka z m a b,f,n=>.tup [.str "take",.str z,.int m,.int (a.beg (f+1) n),.int (b.beg (f+1+a.rows) n)]::(a.rowsOf (f+1) n++b.rowsOf (f+1+a.rows) n)
theorem Bd.J5:∀(t:Bd)(f n:Int),(t.rowsOf f n).length=t.rows
 | .rest,_,_=>rfl
 | .pay _ _,_,_=>rfl
 | .put _ _,_,_=>rfl
 | .use _,_,_=>rfl
 | .Kf a,f,n=>by simp only[Bd.rowsOf,Bd.rows,List.length_cons];rw[a.J5]
 | .J9 a b,f,n=>by simp only[Bd.rowsOf,Bd.rows,VH];rw[a.J5,b.J5]
 | .Kg a b,f,n=>by simp only[Bd.rowsOf,Bd.rows,VH,List.length_cons];rw[a.J5,b.J5]
 | .Ka _ _ a b,f,n=>by simp only[Bd.rowsOf,Bd.rows,VH,List.length_cons];rw[a.J5,b.J5]
noncomputable def Bd.KU(t:Bd):List PV:=t.rowsOf 0 t.rows++[.tup [.str "end"]]
abbrev gB(w:ap):Prop:=∀{S:ax}{t:Bd}{Q:bc}{E:bC},Q (.bl t.Lq) S->w [t.pv] S Q E
def G9:∀z∈(["rest","then"]:Zs),PyData.strOk z=true:=by decide +kernel
def zm:∀z∈(["either","take"]:Zs),PyData.strOk z=true:=by decide +kernel
def Bd.PM(t:Bd):(true != decide (t.hd∈(["rest","then"]:Zs)))=t.Lq:=by cases t<;>simp[Bd.hd,aG,Bd.Lq]
def Nz:gB (aP 1 lB):=by
 intro S t Q E k
 unfold lB
 refine bT ?_
 rw[show am 1 [t.pv]=[some t.pv] from rfl,Bd.LY]
 simp only[ar,af,v3,lk,c3,ae,cv,aC,ao]
 rw[show([PV.str "rest",PV.str "then"]:List PV)=(["rest","then"]:Zs).map PV.str from rfl]
 refine bR (Bd.NN t) G9 ?_
 rw[Bd.PM]
 exact k
abbrev dy(n:Nat)(w:ap):Prop:=∀{S:ax}{t:Bd}{Q:bc}{E:bC},t.dep<=n->t.size<=900->(∀S',Ext S S'->Q (.int t.rows) S')->w [t.pv] S Q E
def xj{xp xh:ap}(n:Nat)(ML:dW n xp)(Nz:gB xh):dy n (aP 1 (lC xp xh)):=by
 intro S t Q E hd hs k
 unfold lC
 refine bT ?_
 rw[show am 1 [t.pv]=[some t.pv] from rfl]
 walk_at "x"
 refine ML hd hs fun p S1 hp X1 h1=>?_
 simp only[h1]
 refine kn (fun done ys S'=>∃(ts rs:List Bd),done=ts.map Bd.pv/\t.parts=ts++rs/\ys=(ts.filter Bd.Lq).map Bd.pv/\Ext S S'/\S' p=some (.lst (t.parts.map Bd.pv))) ⟨[],t.parts,rfl,rfl,rfl,X1,h1⟩ ?_ ?_ ?_
 ·rintro done ys S' ⟨ts,rs,rfl,e,rfl,X,h⟩
  refine⟨h,bh ?_⟩
  rw[VI]
  have a:=W7 Bd.Lq ts
  have b:=WW List.length e
  rw[t.Kl,VH]at b
  omega
 ·rintro done x rest ys S' K e ⟨ts,rs,rfl,es,rfl,X,h⟩ hK
  rw[es,We]at e
  have e2:=List.append_cancel_left e
  rcases rs with _|⟨r,rs⟩
  ·cases e2
  rw[VT,Yx]at e2
  obtain⟨rfl,e3⟩:=e2
  walk_at "x"
  refine Nz ?_
  cases hr:r.Lq with
  |true=>
   simp only[WB]
   exact hK _ _ ⟨ts++[r],rs,by simp,by rw[es];simp,by rw[Wb,Wj hr];simp,X,h⟩
  |false=>
   simp only[VZ,Wx]
   exact hK _ _ ⟨ts++[r],rs,by simp,by rw[es];simp,by rw[Wb,W0 (by rw[hr];decide)];simp,X,h⟩
 rintro ys S' ⟨ts,rs,e,es,rfl,X,h⟩
 intro q hq
 rw[aa]
 have ez:rs=[]:=by
  have:=WW List.length e
  rw[es]at this
  simp at this
  exact this
 subst ez
 rw[Wh]at es
 dsimp only
 rw[<-es,VI,t.Kj]
 exact k _ (X.trans (.new hq))
abbrev kz(n:Nat)(w:ap):Prop:=∀{S:ax}{t:Bd}{f b:Int}{Q:bc}{E:bC},t.dep<=n->t.size<=900->(∀S',Ext S S'->Q (.int (t.beg f b)) S')->w [t.pv,.int f,.int b] S Q E
def zn{xr:ap}(n:Nat)(Oi:dy n xr):kz n (aP 3 (qV xr)):=by
 intro S t f b Q E hd hs k
 unfold qV
 refine bT ?_
 rw[show am 3 [t.pv,PV.int f,PV.int b]=[some t.pv,some (.int f),some (.int b)] from rfl]
 walk_at "x"
 refine Oi hd hs fun S' X=>?_
 have:=k S' X
 unfold Bd.beg at this
 simp only[VX,VS]
 by_cases h0:t.rows=0
 ·rw[if_pos (by omega)]
  rw[if_pos h0]at this
  exact this
 ·rw[if_neg (by omega)]
  rw[if_neg h0]at this
  exact this
abbrev dz(n:Nat)(w:ap):Prop:=∀{S:ax}{t:Bd}{f b:Int}{Q:bc}{E:bC},t.dep<=n->t.size<=400->(∀S',Ext S S'->Q (.tup (t.rowsOf f b)) S')->w [t.pv,.int f,.int b] S Q E
abbrev lI(n:Nat)(w:ap):Prop:=∀{S:ax}{t u:Bd}{f b:Int}{Q:bc}{E:bC},t.dep<=n->u.dep<=n->(Bd.J9 t u).size<=400->(∀S',Ext S S'->Q (.tup ((Bd.J9 t u).rowsOf f b)) S')->w [(Bd.J9 t u).pv,.int f,.int b] S Q E
abbrev nY(n:Nat)(w:ap):Prop:=∀{S:ax}{t:Bd}{f b:Int}{Q:bc}{E:bC},t.dep<=n->(Bd.Kf t).size<=400->(∀S',Ext S S'->Q (.tup ((Bd.Kf t).rowsOf f b)) S')->w [(Bd.Kf t).pv,.int f,.int b] S Q E
abbrev rF(n:Nat)(w:ap):Prop:=∀{S:ax}{t:Bd}{f b:Int}{Q:bc}{E:bC},t.dep<=n+1->t.hd∈(["either","take"]:Zs)->t.size<=400->(∀S',Ext S S'->Q (.tup (t.rowsOf f b)) S')->w [t.pv,.int f,.int b] S Q E
def zo{xr xb s0 s1 s2 s3:ap}(n m:Nat)(hm:n<=m)(Oi:dy m xr)(Nc:kz m xb)(ih:dz n s3):lI n (aP 5 (cS xr xb s0 s1 s2 s3)):=by
 intro S t u f b Q E ht hu hs k
 unfold cS
 refine bT ?_
 simp only[Bd.size]at hs
 rw[show am 5 [(Bd.J9 t u).pv,PV.int f,PV.int b]=[some (.tup [.str "then",t.pv,u.pv]),some (.int f),some (.int b),none,none] from rfl]
 refine ak fun N hN=>?_
 walk_at "y"
 refine Oi (by omega) (by omega) fun S1 X1=>?_
 refine hN _ _ (ak fun N hN=>?_)
 walk_at "y"
 refine Nc (by omega) (by omega) fun S2 X2=>?_
 refine hN _ _ ?_
 walk_at "y"
 refine ih ht (by omega) fun S3 X3=>?_
 refine ih hu (by omega) fun S4 X4=>?_
 have a:=t.J_
 have c:=u.J_
 refine⟨bh (by rw[Bd.J5,Bd.J5];omega),?_⟩
 exact k S4 (X1.trans (X2.trans (X3.trans X4)))
def B_{xb s0 s1 s2 s3:ap}(n m:Nat)(hm:n<=m)(Nc:kz m xb)(ih:dz n s3):nY n (aP 4 (cw xb s0 s1 s2 s3)):=by
 intro S t f b Q E ht hs k
 unfold cw
 refine bT ?_
 simp only[Bd.size]at hs
 rw[show am 4 [(Bd.Kf t).pv,PV.int f,PV.int b]=[some (.tup [.str "often",t.pv]),some (.int f),some (.int b),none] from rfl]
 refine ak fun N hN=>?_
 walk_at "y"
 refine Nc (by omega) (by omega) fun S1 X1=>?_
 refine hN _ _ ?_
 walk_at "y"
 refine ih ht (by omega) fun S3 X3=>?_
 have a:=t.J_
 refine⟨bh (by rw[Bd.J5];simp;omega),?_⟩
 exact k S3 (X1.trans X3)
def Fe{xr xb s0 s1 s2 s3:ap}(n m:Nat)(hm:n<=m)(Oi:dy m xr)(Nc:kz m xb)(ih:dz n s3):rF n (aP 7 (ci xr xb s0 s1 s2 s3)):=by
 intro S t f b Q E hd hh hs k
 unfold ci
 refine bT ?_
 cases t with
 |Kg t u=>
  simp only[Bd.size]at hs
  simp only[Bd.dep]at hd
  rw[show am 7 [(Bd.Kg t u).pv,PV.int f,PV.int b]=[some (.tup [.str "either",t.pv,u.pv]),some (.int f),some (.int b),none,none,none,none] from rfl]
  refine ak fun N hN=>?_
  walk_at "y"
  refine hN _ _ (ak fun N hN=>?_)
  walk_at "y"
  refine hN _ _ (ak fun N hN=>?_)
  walk_at "y"
  refine Oi (by omega) (by omega) fun S1 X1=>?_
  refine hN _ _ (ak fun N hN=>?_)
  walk_at "y"
  refine Nc (by omega) (by omega) fun S2 X2=>?_
  refine Nc (by omega) (by omega) fun S3 X3=>?_
  rw[B4]
  refine⟨bh (by simp),?_⟩
  refine hN _ _ ?_
  walk_at "y"
  refine ih (by omega) (by omega) fun S4 X4=>?_
  have a:=t.J_
  have c:=u.J_
  refine⟨bh (by rw[Bd.J5];simp;omega),?_⟩
  refine ih (by omega) (by omega) fun S5 X5=>?_
  refine⟨bh (by rw[VH,Bd.J5,Bd.J5];simp;omega),?_⟩
  exact k S5 (X1.trans (X2.trans (X3.trans (X4.trans X5))))
 |Ka z q t u=>
  simp only[Bd.size]at hs
  simp only[Bd.dep]at hd
  rw[show am 7 [(Bd.Ka z q t u).pv,PV.int f,PV.int b]=[some (.tup [.str "take",.str z,.int q,t.pv,u.pv]),some (.int f),some (.int b),none,none,none,none] from rfl]
  refine ak fun N hN=>?_
  walk_at "y"
  refine hN _ _ (ak fun N hN=>?_)
  walk_at "y"
  refine hN _ _ (ak fun N hN=>?_)
  walk_at "y"
  refine Oi (by omega) (by omega) fun S1 X1=>?_
  refine hN _ _ (ak fun N hN=>?_)
  walk_at "y"
  refine Nc (by omega) (by omega) fun S2 X2=>?_
  refine Nc (by omega) (by omega) fun S3 X3=>?_
  rw[B8]
  refine⟨bh (by simp),?_⟩
  refine hN _ _ ?_
  walk_at "y"
  refine ih (by omega) (by omega) fun S4 X4=>?_
  have a:=t.J_
  have c:=u.J_
  refine⟨bh (by rw[Bd.J5];simp;omega),?_⟩
  refine ih (by omega) (by omega) fun S5 X5=>?_
  refine⟨bh (by rw[VH,Bd.J5,Bd.J5];simp;omega),?_⟩
  exact k S5 (X1.trans (X2.trans (X3.trans (X4.trans X5))))
 |_=>simp[Bd.hd,aG]at hh
def Ff{s0 s1 s2 s3:ap}(n:Nat)(RI:lI n s0)(ih1:rF n s1)(ih2:nY n s2):dz (n+1) (aP 4 (i5 s0 s1 s2 s3)):=by
 intro S t f b Q E hd hs k
 unfold i5
 refine bT ?_
 rw[show am 4 [t.pv,PV.int f,PV.int b]=[some t.pv,some (.int f),some (.int b),none] from rfl]
 refine ak fun N hN=>?_
 simp only[aq,af,v3,lk,c3]
 have e0:=t.LY
 rw[e0]
 simp only[ae,cv,List.set_cons_zero,List.set_cons_succ]
 rw[<-e0]
 refine hN _ _ (ak fun N hN=>?_)
 walk_at "x"
 simp only[VX,VS]
 by_cases h0:t.hd=("rest":Str)
 ·rw[if_pos h0]
  have:=k S .refl
  cases t with
  |rest=>exact this
  |_=>simp[Bd.hd,aG]at h0
 rw[if_neg h0]
 refine hN _ _ (ak fun N hN=>?_)
 walk_at "x"
 simp only[VX,VS]
 by_cases h1:t.hd=("then":Str)
 ·rw[if_pos h1]
  obtain⟨a,c,rfl⟩:=t.Pm.mp h1
  simp only[Bd.dep]at hd
  exact RI (by omega) (by omega) hs k
 rw[if_neg h1]
 refine hN _ _ (ak fun N hN=>?_)
 walk_at "x"
 simp only[VX,VS]
 by_cases h2:t.hd=("often":Str)
 ·rw[if_pos h2]
  obtain⟨a,rfl⟩:=t.Pn.mp h2
  simp only[Bd.dep]at hd
  exact ih2 (by omega) hs k
 rw[if_neg h2]
 refine hN _ _ (ak fun N hN=>?_)
 simp only[br,aR,af,v3,lk,c3,aC,ao]
 rw[show([PV.str "either",PV.str "take"]:List PV)=(["either","take"]:Zs).map PV.str from rfl]
 refine bR t.NN zm ?_
 simp only[VX,VS]
 by_cases h3:t.hd∈(["either","take"]:Zs)
 ·rw[if_pos h3]
  walk_at "x"
  exact ih1 hd h3 hs k
 rw[if_neg h3]
 simp only[aQ]
 refine hN _ _ ?_
 walk_at "x"
 have:=k S .refl
 cases t with
 |rest=>exact absurd rfl h0
 |J9=>exact absurd rfl h1
 |Kf=>exact absurd rfl h2
 |Kg=>simp[Bd.hd,aG]at h3
 |Ka=>simp[Bd.hd,aG]at h3
 |pay=>exact⟨bh (by simp),this⟩
 |put=>exact⟨bh (by simp),this⟩
 |use=>exact⟨bh (by simp),this⟩
abbrev lJ(n:Nat)(w:ap):Prop:=∀{S:ax}{t:Bd}{Q:bc}{E:bC},t.dep<=n->t.size<=400->(∀S',Ext S S'->Q (.tup t.KU) S')->w [t.pv] S Q E
def NZ{xo xr:ap}(n:Nat)(Re:dz n xo)(Oi:dy n xr):lJ n (aP 1 (qW xo xr)):=by
 intro S t Q E hd hs k
 unfold qW
 refine bT ?_
 rw[show am 1 [t.pv]=[some t.pv] from rfl]
 walk_at "x"
 refine Oi hd (by omega) fun S1 X1=>?_
 refine Re hd hs fun S2 X2=>?_
 have a:=t.J_
 refine⟨bh (by rw[Bd.J5];simp;omega),?_⟩
 exact k S2 (X1.trans X2)
noncomputable def Bd.Nd:Bd->PV
 | .J9 a b=>.tup [a.Nd,b.Nd]
 | .Kg a _=>.tup [.int 0,a.Nd]
 | .Ka _ _ _ b=>.tup [.int 1,b.Nd]
 |_=>.tup []
abbrev ja(n:Nat)(w:ap):Prop:=∀{S:ax}{t:Bd}{Q:bc}{E:bC},t.dep<=n->Q t.Nd S->w [t.pv] S Q E
def zp{s0:ap}(n:Nat)(ih:ja n s0):ja (n+1) (aP 1 (fA s0)):=by
 intro S t Q E hd k
 unfold fA
 refine bT ?_
 rw[show am 1 [t.pv]=[some t.pv] from rfl]
 cases t with
 |J9 a b=>
  simp only[Bd.dep]at hd
  rw[show(Bd.J9 a b).pv = .tup [.str "then",a.pv,b.pv] from rfl]
  walk_at "y"
  refine ih (by omega) ?_
  exact ih (by omega) k
 |Kg a b=>
  simp only[Bd.dep]at hd
  rw[show(Bd.Kg a b).pv = .tup [.str "either",a.pv,b.pv] from rfl]
  walk_at "y"
  exact ih (by omega) k
 |Ka z m a b=>
  simp only[Bd.dep]at hd
  rw[show(Bd.Ka z m a b).pv = .tup [.str "take",.str z,.int m,a.pv,b.pv] from rfl]
  walk_at "y"
  exact ih (by omega) k
 |Kf a=>
  rw[show(Bd.Kf a).pv = .tup [.str "often",a.pv] from rfl]
  walk_at "y"
  exact k
 |rest=>
  rw[show(Bd.rest).pv = .tup [.str "rest"] from rfl]
  walk_at "y"
  exact k
 |pay x y=>
  rw[show(Bd.pay x y).pv = .tup [.str "pay",.tup [.int x,.int y]] from rfl]
  walk_at "y"
  exact k
 |put z m=>
  rw[show(Bd.put z m).pv = .tup [.str "put",.str z,.int m] from rfl]
  walk_at "y"
  exact k
 |use z=>
  rw[show(Bd.use z).pv = .tup [.str "use",.str z] from rfl]
  walk_at "y"
  exact k
noncomputable def Bd.M4:Bd->Bool | .Kf _=>true|_=>false
abbrev lK(n:Nat)(w:ap):Prop:=∀{S:ax}{t:Bd}{Q:bc}{E:bC},t.dep<=n->t.size<=900->(∀S',Ext S S'->Q (.int t.size) S')->w [t.pv] S Q E
def xq{xp:ap}(n:Nat)(ML:dW n xp):lK n (aP 1 (qU xp)):=by
 intro S t Q E hd hs k
 unfold qU
 refine bT ?_
 rw[show am 1 [t.pv]=[some t.pv] from rfl]
 walk_at "x"
 refine ML hd hs fun p S1 hp X1 h1=>?_
 simp only[h1,VI,t.Kl]
 exact k S1 X1
noncomputable def Bd.led:Bd->Nat->PV->PV
 |_,0,v=>v
 | .Kf a,p+1,v=>.tup [.tup [.int 1,a.led p v]]
 | .J9 a b,p+1,v=>if p < a.size then .tup [a.led p v,b.Nd] else .tup [a.Nd,b.led (p - a.size) v]
 | .Kg a b,p+1,v=>if p < a.size then .tup [.int 0,a.led p v] else .tup [.int 1,b.led (p - a.size) v]
 | .Ka _ _ a b,p+1,v=>if p < a.size then .tup [.int 0,a.led p v] else .tup [.int 1,b.led (p - a.size) v]
 |_,_+1,v=>v
abbrev kA(n:Nat)(w:ap):Prop:=∀{S:ax}{t:Bd}{p:Nat}{v:PV}{Q:bc}{E:bC},t.dep<=n->t.size<=900->p < t.size->(∀S',Ext S S'->Q (t.led p v) S')->w [t.pv,.int p,v] S Q E
def Ca{xp xt s0:ap}(n m:Nat)(hm:n<=m)(Po:lK m xp)(QQ:ja m xt)(ih:kA n s0):kA (n+1) (aP 8 (fB xp xt s0)):=by
 intro S t p v Q E hd hs hp k
 unfold fB
 refine bT ?_
 rw[show am 8 [t.pv,PV.int p,v]=[some t.pv,some (.int p),some v,none,none,none,none,none] from rfl]
 refine ak fun N hN=>?_
 walk_at "x"
 simp only[VX,VS]
 cases p with
 |zero=>
  rw[if_pos (show((0:Nat):Int)=0 from rfl)]
  have:=k S .refl
  cases t<;>exact this
 |succ p=>
  rw[if_neg (by omega)]
  refine hN _ _ (ak fun N hN=>?_)
  have ep:(((p+1:Nat):Int) - 1)=(p:Int):=by omega
  cases t with
  |Kf a=>
   simp only[Bd.size]at hs hp
   simp only[Bd.dep]at hd
   rw[show(Bd.Kf a).pv = .tup [.str "often",a.pv] from rfl]
   walk_at "y"
   rw[ep]
   exact ih (by omega) (by omega) (by omega) k
  |rest=>simp only[Bd.size]at hp;omega
  |pay=>simp only[Bd.size]at hp;omega
  |put=>simp only[Bd.size]at hp;omega
  |use=>simp only[Bd.size]at hp;omega
  |J9 a b=>
   simp only[Bd.size]at hs hp
   simp only[Bd.dep]at hd
   rw[show(Bd.J9 a b).pv = .tup [.str "then",a.pv,b.pv] from rfl]
   walk_at "y"
   refine hN _ _ (ak fun N hN=>?_)
   walk_at "y"
   refine hN _ _ (ak fun N hN=>?_)
   walk_at "y"
   refine hN _ _ (ak fun N hN=>?_)
   walk_at "y"
   refine Po (by omega) (by omega) fun S1 X1=>?_
   refine hN _ _ (ak fun N hN=>?_)
   walk_at "x"
   by_cases hl:p < a.size
   ·have e1:decide (((p+1:Nat):Int) < 1+(a.size:Int))=true:=Wu (by omega)
    rw[e1]
    simp only[WB]
    refine hN _ _ (ak fun N hN=>?_)
    walk_at "y"
    rw[ep]
    refine ih (by omega) (by omega) hl fun S2 X2=>?_
    refine hN _ _ (ak fun N hN=>?_)
    walk_at "y"
    refine hN _ _ (ak fun N hN=>?_)
    walk_at "y"
    refine QQ (by omega) ?_
    have:=k S2 (X1.trans X2)
    simp only[Bd.led,if_pos hl]at this
    exact this
   ·have e1:decide (((p+1:Nat):Int) < 1+(a.size:Int))=false:=Wc (by omega)
    rw[e1]
    simp only[VZ,Wx]
    refine hN _ _ (ak fun N hN=>?_)
    have e2:(((p+1:Nat):Int) - (1+(a.size:Int)))=((p - a.size:Nat):Int):=by omega
    have e4:decide ((1:Int)=0)=false:=by decide
    walk_at "y"
    simp only[e4,VZ,Wx]
    rw[e2]
    refine ih (by omega) (by omega) (by omega) fun S2 X2=>?_
    refine hN _ _ (ak fun N hN=>?_)
    walk_at "y"
    refine hN _ _ (ak fun N hN=>?_)
    walk_at "y"
    simp only[e4,VZ,Wx]
    refine hN _ _ ?_
    walk_at "y"
    refine QQ (by omega) ?_
    have:=k S2 (X1.trans X2)
    simp only[Bd.led,if_neg hl]at this
    exact this
  |Kg a b=>
   simp only[Bd.size]at hs hp
   simp only[Bd.dep]at hd
   rw[show(Bd.Kg a b).pv = .tup [.str "either",a.pv,b.pv] from rfl]
   walk_at "y"
   refine hN _ _ (ak fun N hN=>?_)
   walk_at "y"
   refine hN _ _ (ak fun N hN=>?_)
   walk_at "y"
   refine hN _ _ (ak fun N hN=>?_)
   walk_at "y"
   refine Po (by omega) (by omega) fun S1 X1=>?_
   refine hN _ _ (ak fun N hN=>?_)
   walk_at "x"
   by_cases hl:p < a.size
   ·have e1:decide (((p+1:Nat):Int) < 1+(a.size:Int))=true:=Wu (by omega)
    rw[e1]
    simp only[WB]
    refine hN _ _ (ak fun N hN=>?_)
    walk_at "y"
    rw[ep]
    refine ih (by omega) (by omega) hl fun S2 X2=>?_
    refine hN _ _ (ak fun N hN=>?_)
    walk_at "y"
    have:=k S2 (X1.trans X2)
    simp only[Bd.led,if_pos hl]at this
    exact this
   ·have e1:decide (((p+1:Nat):Int) < 1+(a.size:Int))=false:=Wc (by omega)
    rw[e1]
    simp only[VZ,Wx]
    refine hN _ _ (ak fun N hN=>?_)
    have e2:(((p+1:Nat):Int) - (1+(a.size:Int)))=((p - a.size:Nat):Int):=by omega
    have e4:decide ((1:Int)=0)=false:=by decide
    walk_at "y"
    simp only[e4,VZ,Wx]
    rw[e2]
    refine ih (by omega) (by omega) (by omega) fun S2 X2=>?_
    refine hN _ _ (ak fun N hN=>?_)
    walk_at "y"
    have:=k S2 (X1.trans X2)
    simp only[Bd.led,if_neg hl]at this
    exact this
  |Ka z q a b=>
   simp only[Bd.size]at hs hp
   simp only[Bd.dep]at hd
   rw[show(Bd.Ka z q a b).pv = .tup [.str "take",.str z,.int q,a.pv,b.pv] from rfl]
   walk_at "y"
   refine hN _ _ (ak fun N hN=>?_)
   walk_at "y"
   refine hN _ _ (ak fun N hN=>?_)
   walk_at "y"
   refine hN _ _ (ak fun N hN=>?_)
   walk_at "y"
   refine Po (by omega) (by omega) fun S1 X1=>?_
   refine hN _ _ (ak fun N hN=>?_)
   walk_at "x"
   by_cases hl:p < a.size
   ·have e1:decide (((p+1:Nat):Int) < 1+(a.size:Int))=true:=Wu (by omega)
    rw[e1]
    simp only[WB]
    refine hN _ _ (ak fun N hN=>?_)
    walk_at "y"
    rw[ep]
    refine ih (by omega) (by omega) hl fun S2 X2=>?_
    refine hN _ _ (ak fun N hN=>?_)
    walk_at "y"
    have:=k S2 (X1.trans X2)
    simp only[Bd.led,if_pos hl]at this
    exact this
   ·have e1:decide (((p+1:Nat):Int) < 1+(a.size:Int))=false:=Wc (by omega)
    rw[e1]
    simp only[VZ,Wx]
    refine hN _ _ (ak fun N hN=>?_)
    have e2:(((p+1:Nat):Int) - (1+(a.size:Int)))=((p - a.size:Nat):Int):=by omega
    have e4:decide ((1:Int)=0)=false:=by decide
    walk_at "y"
    simp only[e4,VZ,Wx]
    rw[e2]
    refine ih (by omega) (by omega) (by omega) fun S2 X2=>?_
    refine hN _ _ (ak fun N hN=>?_)
    walk_at "y"
    have:=k S2 (X1.trans X2)
    simp only[Bd.led,if_neg hl]at this
    exact this
mutual
/-- no great whole number within -/
noncomputable def kB(b:Nat):PV->Bool
 | .int i=>decide (i.natAbs<=b)
 | .tup xs=>intBs b xs
 |_=>true
noncomputable def intBs(b:Nat):List PV->Bool
 |[]=>true
 |x::r=>kB b x&&intBs b r
end
theorem intBs_iff{b:Nat}:∀{xs:List PV},intBs b xs=true↔∀x∈xs,kB b x=true
 |[]=>by simp[intBs]
 |x::r=>by simp[intBs,intBs_iff (xs:=r)]
def fR{b:Nat}{xs:List PV}(h:kB b (.tup xs)=true):∀x∈xs,kB b x=true:=by simp only[kB]at h;exact intBs_iff.mp h
noncomputable def cf(n:Int):PV:=.tup [.int (M3.aW n 2520),.int (M3.aE n 2520)]
def gC:(.tup [.int 0,.int 1]:PV)=cf 0:=by
 have h1:M3.aW 0 2520=0:=by decide +kernel
 have h2:M3.aE 0 2520=1:=by decide +kernel
 unfold cf
 rw[h1,h2]
def rG(n:Int):M3.FU (M3.aW n 2520) (M3.aE n 2520):=M3.i3 (by decide)
def dX(n:Int):M3.aW n 2520 * 2520=n * M3.aE n 2520:=M3.cg (by decide)
def cY(n:Int):0 < M3.aE n 2520/\M3.aE n 2520<=2520:=by
 refine⟨(rG n).pos,?_⟩
 unfold M3.aE
 rw[if_neg (by decide)]
 exact ZD _ (by decide)
def lL{n:Int}(h:0<=n):0<=M3.aW n 2520:=by
 unfold M3.aW
 rw[if_neg (by decide)]
 exact Yc h (Int.natCast_nonneg _)
def mP{x y:Int}(h:uQ x y):(.tup [.int x,.int y]:PV)=cf (x * (2520 / y)):=by
 have hy:y=1\/y=2\/y=3\/y=4\/y=5\/y=6\/y=7\/y=8\/y=9:=by have:=h.low.pos;have:=h.y1;omega
 have e:2520 / y * y=2520:=by rcases hy with rfl|rfl|rfl|rfl|rfl|rfl|rfl|rfl|rfl<;>decide
 have u:=M3.dj h.low (x:=x * (2520 / y)) (y:=2520) (by decide) (by rw[ZE,e])
 unfold cf
 rw[u.1,u.2]
def mQ(n m:Int):(.tup [.int (M3.aW (M3.aW n 2520 * M3.aE m 2520+M3.aW m 2520 * M3.aE n 2520) (M3.aE n 2520 * M3.aE m 2520)),.int (M3.aE (M3.aW n 2520 * M3.aE m 2520+M3.aW m 2520 * M3.aE n 2520) (M3.aE n 2520 * M3.aE m 2520))]:PV)=cf (n+m):=by
 have u:=M3.dj (rG (n+m)) (x:=M3.aW n 2520 * M3.aE m 2520+M3.aW m 2520 * M3.aE n 2520) (y:=M3.aE n 2520 * M3.aE m 2520) (ZL (cY n).1 (cY m).1) (by
  have h1:=dX n;have h2:=dX m;have h3:=dX (n+m)
  generalize M3.aW n 2520=a at *;generalize M3.aE n 2520=b at *;generalize M3.aW m 2520=c at *;generalize M3.aE m 2520=d at *
  generalize M3.aW (n+m) 2520=L at *;generalize M3.aE (n+m) 2520=B at *
  grind)
 unfold cf
 rw[u.1,u.2]
def s9(n m:Int):(.tup [.int (M3.aW (M3.aW n 2520 * m) (M3.aE n 2520 * 1)),.int (M3.aE (M3.aW n 2520 * m) (M3.aE n 2520 * 1))]:PV)=cf (n * m):=by
 have u:=M3.dj (rG (n * m)) (x:=M3.aW n 2520 * m) (y:=M3.aE n 2520 * 1) (by rw[Int.mul_one];exact(cY n).1) (by
  have h1:=dX n;have h3:=dX (n * m)
  generalize M3.aW n 2520=a at *;generalize M3.aE n 2520=b at *
  generalize M3.aW (n * m) 2520=L at *;generalize M3.aE (n * m) 2520=B at *
  grind)
 unfold cf
 rw[u.1,u.2]
abbrev Ty:=Int×List (Int×Int)
noncomputable def jn(p q:Int×Int):Int×Int:=(p.1+q.1,if q.2 - p.1 > p.2 then q.2 - p.1 else p.2)
noncomputable def Ty.join(t u:Ty):Ty:=(t.1+u.1,List.zipWith jn t.2 u.2)
noncomputable def ag(m:Int)(p:Int×Int):Int×Int:=(p.1 * m,p.2+(if -p.1 * (m - 1) > 0 then -p.1 * (m - 1) else 0))
noncomputable def Ty.again(m:Int)(t:Ty):Ty:=(t.1 * m,t.2.map (ag m))
noncomputable def zl(js:Zs):List (Int×Int):=js.map fun _=>(0,0)
noncomputable def z0(js:Zs):Ty:=(0,zl js)
def xu{m:Int}{p:Int×Int}(h:0<=p.2):0<=(ag m p).2:=by
 simp only[ag]
 split<;>omega
def Ty.Ok(js:Zs)(t:Ty):Prop:=t.2.length=js.length/\0<=t.1/\∀p∈t.2,0<=p.2
theorem s_{α β:Type}(f:α->α->β):∀l:List α,List.zipWith f l l=l.map fun x=>f x x
 |[]=>rfl
 |x::r=>by rw[List.zipWith_cons_cons,s_ f r];rfl
theorem kC{α β γ:Type}{f:α->β->γ}:∀{xs:List α}{ys:List β}{z:γ},z∈List.zipWith f xs ys->∃x∈xs,∃y∈ys,z=f x y
 |[],_,z,h=>by simp at h
 |_::_,[],z,h=>by simp at h
 |x::r,y::s,z,h=>by
  rw[List.zipWith_cons_cons,VL]at h
  rcases h with rfl|h
  ·exact⟨x,by simp,y,by simp,rfl⟩
  ·obtain⟨a,ha,b,hb,e⟩:=kC h
   exact⟨a,by simp[ha],b,by simp[hb],e⟩
theorem Ty.Ok.join{js:Zs}{t u:Ty}(h:t.Ok js)(g:u.Ok js):(t.join u).Ok js:=by
 refine⟨?_,?_,fun p hp=>?_⟩
 ·show(List.zipWith jn t.2 u.2).length=_
  rw[List.length_zipWith,h.1,g.1,Nat.min_self]
 ·exact Int.add_nonneg h.2.1 g.2.1
 ·obtain⟨x,hx,y,hy,rfl⟩:=kC hp
  have:=h.2.2 x hx
  simp only[jn]
  split<;>omega
theorem Ty.Ok.again{js:Zs}{t:Ty}{m:Int}(h:t.Ok js)(hm:1<=m):(t.again m).Ok js:=by
 refine⟨?_,Xd h.2.1 (by omega),fun p hp=>?_⟩
 ·show(t.2.map (ag m)).length=_
  rw[VI,h.1]
 ·obtain⟨x,hx,rfl⟩:=VW.mp hp
  exact xu (h.2.2 x hx)
def qi(js:Zs):(z0 js).Ok js:=⟨VI _,Wi _,fun p hp=>by obtain⟨x,hx,rfl⟩:=VW.mp hp;exact Wi _⟩
def Ty.Ql(B:Int)(t:Ty):Prop:=t.1<=B/\∀p∈t.2,-B<=p.1/\p.1<=B/\p.2<=B
def Ty.Ql.mono{B D:Int}{t:Ty}(h:t.Ql B)(g:B<=D):t.Ql D:=⟨YJ h.1 g,fun p hp=>by have:=h.2 p hp;omega⟩
theorem Ty.Ql.join{B D:Int}{t u:Ty}(h:t.Ql B)(g:u.Ql D)(hB:0<=B)(hD:0<=D):(t.join u).Ql (B+D):=by
 refine⟨Int.add_le_add h.1 g.1,fun p hp=>?_⟩
 obtain⟨x,hx,y,hy,rfl⟩:=kC hp
 have:=h.2 x hx
 have:=g.2 y hy
 simp only[jn]
 split<;>omega
theorem bj{α:Type}{g:Tg}{te:bd}{σ':cG}{keep:ax->Prop}{fin:List PV->ax->Prop}{S:ax}(enc f:α->PV)(hk:keep S):∀(xs:List α)(ys:List PV),
  (∀x∈xs,∃σ2,g.put (enc x) σ'=some σ2/\∀Q:bc,Q (f x) S->te σ2 S Q eE)->ys.length+xs.length<=sizeLine->fin (ys++xs.map f) S->cJ g bN te σ' keep fin (xs.map enc) ys S
 |[],ys,_,hl,hf=>⟨hk,by simpa using hl,by simpa using hf⟩
 |x::r,ys,h,hl,hf=>by
  obtain⟨σ2,e,h1⟩:=h x (by simp)
  refine⟨hk,by simp at hl;omega,?_⟩
  rw[e]
  show te σ2 S (fun y S4=>cJ g bN te σ' keep fin (r.map enc) (ys++[y]) S4) eE
  exact h1 _ (bj enc f hk r (ys++[f x]) (fun y hy=>h y (by simp[hy])) (by simp at hl ⊢;omega) (by simpa using hf))
def bt{n:Nat}(h:n<=1000):n<=sizeLine:=VU h (by decide)
abbrev nZ(w:ap):Prop:=∀{S:ax}{a b:Int}{Q:bc}{E:bC},0<=a->0<=b->Q (.int (Int.gcd a b)) S->w [.int a,.int b] S Q E
def Lz:nZ (aP 3 iC):=by
 intro S a b Q E ha hb k
 unfold iC
 refine bT ?_
 rw[show am 3 [PV.int a,PV.int b]=[some (.int a),some (.int b),none] from rfl]
 refine ak fun N hN=>?_
 refine⟨fun n σ S'=>S'=S/\∃(x y:Int) (z:Option PV),σ=[some (.int x),some (.int y),z]/\0<=x/\0<=y/\Int.gcd x y=Int.gcd a b/\y.toNat=n,⟨_,rfl,a,b,none,rfl,ha,hb,rfl,rfl⟩,?_⟩
 rintro n σ S' ⟨rfl,x,y,z,rfl,hx,hy,hg,rfl⟩
 walk_at "x"
 simp only[Wt,Z7,XE]
 split
 ·rename_i hp
  refine⟨fun σ' Os=>Os=S'/\∃(x' y':Int) (z':Option PV),σ'=[some (.int x'),some (.int y'),z']/\0<=x'/\0<=y'/\Int.gcd x' y'=Int.gcd a b/\y'.toNat < y.toNat,?_,?_⟩
  ·rintro σ' Os ⟨rfl,x',y',z',rfl,h1,h2,h3,h4⟩
   exact⟨_,h4,rfl,x',y',z',rfl,h1,h2,h3,rfl⟩
  ·have e:x.fmod y=x % y:=iJ hy
   have l1:=YZ x (b:=y) hp
   have l2:=Yt x (show 0 < y by omega)
   refine⟨hp,rfl,y,x.fmod y,_,rfl,hy,by omega,?_,by omega⟩
   rw[M3.nh];exact hg
 ·rename_i hp
  have QP:y=0:=by omega
  subst QP
  refine hN _ _ ?_
  walk_at "x"
  rw[if_neg (by omega)]
  have RG:x=(Int.gcd a b:Int):=by
   rw[<-hg]
   rw[ZX]
   omega
  rw[RG]
  exact k
abbrev n5(w:ap):Prop:=∀{S:ax}{t b:Int}{Q:bc}{E:bC},0<=t->0 < b->b.natAbs < 2 ^ 8000->Q (.tup [.int (M3.aW t b),.int (M3.aE t b)]) S->w [.int t,.int b] S Q E
def Kh{xc:ap}(Lz:nZ xc):n5 (aP 3 (eN xc)):=by
 intro S t b Q E ht hb hs k
 unfold eN
 refine bT ?_
 rw[show am 3 [PV.int t,PV.int b]=[some (.int t),some (.int b),none] from rfl]
 refine ak fun N hN=>?_
 walk_at "x"
 refine Lz ht (by omega) (hN _ _ (ak fun N hN=>?_))
 walk_at "x"
 rw[if_neg (by rw[VS];omega)]
 refine hN _ _ ?_
 walk_at "x"
 have gp:(0:Int) < (Int.gcd t b:Int):=Yy.mpr (M3.fY (by omega))
 have gl:=M3.uz (t:=t) (b:=b) (by omega)
 have cd:∀z,mj z (Int.gcd t b:Int):=fun z=>⟨by omega,Wy (by omega) hs⟩
 refine⟨cd _,cd _,?_⟩
 have d1:=(M3.m_ (t:=t) (b:=b) (by omega))
 rw[if_neg (by omega)]at d1
 rw[d1.1,d1.2]
 exact k
def G_(n m:Int):0 < M3.aE n 2520 * M3.aE m 2520/\(M3.aE n 2520 * M3.aE m 2520).natAbs < 2 ^ 8000:=by
 obtain⟨a,b⟩:=cY n
 obtain⟨c,d⟩:=cY m
 have p:=ZL a c
 have q:M3.aE n 2520 * M3.aE m 2520<=2520 * 2520:=ZZ b d (by omega) (by decide)
 exact⟨p,i8 (by omega)⟩
def kD(i n:Int):IntMulOk i (M3.aE n 2520):=by have:=cY n;exact nO (by omega) (by omega)
abbrev fS(w:ap):Prop:=∀{S:ax}{n m:Int}{Q:bc}{E:bC},0<=n->0<=m->Q (cf (n+m)) S->w [cf n,cf m] S Q E
def Kt{xf:ap}(Kh:n5 xf):fS (aP 2 (iD xf)):=by
 intro S n m Q E hn hm k
 unfold iD
 refine bT ?_
 rw[show am 2 [cf n,cf m]=[some (cf n),some (cf m)] from rfl]
 simp only[cf]
 walk_at "x"
 simp only[cv,cX]
 refine⟨kD _ _,kD _ _,kD _ _,?_⟩
 have b:=G_ n m
 refine Kh (Int.add_nonneg (Xd (lL hn) (Xz (cY m).1)) (Xd (lL hm) (Xz (cY n).1))) b.1 b.2 ?_
 rw[mQ]
 exact k
def zq{xf:ap}(L8:i7 xf):fS (aP 2 (fh xf)):=by
 intro S n m Q E hn hm k
 unfold fh
 refine bT ?_
 rw[show am 2 [cf n,cf m]=[some (cf n),some (cf m)] from rfl]
 simp only[cf]
 walk_at "x"
 simp only[cv,cX]
 refine⟨kD _ _,kD _ _,kD _ _,?_⟩
 have b:=G_ n m
 refine L8 b.1 b.2 ?_
 rw[mQ]
 exact k
abbrev lM(w:ap):Prop:=∀{S:ax}{n m:Int}{Q:bc}{E:bC},0<=n->0<=m->m < 2 ^ 62->Q (cf (n * m)) S->w [cf n,.tup [.int m,.int 1]] S Q E
def KL{xf:ap}(Kh:n5 xf):lM (aP 2 (gi xf)):=by
 intro S n m Q E hn hm hm2 k
 unfold gi
 refine bT ?_
 rw[show am 2 [cf n,.tup [.int m,.int 1]]=[some (cf n),some (.tup [.int m,.int 1])] from rfl]
 simp only[cf]
 walk_at "x"
 simp only[cv,cX]
 refine⟨nO (by omega) (by omega),nO (by decide) (by decide),?_⟩
 have b:=cY n
 refine Kh (Xd (lL hn) hm) (by omega) (i8 (by omega)) ?_
 rw[s9]
 exact k
noncomputable def Ty.es(t:Ty):List PV:=t.2.map fun p=>.int p.1
noncomputable def Ty.dm(t:Ty):List PV:=t.2.map fun p=>.int p.2
noncomputable def Ty.pv(t:Ty):PV:=.tup [cf t.1,.tup t.es,.tup t.dm]
noncomputable def d9(js:Zs):PV:=.tup (js.map PV.str)
noncomputable def oN(js:Zs)(z:Str)(e d:Int):List (Int×Int):=js.map fun j=>if j=z then (e,d) else (0,0)
abbrev n6(w:ap):Prop:=∀{S:ax}{js:Zs}{Q:bc}{E:bC},js.length<=1000->Q (z0 js).pv S->w [d9 js] S Q E
def zr(js:Zs):List.replicate js.length (PV.int 0)=(z0 js).es:=by
 unfold Ty.es z0 zl
 rw[V9]
 induction js with
 |nil=>rfl
 |cons j js ih=>rw[V1,Wo,ih];rfl
def Fg(js:Zs):List.replicate js.length (PV.int 0)=(z0 js).dm:=by rw[zr];unfold Ty.es Ty.dm z0 zl;rw[V9,V9];rfl
def MY:n6 (aP 1 jJ):=by
 intro S js Q E hj k
 unfold jJ
 refine bT ?_
 rw[show am 1 [d9 js]=[some (d9 js)] from rfl]
 unfold d9
 walk_at "x"
 simp only[sP,VI,Int.toNat_natCast]
 refine⟨by omega,by omega,by omega,by omega,?_⟩
 rw[gC]
 have e:(PV.tup [cf 0,.tup (List.replicate js.length (.int 0)),.tup (List.replicate js.length (.int 0))])=(z0 js).pv:=by
  unfold Ty.pv
  rw[<-zr,<-Fg]
  rfl
 rw[e]
 exact k
abbrev jR(w:ap):Prop:=∀{S:ax}{js:Zs}{z:Str}{m:Int}{Q:bc}{E:bC},js.length<=1000->(∀S',Ext S S'->Q (.tup (js.map fun j=>.int (if j=z then m else 0))) S')->w [d9 js,.str z,.int m] S Q E
def Le:jR (aP 3 iE):=by
 intro S js z m Q E hj k
 unfold iE
 refine bT ?_
 rw[show am 3 [d9 js,.str z,.int m]=[some (d9 js),some (.str z),some (.int m)] from rfl]
 unfold d9
 walk_at "x"
 refine bj PV.str (fun j=>.int (if j=z then m else 0)) trivial js [] (fun j hj=>⟨_,rfl,fun Q q=>?_⟩) (by simpa using bt hj) fun p hp=>?_
 ·walk_at "x"
  simp only[VX,VS]
  split
  ·rename_i h;rw[if_pos h]at q;exact q
  ·rename_i h;rw[if_neg h]at q;exact q
 ·simp only[List.nil_append,aa]
  exact k _ (.new hp)
def uT{α β γ δ:Type}(f:α->β->γ)(g:γ->δ)(xs:List α)(ys:List β):(xs.zip ys).map (fun z=>g (f z.1 z.2))=(List.zipWith f xs ys).map g:=by
 rw[List.zip,List.map_zipWith,List.map_zipWith]
def zt(t u:Ty):bz t.es u.es=(t.2.zip u.2).map fun z=>.tup [.int z.1.1,.int z.2.1]:=by
 unfold bz Ty.es
 rw[Zi,V9]
 rfl
def Fh(t:Ty):bz t.es t.dm=t.2.map fun z=>.tup [.int z.1,.int z.2]:=by
 unfold bz Ty.es Ty.dm
 rw[Zi,V9]
 rw[show t.2.zip t.2=t.2.map fun x=>(x,x)from s_ _ _,V9]
 rfl
def xv(t u:Ty):gk t.es t.dm u.dm=(t.2.zip u.2).map fun z=>.tup [.int z.1.1,.int z.1.2,.int z.2.2]:=by
 unfold gk Ty.es Ty.dm
 have:∀(l m:List (Int×Int)),((l.map fun p=>PV.int p.1).zip ((l.map fun p=>PV.int p.2).zip (m.map fun p=>PV.int p.2))).map GY=(l.zip m).map fun z=>.tup [.int z.1.1,.int z.1.2,.int z.2.2]:=fun l=>by
  induction l with
  |nil=>intro m;rfl
  |cons p r ih=>
   intro m
   cases m with
   |nil=>rfl
   |cons q s=>simp only[VT,List.zip_cons_cons];rw[ih s];rfl
 exact this t.2 u.2
def vO(t u:Ty):(t.2.zip u.2).map (fun z=>PV.int (z.1.1+z.2.1))=(t.join u).es:=uT jn (fun p=>PV.int p.1) t.2 u.2
def Cb(t u:Ty):(t.2.zip u.2).map (fun z=>PV.int (jn z.1 z.2).2)=(t.join u).dm:=uT jn (fun p=>PV.int p.2) t.2 u.2
abbrev qj(w:ap):Prop:=∀{S:ax}{t u:Ty}{Q:bc}{E:bC},t.2.length<=1000->(∀S',Ext S S'->Q (.tup (t.join u).es) S')->w [.tup t.es,.tup u.es] S Q E
def N0:qj (aP 2 qS):=by
 intro S t u Q E hj k
 unfold qS
 refine bT ?_
 rw[show am 2 [.tup t.es,.tup u.es]=[some (.tup t.es),some (.tup u.es)] from rfl]
 walk_at "x"
 rw[zt]
 refine bj _ (fun z=>PV.int (z.1.1+z.2.1)) trivial _ [] (fun z hz=>⟨_,rfl,fun Q q=>?_⟩) ?_ fun p hp=>?_
 ·walk_at "x"
  exact q
 ·rw[Wn,WY,XG]
  exact bt (by omega)
 ·simp only[List.nil_append,aa]
  rw[vO]
  exact k _ (.new hp)
abbrev tj(w:ap):Prop:=∀{S:ax}{t:Ty}{m:Int}{Q:bc}{E:bC},t.2.length<=1000->0<=m->m < 2 ^ 62->(∀S',Ext S S'->Q (.tup (t.again m).es) S')->w [.tup t.es,.int m] S Q E
def zu(t:Ty)(m:Int):t.2.map (fun p=>PV.int (p.1 * m))=(t.again m).es:=by
 unfold Ty.again Ty.es
 rw[V9]
 rfl
def zv(t:Ty)(m:Int):t.2.map (fun p=>PV.int (ag m p).2)=(t.again m).dm:=by
 unfold Ty.again Ty.dm
 rw[V9]
 rfl
def Ov:tj (aP 2 gj):=by
 intro S t m Q E hj h0 h1 k
 unfold gj
 refine bT ?_
 rw[show am 2 [.tup t.es,.int m]=[some (.tup t.es),some (.int m)] from rfl]
 walk_at "x"
 refine bj (fun p:Int×Int=>PV.int p.1) (fun p=>PV.int (p.1 * m)) trivial t.2 [] (fun z hz=>⟨_,rfl,fun Q q=>?_⟩) (by simpa using bt hj) fun p hp=>?_
 ·walk_at "x"
  exact⟨nO (by omega) (by omega),q⟩
 ·simp only[List.nil_append,aa]
  rw[zu]
  exact k _ (.new hp)
abbrev gD(w:ap):Prop:=∀{S:ax}{js:Zs}{t u:Ty}{Q:bc}{E:bC},js.length<=1000->t.Ok js->u.Ok js->(∀S',Ext S S'->Q (t.join u).pv S')->w [t.pv,u.pv] S Q E
def LA{xa xp:ap}(N0:qj xa)(Kt:fS xp):gD (aP 3 (nH xa xp)):=by
 intro S js t u Q E hj ht hu k
 unfold nH
 refine bT ?_
 rw[show am 3 [t.pv,u.pv]=[some t.pv,some u.pv,none] from rfl]
 unfold Ty.pv
 refine ak fun N hN=>?_
 walk_at "x"
 simp only[y9,af,v3,lk,c3,ae,cX,vN]
 have lt:=ht.1
 have lu:=hu.1
 refine⟨by unfold Ty.es Ty.dm;rw[VI,VI];omega,by unfold Ty.es Ty.dm;rw[VI,VI];omega,?_⟩
 rw[xv]
 refine bj _ (fun z=>PV.int (jn z.1 z.2).2) trivial _ [] (fun z hz=>⟨_,rfl,fun Q q=>?_⟩) ?_ fun p hp=>?_
 ·walk_at "x"
  exact q
 ·rw[Wn,WY,XG]
  exact bt (by omega)
 ·rw[Wm,Cb]
  refine hN _ _ ?_
  walk_at "x"
  simp only[cv,cX]
  refine Kt ht.2.1 hu.2.1 ?_
  refine N0 (t:=t) (u:=u) (by omega) fun S2 X2=>?_
  simp only[X2 _ _ aa]
  exact k S2 ((Ext.new hp).trans X2)
abbrev lN(w:ap):Prop:=∀{S:ax}{js:Zs}{t:Ty}{m:Int}{Q:bc}{E:bC},js.length<=1000->t.Ok js->1<=m->m < 2 ^ 62->(∀S',Ext S S'->Q (t.again m).pv S')->w [t.pv,.int m] S Q E
def N1{xm xt:ap}(Ov:tj xm)(KL:lM xt):lN (aP 3 (qT xm xt)):=by
 intro S js t m Q E hj ht h1 h2 k
 unfold qT
 refine bT ?_
 rw[show am 3 [t.pv,.int m]=[some t.pv,some (.int m),none] from rfl]
 unfold Ty.pv
 refine ak fun N hN=>?_
 walk_at "x"
 simp only[cX,vN]
 have lt:=ht.1
 rw[Fh]
 refine bj _ (fun p:Int×Int=>PV.int (ag m p).2) trivial t.2 [] (fun z hz=>⟨_,rfl,fun Q q=>?_⟩) (by simpa using bt (by omega)) fun p hp=>?_
 ·walk_at "x"
  exact⟨nO (by omega) (by omega),q⟩
 ·rw[Wm,zv]
  refine hN _ _ ?_
  walk_at "x"
  simp only[cv,cX]
  refine KL ht.2.1 (by omega) h2 ?_
  refine Ov (t:=t) (by omega) (by omega) h2 fun S2 X2=>?_
  simp only[X2 _ _ aa]
  exact k S2 ((Ext.new hp).trans X2)
abbrev jS(w:ap):Prop:=∀{S:ax}{js:Zs}{z:Str}{m:Int}{a b:Bd}{Q:bc}{E:bC},js.length<=1000->(∀S',Ext S S'->Q (Ty.pv (0,oN js z (-m) m)) S')->w [d9 js,(Bd.Ka z m a b).pv] S Q E
def uU(js:Zs)(z:Str)(e d:Int):js.map (fun j=>PV.int (if j=z then e else 0))=Ty.es (0,oN js z e d):=by
 unfold Ty.es oN
 rw[V9]
 exact Xh fun j _=>by dsimp only [Function.comp];split<;>rfl
def Fi(js:Zs)(z:Str)(e d:Int):js.map (fun j=>PV.int (if j=z then d else 0))=Ty.dm (0,oN js z e d):=by
 unfold Ty.dm oN
 rw[V9]
 exact Xh fun j _=>by dsimp only [Function.comp];split<;>rfl
def NA{xt:ap}(Le:jR xt):jS (aP 2 (d0 xt)):=by
 intro S js z m a b Q E hj k
 unfold d0
 refine bT ?_
 rw[show am 2 [d9 js,(Bd.Ka z m a b).pv]=[some (d9 js),some (.tup [.str "take",.str z,.int m,a.pv,b.pv])] from rfl]
 walk_at "x"
 simp only[cX,vN]
 rw[gC]
 refine Le hj fun S1 X1=>Le hj fun S2 X2=>?_
 rw[uU js z (-m) m,Fi js z (-m) m]
 exact k S2 (X1.trans X2)
def zw{a b:Bd}{v:PV}(h:bO (.J9 a b) v=true):∃x y,v = .tup [x,y]/\bO a x=true/\bO b y=true:=by
 cases v with
 |tup xs=>
  by_cases h2:xs.length=2
  ·obtain⟨x,y,rfl⟩:=uS h2
   rw[sZ,Zp]at h
   exact⟨x,y,rfl,h⟩
  ·rw[rB h2]at h;cases h
 |int i=>rw[ky]at h;cases h
 |str z=>rw[kw]at h;cases h
 |_=>cases h
def zx{a b:Bd}{v:PV}(h:bO (.Kg a b) v=true):∃i y,v = .tup [.int i,y]/\((i=0/\bO a y=true)\/(i=1/\bO b y=true)):=by
 cases v with
 |tup xs=>
  by_cases h2:xs.length=2
  ·obtain⟨x,y,rfl⟩:=uS h2
   cases x with
   |int i=>
    rw[nV]at h
    refine⟨i,y,rfl,?_⟩
    by_cases h0:i=0
    ·rw[if_pos h0]at h;exact .inl ⟨h0,h⟩
    ·rw[if_neg h0]at h
     by_cases h1:i=1
     ·rw[if_pos h1]at h;exact .inr ⟨h1,h⟩
     ·rw[if_neg h1]at h;cases h
   |_=>cases h
  ·rw[rC h2]at h;cases h
 |int i=>rw[ky]at h;cases h
 |str z=>rw[kw]at h;cases h
 |_=>cases h
def zy{z:Str}{m:Int}{a b:Bd}{v:PV}(h:bO (.Ka z m a b) v=true):∃i y,v = .tup [.int i,y]/\((i=0/\bO a y=true)\/(i=1/\bO b y=true)):=by
 cases v with
 |tup xs=>
  by_cases h2:xs.length=2
  ·obtain⟨x,y,rfl⟩:=uS h2
   cases x with
   |int i=>
    rw[nW]at h
    refine⟨i,y,rfl,?_⟩
    by_cases h0:i=0
    ·rw[if_pos h0]at h;exact .inl ⟨h0,h⟩
    ·rw[if_neg h0]at h
     by_cases h1:i=1
     ·rw[if_pos h1]at h;exact .inr ⟨h1,h⟩
     ·rw[if_neg h1]at h;cases h
   |_=>cases h
  ·rw[rD h2]at h;cases h
 |int i=>rw[ky]at h;cases h
 |str z=>rw[kw]at h;cases h
 |_=>cases h
def zz{a:Bd}{v:PV}(h:bO (.Kf a) v=true):∃xs,v = .tup xs/\xs.all (B9 a)=true:=by
 cases v with
 |tup xs=>rw[zk]at h;exact⟨xs,rfl,h⟩
 |int i=>rw[ky]at h;cases h
 |str z=>rw[kw]at h;cases h
 |_=>cases h
noncomputable def Ic(js:Zs)(f:PV->Ty):PV->Ty
 | .tup [.int m,y]=>(f y).again m
 |_=>z0 js
noncomputable def Bd.Ky(js:Zs):Bd->PV->Ty
 | .Kf a,.tup xs=>(xs.map (Ic js fun y=>a.Ky js y)).foldl Ty.join (z0 js)
 | .J9 a b,.tup [x,y]=>(a.Ky js x).join (b.Ky js y)
 | .Kg a b,.tup [.int i,y]=>if i=0 then a.Ky js y else b.Ky js y
 | .Ka z m a b,.tup [.int i,y]=>if i=0 then Ty.join (0,oN js z (-m) m) (a.Ky js y) else b.Ky js y
 | .pay x y,_=>(x * (2520 / y),zl js)
 | .put z m,_=>(0,oN js z m 0)
 |_,_=>z0 js
def Cc(js:Zs)(a:Bd)(xs:List PV):(Bd.Kf a).Ky js (.tup xs)=(xs.map (Ic js fun y=>a.Ky js y)).foldl Ty.join (z0 js):=rfl
def vP(js:Zs)(a b:Bd)(x y:PV):(Bd.J9 a b).Ky js (.tup [x,y])=(a.Ky js x).join (b.Ky js y):=rfl
def gE(js:Zs)(a b:Bd)(i:Int)(y:PV):(Bd.Kg a b).Ky js (.tup [.int i,y])=if i=0 then a.Ky js y else b.Ky js y:=rfl
def gF(js:Zs)(z:Str)(m:Int)(a b:Bd)(i:Int)(y:PV):(Bd.Ka z m a b).Ky js (.tup [.int i,y])=if i=0 then Ty.join (0,oN js z (-m) m) (a.Ky js y) else b.Ky js y:=rfl
def j6{a:Bd}{g:PV}(h:B9 a g=true):∃m y,g = .tup [.int m,y]/\1<=m/\bO a y=true:=by
 unfold B9 at h
 split at h
 ·rename_i m y
  rw[Zp,VS]at h
  exact⟨m,y,rfl,h.1,h.2⟩
 ·cases h
def uV{js:Zs}{z:Str}{e d:Int}(hd:0<=d):Ty.Ok js (0,oN js z e d):=⟨VI _,Wi _,fun p hp=>by
 obtain⟨j,hj,rfl⟩:=VW.mp hp
 split
 ·exact hd
 ·exact Wi _⟩
theorem rH{js:Zs}:∀(ts:List Ty)(t:Ty),(∀u∈ts,u.Ok js)->t.Ok js->(ts.foldl Ty.join t).Ok js
 |[],t,_,h=>h
 |u::r,t,hs,h=>rH r (t.join u) (fun x hx=>hs x (by simp[hx])) (h.join (hs u (by simp)))
theorem bG{js us:Zs}:∀(t:Bd)(v:PV),t.good js us->bO t v=true->(t.Ky js v).Ok js
 | .rest,v,_,_=>qi js
 | .use z,v,_,_=>qi js
 | .pay x y,v,hg,_=>⟨(qi js).1,Xd (show uQ x y from hg).x0 (Yc (by decide) (Xz (show uQ x y from hg).low.pos)),(qi js).2.2⟩
 | .put z m,v,hg,_=>uV (Wi _)
 | .J9 a b,v,hg,hv=>by
  obtain⟨x,y,rfl,hx,hy⟩:=zw hv
  exact(bG a x hg.1 hx).join (bG b y hg.2 hy)
 | .Kg a b,v,hg,hv=>by
  obtain⟨i,y,rfl,hi⟩:=zx hv
  rw[gE]
  rcases hi with⟨rfl,h⟩|⟨rfl,h⟩
  ·rw[if_pos rfl];exact bG a y hg.1 h
  ·rw[if_neg (by decide)];exact bG b y hg.2 h
 | .Ka z m a b,v,hg,hv=>by
  obtain⟨i,y,rfl,hi⟩:=zy hv
  rw[gF]
  rcases hi with⟨rfl,h⟩|⟨rfl,h⟩
  ·rw[if_pos rfl];exact(uV (by have:=hg.2.1;omega)).join (bG a y hg.2.2.2.1 h)
  ·rw[if_neg (by decide)];exact bG b y hg.2.2.2.2 h
 | .Kf a,v,hg,hv=>by
  obtain⟨xs,rfl,hx⟩:=zz hv
  rw[Cc]
  refine rH _ _ (fun u hu=>?_) (qi js)
  obtain⟨g,So,rfl⟩:=VW.mp hu
  obtain⟨m,y,rfl,hm,hy⟩:=j6 (XQ.mp hx g So)
  exact(bG a y hg hy).again hm
def rJ{js:Zs}{n B:Int}(h:n<=B)(hB:0<=B):Ty.Ql B (n,zl js):=⟨h,fun p hp=>by
 obtain⟨j,hj,rfl⟩:=VW.mp hp
 exact⟨by omega,hB,hB⟩⟩
def vQ{js:Zs}{z:Str}{e d B:Int}(h1:-B<=e)(h2:e<=B)(h3:d<=B)(hB:0<=B):Ty.Ql B (0,oN js z e d):=⟨hB,fun p hp=>by
 obtain⟨j,hj,rfl⟩:=VW.mp hp
 split
 ·exact⟨h1,h2,h3⟩
 ·exact⟨by omega,hB,hB⟩⟩
def Bd.P4(t:Bd):t.hd=("pay":Str)↔∃x y,t = .pay x y:=by cases t<;>simp[Bd.hd,aG]
def Bd.Ow(t:Bd):t.hd=("put":Str)↔∃z m,t = .put z m:=by cases t<;>simp[Bd.hd,aG]
abbrev kE(n:Nat)(w:ap):Prop:=∀{S:ax}{js us:Zs}{t:Bd}{v:PV}{Q:bc}{E:bC},js.length<=1000->t.good js us->bO t v=true->kB (2 ^ 60) v=true->t.dep<=n->(∀S',Ext S S'->Q (t.Ky js v).pv S')->w [d9 js,t.pv,v] S Q E
abbrev n9(n:Nat)(w:ap):Prop:=∀{S:ax}{js us:Zs}{a:Bd}{v:PV}{Q:bc}{E:bC},js.length<=1000->a.good js us->bO (.Kf a) v=true->kB (2 ^ 60) v=true->a.dep<=n->(∀S',Ext S S'->Q ((Bd.Kf a).Ky js v).pv S')->w [d9 js,(Bd.Kf a).pv,v] S Q E
def xx{js:Zs}(f:PV->Ty)(done:List PV)(x:PV):((done++[x]).map f).foldl Ty.join (z0 js)=((done.map f).foldl Ty.join (z0 js)).join (f x):=by
 rw[We,List.foldl_append];rfl
def xy{xn xb xa s0 s1:ap}(MY:n6 xn)(LA:gD xb)(N1:lN xa)(n:Nat)(ih:kE n s1):n9 n (aP 5 (cj xn xb xa s0 s1)):=by
 intro S js us a v Q E hj hg hv hb hd k
 obtain⟨xs,rfl,hx⟩:=zz hv
 unfold cj
 refine bT ?_
 rw[show am 5 [d9 js,(Bd.Kf a).pv,.tup xs]=[some (d9 js),some (.tup [.str "often",a.pv]),some (.tup xs),none,none] from rfl]
 refine ak fun N hN=>?_
 walk_at "x"
 refine MY hj (hN _ _ (ak fun N hN=>?_))
 simp only[bE,aJ,v3,lk,bF]
 refine bg (fun done σ S'=>∃x4,σ=[some (d9 js),some (.tup [.str "often",a.pv]),some (.tup xs),some ((done.map (Ic js fun y=>a.Ky js y)).foldl Ty.join (z0 js)).pv,x4]/\Ext S S') ⟨_,rfl,.refl⟩ (fun _ _ _ _=>trivial) ?_ ?_
 ·rintro done g rest σ S1 K e ⟨x4,rfl,X1⟩ hK
  have So:g∈xs:=by rw[e];simp
  obtain⟨m,y,rfl,hm,hy⟩:=j6 (XQ.mp hx g So)
  have hi:=fR hb _ So
  have hm2:=fR hi (.int m) (by simp)
  simp only[kB,VS]at hm2
  have ok:((done.map (Ic js fun y=>a.Ky js y)).foldl Ty.join (z0 js)).Ok js:=rH _ _ (fun u hu=>by
   obtain⟨g',hg',rfl⟩:=VW.mp hu
   obtain⟨m',y',rfl,hm',hy'⟩:=j6 (XQ.mp hx g' (by rw[e];simp[hg']))
   exact(bG a y' hg hy').again hm') (qi js)
  simp only[Tg.put,List.set_cons_succ,List.set_cons_zero]
  walk_at "x"
  simp only[cv,cX]
  refine ih hj hg hy (fR hi y (by simp)) hd fun S2 X2=>?_
  refine N1 hj (bG a y hg hy) hm (by omega) fun S3 X3=>?_
  refine LA hj ok ((bG a y hg hy).again hm) fun S4 X4=>?_
  refine hK _ _ ⟨some (.tup [.int m,y]),?_,X1.trans (X2.trans (X3.trans X4))⟩
  rw[xx]
  rfl
 ·rintro σ S1 ⟨x4,rfl,X1⟩
  refine hN _ _ ?_
  walk_at "x"
  exact k S1 X1
def Pp{xn xt xb xc xk s0 s1:ap}(MY:n6 xn)(Le:jR xt)(LA:gD xb)(Ny:nX xc)(NA:jS xk)(n:Nat)(RI:n9 n s0)(ih:kE n s1):kE (n+1) (aP 6 (gq xn xt xb xc xk s0 s1)):=by
 intro S js us t v Q E hj hg hv hb hd k
 unfold gq
 refine bT ?_
 rw[Bd.LY,show am 6 [d9 js,.tup (.str t.hd::t.tl),v]=[some (d9 js),some (.tup (.str t.hd::t.tl)),some v,none,none,none] from rfl]
 refine ak fun N hN=>?_
 walk_at "x"
 simp only[cv]
 refine hN _ _ (ak fun N hN=>?_)
 walk_at "x"
 refine MY hj (hN _ _ (ak fun N hN=>?_))
 simp only[br,aR,af,v3,lk,c3,bn,VX,VS]
 by_cases h1:t.hd=("pay":Str)
 ·rw[if_pos h1]
  obtain⟨x,y,rfl⟩:=(Bd.P4 t).mp h1
  unfold Ty.pv
  walk_at "x"
  simp only[Bd.tl,cX,vN]
  rw[mP hg]
  exact k S .refl
 rw[if_neg h1]
 refine hN _ _ (ak fun N hN=>?_)
 simp only[br,aR,af,v3,lk,c3,bn,VX,VS]
 by_cases h2:t.hd=("put":Str)
 ·rw[if_pos h2]
  obtain⟨z,m,rfl⟩:=(Bd.Ow t).mp h2
  unfold Ty.pv
  walk_at "x"
  simp only[Bd.tl,cv,cX,vN]
  refine Le hj fun S1 X1=>?_
  have:=k S1 X1
  rw[uU js z m 0]
  have e:(z0 js).dm=Ty.dm (0,oN js z m 0):=by
   unfold Ty.dm z0 zl oN
   rw[V9,V9]
   exact Xh fun j _=>by dsimp only [Function.comp];split<;>rfl
  rw[e]
  exact this
 rw[if_neg h2]
 refine hN _ _ (ak fun N hN=>?_)
 simp only[br,aR,af,v3,lk,c3,bn,VX,VS]
 by_cases h3:t.hd=("then":Str)
 ·rw[if_pos h3]
  obtain⟨a,b,rfl⟩:=(Bd.Pm t).mp h3
  obtain⟨x,y,rfl,hx,hy⟩:=zw hv
  simp only[Bd.dep]at hd
  walk_at "x"
  simp only[Bd.tl,cv,cX,vN]
  refine ih hj hg.1 hx (fR hb x (by simp)) (by omega) fun S1 X1=>?_
  refine ih hj hg.2 hy (fR hb y (by simp)) (by omega) fun S2 X2=>?_
  refine LA hj (bG a x hg.1 hx) (bG b y hg.2 hy) fun S3 X3=>?_
  exact k S3 (X1.trans (X2.trans X3))
 rw[if_neg h3]
 refine hN _ _ (ak fun N hN=>?_)
 simp only[br,aR,af,v3,lk,c3,bn,VX,VS]
 by_cases h4:t.hd=("often":Str)
 ·rw[if_pos h4]
  obtain⟨a,rfl⟩:=(Bd.Pn t).mp h4
  simp only[Bd.dep]at hd
  walk_at "x"
  exact RI hj hg hv hb (by omega) k
 rw[if_neg h4]
 refine hN _ _ (ak fun N hN=>?_)
 walk_at "x"
 rw[show([PV.str "either",PV.str "take"]:List PV)=(["either","take"]:Zs).map PV.str from rfl]
 refine bR t.NN zm ?_
 by_cases h5:t.hd∈(["either","take"]:Zs)
 ·simp only[h5,Xp,Wt,W5,VZ,Wx]
  refine hN _ _ (ak fun N hN=>?_)
  simp only[VL,V3,WK]at h5
  have side:∀(hd2:List PV)(a b c:Bd)(i:Int)(y:PV),(.str t.hd::t.tl)=hd2++[a.pv,b.pv]->hd2.length<=3->v = .tup [.int i,y]->(i=0\/i=1)->(if i=0 then a.pv else b.pv)=c.pv->c.good js us->bO c y=true->c.dep<=n->
    (∀S',Ext S S'->N [some (d9 js),some (.tup (.str t.hd::t.tl)),some v,some (.str t.hd),some (z0 js).pv,some (c.Ky js y).pv] S')->aq 5 (ab s1 [v3 0,ab xc [v3 1,v3 2],af ae (v3 2) (c3 (.int 1))]) { nx:=N,rt:=Q,ex:=eE } [some (d9 js),some (.tup (.str t.hd::t.tl)),some v,some (.str t.hd),some (z0 js).pv,none] S:=by
   intro hd2 a b c i y e1 e2 e3 hi e4 g1 g2 g3 kk
   subst e3
   simp only[aq,ab,ao,af,v3,lk,c3]
   rw[e1]
   refine Ny hi e2 ?_
   rw[e4]
   simp only[ae,cX]
   refine ih hj g1 g2 (fR hb y (by simp)) g3 fun S1 X1=>?_
   have:=kk S1 X1
   rw[e1]at this
   exact this
  rcases h5 with h5|h5
  ·cases t with
   |Kg a b=>
    obtain⟨i,y,rfl,hi⟩:=zx hv
    simp only[Bd.dep]at hd
    have fin:∀c:Bd,(Bd.Kg a b).Ky js (.tup [.int i,y])=c.Ky js y->∀S',Ext S S'->N [some (d9 js),some (.tup (.str (Bd.Kg a b).hd::(Bd.Kg a b).tl)),some (.tup [.int i,y]),some (.str (Bd.Kg a b).hd),some (z0 js).pv,some (c.Ky js y).pv] S':=fun c e S1 X1=>by
     refine hN _ _ (ak fun N hN=>?_)
     simp only[Bd.hd]
     walk_at "y"
     refine hN _ _ ?_
     walk_at "x"
     rw[<-e]
     exact k S1 X1
    rcases hi with⟨rfl,h⟩|⟨rfl,h⟩
    ·exact side [.str "either"] a b a 0 y rfl (by decide) rfl (.inl rfl) (if_pos rfl) hg.1 h (by omega) (fin a rfl)
    ·exact side [.str "either"] a b b 1 y rfl (by decide) rfl (.inr rfl) (if_neg (by decide)) hg.2 h (by omega) (fin b rfl)
   |_=>simp[Bd.hd,aG]at h5
  ·cases t with
   |Ka z m a b=>
    obtain⟨i,y,rfl,hi⟩:=zy hv
    simp only[Bd.dep]at hd
    rcases hi with⟨rfl,h⟩|⟨rfl,h⟩
    ·refine side [.str "take",.str z,.int m] a b a 0 y rfl (VM 3) rfl (.inl rfl) (if_pos rfl) hg.2.2.2.1 h (by omega) fun S1 X1=>hN _ _ (ak fun N hN=>?_)
     simp only[Bd.hd]
     walk_at "y"
     refine NA (a:=a) (b:=b) hj fun S2 X2=>?_
     refine LA hj (uV (by have:=hg.2.1;omega)) (bG a y hg.2.2.2.1 h) fun S3 X3=>?_
     exact k S3 (X1.trans (X2.trans X3))
    ·refine side [.str "take",.str z,.int m] a b b 1 y rfl (VM 3) rfl (.inr rfl) (if_neg (by decide)) hg.2.2.2.2 h (by omega) fun S1 X1=>hN _ _ (ak fun N hN=>?_)
     simp only[Bd.hd]
     walk_at "y"
     refine hN _ _ ?_
     walk_at "x"
     exact k S1 X1
   |_=>simp[Bd.hd,aG]at h5
 ·simp only[h5,Ye,Wt,WL,WB]
  have e:t.Ky js v=z0 js:=by cases t<;>simp_all [Bd.hd,aG]<;>rfl
  rw[<-e]
  exact k S .refl
abbrev Qs:=Str->Bool
noncomputable def mq(hs:Zs):Qs:=fun z=>decide (z∈hs)
noncomputable def Bd.shut(q:Qs):Bd->Nat->Bool
 | .Ka z _ _ _,0=>!q z
 |_,_=>false
noncomputable def Bd.Lr(q:Qs)(t:Bd)(r:Bool):List (Bd×Bool):=t.sides.mapIdx fun i s=>(s,r&&!t.shut q i)
noncomputable def Bd.pr(q:Qs):Bd->Bool->List (Bd×Bool)
 | .rest,r=>[(.rest,r)]
 | .pay x y,r=>[(.pay x y,r)]
 | .put z m,r=>[(.put z m,r)]
 | .use z,r=>[(.use z,r)]
 | .Kf a,r=>(.Kf a,r)::a.pr q r
 | .J9 a b,r=>(.J9 a b,r)::(a.pr q r++b.pr q r)
 | .Kg a b,r=>(.Kg a b,r)::(a.pr q r++b.pr q r)
 | .Ka z m a b,r=>(.Ka z m a b,r)::(a.pr q (r&&q z)++b.pr q r)
def Bd.QR(q:Qs)(t:Bd)(r:Bool):t.pr q r=(t,r)::(t.Lr q r).flatMap fun p=>p.1.pr q p.2:=by
 cases t with
 |rest=>rfl
 |pay x y=>rfl
 |put z m=>rfl
 |use z=>rfl
 |Kf a=>show _=_::(a.pr q (r&&!false)++[]);rw[WL,XN,Wh];rfl
 |J9 a b=>show _=_::(a.pr q (r&&!false)++(b.pr q (r&&!false)++[]));rw[WL,XN,Wh];rfl
 |Kg a b=>show _=_::(a.pr q (r&&!false)++(b.pr q (r&&!false)++[]));rw[WL,XN,Wh];rfl
 |Ka z m a b=>show _=_::(a.pr q (r&&!(!q z))++(b.pr q (r&&!false)++[]));rw[Bool.not_not,WL,XN,Wh];rfl
theorem Bd.Lf(q:Qs):∀(t:Bd)(r:Bool),(t.pr q r).length=t.size
 | .rest,_=>rfl
 | .pay _ _,_=>rfl
 | .put _ _,_=>rfl
 | .use _,_=>rfl
 | .Kf a,r=>by show(a.pr q r).length+1=a.size+1;rw[a.Lf q r]
 | .J9 a b,r=>by show(a.pr q r++b.pr q r).length+1=a.size+b.size+1;rw[VH,a.Lf q r,b.Lf q r]
 | .Kg a b,r=>by show(a.pr q r++b.pr q r).length+1=a.size+b.size+1;rw[VH,a.Lf q r,b.Lf q r]
 | .Ka z m a b,r=>by show(a.pr q (r&&q z)++b.pr q r).length+1=a.size+b.size+1;rw[VH,a.Lf q _,b.Lf q r]
noncomputable def Bd.J7(q:Qs):Bd->List Str
 | .rest=>[]
 | .pay _ _=>[]
 | .put z _=>[z]
 | .use _=>[]
 | .Kf a=>a.J7 q
 | .J9 a b=>a.J7 q++b.J7 q
 | .Kg a b=>a.J7 q++b.J7 q
 | .Ka z _ a b=>(if q z then a.J7 q else [])++b.J7 q
theorem Bd.Ll(q:Qs):∀(t:Bd)(u:Bd),(u,true) ∉ t.pr q false
 | .rest,u=>by simp[Bd.pr]
 | .pay _ _,u=>by simp[Bd.pr]
 | .put _ _,u=>by simp[Bd.pr]
 | .use _,u=>by simp[Bd.pr]
 | .Kf a,u=>by
  show _ ∉ _::a.pr q false
  rw[VL,not_or];exact⟨by simp,a.Ll q u⟩
 | .J9 a b,u=>by
  show _ ∉ _::(a.pr q false++b.pr q false)
  rw[VL,not_or,VO,not_or];exact⟨by simp,a.Ll q u,b.Ll q u⟩
 | .Kg a b,u=>by
  show _ ∉ _::(a.pr q false++b.pr q false)
  rw[VL,not_or,VO,not_or];exact⟨by simp,a.Ll q u,b.Ll q u⟩
 | .Ka z m a b,u=>by
  show _ ∉ _::(a.pr q (false&&q z)++b.pr q false)
  rw[Bool.false_and,VL,not_or,VO,not_or];exact⟨by simp,a.Ll q u,b.Ll q u⟩
theorem Bd.KM(q:Qs){z:Str}:∀(t:Bd),z∈t.J7 q↔∃m,(Bd.put z m,true)∈t.pr q true
 | .rest=>by simp[Bd.J7,Bd.pr]
 | .pay _ _=>by simp[Bd.J7,Bd.pr]
 | .put y m=>by
  show z∈[y]↔∃n,(Bd.put z n,true)∈[(Bd.put y m,true)]
  simp only[VN,Prod.mk.injEq,Bd.put.injEq,and_true]
  exact⟨fun h=>⟨m,h,rfl⟩,fun⟨_,h,_⟩=>h⟩
 | .use _=>by simp[Bd.J7,Bd.pr]
 | .Kf a=>by
  show z∈a.J7 q↔∃m,(Bd.put z m,true)∈(Bd.Kf a,true)::a.pr q true
  rw[a.KM q];simp
 | .J9 a b=>by
  show z∈a.J7 q++b.J7 q↔∃m,(Bd.put z m,true)∈(Bd.J9 a b,true)::(a.pr q true++b.pr q true)
  rw[VO,a.KM q,b.KM q];simp[exists_or]
 | .Kg a b=>by
  show z∈a.J7 q++b.J7 q↔∃m,(Bd.put z m,true)∈(Bd.Kg a b,true)::(a.pr q true++b.pr q true)
  rw[VO,a.KM q,b.KM q];simp[exists_or]
 | .Ka y m a b=>by
  show z∈(if q y=true then a.J7 q else [])++b.J7 q↔∃n,(Bd.put z n,true)∈(Bd.Ka y m a b,true)::(a.pr q (true&&q y)++b.pr q true)
  rw[VO,b.KM q]
  cases h:q y with
  |true=>rw[if_pos rfl,a.KM q];simp[exists_or]
  |false=>
   rw[if_neg (by decide)]
   have f:=a.Ll q
   simp[f]
theorem Bd.KW{q p:Qs}(h:∀z,q z=true->p z=true){z:Str}:∀t:Bd,z∈t.J7 q->z∈t.J7 p
 | .rest,e=>e
 | .pay _ _,e=>e
 | .put _ _,e=>e
 | .use _,e=>e
 | .Kf a,e=>a.KW h e
 | .J9 a b,e=>VO.mpr ((VO.mp e).imp (a.KW h) (b.KW h))
 | .Kg a b,e=>VO.mpr ((VO.mp e).imp (a.KW h) (b.KW h))
 | .Ka y m a b,e=>by
  rcases VO.mp (show z∈(if q y=true then a.J7 q else [])++b.J7 q from e)with e|e
  ·by_cases hq:q y=true
   ·rw[if_pos hq]at e
    exact VO.mpr (.inl (by show z∈(if p y=true then a.J7 p else []);rw[if_pos (h y hq)];exact a.KW h e))
   ·rw[if_neg hq]at e;cases e
  ·exact VO.mpr (.inr (b.KW h e))
theorem Bd.KB{q:Qs}{js us:Zs}{z:Str}:∀t:Bd,t.good js us->z∈t.J7 q->z∈js
 | .rest,_,e=>by cases e
 | .pay _ _,_,e=>by cases e
 | .put _ _,g,e=>by rw[VN.mp e];exact g.1
 | .use _,_,e=>by cases e
 | .Kf a,g,e=>a.KB g e
 | .J9 a b,g,e=>(VO.mp e).elim (a.KB g.1) (b.KB g.2)
 | .Kg a b,g,e=>(VO.mp e).elim (a.KB g.1) (b.KB g.2)
 | .Ka y m a b,g,e=>by
  rcases VO.mp (show z∈(if q y=true then a.J7 q else [])++b.J7 q from e)with e|e
  ·by_cases hq:q y=true
   ·rw[if_pos hq]at e;exact a.KB g.2.2.2.1 e
   ·rw[if_neg hq]at e;cases e
  ·exact b.KB g.2.2.2.2 e
noncomputable def K1(q:Qs)(ds:List (Str×Bd)):List Str:=ds.flatMap fun p=>p.2.J7 q
def n_{q p:Qs}(h:∀z,q z=true->p z=true){ds:List (Str×Bd)}{z:Str}(e:z∈K1 q ds):z∈K1 p ds:=by
 obtain⟨d,hd,e⟩:=Wl.mp e
 exact Wl.mpr ⟨d,hd,d.2.KW h e⟩
inductive Fs(ds:List (Str×Bd)):List Str->Prop
 |nil:Fs ds []
 |snoc {hs:Zs} {z:Str}:Fs ds hs->z∈K1 (mq hs) ds->Fs ds (hs++[z])
noncomputable def held(ds:List (Str×Bd)):Nat->List Str
 |0=>[]
 |n+1=>K1 (mq (held ds n)) ds
theorem kF:∀(hs js:Zs),hs.Nodup->(∀z∈hs,z∈js)->hs.length<=js.length
 |[],_,_,_=>Ws _
 |z::r,js,hn,hj=>by
  have hz:=hj z (by simp)
  have h1:=kF r (js.erase z) (WJ.mp hn).2 fun y hy=>(List.mem_erase_of_ne (fun e=>(WJ.mp hn).1 (by rw[<-e];exact hy))).mpr (hj y (by simp[hy]))
  rw[List.length_erase_of_mem hz]at h1
  have:=List.length_pos_of_mem hz
  rw[V1]
  omega
def vR{a b:Zs}(h:∀z∈a,z∈b)(z:Str)(e:mq a z=true):mq b z=true:=Wu (h z (of_decide_eq_true e))
def Cd{ds:List (Str×Bd)}{hs:Zs}(h:Fs ds hs):∀k,hs.length<=k->∀z∈hs,z∈held ds k:=by
 induction h with
 |nil=>intro k _ z hz;cases hz
 |@snoc hs y hf hy ih=>
  intro k hk z hz
  rw[VH,V0]at hk
  rcases VO.mp hz with hz|hz
  ·exact ih k (by omega) z hz
  ·rw[VN.mp hz]
   obtain⟨k,rfl⟩:∃m,k=m+1:=⟨k - 1,by omega⟩
   exact n_ (vR (ih k (by omega))) hy
theorem vS{ds:List (Str×Bd)}{hs:Zs}(cl:∀z∈K1 (mq hs) ds,z∈hs):∀k,∀z∈held ds k,z∈hs
 |0,z,hz=>by cases hz
 |k+1,z,hz=>cl z (n_ (vR (vS cl k)) hz)
def Ce{ds:List (Str×Bd)}{js hs:Zs}(h:Fs ds hs)(hn:hs.Nodup)(hj:∀z∈hs,z∈js)(cl:∀z∈K1 (mq hs) ds,z∈hs):mq (held ds js.length)=mq hs:=by
 funext z
 exact decide_eq_decide.mpr ⟨vS cl _ z,Cd h _ (kF hs js hn hj) z⟩
noncomputable def cZ(p:Bd×Bool):PV:=.tup [p.1.pv,.bl p.2]
def k_(js:Zs):Prop:=∀z∈js,PyData.strOk z=true
abbrev lO(n:Nat)(w:ap):Prop:=∀{S:ax}{t:Bd}{js us hs:Zs}{nm:Addr}{r:Bool}{Q:bc}{E:bC},t.dep<=n->t.size<=900->t.good js us->k_ js->k_ hs->S nm=some (.lst (hs.map PV.str))->
  (∀p S',S p=none->Ext S S'->S' p=some (.lst ((t.pr (mq hs) r).map cZ))->Q (.ref p) S')->w [t.pv,.ref nm,.bl r] S Q E
def Bd.Pq{js us:Zs}{t s:Bd}(g:t.good js us)(h:s∈t.sides):s.good js us:=by
 cases t with
 |rest=>cases h
 |pay x y=>cases h
 |put z m=>cases h
 |use z=>cases h
 |Kf a=>rw[VN.mp h];exact g
 |J9 a b=>
  rcases VL.mp h with rfl|h
  ·exact g.1
  ·rw[VN.mp h];exact g.2
 |Kg a b=>
  rcases VL.mp h with rfl|h
  ·exact g.1
  ·rw[VN.mp h];exact g.2
 |Ka z m a b=>
  rcases VL.mp h with rfl|h
  ·exact g.2.2.2.1
  ·rw[VN.mp h];exact g.2.2.2.2
def Bd.Rf(t:Bd):t.hd=("take":Str)↔∃z m a b,t = .Ka z m a b:=by cases t<;>simp[Bd.hd,aG]
def Cf{t:Bd}{js us hs:Zs}{nm:Addr}{S:ax}{i:Nat}{x2 x3 x5 x6:Option PV}{Q:bc}(g:t.good js us)(hj:k_ js)(hh:k_ hs)(hn:S nm=some (.lst (hs.map PV.str)))(q:Q (.bl (t.shut (mq hs) i)) S) :
  cO (af (bn false) (af ae (v3 0) (c3 (.int 0))) (c3 (.str "take"))) (cO (af (bn false) (v3 4) (c3 (.int 0))) (af (jC true) (af ae (v3 0) (c3 (.int 1))) (v3 1))) [some t.pv,some (.ref nm),x2,x3,some (.int (i:Int)),x5,x6] S Q eE:=by
 rw[Bd.LY]
 simp only[cO,af,v3,lk,c3,ae,cv,bn,VX]
 by_cases h:t.hd=("take":Str)
 ·obtain⟨z,m,a,b,rfl⟩:=(Bd.Rf t).mp h
  rw[Wu h,if_pos rfl]
  cases i with
  |zero=>
   rw[Wu (show((0:Nat):Int)=0 from rfl),if_pos rfl]
   simp only[Bd.tl,cX]
   refine eB hn (hj z g.1) hh ?_
   rw[show(true != decide (z∈hs))=Bd.shut (mq hs) (Bd.Ka z m a b) 0 by show _=!decide (z∈hs);cases decide (z∈hs)<;>rfl]
   exact q
  |succ i=>
   rw[Wc (show ¬(((i+1:Nat):Int)=0) by omega),if_neg (by decide)]
   exact q
 ·rw[Wc h,if_neg (by decide)]
  have e:t.shut (mq hs) i=false:=by cases t<;>first|rfl|exact absurd rfl h
  rw[e]at q
  exact q
def N6{xs s0:ap}(MK:i9 xs)(n:Nat)(ih:lO n s0):lO (n+1) (aP 7 (d5 xs s0)):=by
 intro S t js us hs nm r Q E hd Sg hg hj hh hn k
 unfold d5
 refine bT ?_
 rw[show am 7 [t.pv,.ref nm,.bl r]=[some t.pv,some (.ref nm),some (.bl r),none,none,none,none] from rfl]
 refine ak fun N hN=>?_
 walk_at "x"
 intro p hp
 have X0:Ext S (JZ S p (.lst [.tup [t.pv,.bl r]])):=.new hp
 have hp0:(JZ S p (.lst [.tup [t.pv,.bl r]])) p=some (.lst [.tup [t.pv,.bl r]]):=aa
 generalize JZ S p (.lst [.tup [t.pv,.bl r]])=S0 at X0 hp0
 refine hN _ _ (ak fun N hN=>?_)
 simp only[bE,dR,ab,ao,v3,lk]
 refine MK ?_
 dsimp only
 have hps:(t.Lr (mq hs) r).length=t.sides.length:=Y4
 refine bg (fun done σ S'=>∃(x4 x5 x6:Option PV),σ=[some t.pv,some (.ref nm),some (.bl r),some (.ref p),x4,x5,x6]/\Ext S S'/\done.length<=t.sides.length/\S' p=some (.lst (((t,r)::((t.Lr (mq hs) r).take done.length).flatMap fun p=>p.1.pr (mq hs) p.2).map cZ))) ⟨_,_,_,rfl,X0,Ws _,hp0⟩ (fun _ _ _ _=>trivial) ?_ ?_
 ·rintro done x rest σ S1 K e ⟨x4,x5,x6,rfl,X1,hl,h1⟩ hK
  obtain⟨y,rfl,hy⟩:=iM e
  rw[V2]at hy
  cases hs':t.sides[done.length]? with
  |none=>rw[hs']at hy;cases hy
  |some s=>
  rw[hs']at hy
  cases hy
  have hlt:done.length < t.sides.length:=(V4.mp hs').1
  have hr:s∈t.sides:=V6 hs'
  have hrd:=Bd.OX hr
  have hn1:=X1 _ _ hn
  have hq:(t.Lr (mq hs) r)[done.length]?=some (s,r&&!t.shut (mq hs) done.length):=by unfold Bd.Lr;rw[YD,hs'];rfl
  simp only[Tg.put,Tg.J7,List.set_cons_succ,List.set_cons_zero]
  refine ak fun N2 MZ=>?_
  simp only[aq]
  refine Cf hg hj hh hn1 ?_
  simp only[List.set_cons_succ,List.set_cons_zero]
  refine MZ _ _ ?_
  simp only[bm,hZ,uI,ao,ab,v3,lk,h1,YF,cO,pR]
  have go:∀Q':bc,(∀q S2,S1 q=none->Ext S1 S2->S2 q=some (.lst ((s.pr (mq hs) (r&&!t.shut (mq hs) done.length)).map cZ))->Q' (.ref q) S2)->s0 [s.pv,.ref nm,.bl (r&&!t.shut (mq hs) done.length)] S1 Q' eE:=fun Q' k'=>ih (by omega) (by omega) (Bd.Pq hg hr) hj hh hn1 k'
  have tail:∀q S2,S1 q=none->Ext S1 S2->S2 q=some (.lst ((s.pr (mq hs) (r&&!t.shut (mq hs) done.length)).map cZ))->bI (.ref p) [.ref q] S2 (fun _ S3=>K [some t.pv,some (.ref nm),some (.bl r),some (.ref p),some (.int (done.length:Int)),some s.pv,some (.bl (t.shut (mq hs) done.length))] S3):=fun q S2 hq2 X2 h2=>by
   simp only[bI,X2 _ _ h1,h2]
   have et:((t.Lr (mq hs) r).take (done.length+1)).flatMap (fun p=>p.1.pr (mq hs) p.2)=((t.Lr (mq hs) r).take done.length).flatMap (fun p=>p.1.pr (mq hs) p.2)++s.pr (mq hs) (r&&!t.shut (mq hs) done.length):=by
    rw[W3,hq,WZ];simp
   have ln:((t,r)::((t.Lr (mq hs) r).take (done.length+1)).flatMap fun p=>p.1.pr (mq hs) p.2).length<=t.size:=by
    rw[<-Bd.Lf (mq hs) t r,Bd.QR]
    rw[V1,V1]
    have:(t.Lr (mq hs) r).flatMap (fun p=>p.1.pr (mq hs) p.2)=((t.Lr (mq hs) r).take (done.length+1)).flatMap (fun p=>p.1.pr (mq hs) p.2)++((t.Lr (mq hs) r).drop (done.length+1)).flatMap (fun p=>p.1.pr (mq hs) p.2):=by rw[<-WZ,XY]
    rw[this,VH]
    omega
   rw[V1,et,VH]at ln
   refine⟨bt (by simp only[VI,List.length_cons];omega),?_⟩
   refine hK _ _ ⟨_,_,_,rfl,(X1.trans X2).put hp,by rw[VH];exact hlt,?_⟩
   rw[aa,VH,V0,et,<-We]
   rfl
  cases r with
  |true=>rw[if_pos rfl];exact go _ tail
  |false=>rw[if_neg (by decide)];exact go _ tail
 ·rintro σ S1 ⟨x4,x5,x6,rfl,X1,hl,h1⟩
  refine hN _ _ ?_
  walk_at "x"
  refine k p S1 hp X1 ?_
  rw[h1,Bd.QR]
  have:(L3.aV (t.sides.map Bd.pv)).length=(t.Lr (mq hs) r).length:=by unfold L3.aV;rw[Y4,VI,hps]
  rw[this,WH]
structure HG(js:Zs)(ds:List (Str×Bd)):Prop where
 jw:k_ js
 jl:js.length<=50
 dl:ds.length<=1000
 gd:∀p∈ds,p.2.good js []
 dp:∀p∈ds,p.2.dep<=6
 sz:∀p∈ds,p.2.size<=60
def Py(ds:List (Str×Bd))(hs:Zs)(d tr:PV)(z:Str):Prop:=∃(dk pl:Nat)(dn:Str)(t:Bd)(m:Int),d = .int (dk:Int)/\tr=t.led pl (.tup [])/\ds[dk]?=some (dn,t)/\(t.pr (mq hs) true)[pl]?=some (.put z m,true)
def Py.J7{ds:List (Str×Bd)}{hs:Zs}{d tr:PV}{z:Str}:Py ds hs d tr z->z∈K1 (mq hs) ds:=fun⟨_,_,_,t,m,_,_,h1,h2⟩=>Wl.mpr ⟨_,V6 h1,(Bd.KM (mq hs) t).mpr ⟨m,V6 h2⟩⟩
abbrev oa(w:ap):Prop:=∀{S:ax}{js hs:Zs}{ds:List (Str×Bd)}{nm:Addr}{Q:bc}{E:bC},HG js ds->k_ hs->S nm=some (.lst (hs.map PV.str))->
  (∀S',Ext S S'->(∀z∈K1 (mq hs) ds,z∈hs)->Q .non S')->
  (∀(k:Nat) z d tr S',Ext S S'->js[k]?=some z->Py ds hs d tr z->z ∉ hs->Q (.tup [.int (k:Int),d,tr]) S')->w [jv js ds,.ref nm] S Q E
def zA{js:Zs}{z:Str}(h:z∈js):∃k:Nat,js[k]?=some z/\∀j:Nat,j < k->js[j]?≠some z:=by
 induction js with
 |nil=>cases h
 |cons x r ih=>
  by_cases e:x=z
  ·subst e;exact⟨0,rfl,fun j hj=>absurd hj (Nat.not_lt_zero _)⟩
  ·obtain⟨k,h1,h2⟩:=ih ((VL.mp h).resolve_left (Xl e))
   refine⟨k+1,by simpa using h1,fun j hj=>?_⟩
   cases j with
   |zero=>simpa using e
   |succ j=>simpa using h2 j (by omega)
def Ox{xp xl:ap}(N6:lO 6 xp)(Rg:kA 6 xl):oa (aP 7 (iH xp xl)):=by
 intro S js hs ds nm Q E hg hh hn k0 k1
 unfold iH
 refine bT ?_
 rw[show am 7 [jv js ds,.ref nm]=[some (.tup [d9 js,.tup (ds.map gZ)]),some (.ref nm),none,none,none,none,none] from rfl]
 refine ak fun N hN=>?_
 simp only[bE,dR,af,v3,lk,c3,ae,cX]
 refine bg (fun done σ S'=>∃(x2 x3 x4 x5 x6:Option PV),σ=[some (.tup [d9 js,.tup (ds.map gZ)]),some (.ref nm),x2,x3,x4,x5,x6]/\Ext S S'/\done.length<=ds.length/\∀p∈ds.take done.length,∀z∈p.2.J7 (mq hs),z∈hs) ⟨_,_,_,_,_,rfl,.refl,Ws _,by simp⟩ (fun _ _ _ _=>trivial) ?_ ?_
 ·rintro done x rest σ S1 K e ⟨x2,x3,x4,x5,x6,rfl,X1,hl,hd⟩ hK
  obtain⟨y,rfl,hy⟩:=iM e
  rw[V2]at hy
  cases hs':ds[done.length]? with
  |none=>rw[hs']at hy;cases hy
  |some p=>
  rw[hs']at hy
  cases hy
  obtain⟨dn,t⟩:=p
  have hlt:done.length < ds.length:=(V4.mp hs').1
  have hm:(dn,t)∈ds:=V6 hs'
  have hn1:=X1 _ _ hn
  simp only[Tg.put,Tg.J7,List.set_cons_succ,List.set_cons_zero]
  simp only[iG,ao,af,v3,lk,c3,ae,gZ,cX,List.cons_append,List.nil_append]
  refine N6 (hg.dp _ hm) (by have:t.size<=60:=hg.sz _ hm;omega) (hg.gd _ hm) hg.jw hh hn1 fun pl S2 hpl X2 h2=>?_
  simp only[h2]
  have hn2:=X2 _ _ hn1
  refine bg (fun Km σ S'=>∃(x4 x5 x6:Option PV),σ=[some (.tup [d9 js,.tup (ds.map gZ)]),some (.ref nm),some (.int (done.length:Int)),some (.tup [.str dn,t.pv]),x4,x5,x6]/\S'=S2/\∀z m,(Bd.put z m,true)∈(t.pr (mq hs) true).take Km.length->z∈hs) ⟨_,_,_,rfl,rfl,by simp⟩ (fun _ _ _ ⟨_,_,_,_,h,_⟩=>by rw[h];exact h2) ?_ ?_
  ·rintro Km x P5 σ S3 K2 e2 ⟨y4,y5,y6,rfl,rfl,hd2⟩ Tq
   obtain⟨y,rfl,hy⟩:=iM e2
   rw[V2]at hy
   cases hu:(t.pr (mq hs) true)[Km.length]? with
   |none=>rw[hu]at hy;cases hy
   |some u=>
   rw[hu]at hy
   cases hy
   obtain⟨u,f⟩:=u
   have hup:Km.length < t.size:=by rw[<-Bd.Lf (mq hs) t true];exact(V4.mp hu).1
   have RJ:(u,f)∈t.pr (mq hs) true:=V6 hu
   have cont:(f=true->∀z m,u=Bd.put z m->z∈hs)->∀(S':ax) (x6:Option PV),S'=S3->K2 [some (.tup [d9 js,.tup (ds.map gZ)]),some (.ref nm),some (.int (done.length:Int)),some (.tup [.str dn,t.pv]),some (.int (Km.length:Int)),some (cZ (u,f)),x6] S':=fun hc S' x6 eS=>Tq _ _ ⟨_,_,_,rfl,eS,fun z m hz=>by
    rw[VH,V0,W3,hu,VO]at hz
    rcases hz with hz|hz
    ·exact hd2 z m hz
    ·have:(Bd.put z m,true)=(u,f):=by simpa using hz
     cases this
     exact hc rfl z m rfl⟩
   simp only[Tg.put,Tg.J7,List.set_cons_succ,List.set_cons_zero]
   refine ak fun N3 Pb=>?_
   simp only[aq,af,v3,lk,c3,ae,cZ,cv,List.set_cons_succ,List.set_cons_zero]
   refine Pb _ _ ?_
   simp only[br,fZ,aR,af,v3,lk,c3,ae,cX]
   cases f with
   |false=>
    rw[if_neg (by decide),if_neg (by decide)]
    exact cont (fun h=>by cases h) _ _ rfl
   |true=>
   rw[if_pos rfl,Bd.LY]
   simp only[cv,cX,bn,VX,VS]
   by_cases Oy:u.hd=("put":Str)
   ·obtain⟨z,m,rfl⟩:=(Bd.Ow u).mp Oy
    rw[if_pos Oy]
    have hz:z∈t.J7 (mq hs):=(Bd.KM (mq hs) t).mpr ⟨m,RJ⟩
    have Sr:z∈js:=t.KB (hg.gd _ hm) hz
    simp only[Bd.tl,cX]
    refine eB hn2 (hg.jw z Sr) hh ?_
    by_cases hin:z∈hs
    ·simp only[hin,Xp,Wt,W5,VZ,Wx]
     exact cont (fun _ z' m' e=>by cases e;exact hin) _ _ rfl
    ·simp only[hin,Ye,Wt,WL,WB]
     obtain⟨kk,hk1,hk2⟩:=zA Sr
     simp only[ar,aC,ao,uL,af,v3,lk,c3,ae,cv,cX,d9,fi,jL]
     refine⟨kk,hk1,hk2,?_⟩
     simp only[ab,ao,af,v3,lk,c3,ae,cX,aC]
     refine Rg (hg.dp _ hm) (by have:t.size<=60:=hg.sz _ hm;omega) hup fun S4 X4=>?_
     exact k1 kk z _ _ S4 (X1.trans (X2.trans X4)) hk1 ⟨done.length,Km.length,dn,t,m,rfl,rfl,hs',hu⟩ hin
   ·rw[if_neg Oy,if_neg (by decide),<-Bd.LY]
    exact cont (fun _ z m e=>absurd (by rw[e];rfl) Oy) _ _ rfl
  ·rintro σ S3 ⟨y4,y5,y6,rfl,rfl,hd2⟩
   have ln:(L3.aV ((t.pr (mq hs) true).map cZ)).length=(t.pr (mq hs) true).length:=by unfold L3.aV;rw[Y4,VI]
   rw[ln,WH]at hd2
   refine hK _ _ ⟨_,_,_,_,_,rfl,X1.trans X2,by rw[VH];exact hlt,fun p hp z hz=>?_⟩
   rw[VH,V0,W3,hs',VO]at hp
   rcases hp with hp|hp
   ·exact hd p hp z hz
   ·have:p=(dn,t):=by simpa using hp
    subst this
    obtain⟨m,hm'⟩:=(Bd.KM (mq hs) t).mp hz
    exact hd2 z m hm'
 ·rintro σ S1 ⟨x2,x3,x4,x5,x6,rfl,X1,hl,hd⟩
  refine hN _ _ ?_
  have ln:(L3.aV (ds.map gZ)).length=ds.length:=by unfold L3.aV;rw[Y4,VI]
  rw[ln,WH]at hd
  walk_at "x"
  refine k0 S1 X1 fun z hz=>?_
  obtain⟨p,hp,hz⟩:=Wl.mp hz
  exact hd p hp z hz
def tm(js:Zs)(ds:List (Str×Bd))(hs:Zs)(v:PV)(z:Str):Prop:=∃(k:Nat)(d tr:PV),v = .tup [.int (k:Int),d,tr]/\js[k]?=some z/\Py ds hs d tr z
abbrev mn(w:ap):Prop:=∀{S:ax}{js:Zs}{ds:List (Str×Bd)}{Q:bc}{E:bC},HG js ds->
  (∀p (vs:List PV) (hs:Zs) S',S p=none->Ext S S'->S' p=some (.lst vs)->vs.length=hs.length->(∀(j:Nat) v z,vs[j]?=some v->hs[j]?=some z->tm js ds (hs.take j) v z)->Fs ds hs->hs.Nodup->(∀z∈hs,z∈js)->(∀z∈K1 (mq hs) ds,z∈hs)->Q (.ref p) S')->w [jv js ds] S Q E
def Nf{xn:ap}(Ox:oa xn):mn (aP 4 (lE xn)):=by
 intro S js ds Q E hg k
 unfold lE
 refine bT ?_
 rw[show am 4 [jv js ds]=[some (jv js ds),none,none,none] from rfl]
 refine ak fun N hN=>?_
 walk_at "x"
 intro pf hpf
 refine hN _ _ (ak fun N hN=>?_)
 walk_at "x"
 intro pn Ss
 have Tr:pf≠pn:=fun e=>by rw[<-e,aa]at Ss;cases Ss
 have X0:Ext S (JZ (JZ S pf (.lst [])) pn (.lst [])):=(Ext.new hpf).trans (.new Ss)
 have f0:(JZ (JZ S pf (.lst [])) pn (.lst [])) pf=some (.lst []):=by rw[av Tr,aa]
 have n0:(JZ (JZ S pf (.lst [])) pn (.lst [])) pn=some (.lst ([].map PV.str)):=aa
 have Ts:S pn=none:=(Ext.new hpf).free Ss
 generalize JZ (JZ S pf (.lst [])) pn (.lst [])=S0 at X0 f0 n0
 refine hN _ _ (ak fun N hN=>?_)
 -- what holds RK the next step is known
 have I0:∀(v:PV) (S1:ax) (vs:List PV) (hs:Zs) (N':cG->ax->Prop),True:=fun _ _ _ _ _=>trivial
 have Uk:∀(S1:ax)(vs:List PV)(hs:Zs)(R:PV->ax->Prop),Ext S S1->S1 pf=some (.lst vs)->S1 pn=some (.lst (hs.map PV.str))->vs.length=hs.length->(∀(j:Nat) v z,vs[j]?=some v->hs[j]?=some z->tm js ds (hs.take j) v z)->Fs ds hs->hs.Nodup->(∀z∈hs,z∈js)->
   (∀v S2,Ext S S2->S2 pf=some (.lst vs)->S2 pn=some (.lst (hs.map PV.str))->((v = .non/\∀z∈K1 (mq hs) ds,z∈hs)\/(∃z,tm js ds hs v z/\z ∉ hs/\z∈js))->R v S2)->xn [jv js ds,.ref pn] S1 R eE:=by
  intro S1 vs hs R X1 f1 n1 h1 h2 h3 h4 h5 kk
  refine Ox hg (fun z hz=>hg.jw z (h5 z hz)) n1 (fun S2 X2 cl=>kk _ S2 (X1.trans X2) (X2 _ _ f1) (X2 _ _ n1) (.inl ⟨rfl,cl⟩)) fun kx z d tr S2 X2 a1 a2 a3=>?_
  exact kk _ S2 (X1.trans X2) (X2 _ _ f1) (X2 _ _ n1) (.inr ⟨z,⟨kx,d,tr,rfl,a1,a2⟩,a3,V6 a1⟩)
 simp only[aq,ab,ao,v3,lk]
 refine Uk S0 [] [] _ X0 f0 n0 rfl (fun j v z h=>by cases h) .nil ZV (fun z h=>by cases h) fun v0 S1 X1 f1 n1 c1=>?_
 simp only[List.set_cons_succ,List.set_cons_zero]
 refine hN _ _ (ak fun N hN=>?_)
 refine⟨fun m σ S'=>∃(v:PV) (vs:List PV) (hs:Zs),σ=[some (jv js ds),some (.ref pf),some (.ref pn),some v]/\Ext S S'/\S' pf=some (.lst vs)/\S' pn=some (.lst (hs.map PV.str))/\vs.length=hs.length/\(∀(j:Nat) v z,vs[j]?=some v->hs[j]?=some z->tm js ds (hs.take j) v z)/\Fs ds hs/\hs.Nodup/\(∀z∈hs,z∈js)/\
   ((v = .non/\∀z∈K1 (mq hs) ds,z∈hs)\/(∃z,tm js ds hs v z/\z ∉ hs/\z∈js))/\js.length - hs.length=m,⟨_,v0,[],[],rfl,X1,f1,n1,rfl,(fun j v z h=>by cases h),.nil,ZV,(fun z h=>by cases h),c1,rfl⟩,?_⟩
 rintro m σ S' ⟨v,vs,hs,rfl,X,f,nn,h1,h2,h3,h4,h5,c,rfl⟩
 rcases c with⟨rfl,cl⟩|⟨z,⟨kx,d,tr,rfl,hk,hx⟩,hnz,Sr⟩
 ·simp only[aR,af,v3,lk,c3,vC,bne_self_eq_false,VZ,Wx]
  refine hN _ _ ?_
  walk_at "x"
  exact k pf vs hs S' hpf X f h1 h2 h3 h4 h5 cl
 ·simp only[aR,af,v3,lk,c3,vC,Bool.bne_false,WB]
  refine⟨fun σ' Os=>∃(v:PV) (vs:List PV) (hs':Zs),σ'=[some (jv js ds),some (.ref pf),some (.ref pn),some v]/\Ext S Os/\Os pf=some (.lst vs)/\Os pn=some (.lst (hs'.map PV.str))/\vs.length=hs'.length/\(∀(j:Nat) v z,vs[j]?=some v->hs'[j]?=some z->tm js ds (hs'.take j) v z)/\Fs ds hs'/\hs'.Nodup/\(∀z∈hs',z∈js)/\
   ((v = .non/\∀z∈K1 (mq hs') ds,z∈hs')\/(∃z,tm js ds hs' v z/\z ∉ hs'/\z∈js))/\js.length - hs'.length < js.length - hs.length,?_,?_⟩
  ·rintro σ' Os ⟨v,vs,hs',rfl,a1,a2,a3,a4,a5,a6,a7,a8,a9,U5⟩
   exact⟨_,U5,v,vs,hs',rfl,a1,a2,a3,a4,a5,a6,a7,a8,a9,rfl⟩
  ·have hn1:(hs++[z]).Nodup:=Z6.mpr ⟨h4,by simp,fun a ha b hb e=>hnz (by rw[<-VN.mp hb,<-e];exact ha)⟩
   have hj1:∀y∈hs++[z],y∈js:=fun y hy=>(VO.mp hy).elim (h5 y) fun h=>by rw[VN.mp h];exact Sr
   have len:=kF (hs++[z]) js hn1 hj1
   have hz:=hx.J7
   have hjl:=hg.jl
   rw[VH,V0]at len
   refine ak fun N2 MZ=>?_
   walk_at "x"
   simp only[f,YF]
   refine⟨V7 (show _ < 1001 by omega) (by decide),MZ _ _ (ak fun N2 MZ=>?_)⟩
   have U6:pn≠pf:=Xl Tr
   have Xa:Ext S (JZ S' pf (.lst (vs++[.tup [.int (kx:Int),d,tr]]))):=X.put hpf
   have fa:(JZ S' pf (.lst (vs++[.tup [.int (kx:Int),d,tr]]))) pf=some (.lst (vs++[.tup [.int (kx:Int),d,tr]])):=aa
   have na:(JZ S' pf (.lst (vs++[.tup [.int (kx:Int),d,tr]]))) pn=some (.lst (hs.map PV.str)):=by rw[av U6];exact nn
   generalize JZ S' pf (.lst (vs++[.tup [.int (kx:Int),d,tr]]))=Sa at Xa fa na
   rw[show jv js ds = .tup [d9 js,.tup (ds.map gZ)] from rfl]
   walk_at "x"
   simp only[na,YF,cv,d9]
   rw[bU (v:=PV.str z) (by rw[V2,hk];rfl)]
   simp only[na]
   refine⟨V7 (show _ < 1001 by rw[VI];omega) (by decide),MZ _ _ ?_⟩
   have Xb:Ext S (JZ Sa pn (.lst (hs.map PV.str++[.str z]))):=Xa.put Ts
   have fb:(JZ Sa pn (.lst (hs.map PV.str++[.str z]))) pf=some (.lst (vs++[.tup [.int (kx:Int),d,tr]])):=by rw[av Tr];exact fa
   have nb:(JZ Sa pn (.lst (hs.map PV.str++[.str z]))) pn=some (.lst ((hs++[z]).map PV.str)):=by rw[aa,We];rfl
   generalize JZ Sa pn (.lst (hs.map PV.str++[.str z]))=Sb at Xb fb nb
   have st1:∀(j:Nat) v y,(vs++[.tup [.int (kx:Int),d,tr]])[j]?=some v->(hs++[z])[j]?=some y->tm js ds ((hs++[z]).take j) v y:=fun j v y hv hy=>by
    by_cases hj:j < vs.length
    ·rw[Ww hj]at hv
     rw[Ww (by omega)]at hy
     rw[List.take_append_of_le_length (by omega)]
     exact h2 j v y hv hy
    ·rw[WA (by omega)]at hv
     rw[WA (by omega)]at hy
     have e1:j - vs.length=0:=by
      have:=(V4.mp hv).1
      rw[V0]at this
      omega
     have e2:j - hs.length=0:=by omega
     rw[e1]at hv
     rw[e2]at hy
     cases hv;cases hy
     refine⟨kx,d,tr,rfl,hk,?_⟩
     rw[List.take_append_of_le_length (by omega),List.take_of_length_le (by omega)]
     exact hx
   simp only[aq,ab,ao,v3,lk]
   refine Uk Sb _ (hs++[z]) _ Xb fb nb (by simp[h1]) st1 (.snoc h3 hz) hn1 hj1 fun v2 S2 X2 f2 n2 c2=>?_
   simp only[List.set_cons_succ,List.set_cons_zero]
   exact⟨v2,_,hs++[z],rfl,X2,f2,n2,by simp[h1],st1,.snoc h3 hz,hn1,hj1,c2,by rw[VH,V0];omega⟩
def PN(js:Zs)(ds:List (Str×Bd))(hs:Zs):Prop:=Fs ds hs/\hs.Nodup/\(∀z∈hs,z∈js)/\∀z∈K1 (mq hs) ds,z∈hs
abbrev c_(w:ap):Prop:=∀{S:ax}{js:Zs}{ds:List (Str×Bd)}{Q:bc}{E:bC},HG js ds->
  (∀p (hs:Zs) S',S p=none->Ext S S'->S' p=some (.lst (hs.map PV.str))->PN js ds hs->Q (.ref p) S')->w [jv js ds] S Q E
def tq{xf:ap}(Nf:mn xf):c_ (aP 1 (jM xf)):=by
 intro S js ds Q E hg k
 unfold jM
 refine bT ?_
 rw[show am 1 [jv js ds]=[some (jv js ds)] from rfl]
 simp only[ar,aK,aJ,ab,ao,v3,lk]
 refine Nf hg fun p vs hs S1 hp X1 h1 hl hst f1 f2 f3 f4=>?_
 have hjl:=hg.jl
 have hle:=kF hs js f2 f3
 simp only[bF,h1]
 have ev:vs=(vs.zip hs).map Prod.fst:=by rw[List.map_fst_zip];omega
 have eh:(vs.zip hs).map (fun z=>PV.str z.2)=hs.map PV.str:=by
  have:(vs.zip hs).map Prod.snd=hs:=by rw[List.map_snd_zip];omega
  calc _=((vs.zip hs).map Prod.snd).map PV.str:=by rw[V9];rfl
   _=_:=by rw[this]
 have key:cJ (.n 0) bN (af ae (af ae (v3 1) (c3 (.int 0))) (af ae (v3 0) (c3 (.int 0)))) (cQ 1 [0] [some (jv js ds)]) (fun S'=>S' p=some (.lst vs)) (fun ys S2=>∀p,S2 p=none->Q (.ref p) (JZ S2 p (.lst ys))) ((vs.zip hs).map Prod.fst) [] S1:=by
  refine bj Prod.fst (fun z=>PV.str z.2) h1 (vs.zip hs) [] (fun z hz=>?_) (by rw[Wn,WY,XG];exact bt (by omega)) fun q hq=>?_
  ·obtain⟨j,hj⟩:=List.getElem?_of_mem hz
   obtain⟨e1,e2⟩:=Xr.mp hj
   obtain⟨kx,d,tr,ez,hk,_⟩:=hst j _ _ e1 e2
   refine⟨_,rfl,fun Q' q'=>?_⟩
   rw[ez,show jv js ds = .tup [d9 js,.tup (ds.map gZ)] from rfl]
   walk_at "x"
   simp only[cv,d9]
   rw[bU (v:=PV.str z.2) (by rw[V2,hk];rfl)]
   exact q'
  ·rw[Wm,eh]
   exact k q hs _ (X1.free hq) (X1.trans (.new hq)) aa ⟨f1,f2,f3,f4⟩
 rw[<-ev]at key
 exact key
def Lm(p:Addr)(S S':ax):Prop:=∀a o,S a=some o->a≠p->S' a=some o
def Lm.refl{p:Addr}{S:ax}:Lm p S S:=fun _ _ h _=>h
def Lm.trans{p:Addr}{S S1 S2:ax}(a:Lm p S S1)(b:Lm p S1 S2):Lm p S S2:=fun x o h n=>b x o (a x o h n) n
def Lm.upd{p:Addr}{S:ax}{o:SO}:Lm p S (JZ S p o):=fun x u h n=>by rw[av n];exact h
theorem Bd.Kq(q:Qs):∀t:Bd,(t.J7 q).length<=t.size
 | .rest=>Ws _
 | .pay _ _=>Ws _
 | .put _ _=>VM _
 | .use _=>Ws _
 | .Kf a=>VU (a.Kq q) (Nat.le_succ _)
 | .J9 a b=>by show(a.J7 q++b.J7 q).length<=a.size+b.size+1;rw[VH];have:=a.Kq q;have:=b.Kq q;omega
 | .Kg a b=>by show(a.J7 q++b.J7 q).length<=a.size+b.size+1;rw[VH];have:=a.Kq q;have:=b.Kq q;omega
 | .Ka z m a b=>by
  show((if q z=true then a.J7 q else [])++b.J7 q).length<=a.size+b.size+1
  rw[VH]
  have:=a.Kq q;have:=b.Kq q
  split
  ·omega
  ·simp;omega
abbrev jb(n:Nat)(w:ap):Prop:=∀{S:ax}{t:Bd}{js us hs fs:Zs}{hl fd:Addr}{Q:bc}{E:bC},t.dep<=n->t.good js us->k_ js->k_ hs->S hl=some (.lst (hs.map PV.str))->S fd=some (.lst (fs.map PV.str))->hl≠fd->fs.length+t.size<=1000000->
  (∀S',Lm fd S S'->S' fd=some (.lst ((fs++t.J7 (mq hs)).map PV.str))->Q .non S')->w [t.pv,.ref hl,.ref fd] S Q E
def uW:∀z∈(["then","either","take"]:Zs),PyData.strOk z=true:=by decide +kernel
def zB{s0:ap}(n:Nat)(ih:jb n s0):jb (n+1) (aP 3 (iF s0)):=by
 intro S t js us hs fs hl fd Q E hd hg hj hh h1 h2 hne hsz k
 unfold iF
 refine bT ?_
 rw[Bd.LY,show am 3 [.tup (.str t.hd::t.tl),.ref hl,.ref fd]=[some (.tup (.str t.hd::t.tl)),some (.ref hl),some (.ref fd)] from rfl]
 refine ak fun N hN=>?_
 have leaf:∀S1:ax,t.hd≠("often":Str)->t.hd ∉ (["then","either","take"]:Zs)->Q .non S1->N [some (.tup (.str t.hd::t.tl)),some (.ref hl),some (.ref fd)] S1:=fun S1 ho h3 q=>by
  refine hN _ _ (ak fun N hN=>?_)
  simp only[br,aR,af,v3,lk,c3,ae,cv,bn,VX,VS]
  rw[if_neg ho]
  refine hN _ _ ?_
  simp only[br,aR,af,v3,lk,c3,ae,cv,aC,ao]
  rw[rE]
  refine bR t.NN uW ?_
  simp only[h3,Ye,VX,VZ,Wx]
  exact q
 simp only[br,aR,af,v3,lk,c3,ae,cv,bn,VX,VS]
 by_cases Oy:t.hd=("put":Str)
 ·rw[if_pos Oy]
  obtain⟨z,m,rfl⟩:=(Bd.Ow t).mp Oy
  simp only[bm,hZ,uI,ao,af,v3,lk,c3,ae,cX,Bd.tl,bA,h2,YF]
  have hs1:(Bd.put z m).size=1:=rfl
  refine⟨V7 (show _ < 1000001 by rw[VI];omega) (by decide),leaf _ (by simp[Bd.hd,aG]) (by simp[Bd.hd,aG]) (k _ .upd ?_)⟩
  rw[aa,We]
  rfl
 rw[if_neg Oy]
 by_cases P6:t.hd=("often":Str)
 ·obtain⟨a,rfl⟩:=(Bd.Pn t).mp P6
  refine hN _ _ (ak fun N hN=>?_)
  simp only[br,aR,af,v3,lk,c3,ae,cv,bn,VX,VS]
  rw[if_pos P6]
  simp only[bm,ab,ao,af,v3,lk,c3,ae,cX,Bd.tl]
  simp only[Bd.dep]at hd
  have hs1:(Bd.Kf a).size=a.size+1:=rfl
  refine ih (by omega) hg hj hh h1 h2 hne (by omega) fun S1 X1 f1=>?_
  refine hN _ _ ?_
  simp only[br,aR,af,v3,lk,c3,ae,cv,aC,ao]
  rw[rE]
  refine bR (Bd.Kf a).NN uW ?_
  simp only[Bd.hd,aG,String.reduceEq,VL,V3,WK,or_self,Ye,VX,VZ,Wx]
  exact k S1 X1 f1
 by_cases h3:t.hd∈(["then","either","take"]:Zs)
 ·refine hN _ _ (ak fun N hN=>?_)
  simp only[br,aR,af,v3,lk,c3,ae,cv,bn,VX,VS]
  rw[if_neg P6]
  refine hN _ _ ?_
  simp only[br,aR,af,v3,lk,c3,ae,cv,aC,ao]
  rw[rE]
  refine bR t.NN uW ?_
  simp only[h3,Xp,VX,WB]
  refine ak fun N2 MZ=>?_
  -- the second side
  have snd:∀(hd2:List PV)(a b:Bd)(S1:ax)(Su:Zs),(.str t.hd::t.tl)=hd2++[a.pv,b.pv]->b.dep<=n->b.good js us->Lm fd S S1->S1 fd=some (.lst (Su.map PV.str))->Su.length+b.size<=1000000->Su++b.J7 (mq hs)=fs++t.J7 (mq hs)->N2 [some (.tup (.str t.hd::t.tl)),some (.ref hl),some (.ref fd)] S1:=fun hd2 a b S1 Su e1 g1 g2 X1 f1 l1 e2=>by
   refine MZ _ _ ?_
   simp only[bm,ab,ao,af,v3,lk,c3,ae,hW,bX]
   have e3:KN (.str t.hd::t.tl) (-1)=some b.pv:=by rw[e1];have:=i_ (a:=a.pv) (b:=b.pv) (hd:=hd2) (i:=1) (.inr rfl);simpa using this
   rw[e3]
   refine ih g1 g2 hj hh (X1 _ _ h1 hne) f1 hne l1 fun S2 X2 f2=>?_
   rw[e2]at f2
   exact k S2 (X1.trans X2) f2
  have fst:∀(hd2:List PV) (a b:Bd) (Q':bc),(.str t.hd::t.tl)=hd2++[a.pv,b.pv]->a.dep<=n->a.good js us->fs.length+a.size<=1000000->(∀S1,Lm fd S S1->S1 fd=some (.lst ((fs++a.J7 (mq hs)).map PV.str))->Q' .non S1)->ab s0 [af ae (v3 0) (hW bX (c3 (.int 2))),v3 1,v3 2] [some (.tup (.str t.hd::t.tl)),some (.ref hl),some (.ref fd)] S Q' eE:=fun hd2 a b Q' e1 g1 g2 l1 kk=>by
   simp only[ab,ao,af,v3,lk,c3,ae,hW,bX]
   have e3:KN (.str t.hd::t.tl) (-2)=some a.pv:=by rw[e1];have:=i_ (a:=a.pv) (b:=b.pv) (hd:=hd2) (i:=0) (.inl rfl);simpa using this
   rw[e3]
   exact ih g1 g2 hj hh h1 h2 hne l1 kk
  simp only[br,oM,aR,af,v3,lk,c3,ae,cv,bn,Wt,Z7,XE,bm]
  have la:∀c:Bd,(c.J7 (mq hs)).length<=c.size:=Bd.Kq (mq hs)
  cases t with
  |J9 a b=>
   have hs1:(Bd.J9 a b).size=a.size+b.size+1:=rfl
   simp only[Bd.dep]at hd
   rw[if_pos (by simp[Bd.hd,aG]),if_pos trivial]
   refine fst [.str "then"] a b _ rfl (by omega) hg.1 (by omega) fun S1 X1 f1=>?_
   exact snd [.str "then"] a b S1 _ rfl (by omega) hg.2 X1 f1 (by rw[VH];have:=la a;omega) (by rw[Xn];rfl)
  |Kg a b=>
   have hs1:(Bd.Kg a b).size=a.size+b.size+1:=rfl
   simp only[Bd.dep]at hd
   rw[if_pos (by simp[Bd.hd,aG]),if_pos trivial]
   refine fst [.str "either"] a b _ rfl (by omega) hg.1 (by omega) fun S1 X1 f1=>?_
   exact snd [.str "either"] a b S1 _ rfl (by omega) hg.2 X1 f1 (by rw[VH];have:=la a;omega) (by rw[Xn];rfl)
  |Ka z m a b=>
   have hs1:(Bd.Ka z m a b).size=a.size+b.size+1:=rfl
   have ep:(Bd.Ka z m a b).J7 (mq hs)=(if mq hs z=true then a.J7 (mq hs) else [])++b.J7 (mq hs):=rfl
   simp only[Bd.dep]at hd
   rw[if_neg (by simp[Bd.hd])]
   simp only[Bd.tl,cX]
   refine eB h1 (hj z hg.1) hh ?_
   by_cases hin:z∈hs
   ·simp only[hin,Xp,VX,WB]
    rw[show mq hs z=true from Wu hin,if_pos rfl]at ep
    refine fst [.str "take",.str z,.int m] a b _ rfl (by omega) hg.2.2.2.1 (by omega) fun S1 X1 f1=>?_
    exact snd [.str "take",.str z,.int m] a b S1 _ rfl (by omega) hg.2.2.2.2 X1 f1 (by rw[VH];have:=la a;omega) (by rw[ep,Xn])
   ·simp only[hin,Ye,VX,VZ,Wx]
    rw[show mq hs z=false from Wc hin,if_neg (by decide),Wm]at ep
    exact snd [.str "take",.str z,.int m] a b S fs rfl (by omega) hg.2.2.2.2 .refl h2 (by omega) (by rw[ep])
  |_=>simp[Bd.hd,aG]at h3
 ·refine leaf S P6 h3 (k S .refl ?_)
  have e:t.J7 (mq hs)=[]:=by cases t<;>first|rfl|exact absurd rfl Oy|exact absurd rfl P6|simp[Bd.hd]at h3
  rw[e,Wh]
  exact h2
theorem qk{js:Zs}{ds:List (Str×Bd)}(hg:HG js ds)(q:Qs):∀n,n<=ds.length->(K1 q (ds.take n)).length<=60 * n
 |0,_=>by simp[K1]
 |n+1,h=>by
  have ih:=qk hg q n (by omega)
  have hlt:n < ds.length:=by omega
  unfold K1 at *
  rw[W3,V8 hlt,WZ,VH]
  have h1:=Bd.Kq q ds[n].2
  have h2:ds[n].2.size<=60:=hg.sz _ (List.getElem_mem hlt)
  simp only[Option.toList_some,XC,List.flatMap_nil,Wh]
  omega
theorem vT{js:Zs}{ds:List (Str×Bd)}(hg:HG js ds):∀k,∀z∈held ds k,z∈js
 |0,z,h=>by cases h
 |k+1,z,h=>by
  obtain⟨p,hp,hz⟩:=Wl.mp h
  exact p.2.KB (hg.gd p hp) hz
abbrev lP(w:ap):Prop:=∀{S:ax}{js:Zs}{ds:List (Str×Bd)}{Q:bc}{E:bC},HG js ds->(∀p S',S p=none->Ext S S'->S' p=some (.lst ((held ds js.length).map PV.str))->Q (.ref p) S')->w [jv js ds] S Q E
def zC{xp:ap}(QF:jb 6 xp):lP (aP 6 (d4 xp)):=by
 intro S js ds Q E hg k
 unfold d4
 refine bT ?_
 rw[show am 6 [jv js ds]=[some (.tup [d9 js,.tup (ds.map gZ)]),none,none,none,none,none] from rfl]
 have hdl:=hg.dl
 refine ak fun N hN=>?_
 walk_at "x"
 intro p0 hp0
 have X0:Ext S (JZ S p0 (.lst [])):=.new hp0
 have f0:(JZ S p0 (.lst [])) p0=some (.lst ((held ds 0).map PV.str)):=aa
 generalize JZ S p0 (.lst [])=S0 at X0 f0
 refine hN _ _ (ak fun N hN=>?_)
 simp only[bE,aJ,af,v3,lk,c3,ae,cv,d9,bF]
 refine bg (fun done σ S'=>∃(p:Addr) (x2 x3 x4 x5:Option PV),σ=[some (.tup [.tup (js.map PV.str),.tup (ds.map gZ)]),some (.ref p),x2,x3,x4,x5]/\S p=none/\Ext S S'/\S' p=some (.lst ((held ds done.length).map PV.str))) ⟨p0,_,_,_,_,rfl,hp0,X0,f0⟩ (fun _ _ _ _=>trivial) ?_ ?_
 ·rintro done x rest σ S1 K e ⟨p,x2,x3,x4,x5,rfl,hp,X1,f1⟩ hK
  simp only[Tg.put,List.set_cons_succ,List.set_cons_zero]
  refine ak fun N2 MZ=>?_
  walk_at "x"
  intro pf hpf
  have QG:p≠pf:=fun h=>by rw[h,hpf]at f1;cases f1
  have OY:S pf=none:=X1.free hpf
  have X2:Ext S (JZ S1 pf (.lst [])):=X1.trans (.new hpf)
  have f2:(JZ S1 pf (.lst [])) p=some (.lst ((held ds done.length).map PV.str)):=by rw[av QG];exact f1
  have g2:(JZ S1 pf (.lst [])) pf=some (.lst (([]:Zs).map PV.str)):=aa
  generalize JZ S1 pf (.lst [])=S2 at X2 f2 g2
  refine MZ _ _ (ak fun N2 MZ=>?_)
  simp only[bE,aJ,af,v3,lk,c3,ae,cX,bF]
  have hJ:k_ (held ds done.length):=fun z hz=>hg.jw z (vT hg _ z hz)
  refine bg (fun Km σ S'=>∃(x4 x5:Option PV),σ=[some (.tup [.tup (js.map PV.str),.tup (ds.map gZ)]),some (.ref p),some x,some (.ref pf),x4,x5]/\Km.length<=ds.length/\Lm pf S2 S'/\S' pf=some (.lst ((K1 (mq (held ds done.length)) (ds.take Km.length)).map PV.str))) ⟨_,_,rfl,Ws _,.refl,by simpa [K1]using g2⟩ (fun _ _ _ _=>trivial) ?_ ?_
  ·rintro Km y P5 σ S3 K2 e2 ⟨x4,x5,rfl,hl2,X3,f3⟩ Tq
   have hy:(ds.map gZ)[Km.length]?=some y:=by rw[e2];simp
   rw[V2]at hy
   cases hd:ds[Km.length]? with
   |none=>rw[hd]at hy;cases hy
   |some q=>
   rw[hd]at hy
   cases hy
   obtain⟨dn,t⟩:=q
   have hlt:Km.length < ds.length:=(V4.mp hd).1
   have hm:(dn,t)∈ds:=V6 hd
   simp only[gZ,Tg.put,Tg.J7,List.set_cons_succ,List.set_cons_zero]
   simp only[bm,ab,ao,v3,lk]
   have lb:=qk hg (mq (held ds done.length)) Km.length hl2
   refine QF (hg.dp _ hm) (hg.gd _ hm) hg.jw hJ (X3 _ _ f2 QG) f3 QG (by have:t.size<=60:=hg.sz _ hm;omega) fun S4 X4 f4=>?_
   refine Tq _ _ ⟨_,_,rfl,by rw[VH];exact hlt,X3.trans X4,?_⟩
   rw[f4,VH,V0]
   congr 3
   unfold K1
   rw[W3,hd,WZ]
   simp
  ·rintro σ S3 ⟨x4,x5,rfl,hl2,X3,f3⟩
   rw[VI,WH]at f3
   refine MZ _ _ ?_
   walk_at "x"
   refine hK _ _ ⟨pf,_,_,_,_,rfl,OY,fun a o h=>X3 a o (X2 a o h) (fun e=>by rw[e,OY]at h;cases h),?_⟩
   rw[f3,VH,V0]
   rfl
 ·rintro σ S1 ⟨p,x2,x3,x4,x5,rfl,hp,X1,f1⟩
  refine hN _ _ ?_
  walk_at "x"
  rw[VI]at f1
  exact k p S1 hp X1 f1
noncomputable def Bd.ps(q:Qs):Bd->List PV
 | .rest=>[.tup []]
 | .pay _ _=>[.tup []]
 | .put _ _=>[.tup []]
 | .use _=>[.tup []]
 | .Kf _=>[.tup []]
 | .J9 a b=>(a.ps q).flatMap fun x=>(b.ps q).map fun y=>.tup [x,y]
 | .Kg a b=>(a.ps q).map (fun x=>.tup [.int 0,x])++(b.ps q).map fun x=>.tup [.int 1,x]
 | .Ka z _ a b=>(if q z then (a.ps q).map (fun x=>.tup [.int 0,x]) else [])++(b.ps q).map fun x=>.tup [.int 1,x]
def tt{α β:Type}(xs:List α)(ys:List β)(f:α->β->PV):(xs.flatMap fun x=>ys.map (f x)).length=xs.length * ys.length:=by
 induction xs with
 |nil=>simp
 |cons x r ih=>rw[XC,VH,ih,VI,V1,ZT];omega
theorem Bd.Ki(q:Qs):∀t:Bd,(t.ps q).length<=t.J3
 | .rest=>VM _
 | .pay _ _=>VM _
 | .put _ _=>VM _
 | .use _=>VM _
 | .Kf _=>VM _
 | .J9 a b=>by show((a.ps q).flatMap fun x=>(b.ps q).map fun y=>_).length<=a.J3 * b.J3;rw[tt];exact ZY (a.Ki q) (b.Ki q)
 | .Kg a b=>by
  show((a.ps q).map _++(b.ps q).map _).length<=a.J3+b.J3
  rw[VH,VI,VI];exact Nat.add_le_add (a.Ki q) (b.Ki q)
 | .Ka z _ a b=>by
  show((if q z=true then (a.ps q).map _ else [])++(b.ps q).map _).length<=a.J3+b.J3
  rw[VH,VI]
  have:=a.Ki q;have:=b.Ki q
  split
  ·rw[VI];omega
  ·simp;omega
theorem Bd.MM:∀t:Bd,1<=t.J3
 | .rest=>VM _
 | .pay _ _=>VM _
 | .put _ _=>VM _
 | .use _=>VM _
 | .Kf _=>VM _
 | .J9 a b=>Nat.mul_pos a.MM b.MM
 | .Kg a b=>VU a.MM (WE _ _)
 | .Ka _ _ a b=>VU a.MM (WE _ _)
abbrev iN(n:Nat)(w:ap):Prop:=∀{S:ax}{t:Bd}{js us hs:Zs}{nm:Addr}{Q:bc}{E:bC},t.dep<=n->t.J3<=1000->t.good js us->k_ js->k_ hs->S nm=some (.lst (hs.map PV.str))->
  (∀p S',S p=none->Ext S S'->S' p=some (.lst (t.ps (mq hs)))->Q (.ref p) S')->w [t.pv,.ref nm] S Q E
abbrev lQ(n:Nat)(w:ap):Prop:=∀{S:ax}{a b:Bd}{js us hs:Zs}{nm:Addr}{Q:bc}{E:bC},a.dep<=n->b.dep<=n->a.J3 * b.J3<=1000->(Bd.J9 a b).good js us->k_ js->k_ hs->S nm=some (.lst (hs.map PV.str))->
  (∀p S',S p=none->Ext S S'->S' p=some (.lst ((Bd.J9 a b).ps (mq hs)))->Q (.ref p) S')->w [(Bd.J9 a b).pv,.ref nm] S Q E
def Fj{a b:Bd}(h:a.J3 * b.J3<=1000):a.J3<=1000/\b.J3<=1000:=
 ⟨VU (Nat.le_mul_of_pos_right _ b.MM) h,VU (Zj _ a.MM) h⟩
def tw{S:ax}{p:Addr}{xs:List PV}{σ:cG}{i:Int}{fin:List PV->ax->Prop}(h:S p=some (.lst xs))(hl:xs.length<=1000)(f:fin (xs.map fun x=>.tup [.int i,x]) S) :
  cJ (.n 0) bN (aC [c3 (.int i),v3 0]) (cQ 1 [] σ) (fun S'=>S' p=some (.lst xs)) fin xs [] S:=by
 have:=bj (g:=.n 0) (te:=aC [c3 (.int i),v3 0]) (σ':=cQ 1 [] σ) (keep:=fun S'=>S' p=some (.lst xs)) (fin:=fin) (fun x:PV=>x) (fun x=>.tup [.int i,x]) h xs [] (fun x hx=>⟨_,rfl,fun Q q=>q⟩) (by rw[Wn,WY];exact bt hl) f
 rw[List.map_id']at this
 exact this
def xz{S S1:ax}{xs ys:List PV}{pa pb pf:Addr}{v0 v1 x4:Option PV}{N:cG->ax->Prop}{Q:bc}(hpf:S pf=none)(X1:Ext S S1)(fa:S1 pa=some (.lst xs))(fb:S1 pb=some (.lst ys))(ff:S1 pf=some (.lst []))(na:pa≠pf)(nb:pb≠pf)(hl:xs.length * ys.length<=1000)
  (k:∀(S2:ax)(x:Option PV),Ext S S2->S2 pf=some (.lst (xs.flatMap fun x=>ys.map fun y=>.tup [x,y]))->N [v0,v1,some (.ref pf),some (.ref pb),x] S2) :
  oX (.n 4) (bm (hZ "list" bI (v3 2) [aK (aJ (v3 3)) (.n 0) bN (aC [v3 1,v3 0]) 1 [4]])) { nx:=N,rt:=Q,ex:=eE } (fun S'=>S' pa=some (.lst xs)) xs [v0,v1,some (.ref pf),some (.ref pb),x4] S1:=by
 refine bg (fun done σ S'=>∃(x:Option PV),σ=[v0,v1,some (.ref pf),some (.ref pb),x]/\Ext S S'/\Lm pf S1 S'/\S' pf=some (.lst (done.flatMap fun x=>ys.map fun y=>.tup [x,y]))) ⟨_,rfl,X1,.refl,ff⟩ (fun _ _ _ ⟨_,_,_,XB,_⟩=>XB _ _ fa na) ?_ ?_
 ·rintro done x rest σ S2 K e ⟨y4,rfl,X2,XB,f2⟩ hK
  have hb2:=XB _ _ fb nb
  simp only[Tg.put,List.set_cons_succ,List.set_cons_zero]
  simp only[bm,hZ,uI,ao,v3,lk,f2,YF,aK,aJ,bF,hb2]
  have U7:ys.length<=1000:=by
   have h1:1<=xs.length:=by rw[e,VH,V1];omega
   exact VU (Zj _ h1) hl
  have key:=bj (g:=.n 0) (te:=aC [v3 1,v3 0]) (σ':=cQ 1 [4] [v0,v1,some (.ref pf),some (.ref pb),some x]) (keep:=fun S'=>S' pb=some (.lst ys)) (fin:=fun zs S3=>∀q,S3 q=none->bI (.ref pf) [.ref q] (JZ S3 q (.lst zs)) fun _ S4=>K [v0,v1,some (.ref pf),some (.ref pb),some x] S4) (fun y:PV=>y) (fun y=>.tup [x,y]) hb2 ys [] (fun y hy=>⟨_,rfl,fun Q q=>q⟩) (by rw[Wn,WY];exact bt U7) (by
   intro q hq
   rw[Wm]
   have nq:pf≠q:=fun h=>by rw[h,hq]at f2;cases f2
   simp only[bI,av nq,f2,aa]
   have hlen:(done.flatMap fun x=>ys.map fun y=>PV.tup [x,y]).length=done.length * ys.length:=tt done ys fun x y=>.tup [x,y]
   have hle:done.length * ys.length+ys.length<=1000:=by
    have:(done.length+1) * ys.length<=xs.length * ys.length:=Nat.mul_le_mul_right _ (by rw[e,VH,V1];omega)
    rw[ZT]at this
    omega
   refine⟨bt (by rw[hlen,VI];exact hle),hK _ _ ⟨_,rfl,(X2.trans (.new hq)).put hpf,fun a o h n=>?_,?_⟩⟩
   ·have h2:=XB a o h n
    rw[av n,av (fun h'=>by rw[h',hq]at h2;cases h2)]
    exact h2
   ·rw[aa,WZ];simp)
  rw[List.map_id']at key
  exact key
 ·rintro σ S2 ⟨x,rfl,X2,XB,f2⟩
  exact k S2 x X2 f2
def zD{s0 s1:ap}(n:Nat)(ih:iN n s1):lQ n (aP 5 (ck s0 s1)):=by
 intro S a b js us hs nm Q E ha hb hp hg hj hh hn k
 obtain⟨U8,U9⟩:=Fj hp
 unfold ck
 refine bT ?_
 rw[show am 5 [(Bd.J9 a b).pv,.ref nm]=[some (.tup [.str "then",a.pv,b.pv]),some (.ref nm),none,none,none] from rfl]
 refine ak fun N hN=>?_
 walk_at "x"
 intro pf hpf
 have X0:Ext S (JZ S pf (.lst [])):=.new hpf
 have f0:(JZ S pf (.lst [])) pf=some (.lst []):=aa
 generalize JZ S pf (.lst [])=S0 at X0 f0
 refine hN _ _ (ak fun N hN=>?_)
 walk_at "x"
 simp only[vN]
 refine ih hb U9 hg.2 hj hh (X0 _ _ hn) fun pb S1 OZ X1 h1=>?_
 refine hN _ _ (ak fun N hN=>?_)
 simp only[bE,aJ,ab,ao,af,v3,lk,c3,ae,cX]
 refine ih ha U8 hg.1 hj hh (X1 _ _ (X0 _ _ hn)) fun pa S2 hpa X2 h2=>?_
 simp only[bF,h2]
 have nb:pb≠pf:=fun h=>by rw[h,f0]at OZ;cases OZ
 have na:pa≠pf:=fun h=>by rw[h,X1 _ _ f0]at hpa;cases hpa
 have U_:(a.ps (mq hs)).length * (b.ps (mq hs)).length<=1000:=VU (ZY (a.Ki _) (b.Ki _)) hp
 refine xz hpf (X0.trans (X1.trans X2)) h2 (X2 _ _ h1) (X2 _ _ (X1 _ _ f0)) na nb U_ fun S3 x X3 f3=>?_
 refine hN _ _ ?_
 walk_at "x"
 exact k pf S3 hpf X3 f3
def Oz{s0 s1:ap}(n:Nat)(RI:lQ n s0)(ih:iN n s1):iN (n+1) (aP 3 (fj s0 s1)):=by
 intro S t js us hs nm Q E hd hp hg hj hh hn k
 unfold fj
 refine bT ?_
 rw[Bd.LY,show am 3 [.tup (.str t.hd::t.tl),.ref nm]=[some (.tup (.str t.hd::t.tl)),some (.ref nm),none] from rfl]
 refine ak fun N hN=>?_
 simp only[br,aR,af,v3,lk,c3,ae,cv,bn,VX,VS]
 by_cases h1:t.hd=("then":Str)
 ·rw[if_pos h1]
  obtain⟨a,b,rfl⟩:=(Bd.Pm t).mp h1
  simp only[Bd.dep]at hd
  simp only[ar,ab,ao,v3,lk]
  rw[<-Bd.LY]
  exact RI (by omega) (by omega) hp hg hj hh hn k
 rw[if_neg h1]
 refine hN _ _ (ak fun N hN=>?_)
 walk_at "x"
 simp only[cv]
 rw[show([PV.str "either",PV.str "take"]:List PV)=(["either","take"]:Zs).map PV.str from rfl]
 refine bR t.NN zm ?_
 by_cases h2:t.hd∈(["either","take"]:Zs)
 ·simp only[h2,Xp,Wt,W5,VZ,Wx]
  refine hN _ _ (ak fun N hN=>?_)
  have sides:∀(hd2:List PV)(a b:Bd),(.str t.hd::t.tl)=hd2++[a.pv,b.pv]->KN (.str t.hd::t.tl) (-1)=some b.pv/\KN (.str t.hd::t.tl) (-2)=some a.pv:=fun hd2 a b e1=>⟨by rw[e1];have:=i_ (a:=a.pv) (b:=b.pv) (hd:=hd2) (i:=1) (.inr rfl);simpa using this,by rw[e1];have:=i_ (a:=a.pv) (b:=b.pv) (hd:=hd2) (i:=0) (.inl rfl);simpa using this⟩
  have fin:∀(a b:Bd)(hd2:List PV),(.str t.hd::t.tl)=hd2++[a.pv,b.pv]->a.dep<=n->b.dep<=n->a.J3+b.J3<=1000->a.good js us->b.good js us->
    (∀(po:Addr)(S2:ax),S po=none->Ext S S2->S2 po=some (.lst ((b.ps (mq hs)).map fun x=>.tup [.int 1,x]))->N [some (.tup (.str t.hd::t.tl)),some (.ref nm),some (.ref po)] S2)->aq 2 (aK (aJ (ab s1 [af ae (v3 0) (hW bX (c3 (.int 1))),v3 1])) (.n 0) bN (aC [c3 (.int 1),v3 0]) 1 []) { nx:=N,rt:=Q,ex:=eE } [some (.tup (.str t.hd::t.tl)),some (.ref nm),none] S:=by
   intro a b hd2 e1 da db Pc ga gb kk
   simp only[aq,aK,aJ,ab,ao,af,v3,lk,c3,ae,hW,bX,(sides hd2 a b e1).1]
   refine ih db (by omega) gb hj hh hn fun pb S1 OZ X1 f1=>?_
   simp only[bF,f1]
   refine tw f1 (VU (b.Ki _) (by omega)) fun po QS=>?_
   exact kk po _ (X1.free QS) (X1.trans (.new QS)) aa
  have both:∀(a b:Bd)(hd2:List PV)(po:Addr)(S2:ax),(.str t.hd::t.tl)=hd2++[a.pv,b.pv]->a.dep<=n->a.J3+b.J3<=1000->a.good js us->S po=none->Ext S S2->S2 po=some (.lst ((b.ps (mq hs)).map fun x=>.tup [.int 1,x]))->t.ps (mq hs)=(a.ps (mq hs)).map (fun x=>.tup [.int 0,x])++(b.ps (mq hs)).map (fun x=>.tup [.int 1,x])->
    ar (af aN (aK (aJ (ab s1 [af ae (v3 0) (hW bX (c3 (.int 2))),v3 1])) (.n 0) bN (aC [c3 (.int 0),v3 0]) 1 []) (v3 2)) { nx:=fun _ S'=>Q .non S',rt:=Q,ex:=eE } [some (.tup (.str t.hd::t.tl)),some (.ref nm),some (.ref po)] S2:=by
   intro a b hd2 po S2 e1 da Pc ga QS X2 f2 et
   simp only[ar,aK,aJ,ab,ao,af,v3,lk,c3,ae,hW,bX,(sides hd2 a b e1).2]
   refine ih da (by omega) ga hj hh (X2 _ _ hn) fun pa S3 hpa X3 f3=>?_
   simp only[bF,f3]
   have la:=a.Ki (mq hs)
   have lb:=b.Ki (mq hs)
   refine tw f3 (by omega) fun pq hpq=>?_
   have f4:=X3 _ _ f2
   have nq:po≠pq:=fun h=>by rw[h,hpq]at f4;cases f4
   simp only[aN,aa,av nq,f4]
   refine⟨bt (by rw[VI,VI];omega),fun pr Sv=>?_⟩
   have Xq:Ext S (JZ S3 pq (.lst ((a.ps (mq hs)).map fun x=>.tup [.int 0,x]))):=X2.trans (X3.trans (.new hpq))
   exact k pr _ (Xq.free Sv) (Xq.trans (.new Sv)) (by rw[aa,et])
  cases t with
  |Kg a b=>
   simp only[Bd.dep]at hd
   refine fin a b [.str "either"] rfl (by omega) (by omega) hp hg.1 hg.2 fun po S2 QS X2 f2=>hN _ _ (ak fun N hN=>?_)
   simp only[Bd.hd]
   walk_at "y"
   refine hN _ _ ?_
   exact both a b [.str "either"] po S2 rfl (by omega) hp hg.1 QS X2 f2 rfl
  |Ka z m a b=>
   simp only[Bd.dep]at hd
   refine fin a b [.str "take",.str z,.int m] rfl (by omega) (by omega) hp hg.2.2.2.1 hg.2.2.2.2 fun po S2 QS X2 f2=>hN _ _ (ak fun N hN=>?_)
   have ep:(Bd.Ka z m a b).ps (mq hs)=(if mq hs z=true then (a.ps (mq hs)).map (fun x=>.tup [.int 0,x]) else [])++(b.ps (mq hs)).map fun x=>.tup [.int 1,x]:=rfl
   simp only[br,fZ,aR,af,v3,lk,c3,ae,cv,cX,Bd.hd,Bd.tl,bn,VX,Xp,WB]
   refine eB (X2 _ _ hn) (hj z hg.1) hh ?_
   by_cases hin:z∈hs
   ·simp only[hin,Xp,Wt,W5,VZ,Wx]
    rw[show mq hs z=true from Wu hin,if_pos rfl]at ep
    refine hN _ _ ?_
    exact both a b [.str "take",.str z,.int m] po S2 rfl (by omega) hp hg.2.2.2.1 QS X2 f2 ep
   ·simp only[hin,Ye,Wt,WL,WB]
    rw[show mq hs z=false from Wc hin,if_neg (by decide),Wm]at ep
    walk_at "x"
    exact k po S2 QS X2 (by rw[ep];exact f2)
  |_=>simp[Bd.hd,aG]at h2
 ·simp only[h2,Ye,Wt,WL,WB]
  walk_at "x"
  intro p hp'
  have e:t.ps (mq hs)=[.tup []]:=by cases t<;>first|rfl|exact absurd rfl h1|simp[Bd.hd]at h2
  exact k p _ hp' (.new hp') (by rw[aa,e])
def gG{x:PV}{S:ax}{Q:bc}{t c:String}(h:AO S x=some t)(hc:cN c=true)(q:Q (.bl (qO t c)) S):qP [x,.ty c] S Q:=by
 show(match AO S x with|some t=>cN c=true/\Q (.bl (qO t c)) S|none=>False)
 rw[h];exact⟨hc,q⟩
abbrev iO(w:ap):Prop:=∀{S:ax}{d l:Addr}{most many size:Nat}{Q:bc}{E:bC},Ko S d l->most<=8->1<=many->many<=4->1<=size->size<=60->
  (∀js ds S',MS 6 js [] ds->1<=ds.length->ds.length<=many->js.length<=8->(∀p∈ds,p.2.J3+p.2.J6<=1000)->Ko S' d l->LU d l S S'->Q (jv js ds) S')->w [.ref d,.int most,.int many,.int size] S Q E
def uX{xw xd xb:ap}(NX:lH xw)(J8:cW xd)(RL:gA xb):iO (aP 9 (gh xw xd xb)):=by
 intro S0 d l most many size Q E D0 hmo hm1 hm4 hs1 hs2 k
 unfold gh
 refine bT ?_
 rw[show am 9 [PV.ref d,PV.int most,PV.int many,PV.int size]=[some (.ref d),some (.int most),some (.int many),some (.int size),none,none,none,none,none] from rfl]
 refine ak fun N hN=>?_
 walk_at "x"
 refine NX D0 (by decide) (by decide) fun p ns S hl hnd hw0 _ Rt hpl hp D O0=>?_
 have hl8':ns.length=8:=hl
 have hl8:8<=ns.length:=by omega
 have Ul:ns.length<=100:=by omega
 have hw:∀z∈ns,OQ z:=fun z hz=>(hw0 z hz).1
 refine hN _ _ ?_
 refine ak fun N hN=>?_
 walk_at "x"
 refine J8 (m:=most+1) D (by omega) (by omega) fun r S1 r0 r1 D1 O1=>?_
 obtain⟨j,rfl⟩:∃j:Nat,r=(j:Int):=⟨r.toNat,by omega⟩
 have hp1:=O1 _ _ hp Rt hpl
 rw[hp1]
 dsimp only
 rw[Fc (by rw[VI];omega),<-List.map_take]
 intro p2 hp2
 rw[aa]
 dsimp only
 have D2:Ko (JZ S1 p2 (.lst ((ns.take j).map PV.str))) d l:=D1.new hp2
 have O2:LU d l S (JZ S1 p2 (.lst ((ns.take j).map PV.str))):=O1.trans (.new hp2)
 have hp2':=LU.new (o:=.lst ((ns.take j).map PV.str)) hp2 _ _ hp1 Rt hpl
 generalize JZ S1 p2 (.lst ((ns.take j).map PV.str))=S2 at D2 O2 hp2'
 refine hN _ _ (ak fun N hN=>?_)
 walk_at "x"
 intro p3 hp3
 have Um:=D2.free hp3
 refine J8 (D2.new hp3) (by decide) (by decide) fun f S3 f0 f1 D3 O3=>?_
 have e3:=O3 _ _ (aa (S:=S2) (o:=.lst [.int 0,.int 4])) Um.1 Um.2
 have Tt:=O3 _ _ (LU.new hp3 _ _ hp2' Rt hpl) Rt hpl
 have Va:LU d l S S3:=O2.trans ((LU.new hp3).trans O3)
 simp only[e3]
 obtain⟨v,hv,Uo⟩:=ko (xs:=[PV.int 0,.int 4]) f0 (by simpa using f1)
 rw[hv]
 obtain⟨g,rfl,hg⟩:∃g:Nat,v = .int g/\g<=4:=by
  simp only[VL,V3,WK]at Uo
  rcases Uo with rfl|rfl
  ·exact⟨0,rfl,by omega⟩
  ·exact⟨4,rfl,by omega⟩
 refine hN _ _ (ak fun N hN=>?_)
 walk_at "x"
 refine J8 (m:=many) D3 (by omega) (by omega) fun r4 S4 a0 a1 D4 O4=>?_
 obtain⟨mm,em⟩:∃mm:Nat,1+r4=(mm:Int):=⟨(1+r4).toNat,by omega⟩
 dsimp only
 rw[em]
 have QH:=O4 _ _ Tt Rt hpl
 refine hN _ _ (ak fun N hN=>?_)
 walk_at "x"
 refine⟨by omega,by omega,?_⟩
 rw[Z1]
 have hjl:(ns.take j).length<=8:=by rw[WS];omega
 refine kn (fun done ys S'=>∃ds:List (Str×Bd),ys=ds.map gZ/\ds.length=done.length/\ds.map Prod.fst=(ns.drop g).take done.length/\done.length<=mm/\(∀q∈ds,q.2.good (ns.take j) []/\q.2.dep<=6/\q.2.size<=60/\q.2.J3+q.2.J6<=1000)/\Ko S' d l/\LU d l S4 S') ⟨[],rfl,rfl,rfl,Ws _,by simp,D4,.refl⟩ ?_ ?_ ?_
 ·rintro done ys S' ⟨ds,rfl,e,_,hd,_⟩
  exact⟨trivial,bh (by rw[VI,e];omega)⟩
 ·rintro done x rest ys S' K e ⟨ds,rfl,e2,e3,hd,hc,D',O'⟩ hK
  obtain⟨rfl,hi⟩:=BZ e
  walk_at "x"
  try simp only[bN,WB]
  have hp':=O' _ _ QH Rt hpl
  simp only[hp']
  have hlt:g+done.length < ns.length:=by omega
  have hat:KN (ns.map PV.str) ((g:Int)+(done.length:Int))=some (.str ns[g+done.length]):=by
   have:((g:Int)+(done.length:Int))=((g+done.length:Nat):Int):=by omega
   rw[this]
   exact Fd (by rw[V2,V8 hlt];rfl)
  rw[hat]
  dsimp only
  refine⟨G7 (by omega) (by omega),RL D' (by omega) (by omega) (by omega) fun t S5 tg td tz tz2 tp D5 Vb=>?_⟩
  have tp':t.J3+t.J6<=1000:=by
   have hb:Int.fdiv 24 (mm:Int)<=24:=by
    rw[Int.fdiv_eq_ediv_of_nonneg _ (by omega)]
    exact ZD _ (by decide)
   rcases tp with h|h<;>omega
  refine hK _ _ ⟨ds++[(ns[g+done.length],t)],by simp[gZ],by simp[e2],?_,by rw[VH];exact hi,fun y hy=>?_,D5,O'.trans Vb⟩
  ·rw[We,e3,VH,V0,W3,ZU,V8 hlt]
   rfl
  ·rcases VO.mp hy with hy|hy
   ·exact hc y hy
   ·rw[VN.mp hy];exact⟨tg,td,tz,tp'⟩
 rintro ys S5 ⟨ds,rfl,e,ef,_,hds,D5,O5⟩
 rw[fQ]at e ef
 intro p6 Up
 refine hN _ _ ?_
 walk_at "x"
 rw[aa]
 dsimp only
 have sub:∀q∈ds,q.1∈ns:=fun q hq=>by
  have:q.1∈ds.map Prod.fst:=VW.mpr ⟨q,hq,rfl⟩
  rw[ef]at this
  exact List.mem_of_mem_drop (ZH this)
 refine k (ns.take j) ds _ ⟨⟨by omega,by omega,fun z hz=>hw z (ZH hz),by simp,fun q hq=>hw _ (sub q hq),fun q hq=>(hds q hq).1,fun q hq=>by have:=(hds q hq).2.1;omega,fun q hq=>(hds q hq).2.2.1⟩,hnd.sublist (Z0 _ _),by rw[ef];exact hnd.sublist ((Z0 _ _).trans (List.drop_sublist _ _)),fun q hq=>(hds q hq).2.1⟩ (by omega) (by omega) hjl (fun q hq=>(hds q hq).2.2.2) (D5.new Up) (O0.trans (Va.trans (O4.trans (O5.trans (.new Up)))))
structure HP(js:Zs)(ds:List (Str×Bd)):Prop extends HG js ds where
 pc:∀p∈ds,p.2.J3+p.2.J6<=1000
def PN.ok{js:Zs}{ds:List (Str×Bd)}{hs:Zs}(h:PN js ds hs)(hj:k_ js):k_ hs:=fun z hz=>hj z (h.2.2.1 z hz)
noncomputable def Bd.No:Bd->Bd | .Kf a=>a|t=>t
noncomputable def Bd.Lk(q:Qs)(t:Bd)(r:Bool):List (Bd×Bool):=(t.pr q r).filter fun p=>p.1.M4
abbrev Nb:=(Bd×Bool)×Nat
noncomputable def og(q:Qs)(t:Bd):List Nb:=(t.Lk q true).zipIdx.filter fun c=>c.1.2
noncomputable def FY(q:Qs)(c:Nb):List PV:=(c.1.1.No.ps q).map fun x=>.tup [.int (c.2:Int),x]
noncomputable def Bd.Rh(q:Qs)(t:Bd):List PV:=(og q t).flatMap (FY q)
theorem dI(q:Qs):∀(t:Bd)(r:Bool),((t.Lk q r).map fun p=>p.1.No.J3).sum=t.J6
 | .rest,_=>rfl
 | .pay _ _,_=>rfl
 | .put _ _,_=>rfl
 | .use _,_=>rfl
 | .Kf a,r=>by
  show(((Bd.Kf a,r)::a.Lk q r).map fun p=>p.1.No.J3).sum=a.J3+a.J6
  rw[VT,Z8,dI q a r];rfl
 | .J9 a b,r=>by
  show((((a.pr q r++b.pr q r).filter fun p=>p.1.M4)).map fun p=>p.1.No.J3).sum=a.J6+b.J6
  rw[Wb,We,ZS]
  have h1:=dI q a r;have h2:=dI q b r;unfold Bd.Lk at h1 h2;rw[h1,h2]
 | .Kg a b,r=>by
  show((((a.pr q r++b.pr q r).filter fun p=>p.1.M4)).map fun p=>p.1.No.J3).sum=a.J6+b.J6
  rw[Wb,We,ZS]
  have h1:=dI q a r;have h2:=dI q b r;unfold Bd.Lk at h1 h2;rw[h1,h2]
 | .Ka z m a b,r=>by
  show((((a.pr q (r&&q z)++b.pr q r).filter fun p=>p.1.M4)).map fun p=>p.1.No.J3).sum=a.J6+b.J6
  rw[Wb,We,ZS]
  have h1:=dI q a (r&&q z);have h2:=dI q b r;unfold Bd.Lk at h1 h2;rw[h1,h2]
theorem oh(q:Qs):∀(l:List (Bd×Bool))(n:Nat),(((l.zipIdx n).filter fun c=>c.1.2).flatMap (FY q)).length<=(l.map fun p=>p.1.No.J3).sum
 |[],_=>Ws _
 |p::l,n=>by
  rw[List.zipIdx_cons,VT,Z8]
  have h1:=oh q l (n+1)
  have h2:(FY q (p,n)).length<=p.1.No.J3:=by unfold FY;rw[VI];exact Bd.Ki q _
  rw[YI]
  split
  ·rw[XC,VH];omega
  ·omega
def kG{α:Type}(f:α->List PV)(xs:List α)(k:Nat):((xs.take k).flatMap f).length<=(xs.flatMap f).length:=by
 have e:xs.flatMap f=(xs.take k).flatMap f++(xs.drop k).flatMap f:=by rw[<-WZ,XY]
 rw[e,VH];omega
def Bd.P7(q:Qs)(t:Bd):(t.Rh q).length<=t.J6:=by
 have:=oh q (t.Lk q true) 0
 rw[dI]at this
 exact this
def rK{q:Qs}{t:Bd}{r:Bool}{p:Bd×Bool}(h:p∈t.Lk q r):∃a,p.1 = .Kf a:=by
 have:=(WI.mp h).2
 cases e:p.1<;>rw[e]at this<;>first|exact⟨_,rfl⟩|cases this
theorem kH(q:Qs)(js us:Zs):∀(t:Bd)(r:Bool)(p:Bd×Bool),p∈t.pr q r->(t.good js us->p.1.good js us)/\p.1.dep<=t.dep/\p.1.size<=t.size
 | .rest,r,p,h=>by rw[VN.mp h];exact⟨id,VM _,VM _⟩
 | .pay _ _,r,p,h=>by rw[VN.mp h];exact⟨id,VM _,VM _⟩
 | .put _ _,r,p,h=>by rw[VN.mp h];exact⟨id,VM _,VM _⟩
 | .use _,r,p,h=>by rw[VN.mp h];exact⟨id,VM _,VM _⟩
 | .Kf a,r,p,h=>by
  rcases VL.mp h with rfl|h
  ·exact⟨id,VM _,VM _⟩
  ·obtain⟨h1,h2,h3⟩:=kH q js us a r p h
   exact⟨fun g=>h1 g,by simp only[Bd.dep];omega,by simp only[Bd.size];omega⟩
 | .J9 a b,r,p,h=>by
  rcases VL.mp h with rfl|h
  ·exact⟨id,VM _,VM _⟩
  rcases VO.mp h with h|h
  ·obtain⟨h1,h2,h3⟩:=kH q js us a r p h
   exact⟨fun g=>h1 g.1,by simp only[Bd.dep];omega,by simp only[Bd.size];omega⟩
  ·obtain⟨h1,h2,h3⟩:=kH q js us b r p h
   exact⟨fun g=>h1 g.2,by simp only[Bd.dep];omega,by simp only[Bd.size];omega⟩
 | .Kg a b,r,p,h=>by
  rcases VL.mp h with rfl|h
  ·exact⟨id,VM _,VM _⟩
  rcases VO.mp h with h|h
  ·obtain⟨h1,h2,h3⟩:=kH q js us a r p h
   exact⟨fun g=>h1 g.1,by simp only[Bd.dep];omega,by simp only[Bd.size];omega⟩
  ·obtain⟨h1,h2,h3⟩:=kH q js us b r p h
   exact⟨fun g=>h1 g.2,by simp only[Bd.dep];omega,by simp only[Bd.size];omega⟩
 | .Ka z m a b,r,p,h=>by
  rcases VL.mp h with rfl|h
  ·exact⟨id,VM _,VM _⟩
  rcases VO.mp h with h|h
  ·obtain⟨h1,h2,h3⟩:=kH q js us a _ p h
   exact⟨fun g=>h1 g.2.2.2.1,by simp only[Bd.dep];omega,by simp only[Bd.size];omega⟩
  ·obtain⟨h1,h2,h3⟩:=kH q js us b r p h
   exact⟨fun g=>h1 g.2.2.2.2,by simp only[Bd.dep];omega,by simp only[Bd.size];omega⟩
theorem zE:∀{xs:List Nat}{x:Nat},x∈xs->x<=xs.sum
 |y::r,x,h=>by
  rw[Z8]
  rcases VL.mp h with rfl|h
  ·omega
  ·have:=zE h;omega
def Fk{q:Qs}{js us:Zs}{t:Bd}{r:Bool}{p:Bd×Bool}(h:p∈t.Lk q r)(g:t.good js us):p.1.No.good js us/\p.1.No.dep<=t.dep/\p.1.No.J3<=t.J6:=by
 obtain⟨a,ea⟩:=rK h
 obtain⟨h1,h2,_⟩:=kH q js us t r p (WI.mp h).1
 refine⟨by have:=h1 g;rw[ea]at this ⊢;exact this,by rw[ea]at h2 ⊢;simp only[Bd.dep]at h2;simp only[Bd.No];omega,?_⟩
 rw[<-dI q t r]
 exact zE (VW.mpr ⟨p,h,rfl⟩)
theorem dA{α:Type}{g:Tg}{tc:k8}{te:bd}{σ':cG}{keep:ax->Prop}{fin:List PV->ax->Prop}{S:ax}(enc f:α->PV)(c:α->Bool)(hk:keep S):∀(xs:List α)(ys:List PV),
  (∀x∈xs,∃σ2,g.put (enc x) σ'=some σ2/\(∀K:Bool->ax->Prop,K (c x) S->tc σ2 S K eE)/\(c x=true->∀Q:bc,Q (f x) S->te σ2 S Q eE))->ys.length+xs.length<=sizeLine->fin (ys++(xs.filter c).map f) S->cJ g tc te σ' keep fin (xs.map enc) ys S
 |[],ys,_,hl,hf=>⟨hk,by simpa using hl,by simpa using hf⟩
 |x::r,ys,h,hl,hf=>by
  obtain⟨σ2,e,h1,h2⟩:=h x (by simp)
  refine⟨hk,by simp at hl;omega,?_⟩
  rw[e]
  refine h1 _ ?_
  by_cases hc:c x=true
  ·rw[if_pos hc]
   refine h2 hc _ (dA enc f c hk r (ys++[f x]) (fun y hy=>h y (by simp[hy])) (by simp at hl ⊢;omega) ?_)
   rw[Wj hc]at hf
   simpa using hf
  ·rw[if_neg hc]
   refine dA enc f c hk r ys (fun y hy=>h y (by simp[hy])) (by simp at hl;omega) ?_
   rw[W0 hc]at hf
   exact hf
def kI{α:Type}(enc:α->PV)(xs:List α):L3.aV (xs.map enc)=xs.zipIdx.map fun c=>.tup [.int (c.2:Int),enc c.1]:=by
 unfold L3.aV
 rw[List.mapIdx_eq_zipIdx_map,List.zipIdx_map,V9]
 rfl
noncomputable def zF(c:Nb):PV:=.tup [.int (c.2:Int),c.1.1.No.pv]
abbrev oi(w:ap):Prop:=∀{S:ax}{t:Bd}{js us hs:Zs}{nm:Addr}{Q:bc}{E:bC},t.dep<=6->t.size<=900->t.good js us->k_ js->k_ hs->S nm=some (.lst (hs.map PV.str))->
  (∀p S',S p=none->Ext S S'->S' p=some (.lst ((og (mq hs) t).map zF))->Q (.ref p) S')->w [t.pv,.ref nm] S Q E
def OC{xp:ap}(N6:lO 6 xp):oi (aP 3 (du xp)):=by
 intro S t js us hs nm Q E hd hz hg hj hh hn k
 unfold du
 refine bT ?_
 rw[show am 3 [t.pv,.ref nm]=[some t.pv,some (.ref nm),none] from rfl]
 refine ak fun N hN=>?_
 simp only[aq,aK,aJ,iG,ao,v3,lk,List.cons_append,List.nil_append]
 refine N6 hd hz hg hj hh hn fun p S1 hp X1 f1=>?_
 simp only[bF,f1]
 have hpl:=t.Lf (mq hs) true
 refine dA cZ cZ (fun p=>p.1.M4) f1 (t.pr (mq hs) true) [] (fun x hx=>⟨_,rfl,?_,fun _ Q q=>q⟩) (bt (by rw[Wn,WY,hpl];omega)) ?_
 ·intro K hK
  have e:cZ x = .tup [.tup (.str x.1.hd::x.1.tl),.bl x.2]:=by unfold cZ;rw[Bd.LY]
  simp only[aR,af,v3,lk,c3,ae,e,cQ,List.reduceReplicate,Wr,Wh,List.set_cons_zero,cv,bn,VX]
  have e2:decide (x.1.hd=("often":Str))=x.1.M4:=by cases x.1<;>simp[Bd.hd,aG,Bd.M4]
  rw[e2]
  exact hK
 intro p2 hp2
 rw[Wm]
 have X2:Ext S1 (JZ S1 p2 (.lst ((t.Lk (mq hs) true).map cZ))):=.new hp2
 have f2:(JZ S1 p2 (.lst ((t.Lk (mq hs) true).map cZ))) p2=some (.lst ((t.Lk (mq hs) true).map cZ)):=aa
 show N _ (JZ S1 p2 (.lst ((t.Lk (mq hs) true).map cZ)))
 generalize JZ S1 p2 (.lst ((t.Lk (mq hs) true).map cZ))=S2 at X2 f2
 refine hN _ _ ?_
 simp only[ar,aK,dR,v3,lk,List.set_cons_zero,List.set_cons_succ,f2]
 rw[kI]
 have hol:(t.Lk (mq hs) true).length<=900:=VU (W7 _ _) (by rw[hpl];exact hz)
 refine dA (fun c:Nb=>.tup [.int (c.2:Int),cZ c.1]) zF (fun c=>c.1.2) f2 (t.Lk (mq hs) true).zipIdx [] (fun c hc=>⟨_,rfl,?_,?_⟩) (bt (by rw[Wn,WY,Yu];omega)) ?_
 ·intro K hK
  simp only[aR,af,v3,lk,c3,ae,cZ,cQ,List.reduceReplicate,Wr,Wh,List.set_cons_zero,List.set_cons_succ,cX]
  exact hK
 ·intro hc2 Q q
  obtain⟨a,ea⟩:=rK (p:=c.1) (Xf hc)
  simp only[aC,ao,af,v3,lk,c3,ae,cZ,cQ,List.reduceReplicate,Wr,Wh,List.set_cons_zero,List.set_cons_succ,cv,cX,ea,Bd.pv]
  have:zF c = .tup [.int (c.2:Int),a.pv]:=by unfold zF;rw[ea];rfl
  rw[this]at q
  exact q
 intro p3 hp3
 rw[Wm]
 exact k p3 _ ((X1.trans X2).free hp3) ((X1.trans X2).trans (.new hp3)) aa
def Cg{S:ax}{Q:bc}:vC true .non .non S Q=Q (.bl false) S:=rfl
def Ch(q:Qs)(t:Bd)(r:Bool):(t.Lk q r).length<=t.size:=VU (W7 _ _) (Ze (t.Lf q r))
noncomputable def Bd.rws(q:Qs)(t:Bd)(r:Bool):List (Bd×Bool):=(t.pr q r).filter fun p=>p.1.Lq
noncomputable def iP(k:Nat)(l:List (Bd×Bool)):List PV:=((l.zipIdx k).filter fun c=>c.1.2).map fun c=>.int (c.2:Int)
noncomputable def Bd.O8(q:Qs)(t:Bd):List PV:=iP 0 (t.rws q true)++[.int ((t.rws q true).length:Int)]
def jc(k:Nat)(p:Bd×Bool)(l:List (Bd×Bool)):iP k (p::l)=(if p.2 then [.int (k:Int)] else [])++iP (k+1) l:=by
 unfold iP
 rw[List.zipIdx_cons,YI]
 split<;>rfl
def zG(k:Nat)(l:List (Bd×Bool)):(iP k l).length<=l.length:=by
 unfold iP
 rw[VI]
 exact VU (W7 _ _) (Ze Yu)
def Ci(q:Qs)(t:Bd)(r:Bool):(t.rws q r).length<=t.size:=VU (W7 _ _) (Ze (t.Lf q r))
abbrev lR(w:ap):Prop:=∀{S:ax}{t:Bd}{js us hs:Zs}{nm:Addr}{Q:bc}{E:bC},t.dep<=6->t.size<=900->t.good js us->k_ js->k_ hs->S nm=some (.lst (hs.map PV.str))->
  (∀S',Ext S S'->Q (.tup (t.O8 (mq hs))) S')->w [t.pv,.ref nm] S Q E
def zH{xp xh:ap}(N6:lO 6 xp)(RM:gB xh):lR (aP 4 (eO xp xh)):=by
 intro S t js us hs nm Q E hd hz hg hj hh hn k
 unfold eO
 refine bT ?_
 rw[show am 4 [t.pv,.ref nm]=[some t.pv,some (.ref nm),none,none] from rfl]
 refine ak fun N hN=>?_
 simp only[aq,aK,aJ,iG,ao,v3,lk,List.cons_append,List.nil_append]
 refine N6 hd hz hg hj hh hn fun p S1 hp X1 f1=>?_
 simp only[bF,f1]
 have hpl:=t.Lf (mq hs) true
 refine dA cZ cZ (fun p=>p.1.Lq) f1 (t.pr (mq hs) true) [] (fun x hx=>⟨_,rfl,?_,fun _ Q q=>q⟩) (bt (by rw[Wn,WY,hpl];omega)) ?_
 ·intro K hK
  simp only[aR,ab,ao,af,v3,lk,c3,ae,cZ,cQ,List.reduceReplicate,Wr,Wh,List.set_cons_zero,cv]
  exact RM hK
 intro p2 hp2
 rw[Wm]
 have X2:Ext S1 (JZ S1 p2 (.lst ((t.rws (mq hs) true).map cZ))):=.new hp2
 have f2:(JZ S1 p2 (.lst ((t.rws (mq hs) true).map cZ))) p2=some (.lst ((t.rws (mq hs) true).map cZ)):=aa
 show N _ (JZ S1 p2 (.lst ((t.rws (mq hs) true).map cZ)))
 generalize JZ S1 p2 (.lst ((t.rws (mq hs) true).map cZ))=S2 at X2 f2
 refine hN _ _ (ak fun N hN=>?_)
 simp only[aq,aK,dR,v3,lk,List.set_cons_zero,List.set_cons_succ,f2]
 rw[kI]
 have hol:(t.rws (mq hs) true).length<=900:=VU (Ci _ _ _) hz
 refine dA (fun c:Nb=>.tup [.int (c.2:Int),cZ c.1]) (fun c=>.int (c.2:Int)) (fun c=>c.1.2) f2 (t.rws (mq hs) true).zipIdx [] (fun c hc=>⟨_,rfl,?_,fun _ Q q=>q⟩) (bt (by rw[Wn,WY,Yu];omega)) ?_
 ·intro K hK
  simp only[aR,af,v3,lk,c3,ae,cZ,cQ,List.reduceReplicate,Wr,Wh,List.set_cons_zero,List.set_cons_succ,cX]
  exact hK
 intro p3 hp3
 rw[Wm]
 have X3:Ext S2 (JZ S2 p3 (.lst (iP 0 (t.rws (mq hs) true)))):=.new hp3
 have f3:(JZ S2 p3 (.lst (iP 0 (t.rws (mq hs) true)))) p3=some (.lst (iP 0 (t.rws (mq hs) true))):=aa
 have f32:=X3 _ _ f2
 show N _ (JZ S2 p3 (.lst (iP 0 (t.rws (mq hs) true))))
 generalize JZ S2 p3 (.lst (iP 0 (t.rws (mq hs) true)))=S3 at X3 f3 f32
 refine hN _ _ ?_
 simp only[ar,au,ao,af,aY,v3,lk,dg,List.set_cons_zero,List.set_cons_succ,f32,VI]
 intro p4 QH
 have n4:p3≠p4:=fun h=>by rw[h,QH]at f3;cases f3
 simp only[aN,av n4,f3,aa]
 refine⟨bt (by have:=zG 0 (t.rws (mq hs) true);rw[V0];omega),fun p5 Vc=>?_⟩
 simp only[aS,jj,aa]
 exact k _ ((X1.trans (X2.trans X3)).trans ((Ext.new QH).trans (.new Vc)))
abbrev lS(w:ap):Prop:=∀{S:ax}{js:Zs}{ds:List (Str×Bd)}{Q:bc}{E:bC},HG js ds->
  (∀hs S',PN js ds hs->Ext S S'->Q (.tup (ds.map fun p=>.tup (p.2.O8 (mq hs)))) S')->w [jv js ds] S Q E
def zI{xf xr:ap}(Mn:c_ xf)(QI:lR xr):lS (aP 2 (eP xf xr)):=by
 intro S js ds Q E hG k
 unfold eP
 refine bT ?_
 rw[show am 2 [jv js ds]=[some (.tup [.tup (js.map PV.str),.tup (ds.map gZ)]),none] from rfl]
 refine ak fun N hN=>?_
 simp only[aq,ab,ao,v3,lk]
 refine Mn hG fun nm hs S1 hnm X1 PR hf=>?_
 have hh:=hf.ok hG.jw
 refine hN _ _ ?_
 simp only[ar,au,ao,aK,aJ,af,v3,lk,c3,ae,cX,bF,List.set_cons_zero,List.set_cons_succ]
 refine kn (fun done ys S'=>Ext S1 S'/\done.length<=ds.length/\ys=(ds.take done.length).map fun p=>.tup (p.2.O8 (mq hs))) ⟨.refl,Ws _,rfl⟩ (fun done ys S' ⟨X,l,e⟩=>⟨trivial,bt (by rw[e,VI,WS];have:=hG.dl;omega)⟩) ?_ ?_
 ·rintro done x rest ys S' K e ⟨X,l,rfl⟩ hK
  have hget:(ds.map gZ)[done.length]?=some x:=by rw[e];simp
  obtain⟨p,hp,rfl⟩:∃p,ds[done.length]?=some p/\gZ p=x:=by rw[V2]at hget;exact Wg.mp hget
  have hm:=V6 hp
  have hlt:done.length < ds.length:=(V4.mp hp).1
  simp only[gZ,Tg.put,cQ,List.reduceReplicate,VT,Wr,List.cons_append,List.nil_append,List.set_cons_zero,List.set_cons_succ,lk,bN,WB,ab,ao,af,c3,v3,ae,cX,List.getElem?_cons_zero,List.getElem?_cons_succ,Option.join]
  refine QI (hG.dp p hm) (VU (hG.sz p hm) (by decide)) (hG.gd p hm) hG.jw hh (X _ _ PR) fun S2 X2=>hK _ _ ⟨X.trans X2,by rw[VH,V0];omega,?_⟩
  rw[VH,V0,W3,hp,We];rfl
 ·rintro ys S' ⟨X,_,rfl⟩ q hq
  rw[VI,WH]
  simp only[aS,jj,aa]
  exact k hs _ hf (X1.trans (X.trans (.new hq)))
end C
namespace C
open PySem L2 L3
noncomputable def Bd.mk(q:Qs):Bd->Int->List Int
 | .rest,_=>[]
 | .pay _ _,f=>[f]
 | .put _ _,f=>[f]
 | .use _,f=>[f]
 | .Kf a,f=>f::a.mk q (f+1)
 | .J9 a b,f=>a.mk q f++b.mk q (f+a.rows)
 | .Kg a b,f=>f::(a.mk q (f+1)++b.mk q (f+1+a.rows))
 | .Ka z _ a b,f=>f::((if q z then a.mk q (f+1) else [])++b.mk q (f+1+a.rows))
theorem Bd.KF(q:Qs):∀(t:Bd)(f i:Int),i∈t.mk q f->f<=i/\i < f+t.rows
 | .rest,f,i,h=>by simp[Bd.mk]at h
 | .pay _ _,f,i,h=>by simp[Bd.mk]at h;subst h;simp only[Bd.rows];omega
 | .put _ _,f,i,h=>by simp[Bd.mk]at h;subst h;simp only[Bd.rows];omega
 | .use _,f,i,h=>by simp[Bd.mk]at h;subst h;simp only[Bd.rows];omega
 | .Kf a,f,i,h=>by
  simp only[Bd.mk,VL]at h
  simp only[Bd.rows]
  rcases h with rfl|h
  ·omega
  ·have:=a.KF q _ i h;omega
 | .J9 a b,f,i,h=>by
  simp only[Bd.mk,VO]at h
  simp only[Bd.rows]
  rcases h with h|h
  ·have:=a.KF q _ i h;omega
  ·have:=b.KF q _ i h;omega
 | .Kg a b,f,i,h=>by
  simp only[Bd.mk,VL,VO]at h
  simp only[Bd.rows]
  rcases h with rfl|h|h
  ·omega
  ·have:=a.KF q _ i h;omega
  ·have:=b.KF q _ i h;omega
 | .Ka z m a b,f,i,h=>by
  simp only[Bd.mk,VL,VO]at h
  simp only[Bd.rows]
  rcases h with rfl|h|h
  ·omega
  ·split at h
   ·have:=a.KF q _ i h;omega
   ·simp at h
  ·have:=b.KF q _ i h;omega
def oj(k:Nat)(l m:List (Bd×Bool)):iP k (l++m)=iP k l++iP (k+l.length) m:=by
 unfold iP
 rw[List.zipIdx_append,Wb,We]
theorem vU:∀(l:List (Bd×Bool))(k:Nat),(∀p∈l,p.2=false)->iP k l=[]
 |[],_,_=>rfl
 |p::r,k,h=>by
  rw[jc,h p (by simp),vU r (k+1) fun x hx=>h x (by simp[hx])]
  rfl
theorem Bd.KY(q:Qs):∀(t:Bd),∀p∈t.pr q false,p.2=false
 | .rest,p,h=>by simp[Bd.pr]at h;rw[h]
 | .pay _ _,p,h=>by simp[Bd.pr]at h;rw[h]
 | .put _ _,p,h=>by simp[Bd.pr]at h;rw[h]
 | .use _,p,h=>by simp[Bd.pr]at h;rw[h]
 | .Kf a,p,h=>by
  simp only[Bd.pr,VL]at h
  rcases h with rfl|h
  ·rfl
  ·exact a.KY q p h
 | .J9 a b,p,h=>by
  simp only[Bd.pr,VL,VO]at h
  rcases h with rfl|h|h
  ·rfl
  ·exact a.KY q p h
  ·exact b.KY q p h
 | .Kg a b,p,h=>by
  simp only[Bd.pr,VL,VO]at h
  rcases h with rfl|h|h
  ·rfl
  ·exact a.KY q p h
  ·exact b.KY q p h
 | .Ka z m a b,p,h=>by
  simp only[Bd.pr,VL,VO,Bool.false_and]at h
  rcases h with rfl|h|h
  ·rfl
  ·exact a.KY q p h
  ·exact b.KY q p h
theorem Bd.Kv(q:Qs):∀(t:Bd)(r:Bool),(t.rws q r).length=t.rows
 | .rest,_=>rfl
 | .pay _ _,_=>rfl
 | .put _ _,_=>rfl
 | .use _,_=>rfl
 | .Kf a,r=>by
  have:=a.Kv q r
  unfold Bd.rws at this ⊢
  simp only[Bd.pr,Bd.rows]
  rw[Wj rfl,V1,this]
 | .J9 a b,r=>by
  have h1:=a.Kv q r
  have h2:=b.Kv q r
  unfold Bd.rws at h1 h2 ⊢
  simp only[Bd.pr,Bd.rows]
  rw[W0 (by simp[Bd.Lq]),Wb,VH,h1,h2]
 | .Kg a b,r=>by
  have h1:=a.Kv q r
  have h2:=b.Kv q r
  unfold Bd.rws at h1 h2 ⊢
  simp only[Bd.pr,Bd.rows]
  rw[Wj rfl,V1,Wb,VH,h1,h2]
 | .Ka z m a b,r=>by
  have h1:=a.Kv q (r&&q z)
  have h2:=b.Kv q r
  unfold Bd.rws at h1 h2 ⊢
  simp only[Bd.pr,Bd.rows]
  rw[Wj rfl,V1,Wb,VH,h1,h2]
theorem Bd.LZ(q:Qs):∀(t:Bd)(k:Nat),iP k (t.rws q true)=(t.mk q (k:Int)).map PV.int
 | .rest,_=>rfl
 | .pay _ _,_=>rfl
 | .put _ _,_=>rfl
 | .use _,_=>rfl
 | .Kf a,k=>by
  have e:(Bd.Kf a).rws q true=(Bd.Kf a,true)::a.rws q true:=by unfold Bd.rws;rw[Bd.pr,Wj rfl]
  rw[e,jc,a.LZ q (k+1)]
  simp[Bd.mk]
 | .J9 a b,k=>by
  have e:(Bd.J9 a b).rws q true=a.rws q true++b.rws q true:=by unfold Bd.rws;rw[Bd.pr,W0 (by simp[Bd.Lq]),Wb]
  rw[e,oj,a.Kv,a.LZ q k,b.LZ q (k+a.rows)]
  simp[Bd.mk]
 | .Kg a b,k=>by
  have e:(Bd.Kg a b).rws q true=(Bd.Kg a b,true)::(a.rws q true++b.rws q true):=by unfold Bd.rws;rw[Bd.pr,Wj rfl,Wb]
  rw[e,jc,oj,a.Kv,a.LZ q (k+1),b.LZ q (k+1+a.rows)]
  simp[Bd.mk]
 | .Ka z m a b,k=>by
  have e:(Bd.Ka z m a b).rws q true=(Bd.Ka z m a b,true)::(a.rws q (q z)++b.rws q true):=by unfold Bd.rws;rw[Bd.pr,Wj rfl,Wb,Bool.true_and]
  rw[e,jc,oj,a.Kv,b.LZ q (k+1+a.rows)]
  cases hz:q z with
  |true=>rw[a.LZ q (k+1)];simp[Bd.mk,hz]
  |false=>
   rw[vU (a.rws q false) _ fun p hp=>a.KY q p (WI.mp hp).1]
   simp[Bd.mk,hz]
inductive Rw where
 |pay (c n:Int)|put (z:Str) (m n:Int)|two (h:Bool) (a b:Int)|Ka (z:Str) (m a b:Int)
noncomputable def Rw.pv:Rw->PV
 | .pay c n=>.tup [.str "pay",cf c,.int n]
 | .put z m n=>.tup [.str "put",.str z,.int m,.int n]
 | .two h a b=>.tup [.str (if h then "either" else "often"),.int a,.int b]
 | .Ka z m a b=>.tup [.str "take",.str z,.int m,.int a,.int b]
noncomputable def Rw.asks(q:Qs)(wt:Str->Int):Rw->List (Int×Int)
 | .pay c n=>[(c,n)]
 | .put z m n=>[(wt z * m,n)]
 | .two _ a b=>[(0,b),(0,a)]
 | .Ka z m a b=>(0,b)::if q z then [(wt z * m * -1,a)] else []
def to(N j:Int):Prop:=0<=j/\j<=N
noncomputable def Rw.ok(js:Zs)(q:Qs)(N:Int):Rw->Prop
 | .pay _ n=>to N n
 | .put z m n=>z∈js/\q z=true/\1<=m/\m<=9/\to N n
 | .two _ a b=>to N a/\to N b
 | .Ka z m a b=>z∈js/\1<=m/\m<=9/\to N a/\to N b
def lU{N f n:Int}{t:Bd}(hf:to N f)(hn:to N n):to N (t.beg f n):=by
 unfold Bd.beg
 split
 ·exact hn
 ·exact hf
def mo{α:Type}{xs ys:List α}{i:Nat}{x:α}(h:xs[i]?=some x):(xs++ys)[i]?=some x:=by
 rw[Ww (V4.mp h).1];exact h
def ol{α:Type}{xs ys:List α}{i j:Nat}{x:α}(h:ys[i]?=some x)(e:j=xs.length+i):(xs++ys)[j]?=some x:=by
 subst e;rw[WA (WE _ _),Nat.add_sub_cancel_left];exact h
theorem iQ(js:Zs)(q:Qs)(N:Int):∀(t:Bd)(f n:Int),t.good js []->(∀z∈t.J7 q,q z=true)->0<=f->f+t.rows<=N->to N n->∀i∈t.mk q f,∃r:Rw,(t.rowsOf f n)[(i - f).toNat]?=some r.pv/\r.ok js q N
 | .rest,f,n,_,_,_,_,_,i,h=>by simp[Bd.mk]at h
 | .use z,f,n,g,_,_,_,_,i,h=>by cases g
 | .pay x y,f,n,g,_,_,_,hn,i,h=>by
  rw[VN.mp h,XM]
  exact⟨.pay (x * (2520 / y)) n,by simp only[Bd.rowsOf,Rw.pv,mP g];rfl,hn⟩
 | .put z m,f,n,g,hp,_,_,hn,i,h=>by
  rw[VN.mp h,XM]
  exact⟨.put z m n,rfl,g.1,hp z (by simp[Bd.J7]),g.2.1,g.2.2,hn⟩
 | .Kf a,f,n,g,hp,h0,h1,hn,i,h=>by
  simp only[Bd.rows]at h1
  rcases VL.mp h with rfl|h
  ·rw[XM]
   exact⟨.two false (a.beg (i+1) i) n,rfl,lU ⟨by omega,by omega⟩ ⟨by omega,by omega⟩,hn⟩
  ·obtain⟨r,e,o⟩:=iQ js q N a (f+1) f g hp (by omega) (by omega) ⟨by omega,by omega⟩ i h
   have:=a.KF q _ i h
   exact⟨r,by rw[Bd.rowsOf,show(i - f).toNat=(i - (f+1)).toNat+1 by omega];exact e,o⟩
 | .J9 a b,f,n,g,hp,h0,h1,hn,i,h=>by
  simp only[Bd.rows]at h1
  rcases VO.mp h with h|h
  ·obtain⟨r,e,o⟩:=iQ js q N a f (b.beg (f+a.rows) n) g.1 (fun z hz=>hp z (by simp[Bd.J7,hz])) h0 (by omega) (lU ⟨by omega,by omega⟩ hn) i h
   exact⟨r,by rw[Bd.rowsOf];exact mo e,o⟩
  ·obtain⟨r,e,o⟩:=iQ js q N b (f+a.rows) n g.2 (fun z hz=>hp z (by simp[Bd.J7,hz])) (by omega) (by omega) hn i h
   have:=b.KF q _ i h
   exact⟨r,by rw[Bd.rowsOf];exact ol e (by rw[Bd.J5];omega),o⟩
 | .Kg a b,f,n,g,hp,h0,h1,hn,i,h=>by
  simp only[Bd.rows]at h1
  rcases VL.mp h with rfl|h
  ·rw[XM]
   exact⟨.two true (a.beg (i+1) n) (b.beg (i+1+a.rows) n),rfl,lU ⟨by omega,by omega⟩ hn,lU ⟨by omega,by omega⟩ hn⟩
  ·rcases VO.mp h with h|h
   ·obtain⟨r,e,o⟩:=iQ js q N a (f+1) n g.1 (fun z hz=>hp z (by simp[Bd.J7,hz])) (by omega) (by omega) hn i h
    have:=a.KF q _ i h
    exact⟨r,by rw[Bd.rowsOf,show(i - f).toNat=(i - (f+1)).toNat+1 by omega];exact mo e,o⟩
   ·obtain⟨r,e,o⟩:=iQ js q N b (f+1+a.rows) n g.2 (fun z hz=>hp z (by simp[Bd.J7,hz])) (by omega) (by omega) hn i h
    have:=b.KF q _ i h
    exact⟨r,by rw[Bd.rowsOf,show(i - f).toNat=(i - (f+1)).toNat+1 by omega];exact ol e (by rw[Bd.J5];omega),o⟩
 | .Ka y m a b,f,n,g,hp,h0,h1,hn,i,h=>by
  simp only[Bd.rows]at h1
  rcases VL.mp h with rfl|h
  ·rw[XM]
   exact⟨.Ka y m (a.beg (i+1) n) (b.beg (i+1+a.rows) n),rfl,g.1,g.2.1,g.2.2.1,lU ⟨by omega,by omega⟩ hn,lU ⟨by omega,by omega⟩ hn⟩
  ·rcases VO.mp h with h|h
   ·by_cases hy:q y=true
    ·rw[if_pos hy]at h
     obtain⟨r,e,o⟩:=iQ js q N a (f+1) n g.2.2.2.1 (fun z hz=>hp z (by simp[Bd.J7,hz,hy])) (by omega) (by omega) hn i h
     have:=a.KF q _ i h
     exact⟨r,by rw[Bd.rowsOf,show(i - f).toNat=(i - (f+1)).toNat+1 by omega];exact mo e,o⟩
    ·rw[if_neg hy]at h;cases h
   ·obtain⟨r,e,o⟩:=iQ js q N b (f+1+a.rows) n g.2.2.2.2 (fun z hz=>hp z (by simp[Bd.J7,hz])) (by omega) (by omega) hn i h
    have:=b.KF q _ i h
    exact⟨r,by rw[Bd.rowsOf,show(i - f).toNat=(i - (f+1)).toNat+1 by omega];exact ol e (by rw[Bd.J5];omega),o⟩
def xA{js:Zs}{q:Qs}{t:Bd}(g:t.good js [])(hp:∀z∈t.J7 q,q z=true){i:Int}(h:i∈t.mk q 0):∃r:Rw,KN t.KU i=some r.pv/\r.ok js q t.rows:=by
 obtain⟨r,e,o⟩:=iQ js q t.rows t 0 t.rows g hp (by omega) (by omega) ⟨by omega,by omega⟩ i h
 have:=t.KF q 0 i h
 refine⟨r,?_,o⟩
 obtain⟨k,rfl⟩:=WG this.1
 exact bU (mo (by simpa using e))
def qm(t:Bd):KN t.KU t.rows=some (.tup [.str "end"]):=bU (ol (i:=0) rfl (by rw[Bd.J5];rfl))
noncomputable def wt(js:Zs)(ws:Zw)(z:Str):Int:=match js,ws with
 |j::js,w::ws=>if j=z then w else wt js ws z
 |_,_=>0
end C
namespace C
open PySem L2 L3 Wd
end C
namespace CL
open PySem L2 L3 Wd
open C
theorem eg(q:Qs):∀(t:Bd)(v:PV),v∈t.ps q->bO t v=true/\kB (2 ^ 60) v=true
 | .rest,v,h=>by rw[VN.mp h];exact⟨rfl,rfl⟩
 | .pay _ _,v,h=>by rw[VN.mp h];exact⟨rfl,rfl⟩
 | .put _ _,v,h=>by rw[VN.mp h];exact⟨rfl,rfl⟩
 | .use _,v,h=>by rw[VN.mp h];exact⟨rfl,rfl⟩
 | .Kf _,v,h=>by rw[VN.mp h];exact⟨rfl,rfl⟩
 | .J9 a b,v,h=>by
  unfold Bd.ps at h
  obtain⟨x,hx,hv⟩:=Wl.mp h
  obtain⟨y,hy,rfl⟩:=VW.mp hv
  obtain⟨a1,a2⟩:=eg q a x hx
  obtain⟨b1,b2⟩:=eg q b y hy
  refine⟨?_,by simp only[kB,intBs,a2,b2,XN]⟩
  rw[sZ,a1,b1]
  rfl
 | .Kg a b,v,h=>by
  unfold Bd.ps at h
  rcases VO.mp h with h|h
  ·obtain⟨x,hx,rfl⟩:=VW.mp h
   obtain⟨a1,a2⟩:=eg q a x hx
   exact⟨by rw[nV,if_pos rfl];exact a1,by simp only[kB,intBs,a2,XN];decide⟩
  ·obtain⟨x,hx,rfl⟩:=VW.mp h
   obtain⟨a1,a2⟩:=eg q b x hx
   exact⟨by rw[nV,if_neg (by decide),if_pos rfl];exact a1,by simp only[kB,intBs,a2,XN];decide⟩
 | .Ka z m a b,v,h=>by
  unfold Bd.ps at h
  rcases VO.mp h with h|h
  ·split at h
   ·obtain⟨x,hx,rfl⟩:=VW.mp h
    obtain⟨a1,a2⟩:=eg q a x hx
    exact⟨by rw[nW,if_pos rfl];exact a1,by simp only[kB,intBs,a2,XN];decide⟩
   ·cases h
  ·obtain⟨x,hx,rfl⟩:=VW.mp h
   obtain⟨a1,a2⟩:=eg q b x hx
   exact⟨by rw[nW,if_neg (by decide),if_pos rfl];exact a1,by simp only[kB,intBs,a2,XN];decide⟩
noncomputable def uY(q:Qs)(t:Bd):List (PV×Bd):=(.non,t)::(og q t).map fun c=>(.int (c.2:Int),c.1.1.No)
noncomputable def zJ(x:PV×Bd):PV:=.tup [x.1,x.2.pv]
def Cj(q:Qs)(t:Bd):(uY q t).map zJ = .tup [.non,t.pv]::(og q t).map zF:=by
 unfold uY
 rw[VT,V9]
 rfl
def rL{q:Qs}{t:Bd}{js us:Zs}(g:t.good js us){x:PV×Bd}(h:x∈uY q t):x.2.good js us/\x.2.dep<=t.dep/\x.2.J3<=t.J3+t.J6:=by
 rcases VL.mp h with rfl|h
 ·exact⟨g,VM _,WE _ _⟩
 ·obtain⟨c,hc,rfl⟩:=VW.mp h
  obtain⟨a,b,e⟩:=Fk (Xf (WI.mp hc).1) g
  exact⟨a,b,by show c.1.1.No.J3<=_;omega⟩
def xB(q:Qs)(t:Bd):(og q t).length<=t.size:=by
 unfold og
 refine VU (W7 _ _) ?_
 rw[Yu]
 exact Ch q t true
abbrev uZ(w:ap):Prop:=∀{S:ax}{t:Bd}{js us hs:Zs}{nm:Addr}{Q:bc}{E:bC},t.dep<=6->t.size<=900->t.good js us->k_ js->k_ hs->S nm=some (.lst (hs.map PV.str))->
  (∀p S',S p=none->Ext S S'->S' p=some (.lst ((uY (mq hs) t).map zJ))->Q (.ref p) S')->w [t.pv,.ref nm] S Q E
def P8{xo:ap}(OC:oi xo):uZ (aP 2 (cU xo)):=by
 intro S t js us hs nm Q E hd hz hg hj hh hn k
 unfold cU
 refine bT ?_
 rw[show am 2 [t.pv,.ref nm]=[some t.pv,some (.ref nm)] from rfl]
 simp only[ar,af,aY,aC,ab,ao,v3,c3,lk]
 intro p1 hp1
 have X1:Ext S (JZ S p1 (.lst [.tup [.non,t.pv]])):=.new hp1
 have f1:(JZ S p1 (.lst [.tup [.non,t.pv]])) p1=some (.lst [.tup [.non,t.pv]]):=aa
 generalize JZ S p1 (.lst [.tup [.non,t.pv]])=S1 at X1 f1
 refine OC hd hz hg hj hh (X1 _ _ hn) fun p2 S2 hp2 X2 f2=>?_
 simp only[aN,X2 _ _ f1,f2]
 refine⟨bt (by have:=xB (mq hs) t;simp only[List.length_cons,List.length_nil,VI];omega),fun p3 hp3=>?_⟩
 exact k p3 _ ((X1.trans X2).free hp3) (X1.trans (X2.trans (.new hp3))) (by rw[aa,Cj];rfl)
noncomputable def xC(js:Zs)(d:Nat)(x:PV×Bd)(v:PV):PV:=.tup [.int (d:Int),x.1,cf (x.2.Ky js v).1,.tup (x.2.Ky js v).es,v]
noncomputable def mI(q:Qs)(js:Zs)(d:Nat)(x:PV×Bd):List PV:=(x.2.ps q).map (xC js d x)
noncomputable def cE(q:Qs)(js:Zs)(d:Nat)(t:Bd):List PV:=(uY q t).flatMap (mI q js d)
noncomputable def FZ(q:Qs)(js:Zs)(ds:List (Str×Bd)):List PV:=ds.zipIdx.flatMap fun p=>cE q js p.2 p.1.2
def u4(q:Qs)(js:Zs)(d:Nat)(t:Bd):(cE q js d t).length<=t.J3+t.J6:=by
 unfold cE uY
 rw[XC,VH]
 have h1:(mI q js d (.non,t)).length<=t.J3:=by unfold mI;rw[VI];exact t.Ki q
 have h2:(((og q t).map fun c=>((.int (c.2:Int),c.1.1.No):PV×Bd)).flatMap (mI q js d)).length=(t.Rh q).length:=by
  unfold Bd.Rh
  rw[List.flatMap_map,YR,YR]
  congr 1
  refine Xh fun c _=>?_
  unfold mI FY
  rw[VI,VI]
 have:=t.P7 q
 omega
def jd{α:Type}(f:α->List PV){xs:List α}{k:Nat}{x:α}(h:xs[k]?=some x):(xs.take (k+1)).flatMap f=(xs.take k).flatMap f++f x:=by
 rw[W3,h,WZ]
 simp
theorem vV{α:Type}(f:α->List PV)(m:Nat):∀xs:List α,(∀x∈xs,(f x).length<=m)->(xs.flatMap f).length<=xs.length * m
 |[],_=>by simp
 |x::r,h=>by
  rw[XC,VH,V1,ZT]
  have:=h x (by simp)
  have:=vV f m r fun y hy=>h y (by simp[hy])
  omega
def rM{q:Qs}{js:Zs}{ds:List (Str×Bd)}(hP:HP js ds):(FZ q js ds).length<=1000000:=by
 unfold FZ
 refine VU (vV _ 1000 _ fun p hp=>?_) ?_
 ·have hm:=Xf hp
  exact VU (u4 q js p.2 p.1.2) (hP.pc _ hm)
 ·rw[Yu];have:=hP.dl;omega
abbrev lV(w:ap):Prop:=∀{S:ax}{js:Zs}{ds:List (Str×Bd)}{Q:bc}{E:bC},HP js ds->(∀hs S',PN js ds hs->Ext S S'->Q (.tup (FZ (mq hs) js ds)) S')->w [jv js ds] S Q E
def N8{xf xn xp xt:ap}(Mn:c_ xf)(P8:uZ xn)(Oz:iN 6 xp)(Pp:kE 6 xt):lV (aP 9 (qZ xf xn xp xt)):=by
 intro S js ds Q E hP k
 unfold qZ
 refine bT ?_
 rw[show am 9 [jv js ds]=[some (.tup [.tup (js.map PV.str),.tup (ds.map gZ)]),none,none,none,none,none,none,none,none] from rfl]
 refine ak fun N hN=>?_
 simp only[aq,ab,ao,v3,lk]
 refine Mn hP.toHG fun nm hs S1 hnm X1 PR hf=>?_
 have hh:=hf.ok hP.jw
 refine hN _ _ (ak fun N hN=>?_)
 simp only[aq,aY,ao,List.set_cons_zero,List.set_cons_succ]
 intro pf hpf
 have X2:Ext S1 (JZ S1 pf (.lst [])):=.new hpf
 have f2:(JZ S1 pf (.lst [])) pf=some (.lst []):=aa
 have QT:=X2 _ _ PR
 have OY:=X1.free hpf
 have Ri:nm≠pf:=fun h=>by rw[h,hpf]at PR;cases PR
 have RN:Ext S (JZ S1 pf (.lst [])):=X1.trans X2
 generalize JZ S1 pf (.lst [])=S2 at X2 f2 QT RN
 have tot:=rM (q:=mq hs) hP
 refine hN _ _ (ak fun N hN=>?_)
 simp only[bE,dR,af,v3,lk,c3,ae,cX]
 refine bg (fun done σ S'=>∃(x3 x4 x5 x6 x7 x8:Option PV),σ=[some (.tup [.tup (js.map PV.str),.tup (ds.map gZ)]),some (.ref nm),some (.ref pf),x3,x4,x5,x6,x7,x8]/\Ext S S'/\Lm pf S2 S'/\S' pf=some (.lst ((ds.zipIdx.take done.length).flatMap fun p=>cE (mq hs) js p.2 p.1.2))) ⟨_,_,_,_,_,_,rfl,RN,.refl,f2⟩ (fun _ _ _ _=>trivial) ?_ ?_
 ·rintro done x rest σ S3 K e ⟨x3,x4,x5,x6,x7,x8,rfl,X3,B3,f3⟩ hK
  obtain⟨y,rfl,hy⟩:=iM e
  obtain⟨⟨z,t⟩,ht,rfl⟩:∃q,ds[done.length]?=some q/\gZ q=y:=by rw[V2]at hy;exact Wg.mp hy
  have hm:(z,t)∈ds:=V6 ht
  have hgd:t.good js []:=hP.gd _ hm
  have Rs:t.dep<=6:=hP.dp _ hm
  have Pc:t.J3+t.J6<=1000:=hP.pc _ hm
  have hsz:t.size<=60:=hP.sz _ hm
  have Tu:ds.zipIdx[done.length]?=some ((z,t),done.length):=by rw[List.getElem?_zipIdx,ht];simp
  have QJ:=jd (fun p:(Str×Bd)×Nat=>cE (mq hs) js p.2 p.1.2) Tu
  have O9:((ds.zipIdx.take (done.length+1)).flatMap fun p=>cE (mq hs) js p.2 p.1.2).length<=1000000:=VU (kG _ _ _) tot
  rw[QJ,VH]at O9
  generalize (ds.zipIdx.take done.length).flatMap (fun p=>cE (mq hs) js p.2 p.1.2)=acc at f3 O9 QJ
  simp only[gZ,Tg.put,Tg.J7,List.set_cons_zero,List.set_cons_succ,aJ,ab,ao,af,v3,lk,c3,ae,cX]
  refine P8 Rs (by omega) hgd hP.jw hh (B3 _ _ QT Ri) fun pb S4 OZ X4 f4=>?_
  have Tv:pb≠pf:=fun h=>by rw[h,f3]at OZ;cases OZ
  have Vd:=X4 _ _ f3
  simp only[bF,f4]
  refine bg (fun Km σ S'=>∃(x5 x6 x7 x8:Option PV),σ=[some (.tup [.tup (js.map PV.str),.tup (ds.map gZ)]),some (.ref nm),some (.ref pf),some (.int (done.length:Int)),some (.tup [.str z,t.pv]),x5,x6,x7,x8]/\Ext S S'/\Lm pf S4 S'/\S' pf=some (.lst (acc++((uY (mq hs) t).take Km.length).flatMap (mI (mq hs) js done.length)))) ⟨_,_,_,_,rfl,X3.trans X4,.refl,by simpa using Vd⟩ (fun _ _ _ ⟨_,_,_,_,_,_,B,_⟩=>B _ _ f4 Tv) ?_ ?_
  ·rintro Km x P5 σ S5 K5 e5 ⟨x5,x6,x7,x8,rfl,X5,B5,f5⟩ Tw
   have hget:((uY (mq hs) t).map zJ)[Km.length]?=some x:=by rw[e5];simp
   obtain⟨c,hc,rfl⟩:∃c,(uY (mq hs) t)[Km.length]?=some c/\zJ c=x:=by rw[V2]at hget;exact Wg.mp hget
   obtain⟨gc,dc,pc⟩:=rL hgd (V6 hc)
   have Tx:=jd (mI (mq hs) js done.length) hc
   have Uq:(((uY (mq hs) t).take (Km.length+1)).flatMap (mI (mq hs) js done.length)).length<=(cE (mq hs) js done.length t).length:=kG _ _ _
   rw[Tx,VH]at Uq
   generalize ((uY (mq hs) t).take Km.length).flatMap (mI (mq hs) js done.length)=Ve at f5 Tx Uq
   simp only[zJ,Tg.put,Tg.J7,List.set_cons_zero,List.set_cons_succ,aJ,ab,ao,v3,lk]
   refine Oz (by omega) (by omega) gc hP.jw hh (B5 _ _ (X4 _ _ (B3 _ _ QT Ri)) Ri) fun pp S6 hpp X6 f6=>?_
   have Vf:pp≠pf:=fun h=>by rw[h,f5]at hpp;cases hpp
   have Vg:=X6 _ _ f5
   simp only[bF,f6]
   have Vh:(mI (mq hs) js done.length c).length=(c.2.ps (mq hs)).length:=VI _
   refine bg (fun Pz σ S'=>∃(x7 x8:Option PV),σ=[some (.tup [.tup (js.map PV.str),.tup (ds.map gZ)]),some (.ref nm),some (.ref pf),some (.int (done.length:Int)),some (.tup [.str z,t.pv]),some c.1,some c.2.pv,x7,x8]/\Pz.length<=(c.2.ps (mq hs)).length/\Ext S S'/\Lm pf S6 S'/\S' pf=some (.lst (acc++Ve++Pz.map (xC js done.length c)))) ⟨_,_,rfl,Ws _,X5.trans X6,.refl,by simpa using Vg⟩ (fun _ _ _ ⟨_,_,_,_,_,B,_⟩=>B _ _ f6 Vf) ?_ ?_
   ·rintro Pz v Ur σ S7 K7 e7 ⟨x7,x8,rfl,l7,X7,B7,f7⟩ Vi
    have hv:v∈c.2.ps (mq hs):=by rw[e7];simp
    have Vj:Pz.length+1<=(c.2.ps (mq hs)).length:=by rw[e7,VH,V1];omega
    obtain⟨v1,v2⟩:=eg (mq hs) c.2 v hv
    simp only[Tg.put,List.set_cons_zero,List.set_cons_succ]
    refine ak fun N7 Vk=>?_
    simp only[aq,ab,ao,af,v3,lk,c3,ae,cv]
    refine Pp (by have:=hP.jl;omega) gc v1 v2 (by omega) fun S8 X8=>?_
    refine Vk _ _ ?_
    have Vl:=X8 _ _ f7
    simp only[bm,hZ,uI,aC,ao,af,v3,lk,c3,ae,Ty.pv,cv,cX,List.set_cons_zero,List.set_cons_succ,Vl,YF,bA]
    refine⟨Wy (show _<=1000000 by simp only[VH,VI];dsimp only at O9;omega) (by decide),Vi _ _ ⟨_,_,rfl,by rw[VH];exact Vj,(X7.trans X8).put OY,(B7.trans fun a o h n=>X8 a o h).trans .upd,?_⟩⟩
    rw[aa,We,<-Xn]
    rfl
   ·rintro σ S7 ⟨x7,x8,rfl,l7,X7,B7,f7⟩
    refine Tw _ _ ⟨_,_,_,_,rfl,X7,(B5.trans fun a o h n=>X6 a o h).trans B7,?_⟩
    rw[f7,VH,V0,Tx,Xn]
    rfl
  ·rintro σ S5 ⟨x5,x6,x7,x8,rfl,X5,B5,f5⟩
   refine hK _ _ ⟨_,_,_,_,_,_,rfl,X5,(B3.trans fun a o h n=>X4 a o h).trans B5,?_⟩
   rw[f5,VI,WH,VH,V0,QJ]
   rfl
 ·rintro σ S3 ⟨x3,x4,x5,x6,x7,x8,rfl,X3,B3,f3⟩
  refine hN _ _ ?_
  walk_at "x"
  simp only[f3]
  have:(L3.aV (ds.map gZ)).length=ds.zipIdx.length:=by simp[L3.aV]
  rw[this,WH]
  exact k hs S3 hf X3
noncomputable def lp(js:Zs)(t:Bd)(v:PV):PV:=.tup [cf (t.Ky js v).1,.tup (t.Ky js v).es,v]
noncomputable def zs(js:Zs):List PV:=js.map fun _=>.int 0
def Fl(js:Zs):(List.replicate js.length [PV.int 0]).flatten=zs js:=by
 induction js with
 |nil=>rfl
 |cons j r ih=>rw[V1,Wo,Xm,ih];rfl
def Ha(js:Zs):zs js=(z0 js).es:=by
 unfold zs z0 zl Ty.es
 rw[V9]
 rfl
def zK{y z:Str}{r:Zs}(e:y≠z):(y::r).idxOf z=r.idxOf z+1:=by
 rw[List.idxOf_cons,show(y == z)=false by simpa using e]
 rfl
def Ck{js:Zs}{z:Str}{m:Int}(nd:js.Nodup)(h:z∈js):(zs js).set (js.idxOf z) (.int m)=js.map fun j=>PV.int (if j=z then m else 0):=by
 induction js with
 |nil=>cases h
 |cons j r ih=>
  by_cases e:j=z
  ·subst e
   have hn:=(WJ.mp nd).1
   rw[List.idxOf_cons_self]
   show PV.int m::zs r=_
   rw[VT,if_pos rfl]
   congr 1
   exact Xh fun x hx=>by rw[if_neg (fun e:x=j=>hn (by rw[<-e];exact hx))]
  ·have hz:z∈r:=(VL.mp h).resolve_left fun q=>e q.symm
   rw[zK e]
   show PV.int 0::(zs r).set (r.idxOf z) (.int m)=_
   rw[ih (WJ.mp nd).2 hz,VT,if_neg e]
def qo{js:Zs}{S:ax}{Q:bc}(hj:js.length<=1000)(k:∀p S',S p=none->Ext S S'->S' p=some (.lst (zs js))->Q (.ref p) S') :
  (∀p0,S p0=none->bM (.ref p0) (.int ((js.map PV.str).length:Int)) (JZ S p0 (.lst [.int 0])) Q):=by
 intro p0 hp0
 simp only[bM,aa,VI,Int.toNat_natCast]
 refine⟨by omega,by omega,bt (by simp only[List.length_singleton];omega),fun pz P9=>?_⟩
 rw[Fl]
 exact k pz _ ((Ext.new hp0).free P9) ((Ext.new hp0).trans (.new P9)) aa
def vW{n i:Nat}(h:i < n):t9 n (i:Int)=some i:=by unfold t9;rw[if_pos (by omega),if_pos (by omega)];simp
theorem om{z:Str}:∀{js:Zs},z∈js->js[js.idxOf z]?=some z/\∀j:Nat,j < js.idxOf z->js[j]?≠some z
 |[],h=>by cases h
 |y::r,h=>by
  by_cases e:y=z
  ·subst e
   rw[List.idxOf_cons_self]
   exact⟨rfl,fun j hj=>absurd hj (Nat.not_lt_zero _)⟩
  ·obtain⟨h1,h2⟩:=om ((VL.mp h).resolve_left fun q=>e q.symm)
   rw[zK e]
   refine⟨h1,fun j hj=>?_⟩
   cases j with
   |zero=>intro q;exact e (WR q)
   |succ j=>exact h2 j (Nat.lt_of_succ_lt_succ hj)
def vX{js:Zs}{z:Str}{S:ax}{Q:bc}(h:z∈js)(q:Q (.int (js.idxOf z:Nat)) S):fi (.tup (js.map PV.str)) [.str z] S Q:=by
 unfold fi
 simp only[jL]
 exact⟨js.idxOf z,(om h).1,(om h).2,q⟩
def tD{js:Zs}{z:Str}{m:Int}{S:ax}{pz:Addr}{K:ax->Prop}(nd:js.Nodup)(h:z∈js)(hp:S pz=some (.lst (zs js)))(k:K (JZ S pz (.lst (js.map fun j=>PV.int (if j=z then m else 0))))):eM (.ref pz) (.int (js.idxOf z:Nat)) (.int m) S K:=by
 have hl:js.idxOf z < (zs js).length:=by unfold zs;rw[VI];exact List.idxOf_lt_length_of_mem h
 unfold eM
 simp only[hp,vW hl]
 rw[<-Ck nd h]at k
 exact k
abbrev tE(w:ap):Prop:=∀{S:ax}{js:Zs}{t:Bd}{Q:bc}{E:bC},js.length<=1000->js.Nodup->t.good js []->t.hd ∉ (["then","either","take"]:Zs)->(∀S',Ext S S'->Q (lp js t (.tup [])) S')->w [t.pv,d9 js] S Q E
def Cl(t:Bd):∃w,KN (PV.str t.hd::t.tl) (-1)=some w:=by
 cases t<;>exact⟨_,rfl⟩
def Cm:tE (aP 3 jO):=by
 intro S js t Q E hj nd hg hn k
 unfold jO
 refine bT ?_
 rw[Bd.LY,show am 3 [.tup (.str t.hd::t.tl),d9 js]=[some (.tup (.str t.hd::t.tl)),some (.tup (js.map PV.str)),none] from rfl]
 refine ak fun N hN=>?_
 simp only[aq,af,aY,ao,au,dg,v3,c3,lk]
 refine qo hj fun pz S1 P9 X1 f1=>?_
 refine hN _ _ (ak fun N hN=>?_)
 simp only[List.set_cons_zero,List.set_cons_succ]
 have fin:∀(S2:ax)(es:List PV),Ext S S2->S2 pz=some (.lst es)->es=(t.Ky js (.tup [])).es->N [some (.tup (.str t.hd::t.tl)),some (.tup (js.map PV.str)),some (.ref pz)] S2:=by
  intro S2 es X2 f2 ee
  obtain⟨w,hw⟩:=Cl t
  refine hN _ _ ?_
  simp only[ar,aC,aY,ao,af,au,v3,lk,c3,ae,cv,hW,bX,hw,bn,VX,np]
  intro p1 hp1
  have n1:pz≠p1:=fun h=>by rw[h,hp1]at f2;cases f2
  simp only[aa]
  have hc:KN [PV.tup [.int 0,.int 1],w] (if decide (t.hd=("pay":Str))=true then 1 else 0)=some (cf (t.Ky js (.tup [])).1):=by
   by_cases h1:t.hd=("pay":Str)
   ·obtain⟨x,y,rfl⟩:=(Bd.P4 t).mp h1
    rw[if_pos (by simp[h1])]
    have hw':w = .tup [.int x,.int y]:=(WR hw).symm
    rw[hw',mP hg]
    rfl
   ·rw[if_neg (by simp[h1])]
    rw[cv,gC]
    congr 2
    cases t with
    |pay x y=>exact absurd rfl h1
    |J9 a b=>exact absurd (by simp[Bd.hd]) hn
    |Kg a b=>exact absurd (by simp[Bd.hd]) hn
    |Ka z m a b=>exact absurd (by simp[Bd.hd]) hn
    |_=>rfl
  rw[hc]
  simp only[aS,jj,av n1,f2]
  rw[ee]
  exact k _ (X2.trans (.new hp1))
 simp only[br,aR,af,v3,lk,c3,ae,cv,bn,VX,VS]
 by_cases h1:t.hd=("put":Str)
 ·rw[if_pos h1]
  obtain⟨z,m,rfl⟩:=(Bd.Ow t).mp h1
  simp only[gf,af,uL,Bd.tl,v3,lk,c3,ae,cX,vN,ao]
  refine vX hg.1 ?_
  refine tD nd hg.1 f1 ?_
  refine fin _ _ (X1.put P9) aa ?_
  exact uU js z m 0
 ·rw[if_neg h1]
  refine fin S1 _ X1 f1 ?_
  rw[Ha]
  cases t with
  |put z m=>exact absurd rfl h1
  |J9 a b=>exact absurd (by simp[Bd.hd]) hn
  |Kg a b=>exact absurd (by simp[Bd.hd]) hn
  |Ka z m a b=>exact absurd (by simp[Bd.hd]) hn
  |_=>rfl
def Fm(t:Ty)(gs:Zw):bz t.es (gs.map PV.int)=(t.2.zip gs).map fun z=>.tup [.int z.1.1,.int z.2]:=by
 unfold bz Ty.es
 rw[Zi,V9]
 rfl
noncomputable def qp(t:Ty)(gs:Zw):List PV:=(t.2.zip gs).map fun z=>.int (z.1.1 - z.2)
def Hb(js:Zs)(tk:PV)(gs:Zw):Prop:=(tk = .non/\gs=js.map fun _=>0)\/∃z m,tk = .tup [.str z,.int m]/\z∈js/\gs=js.map fun j=>if j=z then m else 0
noncomputable def Hc(x:Ty×PV):PV:=.tup [cf x.1.1,.tup x.1.es,x.2]
noncomputable def F0(gs:Zw)(i:Int)(x:Ty×PV):PV:=.tup [cf x.1.1,.tup (qp x.1 gs),.tup [.int i,x.2]]
abbrev on(w:ap):Prop:=∀{S:ax}{js:Zs}{p:Addr}{xs:List (Ty×PV)}{i:Int}{tk:PV}{gs:Zw}{Q:bc}{E:bC},js.length<=1000->js.Nodup->xs.length<=1000->(∀x∈xs,x.1.2.length=js.length)->Hb js tk gs->S p=some (.lst (xs.map Hc))->
  (∀p' S',S p'=none->Ext S S'->S' p'=some (.lst (xs.map (F0 gs i)))->Q (.ref p') S')->w [.ref p,.int i,d9 js,tk] S Q E
def Fn{xs:List PV}{S:ax}{Q:bc}:vC true (.tup xs) .non S Q=Q (.bl true) S:=rfl
def Cn:on (aP 9 fD):=by
 intro S js p xs i tk gs Q E hj nd hx hl hg hp k
 unfold fD
 refine bT ?_
 rw[show am 9 [.ref p,.int i,d9 js,tk]=[some (.ref p),some (.int i),some (.tup (js.map PV.str)),some tk,none,none,none,none,none] from rfl]
 refine ak fun N hN=>?_
 walk_at "x"
 intro pf hpf
 have X1:Ext S (JZ S pf (.lst [])):=.new hpf
 have f1:(JZ S pf (.lst [])) pf=some (.lst []):=aa
 have QG:p≠pf:=fun h=>by rw[h,hpf]at hp;cases hp
 have hp1:=X1 _ _ hp
 generalize JZ S pf (.lst [])=S1 at X1 f1 hp1
 refine hN _ _ (ak fun N hN=>?_)
 simp only[bE,aJ,v3,lk,bF,hp1]
 refine bg (fun done σ S'=>∃(x5 x6 x7 x8:Option PV),σ=[some (.ref p),some (.int i),some (.tup (js.map PV.str)),some tk,some (.ref pf),x5,x6,x7,x8]/\Ext S S'/\S' pf=some (.lst ((xs.take done.length).map (F0 gs i)))) ⟨_,_,_,_,rfl,X1,f1⟩ (fun _ _ _ ⟨_,_,_,_,_,X,_⟩=>X _ _ hp) ?_ ?_
 ·rintro done x rest σ S2 K e ⟨x5,x6,x7,x8,rfl,X2,f2⟩ hK
  have hget:(xs.map Hc)[done.length]?=some x:=by rw[e];simp
  obtain⟨y,hy,rfl⟩:∃q,xs[done.length]?=some q/\Hc q=x:=by rw[V2]at hget;exact Wg.mp hget
  have hm:=V6 hy
  have hlt:=(V4.mp hy).1
  simp only[Hc,Tg.put,Tg.J7,List.set_cons_zero,List.set_cons_succ]
  refine ak fun N2 MZ=>?_
  simp only[aq,af,aY,ao,au,dg,v3,c3,lk]
  refine qo hj fun pz S3 P9 X3 f3=>?_
  simp only[List.set_cons_zero,List.set_cons_succ]
  have nz:pz≠pf:=fun h=>by rw[h,f2]at P9;cases P9
  refine MZ _ _ (ak fun N3 Pb=>?_)
  have fin:∀S4,Ext S S4->S4 pz=some (.lst (gs.map PV.int))->S4 pf=some (.lst ((xs.take done.length).map (F0 gs i)))->N3 [some (.ref p),some (.int i),some (.tup (js.map PV.str)),some tk,some (.ref pf),some (cf y.1.1),some (.tup y.1.es),some y.2,some (.ref pz)] S4:=by
   intro S4 X4 g4 f4
   refine Pb _ _ ?_
   simp only[bm,hZ,uI,aC,ao,af,au,aK,nJ,v3,lk,f4,YF,g4]
   rw[Fm]
   have Tz:(y.1.2.zip gs).length<=1000:=by rw[XG];have:=hl y hm;omega
   refine bj (fun z:(Int×Int)×Int=>PV.tup [.int z.1.1,.int z.2]) (fun z=>.int (z.1.1 - z.2)) (keep:=fun S=>S pz=some (.lst (gs.map PV.int))) g4 (y.1.2.zip gs) [] (fun z hz=>⟨_,rfl,fun Q q=>?_⟩) (by rw[Wn,WY];exact bt Tz) fun pc Pc=>?_
   ·walk_at "x"
    exact q
   have nc:pf≠pc:=fun h=>by rw[<-h,f4]at Pc;cases Pc
   simp only[List.nil_append,aS,jj,aa,bA,av nc,f4]
   refine⟨Wy (show _<=1000000 by rw[VI,WS];omega) (by decide),hK _ _ ⟨_,_,_,_,rfl,(X4.trans (.new Pc)).put hpf,?_⟩⟩
   rw[aa,VH,V0,W3,hy,We]
   rfl
  rcases hg with⟨rfl,rfl⟩|⟨z,m,rfl,hz,rfl⟩
  ·simp only[br,aR,af,v3,lk,c3,Cg,VZ,Wx,aQ]
   refine fin S3 (X2.trans X3) ?_ (X3 _ _ f2)
   rw[f3,V9];rfl
  ·simp only[br,aR,af,v3,lk,c3,Fn,WB,gf,uL,ae,cv,cX,ao]
   refine vX hz ?_
   refine tD nd hz f3 ?_
   refine fin _ ((X2.trans X3).put (X2.free P9)) ?_ ?_
   ·rw[aa,V9];rfl
   ·rw[av (Xl nz)];exact X3 _ _ f2
 ·rintro σ S2 ⟨x5,x6,x7,x8,rfl,X2,f2⟩
  refine hN _ _ ?_
  rw[VI,WH]at f2
  walk_at "x"
  exact k pf S2 hpf X2 f2
noncomputable def Co(js:Zs)(t:Bd)(v:PV):Ty×PV:=(t.Ky js v,v)
def xD{js:Zs}{t:Ty}(h:t.2.length=js.length):qp t (js.map fun _=>0)=t.es:=by
 obtain⟨c,l⟩:=t
 have:∀(l:List (Int×Int))(js:Zs),l.length=js.length->((l.zip (js.map fun _=>(0:Int))).map fun z=>PV.int (z.1.1 - z.2))=l.map fun p=>PV.int p.1:=by
  intro l
  induction l with
  |nil=>intro js _;rfl
  |cons p r ih=>
   intro js hl
   cases js with
   |nil=>cases hl
   |cons j js=>
    simp only[VT,List.zip_cons_cons]
    rw[ih js (Zk hl),Int.sub_zero]
 exact this l js h
def xE{js:Zs}{t:Ty}{z:Str}{m:Int}(h:t.2.length=js.length):qp t (js.map fun j=>if j=z then m else 0)=(Ty.join (0,oN js z (-m) m) t).es:=by
 obtain⟨c,l⟩:=t
 have:∀(l:List (Int×Int))(js:Zs),l.length=js.length->((l.zip (js.map fun j=>if j=z then m else 0)).map fun x=>PV.int (x.1.1 - x.2))=(List.zipWith jn (oN js z (-m) m) l).map fun p=>PV.int p.1:=by
  intro l
  induction l with
  |nil=>intro js hl;cases js with
   |nil=>rfl
   |cons _ _=>cases hl
  |cons p r ih=>
   intro js hl
   cases js with
   |nil=>cases hl
   |cons j js=>
    have e:=ih js (Zk hl)
    unfold oN at e ⊢
    simp only[VT,List.zip_cons_cons,List.zipWith_cons_cons]
    rw[e]
    congr 2
    unfold jn
    by_cases hz:j=z
    ·simp only[if_pos hz];omega
    ·simp only[if_neg hz];omega
 exact this l js h
def Cp{js:Zs}{a t:Bd}{q:Qs}{i:Int}{gs:Zw}(ha:∀v∈a.ps q,qp (a.Ky js v) gs=(t.Ky js (.tup [.int i,v])).es/\(a.Ky js v).1=(t.Ky js (.tup [.int i,v])).1) :
  ((a.ps q).map (Co js a)).map (F0 gs i)=((a.ps q).map fun x=>.tup [.int i,x]).map (lp js t):=by
 rw[V9,V9]
 refine Xh fun v hv=>?_
 obtain⟨h1,h2⟩:=ha v hv
 show F0 gs i (Co js a v)=lp js t (.tup [.int i,v])
 unfold F0 Co lp
 dsimp only
 rw[h1,h2]
abbrev eR(n:Nat)(w:ap):Prop:=∀{S:ax}{js hs:Zs}{t:Bd}{hl:Addr}{Q:bc}{E:bC},js.length<=1000->js.Nodup->t.dep<=n->t.J3<=1000->t.good js []->k_ js->k_ hs->S hl=some (.lst (hs.map PV.str))->
  (∀p S',S p=none->Ext S S'->S' p=some (.lst ((t.ps (mq hs)).map (lp js t)))->Q (.ref p) S')->w [t.pv,d9 js,.ref hl] S Q E
section
variable {js hs:Zs}{n:Nat}{s0 xb:ap}
def side{S:ax}{a t:Bd}{hl:Addr}{i:Int}{tk:PV}{gs:Zw}{Q:bc}{E:bC}(ih:eR n s0)(Nc:on xb)(hj:js.length<=1000)(nd:js.Nodup)(hd:a.dep<=n)(hc:a.J3<=1000)(hg:a.good js [])(jk:k_ js)(hk:k_ hs)(hp:S hl=some (.lst (hs.map PV.str)))(g:Hb js tk gs)
  (ha:∀v∈a.ps (mq hs),qp (a.Ky js v) gs=(t.Ky js (.tup [.int i,v])).es/\(a.Ky js v).1=(t.Ky js (.tup [.int i,v])).1)
  (k:∀p S',S p=none->Ext S S'->S' p=some (.lst (((a.ps (mq hs)).map fun x=>.tup [.int i,x]).map (lp js t)))->Q (.ref p) S') :
  s0 [a.pv,d9 js,.ref hl] S (fun v S1=>xb [v,.int i,d9 js,tk] S1 Q E) E:=by
 refine ih hj nd hd hc hg jk hk hp fun p1 S1 hp1 X1 f1=>?_
 have e1:(a.ps (mq hs)).map (lp js a)=((a.ps (mq hs)).map (Co js a)).map Hc:=by rw[V9];rfl
 rw[e1]at f1
 refine Nc hj nd (by rw[VI];exact VU (a.Ki _) hc) ?_ g f1 fun p2 S2 hp2 X2 f2=>?_
 ·intro x hx
  obtain⟨v,hv,rfl⟩:=VW.mp hx
  exact(bG a v hg (eg _ a v hv).1).1
 ·rw[Cp ha]at f2
  exact k p2 S2 (X1.free hp2) (X1.trans X2) f2
end
noncomputable abbrev zL(t:Bd)(js:Zs)(hl:Addr)(x3 x4 x5 x6 x7:Option PV):cG:=[some (.tup (.str t.hd::t.tl)),some (d9 js),some (.ref hl),x3,x4,x5,x6,x7]
def Cq{xp xb xo s0:ap}(Kt:fS xp)(Nc:on xb)(Re:tE xo)(n:Nat)(ih:eR n s0):eR (n+1) (aP 8 (fE xp xb xo s0)):=by
 intro S js hs t hl Q E hj nd hd hc hg jk hk hp k
 unfold fE
 refine bT ?_
 rw[Bd.LY,show am 8 [.tup (.str t.hd::t.tl),d9 js,.ref hl]=zL t js hl none none none none none from rfl]
 refine ak fun N hN=>?_
 unfold zL
 simp only[br,aR,af,v3,lk,c3,ae,cv,bn,VX,VS]
 by_cases h1:t.hd=("then":Str)
 ·rw[if_pos h1]
  cases t with
  |J9 a b=>
   simp only[Bd.dep]at hd
   simp only[Bd.J3]at hc
   have p1:=a.MM
   have p2:=b.MM
   have ca:a.J3<=1000:=VU (Nat.le_mul_of_pos_right _ p2) hc
   have cb:b.J3<=1000:=VU (Zj _ p1) hc
   have tot:((Bd.J9 a b).ps (mq hs)).length<=1000:=VU ((Bd.J9 a b).Ki _) hc
   refine ak fun N2 MZ=>?_
   walk_at "x"
   intro pf hpf
   have X1:Ext S (JZ S pf (.lst [])):=.new hpf
   have f1:(JZ S pf (.lst [])) pf=some (.lst []):=aa
   generalize JZ S pf (.lst [])=S1 at X1 f1
   refine MZ _ _ (ak fun N3 Pb=>?_)
   simp only[Bd.hd,Bd.tl,bE,aJ,ab,ao,af,v3,lk,c3,ae,cX]
   refine ih hj nd (by omega) ca hg.1 jk hk (X1 _ _ hp) fun pa S2 hpa X2 f2=>?_
   have Vm:pa≠pf:=fun h=>by rw[h,f1]at hpa;cases hpa
   simp only[bF,f2]
   let acc:Nat->List PV:=fun m=>((a.ps (mq hs)).take m).flatMap fun x=>((b.ps (mq hs)).map fun y=>PV.tup [x,y]).map (lp js (.J9 a b))
   have TB:∀m,(acc m).length<=1000:=fun m=>by
    refine VU (kG (fun x=>((b.ps (mq hs)).map fun y=>PV.tup [x,y]).map (lp js (.J9 a b))) (a.ps (mq hs)) m) ?_
    rw[<-YK,VI]
    exact tot
   refine bg (fun done σ S'=>∃(x4 x5 x6:Option PV),σ=[some (.tup [.str "then",a.pv,b.pv]),some (d9 js),some (.ref hl),some (.ref pf),x4,x5,x6,none]/\Ext S S'/\Lm pf S2 S'/\S' pf=some (.lst (acc done.length))) ⟨_,_,_,rfl,X1.trans X2,.refl,X2 _ _ f1⟩ (fun _ _ _ ⟨_,_,_,_,_,B,_⟩=>B _ _ f2 Vm) ?_ ?_
   ·rintro done x rest σ S3 K e ⟨x4,x5,x6,rfl,X3,B3,f3⟩ hK
    have hget:((a.ps (mq hs)).map (lp js a))[done.length]?=some x:=by rw[e];simp
    obtain⟨v,hv,rfl⟩:∃q,(a.ps (mq hs))[done.length]?=some q/\lp js a q=x:=by rw[V2]at hget;exact Wg.mp hget
    have Us:=bG a v hg.1 (eg _ a v (V6 hv)).1
    have RO:acc (done.length+1)=acc done.length++((b.ps (mq hs)).map fun y=>PV.tup [v,y]).map (lp js (.J9 a b)):=jd _ hv
    have la:=TB (done.length+1)
    rw[RO,VH,VI,VI]at la
    simp only[Tg.put,List.set_cons_zero,List.set_cons_succ,bE,aJ,ab,ao,af,v3,lk,c3,ae,vN]
    refine ih hj nd (by omega) cb hg.2 jk hk (X3 _ _ hp) fun pb S4 OZ X4 f4=>?_
    have Tv:pb≠pf:=fun h=>by rw[h,f3]at OZ;cases OZ
    simp only[bF,f4]
    refine bg (fun Km σ S'=>∃(x5 x6:Option PV),σ=[some (.tup [.str "then",a.pv,b.pv]),some (d9 js),some (.ref hl),some (.ref pf),some (lp js a v),x5,x6,none]/\Km.length<=(b.ps (mq hs)).length/\Ext S S'/\Lm pf S4 S'/\S' pf=some (.lst (acc done.length++(((b.ps (mq hs)).take Km.length).map fun y=>PV.tup [v,y]).map (lp js (.J9 a b))))) ⟨_,_,rfl,Ws _,X3.trans X4,.refl,by simpa using X4 _ _ f3⟩ (fun _ _ _ ⟨_,_,_,_,_,B,_⟩=>B _ _ f4 Tv) ?_ ?_
    ·rintro Km x P5 σ S5 K5 e5 ⟨x5,x6,rfl,l5,X5,B5,f5⟩ Tw
     have QU:((b.ps (mq hs)).map (lp js b))[Km.length]?=some x:=by rw[e5];simp
     obtain⟨y,hy,rfl⟩:∃q,(b.ps (mq hs))[Km.length]?=some q/\lp js b q=x:=by rw[V2]at QU;exact Wg.mp QU
     have Vn:=bG b y hg.2 (eg _ b y (V6 hy)).1
     have hlt:=(V4.mp hy).1
     simp only[Tg.put,List.set_cons_zero,List.set_cons_succ]
     refine ak fun N5 Vo=>?_
     simp only[aq,au,ao,aK,ki,af,v3,lk,c3,ae,lp,cX]
     rw[zt]
     have Tz:((a.Ky js v).2.zip (b.Ky js y).2).length<=1000:=by rw[XG,Us.1];omega
     refine bj (fun z:(Int×Int)×(Int×Int)=>PV.tup [.int z.1.1,.int z.2.1]) (fun z=>.int (z.1.1+z.2.1)) (keep:=fun _=>True) trivial _ [] (fun z hz=>⟨_,rfl,fun Q q=>?_⟩) (by rw[Wn,WY];exact bt Tz) fun pc Pc=>?_
     ·walk_at "x"
      exact q
     have nc:pf≠pc:=fun h=>by rw[<-h,f5]at Pc;cases Pc
     simp only[List.nil_append,aS,jj,aa,List.set_cons_zero,List.set_cons_succ]
     rw[vO]
     have X6:Ext S (JZ S5 pc (.lst ((a.Ky js v).join (b.Ky js y)).es)):=X5.trans (.new Pc)
     have B6:Lm pf S5 (JZ S5 pc (.lst ((a.Ky js v).join (b.Ky js y)).es)):=fun c o h _=>Ext.new Pc _ _ h
     have f6:(JZ S5 pc (.lst ((a.Ky js v).join (b.Ky js y)).es)) pf=_:=(av nc).trans f5
     generalize JZ S5 pc (.lst ((a.Ky js v).join (b.Ky js y)).es)=S6 at X6 B6 f6
     refine Vo _ _ ?_
     simp only[bm,hZ,uI,aC,ao,ab,af,v3,lk,c3,ae,cv,vN,f6,YF]
     refine Kt Us.2.1 Vn.2.1 ?_
     simp only[bA,f6]
     refine⟨Wy (show _<=1000000 by simp only[VH,VI,WS];omega) (by decide),Tw _ _ ⟨_,_,rfl,by rw[VH,V0];omega,X6.put hpf,(B5.trans B6).trans .upd,?_⟩⟩
     rw[aa,VH,V0,W3,hy,We,We,Xn]
     rfl
    ·rintro σ S5 ⟨x5,x6,rfl,l5,X5,B5,f5⟩
     rw[VI,WH]at f5
     refine hK _ _ ⟨_,_,_,rfl,X5,(B3.trans fun c o h _=>X4 c o h).trans B5,?_⟩
     rw[f5,VH,V0,RO]
   ·rintro σ S3 ⟨x4,x5,x6,rfl,X3,B3,f3⟩
    refine Pb _ _ ?_
    walk_at "x"
    refine k pf S3 hpf X3 ?_
    rw[f3,VI]
    show some (SO.lst (((a.ps (mq hs)).take _).flatMap _))=_
    rw[WH,<-YK]
    rfl
  |_=>simp[Bd.hd,aG]at h1
 rw[if_neg h1]
 simp only[aQ]
 refine hN _ _ (ak fun N hN=>?_)
 have Rj:∀(a:Bd) (i:Int) (t':Bd),a.good js []->(∀v,t'.Ky js (.tup [.int i,v])=a.Ky js v)->∀v∈a.ps (mq hs),qp (a.Ky js v) (js.map fun _=>0)=(t'.Ky js (.tup [.int i,v])).es/\(a.Ky js v).1=(t'.Ky js (.tup [.int i,v])).1:=fun a i t' ga e v hv=>by
  rw[e v,xD (bG a v ga (eg _ a v hv).1).1]
  exact⟨rfl,rfl⟩
 simp only[br,aR,af,v3,lk,c3,ae,cv,bn,VX,VS]
 by_cases h2:t.hd=("either":Str)
 ·rw[if_pos h2]
  cases t with
  |Kg a b=>
   simp only[Bd.dep]at hd
   simp only[Bd.J3]at hc
   refine ak fun N2 MZ=>?_
   simp only[Bd.hd,Bd.tl,aq,ab,ao,af,v3,lk,c3,ae,cX]
   refine side (t:=.Kg a b) (tk:=.non) ih Nc hj nd (by omega) (by omega) hg.1 jk hk hp (.inl ⟨rfl,rfl⟩) (Rj a 0 (.Kg a b) hg.1 fun v=>by rw[gE,if_pos rfl]) fun p1 S1 hp1 X1 f1=>?_
   refine MZ _ _ ?_
   simp only[ar,ab,ao,af,v3,lk,c3,ae,vN,List.set_cons_zero,List.set_cons_succ]
   refine side (t:=.Kg a b) (tk:=.non) ih Nc hj nd (by omega) (by omega) hg.2 jk hk (X1 _ _ hp) (.inl ⟨rfl,rfl⟩) (Rj b 1 (.Kg a b) hg.2 fun v=>by rw[gE,if_neg (by decide)]) fun p2 S2 hp2 X2 f2=>?_
   simp only[aN,X2 _ _ f1,f2]
   have l1:=a.Ki (mq hs)
   have l2:=b.Ki (mq hs)
   refine⟨bt (by simp only[VI];omega),fun p3 hp3=>?_⟩
   refine k p3 _ ((X1.trans X2).free hp3) (X1.trans (X2.trans (.new hp3))) ?_
   rw[aa,<-We]
   rfl
  |_=>simp[Bd.hd,aG]at h2
 rw[if_neg h2]
 simp only[aQ]
 refine hN _ _ (ak fun N hN=>?_)
 simp only[br,aR,af,v3,lk,c3,ae,cv,bn,VX,VS]
 by_cases h3:t.hd=("take":Str)
 ·rw[if_pos h3]
  cases t with
  |Ka z m a b=>
   simp only[Bd.dep]at hd
   simp only[Bd.J3]at hc
   obtain⟨gz,gm,gm2,ga,gb⟩:=hg
   refine ak fun N2 MZ=>?_
   walk_at "x"
   intro p0 hp0
   have X0:Ext S (JZ S p0 (.lst [])):=.new hp0
   have f0:(JZ S p0 (.lst [])) p0=some (.lst []):=aa
   generalize JZ S p0 (.lst [])=S0 at X0 f0
   refine MZ _ _ (ak fun N3 Pb=>?_)
   have fin:∀(p1:Addr)(S1:ax)(xs:List PV),Ext S S1->S1 p1=some (.lst (xs.map (lp js (.Ka z m a b))))->xs=(if mq hs z then (a.ps (mq hs)).map (fun x=>.tup [.int 0,x]) else [])->N3 [some (.tup (.str (Bd.Ka z m a b).hd::(Bd.Ka z m a b).tl)),some (d9 js),some (.ref hl),none,none,none,none,some (.ref p1)] S1:=by
    intro p1 S1 xs X1 f1 ex
    refine Pb _ _ ?_
    simp only[Bd.hd,Bd.tl,ar,ab,ao,af,v3,lk,c3,ae,Jy,List.set_cons_zero,List.set_cons_succ]
    refine side (t:=.Ka z m a b) (tk:=.non) ih Nc hj nd (by omega) (by omega) gb jk hk (X1 _ _ hp) (.inl ⟨rfl,rfl⟩) (Rj b 1 (.Ka z m a b) gb fun v=>by rw[gF,if_neg (by decide)]) fun p2 S2 hp2 X2 f2=>?_
    simp only[aN,X2 _ _ f1,f2]
    have l1:=a.Ki (mq hs)
    have l2:=b.Ki (mq hs)
    have lx:xs.length<=a.J3:=by rw[ex];split<;>simp;exact l1
    refine⟨bt (by simp only[VI];omega),fun p3 hp3=>?_⟩
    refine k p3 _ ((X1.trans X2).free hp3) (X1.trans (X2.trans (.new hp3))) ?_
    rw[aa,<-We,ex]
    rfl
   simp only[br,aR,af,v3,lk,c3,ae,cX,Bd.tl,List.set_cons_zero,List.set_cons_succ]
   refine eB (X0 _ _ hp) (jk z gz) hk ?_
   rw[VX]
   by_cases hz:z∈hs
   ·rw[Wu hz]
    simp only[WB,aq,cP,xS,t_,uG,ab,ao,af,v3,lk,c3,ae,Ib,List.set_cons_zero,List.set_cons_succ]
    refine side (t:=.Ka z m a b) (tk:=.tup [.str z,.int m]) ih Nc hj nd (by omega) (by omega) ga jk hk (X0 _ _ hp) (.inr ⟨z,m,rfl,gz,rfl⟩) (fun v hv=>?_) fun p1 S1 hp1 X1 f1=>?_
    ·rw[gF,if_pos rfl,xE (bG a v ga (eg _ a v hv).1).1]
     exact⟨rfl,(Int.zero_add _).symm⟩
    ·exact fin p1 S1 _ (X0.trans X1) f1 (by rw[if_pos (show mq hs z=true from Wu hz)])
   ·rw[Wc hz]
    simp only[VZ,Wx,aQ]
    exact fin p0 S0 [] X0 f0 (by rw[if_neg (by show ¬mq hs z=true;unfold mq;simp[hz])])
  |_=>simp[Bd.hd,aG]at h3
 rw[if_neg h3]
 simp only[aQ]
 refine hN _ _ ?_
 have hn:t.hd ∉ (["then","either","take"]:Zs):=by
  simp only[VL,V3,WK,not_or]
  exact⟨h1,h2,h3⟩
 have hps:t.ps (mq hs)=[.tup []]:=by
  cases t with
  |J9 a b=>exact absurd rfl h1
  |Kg a b=>exact absurd rfl h2
  |Ka z m a b=>exact absurd rfl h3
  |_=>rfl
 simp only[ar,aY,ab,ao,v3,lk]
 rw[<-Bd.LY]
 refine Re hj nd hg hn fun S1 X1 p1 hp1=>?_
 refine k p1 _ (X1.free hp1) (X1.trans (.new hp1)) ?_
 rw[aa,hps]
 rfl
noncomputable def Fo(js:Zs)(n:Nat)(a:Bd)(v:PV):PV:=.tup [.int (n:Int),cf (a.Ky js v).1,.tup (a.Ky js v).es,v]
noncomputable def Ie(q:Qs)(js:Zs)(c:Nb):List PV:=(c.1.1.No.ps q).map (Fo js c.2 c.1.1.No)
noncomputable def rls(q:Qs)(js:Zs)(l:List (Bd×Bool))(n:Nat):List PV:=((l.zipIdx n).filter fun c=>c.1.2).flatMap (Ie q js)
def vY(q:Qs)(js:Zs)(l m:List (Bd×Bool))(n:Nat):rls q js (l++m) n=rls q js l n++rls q js m (n+l.length):=by
 unfold rls
 rw[List.zipIdx_append,Wb,WZ,Nat.add_comm n]
 try rfl
def rN(q:Qs)(js:Zs)(t:Bd)(r:Bool)(n:Nat):(rls q js (t.Lk q r) n).length<=t.J6:=by
 have h:=oh q (t.Lk q r) n
 rw[dI]at h
 refine VU (Ze ?_) h
 unfold rls
 rw[YR,YR]
 congr 1
 refine Xh fun c _=>?_
 unfold Ie FY
 rw[VI,VI]
def mr{n:Nat}(h:n<=1000000):n<=sizeLine:=VU h (by decide)
abbrev kJ(n:Nat)(w:ap):Prop:=∀{S:ax}{js hs:Zs}{t:Bd}{hl nb:Addr}{c:Nat}{r:Bool}{Q:bc}{E:bC},js.length<=1000->js.Nodup->t.dep<=n->t.dep<=6->t.J6<=1000->t.good js []->k_ js->k_ hs->S hl=some (.lst (hs.map PV.str))->hl≠nb->S nb=some (.lst [.int (c:Int)])->
  (∀p S',S p=none->Lm nb S S'->S' nb=some (.lst [.int ((c+(t.Lk (mq hs) r).length:Nat):Int)])->S' p=some (.lst (rls (mq hs) js (t.Lk (mq hs) r) c))->Q (.ref p) S')->w [t.pv,d9 js,.ref hl,.ref nb,.bl r] S Q E
def Fp{xp s0:ap}(Po:eR 6 xp)(n:Nat)(ih:kJ n s0):kJ (n+1) (aP 6 (fF xp s0)):=by
 intro S js hs t hl nb c r Q E hj nd hd RP hc hg jk hk hp hne hb k
 unfold fF
 refine bT ?_
 rw[Bd.LY,show am 6 [.tup (.str t.hd::t.tl),d9 js,.ref hl,.ref nb,.bl r]=[some (.tup (.str t.hd::t.tl)),some (d9 js),some (.ref hl),some (.ref nb),some (.bl r),none] from rfl]
 refine ak fun N hN=>?_
 walk_at "x"
 intro pf hpf
 have QG:pf≠nb:=fun h=>by rw[h,hb]at hpf;cases hpf
 have X0:Ext S (JZ S pf (.lst [])):=.new hpf
 have f0:(JZ S pf (.lst [])) pf=some (.lst []):=aa
 generalize JZ S pf (.lst [])=S0 at X0 f0
 refine hN _ _ (ak fun N hN=>?_)
 -- what is found,then one more call behind it
 have tail:∀(a:Bd) (r':Bool) (c':Nat) (p1:Addr) (S1:ax) (xs:List PV),a.dep<=n->a.dep<=6->a.J6<=1000->a.good js []->xs.length<=1000->Lm nb S S1->S1 nb=some (.lst [.int (c':Int)])->p1≠nb->S1 p1=some (.lst xs)->
   xs++rls (mq hs) js (a.Lk (mq hs) r') c'=rls (mq hs) js (t.Lk (mq hs) r) c->c'+(a.Lk (mq hs) r').length=c+(t.Lk (mq hs) r).length->
   s0 [a.pv,d9 js,.ref hl,.ref nb,.bl r'] S1 (fun v S2=>aN (.ref p1) v S2 fun w S3=>Q w S3) eE:=by
  intro a r' c' p1 S1 xs da TC ca ga lx B1 b1 Vp f1 e1 e2
  refine ih hj nd da TC ca ga jk hk (B1 _ _ hp hne) hne b1 fun p2 S2 hp2 B2 b2 f2=>?_
  simp only[aN,B2 _ _ f1 Vp,f2]
  refine⟨mr (by have:=rN (mq hs) js a r' c';omega),fun p3 hp3=>?_⟩
  have n3:nb≠p3:=fun h=>by rw[<-h,b2]at hp3;cases hp3
  refine k p3 _ ?_ ((B1.trans B2).trans fun x o h _=>Ext.new hp3 _ _ h) (by rw[av n3,b2,e2]) (by rw[aa,e1])
  cases e:S p3 with
  |none=>rfl
  |some o=>have:=(B1.trans B2) _ _ e (Xl n3);rw[hp3]at this;cases this
 have B0:Lm nb S S0:=fun x o h _=>X0 x o h
 simp only[br,aR,af,v3,lk,c3,ae,cv,bn,VX,VS]
 by_cases h1:t.hd=("often":Str)
 ·rw[if_pos h1]
  cases t with
  |Kf a=>
   simp only[Bd.dep]at hd RP
   have hrc:a.J3+a.J6<=1000:=hc
   refine ak fun N2 MZ=>?_
   simp only[gf,af,v3,lk,c3,ae,X0 _ _ hb,cv,aN,eM]
   have hx:t9 [PV.int (c:Int)].length 0=some 0:=rfl
   have eo:(Bd.Kf a).Lk (mq hs) r=(.Kf a,r)::a.Lk (mq hs) r:=rfl
   rw[show((c:Int)+1)=((c+1:Nat):Int) by omega]
   simp only[hx,List.set_cons_zero]
   have B1:Lm nb S (JZ S0 nb (.lst [.int ((c+1:Nat):Int)])):=B0.trans .upd
   have b1:(JZ S0 nb (.lst [.int ((c+1:Nat):Int)])) nb=some (.lst [.int ((c+1:Nat):Int)]):=aa
   have f1:(JZ S0 nb (.lst [.int ((c+1:Nat):Int)])) pf=some (.lst []):=by rw[av QG];exact f0
   generalize JZ S0 nb (.lst [.int ((c+1:Nat):Int)])=S1 at B1 b1 f1
   refine MZ _ _ (ak fun N3 Pb=>?_)
   have fin:∀(p1:Addr)(S2:ax)(xs:List PV),xs.length<=1000->Lm nb S S2->S2 nb=some (.lst [.int ((c+1:Nat):Int)])->p1≠nb->S2 p1=some (.lst xs)->xs=(if r=true then (a.ps (mq hs)).map (Fo js c a) else [])->N3 [some (.tup (.str (Bd.Kf a).hd::(Bd.Kf a).tl)),some (d9 js),some (.ref hl),some (.ref nb),some (.bl r),some (.ref p1)] S2:=by
    intro p1 S2 xs lx B2 b2 n1 f2 ex
    refine Pb _ _ ?_
    simp only[Bd.hd,Bd.tl,ar,ab,ao,af,v3,lk,c3,ae,cX]
    refine tail a r (c+1) p1 S2 xs (by omega) (by omega) (by omega) hg lx B2 b2 n1 f2 ?_ ?_
    ·rw[eo,ex,show rls (mq hs) js ((Bd.Kf a,r)::a.Lk (mq hs) r) c=rls (mq hs) js [(Bd.Kf a,r)] c++rls (mq hs) js (a.Lk (mq hs) r) (c+1)from vY _ _ [(Bd.Kf a,r)] _ c]
     congr 1
     cases r
     ·rfl
     ·show _=(Ie (mq hs) js ((Bd.Kf a,true),c))++[]
      rw[Wh]
      rfl
    ·rw[eo,V1];omega
   simp only[br,aR,v3,lk]
   cases r with
   |false=>
    simp only[VZ,Wx,aQ]
    exact fin pf S1 [] (by simp) B1 b1 QG f1 rfl
   |true=>
    simp only[WB,aq,aK,aJ,ab,ao,af,v3,lk,c3,ae,cX,Bd.tl,cQ,List.reduceReplicate,VT,Wr,List.cons_append,List.nil_append]
    refine Po hj nd (by omega) (by omega) hg jk hk (B1 _ _ hp hne) fun p1 S2 hp1 X2 f2=>?_
    have b2:=X2 _ _ b1
    simp only[bF,f2]
    refine bj (lp js a) (Fo js c a) f2 (a.ps (mq hs)) [] (fun v hv=>⟨_,rfl,fun Q q=>?_⟩) (by rw[Wn,WY];exact bt (VU (a.Ki _) (by omega))) fun p2 hp2=>?_
    ·simp only[af,aC,ao,v3,lk,c3,ae,List.set_cons_zero,List.set_cons_succ,b2,cv,b3,f_,lp,aN]
     rw[show((c+1:Nat):Int) - 1=(c:Int) by omega]
     exact⟨bt (by simp),q⟩
    have n2:nb≠p2:=fun h=>by rw[<-h,b2]at hp2;cases hp2
    rw[Wm]
    exact fin p2 _ _ (by rw[VI];exact VU (a.Ki _) (by omega)) ((B1.trans fun x o h _=>X2 x o h).trans fun x o h _=>Ext.new hp2 _ _ h) (by rw[av n2];exact b2) (Xl n2) aa rfl
  |_=>simp[Bd.hd,aG]at h1
 rw[if_neg h1]
 simp only[aQ]
 refine hN _ _ (ak fun N hN=>?_)
 simp only[br,aR,af,v3,lk,c3,ae,cv,aC,ao]
 rw[show([PV.str "then",PV.str "either",PV.str "take"]:List PV)=(["then","either","take"]:Zs).map PV.str from rfl]
 refine bR t.NN iL ?_
 rw[VX]
 by_cases h3:t.hd∈(["then","either","take"]:Zs)
 ·rw[Wu h3]
  simp only[WB]
  have both:∀(a b:Bd) (hd2:List PV) (r':Bool),(.str t.hd::t.tl)=hd2++[a.pv,b.pv]->a.dep<=n->b.dep<=n->a.dep<=6->b.dep<=6->a.J6+b.J6<=1000->a.good js []->b.good js []->t.Lk (mq hs) r=a.Lk (mq hs) r'++b.Lk (mq hs) r->
    (∀(S1:ax) (Q1:bc),S1 hl=some (.lst (hs.map PV.str))->Q1 (.bl r') S1->cO (v3 4) (oV (af (bn true) (af ae (v3 0) (c3 (.int 0))) (c3 (.str "take"))) (af (jC false) (af ae (v3 0) (c3 (.int 1))) (v3 2))) [some (.tup (.str t.hd::t.tl)),some (d9 js),some (.ref hl),some (.ref nb),some (.bl r),some (.ref pf)] S1 Q1 eE)->
    ah (aq 5 (ab s0 [af ae (v3 0) (hW bX (c3 (.int 2))),v3 1,v3 2,v3 3,cO (v3 4) (oV (af (bn true) (af ae (v3 0) (c3 (.int 0))) (c3 (.str "take"))) (af (jC false) (af ae (v3 0) (c3 (.int 1))) (v3 2)))]))
     (ar (af aN (v3 5) (ab s0 [af ae (v3 0) (hW bX (c3 (.int 1))),v3 1,v3 2,v3 3,v3 4]))) { nx:=N,rt:=Q,ex:=eE } [some (.tup (.str t.hd::t.tl)),some (d9 js),some (.ref hl),some (.ref nb),some (.bl r),some (.ref pf)] S0:=by
   intro a b hd2 r' e1 da db TC Vq Sg ga gb et hr
   have sb:KN (.str t.hd::t.tl) (-1)=some b.pv:=by rw[e1];have:=i_ (a:=a.pv) (b:=b.pv) (hd:=hd2) (i:=1) (.inr rfl);simpa using this
   have sa:KN (.str t.hd::t.tl) (-2)=some a.pv:=by rw[e1];have:=i_ (a:=a.pv) (b:=b.pv) (hd:=hd2) (i:=0) (.inl rfl);simpa using this
   refine ak fun N2 MZ=>?_
   simp only[aq,ao,ab,af,hW,bX,v3,lk,c3,ae,sa]
   refine hr S0 _ (X0 _ _ hp) ?_
   refine ih hj nd da TC (by omega) ga jk hk (X0 _ _ hp) hne (X0 _ _ hb) fun p1 S1 hp1 B1 b1 f1=>?_
   have n1:p1≠nb:=fun h=>by rw[h,X0 _ _ hb]at hp1;cases hp1
   refine MZ _ _ ?_
   simp only[ar,ao,ab,af,hW,bX,v3,lk,c3,ae,sb,List.set_cons_zero,List.set_cons_succ]
   refine tail b r _ p1 S1 _ db Vq (by omega) gb (by have:=rN (mq hs) js a r' c;omega) (B0.trans B1) b1 n1 f1 ?_ ?_
   ·rw[et,vY]
   ·rw[et,VH];omega
  have app:∀{l m:List (Bd×Bool)},(l++m).filter (fun p=>p.1.M4)=l.filter (fun p=>p.1.M4)++m.filter (fun p=>p.1.M4):=Wb ..
  cases t with
  |J9 a b=>
   simp only[Bd.dep]at hd RP
   simp only[Bd.J6]at hc
   refine both a b [.str "then"] r rfl (by omega) (by omega) (by omega) (by omega) (by omega) hg.1 hg.2 app fun S1 Q1 h1 q1=>?_
   have en:decide (("then":Str) = "take")=false:=by decide
   simp only[cO,oV,af,v3,lk,c3,ae,cv,bn,Bd.hd,en,Wt,WL,WB]
   cases r
   ·exact q1
   ·exact q1
  |Kg a b=>
   simp only[Bd.dep]at hd RP
   simp only[Bd.J6]at hc
   refine both a b [.str "either"] r rfl (by omega) (by omega) (by omega) (by omega) (by omega) hg.1 hg.2 app fun S1 Q1 h1 q1=>?_
   have en:decide (("either":Str) = "take")=false:=by decide
   simp only[cO,oV,af,v3,lk,c3,ae,cv,bn,Bd.hd,en,Wt,WL,WB]
   cases r
   ·exact q1
   ·exact q1
  |Ka z m a b=>
   simp only[Bd.dep]at hd RP
   simp only[Bd.J6]at hc
   refine both a b [.str "take",.str z,.int m] (r&&mq hs z) rfl (by omega) (by omega) (by omega) (by omega) (by omega) hg.2.2.2.1 hg.2.2.2.2 app fun S1 Q1 h1 q1=>?_
   simp only[cO,oV,af,v3,lk,c3,ae,cv,cX,bn,Bd.hd,Bd.tl,Xp,Wt,W5,VZ,Wx]
   cases r
   ·exact q1
   ·simp only[WB]
    refine eB h1 (jk z hg.1) hk ?_
    rw[VX]
    exact q1
  |_=>simp[Bd.hd,aG]at h3
 ·rw[Wc h3]
  simp only[VZ,Wx,aQ]
  refine hN _ _ ?_
  simp only[ar,v3,lk]
  have e0:t.Lk (mq hs) r=[]:=by cases t<;>first|rfl|exact absurd rfl h1|simp[Bd.hd]at h3
  refine k pf S0 hpf B0 ?_ ?_
  ·rw[e0];exact X0 _ _ hb
  ·rw[e0];exact f0
def tF(q:Qs)(js:Zs)(d:Nat)(t:Bd):(((og q t).map fun c=>((.int (c.2:Int),c.1.1.No):PV×Bd)).flatMap (mI q js d))=(rls q js (t.Lk q true) 0).map fun r=>match r with | .tup xs=>.tup (.int (d:Int)::xs)|r=>r:=by
 unfold rls og
 rw[List.flatMap_map,YK]
 congr 1
 funext c
 unfold mI Ie
 rw[V9]
 rfl
abbrev oq(w:ap):Prop:=∀{S:ax}{js:Zs}{ds:List (Str×Bd)}{Q:bc}{E:bC},HP js ds->js.Nodup->(∀p S',S p=none->Ext S S'->S' p=some (.lst (FZ (mq (held ds js.length)) js ds))->Q (.ref p) S')->w [jv js ds] S Q E
def Cr{xf xp xr:ap}(Mn:lP xf)(Po:eR 6 xp)(Oi:kJ 6 xr)(hok:∀{js:Zs}{ds:List (Str×Bd)},HP js ds->k_ (held ds js.length)):oq (aP 5 (gu xf xp xr)):=by
 intro S js ds Q E hP nd k
 unfold gu
 refine bT ?_
 rw[show am 5 [jv js ds]=[some (.tup [.tup (js.map PV.str),.tup (ds.map gZ)]),none,none,none,none] from rfl]
 refine ak fun N hN=>?_
 simp only[aq,ab,ao,v3,lk]
 refine Mn hP.toHG fun nm S1 hnm X1 PR=>?_
 have hh:=hok hP
 generalize held ds js.length=hs at k PR hh
 have jl:js.length<=1000:=by have:=hP.jl;omega
 refine hN _ _ (ak fun N hN=>?_)
 simp only[aq,aY,ao,List.set_cons_zero,List.set_cons_succ]
 intro pf hpf
 have X2:Ext S1 (JZ S1 pf (.lst [])):=.new hpf
 have f2:(JZ S1 pf (.lst [])) pf=some (.lst []):=aa
 have QT:=X2 _ _ PR
 have OY:=X1.free hpf
 have Ri:nm≠pf:=fun h=>by rw[h,hpf]at PR;cases PR
 have RN:Ext S (JZ S1 pf (.lst [])):=X1.trans X2
 generalize JZ S1 pf (.lst [])=S2 at X2 f2 QT RN
 have tot:=rM (q:=mq hs) hP
 refine hN _ _ (ak fun N hN=>?_)
 simp only[bE,dR,af,v3,lk,c3,ae,cX]
 refine bg (fun done σ S'=>∃(x3 x4:Option PV),σ=[some (.tup [.tup (js.map PV.str),.tup (ds.map gZ)]),some (.ref nm),some (.ref pf),x3,x4]/\Ext S S'/\Lm pf S2 S'/\S' pf=some (.lst ((ds.zipIdx.take done.length).flatMap fun p=>cE (mq hs) js p.2 p.1.2))) ⟨_,_,rfl,RN,.refl,f2⟩ (fun _ _ _ _=>trivial) ?_ ?_
 ·rintro done x rest σ S3 K e ⟨x3,x4,rfl,X3,B3,f3⟩ hK
  obtain⟨y,rfl,hy⟩:=iM e
  obtain⟨⟨z,t⟩,ht,rfl⟩:∃q,ds[done.length]?=some q/\gZ q=y:=by rw[V2]at hy;exact Wg.mp hy
  have hm:(z,t)∈ds:=V6 ht
  have hgd:t.good js []:=hP.gd _ hm
  have Rs:t.dep<=6:=hP.dp _ hm
  have Pc:t.J3+t.J6<=1000:=hP.pc _ hm
  have Tu:ds.zipIdx[done.length]?=some ((z,t),done.length):=by rw[List.getElem?_zipIdx,ht];simp
  have QJ:=jd (fun p:(Str×Bd)×Nat=>cE (mq hs) js p.2 p.1.2) Tu
  have O9:((ds.zipIdx.take (done.length+1)).flatMap fun p=>cE (mq hs) js p.2 p.1.2).length<=1000000:=VU (kG _ _ _) tot
  rw[QJ,VH]at O9
  have Ut:cE (mq hs) js done.length t=mI (mq hs) js done.length (.non,t)++(((og (mq hs) t).map fun c=>((.int (c.2:Int),c.1.1.No):PV×Bd)).flatMap (mI (mq hs) js done.length)):=by
   unfold cE uY
   rw[XC]
  dsimp only at O9 QJ
  rw[Ut,VH]at O9
  rw[Ut]at QJ
  have TD:=WW List.length (tF (mq hs) js done.length t)
  rw[VI]at TD
  generalize (ds.zipIdx.take done.length).flatMap (fun p=>cE (mq hs) js p.2 p.1.2)=acc at f3 O9 QJ
  simp only[gZ,Tg.put,Tg.J7,List.set_cons_zero,List.set_cons_succ]
  have Vr:=B3 _ _ QT Ri
  refine ak fun N3 Pb=>?_
  simp only[bm,hZ,uI,f3,YF,aK,aJ,ab,ao,af,v3,lk,c3,ae,cv,cX,cQ,List.reduceReplicate,VT,Wr,List.cons_append,List.nil_append]
  refine Po jl nd Rs (by omega) hgd hP.jw hh Vr fun p1 S4 hp1 X4 f4=>?_
  simp only[bF,f4]
  refine bj (lp js t) (xC js done.length (.non,t)) f4 (t.ps (mq hs)) [] (fun v hv=>⟨_,rfl,fun Q q=>?_⟩) (by rw[Wn,WY];exact bt (VU (t.Ki _) (by omega))) fun p2 hp2=>?_
  ·simp only[af,aC,ao,v3,lk,c3,List.set_cons_zero,List.set_cons_succ,lp,aN]
   exact⟨bt (by simp),q⟩
  have n2:pf≠p2:=fun h=>by rw[<-h,X4 _ _ f3]at hp2;cases hp2
  simp only[List.nil_append,bI,aa,av n2,X4 _ _ f3]
  have Vs:(t.ps (mq hs)).map (xC js done.length (.non,t))=mI (mq hs) js done.length (.non,t):=rfl
  rw[Vs]
  refine⟨mr (by omega),?_⟩
  have X5:Ext S (JZ (JZ S4 p2 (.lst (mI (mq hs) js done.length (.non,t)))) pf (.lst (acc++mI (mq hs) js done.length (.non,t)))):=(X3.trans (X4.trans (.new hp2))).put OY
  have B5:Lm pf S2 (JZ (JZ S4 p2 (.lst (mI (mq hs) js done.length (.non,t)))) pf (.lst (acc++mI (mq hs) js done.length (.non,t)))):=(B3.trans fun x o h _=>(X4.trans (.new hp2)) x o h).trans .upd
  have f5:(JZ (JZ S4 p2 (.lst (mI (mq hs) js done.length (.non,t)))) pf (.lst (acc++mI (mq hs) js done.length (.non,t)))) pf=some (.lst (acc++mI (mq hs) js done.length (.non,t))):=aa
  generalize JZ (JZ S4 p2 (.lst (mI (mq hs) js done.length (.non,t)))) pf (.lst (acc++mI (mq hs) js done.length (.non,t)))=S5 at X5 B5 f5
  refine Pb _ _ ?_
  simp only[bm,hZ,uI,f5,YF,aK,aJ,ab,ao,aY,af,v3,lk,c3,ae,cv,cX,cQ,List.reduceReplicate,VT,Wr,List.cons_append,List.nil_append]
  intro pb OZ
  have Vt:pf≠pb:=fun h=>by rw[<-h,f5]at OZ;cases OZ
  have Vu:nm≠pb:=fun h=>by rw[<-h,B5 _ _ QT Ri]at OZ;cases OZ
  have X6:Ext S5 (JZ S5 pb (.lst [.int 0])):=.new OZ
  have b6:(JZ S5 pb (.lst [.int 0])) pb=some (.lst [.int ((0:Nat):Int)]):=aa
  generalize JZ S5 pb (.lst [.int 0])=S6 at X6 b6
  refine Oi jl nd Rs Rs (by omega) hgd hP.jw hh (X6 _ _ (B5 _ _ QT Ri)) Vu b6 fun p3 S7 hp3 B7 b7 f7=>?_
  have Uu:=B7 _ _ (X6 _ _ f5) Vt
  simp only[bF,f7]
  have Vv:∀r∈rls (mq hs) js (t.Lk (mq hs) true) 0,∃xs,r = .tup xs/\xs.length=4:=fun r hr=>by
   obtain⟨c,_,hc⟩:=Wl.mp hr
   obtain⟨v,_,rfl⟩:=VW.mp hc
   exact⟨_,rfl,rfl⟩
  have lrl:=rN (mq hs) js t true 0
  rw[<-List.map_id (rls (mq hs) js (t.Lk (mq hs) true) 0)]at f7 ⊢
  refine bj id (fun r=>match r with | .tup xs=>.tup (.int (done.length:Int)::xs)|r=>r) (keep:=fun S=>S p3=some (.lst ((rls (mq hs) js (t.Lk (mq hs) true) 0).map id))) f7 _ [] (fun v hv=>⟨_,rfl,fun Q q=>?_⟩) (by rw[Wn,WY];exact bt (by omega)) fun p4 QH=>?_
  ·obtain⟨xs,rfl,hx⟩:=Vv v hv
   simp only[af,aC,ao,v3,lk,c3,List.set_cons_zero,List.set_cons_succ,id,aN]
   exact⟨bt (by simp[hx]),q⟩
  have n4:pf≠p4:=fun h=>by rw[<-h,Uu]at QH;cases QH
  simp only[List.nil_append,bI,aa,av n4,Uu]
  rw[<-tF]
  refine⟨mr (by rw[VH];omega),hK _ _ ⟨_,_,rfl,?_,?_,?_⟩⟩
  ·refine Ext.put (fun x o h=>?_) OY
   have n8:x≠pb:=fun e=>by rw[e]at h;have:=X5 _ _ h;rw[OZ]at this;cases this
   exact Ext.new QH _ _ (B7 _ _ (X6 _ _ (X5 _ _ h)) n8)
  ·refine(B5.trans fun x o h _=>?_).trans .upd
   have n8:x≠pb:=fun e=>by rw[e,OZ]at h;cases h
   exact Ext.new QH _ _ (B7 _ _ (X6 _ _ h) n8)
  ·rw[aa,VH,V0,QJ,Xn]
 ·rintro σ S3 ⟨x3,x4,rfl,X3,B3,f3⟩
  refine hN _ _ ?_
  have:(L3.aV (ds.map gZ)).length=ds.zipIdx.length:=by simp[L3.aV]
  rw[this,WH]at f3
  walk_at "x"
  exact k pf S3 OY X3 f3
end CL
namespace CW
open PySem L2 L3 Wd
open C
structure Sz(i:Int):Prop where
 lt:i.natAbs < 2 ^ 4000
def vZ{k:Int}{n:Nat}(h:k.natAbs < 2 ^ n):Builtin.Int.intBits k<=n:=by
 unfold Builtin.Int.intBits
 split
 ·exact Ws _
 ·rename_i hz
  have h0:k.natAbs≠0:=by intro e;apply hz;simp;omega
  have:k.natAbs.log2 < n:=(Nat.log2_lt h0).mpr h
  omega
def Sz.mul{a b:Int}(h:Sz a)(g:Sz b):IntMulOk a b:=by
 have h1:=vZ h.lt
 have h2:=vZ g.lt
 unfold IntMulOk
 have e:Builtin.Int.intTooBig ((Builtin.Int.intBits a:Int)+(Builtin.Int.intBits b:Int))=false:=by
  unfold Builtin.Int.intTooBig
  have:(bitsLine:Int)=2 ^ 27:=rfl
  simp only[gt_iff_lt,XE,ZC]
  omega
 rw[e];simp
def Sz.div{a b:Int}(h:b≠0)(g:Sz b):mj a b:=⟨h,Xy g.lt (Xe (by decide) (by decide))⟩
def Sz.le{a b:Int}(h:Sz b)(g:a.natAbs<=b.natAbs):Sz a:=⟨Wy g h.lt⟩
noncomputable def oO:Nat:=2 ^ 2000
def v5:0 < oO:=Nat.pow_pos (by decide)
def Fr:oO < 2 ^ 4000:=Xe (by decide) (by decide)
def dh{a:Int}(h:a.natAbs<=oO):Sz a:=⟨Wy h Fr⟩
def Ft{a b:Int}(h:a.natAbs<=oO)(g:b.natAbs < oO):Sz (a * b):=by
 refine⟨?_⟩
 rw[ZW]
 have h1:=Nat.mul_lt_mul_of_le_of_lt h g v5
 have e:oO * oO=2 ^ 4000:=by unfold oO;rw[<-Nat.pow_add]
 rw[e]at h1
 exact h1
noncomputable def cq(Q n:Int):PV:=.tup [.int (M3.aW n Q),.int (M3.aE n Q)]
def tG{Q R n m:Int}(hQ:0 < Q)(hR:0 < R)(e:n * R=m * Q):cq Q n=cq R m:=by
 have L:=M3.i3 (t:=n) (b:=Q) (by omega)
 have w:=M3.cg (t:=n) (b:=Q) (by omega)
 obtain⟨e1,e2⟩:=M3.dj (x:=m) (y:=R) L hR (by
  refine M3.yG (g:=Q) (by omega) ?_
  rw[Y5,<-e,Y5 n,<-w]
  grind)
 unfold cq
 rw[e1,e2]
def Fu{Q n m:Int}(hQ:0 < Q)(e:cq Q n=cq Q m):n=m:=by
 unfold cq at e
 injection e with e
 injection e with e1 e
 injection e with e2 _
 injection e1 with e1
 injection e2 with e2
 have w1:=M3.cg (t:=n) (b:=Q) (by omega)
 have w2:=M3.cg (t:=m) (b:=Q) (by omega)
 have L:=(M3.i3 (t:=n) (b:=Q) (by omega)).pos
 refine M3.yG (g:=M3.aE n Q) (by omega) ?_
 rw[<-w1,e1,w2,e2]
def Fv{x y:Int}(L:M3.FU x y):PV.tup [.int x,.int y]=cq y x:=by
 obtain⟨e1,e2⟩:=M3.yF L
 unfold cq;rw[e1,e2]
def Fw(n:Int):PV.tup [.int n,.int 1]=cq 1 n:=Fv ⟨by decide,Int.gcd_one_right _⟩
def Fx{Q n:Int}(hQ:0 < Q):(M3.aW n Q < 0↔n < 0)/\(0 < M3.aW n Q↔0 < n)/\(M3.aW n Q=0↔n=0):=by
 have w:=M3.cg (t:=n) (b:=Q) (by omega)
 have L:=(M3.i3 (t:=n) (b:=Q) (by omega)).pos
 have a1:M3.aW n Q < 0->n < 0:=fun h=>by
  have:=Int.mul_neg_of_neg_of_pos h hQ
  rw[w]at this
  exact Int.not_le.mp fun hn=>by have:=Xd hn (show 0<=M3.aE n Q by omega);omega
 have a2:0 < M3.aW n Q->0 < n:=fun h=>by
  have:=ZL h hQ
  rw[w]at this
  exact Int.not_le.mp fun hn=>by have:=Xd (show 0 <= -n by omega) (show 0<=M3.aE n Q by omega);rw[ZJ]at this;omega
 have a3:M3.aW n Q=0->n=0:=fun h=>by
  rw[h,Int.zero_mul]at w
  rcases Int.mul_eq_zero.mp w.symm with h|h
  ·exact h
  ·omega
 refine⟨⟨a1,fun h=>?_⟩,⟨a2,fun h=>?_⟩,⟨a3,fun h=>?_⟩⟩<;>omega
structure Fq(Q n:Int):Prop where
 q0:0 < Q
 q1:Q.natAbs < oO
 n1:n.natAbs < oO
def Fq.sz{Q n:Int}(h:Fq Q n):(M3.aW n Q).natAbs<=n.natAbs/\(M3.aE n Q).natAbs<=Q.natAbs/\0 < M3.aE n Q:=by
 have q0:=h.q0
 have:=M3.sG (t:=n) (b:=Q) (T:=n.natAbs) (B:=Q.natAbs) (by omega) (by omega) (by omega) (by omega) (by omega) (by omega) (by omega)
 omega
abbrev v6(w:ap):Prop:=∀{S:ax}{a b:Int}{Q:bc}{E:bC},0<=b->Q (.int (Int.gcd a b)) S->w [.int a,.int b] S Q E
def u5:v6 (aP 3 iC):=by
 intro S a b Q E hb k
 unfold iC
 refine bT ?_
 rw[show am 3 [PV.int a,PV.int b]=[some (.int a),some (.int b),none] from rfl]
 refine ak fun N hN=>?_
 refine⟨fun n σ S'=>S'=S/\∃(x y:Int) (z:Option PV),σ=[some (.int x),some (.int y),z]/\0<=y/\Int.gcd x y=Int.gcd a b/\y.toNat=n,⟨_,rfl,a,b,none,rfl,hb,rfl,rfl⟩,?_⟩
 rintro n σ S' ⟨rfl,x,y,z,rfl,hy,hg,rfl⟩
 walk_at "x"
 simp only[Wt,Z7,XE]
 split
 ·rename_i hp
  refine⟨fun σ' Os=>Os=S'/\∃(x' y':Int) (z':Option PV),σ'=[some (.int x'),some (.int y'),z']/\0<=y'/\Int.gcd x' y'=Int.gcd a b/\y'.toNat < y.toNat,?_,?_⟩
  ·rintro σ' Os ⟨rfl,x',y',z',rfl,h2,h3,h4⟩
   exact⟨_,h4,rfl,x',y',z',rfl,h2,h3,rfl⟩
  ·have e:x.fmod y=x % y:=iJ hy
   have l1:=YZ x (b:=y) hp
   have l2:=Yt x (show 0 < y by omega)
   refine⟨hp,rfl,y,x.fmod y,_,rfl,by omega,?_,by omega⟩
   rw[M3.nh];exact hg
 ·rename_i hp
  have QP:y=0:=by omega
  subst QP
  refine hN _ _ ?_
  walk_at "x"
  have RG:(if x < 0 then -x else x)=(Int.gcd a b:Int):=by
   rw[<-hg,ZX]
   split<;>omega
  rw[RG]
  exact k
abbrev qq(w:ap):Prop:=∀{S:ax}{t b:Int}{Q:bc}{E:bC},0 < b->Sz b->Q (cq b t) S->w [.int t,.int b] S Q E
def zM{xc:ap}(Lz:v6 xc):qq (aP 3 (eN xc)):=by
 intro S t b Q E hb hs k
 unfold eN
 refine bT ?_
 rw[show am 3 [PV.int t,PV.int b]=[some (.int t),some (.int b),none] from rfl]
 refine ak fun N hN=>?_
 walk_at "x"
 refine Lz (by omega) (hN _ _ (ak fun N hN=>?_))
 walk_at "x"
 rw[if_neg (by rw[VS];omega)]
 refine hN _ _ ?_
 walk_at "x"
 have gp:(0:Int) < (Int.gcd t b:Int):=Yy.mpr (M3.fY (by omega))
 have gl:=M3.uz (t:=t) (b:=b) (by omega)
 have cd:∀z,mj z (Int.gcd t b:Int):=fun z=>Sz.div (by omega) (hs.le (by omega))
 refine⟨cd _,cd _,?_⟩
 have d1:=(M3.m_ (t:=t) (b:=b) (by omega))
 rw[if_neg (by omega)]at d1
 rw[d1.1,d1.2]
 exact k
abbrev Cs(w:ap):Prop:=qq w
def Ct{xl:ap}(h:i7 xl):Cs xl:=fun hb hs k=>h hb (Xy hs.lt (Xe (by decide) (by decide))) k
def zN{Q n m:Int}(h:Fq Q n)(g:Fq Q m):0 < M3.aE n Q * M3.aE m Q/\Sz (M3.aE n Q * M3.aE m Q)/\cq (M3.aE n Q * M3.aE m Q) (M3.aW n Q * M3.aE m Q+M3.aW m Q * M3.aE n Q)=cq Q (n+m):=by
 have a:=h.sz
 have c:=g.sz
 have q0:=h.q0
 have p:=ZL a.2.2 c.2.2
 refine⟨p,Ft (by have:=h.q1;omega) (by have:=h.q1;omega),tG p q0 ?_⟩
 have w1:=M3.cg (t:=n) (b:=Q) (by omega)
 have w2:=M3.cg (t:=m) (b:=Q) (by omega)
 calc (M3.aW n Q * M3.aE m Q+M3.aW m Q * M3.aE n Q) * Q=(M3.aW n Q * Q) * M3.aE m Q+(M3.aW m Q * Q) * M3.aE n Q:=by grind
  _=_:=by rw[w1,w2];grind
def Fq.ok{Q n R m:Int}(h:Fq Q n)(g:Fq R m):IntMulOk (M3.aW n Q) (M3.aE m R)/\IntMulOk (M3.aE n Q) (M3.aE m R)/\IntMulOk (M3.aW n Q) (M3.aW m R):=by
 have a:=h.sz
 have c:=g.sz
 have:=h.q1;have:=g.q1;have:=h.n1;have:=g.n1
 exact⟨(dh (by omega)).mul (dh (by omega)),(dh (by omega)).mul (dh (by omega)),(dh (by omega)).mul (dh (by omega))⟩
abbrev zO(w:ap):Prop:=∀{S:ax}{B n m:Int}{Q:bc}{E:bC},Fq B n->Fq B m->Q (cq B (n+m)) S->w [cq B n,cq B m] S Q E
def Hd{xf:ap}{S:ax}{B n m:Int}{Q:bc}{E:bC}(h:IntMulOk (M3.aW n B) (M3.aE m B)/\IntMulOk (M3.aW m B) (M3.aE n B)/\IntMulOk (M3.aE n B) (M3.aE m B))(k:xf [.int (M3.aW n B * M3.aE m B+M3.aW m B * M3.aE n B),.int (M3.aE n B * M3.aE m B)] S Q eE):aP 2 (iD xf) [cq B n,cq B m] S Q E:=by
 unfold iD
 refine bT ?_
 rw[show am 2 [cq B n,cq B m]=[some (.tup [.int (M3.aW n B),.int (M3.aE n B)]),some (.tup [.int (M3.aW m B),.int (M3.aE m B)])] from rfl]
 walk_at "x"
 simp only[cv,cX]
 exact⟨h.1,h.2.1,h.2.2,k⟩
def zP{xf:ap}(Kh:qq xf):zO (aP 2 (iD xf)):=by
 intro S B n m Q E h g k
 obtain⟨p1,p2,p3⟩:=zN h g
 exact Hd ⟨(h.ok g).1,(g.ok h).1,(h.ok g).2.1⟩ (Kh p1 p2 (by rw[p3];exact k))
abbrev u6(w:ap):Prop:=∀{S:ax}{i B n:Int}{Q:bc}{E:bC},i.natAbs < oO->Fq B n->Q (cq B (i * n)) S->w [.tup [.int i,.int 1],cq B n] S Q E
def xF{xf:ap}(Kh:qq xf):u6 (aP 2 (gi xf)):=by
 intro S i B n Q E hi h k
 unfold gi
 refine bT ?_
 rw[show am 2 [.tup [.int i,.int 1],cq B n]=[some (.tup [.int i,.int 1]),some (.tup [.int (M3.aW n B),.int (M3.aE n B)])] from rfl]
 have a:=h.sz
 have:=h.q1;have:=h.n1;have q0:=h.q0
 simp only[ar,ab,ao,af,v3,lk,c3,ae,cv,cX,bM]
 have one:(1:Int).natAbs<=oO:=v5
 refine⟨(dh (by omega)).mul (dh (by omega)),(dh one).mul (dh (by omega)),?_⟩
 rw[Int.one_mul]
 refine Kh a.2.2 (dh (by omega)) ?_
 rw[tG (m:=i * n) a.2.2 q0 (by have w:=M3.cg (t:=n) (b:=B) (by omega);rw[ZE,w];grind)]
 exact k
noncomputable def kK(ns:Zw):Nat:=(ns.map Int.natAbs).sum
def Cu(ns:Zw):ns.sum.natAbs<=kK ns:=by
 induction ns with
 |nil=>simp[kK]
 |cons a r ih=>simp only[kK,VT,List.sum_cons]at *;have:=Int.natAbs_add_le a r.sum;omega
def xG(ns:Zw)(k:Nat):kK (ns.take k)<=kK ns:=by
 rw[<-XY k ns]
 simp only[kK,We,List.sum_append]
 rw[XY]
 simp only[List.map_take,List.map_drop]
 have:=XY k (ns.map Int.natAbs)
 have h2:=WW List.sum this
 rw[List.sum_append]at h2
 omega
def zQ{ns:Zw}{a:Int}(h:a∈ns):a.natAbs<=kK ns:=by
 induction ns with
 |nil=>cases h
 |cons x r ih=>
  simp only[kK,VT,List.sum_cons]at *
  rcases VL.mp h with rfl|h
  ·omega
  ·have:=ih h;omega
abbrev Fy(w:ap):Prop:=∀{S:ax}{p:Addr}{B:Int}{ns:Zw}{Q:bc}{E:bC},0 < B->B.natAbs < oO->kK ns < oO->S p=some (.lst (ns.map (cq B)))->Q (cq B ns.sum) S->w [.ref p] S Q E
def Cv{xp:ap}(Kt:zO xp):Fy (aP 3 (jN xp)):=by
 intro S p B ns Q E hB RQ ha hp k
 unfold jN
 refine bT ?_
 rw[show am 3 [PV.ref p]=[some (.ref p),none,none] from rfl]
 refine ak fun N hN=>?_
 walk_at "x"
 refine hN _ _ (ak fun N hN=>?_)
 simp only[bE,aJ,v3,lk,bF,hp]
 refine bg (fun done σ S'=>S'=S/\done.length<=ns.length/\∃x2:Option PV,σ=[some (.ref p),some (cq B (ns.take done.length).sum),x2]) ⟨rfl,Ws _,_,by rw[Fw,tG (Q:=1) (R:=B) (n:=0) (m:=0) (by decide) hB (by simp)];rfl⟩ (fun _ _ _ ⟨e,_⟩=>by rw[e];exact hp) ?_ ?_
 ·rintro done x rest σ S' K e ⟨rfl,hl,x2,rfl⟩ hK
  have hget:(ns.map (cq B))[done.length]?=some x:=by rw[e];simp
  obtain⟨n,hn,rfl⟩:∃n,ns[done.length]?=some n/\cq B n=x:=by rw[V2]at hget;exact Wg.mp hget
  have hlt:done.length < ns.length:=(V4.mp hn).1
  simp only[Tg.put,List.set_cons_succ,List.set_cons_zero,aq,ab,ao,v3,lk]
  have t1:=Cu (ns.take done.length)
  have t2:=xG ns done.length
  have t3:=zQ (V6 hn)
  refine Kt ⟨hB,RQ,by omega⟩ ⟨hB,RQ,by omega⟩ (hK _ _ ⟨rfl,by rw[VH];exact hlt,some (cq B n),?_⟩)
  rw[VH,V0,W3,hn]
  simp
 ·rintro σ S' ⟨rfl,hl,x2,rfl⟩
  refine hN _ _ ?_
  rw[VI,WH]
  walk_at "x"
  exact k
noncomputable def g_:List Int->List Int->Int
 |a::r,b::s=>a * b+g_ r s
 |_,_=>0
noncomputable def mv(is ns:Zw):List Int:=List.zipWith (· * ·) is ns
theorem qr:∀(is ns:Zw),(mv is ns).sum=g_ is ns
 |[],_=>by simp[mv,g_]
 |_::_,[]=>by simp[mv,g_]
 |a::r,b::s=>by
  have:=qr r s
  simp only[mv,List.zipWith_cons_cons,List.sum_cons,g_]at *
  omega
end CW
namespace CL
open PySem L2 L3 Wd
open C CW
structure Ln where
 d:Nat
 who:PV
 c:Int
 es:List Int
 tr:PV
noncomputable def Ln.pv(l:Ln):PV:=.tup [.int (l.d:Int),l.who,cf l.c,.tup (l.es.map PV.int),l.tr]
noncomputable def u7(js:Zs)(d:Nat)(x:PV×Bd)(v:PV):Ln:=⟨d,x.1,(x.2.Ky js v).1,(x.2.Ky js v).2.map (·.1),v⟩
noncomputable def Np(q:Qs)(js:Zs)(ds:List (Str×Bd)):List Ln:=ds.zipIdx.flatMap fun p=>(uY q p.1.2).flatMap fun x=>(x.2.ps q).map (u7 js p.2 x)
def He(js:Zs)(d:Nat)(x:PV×Bd)(v:PV):(u7 js d x v).pv=xC js d x v:=by
 unfold u7 Ln.pv xC Ty.es
 dsimp only
 rw[V9]
 rfl
def rO(q:Qs)(js:Zs)(ds:List (Str×Bd)):FZ q js ds=(Np q js ds).map Ln.pv:=by
 unfold FZ Np
 rw[YK]
 congr 1
 funext p
 unfold cE
 rw[YK]
 congr 1
 funext x
 unfold mI
 rw[V9]
 exact Xh fun v _=>(He js p.2 x v).symm
noncomputable def Hf:PV->Bool | .non=>true|_=>false
structure Cw(k m:Nat)(l:Ln):Prop where
 len:l.es.length=k
 d:l.d < m
 who:l.who = .non\/∃n:Nat,l.who = .int (n:Int)
 c0:0<=l.c
 c1:l.c<=2 ^ 30
 e:∀x∈l.es,x.natAbs<=2 ^ 30
theorem jT{js us:Zs}{q:Qs}:∀(t:Bd)(v:PV),t.good js us->v∈t.ps q->(t.Ky js v).Ql (2520000 * (t.size:Int))
 | .rest,v,_,_=>rJ (by simp only[Bd.size];omega) (by simp only[Bd.size];omega)
 | .use z,v,_,_=>rJ (by simp only[Bd.size];omega) (by simp only[Bd.size];omega)
 | .Kf a,v,_,h=>by
  rw[VN.mp h]
  exact rJ (by simp only[Bd.size];omega) (by simp only[Bd.size];omega)
 | .pay x y,v,hg,_=>by
  have C:uQ x y:=hg
  have h1:=C.x1
  have h0:=C.x0
  have y0:=C.low.pos
  have q1:2520 / y<=2520:=ZD _ (by decide)
  have q0:0<=2520 / y:=Yc (by decide) (by omega)
  refine rJ ?_ (by simp only[Bd.size];omega)
  have:x * (2520 / y)<=1000 * 2520:=ZZ (by omega) q1 q0 (by decide)
  simp only[Bd.size]
  omega
 | .put z m,v,hg,_=>by
  obtain⟨_,h1,h2⟩:=hg
  exact vQ (by simp only[Bd.size];omega) (by simp only[Bd.size];omega) (by simp only[Bd.size];omega) (by simp only[Bd.size];omega)
 | .J9 a b,v,hg,h=>by
  unfold Bd.ps at h
  obtain⟨x,hx,hv⟩:=Wl.mp h
  obtain⟨y,hy,rfl⟩:=VW.mp hv
  rw[vP]
  exact((jT a x hg.1 hx).join (jT b y hg.2 hy) (by omega) (by omega)).mono (by simp only[Bd.size];omega)
 | .Kg a b,v,hg,h=>by
  unfold Bd.ps at h
  rcases VO.mp h with h|h
  ·obtain⟨x,hx,rfl⟩:=VW.mp h
   rw[gE,if_pos rfl]
   exact(jT a x hg.1 hx).mono (by simp only[Bd.size];omega)
  ·obtain⟨x,hx,rfl⟩:=VW.mp h
   rw[gE,if_neg (by decide)]
   exact(jT b x hg.2 hx).mono (by simp only[Bd.size];omega)
 | .Ka z m a b,v,hg,h=>by
  unfold Bd.ps at h
  obtain⟨_,h1,h2,ga,gb⟩:=hg
  rcases VO.mp h with h|h
  ·split at h
   ·obtain⟨x,hx,rfl⟩:=VW.mp h
    rw[gF,if_pos rfl]
    exact((vQ (B:=9) (by omega) (by omega) (by omega) (by omega)).join (jT a x ga hx) (by omega) (by omega)).mono (by simp only[Bd.size];omega)
   ·cases h
  ·obtain⟨x,hx,rfl⟩:=VW.mp h
   rw[gF,if_neg (by decide)]
   exact(jT b x gb hx).mono (by simp only[Bd.size];omega)
def v7{q:Qs}{t:Bd}{x:PV×Bd}(h:x∈uY q t):(x.1 = .non\/∃n:Nat,x.1 = .int (n:Int))/\x.2.size<=t.size:=by
 rcases VL.mp h with rfl|h
 ·exact⟨.inl rfl,VM _⟩
 ·obtain⟨c,hc,rfl⟩:=VW.mp h
  have hm:=Xf (WI.mp hc).1
  refine⟨.inr ⟨_,rfl⟩,?_⟩
  obtain⟨a,ha⟩:=rK hm
  have:=(kH q [] [] t true c.1 (WI.mp hm).1).2.2
  show c.1.1.No.size<=_
  rw[ha]at this ⊢
  simp only[Bd.size]at this
  show a.size<=_
  omega
def zR{q:Qs}{js:Zs}{ds:List (Str×Bd)}(hP:HP js ds){l:Ln}(h:l∈Np q js ds):Cw js.length ds.length l:=by
 obtain⟨p,hp,h⟩:=Wl.mp h
 obtain⟨x,hx,h⟩:=Wl.mp h
 obtain⟨v,hv,rfl⟩:=VW.mp h
 have hm:=Xf hp
 have hlt:=(List.mem_zipIdx hp).2.1
 have gd:=hP.gd _ hm
 have sz:=hP.sz _ hm
 obtain⟨w,ws⟩:=v7 hx
 have gx:=(rL gd hx).1
 have ok:=bG x.2 v gx (eg q x.2 v hv).1
 obtain⟨b1,b2⟩:=jT x.2 v gx hv
 refine⟨?_,?_,w,ok.2.1,?_,fun y hy=>?_⟩
 ·show((x.2.Ky js v).2.map _).length=_
  rw[VI];exact ok.1
 ·show p.2 < _
  omega
 ·show(x.2.Ky js v).1<=_
  omega
 ·obtain⟨z,hz,rfl⟩:=VW.mp hy
  have:=b2 z hz
  omega
noncomputable abbrev BB:Int:=2520 * 2520
def je{n:Nat}(h:n < 2 ^ 400):n < oO:=Xy h (Xe (by decide) (by decide))
def Fs{B n:Int}(h0:0 < B)(h1:B<=BB)(h:n.natAbs<=2 ^ 200):Fq B n:=⟨h0,je (Wy (show B.natAbs<=2520 * 2520 by have:BB=6350400:=rfl;omega) (by decide)),je (Wy h (Xe (by decide) (by decide)))⟩
theorem v8{M:Nat}:∀l:List Int,(∀x∈l,x.natAbs<=M)->kK l<=l.length * M
 |[],_=>by simp[kK]
 |x::r,h=>by
  have:=v8 r fun y hy=>h y (by simp[hy])
  have:=h x (by simp)
  unfold kK at *
  simp only[VT,List.sum_cons,List.length_cons,ZT]
  omega
def Hg(ns:Zw):Prop:=ns.length<=1000000/\∀n∈ns,n.natAbs<=2 ^ 40
structure Ji(k m:Nat)(L:List Ln):Prop where
 len:L.length<=1000000
 ok:∀l∈L,Cw k m l
def Cy{is ns:Zw}(h:Hg ns)(hi:∀i∈is,i.natAbs<=2 ^ 30):kK (mv is ns)<=1000000 * 2 ^ 70:=by
 refine VU (v8 (M:=2 ^ 70) _ fun x hx=>?_) (Nat.mul_le_mul_right _ ?_)
 ·obtain⟨i,hi',n,hn,rfl⟩:=kC hx
  rw[ZW]
  calc i.natAbs * n.natAbs<=2 ^ 30 * 2 ^ 40:=ZY (hi i hi') (h.2 n hn)
   _=2 ^ 70:=by decide
 ·unfold mv
  rw[List.length_zipWith]
  have:=h.1
  omega
def Hh{n:Nat}(h:n<=2 ^ 40):n < oO:=je (Wy h (by decide))
def Hi{n:Nat}(h:n<=2 ^ 30):n < oO:=je (Wy h (by decide))
section
variable (q:Qs)(w:Str->Int)
noncomputable def vl:Bd->Int->Int
 | .pay c y,x=>c * (2520 / y)+x
 | .put z m,x=>w z * m+x
 | .J9 a b,x=>vl a (vl b x)
 | .Kg a b,x=>max (vl a x) (vl b x)
 | .Ka z m a b,x=>if q z then max (vl b x) (w z * m * -1+vl a x) else vl b x
 |_,x=>x
noncomputable def uf:Bd->Int->Int->Int->Int
 | .pay c y,_,x,_=>c * (2520 / y)+x
 | .put z m,_,x,_=>w z * m+x
 | .Kf a,f,x,i=>if i<=f then x else uf a (f+1) x i
 | .J9 a b,f,x,i=>if i < f+a.rows then uf a f (vl q w b x) i else uf b (f+a.rows) x i
 | .Kg a b,f,x,i=>if i<=f then max (vl q w a x) (vl q w b x) else if i < f+1+a.rows then uf a (f+1) x i else uf b (f+1+a.rows) x i
 | .Ka z m a b,f,x,i=>if i<=f then (if q z then max (vl q w b x) (w z * m * -1+vl q w a x) else vl q w b x) else if i < f+1+a.rows then uf a (f+1) x i else uf b (f+1+a.rows) x i
 |_,_,x,_=>x
noncomputable def NG:Bd->Prop
 | .Kf a=>(∀x,vl q w a x<=x)/\NG a
 | .J9 a b=>NG a/\NG b
 | .Kg a b=>NG a/\NG b
 | .Ka z _ a b=>(q z=true->NG a)/\NG b
 |_=>True
theorem kL{js:Zs}(hw:∀z,0<=w z):∀(t:Bd)(x:Int),t.good js []->x<=vl q w t x
 | .rest,x,_=>Wi _
 | .use _,x,_=>Wi _
 | .Kf _,x,_=>Wi _
 | .pay c y,x,g=>by
  have C:uQ c y:=g
  have:=Xd C.x0 (Yc (a:=2520) (b:=y) (by decide) (Xz C.low.pos))
  unfold vl
  omega
 | .put z m,x,g=>by
  have:=Xd (hw z) (show 0<=m by have:=g.2.1;omega)
  unfold vl
  omega
 | .J9 a b,x,g=>YJ (kL hw b x g.2) (kL hw a _ g.1)
 | .Kg a b,x,g=>YJ (kL hw a x g.1) (Y0 _ _)
 | .Ka z m a b,x,g=>by
  have:=kL hw b x g.2.2.2.2
  unfold vl
  split
  ·exact YJ this (Y0 _ _)
  ·exact this
theorem mw{js:Zs}(hw:∀z,0<=w z):∀(t:Bd)(f x i:Int),t.good js []->x<=uf q w t f x i
 | .rest,_,x,_,_=>Wi _
 | .use _,_,x,_,_=>Wi _
 | .pay c y,f,x,i,g=>kL q w hw (.pay c y) x g
 | .put z m,f,x,i,g=>kL q w hw (.put z m) x g
 | .Kf a,f,x,i,g=>by
  unfold uf
  split
  ·exact Wi _
  ·exact mw hw a _ _ _ g
 | .J9 a b,f,x,i,g=>by
  unfold uf
  split
  ·exact YJ (kL q w hw b x g.2) (mw hw a _ _ _ g.1)
  ·exact mw hw b _ _ _ g.2
 | .Kg a b,f,x,i,g=>by
  unfold uf
  split
  ·exact YJ (kL q w hw a x g.1) (Y0 _ _)
  ·split
   ·exact mw hw a _ _ _ g.1
   ·exact mw hw b _ _ _ g.2
 | .Ka z m a b,f,x,i,g=>by
  unfold uf
  split
  ·exact kL q w hw (.Ka z m a b) x g
  ·split
   ·exact mw hw a _ _ _ g.2.2.2.1
   ·exact mw hw b _ _ _ g.2.2.2.2
def zS{t:Bd}{f n:Int}(h:t.rows=0):t.beg f n=n:=by unfold Bd.beg;rw[if_pos h]
def Cz{t:Bd}{f n:Int}(h:t.rows≠0):t.beg f n=f:=by unfold Bd.beg;rw[if_neg h]
theorem mR:∀(t:Bd)(x:Int),t.rows=0->vl q w t x=x
 | .rest,_,_=>rfl
 | .use _,_,h=>by cases h
 | .pay _ _,_,h=>by cases h
 | .put _ _,_,h=>by cases h
 | .Kf _,_,h=>by cases h
 | .Kg _ _,_,h=>by cases h
 | .Ka _ _ _ _,_,h=>by cases h
 | .J9 a b,x,h=>by
  simp only[Bd.rows]at h
  unfold vl
  rw[mR b x (by omega),mR a x (by omega)]
theorem ou:∀(t:Bd)(f x:Int),t.rows≠0->uf q w t f x f=vl q w t x
 | .rest,_,_,h=>absurd rfl h
 | .use _,_,_,_=>rfl
 | .pay _ _,_,_,_=>rfl
 | .put _ _,_,_,_=>rfl
 | .Kf a,f,x,_=>by unfold uf;rw[if_pos (Wi _)];rfl
 | .Kg a b,f,x,_=>by unfold uf;rw[if_pos (Wi _)];rfl
 | .Ka z m a b,f,x,_=>by unfold uf;rw[if_pos (Wi _)];rfl
 | .J9 a b,f,x,h=>by
  simp only[Bd.rows]at h
  unfold uf
  by_cases ha:a.rows=0
  ·rw[if_neg (by omega),ha]
   simp only[Int.natCast_zero,Int.add_zero]
   rw[ou b f x (by omega)]
   show _=vl q w a (vl q w b x)
   rw[mR q w a _ ha]
  ·rw[if_pos (by omega),ou a f _ ha]
   rfl
def lW{t:Bd}{f n:Int}{l:Int->Int}(hl:∀i,f<=i->i < f+t.rows->l i=uf q w t f (l n) i):l (t.beg f n)=vl q w t (l n):=by
 by_cases h:t.rows=0
 ·rw[zS h,mR q w t _ h]
 ·rw[Cz h,hl f (Wi _) (by omega),ou q w t f _ h]
theorem dY{js:Zs}:∀(t:Bd)(f n:Int)(l:Int->Int),t.good js []->NG q w t->(∀i,f<=i->i < f+t.rows->l i=uf q w t f (l n) i)->
  ∀i∈t.mk q f,∃r:Rw,(t.rowsOf f n)[(i - f).toNat]?=some r.pv/\∀a∈r.asks q w,a.1+l a.2<=l i
 | .rest,f,n,l,_,_,_,i,h=>by simp[Bd.mk]at h
 | .use z,f,n,l,g,_,_,i,h=>by cases g
 | .pay c y,f,n,l,g,_,hl,i,h=>by
  rw[VN.mp h,XM]
  refine⟨.pay (c * (2520 / y)) n,by simp only[Bd.rowsOf,Rw.pv,mP g];rfl,fun a ha=>?_⟩
  rw[VN.mp ha,hl f (Wi _) (by simp only[Bd.rows];omega)]
  exact Wi _
 | .put z m,f,n,l,g,_,hl,i,h=>by
  rw[VN.mp h,XM]
  refine⟨.put z m n,rfl,fun a ha=>?_⟩
  rw[VN.mp ha,hl f (Wi _) (by simp only[Bd.rows];omega)]
  exact Wi _
 | .Kf a,f,n,l,g,ng,hl,i,h=>by
  simp only[Bd.rows]at hl
  have hf:l f=l n:=by rw[hl f (Wi _) (by omega)];unfold uf;rw[if_pos (Wi _)]
  have ha:∀j,f+1<=j->j < f+1+a.rows->l j=uf q w a (f+1) (l f) j:=fun j h1 h2=>by
   rw[hl j (by omega) (by omega),hf]
   conv=>lhs;unfold uf
   rw[if_neg (by omega)]
  rcases VL.mp h with rfl|h
  ·rw[XM]
   refine⟨.two false (a.beg (i+1) i) n,rfl,fun b hb=>?_⟩
   have e:=lW q w (n:=i) ha
   have:=ng.1 (l i)
   rcases VL.mp hb with rfl|hb
   ·dsimp only;omega
   ·rw[VN.mp hb];dsimp only;rw[e];omega
  ·obtain⟨r,e,o⟩:=dY a (f+1) f l g ng.2 ha i h
   have:=a.KF q _ i h
   exact⟨r,by rw[Bd.rowsOf,show(i - f).toNat=(i - (f+1)).toNat+1 by omega];exact e,o⟩
 | .J9 a b,f,n,l,g,ng,hl,i,h=>by
  simp only[Bd.rows]at hl
  have hb:∀j,f+a.rows<=j->j < f+a.rows+b.rows->l j=uf q w b (f+a.rows) (l n) j:=fun j h1 h2=>by
   rw[hl j (by omega) (by omega)]
   conv=>lhs;unfold uf
   rw[if_neg (by omega)]
  have eb:=lW q w hb
  have ha:∀j,f<=j->j < f+a.rows->l j=uf q w a f (l (b.beg (f+a.rows) n)) j:=fun j h1 h2=>by
   rw[hl j (by omega) (by omega),eb]
   conv=>lhs;unfold uf
   rw[if_pos (by omega)]
  rcases VO.mp h with h|h
  ·obtain⟨r,e,o⟩:=dY a f (b.beg (f+a.rows) n) l g.1 ng.1 ha i h
   exact⟨r,by rw[Bd.rowsOf];exact mo e,o⟩
  ·obtain⟨r,e,o⟩:=dY b (f+a.rows) n l g.2 ng.2 hb i h
   have:=b.KF q _ i h
   exact⟨r,by rw[Bd.rowsOf];exact ol e (by rw[Bd.J5];omega),o⟩
 | .Kg a b,f,n,l,g,ng,hl,i,h=>by
  simp only[Bd.rows]at hl
  have ha:∀j,f+1<=j->j < f+1+a.rows->l j=uf q w a (f+1) (l n) j:=fun j h1 h2=>by
   rw[hl j (by omega) (by omega)]
   conv=>lhs;unfold uf
   rw[if_neg (by omega),if_pos (by omega)]
  have hb:∀j,f+1+a.rows<=j->j < f+1+a.rows+b.rows->l j=uf q w b (f+1+a.rows) (l n) j:=fun j h1 h2=>by
   rw[hl j (by omega) (by omega)]
   conv=>lhs;unfold uf
   rw[if_neg (by omega),if_neg (by omega)]
  rcases VL.mp h with rfl|h
  ·rw[XM]
   refine⟨.two true (a.beg (i+1) n) (b.beg (i+1+a.rows) n),rfl,fun x hx=>?_⟩
   have e1:=lW q w ha
   have e2:=lW q w hb
   have e3:l i=max (vl q w a (l n)) (vl q w b (l n)):=by rw[hl i (Wi _) (by omega)];unfold uf;rw[if_pos (Wi _)]
   rcases VL.mp hx with rfl|hx
   ·dsimp only;rw[e2,e3];have:=Int.le_max_right (vl q w a (l n)) (vl q w b (l n));omega
   ·rw[VN.mp hx];dsimp only;rw[e1,e3];have:=Y0 (vl q w a (l n)) (vl q w b (l n));omega
  ·rcases VO.mp h with h|h
   ·obtain⟨r,e,o⟩:=dY a (f+1) n l g.1 ng.1 ha i h
    have:=a.KF q _ i h
    exact⟨r,by rw[Bd.rowsOf,show(i - f).toNat=(i - (f+1)).toNat+1 by omega];exact mo e,o⟩
   ·obtain⟨r,e,o⟩:=dY b (f+1+a.rows) n l g.2 ng.2 hb i h
    have:=b.KF q _ i h
    exact⟨r,by rw[Bd.rowsOf,show(i - f).toNat=(i - (f+1)).toNat+1 by omega];exact ol e (by rw[Bd.J5];omega),o⟩
 | .Ka z m a b,f,n,l,g,ng,hl,i,h=>by
  simp only[Bd.rows]at hl
  have ha:∀j,f+1<=j->j < f+1+a.rows->l j=uf q w a (f+1) (l n) j:=fun j h1 h2=>by
   rw[hl j (by omega) (by omega)]
   conv=>lhs;unfold uf
   rw[if_neg (by omega),if_pos (by omega)]
  have hb:∀j,f+1+a.rows<=j->j < f+1+a.rows+b.rows->l j=uf q w b (f+1+a.rows) (l n) j:=fun j h1 h2=>by
   rw[hl j (by omega) (by omega)]
   conv=>lhs;unfold uf
   rw[if_neg (by omega),if_neg (by omega)]
  rcases VL.mp h with rfl|h
  ·rw[XM]
   refine⟨.Ka z m (a.beg (i+1) n) (b.beg (i+1+a.rows) n),rfl,fun x hx=>?_⟩
   have e1:=lW q w ha
   have e2:=lW q w hb
   have e3:l i=if q z then max (vl q w b (l n)) (w z * m * -1+vl q w a (l n)) else vl q w b (l n):=by rw[hl i (Wi _) (by omega)];unfold uf;rw[if_pos (Wi _)]
   rcases VL.mp hx with rfl|hx
   ·dsimp only
    rw[e2,e3]
    split
    ·have:=Y0 (vl q w b (l n)) (w z * m * -1+vl q w a (l n));omega
    ·omega
   ·split at hx
    ·rename_i hz
     rw[VN.mp hx]
     dsimp only
     rw[e1,e3,if_pos hz]
     exact Int.le_max_right _ _
    ·cases hx
  ·rcases VO.mp h with h|h
   ·split at h
    ·rename_i hz
     obtain⟨r,e,o⟩:=dY a (f+1) n l g.2.2.2.1 (ng.1 hz) ha i h
     have:=a.KF q _ i h
     exact⟨r,by rw[Bd.rowsOf,show(i - f).toNat=(i - (f+1)).toNat+1 by omega];exact mo e,o⟩
    ·cases h
   ·obtain⟨r,e,o⟩:=dY b (f+1+a.rows) n l g.2.2.2.2 ng.2 hb i h
    have:=b.KF q _ i h
    exact⟨r,by rw[Bd.rowsOf,show(i - f).toNat=(i - (f+1)).toNat+1 by omega];exact ol e (by rw[Bd.J5];omega),o⟩
end
noncomputable def gw(ws:Zw)(t:Ty):Int:=t.1+g_ (t.2.map (·.1)) ws
theorem tH:∀(l m:List (Int×Int))(ws:Zw),l.length=m.length->g_ ((List.zipWith jn l m).map (·.1)) ws=g_ (l.map (·.1)) ws+g_ (m.map (·.1)) ws
 |[],[],ws,_=>by simp[g_]
 |p::l,r::m,[],_=>by simp[g_]
 |p::l,r::m,w::ws,h=>by
  have:=tH l m ws (Zk h)
  simp only[List.zipWith_cons_cons,VT,g_]
  rw[this]
  unfold jn
  rw[Int.add_mul]
  omega
def v9{ws:Zw}{t u:Ty}(h:t.2.length=u.2.length):gw ws (t.join u)=gw ws t+gw ws u:=by
 unfold gw Ty.join
 dsimp only
 rw[tH _ _ _ h]
 omega
theorem v_:∀(js:Zs)(ws:Zw),g_ ((zl js).map (·.1)) ws=0
 |[],_=>rfl
 |_::_,[]=>rfl
 |j::js,w::ws=>by
  have:=v_ js ws
  unfold zl at this ⊢
  simp only[VT,g_,Int.zero_mul,Int.zero_add]
  exact this
theorem tI(z:Str)(e d:Int):∀(js:Zs)(ws:Zw),z ∉ js->g_ ((oN js z e d).map (·.1)) ws=0
 |[],_,_=>rfl
 |_::_,[],_=>rfl
 |j::js,w::ws,h=>by
  have:=tI z e d js ws fun q=>h (by simp[q])
  unfold oN at this ⊢
  simp only[VT,g_]
  rw[this,if_neg (fun q=>h (by simp[q]))]
  simp
theorem rP{z:Str}{e d:Int}:∀{js:Zs}{ws:Zw},js.Nodup->z∈js->ws.length=js.length->g_ ((oN js z e d).map (·.1)) ws=wt js ws z * e
 |[],_,_,h,_=>by cases h
 |_::_,[],_,_,h=>by cases h
 |j::js,w::ws,nd,h,hl=>by
  by_cases q:j=z
  ·have:=tI z e d js ws (by rw[<-q];exact(WJ.mp nd).1)
   unfold oN at this ⊢
   simp only[VT,g_]
   rw[this,if_pos q]
   unfold wt
   rw[if_pos q]
   simp[Ys]
  ·have:=rP (e:=e) (d:=d) (WJ.mp nd).2 ((VL.mp h).resolve_left fun c=>q c.symm) (Zk hl)
   unfold oN at this ⊢
   simp only[VT,g_]
   rw[this,if_neg q]
   conv=>rhs;unfold wt
   rw[if_neg q]
   simp
theorem gH{js:Zs}{ws:Zw}{q:Qs}(nd:js.Nodup)(hl:ws.length=js.length):∀(t:Bd)(x:Int),t.good js []->∃v∈t.ps q,vl q (wt js ws) t x=x+gw ws (t.Ky js v)
 | .rest,x,_=>⟨.tup [],by simp[Bd.ps],by show x=x+(0+g_ ((zl js).map (·.1)) ws);rw[v_];omega⟩
 | .use _,x,g=>by cases g
 | .Kf _,x,_=>⟨.tup [],by simp[Bd.ps],by show x=x+(0+g_ ((zl js).map (·.1)) ws);rw[v_];omega⟩
 | .pay c y,x,_=>⟨.tup [],by simp[Bd.ps],by show c * (2520 / y)+x=x+(c * (2520 / y)+g_ ((zl js).map (·.1)) ws);rw[v_];omega⟩
 | .put z m,x,g=>⟨.tup [],by simp[Bd.ps],by show wt js ws z * m+x=x+(0+g_ ((oN js z m 0).map (·.1)) ws);rw[rP nd g.1 hl];omega⟩
 | .J9 a b,x,g=>by
  obtain⟨vb,hb,eb⟩:=gH nd hl b x g.2
  obtain⟨va,ha,ea⟩:=gH nd hl a (vl q (wt js ws) b x) g.1
  refine⟨.tup [va,vb],?_,?_⟩
  ·unfold Bd.ps
   exact Wl.mpr ⟨va,ha,VW.mpr ⟨vb,hb,rfl⟩⟩
  ·rw[vP,v9 (by rw[(bG a va g.1 (eg q a va ha).1).1,(bG b vb g.2 (eg q b vb hb).1).1])]
   show vl q (wt js ws) a (vl q (wt js ws) b x)=_
   rw[ea,eb]
   omega
 | .Kg a b,x,g=>by
  obtain⟨va,ha,ea⟩:=gH nd hl a x g.1
  obtain⟨vb,hb,eb⟩:=gH nd hl b x g.2
  show ∃v∈(Bd.Kg a b).ps q,max (vl q (wt js ws) a x) (vl q (wt js ws) b x)=_
  by_cases h:vl q (wt js ws) b x<=vl q (wt js ws) a x
  ·refine⟨.tup [.int 0,va],?_,?_⟩
   ·unfold Bd.ps
    exact WU _ (VW.mpr ⟨va,ha,rfl⟩)
   ·rw[Int.max_eq_left h,gE,if_pos rfl,ea]
  ·refine⟨.tup [.int 1,vb],?_,?_⟩
   ·unfold Bd.ps
    exact Wf _ (VW.mpr ⟨vb,hb,rfl⟩)
   ·rw[Int.max_eq_right (by omega),gE,if_neg (by decide),eb]
 | .Ka z m a b,x,g=>by
  obtain⟨va,ha,ea⟩:=gH nd hl a x g.2.2.2.1
  obtain⟨vb,hb,eb⟩:=gH nd hl b x g.2.2.2.2
  have other:vl q (wt js ws) (.Ka z m a b) x=vl q (wt js ws) b x->∃v∈(Bd.Ka z m a b).ps q,vl q (wt js ws) (.Ka z m a b) x=x+gw ws ((Bd.Ka z m a b).Ky js v):=fun e=>by
   refine⟨.tup [.int 1,vb],?_,?_⟩
   ·unfold Bd.ps
    exact Wf _ (VW.mpr ⟨vb,hb,rfl⟩)
   ·rw[e,gF,if_neg (by decide),eb]
  by_cases hz:q z=true
  ·have e0:vl q (wt js ws) (.Ka z m a b) x=max (vl q (wt js ws) b x) (wt js ws z * m * -1+vl q (wt js ws) a x):=by
    conv=>lhs;unfold vl
    rw[if_pos hz]
   by_cases h:wt js ws z * m * -1+vl q (wt js ws) a x<=vl q (wt js ws) b x
   ·exact other (by rw[e0,Int.max_eq_left h])
   ·refine⟨.tup [.int 0,va],?_,?_⟩
    ·unfold Bd.ps
     rw[if_pos hz]
     exact WU _ (VW.mpr ⟨va,ha,rfl⟩)
    ·rw[e0,Int.max_eq_right (by omega),gF,if_pos rfl,v9 (by rw[(bG a va g.2.2.2.1 (eg q a va ha).1).1];exact VI _),ea]
     have:gw ws (0,oN js z (-m) m)=wt js ws z * -m:=by unfold gw;dsimp only;rw[rP nd g.1 hl];omega
     rw[this,ZI,ZI,Int.mul_one]
     omega
  ·exact other (by conv=>lhs;unfold vl;rw[if_neg hz])
theorem mx{js:Zs}{ws:Zw}{q:Qs}(nd:js.Nodup)(hl:ws.length=js.length):∀t:Bd,t.good js []->(∀p∈t.Lk q true,p.2=true->∀v∈p.1.No.ps q,gw ws (p.1.No.Ky js v)<=0)->NG q (wt js ws) t
 | .rest,_,_=>trivial
 | .use _,_,_=>trivial
 | .pay _ _,_,_=>trivial
 | .put _ _,_,_=>trivial
 | .Kf a,g,h=>by
  have e:(Bd.Kf a).Lk q true=(.Kf a,true)::a.Lk q true:=rfl
  rw[e]at h
  refine⟨fun x=>?_,mx nd hl a g fun p hp=>h p (W8 _ hp)⟩
  obtain⟨v,hv,ev⟩:=gH (q:=q) nd hl a x g
  have:=h (.Kf a,true) (by simp) rfl v hv
  rw[ev]
  have e2:(Bd.Kf a).No=a:=rfl
  rw[e2]at this
  omega
 | .J9 a b,g,h=>by
  have e:(Bd.J9 a b).Lk q true=a.Lk q true++b.Lk q true:=Wb ..
  rw[e]at h
  exact⟨mx nd hl a g.1 fun p hp=>h p (WU _ hp),mx nd hl b g.2 fun p hp=>h p (Wf _ hp)⟩
 | .Kg a b,g,h=>by
  have e:(Bd.Kg a b).Lk q true=a.Lk q true++b.Lk q true:=Wb ..
  rw[e]at h
  exact⟨mx nd hl a g.1 fun p hp=>h p (WU _ hp),mx nd hl b g.2 fun p hp=>h p (Wf _ hp)⟩
 | .Ka z m a b,g,h=>by
  have e:(Bd.Ka z m a b).Lk q true=a.Lk q (true&&q z)++b.Lk q true:=Wb ..
  rw[e]at h
  refine⟨fun hz=>mx nd hl a g.2.2.2.1 fun p hp=>h p (WU _ ?_),mx nd hl b g.2.2.2.2 fun p hp=>h p (Wf _ hp)⟩
  rw[hz]
  exact hp
noncomputable def gnL(ws:Zw)(l:Ln):Bool:=!Hf l.who&&decide (0 < l.c+g_ l.es ws)
def zT{js:Zs}{ds:List (Str×Bd)}{ws:Zw}{q:Qs}(nd:js.Nodup)(hl:ws.length=js.length)(hP:HP js ds)(h:(Np q js ds).filter (gnL ws)=[]){p:Str×Bd}(hp:p∈ds):NG q (wt js ws) p.2:=by
 refine mx nd hl p.2 (hP.gd p hp) fun o ho hr v hv=>?_
 obtain⟨i,hi,rfl⟩:=List.mem_iff_getElem.mp hp
 obtain⟨k,hk,rfl⟩:=List.mem_iff_getElem.mp ho
 have hm:u7 js i (.int ((k:Nat):Int),((ds[i]).2.Lk q true)[k].1.No) v∈Np q js ds:=by
  unfold Np
  refine Wl.mpr ⟨(ds[i],i),?_,Wl.mpr ⟨(.int ((k:Nat):Int),((ds[i]).2.Lk q true)[k].1.No),?_,VW.mpr ⟨v,hv,rfl⟩⟩⟩
  ·exact List.mem_zipIdx_iff_getElem?.mpr (by simp[hi])
  ·unfold uY
   refine W8 _ (VW.mpr ⟨(((ds[i]).2.Lk q true)[k],k),?_,rfl⟩)
   unfold og
   refine WI.mpr ⟨?_,hr⟩
   exact List.mem_zipIdx_iff_getElem?.mpr (by simp[hk])
 have h2:gnL ws (u7 js i (.int ((k:Nat):Int),((ds[i]).2.Lk q true)[k].1.No) v)=false:=by
  cases e:gnL ws (u7 js i (.int ((k:Nat):Int),((ds[i]).2.Lk q true)[k].1.No) v)with
  |false=>rfl
  |true=>have:=WI.mpr ⟨hm,e⟩;rw[h]at this;cases this
 unfold gnL u7 Hf at h2
 simp only[WL,Bool.true_and,XE]at h2
 unfold gw
 omega
abbrev ow(w:ap):Prop:=∀{S:ax}{t b:Int}{Q:bc}{E:bC},0 < b->b < 2 ^ 64->Q (.tup [.int (M3.aW t b),.int (M3.aE t b)]) S->w [.int t,.int b] S Q E
def xH{w:ap}(h:i7 w):ow w:=fun hb hs k=>h hb (i8 (by omega)) k
def CA{w:ap}(h:CW.qq w):ow w:=fun hb hs k=>h hb ⟨Xy (show _ < 2 ^ 64 by omega) (Xe (by decide) (by decide))⟩ k
def CB(n m:Int):0 < M3.aE n 2520 * M3.aE m 2520/\M3.aE n 2520 * M3.aE m 2520 < 2 ^ 64:=by
 obtain⟨a,b⟩:=cY n
 obtain⟨c,d⟩:=cY m
 have q:M3.aE n 2520 * M3.aE m 2520<=2520 * 2520:=ZZ b d (by omega) (by decide)
 exact⟨ZL a c,by omega⟩
abbrev tJ(w:ap):Prop:=∀{S:ax}{n m:Int}{Q:bc}{E:bC},Q (cf (n+m)) S->w [cf n,cf m] S Q E
def ox{xf:ap}(Kh:ow xf):tJ (aP 2 (iD xf)):=by
 intro S n m Q E k
 unfold iD
 refine bT ?_
 rw[show am 2 [cf n,cf m]=[some (cf n),some (cf m)] from rfl]
 simp only[cf]
 walk_at "x"
 simp only[cv,cX]
 refine⟨kD _ _,kD _ _,kD _ _,Kh (CB n m).1 (CB n m).2 ?_⟩
 rw[mQ]
 exact k
def xI{xf:ap}(Kh:ow xf):tJ (aP 2 (fh xf)):=ox Kh
def zU(m:Int):M3.aW (-m) 2520 = -M3.aW m 2520/\M3.aE (-m) 2520=M3.aE m 2520:=by
 have L:=rG m
 refine M3.dj (a:=-M3.aW m 2520) (b:=M3.aE m 2520) ⟨L.pos,by rw[Int.neg_gcd];exact L.one⟩ (by decide) ?_
 have:=dX m
 rw[ZJ,ZJ,this]
abbrev zV(w:ap):Prop:=∀{S:ax}{n m:Int}{Q:bc}{E:bC},Q (cf (n - m)) S->w [cf n,cf m] S Q E
def xJ{xf:ap}(Kh:ow xf):zV (aP 2 (rj xf)):=by
 intro S n m Q E k
 unfold rj
 refine bT ?_
 rw[show am 2 [cf n,cf m]=[some (cf n),some (cf m)] from rfl]
 simp only[cf]
 walk_at "x"
 simp only[cv,cX]
 refine⟨kD _ _,kD _ _,kD _ _,Kh (CB n m).1 (CB n m).2 ?_⟩
 have e:=mQ n (-m)
 rw[(zU m).1,(zU m).2,ZJ]at e
 rw[Int.sub_eq_add_neg,e,<-Int.sub_eq_add_neg]
 exact k
abbrev zW(w:ap):Prop:=∀{S:ax}{n m:Int}{Q:bc}{E:bC},-100<=m->m<=100->Q (cf (n * m)) S->w [cf n,.tup [.int m,.int 1]] S Q E
def xK{xf:ap}(Kh:ow xf):zW (aP 2 (gi xf)):=by
 intro S n m Q E h1 h2 k
 unfold gi
 refine bT ?_
 rw[show am 2 [cf n,.tup [.int m,.int 1]]=[some (cf n),some (.tup [.int m,.int 1])] from rfl]
 simp only[cf]
 walk_at "x"
 simp only[cv,cX]
 have b:=cY n
 refine⟨nO (by omega) (by omega),nO (by decide) (by decide),Kh (by omega) (by omega) ?_⟩
 rw[s9]
 exact k
def Fz(n m:Int):(M3.aW n 2520 * M3.aE m 2520 < M3.aW m 2520 * M3.aE n 2520↔n < m):=by
 have w1:=dX n
 have w2:=dX m
 have b1:=(cY n).1
 have b2:=(cY m).1
 have b:=ZL b1 b2
 have e1:M3.aW n 2520 * M3.aE m 2520 * 2520=n * (M3.aE n 2520 * M3.aE m 2520):=by rw[Y5,w1];grind
 have e2:M3.aW m 2520 * M3.aE n 2520 * 2520=m * (M3.aE n 2520 * M3.aE m 2520):=by rw[Y5,w2];grind
 constructor
 ·intro h
  refine Int.lt_of_mul_lt_mul_right ?_ (Xz b)
  rw[<-e1,<-e2];omega
 ·intro h
  have:=Int.mul_lt_mul_of_pos_right h b
  rw[<-e1,<-e2]at this
  omega
abbrev zX(w:ap):Prop:=∀{S:ax}{n m:Int}{Q:bc}{E:bC},Q (.bl (decide (n < m))) S->w [cf n,cf m] S Q E
def tK:zX (aP 2 uN):=by
 intro S n m Q E k
 unfold uN
 refine bT ?_
 rw[show am 2 [cf n,cf m]=[some (cf n),some (cf m)] from rfl]
 simp only[cf,ar,af,v3,lk,c3,ae,cv,cX,bM,uK,f_]
 refine⟨kD _ _,kD _ _,?_⟩
 simp only[Fz]
 exact k
noncomputable def hi(x:Int):List Int->Int
 |[]=>x
 |y::r=>hi (if x < y then y else x) r
theorem zY(l:Int):∀(r:Zw)(x:Int),(l < hi x r↔l < x\/∃y∈r,l < y)
 |[],x=>by simp[hi]
 |y::r,x=>by
  rw[hi,zY l r]
  simp only[VL,exists_eq_or_imp]
  split
  ·constructor
   ·rintro(h|h)
    ·exact .inr (.inl h)
    ·exact .inr (.inr h)
   ·rintro(h|h|h)
    ·exact .inl (by omega)
    ·exact .inl h
    ·exact .inr h
  ·constructor
   ·rintro(h|h)
    ·exact .inl h
    ·exact .inr (.inr h)
   ·rintro(h|h|h)
    ·exact .inl h
    ·exact .inl (by omega)
    ·exact .inr h
abbrev zZ(w:ap):Prop:=∀{S:ax}{p:Addr}{n:Int}{ns:Zw}{Q:bc}{E:bC},S p=some (.lst ((n::ns).map cf))->Q (cf (hi n (n::ns))) S->w [.ref p] S Q E
def z_{xl:ap}(OD:zX xl):zZ (aP 3 (lF xl)):=by
 intro S p n ns Q E hp k
 unfold lF
 refine bT ?_
 rw[show am 3 [PV.ref p]=[some (.ref p),none,none] from rfl]
 refine ak fun N hN=>?_
 have e0:KN ((n::ns).map cf) 0=some (cf n):=cv
 simp only[aq,af,v3,lk,c3,ae,hp,e0,List.set_cons_zero,List.set_cons_succ]
 refine hN _ _ (ak fun N hN=>?_)
 simp only[bE,aJ,v3,lk,bF,hp]
 have go:∀(r:Zw) (x:Int) (z:Option PV),hi x r=hi n (n::ns)->oX (.n 2) (br (aR (ab xl [v3 1,v3 2])) (aq 1 (v3 2)) aQ) { nx:=N,rt:=Q,ex:=eE } (fun S'=>S' p=some (.lst ((n::ns).map cf))) (r.map cf) [some (.ref p),some (cf x),z] S:=by
  intro r
  induction r with
  |nil=>
   intro x z e
   refine⟨hp,hN _ _ ?_⟩
   rw[hi]at e
   simp only[ar,v3,lk,e]
   exact k
  |cons y r ih=>
   intro x z e
   refine⟨hp,?_⟩
   simp only[Tg.put,List.set_cons_zero,List.set_cons_succ,br,aR,ab,ao,v3,lk]
   refine OD ?_
   rw[hi]at e
   dsimp only
   by_cases h:x < y
   ·rw[Wu h,if_pos rfl]
    simp only[aq,v3,lk,List.set_cons_zero,List.set_cons_succ]
    exact ih y _ (by rw[if_pos h]at e;exact e)
   ·rw[Wc h,if_neg (by decide)]
    exact ih x _ (by rw[if_neg h]at e;exact e)
 exact go _ _ _ rfl
def WD(js:Zs)(ws:Zw)(q:Qs)(kvs:List (bo×PV)):Prop:=∀z∈js,(q z=true->lw kvs (Sum.inr z)=some (cf (wt js ws z)))/\(kvs.any fun kv=>decide (kv.1=Sum.inr z))=q z
noncomputable def lf(ls:Zw)(j:Int):Int:=ls.getD j.toNat 0
def kM{ls:Zw}{N j:Int}(hl:(ls.length:Int)=N+1)(h:to N j):KN (ls.map cf) j=some (cf (lf ls j)):=by
 obtain⟨k,rfl⟩:=WG h.1
 have hk:k < ls.length:=by have:=h.2;omega
 refine bU ?_
 rw[V2,V8 hk]
 simp[lf,List.getD,hk]
abbrev kN(w:ap):Prop:=∀{S:ax}{r:Rw}{js:Zs}{q:Qs}{ws ls:Zw}{kvs:List (bo×PV)}{d pl:Addr}{N:Int}{Q:bc}{E:bC},S pl=some (.lst (ls.map cf))->r.ok js q N->WD js ws q kvs->S d=some (.dct kvs)->(ls.length:Int)=N+1->
  (∀p S' v vs,S' p=some (.lst ((v::vs).map cf))->vs.length<=1->Ext S S'->(∀x:Int,(∃y∈v::vs,x < y)↔∃a∈r.asks q (wt js ws),x < a.1+lf ls a.2)->Q (.ref p) S')->w [r.pv,.ref pl,.ref d] S Q E
def tL{xp xt xm:ap}(Kt:tJ xp)(KL:zW xt)(P_:zV xm):kN (aP 4 (eQ xp xt xm)):=by
 intro S r js q ws ls kvs d pl N Q E hpl ho hw hd hl k
 unfold eQ
 refine bT ?_
 cases r with
 |pay c n=>
  rw[show am 4 [(Rw.pay c n).pv,.ref pl,.ref d]=[some (.tup [.str "pay",cf c,.int n]),some (.ref pl),some (.ref d),none] from rfl]
  refine ak fun N hN=>?_
  walk_at "y"
  refine hN _ _ (ak fun N hN=>?_)
  walk_at "y"
  refine hN _ _ (ak fun N hN=>?_)
  walk_at "y"
  simp only[hpl]
  rw[kM hl ho]
  refine Kt fun p hp=>k p _ (c+lf ls n) [] aa (by simp) (.new hp) fun x=>by simp[Rw.asks]
 |put z m n=>
  rw[show am 4 [(Rw.put z m n).pv,.ref pl,.ref d]=[some (.tup [.str "put",.str z,.int m,.int n]),some (.ref pl),some (.ref d),none] from rfl]
  obtain⟨hz,hq,m1,m9,hn⟩:=ho
  refine ak fun N hN=>?_
  walk_at "y"
  refine hN _ _ (ak fun N hN=>?_)
  walk_at "y"
  refine hN _ _ (ak fun N hN=>?_)
  walk_at "y"
  refine hN _ _ (ak fun N hN=>?_)
  walk_at "y"
  simp only[hd,hpl,(hw z hz).1 hq,kM hl hn]
  refine KL (by omega) (by omega) ?_
  simp only[hpl,kM hl hn]
  refine Kt fun p hp=>k p _ (wt js ws z * m+lf ls n) [] aa (by simp) (.new hp) fun x=>by simp[Rw.asks]
 |two h a b=>
  cases h
  all_goals
   first
   |rw[show am 4 [(Rw.two true a b).pv,.ref pl,.ref d]=[some (.tup [.str "either",.int a,.int b]),some (.ref pl),some (.ref d),none] from rfl]
   |rw[show am 4 [(Rw.two false a b).pv,.ref pl,.ref d]=[some (.tup [.str "often",.int a,.int b]),some (.ref pl),some (.ref d),none] from rfl]
   refine ak fun N hN=>?_
   walk_at "y"
   refine hN _ _ (ak fun N hN=>?_)
   walk_at "y"
   refine hN _ _ (ak fun N hN=>?_)
   walk_at "y"
   refine hN _ _ (ak fun N hN=>?_)
   walk_at "y"
   refine hN _ _ (ak fun N hN=>?_)
   walk_at "y"
   simp only[hpl,kM hl ho.1,kM hl ho.2]
   exact fun p hp=>k p _ (lf ls a) [lf ls b] aa (by simp) (.new hp) fun x=>by simp[Rw.asks,or_comm]
 |Ka z m a b=>
  rw[show am 4 [(Rw.Ka z m a b).pv,.ref pl,.ref d]=[some (.tup [.str "take",.str z,.int m,.int a,.int b]),some (.ref pl),some (.ref d),none] from rfl]
  obtain⟨hz,m1,m9,ha,hb⟩:=ho
  refine ak fun N hN=>?_
  walk_at "y"
  refine hN _ _ (ak fun N hN=>?_)
  walk_at "y"
  refine hN _ _ (ak fun N hN=>?_)
  walk_at "y"
  refine hN _ _ (ak fun N hN=>?_)
  walk_at "y"
  refine hN _ _ (ak fun N hN=>?_)
  walk_at "y"
  refine hN _ _ (ak fun N hN=>?_)
  walk_at "y"
  simp only[jC,hd,(hw z hz).2]
  by_cases hq:q z=true
  ·rw[hq]
   walk_at "y"
   refine hN _ _ ?_
   walk_at "y"
   simp only[hd,hpl,(hw z hz).1 hq,kM hl hb,kM hl ha]
   refine KL (by omega) (by omega) (P_ fun p hp=>k p _ (lf ls b) [lf ls a - wt js ws z * m] aa (by simp) (.new hp) fun x=>?_)
   simp[Rw.asks,hq]
   constructor
   ·rintro(h|h)
    ·exact .inl h
    ·exact .inr (by omega)
   ·rintro(h|h)
    ·exact .inl h
    ·exact .inr (by omega)
  ·rw[Bool.not_eq_true]at hq
   rw[hq]
   walk_at "y"
   simp only[hpl,kM hl hb]
   exact fun p hp=>k p _ (lf ls b) [] aa (by simp) (.new hp) fun x=>by simp[Rw.asks,hq]
def Aa{n m:Int}(h:cf n=cf m):n=m:=CW.Fu (Q:=2520) (by decide) h
def CC{q:Qs}{w:Str->Int}{r s:Rw}(h:r.pv=s.pv):r.asks q w=s.asks q w:=by
 cases r with
 |pay c n=>cases s with
  |pay c' n'=>
   simp only[Rw.pv,PV.tup.injEq,Yx,PV.int.injEq,YF,and_true]at h
   rw[Aa h.1,h.2]
  |_=>simp[Rw.pv,cf]at h
 |put z m n=>cases s with
  |put=>simp[Rw.pv]at h;simp[Rw.asks,h]
  |_=>simp[Rw.pv,cf]at h
 |two x a b=>cases s with
  |two=>simp[Rw.pv]at h;simp[Rw.asks,h]
  |_=>simp[Rw.pv,cf]at h
 |Ka z m a b=>cases s with
  |Ka=>simp[Rw.pv]at h;simp[Rw.asks,h]
  |_=>simp[Rw.pv,cf]at h
def KA(t:Bd)(q:Qs)(w:Str->Int)(l:Int->Int)(i:Int):Prop:=∀v,KN t.KU i=some v->(∀r:Rw,v=r.pv->∀a∈r.asks q w,a.1+l a.2<=l i)/\(v = .tup [.str "end"]->0<=l i)
def u8{t:Bd}{q:Qs}{w:Str->Int}{l:Int->Int}{i:Int}{r:Rw}(h:KN t.KU i=some r.pv):KA t q w l i↔∀a∈r.asks q w,a.1+l a.2<=l i:=by
 refine⟨fun k=>(k _ h).1 r rfl,fun k v hv=>?_⟩
 rw[h]at hv
 cases hv
 exact⟨fun r' e a ha=>k a (by rw[CC e];exact ha),fun e=>by cases r<;>simp[Rw.pv]at e⟩
def u9{t:Bd}{q:Qs}{w:Str->Int}{l:Int->Int}{i:Int}(h:KN t.KU i=some (.tup [.str "end"])):KA t q w l i↔0<=l i:=by
 refine⟨fun k=>(k _ h).2 rfl,fun k v hv=>?_⟩
 rw[h]at hv
 cases hv
 exact⟨fun r e=>by cases r<;>simp[Rw.pv]at e,fun _=>k⟩
noncomputable def cm(t:Bd)(q:Qs):List Int:=t.mk q 0++[(t.rows:Int)]
def rQ(q:Qs)(t:Bd):t.O8 q=(cm t q).map PV.int:=by
 unfold Bd.O8 cm
 rw[We,t.LZ q 0,t.Kv]
 rfl
def Ab{q:Qs}{t:Bd}{i:Int}(h:i∈cm t q):to t.rows i:=by
 rcases VO.mp h with h|h
 ·have:=t.KF q 0 i h;exact⟨by omega,by omega⟩
 ·rw[VN.mp h];exact⟨by omega,by omega⟩
def FA{js:Zs}{q:Qs}{t:Bd}(g:t.good js [])(hp:∀z∈t.J7 q,q z=true){i:Int}(h:i∈cm t q):(∃r:Rw,KN t.KU i=some r.pv/\r.ok js q t.rows)\/KN t.KU i=some (.tup [.str "end"]):=by
 rcases VO.mp h with h|h
 ·exact .inl (xA g hp h)
 ·rw[VN.mp h];exact .inr (qm t)
def CD{js:Zs}{q:Qs}{w:Str->Int}{N:Int}{r:Rw}(h:r.ok js q N){a:Int×Int}(ha:a∈r.asks q w):to N a.2:=by
 cases r with
 |pay c n=>rw[VN.mp ha];exact h
 |put z m n=>rw[VN.mp ha];exact h.2.2.2.2
 |two b x y=>
  rcases VL.mp ha with rfl|ha
  ·exact h.2
  ·rw[VN.mp ha];exact h.1
 |Ka z m x y=>
  rcases VL.mp ha with rfl|ha
  ·exact h.2.2.2.2
  ·split at ha
   ·rw[VN.mp ha];exact h.2.2.2.1
   ·cases ha
abbrev lX(w:ap):Prop:=∀{S:ax}{v:PV}{d:Addr}{Q:bc}{E:bC},(∀p S',S' p=some (.lst [cf 0])->Ext S S'->Q (.ref p) S')->w [.tup [.str "end"],v,.ref d] S Q E
def tM{xp xt xm:ap}:lX (aP 4 (eQ xp xt xm)):=by
 intro S v d Q E k
 unfold eQ
 refine bT ?_
 rw[show am 4 [.tup [.str "end"],v,.ref d]=[some (.tup [.str "end"]),some v,some (.ref d),none] from rfl]
 refine ak fun N hN=>?_
 walk_at "y"
 refine hN _ _ (ak fun N hN=>?_)
 walk_at "y"
 exact fun p hp=>k p _ (by rw[aa,gC]) (.new hp)
theorem wa{S:ax}:∀(vs:List PV),(∀v∈vs,∃d,Dat S v d/\d.canLay0=true)->∃ds,MB S vs ds/\PyData.canLayAll0 ds=true/\ds.length=vs.length
 |[],_=>⟨[],.nil,rfl,rfl⟩
 |v::r,h=>by
  obtain⟨d,h1,h2⟩:=h v (by simp)
  obtain⟨ds,g1,g2,g3⟩:=wa r fun x hx=>h x (by simp[hx])
  exact⟨d::ds,.cons h1 g1,by show(d.canLay0&&PyData.canLayAll0 ds)=true;rw[h2,g2];rfl,by rw[V1,V1,g3]⟩
def oy{neg:Bool}{S:ax}{a b:Addr}{vs:List PV}{Q:bc}(ha:S a=some (.lst vs))(hb:S b=some (.lst []))(h:∀v∈vs,∃d,Dat S v d/\d.canLay0=true)(q:Q (.bl (neg != vs.isEmpty)) S):bn neg (.ref a) (.ref b) S Q:=by
 obtain⟨ds,g1,g2,g3⟩:=wa vs h
 refine⟨.list ds,.list [],.ref ha g1,.ref hb .nil,g2,rfl,VU (Nat.min_le_right _ _) (by decide),?_⟩
 have e:(PyData.list ds).eqv (.list [])=vs.isEmpty:=by
  cases ds with
  |nil=>cases vs with
   |nil=>rfl
   |cons _ _=>simp at g3
  |cons d r=>cases vs with
   |nil=>simp at g3
   |cons _ _=>rfl
 rw[e]
 exact q
noncomputable def fd(n:Int):PyData:=.tuple [.int (M3.aW n 2520),.int (M3.aE n 2520)]
theorem mS{S:ax}:∀ns:List Int,MB S (ns.map cf) (ns.map fd)
 |[]=>.nil
 |n::r=>.cons (.tup (.cons (.int _) (.cons (.int _) .nil))) (mS r)
theorem rR:∀ns:List Int,PyData.canLayAll0 (ns.map fd)=true
 |[]=>rfl
 |n::r=>by simp[fd,PyData.canLayAll0,PyData.canLay0,rR r]
theorem Ac:∀ns:List Int,PyData.depthAll (ns.map fd)<=5
 |[]=>by simp[PyData.depthAll]
 |n::r=>by
  have:=Ac r
  simp only[VT,fd,PyData.depthAll,PyData.depth]
  omega
theorem Ad:∀ns ms:List Int,PyData.eqvAll (ns.map fd) (ms.map fd)=decide (ns=ms)
 |[],[]=>by simp[PyData.eqvAll]
 |[],_::_=>by simp[PyData.eqvAll]
 |_::_,[]=>by simp[PyData.eqvAll]
 |n::ns,m::ms=>by
  have ih:=Ad ns ms
  have e:PyData.eqv (fd n) (fd m)=decide (n=m):=by
   by_cases h:n=m
   ·subst h;simp[fd,PyData.eqv,PyData.eqvAll]
   ·rw[Wc h]
    refine Bool.eq_false_iff.mpr fun k=>h ?_
    simp[fd,PyData.eqv,PyData.eqvAll]at k
    exact Aa (by unfold cf;rw[k.1,k.2])
  simp only[VT,PyData.eqvAll,e,ih,Yx,Bool.decide_and]
def FB{S:ax}{a b:Addr}{ns ms:Zw}{Q:bc}(ha:S a=some (.lst (ns.map cf)))(hb:S b=some (.lst (ms.map cf)))(q:Q (.bl (true != decide (ns=ms))) S):bn true (.ref a) (.ref b) S Q:=by
 refine⟨.list (ns.map fd),.list (ms.map fd),.ref ha (mS ns),.ref hb (mS ms),rR ns,rR ms,VU (Nat.min_le_left _ _) ?_,?_⟩
 ·have:=Ac ns
  simp only[PyData.depth]
  omega
 ·rw[show PyData.eqv (.list (ns.map fd)) (.list (ms.map fd))=decide (ns=ms)from Ad ns ms]
  exact q
def FC{S:ax}{a:Addr}{ns:Zw}{Q:bc}(ha:S a=some (.lst (ns.map cf)))(q:Q (.bl true) S):bn true (.ref a) .non S Q:=
 ⟨.list (ns.map fd),.none,.ref ha (mS ns),.non,rR ns,rfl,VU (Nat.min_le_right _ _) (by decide),by simpa [PyData.eqv]using q⟩
theorem Ae{f g:Nat->Nat}:∀l:List Nat,(∀k∈l,f k<=g k)->(l.map f).sum<=(l.map g).sum
 |[],_=>VM _
 |x::r,h=>by
  simp only[VT,List.sum_cons]
  exact Nat.add_le_add (h x (by simp)) (Ae r fun k hk=>h k (by simp[hk]))
theorem Af{f g:Nat->Nat}:∀l:List Nat,(∀k∈l,f k<=g k)->(∃k∈l,f k < g k)->(l.map f).sum < (l.map g).sum
 |[],_,⟨_,h,_⟩=>by cases h
 |x::r,h,⟨k,hk,hlt⟩=>by
  simp only[VT,List.sum_cons]
  have h1:=h x (by simp)
  have h2:=Ae r fun k hk=>h k (by simp[hk])
  rcases VL.mp hk with rfl|hk
  ·omega
  ·have:=Af r (fun k hk=>h k (by simp[hk])) ⟨k,hk,hlt⟩
   omega
noncomputable def ms(U:Int->Int)(n:Nat)(ls:Zw):Nat:=((List.range n).map fun k:Nat=>(U (k:Int) - lf ls (k:Int)).toNat).sum
def lY(ls:Zw)(k:Nat):lf ls (k:Int)=ls.getD k 0:=rfl
def Hj{U:Int->Int}{n:Nat}{as ls:Zw}(ha:as.length=n)(hl:ls.length=n)(h:∀k:Nat,lf as k<=lf ls k)(hU:∀k:Nat,k < n->lf ls k<=U k)(ne:ls≠as):ms U n ls < ms U n as:=by
 refine Af _ (fun k hk=>?_) ?_
 ·have:=h k
  omega
 ·refine YM fun c=>ne (Z4 fun k=>?_)
  by_cases hk:k < n
  ·have e:¬((U (k:Int) - lf ls (k:Int)).toNat < (U (k:Int) - lf as (k:Int)).toNat):=fun q=>c ⟨k,Ym.mpr hk,q⟩
   have h1:=h k
   have h2:=hU k hk
   have:lf ls (k:Int)=lf as (k:Int):=by omega
   rw[lY,lY,Xg,Xg,V8 (by omega),V8 (by omega)]at this
   rw[V8 (by omega),V8 (by omega)]
   simpa using this
  ·rw[W6 (by omega),W6 (by omega)]
def oz{ls:Zw}{i:Nat}{h:Int}(hi:i < ls.length)(k:Nat):lf (ls.set i h) k=if k=i then h else lf ls k:=by
 rw[lY,lY,Xg,Xg,Z5]
 by_cases e:k=i
 ·rw[if_pos e.symm,if_pos (by omega),if_pos e];rfl
 ·rw[if_neg (Xl e),if_neg e]
def Hk{x:Int}{r:Zw}:x<=hi x r/\∀y∈r,y<=hi x r:=by
 have h:=zY (hi x r) r x
 constructor
 ·exact ZC.mp fun c=>Int.lt_irrefl _ (h.mpr (.inl c))
 ·exact fun y hy=>ZC.mp fun c=>Int.lt_irrefl _ (h.mpr (.inr ⟨y,hy,c⟩))
def Hl{x B:Int}{r:Zw}(hx:x<=B)(hr:∀y∈r,y<=B):hi x r<=B:=ZC.mp fun c=>by
 rcases(zY B r x).mp c with h|⟨y,hy,h⟩
 ·omega
 ·have:=hr y hy;omega
structure Lb(t:Bd)(q:Qs)(U:Int->Int)(ls:Zw):Prop where
 len:ls.length=t.rows+1
 lo:∀k:Nat,0<=lf ls k
 up:∀k:Nat,lf ls k<=U k
 out:∀k:Nat,(k:Int) ∉ cm t q->lf ls k=0
abbrev lZ(w:ap):Prop:=∀{S:ax}{t:Bd}{js:Zs}{q:Qs}{ws:Zw}{kvs:List (bo×PV)}{d:Addr}{U:Int->Int}{Q:bc}{E:bC},t.good js []->(∀z∈t.J7 q,q z=true)->t.size<=400->WD js ws q kvs->S d=some (.dct kvs)->(∀k:Nat,0<=U k)->(∀i∈cm t q,KA t q (wt js ws) U i)->
  (∀ls S',Lb t q U ls->(∀i∈cm t q,KA t q (wt js ws) (lf ls) i)->Ext S S'->Q (.tup (ls.map cf)) S')->w [.tup t.KU,.tup (t.O8 q),.ref d] S Q E
def FD{xh xa:ap}(OE:zZ xh)(N9:kN xa)(Pr:lX xa){S0 S:ax}{t:Bd}{js:Zs}{q:Qs}{ws ls:Zw}{kvs:List (bo×PV)}{d pl:Addr}{U:Int->Int}{i:Int}{x4:Option PV}{D:ni}
  (g:t.good js []) (hp:∀z∈t.J7 q,q z=true) (hs:t.size<=400) (hw:WD js ws q kvs) (hd:S0 d=some (.dct kvs)) (TF:S0 pl=none) (Sw:∀i∈cm t q,KA t q (wt js ws) U i) (hi':i∈cm t q) (L:Lb t q U ls) (X:∀a o,S0 a=some o->S a=some o) (hpl:S pl=some (.lst (ls.map cf)))
  (k:∀h S',(∀a o,S a=some o->a≠pl->S' a=some o)->S' pl=some (.lst ((ls.set i.toNat h).map cf))->Lb t q U (ls.set i.toNat h)->lf ls i<=h->(h=lf ls i->KA t q (wt js ws) (lf ls) i)->D.nx [some (.tup t.KU),some (.tup (t.O8 q)),some (.ref d),some (.ref pl),x4,some (.int i)] S') :
  gf (ab xh [(af aN (aY [(af ae (v3 3) (v3 5))]) (ab xa [(af ae (v3 0) (v3 5)),(v3 3),(v3 2)]))]) (v3 3) (v3 5) D [some (.tup t.KU),some (.tup (t.O8 q)),some (.ref d),some (.ref pl),x4,some (.int i)] S:=by
 have hto:=Ab hi'
 have hl':(ls.length:Int)=t.rows+1:=by have:=L.len;omega
 obtain⟨n,rfl⟩:=WG hto.1
 have hn:n < ls.length:=by have:=hto.2;have:=L.len;omega
 have Vw:d≠pl:=fun e=>by rw[e,TF]at hd;cases hd
 simp only[gf,ab,ao,af,aY,v3,lk,ae,hpl,kM hl' hto]
 intro p0 hp0
 have n0:pl≠p0:=fun e=>by rw[<-e,hpl]at hp0;cases hp0
 have X0:Ext S (JZ S p0 (.lst [cf (lf ls n)])):=.new hp0
 have f0:(JZ S p0 (.lst [cf (lf ls n)])) p0=some (.lst [cf (lf ls n)]):=aa
 generalize JZ S p0 (.lst [cf (lf ls n)])=S1 at X0 f0
 -- behind the TH
 have fin:∀(p1:Addr)(S2:ax)(v:Int)(vs:Zw),S2 p1=some (.lst ((v::vs).map cf))->vs.length<=1->Ext S1 S2->(∀y∈v::vs,y<=U n)->((∀y∈v::vs,y<=lf ls n)->KA t q (wt js ws) (lf ls) n)->
   aN (.ref p0) (.ref p1) S2 fun x S3=>xh [x] S3 (fun v S1=>eM (.ref pl) (.int (n:Int)) v S1 fun S4=>D.nx [some (.tup t.KU),some (.tup (t.O8 q)),some (.ref d),some (.ref pl),x4,some (.int (n:Int))] S4) D.ex:=by
  intro p1 S2 v vs f1 lv X2 hU hka
  simp only[aN,X2 _ _ f0,f1]
  refine⟨?_,fun p2 hp2=>?_⟩
  ·exact bt (by simp only[VI,List.length_cons,List.length_nil];omega)
  ·have X3:Ext S2 (JZ S2 p2 (.lst ([cf (lf ls n)]++(v::vs).map cf))):=.new hp2
   have f3:(JZ S2 p2 (.lst ([cf (lf ls n)]++(v::vs).map cf))) p2=some (.lst ((lf ls n::v::vs).map cf)):=aa
   generalize JZ S2 p2 (.lst ([cf (lf ls n)]++(v::vs).map cf))=S3 at X3 f3
   refine OE f3 ?_
   have TJ:=X3 _ _ (X2 _ _ (X0 _ _ hpl))
   have hlt:n < (ls.map cf).length:=by rw[VI];exact hn
   simp only[eM,TJ,vW hlt]
   obtain⟨h1,h2⟩:=Hk (x:=lf ls n) (r:=lf ls n::v::vs)
   have h3:hi (lf ls n) (lf ls n::v::vs)<=U n:=Hl (L.up n) fun y hy=>by
    rcases VL.mp hy with rfl|hy
    ·exact L.up n
    ·exact hU y hy
   generalize hi (lf ls n) (lf ls n::v::vs)=h at h1 h2 h3
   rw[show(ls.map cf).set n (cf h)=(ls.set n h).map cf by rw[List.map_set]]
   refine k h _ (fun a o ha hne=>?_) aa ⟨by show(ls.set n h).length=_;rw[ZN];exact L.len,fun j=>?_,fun j=>?_,fun j hj=>?_⟩ h1 fun e=>hka fun y hy=>?_
   ·rw[av hne];exact X3 _ _ (X2 _ _ (X0 _ _ ha))
   ·show 0<=lf (ls.set n h) j
    rw[oz hn]
    split
    ·have:=L.lo n;omega
    ·exact L.lo j
   ·show lf (ls.set n h) j<=U j
    rw[oz hn]
    split
    ·rename_i e;subst e;exact h3
    ·exact L.up j
   ·show lf (ls.set n h) j=0
    rw[oz hn,if_neg (fun e=>hj (by rw[e];exact hi'))]
    exact L.out j hj
   ·have:=h2 y (by simp[hy]);omega
 rcases FA g hp hi' with⟨r,er,ro⟩|er
 ·rw[er]
  refine N9 (X0 _ _ hpl) ro hw (X0 _ _ (X _ _ hd)) hl' fun p1 S2 v vs f1 lv X2 ha=>fin p1 S2 v vs f1 lv X2 (fun y hy=>?_) fun hall=>?_
  ·refine ZC.mp fun c=>?_
   obtain⟨a,ham,hlt⟩:=(ha (U n)).mp ⟨y,hy,c⟩
   have h1:=(u8 er).mp (Sw _ hi') a ham
   have h2:lf ls a.2<=U a.2:=by
    obtain⟨m,e⟩:=WG (CD ro ham).1
    rw[e];exact L.up m
   omega
  ·refine(u8 er).mpr fun a ham=>ZC.mp fun c=>?_
   obtain⟨y,hy,hlt⟩:=(ha (lf ls n)).mpr ⟨a,ham,c⟩
   have:=hall y hy
   omega
 ·rw[er]
  refine Pr fun p1 S2 f1 X2=>fin p1 S2 0 [] f1 (by simp) X2 (fun y hy=>?_) fun hall=>?_
  ·rw[VN.mp hy]
   exact(u9 er).mp (Sw _ hi')
  ·exact(u9 er).mpr (L.lo n)
theorem wb:∀k:Nat,(List.replicate k [(.tup [.int 0,.int 1]:PV)]).flatten=(List.replicate k (0:Int)).map cf
 |0=>rfl
 |k+1=>by rw[Wo,Xm,wb k,Wo,VT,<-gC];rfl
def Ag{S:ax}{k:Nat}{Q:bc}(hk:k<=1000)(kk:∀p S',S p=none->Ext S S'->S' p=some (.lst ((List.replicate k (0:Int)).map cf))->Q (.ref p) S') :
  ∀p,S p=none->bM (.ref p) (.int (k:Int)) (JZ S p (.lst [.tup [.int 0,.int 1]])) Q:=by
 intro p0 hp0
 simp only[bM,aa,Int.toNat_natCast]
 refine⟨by omega,by omega,bt (by simp only[List.length_singleton];omega),fun pz P9=>?_⟩
 rw[wb]
 exact kk pz _ ((Ext.new hp0).free P9) ((Ext.new hp0).trans (.new P9)) aa
theorem J_:∀t:Bd,t.rows<=t.size
 | .rest=>Ws _
 | .pay _ _=>VM _
 | .put _ _=>VM _
 | .use _=>VM _
 | .Kf a=>by have:=J_ a;simp only[Bd.rows,Bd.size];omega
 | .J9 a b=>by have:=J_ a;have:=J_ b;simp only[Bd.rows,Bd.size];omega
 | .Kg a b=>by have:=J_ a;have:=J_ b;simp only[Bd.rows,Bd.size];omega
 | .Ka _ _ a b=>by have:=J_ a;have:=J_ b;simp only[Bd.rows,Bd.size];omega
def N_{xh xa:ap}(OE:zZ xh)(N9:kN xa)(Pr:lX xa):lZ (aP 6 (fG xh xa)):=by
 intro S t js q ws kvs d U Q E g hp hs hw hd hU Sw k
 unfold fG
 refine bT ?_
 rw[show am 6 [.tup t.KU,.tup (t.O8 q),.ref d]=[some (.tup t.KU),some (.tup (t.O8 q)),some (.ref d),none,none,none] from rfl]
 have hcl:t.KU.length=t.rows+1:=by unfold Bd.KU;rw[VH,Bd.J5];rfl
 have hrs:t.rows<=t.size:=J_ t
 refine ak fun N hN=>?_
 simp only[aq,af,aY,aC,ao,au,dg,v3,c3,lk,hcl]
 rw[show((t.rows+1:Nat):Int)=((t.rows+1:Nat):Int)from rfl]
 refine Ag (k:=t.rows+1) (by omega) fun pl S1 RS X1 f1=>?_
 have L0:Lb t q U (List.replicate (t.rows+1) 0):=by
  have e:∀j:Nat,lf (List.replicate (t.rows+1) 0) j=0:=fun j=>by
   rw[lY,Xg,Xk]
   split<;>rfl
  exact⟨WQ,fun j=>by rw[e];exact Wi _,fun j=>by rw[e];exact hU j,fun j _=>e j⟩
 refine hN _ _ (ak fun N hN=>?_)
 simp only[aq,c3,List.set_cons_zero,List.set_cons_succ]
 refine hN _ _ (ak fun N hN=>?_)
 refine⟨fun m σ S'=>∃(ls:Zw) (x4:PV) (x5:Option PV),σ=[some (.tup t.KU),some (.tup (t.O8 q)),some (.ref d),some (.ref pl),some x4,x5]/\Ext S S'/\S' pl=some (.lst (ls.map cf))/\Lb t q U ls/\
  ((x4 = .non/\m=1+ms U (t.rows+1) ls)\/∃pa as,x4 = .ref pa/\S' pa=some (.lst (as.map cf))/\((ls=as/\∀i∈cm t q,KA t q (wt js ws) (lf ls) i)\/(ls≠as/\m=1+ms U (t.rows+1) ls))),⟨_,_,_,_,rfl,X1,f1,L0,.inl ⟨rfl,rfl⟩⟩,?_⟩
 rintro m σ S2 ⟨ls,x4,x5,rfl,X2,f2,L2,h2⟩
 -- one turn of the while
 have turn:m=1+ms U (t.rows+1) ls->∃N':cG->ax->Prop,(∀σ' S',N' σ' S'->∃m',m' < m/\∃(ls:Zw) (x4:PV) (x5:Option PV),σ'=[some (.tup t.KU),some (.tup (t.O8 q)),some (.ref d),some (.ref pl),some x4,x5]/\Ext S S'/\S' pl=some (.lst (ls.map cf))/\Lb t q U ls/\
  ((x4 = .non/\m'=1+ms U (t.rows+1) ls)\/∃pa as,x4 = .ref pa/\S' pa=some (.lst (as.map cf))/\((ls=as/\∀i∈cm t q,KA t q (wt js ws) (lf ls) i)\/(ls≠as/\m'=1+ms U (t.rows+1) ls))))/\
   ah (aq 4 (au im [(v3 3)])) (bE (vM (v3 1)) (.n 5) (gf (ab xh [(af aN (aY [(af ae (v3 3) (v3 5))]) (ab xa [(af ae (v3 0) (v3 5)),(v3 3),(v3 2)]))]) (v3 3) (v3 5))) { nx:=N',rt:=Q,ex:=eE,bk:=N,ct:=N' } [some (.tup t.KU),some (.tup (t.O8 q)),some (.ref d),some (.ref pl),some x4,x5] S2:=by
  intro hm
  refine⟨_,fun _ _ h=>h,?_⟩
  refine ak fun N2 MZ=>?_
  simp only[aq,au,ao,v3,lk,im,jj,f2,List.set_cons_zero,List.set_cons_succ]
  intro pa hpa
  have Uv:pa≠pl:=fun e=>by rw[e,f2]at hpa;cases hpa
  have X3:Ext S (JZ S2 pa (.lst (ls.map cf))):=X2.trans (.new hpa)
  have f3:(JZ S2 pa (.lst (ls.map cf))) pl=some (.lst (ls.map cf)):=by rw[av (Xl Uv)];exact f2
  have a3:(JZ S2 pa (.lst (ls.map cf))) pa=some (.lst (ls.map cf)):=aa
  generalize JZ S2 pa (.lst (ls.map cf))=S3 at X3 f3 a3
  refine MZ _ _ ?_
  simp only[bE,vM,v3,lk,rQ,<-List.map_reverse]
  refine bg (fun done σ S'=>∃(cs:Zw) (x5:Option PV),σ=[some (.tup t.KU),some (.tup ((cm t q).map PV.int)),some (.ref d),some (.ref pl),some (.ref pa),x5]/\Ext S S'/\S' pl=some (.lst (cs.map cf))/\S' pa=some (.lst (ls.map cf))/\Lb t q U cs/\(∀k:Nat,lf ls k<=lf cs k)/\(cs=ls->∀i,PV.int i∈done->KA t q (wt js ws) (lf ls) i)) ⟨ls,_,rfl,X3,f3,a3,L2,fun _=>Wi _,fun _ i hi=>nomatch hi⟩ (fun _ _ _ _=>trivial) ?_ ?_
  ·rintro done x rest σ S4 K e ⟨cs,Vx,rfl,X4,f4,a4,L4,RT,TK⟩ hK
   obtain⟨i,hi',rfl⟩:∃i,i∈cm t q/\PV.int i=x:=by
    have:x∈(cm t q).reverse.map PV.int:=by rw[e];simp
    obtain⟨i,hi',rfl⟩:=VW.mp this
    exact⟨i,List.mem_reverse.mp hi',rfl⟩
   simp only[Tg.put,List.set_cons_zero,List.set_cons_succ]
   rw[<-rQ]
   have hin:i.toNat < cs.length:=by have:=Ab hi';have:=L4.len;have:=this;unfold to at *;omega
   refine FD OE N9 Pr (S0:=S) g hp hs hw hd (RS) Sw hi' L4 (fun a o h=>X4 a o h) f4 fun h S5 keep f5 L5 Vy Vz=>?_
   have hto:=Ab hi'
   obtain⟨n,rfl⟩:=WG hto.1
   rw[rQ]
   have Rk:n < cs.length:=hin
   refine hK _ _ ⟨cs.set n h,_,rfl,fun a o ha=>keep _ _ (X4 a o ha) fun e=>?_,f5,keep _ _ a4 Uv,L5,fun j=>?_,fun ec j hj=>?_⟩
   ·rw[e,RS]at ha;cases ha
   ·rw[oz Rk]
    split
    ·rename_i e;rw[e];exact YJ (RT n) Vy
    ·exact RT j
   ·have eh:h=lf cs n:=by
     have e1:lf (cs.set n h) n=lf ls n:=by rw[ec]
     rw[oz Rk,if_pos rfl]at e1
     have:=RT n
     omega
    have Uw:cs=ls:=by
     rw[<-ec]
     refine Z4 fun k=>?_
     rw[Z5]
     split
     ·rename_i e;subst e
      rw[eh,lY,Xg,V8 Rk]
      rfl
     ·rfl
    rcases VO.mp hj with hj|hj
    ·exact TK Uw j hj
    ·have:j=(n:Int):=by simpa using hj
     rw[this,<-Uw]
     exact Vz eh
  ·rintro σ S4 ⟨cs,Vx,rfl,X4,f4,a4,L4,RT,TK⟩
   rw[<-rQ]
   by_cases ec:cs=ls
   ·exact⟨0,by omega,cs,_,_,rfl,X4,f4,L4,.inr ⟨pa,ls,rfl,a4,.inl ⟨ec,fun i hi'=>by rw[ec];exact TK ec i (VW.mpr ⟨i,List.mem_reverse.mpr hi',rfl⟩)⟩⟩⟩
   ·refine⟨1+ms U (t.rows+1) cs,?_,cs,_,_,rfl,X4,f4,L4,.inr ⟨pa,ls,rfl,a4,.inr ⟨ec,rfl⟩⟩⟩
    have:=Hj (U:=U) L2.len L4.len RT (fun k _=>L4.up k) ec
    omega
 simp only[aR,af,v3,lk]
 rcases h2 with⟨rfl,hm⟩|⟨pa,as,rfl,fa,h2⟩
 ·refine FC f2 ?_
  simp only[WB]
  exact turn hm
 ·refine FB f2 fa ?_
  rcases h2 with⟨e,hka⟩|⟨ne,hm⟩
  ·rw[Wu e]
   simp only[Wt,W5,VZ,Wx]
   refine hN _ _ ?_
   simp only[ar,au,ao,v3,lk,aS,jj,f2]
   exact k ls S2 L2 hka X2
  ·rw[Wc ne]
   simp only[Wt,WL,WB]
   exact turn hm
theorem tN:∀(l acc:List (bo×PV)),((acc++l).map Prod.fst).Nodup->iu acc l=acc++l
 |[],acc,_=>by simp[iu]
 |(k,v)::l,acc,h=>by
  have hk:(acc.any fun kv=>decide (kv.1=k))=false:=by
   rw[List.any_eq_false]
   intro x hx
   rw[VS]
   intro e
   rw[We,Z6]at h
   exact h.2.2 x.1 (List.mem_map_of_mem hx) k (by simp) e
  show iu (nB acc k v) l=_
  rw[nB,hk,if_neg (by decide),tN l _ (by simpa using h)]
  simp
noncomputable def kv(p:Str×Int):bo×PV:=(Sum.inr p.1,cf p.2)
theorem tO:∀l:List (Str×Int),i6 (l.map fun p=>PV.tup [.str p.1,cf p.2])=some (l.map kv)
 |[]=>rfl
 |p::l=>by
  rw[VT,i6,tO l]
  rfl
def CF{z:Str}:∀{js:Zs}{ws:Zw}{q:Qs},z ∉ js->((((js.zip ws).filter fun p=>q p.1).map kv).any fun x=>decide (x.1=Sum.inr z))=false:=by
 intro js ws q h
 rw[List.any_eq_false]
 intro x hx
 obtain⟨p,hp,rfl⟩:=VW.mp hx
 have:=(Yw (WI.mp hp).1).1
 simp only[kv,VS,Sum.inr.injEq]
 intro e
 exact h (e▸this)
theorem Di{q:Qs}:∀{js:Zs}{ws:Zw},js.Nodup->ws.length=js.length->WD js ws q (((js.zip ws).filter fun p=>q p.1).map kv)
 |[],_,_,_=>fun z hz=>by cases hz
 |j::js,[],_,e=>by cases e
 |j::js,w::ws,nd,e=>fun z hz=>by
  have Ux:=WJ.mp nd
  have ih:=Di (q:=q) (js:=js) (ws:=ws) Ux.2 (by simpa using e)
  rw[List.zip_cons_cons]
  by_cases RU:j=z
  ·subst RU
   cases hq:q j with
   |true=>
    rw[Wj (by simpa using hq)]
    exact⟨fun _=>by simp[kv,lw,wt],by simp[kv]⟩
   |false=>
    rw[W0 (by simp[hq])]
    exact⟨fun h=>(by cases h),CF Ux.1⟩
  ·have hz':z∈js:=(VL.mp hz).resolve_left fun h=>RU h.symm
   have ih':=ih z hz'
   have ew:wt (j::js) (w::ws) z=wt js ws z:=by simp[wt,RU]
   rw[ew]
   cases hq:q j with
   |true=>
    rw[Wj (by simpa using hq)]
    refine⟨fun h=>?_,?_⟩
    ·rw[VT,kv,lw,if_neg (by simpa using RU)];exact ih'.1 h
    ·rw[VT,YT,ih'.2,kv];simp[RU]
   |false=>
    rw[W0 (by simp[hq])]
    exact ih'
def Hm{js:Zs}{ws:Zw}{q:Qs}(nd:js.Nodup)(hl:ws.length=js.length):((((js.zip ws).filter fun p=>q p.1).map kv).map Prod.fst).Nodup:=by
 rw[V9]
 have:(Prod.fst ∘ kv)=fun p:Str×Int=>(Sum.inr p.1:bo):=rfl
 rw[this]
 have h1:((js.zip ws).map Prod.fst).Nodup:=by
  rw[List.map_fst_zip (by omega)]
  exact nd
 have h2:(((js.zip ws).filter fun p=>q p.1).map Prod.fst).Nodup:=h1.sublist (List.filter_sublist.map _)
 rw[show(((js.zip ws).filter fun p=>q p.1).map fun p:Str×Int=>(Sum.inr p.1:bo))=(((js.zip ws).filter fun p=>q p.1).map Prod.fst).map (Sum.inr:Str->bo) by rw[V9];rfl]
 exact List.Pairwise.map _ (fun a b h e=>h (Sum.inr.inj e)) h2
noncomputable abbrev qh(js:Zs)(ds:List (Str×Bd)):Qs:=mq (held ds js.length)
def rT{js:Zs}{ds:List (Str×Bd)}{hs:Zs}(h:PN js ds hs):mq hs=qh js ds:=(Ce h.1 h.2.1 h.2.2.1 h.2.2.2).symm
theorem l0{α:Type}{g:Tg}{tc:k8}{te:bd}{σ':cG}{keep:ax->Prop}{fin:List PV->ax->Prop}{S:ax}(enc f:α->PV)(b:α->Bool)(hk:keep S):∀(xs:List α)(ys:List PV),
  (∀x∈xs,∃σ2,g.put (enc x) σ'=some σ2/\(∀K:Bool->ax->Prop,K (b x) S->tc σ2 S K eE)/\∀Q:bc,Q (f x) S->te σ2 S Q eE)->ys.length+xs.length<=sizeLine->fin (ys++(xs.filter b).map f) S->cJ g tc te σ' keep fin (xs.map enc) ys S
 |[],ys,_,hl,hf=>⟨hk,by simpa using hl,by simpa using hf⟩
 |x::r,ys,h,hl,hf=>by
  obtain⟨σ2,e,h1,h2⟩:=h x (by simp)
  refine⟨hk,by simp at hl;omega,?_⟩
  rw[e]
  refine h1 _ ?_
  cases hb:b x with
  |true=>
   rw[if_pos rfl]
   refine h2 _ (l0 enc f b hk r _ (fun y hy=>h y (by simp[hy])) (by simp at hl ⊢;omega) ?_)
   rw[Wj hb]at hf
   simpa using hf
  |false=>
   rw[if_neg (by decide)]
   refine l0 enc f b hk r _ (fun y hy=>h y (by simp[hy])) (by simp at hl ⊢;omega) ?_
   rw[W0 (by rw[hb];decide)]at hf
   exact hf
def Hn{te:bd}{D:ni}{σ:cG}{S:ax}(h:te σ S D.rt D.ex):ar te D σ S:=h
abbrev rV(w:ap):Prop:=∀{S:ax}{js:Zs}{ds:List (Str×Bd)}{ws:Zw}{Q:bc}{E:bC},HG js ds->js.Nodup->ws.length=js.length->
  (∀p kvs S',WD js ws (qh js ds) kvs->S' p=some (.dct kvs)->Ext S S'->(∀p∈ds,∀z∈p.2.J7 (qh js ds),qh js ds z=true)->Q (.ref p) S')->w [jv js ds,.tup (ws.map cf)] S Q E
def NB{xf:ap}(Mn:c_ xf):rV (aP 3 (b4 xf)):=by
 intro S js ds ws Q E hg nd hl k
 unfold b4
 refine bT ?_
 rw[show am 3 [jv js ds,.tup (ws.map cf)]=[some (.tup [.tup (js.map PV.str),.tup (ds.map gZ)]),some (.tup (ws.map cf)),none] from rfl]
 refine ak fun N hN=>?_
 simp only[aq,ab,ao,v3,lk]
 refine Mn hg fun nm hs S1 hnm X1 PR hf=>hN _ _ (Hn ?_)
 have hh:=hf.ok hg.jw
 simp only[au,ao,aK,ki,af,ae,v3,lk,c3,cv,List.set_cons_zero,List.set_cons_succ,cQ,List.reduceReplicate,VT,Wr,List.cons_append,List.nil_append]
 have ez:bz (js.map PV.str) (ws.map cf)=(js.zip ws).map fun p=>PV.tup [.str p.1,cf p.2]:=by
  unfold bz
  rw[Zi,V9]
  rfl
 rw[ez]
 have jl:=hg.jl
 refine l0 (α:=Str×Int) (keep:=fun _=>True) (S:=S1) (fun p=>PV.tup [.str p.1,cf p.2]) (fun p=>PV.tup [.str p.1,cf p.2]) (fun p=>mq hs p.1) trivial (js.zip ws) [] (fun p hp=>?_) (bt (by rw[XG];simp;omega)) ?_
 ·have hz:=(Yw hp).1
  refine⟨_,rfl,fun K q=>?_,fun Q q=>q⟩
  simp only[aR,af,v3,lk,List.set_cons_zero,List.set_cons_succ]
  exact eB PR (hg.jw _ hz) hh (by rw[VX];exact q)
 ·rw[Wm]
  intro p1 hp1
  simp only[q_,aa,tO]
  intro p2 hp2
  have e:=tN (((js.zip ws).filter fun p=>mq hs p.1).map kv) [] (by rw[Wm];exact Hm nd hl)
  rw[e,Wm]
  refine k p2 _ _ (by rw[<-rT hf];exact Di nd hl) aa (X1.trans ((Ext.new hp1).trans (.new hp2))) fun p hp z hz=>?_
  rw[<-rT hf]at hz ⊢
  exact Wu (hf.2.2.2 z (Wl.mpr ⟨p,hp,hz⟩))
def Ah{q:Qs}{js:Zs}{ds:List (Str×Bd)}(hP:HP js ds):Ji js.length ds.length (Np q js ds):=⟨by have:=rM (q:=q) hP;rw[rO,VI]at this;exact this,fun l hl=>zR hP hl⟩
theorem qt{α:Type}{g:Tg}{te:bd}{σ':cG}{keep:ax->Prop}{fin:List PV->ax->Prop}(enc f:α->PV){S0:ax}(hk:∀S,Ext S0 S->keep S):∀(xs:List α)(ys:List PV)(S:ax),Ext S0 S->ys.length+xs.length<=1000000->
  (∀x∈xs,∀S,Ext S0 S->∃σ2,g.put (enc x) σ'=some σ2/\∀K:bc,(∀S',Ext S S'->K (f x) S')->te σ2 S K eE)->
  (∀S',Ext S0 S'->fin (ys++xs.map f) S')->cJ g bN te σ' keep fin (xs.map enc) ys S
 |[],ys,S,X,hl,_,hf=>⟨hk S X,mr (by simpa using hl),by simpa using hf S X⟩
 |x::r,ys,S,X,hl,h,hf=>by
  obtain⟨σ2,e,h1⟩:=h x (by simp) S X
  refine⟨hk S X,mr (by simp at hl ⊢;omega),?_⟩
  rw[e]
  simp only[bN,WB]
  refine h1 _ fun S' X'=>?_
  exact qt enc f hk r (ys++[f x]) S' (X.trans X') (by simp at hl ⊢;omega) (fun y hy=>h y (by simp[hy])) fun S2 X2=>by simpa using hf S2 X2
inductive Al:Nat->PV->Prop
 |non {n:Nat}:Al (n+1) .non
 |int {n:Nat} (i:Int):Al (n+1) (.int i)
 |str {n:Nat} (z:Str):Al (n+1) (.str z)
 |tup {n:Nat} {xs:List PV} (l:xs.length<=1000000) (h:∀x∈xs,Al n x):Al (n+1) (.tup xs)
abbrev rW(n:Nat)(f:ap):Prop:=∀{S:ax}{v:PV}{Q:bc}{E:bC},Al n v->(∀S',Ext S S'->Q (.bl true) S')->f [v,v] S Q E
def rX{s0:ap}{S:ax}{v:PV}{t:String}{Q:bc}(h:AO S v=some t)(hn:qO t "tuple" = false)(q:∀Q2:bc,Q2 (.bl true) S->bn false v v S Q2)(k:Q (.bl true) S) :
  CL.cV s0 { nx:=fun _ S'=>Q .non S',rt:=Q,ex:=eE } [some v,some v] S:=by
 unfold CL.cV
 refine ak fun N hN=>?_
 simp only[br,oM,aR,au,ao,v3,lk,c3]
 refine gG h (by decide +kernel) ?_
 rw[hn]
 simp only[VZ,Wx]
 refine gG h (by decide +kernel) ?_
 rw[hn]
 simp only[VZ,Wx,aQ]
 refine hN _ _ ?_
 simp only[ar,cO,af,au,ao,v3,lk,c3]
 refine q _ ?_
 dsimp only
 rw[if_pos rfl]
 refine gG h (by decide +kernel) (gG h (by decide +kernel) ?_)
 rw[show ∀(b:Bool)(Q3:bc),bn false (.bl b) (.bl b) S Q3=Q3 (.bl (false != decide (b=b))) S from fun b Q3=>rfl]
 rw[VX,Wu rfl]
 exact k
def xL(xs:List PV):bz xs xs=xs.map fun x=>.tup [x,x]:=by
 unfold bz
 induction xs with
 |nil=>rfl
 |cons x r ih=>simp only[List.zip_cons_cons,VT];rw[ih]
def Qa{s0:ap}(n:Nat)(ih:rW n s0):rW (n+1) (aP 2 (CL.cV s0)):=by
 intro S v Q E h k
 refine bT ?_
 rw[show am 2 [v,v]=[some v,some v] from rfl]
 cases h with
 |non=>exact rX (t:="NoneType") rfl (by decide +kernel) (fun Q2 q=>⟨.none,.none,.non,.non,by decide +kernel,by decide +kernel,by decide +kernel,q⟩) (k _ .refl)
 |int i=>exact rX (t:="int") rfl (by decide +kernel) (fun Q2 q=>by simp only[bn,Xp];exact q) (k _ .refl)
 |str z=>exact rX (t:="str") rfl (by decide +kernel) (fun Q2 q=>by simp only[bn,Xp];exact q) (k _ .refl)
 |@tup _ xs l hx=>
  unfold CL.cV
  refine ak fun N hN=>?_
  have ht:AO S (.tup xs)=some "tuple":=rfl
  have hi:qO "tuple" "tuple" = true:=by decide +kernel
  simp only[br,oM,aR,au,ao,v3,lk,c3]
  refine gG ht (by decide +kernel) ?_
  rw[hi]
  simp only[WB]
  refine ak fun N2 MZ=>?_
  simp only[br,oM,oU,aR,af,au,ao,v3,lk,c3]
  refine gG ht (by decide +kernel) ?_
  rw[hi]
  simp only[W5,VZ,Wx]
  refine gG ht (by decide +kernel) ?_
  rw[hi]
  simp only[W5,VZ,Wx,dg,bn,Xp,Wt,aQ]
  refine MZ _ _ ?_
  simp only[ar,au,ao,aK,nJ,v3,lk]
  rw[xL]
  refine qt (S0:=S) (fun x:PV=>.tup [x,x]) (fun _=>.bl true) (fun _ _=>trivial) xs [] S .refl (by simpa using l) (fun x hm S2 X2=>⟨_,rfl,fun K kk=>?_⟩) fun S2 X2 p2 hp2=>?_
  ·simp only[cQ,List.reduceReplicate,Wr,Wh,List.set_cons_zero,List.set_cons_succ,ab,ao,v3,lk]
   exact ih (hx x hm) kk
  ·have f:(JZ S2 p2 (.lst ([]++xs.map fun _=>.bl true))) p2=some (.lst ((xs.map fun _=>true).map PV.bl)):=by rw[aa,Wm,V9];rfl
   simp only[BF,f,qg]
   rw[show((xs.map fun _=>true).all id)=true by simp]
   exact k _ (X2.trans (.new hp2))
def cx{n:Nat}{v:PV}(h:Al n v):∀{m:Nat},n<=m->Al m v:=by
 induction h with
 |non=>intro m hm;cases m with
  |zero=>cases hm
  |succ m=>exact .non
 |int i=>intro m hm;cases m with
  |zero=>cases hm
  |succ m=>exact .int i
 |str z=>intro m hm;cases m with
  |zero=>cases hm
  |succ m=>exact .str z
 |tup l _ ih=>intro m hm;cases m with
  |zero=>cases hm
  |succ m=>exact .tup l fun x hx=>ih x hx (Nat.le_of_succ_le_succ hm)
def Ho{n:Nat}(B a:Int):Al (n+2) (cq B a):=.tup (by simp) fun x hx=>by
 rcases VL.mp hx with rfl|hx
 ·exact .int _
 ·rw[VN.mp hx];exact .int _
abbrev Ai(w:ap):Prop:=∀{S:ax}{B:Int}{is ns:Zw}{Q:bc}{E:bC},0 < B->B.natAbs < oO->kK (mv is ns) < oO->is.length<=1000000->is.length=ns.length->(∀i∈is,i.natAbs < oO)->(∀n∈ns,n.natAbs < oO)->(∀S',Ext S S'->Q (cq B (g_ is ns)) S')->w [.tup (is.map PV.int),.tup (ns.map (cq B))] S Q E
def xM{xt xm:ap}(Rl:Fy xt)(KL:u6 xm):Ai (aP 2 (CL.jP xt xm)):=by
 intro S B is ns Q E hB RQ ha hl he hi hn k
 unfold CL.jP
 refine bT ?_
 rw[show am 2 [.tup (is.map PV.int),.tup (ns.map (cq B))]=[some (.tup (is.map PV.int)),some (.tup (ns.map (cq B)))] from rfl]
 simp only[ar,ab,ao,aK,nJ,v3,lk]
 rw[show bz (is.map PV.int) (ns.map (cq B))=(is.zip ns).map fun z=>.tup [.int z.1,cq B z.2] by unfold bz;rw[Zi,V9];rfl]
 have hz:(is.zip ns).length<=1000000:=by rw[XG];omega
 refine bj (fun z:Int×Int=>PV.tup [.int z.1,cq B z.2]) (fun z=>cq B (z.1 * z.2)) (keep:=fun _=>True) trivial (is.zip ns) [] (fun z hz=>⟨_,rfl,fun Q q=>?_⟩) (by rw[Wn,WY];exact mr hz) fun pc Pc=>?_
 ·simp only[cQ,List.reduceReplicate,Wr,Wh,List.set_cons_zero,List.set_cons_succ,ab,ao,aC,v3,lk,c3]
  have:=Yw (a:=z.1) (b:=z.2) hz
  exact KL (hi _ this.1) ⟨hB,RQ,hn _ this.2⟩ q
 have e:(is.zip ns).map (fun z=>cq B (z.1 * z.2))=(mv is ns).map (cq B):=uT (· * ·) (cq B) is ns
 rw[Wm,e]
 refine Rl hB RQ ha aa ?_
 rw[qr]
 exact k _ (.new Pc)
abbrev oA(w:ap):Prop:=∀{S:ax}{k m:Nat}{l:Ln}{ws:Zw}{Q:bc}{E:bC},Cw k m l->k<=1000->ws.length=k->(∀x∈ws,x.natAbs<=2 ^ 40)->(∀S',Ext S S'->Q (.bl (decide (0 < l.c+g_ l.es ws))) S')->w [l.pv,.tup (ws.map cf)] S Q E
def OF{xl xp xw:ap}(OD:zX xl)(Kt:tJ xp)(Qb:Ai xw):oA (aP 2 (rm xl xp xw)):=by
 intro S k m l ws Q E ok hk hl hb kk
 unfold rm
 refine bT ?_
 rw[show am 2 [l.pv,.tup (ws.map cf)]=[some l.pv,some (.tup (ws.map cf))] from rfl]
 simp only[ar,ab,ao,aC,af,v3,lk,c3,ae,Ln.pv,vN,Ib]
 have nk:Hg ws:=⟨by omega,hb⟩
 refine Qb (B:=2520) (by decide) (je (by decide)) (je (Wy (Cy nk ok.e) (by decide))) (by rw[ok.len];omega) (by rw[ok.len,hl]) (fun i hi=>Hi (ok.e i hi)) (fun n hn=>Hh (hb n hn)) fun S1 X1=>?_
 refine Kt (n:=l.c) (m:=g_ l.es ws) ?_
 rw[gC]
 exact OD (kk S1 X1)
theorem gJ{α:Type}{g:Tg}{tc:k8}{te:bd}{σ':cG}{keep:ax->Prop}{fin:List PV->ax->Prop}(enc f:α->PV)(c:α->Bool){S0:ax}(hk:∀S,Ext S0 S->keep S):∀(xs:List α)(ys:List PV)(S:ax),Ext S0 S->ys.length+xs.length<=1000000->
  (∀x∈xs,∃σ2,g.put (enc x) σ'=some σ2/\(∀S,Ext S0 S->∀K:Bool->ax->Prop,(∀S',Ext S S'->K (c x) S')->tc σ2 S K eE)/\∀S,Ext S0 S->∀K:bc,(∀S',Ext S S'->K (f x) S')->te σ2 S K eE)->
  (∀S',Ext S0 S'->fin (ys++(xs.filter c).map f) S')->cJ g tc te σ' keep fin (xs.map enc) ys S
 |[],ys,S,X,hl,_,hf=>⟨hk S X,mr (by simpa using hl),by simpa using hf S X⟩
 |x::r,ys,S,X,hl,h,hf=>by
  obtain⟨σ2,e,h1,h2⟩:=h x (by simp)
  refine⟨hk S X,mr (by simp at hl ⊢;omega),?_⟩
  rw[e]
  refine h1 S X _ fun S' X'=>?_
  cases hc:c x with
  |true=>
   simp only[WB]
   refine h2 S' (X.trans X') _ fun S2 X2=>?_
   exact gJ enc f c hk r (ys++[f x]) S2 ((X.trans X').trans X2) (by simp at hl ⊢;omega) (fun y hy=>h y (by simp[hy])) fun S3 X3=>by simpa [hc]using hf S3 X3
  |false=>
   simp only[VZ,Wx]
   exact gJ enc f c hk r ys S' (X.trans X') (by simp at hl ⊢;omega) (fun y hy=>h y (by simp[hy])) fun S3 X3=>by simpa [hc]using hf S3 X3
theorem jU{q:Qs}{S:ax}:∀(t:Bd)(v:PV),v∈t.ps q->∃d,Dat S v d/\d.canLay0=true
 | .rest,v,h=>by rw[VN.mp h];exact⟨_,.tup .nil,rfl⟩
 | .pay _ _,v,h=>by rw[VN.mp h];exact⟨_,.tup .nil,rfl⟩
 | .put _ _,v,h=>by rw[VN.mp h];exact⟨_,.tup .nil,rfl⟩
 | .use _,v,h=>by rw[VN.mp h];exact⟨_,.tup .nil,rfl⟩
 | .Kf _,v,h=>by rw[VN.mp h];exact⟨_,.tup .nil,rfl⟩
 | .J9 a b,v,h=>by
  unfold Bd.ps at h
  obtain⟨x,hx,hv⟩:=Wl.mp h
  obtain⟨y,hy,rfl⟩:=VW.mp hv
  obtain⟨d,h1,h2⟩:=jU a x hx
  obtain⟨e,h3,h4⟩:=jU b y hy
  exact⟨_,.tup (.cons h1 (.cons h3 .nil)),by simp[PyData.canLay0,PyData.canLayAll0,h2,h4]⟩
 | .Kg a b,v,h=>by
  unfold Bd.ps at h
  rcases VO.mp h with h|h
  ·obtain⟨x,hx,rfl⟩:=VW.mp h
   obtain⟨d,h1,h2⟩:=jU a x hx
   exact⟨_,.tup (.cons (.int _) (.cons h1 .nil)),by simp[PyData.canLay0,PyData.canLayAll0,h2]⟩
  ·obtain⟨x,hx,rfl⟩:=VW.mp h
   obtain⟨d,h1,h2⟩:=jU b x hx
   exact⟨_,.tup (.cons (.int _) (.cons h1 .nil)),by simp[PyData.canLay0,PyData.canLayAll0,h2]⟩
 | .Ka z m a b,v,h=>by
  unfold Bd.ps at h
  rcases VO.mp h with h|h
  ·split at h
   ·obtain⟨x,hx,rfl⟩:=VW.mp h
    obtain⟨d,h1,h2⟩:=jU a x hx
    exact⟨_,.tup (.cons (.int _) (.cons h1 .nil)),by simp[PyData.canLay0,PyData.canLayAll0,h2]⟩
   ·cases h
  ·obtain⟨x,hx,rfl⟩:=VW.mp h
   obtain⟨d,h1,h2⟩:=jU b x hx
   exact⟨_,.tup (.cons (.int _) (.cons h1 .nil)),by simp[PyData.canLay0,PyData.canLayAll0,h2]⟩
theorem tP{S:ax}:∀ns:List Int,∃ds,MB S (ns.map PV.int) ds/\PyData.canLayAll0 ds=true
 |[]=>⟨[],.nil,rfl⟩
 |n::r=>by
  obtain⟨ds,h1,h2⟩:=tP r
  exact⟨.int n::ds,.cons (.int n) h1,by simp[PyData.canLayAll0,PyData.canLay0,h2]⟩
def Aj{q:Qs}{js:Zs}{ds:List (Str×Bd)}{S:ax}{l:Ln}(h:l∈Np q js ds):∃d,Dat S l.pv d/\d.canLay0=true:=by
 obtain⟨p,hp,h⟩:=Wl.mp h
 obtain⟨x,hx,h⟩:=Wl.mp h
 obtain⟨v,hv,rfl⟩:=VW.mp h
 obtain⟨d,h1,h2⟩:=jU (S:=S) x.2 v hv
 obtain⟨es,h3,h4⟩:=tP (S:=S) ((x.2.Ky js v).2.map (·.1))
 obtain⟨w,_⟩:=v7 hx
 have hw:∃e,Dat S x.1 e/\e.canLay0=true:=by
  rcases w with e|⟨n,e⟩
  ·rw[e];exact⟨.none,.non,rfl⟩
  ·rw[e];exact⟨.int n,.int n,rfl⟩
 obtain⟨e,h5,h6⟩:=hw
 exact⟨_,.tup (.cons (.int _) (.cons h5 (.cons (.tup (.cons (.int _) (.cons (.int _) .nil))) (.cons (.tup h3) (.cons h1 .nil))))),by simp[PyData.canLay0,PyData.canLayAll0,h2,h4,h6]⟩
noncomputable def Dj(q:Qs)(w:Str->Int)(t:Bd)(i:Int):Int:=if i < t.rows then uf q w t 0 0 i else 0
def FE{js:Zs}{q:Qs}{w:Str->Int}{t:Bd}(hw:∀z,0<=w z)(g:t.good js [])(k:Nat):0<=Dj q w t k:=by
 unfold Dj
 split
 ·exact mw q w hw t 0 0 k g
 ·exact Wi _
def FF{js:Zs}{q:Qs}{w:Str->Int}{t:Bd}(g:t.good js [])(ng:NG q w t):∀i∈cm t q,KA t q w (Dj q w t) i:=by
 intro i hi
 have he:Dj q w t t.rows=0:=by unfold Dj;rw[if_neg (by omega)]
 rcases VO.mp hi with hi|hi
 ·obtain⟨r,e,o⟩:=dY q w t 0 t.rows (Dj q w t) g ng (fun j h0 h1=>by
   rw[he]
   show(if j < t.rows then uf q w t 0 0 j else 0)=_
   rw[if_pos (by omega)]) i hi
  have:=t.KF q 0 i hi
  obtain⟨k,rfl⟩:=WG this.1
  exact(u8 (bU (mo (by simpa using e)))).mpr o
 ·rw[VN.mp hi]
  exact(u9 (qm t)).mpr (by rw[he];exact Wi _)
def Hq{js:Zs}:∀{ws:Zw},(∀x∈ws,0<=x)->∀z,0<=wt js ws z:=by
 induction js with
 |nil=>intro ws _ z;unfold wt;exact Wi _
 |cons j js ih=>
  intro ws h z
  cases ws with
  |nil=>unfold wt;exact Wi _
  |cons w ws=>
   unfold wt
   split
   ·exact h w (by simp)
   ·exact ih (fun x hx=>h x (by simp[hx])) z
def Hr(js:Zs)(q:Qs)(ws:Zw)(ds:List (Str×Bd))(Pd:List (List Int)):Prop:=Pd.length=ds.length/\∀(i:Nat)(p:Str×Bd)(ls:Zw),ds[i]?=some p->Pd[i]?=some ls->Lb p.2 q (Dj q (wt js ws) p.2) ls/\∀j∈cm p.2 q,KA p.2 q (wt js ws) (lf ls) j
noncomputable def Jz(ws:Zw)(Pd:List (List Int)):PV:=.tup [.str "paper",.tup [.tup (ws.map cf),.tup (Pd.map fun ls=>.tup (ls.map cf))]]
abbrev rY(w:ap):Prop:=∀{S:ax}{js:Zs}{ds:List (Str×Bd)}{ws:Zw}{Q:bc}{E:bC},HP js ds->js.Nodup->ws.length=js.length->(∀x∈ws,0<=x/\x.natAbs<=2 ^ 40)->
  (∀l r S',(Np (qh js ds) js ds).filter (gnL ws)=l::r->Ext S S'->Q (.tup [.str "round",l.pv]) S')->(∀Pd S',(Np (qh js ds) js ds).filter (gnL ws)=[]->Hr js (qh js ds) ws ds Pd->Ext S S'->Q (Jz ws Pd) S')->w [jv js ds,.tup (ws.map cf)] S Q E
def Ak{α:Type}(a b:α->PV)(l:List α):bz (l.map a) (l.map b)=l.map fun x=>.tup [a x,b x]:=by
 unfold bz
 induction l with
 |nil=>rfl
 |cons x r ih=>simp only[VT,List.zip_cons_cons,ih]
def Am{x:PV}{S:ax}{Q:bc}(h:x = .non\/∃n:Nat,x = .int (n:Int))(q:Q (.bl (!Hf x)) S):vC true x .non S Q:=by
 rcases h with rfl|⟨n,rfl⟩<;>exact q
def u_{xl xg xw xr xe xc:ap}(N8:lV xl)(OF:oA xg)(NB:rV xw)(P3:lS xr)(N_:lZ xe)(NZ:lJ 6 xc):rY (aP 7 (jQ xl xg xw xr xe xc)):=by
 intro S js ds ws Q E hP nd hl hb k1 k2
 unfold jQ
 refine bT ?_
 rw[show am 7 [jv js ds,.tup (ws.map cf)]=[some (jv js ds),some (.tup (ws.map cf)),none,none,none,none,none] from rfl]
 refine ak fun N hN=>?_
 have jl:js.length<=1000:=by have:=hP.jl;omega
 simp only[aq,aK,aJ,ab,ao,v3,lk]
 refine N8 hP fun hs S1 hf X1=>?_
 have hL:=Ah (q:=qh js ds) hP
 rw[rO,rT hf]
 simp only[bF]
 have hnr:∀p∈ds,(Np (qh js ds) js ds).filter (gnL ws)=[]->NG (qh js ds) (wt js ws) p.2:=fun p hp h=>zT nd hl hP h hp
 have hdat:∀{S:ax},∀l∈(Np (qh js ds) js ds).filter (gnL ws),∃d,Dat S l.pv d/\d.canLay0=true:=fun l h=>Aj (WI.mp h).1
 refine gJ (S0:=S1) Ln.pv Ln.pv (gnL ws) (fun _ _=>trivial) (Np (qh js ds) js ds) [] S1 .refl (by simpa using hL.len) (fun l hm=>⟨_,rfl,fun S2 X2 K kk=>?_,fun S2 X2 K kk=>?_⟩) fun S2 X2 pg TL=>?_
 ·have ok:=hL.ok l hm
  simp only[cQ,List.reduceReplicate,VT,Wr,List.cons_append,List.nil_append,List.set_cons_zero,List.set_cons_succ,fZ,aR,af,v3,lk,c3,ae,Ln.pv,cX,ab,ao]
  refine Am ok.who ?_
  cases hw:Hf l.who with
  |true=>
   simp only[W5,VZ,Wx]
   have:=kk S2 .refl
   rw[show gnL ws l=false by unfold gnL;rw[hw];rfl]at this
   exact this
  |false=>
   simp only[WL,WB]
   refine OF (l:=l) ok jl hl (fun x hx=>(hb x hx).2) fun S3 X3=>?_
   have:=kk S3 X3
   rw[show gnL ws l=decide (0 < l.c+g_ l.es ws) by unfold gnL;rw[hw];rfl]at this
   exact this
 ·simp only[cQ,List.reduceReplicate,VT,Wr,List.cons_append,List.nil_append,List.set_cons_zero,List.set_cons_succ,v3,lk]
  exact kk S2 .refl
 rw[Wm]
 have X3:Ext S (JZ S2 pg (.lst (((Np (qh js ds) js ds).filter (gnL ws)).map Ln.pv))):=X1.trans (X2.trans (.new TL))
 have f3:(JZ S2 pg (.lst (((Np (qh js ds) js ds).filter (gnL ws)).map Ln.pv))) pg=some (.lst (((Np (qh js ds) js ds).filter (gnL ws)).map Ln.pv)):=aa
 generalize JZ S2 pg (.lst (((Np (qh js ds) js ds).filter (gnL ws)).map Ln.pv))=S3 at X3 f3
 generalize (Np (qh js ds) js ds).filter (gnL ws)=G at f3 hnr hdat k1 k2
 refine hN _ _ (ak fun N hN=>?_)
 simp only[br,aR,af,aY,ao,v3,lk,List.set_cons_zero,List.set_cons_succ]
 intro pe TM
 have ne:pg≠pe:=fun h=>by rw[<-h,f3]at TM;cases TM
 have X4:Ext S (JZ S3 pe (.lst [])):=X3.trans (.new TM)
 have f4:(JZ S3 pe (.lst [])) pg=some (.lst (G.map Ln.pv)):=by rw[av ne];exact f3
 have e4:(JZ S3 pe (.lst [])) pe=some (.lst []):=aa
 generalize JZ S3 pe (.lst [])=S4 at X4 f4 e4
 refine oy f4 e4 (fun v hv=>by obtain⟨l,hl',rfl⟩:=VW.mp hv;exact hdat l hl') ?_
 cases G with
 |cons l r=>
  simp only[VT,List.isEmpty_cons,Wt,WL,WB,ar,aC,ao,af,v3,lk,c3,ae,f4,cv]
  exact k1 l r S4 rfl X4
 |nil=>
  simp only[Wr,List.isEmpty_nil,Wt,W5,VZ,Wx,aQ]
  refine hN _ _ (ak fun N hN=>?_)
  simp only[aq,ab,ao,v3,lk]
  refine NB hP.toHG nd hl fun pd kvs S5 VA f5 X5 RV=>?_
  refine hN _ _ (ak fun N hN=>?_)
  simp only[aq,aY,ao,List.set_cons_zero,List.set_cons_succ]
  intro pf hpf
  have X6:Ext S (JZ S5 pf (.lst [])):=X4.trans (X5.trans (.new hpf))
  have f6:(JZ S5 pf (.lst [])) pf=some (.lst ([]:List PV)):=aa
  have d6:(JZ S5 pf (.lst [])) pd=some (.dct kvs):=Ext.new hpf _ _ f5
  have TN:=(X4.trans X5).free hpf
  have QG:pd≠pf:=fun h=>by rw[<-h,f5]at hpf;cases hpf
  generalize JZ S5 pf (.lst [])=S6 at X6 f6 d6
  refine hN _ _ (ak fun N hN=>?_)
  simp only[bE,ki,af,ab,ao,v3,lk,c3,ae,jv,cX]
  refine P3 hP.toHG fun hs2 S7 hf2 X7=>?_
  rw[rT hf2]
  dsimp only
  rw[Ak gZ (fun p=>PV.tup (p.2.O8 (qh js ds))) ds]
  have f7:=X7 _ _ f6
  have d7:=X7 _ _ d6
  have dl:=hP.dl
  refine bg (fun done σ S'=>∃(Pd:List (List Int)) (x5 x6:Option PV),σ=[some (.tup [.tup (js.map PV.str),.tup (ds.map gZ)]),some (.tup (ws.map cf)),some (.ref pg),some (.ref pd),some (.ref pf),x5,x6]/\Ext S S'/\S' pd=some (.dct kvs)/\S' pf=some (.lst (Pd.map fun ls=>.tup (ls.map cf)))/\Hr js (qh js ds) ws (ds.take done.length) Pd) ⟨[],_,_,rfl,X6.trans X7,d7,f7,rfl,fun i p ls h=>by simp at h⟩ (fun _ _ _ _=>trivial) ?_ ?_
  ·rintro done x rest σ S8 K e ⟨Pd,x5,x6,rfl,X8,d8,f8,RW⟩ hK
   have hget:(ds.map fun p=>PV.tup [gZ p,.tup (p.2.O8 (qh js ds))])[done.length]?=some x:=by rw[e];simp
   obtain⟨p,hp,rfl⟩:∃q,ds[done.length]?=some q/\PV.tup [gZ q,.tup (q.2.O8 (qh js ds))]=x:=by rw[V2]at hget;exact Wg.mp hget
   have hm:=V6 hp
   have hlt:=(V4.mp hp).1
   have gd:=hP.gd p hm
   simp only[Tg.put,Tg.J7,List.set_cons_zero,List.set_cons_succ,bm,hZ,uI,f8,YF,ab,ao,af,v3,lk,c3,ae,gZ,cX]
   refine NZ (hP.dp p hm) (by have:=hP.sz p hm;omega) fun S9 X9=>?_
   refine N_ (U:=Dj (qh js ds) (wt js ws) p.2) gd (RV p hm) (by have:=hP.sz p hm;omega) VA (X9 _ _ d8) (FE (Hq fun x hx=>(hb x hx).1) gd) (FF gd (hnr p hm rfl)) fun ls Qm VB TQ QK=>?_
   have Qc:=QK _ _ (X9 _ _ f8)
   have ll:Pd.length=done.length:=by rw[RW.1,WS];omega
   simp only[bA,Qc]
   refine⟨Wy (show _<=1000000 by rw[VI];omega) (by decide),hK _ _ ⟨Pd++[ls],_,_,rfl,?_,?_,?_,?_,?_⟩⟩
   ·exact Ext.put (X8.trans (X9.trans QK)) TN
   ·rw[av QG];exact QK _ _ (X9 _ _ d8)
   ·rw[aa,We];rfl
   ·rw[VH,VH,V0,WS,ll]
    simp only[List.length_singleton]
    omega
   ·intro i p' ls' h1 h2
    rw[VH,V0]at h1
    by_cases hi:i < done.length
    ·rw[Ww (by omega)]at h2
     exact RW.2 i p' ls' (by rw[Yi hi];rw[Yi (by omega)]at h1;exact h1) h2
    ·have hi2:i=done.length:=by
      have:=(V4.mp h2).1
      rw[VH,V0]at this
      omega
     subst hi2
     rw[Yi (by omega),hp]at h1
     rw[WA (by omega),ll,Nat.sub_self]at h2
     cases h1
     cases h2
     exact⟨VB,TQ⟩
  ·rintro σ S8 ⟨Pd,x5,x6,rfl,X8,d8,f8,RW⟩
   refine hN _ _ ?_
   rw[VI,WH]at RW
   simp only[ar,aC,ao,au,v3,lk,c3,aS,jj,f8]
   exact k2 Pd S8 rfl RW X8
end CL
namespace G40
open PySem L2 L3
noncomputable def aU(i:Nat):Stmt:=PySem.Challenge.pw_dueworth_k40_rounds_that_have_more.main.body.getD i (.Pass ⟨0,0,0,0⟩)
structure Txt(P:Program)(w:World)(K:Zo)(mg:Zr):Prop where
 o_sides_of:aT K mg "sides_of" (aU 2) ["body"]
 o_parts_in:aT K mg "parts_in" (aU 3) ["body"]
 o_parts:aT K mg "parts" (aU 4) ["body"]
 o_has_row:aT K mg "has_row" (aU 6) ["part"]
 o_rows_in:aT K mg "rows_in" (aU 7) ["body"]
 o_begin:aT K mg "begin" (aU 8) ["body","first","behind"]
 o_rows_of_then:aT K mg "rows_of_then" (aU 9) ["body","first","behind"]
 o_rows_of_choice:aT K mg "rows_of_choice" (aU 10) ["body","first","behind"]
 o_rows_of_often:aT K mg "rows_of_often" (aU 11) ["body","first","behind"]
 o_rows_of:aT K mg "rows_of" (aU 12) ["body","first","behind"]
 o_chart:aT K mg "chart" (aU 13) ["body"]
 o_chosen:aT K mg "chosen" (aU 15) ["body","trace"]
 o_plain_trace:aT K mg "plain_trace" (aU 16) ["body"]
 o_led_to_part:aT K mg "led_to_part" (aU 17) ["body","place","trace"]
 o_parts_reached:sR K mg "parts_reached" (aU 19) ["body","names","reached"]
 o_next_step:aT K mg "next_step" (aU 20) ["house","names"]
 o_filling:aT K mg "filling" (aU 21) ["house"]
 o_fillable:aT K mg "fillable" (aU 22) ["house"]
 o_common:aT K mg "common" (aU 24) ["one","other"]
 o_fraction:aT K mg "fraction" (aU 25) ["top","bottom"]
 o_plus:aT K mg "plus" (aU 26) ["one","other"]
 o_minus:aT K mg "minus" (aU 27) ["one","other"]
 o_times:aT K mg "times" (aU 28) ["one","other"]
 o_less:aT K mg "less" (aU 29) ["one","other"]
 o_highest:aT K mg "highest" (aU 30) ["fractions"]
 o_together:aT K mg "together" (aU 31) ["fractions"]
 o_worth_of:aT K mg "worth_of" (aU 32) ["numbers","fractions"]
 o_passes_of_then:aT K mg "passes_of_then" (aU 34) ["body","names"]
 o_passes_of:aT K mg "passes_of" (aU 35) ["body","names"]
 o_oftens_come_to:aT K mg "oftens_come_to" (aU 36) ["body","names"]
 o_things_of:aT K mg "things_of" (aU 38) ["jars","name","things"]
 o_added:aT K mg "added" (aU 39) ["one","other"]
 o_multiplied:aT K mg "multiplied" (aU 40) ["one","many"]
 o_no_tally:aT K mg "no_tally" (aU 41) ["jars"]
 o_behind:aT K mg "behind" (aU 42) ["one","other"]
 o_again:aT K mg "again" (aU 43) ["one","many"]
 o_tally_of_often:aT K mg "tally_of_often" (aU 44) ["jars","body","goings"]
 o_tally_of_take:aT K mg "tally_of_take" (aU 45) ["jars","body"]
 o_tally_of:aT K mg "tally_of" (aU 46) ["jars","body","trace"]
 o_numbered_bodies:aT K mg "numbered_bodies" (aU 48) ["body","names"]
 o_lines:aT K mg "lines" (aU 49) ["house"]
 o_rows_of_body:aT K mg "rows_of_body" (aU 51) ["body","names"]
 o_rows_come_to:aT K mg "rows_come_to" (aU 52) ["house"]
 o_worths_of_fillable:aT K mg "worths_of_fillable" (aU 54) ["house","worths"]
 o_asked_at:aT K mg "asked_at" (aU 55) ["row","lefts","worths"]
 o_least_lefts:aT K mg "least_lefts" (aU 56) ["rows","come_to","worths"]
 o_gains:aT K mg "gains" (aU 57) ["line","worths"]
 o_paper_by:aT K mg "paper_by" (aU 58) ["house","worths"]
 o__law_deal:aT K mg "_law_deal" (aU 60) ["_law_script","_law_base"]
 o__law_draw:aT K mg "_law_draw" (aU 61) ["_law_deal_here","_law_many"]
 o__law_words:aT K mg "_law_words" (aU 62) ["_law_deal_here","_law_many"]
 o__law_low:aT K mg "_law_low" (aU 63) ["_law_top","_law_bottom"]
 o__law_plus:aT K mg "_law_plus" (aU 64) ["_law_one_here","_law_other"]
 o__law_times:aT K mg "_law_times" (aU 65) ["_law_one_here","_law_many"]
 o__law_cost:aT K mg "_law_cost" (aU 66) ["_law_deal_here"]
 o__law_leaf:aT K mg "_law_leaf" (aU 67) ["_law_deal_here","_law_jars"]
 o__law_body:aT K mg "_law_body" (aU 68) ["_law_deal_here","_law_jars","_law_left","_law_down"]
 o__law_pass_count:aT K mg "_law_pass_count" (aU 69) ["_law_body_here"]
 o__law_round_count:aT K mg "_law_round_count" (aU 70) ["_law_body_here"]
 o__law_deed_body:aT K mg "_law_deed_body" (aU 71) ["_law_deal_here","_law_jars","_law_room","_law_most"]
 o__law_house:aT K mg "_law_house" (aU 72) ["_law_deal_here","_law_most_jars","_law_most_deeds","_law_room"]
 o__law_puts:aT K mg "_law_puts" (aU 73) ["_law_body_here","_law_held","_law_found"]
 o__law_fillable:aT K mg "_law_fillable" (aU 74) ["_law_house_here"]
 o__law_alike:aT K mg "_law_alike" (aU 75) ["_law_found","_law_due"]
 o__law_one:aT K mg "_law_one" (aU 76) ["_law_body_here","_law_jars"]
 o__law_behind:aT K mg "_law_behind" (aU 77) ["_law_some","_law_side","_law_jars","_law_taken"]
 o__law_passes:aT K mg "_law_passes" (aU 78) ["_law_body_here","_law_jars","_law_held"]
 o__law_rounds:aT K mg "_law_rounds" (aU 79) ["_law_body_here","_law_jars","_law_held","_law_number","_law_live"]
 o__law_lines:aT K mg "_law_lines" (aU 80) ["_law_house_here"]
 o__law_worth:aT K mg "_law_worth" (aU 81) ["_law_deal_here","_law_most"]
 o__law_more:aT K mg "_law_more" (aU 82) ["_law_worths","_law_each"]
 RX:mg "abs" = none
 RY:mg "all" = none
 Qd:mg "bool" = none
 Rm:mg "dict" = none
 Kw:mg "enumerate" = none
 RZ:mg "int" = none
 KC:mg "isinstance" = none
 Lo:mg "len" = none
 Qe:mg "list" = none
 PB:mg "max" = none
 Nn:mg "range" = none
 Oc:mg "reversed" = none
 Kd:mg "tuple" = none
 M5:mg "zip" = none
 OG:∃a,mg "SIDES_FROM" = some (.ref a)/\KD P w K a (C.k_SIDES_FROM.map fun kv=>(kv.1,V.int kv.2))
section
variable {P:Program}{w:World}{K:Zo}{mg:Zr}{base:Heap}
def Jj:(["part"]:Zs).Nodup:=by decide +kernel
def Jk:(["step","house"]:Zs).Nodup:=by decide +kernel
def Hs:(["number","one"]:Zs).Nodup:=by decide +kernel
def Jl:(["other","one"]:Zs).Nodup:=by decide +kernel
def Ht:(["trace"]:Zs).Nodup:=by decide +kernel
def Hu:(["found"]:Zs).Nodup:=by decide +kernel
def Hv:(["number","found"]:Zs).Nodup:=by decide +kernel
def Jm:(["jar","name","things"]:Zs).Nodup:=by decide +kernel
def Hw:(["left","right"]:Zs).Nodup:=by decide +kernel
def Jn:(["number","many"]:Zs).Nodup:=by decide +kernel
def An:(["effect","first","second"]:Zs).Nodup:=by decide +kernel
def Dk:(["effect","asked","many"]:Zs).Nodup:=by decide +kernel
def Dl:(["row","found"]:Zs).Nodup:=by decide +kernel
def Hx:(["deed","names"]:Zs).Nodup:=by decide +kernel
def Dm:(["jar","worth","names"]:Zs).Nodup:=by decide +kernel
def Hy:(["line","worths"]:Zs).Nodup:=by decide +kernel
def Dn:(["_law_one_here"]:Zs).Nodup:=by decide +kernel
def Hz:(["_law_k","_law_deal_here","_law_letters"]:Zs).Nodup:=by decide +kernel
def HA:(["_law_j","_law_deal_here","_law_letters"]:Zs).Nodup:=by decide +kernel
def HB:(["_law_k","_law_deal_here","_law_first","_law_jars","_law_many","_law_room","_law_words_here"]:Zs).Nodup:=by decide +kernel
def Do:(["_law_one_here","_law_other"]:Zs).Nodup:=by decide +kernel
def Dp:(["_law_one_here","_law_more_here"]:Zs).Nodup:=by decide +kernel
def Dq:(["_law_here","_law_there"]:Zs).Nodup:=by decide +kernel
def HC:(["_law_one_here","_law_number"]:Zs).Nodup:=by decide +kernel
def Dr:(["_law_one_here","_law_d"]:Zs).Nodup:=by decide +kernel
def HD:(["_law_jar","_law_deal_here"]:Zs).Nodup:=by decide +kernel
def HE:(["_law_each","_law_worths"]:Zs).Nodup:=by decide +kernel
def gK:ap:=aP 1 C.jH
def my(T:Txt P w K mg):Kb P w K mg base 1 "sides_of" 1 gK:=b9 ["body"] T.o_sides_of (fun _ _ _ _ _ _ _ hr nd=>(aj (al (fg (ac 0) (fz (JS hr T.OG (aF hr (ac 0)) (cB dP T.Lo (l1 (ac 0))))) ly)))) rfl
noncomputable def gL:Nat->ap
 |0=>nK
 |n+1=>aP 3 (C.jI gK (gL n))
def jV:ap:=gL 12
def mz(T:Txt P w K mg):Kb P w K mg base 13 "parts_in" 1 jV:=nL (b:=1) (r:=gL) T.o_parts_in (fun n R0=>b9 ["body","found","side"] T.o_parts_in (fun _ _ _ _ _ _ _ hr nd=>(ad (s4 1 nd (a_ (l1 (ac 0))))
  (ad (bZ V5 rfl (bD (c4 (my T) hr (l1 (ac 0)))) (gn 2 nd) (aj (bY (ua fP io (ac 1) (l1 (c4 R0 hr (l1 (ac 2))))))))
  (aj (al (ac 1)))))) rfl) rfl rfl 12
def rZ:ap:=aP 1 (C.qU jV)
def Ao(T:Txt P w K mg):Kb P w K mg base 14 "parts" 1 rZ:=b9 ["body"] T.o_parts (fun _ _ _ _ _ _ _ hr nd=>(aj (al (cB dP T.Lo (l1 (c4 (mz T) hr (l1 (ac 0)))))))) rfl
def jf:ap:=aP 1 C.lB
def oB(T:Txt P w K mg):Kb P w K mg base 1 "has_row" 1 jf:=b9 ["part"] T.o_has_row (fun _ _ _ _ _ _ _ hr nd=>(aj (al (ik (eL (dU hr)) (aF hr (ac 0)) (aA (lc aw (l1 aw))) rfl)))) rfl
def cL:ap:=aP 1 (C.lC jV jf)
def gM(T:Txt P w K mg):Kb P w K mg base 14 "rows_in" 1 cL:=b9 ["body"] T.o_rows_in (fun _ _ _ _ _ _ _ hr nd=>(aj (al (cB dP T.Lo (l1 (p_ [] 1 [] ["part"] (bD (c4 (mz T) hr (l1 (ac 0)))) (fun _=>(gn 0 Jj)) (fun _=>(kj (fe (c4 (oB T) hr (l1 (ac 0)))))) (fun _=>(ac 0)))))))) rfl
def fk:ap:=aP 3 (C.qV cL)
def kO(T:Txt P w K mg):Kb P w K mg base 15 "begin" 3 fk:=b9 ["body","first","behind"] T.o_begin (fun _ _ _ _ _ _ _ hr nd=>(ad (aZ (e_ hr (c4 (gM T) hr (l1 (ac 0))) ai) (aj (al (ac 2))) aI)
  (aj (al (ac 1))))) rfl
noncomputable def ay:Nat->ap×ap×ap×ap
 |0=>(nK,nK,nK,nK)
 |n+1=>(aP 5 (C.cS cL fk (ay n).1 (ay n).2.1 (ay n).2.2.1 (ay n).2.2.2),aP 7 (C.ci cL fk (ay n).1 (ay n).2.1 (ay n).2.2.1 (ay n).2.2.2),aP 4 (C.cw fk (ay n).1 (ay n).2.1 (ay n).2.2.1 (ay n).2.2.2),aP 4 (C.i5 (ay n).1 (ay n).2.1 (ay n).2.2.1 (ay n).2.2.2))
def b5(n:Nat):ap:=(ay n).1
def bL(n:Nat):ap:=(ay n).2.1
def bS(n:Nat):ap:=(ay n).2.2.1
def jg(n:Nat):ap:=(ay n).2.2.2
def mJ(T:Txt P w K mg)(n:Nat){s0 s1 s2 s3:ap}(R0:Kb P w K mg base (15+n) "rows_of_then" 3 s0)(R1:Kb P w K mg base (15+n) "rows_of_choice" 3 s1)(R2:Kb P w K mg base (15+n) "rows_of_often" 3 s2)(R3:Kb P w K mg base (15+n) "rows_of" 3 s3):Kb P w K mg base (15+n+1) "rows_of_then" 3 (aP 5 (C.cS cL fk s0 s1 s2 s3)):=b9 ["body","first","behind","second","onward"] T.o_rows_of_then (fun _ _ _ _ _ _ _ hr nd=>(ad (s4 3 nd (aB aD (ac 1) (c4 (gM T) hr (l1 (aF hr (ac 0))))))
  (ad (s4 4 nd (c4 (kO T) hr (lc (aF hr (ac 0)) (lc (ac 3) (l1 (ac 2))))))
  (aj (al (aB aD (c4 R3 hr (lc (aF hr (ac 0)) (lc (ac 1) (l1 (ac 4))))) (c4 R3 hr (lc (aF hr (ac 0)) (lc (ac 3) (l1 (ac 2))))))))))) rfl
def kP(T:Txt P w K mg)(n:Nat){s0 s1 s2 s3:ap}(R0:Kb P w K mg base (15+n) "rows_of_then" 3 s0)(R1:Kb P w K mg base (15+n) "rows_of_choice" 3 s1)(R2:Kb P w K mg base (15+n) "rows_of_often" 3 s2)(R3:Kb P w K mg base (15+n) "rows_of" 3 s3):Kb P w K mg base (15+n+1) "rows_of_choice" 3 (aP 7 (C.ci cL fk s0 s1 s2 s3)):=b9 ["body","first","behind","one","other","second","row"] T.o_rows_of_choice (fun _ _ _ _ _ _ _ hr nd=>(ad (s4 3 nd (eA hr (ac 0) (fN bK ai)))
  (ad (s4 4 nd (eA hr (ac 0) (fN bK ai)))
  (ad (s4 5 nd (aB aD (aB aD (ac 1) ai) (c4 (gM T) hr (l1 (ac 3)))))
  (ad (s4 6 nd (aB aD (fg (ac 0) ly (fz (fN bK ai))) (aA (lc (c4 (kO T) hr (lc (ac 3) (lc (aB aD (ac 1) ai) (l1 (ac 2))))) (l1 (c4 (kO T) hr (lc (ac 4) (lc (ac 5) (l1 (ac 2))))))))))
  (aj (al (aB aD (aB aD (aA (l1 (ac 6))) (c4 R3 hr (lc (ac 3) (lc (aB aD (ac 1) ai) (l1 (ac 2)))))) (c4 R3 hr (lc (ac 4) (lc (ac 5) (l1 (ac 2))))))))))))) rfl
def l4(T:Txt P w K mg)(n:Nat){s0 s1 s2 s3:ap}(R0:Kb P w K mg base (15+n) "rows_of_then" 3 s0)(R1:Kb P w K mg base (15+n) "rows_of_choice" 3 s1)(R2:Kb P w K mg base (15+n) "rows_of_often" 3 s2)(R3:Kb P w K mg base (15+n) "rows_of" 3 s3):Kb P w K mg base (15+n+1) "rows_of_often" 3 (aP 4 (C.cw fk s0 s1 s2 s3)):=b9 ["body","first","behind","row"] T.o_rows_of_often (fun _ _ _ _ _ _ _ hr nd=>(ad (s4 3 nd (aA (lc aw (lc (c4 (kO T) hr (lc (aF hr (ac 0)) (lc (aB aD (ac 1) ai) (l1 (ac 1))))) (l1 (ac 2))))))
  (aj (al (aB aD (aA (l1 (ac 3))) (c4 R3 hr (lc (aF hr (ac 0)) (lc (aB aD (ac 1) ai) (l1 (ac 1)))))))))) rfl
def vc(T:Txt P w K mg)(n:Nat){s0 s1 s2 s3:ap}(R0:Kb P w K mg base (15+n) "rows_of_then" 3 s0)(R1:Kb P w K mg base (15+n) "rows_of_choice" 3 s1)(R2:Kb P w K mg base (15+n) "rows_of_often" 3 s2)(R3:Kb P w K mg base (15+n) "rows_of" 3 s3):Kb P w K mg base (15+n+1) "rows_of" 3 (aP 4 (C.i5 s0 s1 s2 s3)):=b9 ["body","first","behind","head"] T.o_rows_of (fun _ _ _ _ _ _ _ hr nd=>(ad (s4 3 nd (aF hr (ac 0)))
  (ad (aZ (e_ hr (ac 3) aw) (aj (al (aA cn))) aI)
  (ad (aZ (e_ hr (ac 3) aw) (aj (al (c4 R0 hr (lc (ac 0) (lc (ac 1) (l1 (ac 2))))))) aI)
  (ad (aZ (e_ hr (ac 3) aw) (aj (al (c4 R2 hr (lc (ac 0) (lc (ac 1) (l1 (ac 2))))))) aI)
  (ad (aZ (bq (jq (dU hr)) (ac 3) (aA (lc aw (l1 aw))) rfl) (aj (al (c4 R1 hr (lc (ac 0) (lc (ac 1) (l1 (ac 2))))))) aI)
  (aj (al (aA (l1 (aB aD (ac 0) (aA (l1 (ac 2)))))))))))))) rfl
theorem fT(T:Txt P w K mg):∀n:Nat,Kb P w K mg base (15+n) "rows_of_then" 3 (b5 n)/\Kb P w K mg base (15+n) "rows_of_choice" 3 (bL n)/\Kb P w K mg base (15+n) "rows_of_often" 3 (bS n)/\Kb P w K mg base (15+n) "rows_of" 3 (jg n)
 |0=>⟨.zero T.o_rows_of_then,.zero T.o_rows_of_choice,.zero T.o_rows_of_often,.zero T.o_rows_of⟩
 |n+1=>let ⟨h0,h1,h2,h3⟩:=fT T n;⟨mJ T n h0 h1 h2 h3,kP T n h0 h1 h2 h3,l4 T n h0 h1 h2 h3,vc T n h0 h1 h2 h3⟩
def qu:ap:=jg 12
def vd(T:Txt P w K mg):Kb P w K mg base 27 "rows_of" 3 qu:=(fT T 12).2.2.2
def r6:ap:=aP 1 (C.qW qu cL)
def Ap(T:Txt P w K mg):Kb P w K mg base 28 "chart" 1 r6:=b9 ["body"] T.o_chart (fun _ _ _ _ _ _ _ hr nd=>(aj (al (aB aD (c4 (vd T) hr (lc (ac 0) (lc ai (l1 (c4 (gM T) hr (l1 (ac 0))))))) (aA (l1 (aA (l1 aw)))))))) rfl
def oC:ap:=aP 2 C.nF
def xN(T:Txt P w K mg):Kb P w K mg base 1 "chosen" 2 oC:=b9 ["body","trace"] T.o_chosen (fun _ _ _ _ _ _ _ hr nd=>(aj (al (eA hr (ac 0) (aB aD (fN bK ai) (aF hr (ac 1))))))) rfl
noncomputable def dJ:Nat->ap
 |0=>nK
 |n+1=>aP 1 (C.fA (dJ n))
def jx:ap:=dJ 12
def iR(T:Txt P w K mg):Kb P w K mg base 12 "plain_trace" 1 jx:=nL (b:=0) (r:=dJ) T.o_plain_trace (fun n R0=>b9 ["body"] T.o_plain_trace (fun _ _ _ _ _ _ _ hr nd=>(ad (aZ (e_ hr (aF hr (ac 0)) aw) (aj (al (aA (lc (c4 R0 hr (l1 (aF hr (ac 0)))) (l1 (c4 R0 hr (l1 (aF hr (ac 0))))))))) aI)
  (ad (aZ (e_ hr (aF hr (ac 0)) aw) (aj (al (aA (lc ai (l1 (c4 R0 hr (l1 (aF hr (ac 0))))))))) aI)
  (ad (aZ (e_ hr (aF hr (ac 0)) aw) (aj (al (aA (lc ai (l1 (c4 R0 hr (l1 (aF hr (ac 0))))))))) aI)
  (aj (al (aA cn))))))) rfl) rfl rfl 12
noncomputable def dL:Nat->ap
 |0=>nK
 |n+1=>aP 8 (C.fB rZ jx (dL n))
def jy:ap:=dL 12
def oD(T:Txt P w K mg):Kb P w K mg base 26 "led_to_part" 3 jy:=nL (b:=14) (r:=dL) T.o_led_to_part (fun n R0=>b9 ["body","place","trace","one","other","second","side","inner"] T.o_led_to_part (fun _ _ _ _ _ _ _ hr nd=>(ad (aZ (e_ hr (ac 1) ai) (aj (al (ac 2))) aI)
  (ad (aZ (e_ hr (aF hr (ac 0)) aw) (aj (al (aA (l1 (aA (lc ai (l1 (c4 R0 hr (lc (aF hr (ac 0)) (lc (aB dS (ac 1) ai) (l1 (ac 2)))))))))))) aI)
  (ad (s4 3 nd (eA hr (ac 0) (fN bK ai)))
  (ad (s4 4 nd (eA hr (ac 0) (fN bK ai)))
  (ad (s4 5 nd (aB aD ai (c4 (Ao T) hr (l1 (ac 3)))))
  (ad (s4 6 nd (yL (bq qR (ac 1) (ac 5) (bf _)) ai ai))
  (ad (s4 7 nd (yL (e_ hr (ac 6) ai) (c4 R0 hr (lc (ac 3) (lc (aB dS (ac 1) ai) (l1 (ac 2))))) (c4 R0 hr (lc (ac 4) (lc (aB dS (ac 1) (ac 5)) (l1 (ac 2)))))))
  (ad (aZ (BS hr (aF hr (ac 0)) aw) (aj (al (aA (lc (ac 6) (l1 (ac 7)))))) aI)
  (ad (aZ (e_ hr (ac 6) ai) (aj (al (aA (lc (ac 7) (l1 (c4 (iR T) hr (l1 (ac 4)))))))) aI)
  (aj (al (aA (lc (c4 (iR T) hr (l1 (ac 3))) (l1 (ac 7)))))))))))))))) rfl) rfl rfl 12
noncomputable def cy:Nat->ap
 |0=>nK
 |n+1=>aP 7 (C.d5 gK (cy n))
def cz:ap:=cy 12
def dB(T:Txt P w K mg):Qz P w K mg base 13 "parts_reached" 3 cz:=G4 (b:=1) (r:=cy) T.o_parts_reached (fun n R0=>JT ["body","names","reached","found","number","side","shut"] T.o_parts_reached (fun _ _ _ _ _ _ _ hr nd=>(ad (s4 3 nd (a_ (l1 (aA (lc (ac 0) (l1 (ac 2)))))))
  (ad (bZ V5 rfl (jE rfl rfl T.Kw (by decide +kernel) (l1 (c4 (my T) hr (l1 (ac 0))))) (pV rfl (aO (gn 4 nd) (aO (gn 5 nd) cI))) (ad (s4 6 nd (sJ (ik (nl (kl hr)) (aF hr (ac 0)) aw (bf _)) (sJ (ik (nl (kl hr)) (ac 4) ai (bf _)) (sI (ik (eL (dU hr)) (aF hr (ac 0)) (ac 1) rfl)))))
  (aj (bY (ua fP io (ac 3) (l1 (JU R0 hr (lc (ac 5) (lc (ac 1) (l1 (sJ (ac 2) (sI (GG (ac 6))))))))))))))
  (aj (al (ac 3)))))) rfl) rfl rfl 12
def iS:ap:=aP 7 (C.iH cz jy)
def kQ(T:Txt P w K mg):Kb P w K mg base 27 "next_step" 2 iS:=b9 ["house","names","d","deed","place","found","part"] T.o_next_step (fun _ _ _ _ _ _ _ hr nd=>(ad (bZ V5 rfl (jE rfl rfl T.Kw (by decide +kernel) (l1 (aF hr (ac 0)))) (pV rfl (aO (gn 2 nd) (aO (gn 3 nd) cI))) (aj (bZ V5 rfl (jE rfl rfl T.Kw (by decide +kernel) (l1 (cD (dB T) hr (lc (aF hr (ac 3)) (l1 (ac 1)))))) (pV rfl (aO (gn 4 nd) (aO (gn 5 nd) cI))) (ad (s4 6 nd (aF hr (ac 5)))
  (aj (aZ (sH (j9 (fe (aF hr (ac 5))) (j9 (e_ hr (aF hr (ac 6)) aw) (il (bq (eL (dU hr)) (aF hr (ac 6)) (ac 1) rfl))))) (aj (al (aA (lc (y_ YV Yl YW nI rfl (aF hr (ac 0)) (l1 (aF hr (ac 6)))) (lc (ac 2) (l1 (c4 (oD T) hr (lc (aF hr (ac 3)) (lc (ac 4) (l1 (aA cn))))))))))) aI))))))
  (aj (al ij)))) rfl
def qv:ap:=aP 4 (C.lE iS)
def ve(T:Txt P w K mg):Kb P w K mg base 28 "filling" 1 qv:=b9 ["house","found","names","step"] T.o_filling (fun _ _ _ _ _ _ _ hr nd=>(ad (s4 1 nd (a_ cn))
  (ad (s4 2 nd (a_ cn))
  (ad (s4 3 nd (c4 (kQ T) hr (lc (ac 0) (l1 (ac 2)))))
  (ad (i4 V5 (bq j_ (ac 3) ij (bf _)) (ad (bY (ua cK dQ (ac 1) (l1 (ac 3))))
  (ad (bY (ua cK dQ (ac 2) (l1 (eA hr (aF hr (ac 0)) (aF hr (ac 3))))))
  (aj (s4 3 nd (c4 (kQ T) hr (lc (ac 0) (l1 (ac 2)))))))))
  (aj (al (ac 1)))))))) rfl
def eU:ap:=aP 1 (C.jM qv)
def iT(T:Txt P w K mg):Kb P w K mg base 29 "fillable" 1 eU:=b9 ["house"] T.o_fillable (fun _ _ _ _ _ _ _ hr nd=>(aj (al (p_ ["house"] 1 [0] ["step","house"] (bD (c4 (ve T) hr (l1 (ac 0)))) (fun _=>(gn 0 Jk)) (fun _=>cp) (fun _=>(eA hr (aF hr (ac 1)) (aF hr (ac 0)))))))) rfl
def tQ:ap:=aP 3 C.iC
def xO(T:Txt P w K mg):Kb P w K mg base 1 "common" 2 tQ:=b9 ["one","other","left"] T.o_common (fun _ _ _ _ _ _ _ hr nd=>(ad (i4 V5 (BS hr (ac 1) ai) (ad (s4 2 nd (aB gY (ac 0) (ac 1)))
  (ad (s4 0 nd (ac 1))
  (aj (s4 1 nd (ac 2))))))
  (aj (al (cB GO T.RX (l1 (ac 0))))))) rfl
def dC:ap:=aP 3 (C.eN tQ)
def iU(T:Txt P w K mg):Kb P w K mg base 2 "fraction" 2 dC:=b9 ["top","bottom","part"] T.o_fraction (fun _ _ _ _ _ _ _ hr nd=>(ad (s4 2 nd (c4 (xO T) hr (lc (ac 0) (l1 (ac 1)))))
  (ad (aZ (bq qR (ac 1) ai (bf _)) (aj (s4 2 nd (fN bK (ac 2)))) aI)
  (aj (al (aA (lc (aB jF (ac 0) (ac 2)) (l1 (aB jF (ac 1) (ac 2)))))))))) rfl
def jW:ap:=aP 2 (C.iD dC)
def kR(T:Txt P w K mg):Kb P w K mg base 3 "plus" 2 jW:=b9 ["one","other"] T.o_plus (fun _ _ _ _ _ _ _ hr nd=>(aj (al (c4 (iU T) hr (lc (aB aD (aB bi (aF hr (ac 0)) (aF hr (ac 1))) (aB bi (aF hr (ac 1)) (aF hr (ac 0)))) (l1 (aB bi (aF hr (ac 0)) (aF hr (ac 1))))))))) rfl
def we:ap:=aP 2 (CL.rj dC)
def Aq(T:Txt P w K mg):Kb P w K mg base 3 "minus" 2 we:=b9 ["one","other"] T.o_minus (fun _ _ _ _ _ _ _ hr nd=>(aj (al (c4 (iU T) hr (lc (aB dS (aB bi (aF hr (ac 0)) (aF hr (ac 1))) (aB bi (aF hr (ac 1)) (aF hr (ac 0)))) (l1 (aB bi (aF hr (ac 0)) (aF hr (ac 1))))))))) rfl
def jh:ap:=aP 2 (C.gi dC)
def kS(T:Txt P w K mg):Kb P w K mg base 3 "times" 2 jh:=b9 ["one","other"] T.o_times (fun _ _ _ _ _ _ _ hr nd=>(aj (al (c4 (iU T) hr (lc (aB bi (aF hr (ac 0)) (aF hr (ac 1))) (l1 (aB bi (aF hr (ac 0)) (aF hr (ac 1))))))))) rfl
def vf:ap:=aP 2 CW.uN
def wf(T:Txt P w K mg):Kb P w K mg base 1 "less" 2 vf:=b9 ["one","other"] T.o_less (fun _ _ _ _ _ _ _ hr nd=>(aj (al (ik qR (aB bi (aF hr (ac 0)) (aF hr (ac 1))) (aB bi (aF hr (ac 1)) (aF hr (ac 0))) (bf _))))) rfl
def qw:ap:=aP 3 (CW.lF vf)
def vg(T:Txt P w K mg):Kb P w K mg base 2 "highest" 1 qw:=b9 ["fractions","found","one"] T.o_highest (fun _ _ _ _ _ _ _ hr nd=>(ad (s4 1 nd (aF hr (ac 0)))
  (ad (bZ V5 rfl (bD (ac 0)) (gn 2 nd) (aj (aZ (fe (c4 (wf T) hr (lc (ac 1) (l1 (ac 2))))) (aj (s4 1 nd (ac 2))) aI)))
  (aj (al (ac 1)))))) rfl
def jX:ap:=aP 3 (CW.jN jW)
def tR(T:Txt P w K mg):Kb P w K mg base 4 "together" 1 jX:=b9 ["fractions","found","one"] T.o_together (fun _ _ _ _ _ _ _ hr nd=>(ad (s4 1 nd (aA (lc ai (l1 ai))))
  (ad (bZ V5 rfl (bD (ac 0)) (gn 2 nd) (aj (s4 1 nd (c4 (kR T) hr (lc (ac 1) (l1 (ac 2)))))))
  (aj (al (ac 1)))))) rfl
def oE:ap:=aP 2 (CL.jP jX jh)
def tS(T:Txt P w K mg):Kb P w K mg base 5 "worth_of" 2 oE:=b9 ["numbers","fractions"] T.o_worth_of (fun _ _ _ _ _ _ _ hr nd=>(aj (al (c4 (tR T) hr (l1 (p_ [] 2 [] ["number","one"] (uM rfl rfl rfl T.M5 (by decide +kernel) (lc (ac 0) (l1 (ac 1)))) (fun _=>(pV rfl (aO (gn 0 Hs) (aO (gn 1 Hs) cI)))) (fun _=>cp) (fun _=>(c4 (kS T) hr (lc (aA (lc (ac 0) (l1 ai))) (l1 (ac 1))))))))))) rfl
noncomputable def bu:Nat->ap×ap
 |0=>(nK,nK)
 |n+1=>(aP 5 (C.ck (bu n).1 (bu n).2),aP 3 (C.fj (bu n).1 (bu n).2))
def dD(n:Nat):ap:=(bu n).1
def iV(n:Nat):ap:=(bu n).2
def kT(T:Txt P w K mg)(n:Nat){s0 s1:ap}(R0:Kb P w K mg base (0+n) "passes_of_then" 2 s0)(R1:Kb P w K mg base (0+n) "passes_of" 2 s1):Kb P w K mg base (0+n+1) "passes_of_then" 2 (aP 5 (C.ck s0 s1)):=b9 ["body","names","found","seconds","one"] T.o_passes_of_then (fun _ _ _ _ _ _ _ hr nd=>(ad (s4 2 nd (a_ cn))
  (ad (s4 3 nd (c4 R1 hr (lc (aF hr (ac 0)) (l1 (ac 1)))))
  (ad (bZ V5 rfl (bD (c4 R1 hr (lc (aF hr (ac 0)) (l1 (ac 1))))) (gn 4 nd) (aj (bY (ua fP io (ac 2) (l1 (p_ ["one"] 1 [4] ["other","one"] (bD (ac 3)) (fun _=>(gn 0 Jl)) (fun _=>cp) (fun _=>(aA (lc (ac 1) (l1 (ac 0)))))))))))
  (aj (al (ac 2))))))) rfl
def r9(T:Txt P w K mg)(n:Nat){s0 s1:ap}(R0:Kb P w K mg base (0+n) "passes_of_then" 2 s0)(R1:Kb P w K mg base (0+n) "passes_of" 2 s1):Kb P w K mg base (0+n+1) "passes_of" 2 (aP 3 (C.fj s0 s1)):=b9 ["body","names","others"] T.o_passes_of (fun _ _ _ _ _ _ _ hr nd=>(ad (aZ (e_ hr (aF hr (ac 0)) aw) (aj (al (c4 R0 hr (lc (ac 0) (l1 (ac 1)))))) aI)
  (ad (aZ (bq (eL (dU hr)) (aF hr (ac 0)) (aA (lc aw (l1 aw))) rfl) (aj (al (a_ (l1 (aA cn))))) aI)
  (ad (zc [] 1 [] ["trace"] 2 nd (bD (c4 R1 hr (lc (eA hr (ac 0) (fN bK ai)) (l1 (ac 1))))) (fun _=>(gn 0 Ht)) (fun _=>cp) (fun _=>(aA (lc ai (l1 (ac 0))))))
  (ad (aZ (sH (j9 (e_ hr (aF hr (ac 0)) aw) (il (bq (eL (dU hr)) (aF hr (ac 0)) (ac 1) rfl)))) (aj (al (ac 2))) aI)
  (aj (al (aB aD (p_ [] 1 [] ["trace"] (bD (c4 R1 hr (lc (eA hr (ac 0) (fN bK ai)) (l1 (ac 1))))) (fun _=>(gn 0 Ht)) (fun _=>cp) (fun _=>(aA (lc ai (l1 (ac 0)))))) (ac 2))))))))) rfl
theorem eV(T:Txt P w K mg):∀n:Nat,Kb P w K mg base (0+n) "passes_of_then" 2 (dD n)/\Kb P w K mg base (0+n) "passes_of" 2 (iV n)
 |0=>⟨.zero T.o_passes_of_then,.zero T.o_passes_of⟩
 |n+1=>let ⟨h0,h1⟩:=eV T n;⟨kT T n h0 h1,r9 T n h0 h1⟩
def mB:ap:=iV 12
def r_(T:Txt P w K mg):Kb P w K mg base 12 "passes_of" 2 mB:=(eV T 12).2
def dE:ap:=aP 3 (C.du cz)
def kU(T:Txt P w K mg):Kb P w K mg base 14 "oftens_come_to" 2 dE:=b9 ["body","names","oftens"] T.o_oftens_come_to (fun _ _ _ _ _ _ _ hr nd=>(ad (zc [] 1 [] ["found"] 2 nd (bD (cD (dB T) hr (lc (ac 0) (l1 (ac 1))))) (fun _=>(gn 0 Hu)) (fun _=>(kj (e_ hr (aF hr (aF hr (ac 0))) aw))) (fun _=>(ac 0)))
  (aj (al (p_ [] 2 [] ["number","found"] (jE rfl rfl T.Kw (by decide +kernel) (l1 (ac 2))) (fun _=>(pV rfl (aO (gn 0 Hv) (aO (gn 1 Hv) cI)))) (fun _=>(kj (fe (aF hr (ac 1))))) (fun _=>(aA (lc (ac 0) (l1 (aF hr (aF hr (ac 1)))))))))))) rfl
def fm:ap:=aP 3 C.iE
def gN(T:Txt P w K mg):Kb P w K mg base 1 "things_of" 3 fm:=b9 ["jars","name","things"] T.o_things_of (fun _ _ _ _ _ _ _ hr nd=>(aj (al (cT bJ T.Kd (l1 (p_ ["things","name"] 1 [1,2] ["jar","name","things"] (bD (ac 0)) (fun _=>(gn 0 Jm)) (fun _=>cp) (fun _=>(yL (e_ hr (ac 0) (ac 1)) (ac 2) ai)))))))) rfl
def wg:ap:=aP 2 C.qS
def Ar(T:Txt P w K mg):Kb P w K mg base 1 "added" 2 wg:=b9 ["one","other"] T.o_added (fun _ _ _ _ _ _ _ hr nd=>(aj (al (cT bJ T.Kd (l1 (p_ [] 2 [] ["left","right"] (pW rfl rfl rfl T.M5 (by decide +kernel) (lc (ac 0) (l1 (ac 1)))) (fun _=>(pV rfl (aO (gn 0 Hw) (aO (gn 1 Hw) cI)))) (fun _=>cp) (fun _=>(aB aD (ac 0) (ac 1))))))))) rfl
def kW:ap:=aP 2 C.gj
def o9(T:Txt P w K mg):Kb P w K mg base 1 "multiplied" 2 kW:=b9 ["one","many"] T.o_multiplied (fun _ _ _ _ _ _ _ hr nd=>(aj (al (cT bJ T.Kd (l1 (p_ ["many"] 1 [1] ["number","many"] (bD (ac 0)) (fun _=>(gn 0 Jn)) (fun _=>cp) (fun _=>(aB bi (ac 0) (ac 1))))))))) rfl
def eW:ap:=aP 1 C.jJ
def mC(T:Txt P w K mg):Kb P w K mg base 1 "no_tally" 1 eW:=b9 ["jars"] T.o_no_tally (fun _ _ _ _ _ _ _ hr nd=>(aj (al (aA (lc (aA (lc ai (l1 ai))) (lc (aB vJ (aA (l1 ai)) (cB dP T.Lo (l1 (ac 0)))) (l1 (aB vJ (aA (l1 ai)) (cB dP T.Lo (l1 (ac 0))))))))))) rfl
def fU:ap:=aP 3 (C.nH wg jW)
def l6(T:Txt P w K mg):Kb P w K mg base 4 "behind" 2 fU:=b9 ["one","other","demand"] T.o_behind (fun _ _ _ _ _ _ _ hr nd=>(ad (zc [] 3 [] ["effect","first","second"] 2 nd (EQ rfl rfl rfl T.M5 (by decide +kernel) (lc (aF hr (ac 0)) (lc (aF hr (ac 0)) (l1 (aF hr (ac 1)))))) (fun _=>(pV rfl (aO (gn 0 An) (aO (gn 1 An) (aO (gn 2 An) cI))))) (fun _=>cp) (fun _=>(cB (qN rfl) T.PB (lc (ac 1) (l1 (aB dS (ac 2) (ac 0)))))))
  (aj (al (aA (lc (c4 (kR T) hr (lc (aF hr (ac 0)) (l1 (aF hr (ac 1))))) (lc (c4 (Ar T) hr (lc (aF hr (ac 0)) (l1 (aF hr (ac 1))))) (l1 (cT bJ T.Kd (l1 (ac 2))))))))))) rfl
def mT:ap:=aP 3 (C.qT kW jh)
def As(T:Txt P w K mg):Kb P w K mg base 4 "again" 2 mT:=b9 ["one","many","demand"] T.o_again (fun _ _ _ _ _ _ _ hr nd=>(ad (zc ["many"] 2 [1] ["effect","asked","many"] 2 nd (pW rfl rfl rfl T.M5 (by decide +kernel) (lc (aF hr (ac 0)) (l1 (aF hr (ac 0))))) (fun _=>(pV rfl (aO (gn 0 Dk) (aO (gn 1 Dk) cI)))) (fun _=>cp) (fun _=>(aB aD (ac 1) (cB (qN rfl) T.PB (lc ai (l1 (aB bi (fN bK (ac 0)) (aB dS (ac 2) ai))))))))
  (aj (al (aA (lc (c4 (kS T) hr (lc (aF hr (ac 0)) (l1 (aA (lc (ac 1) (l1 ai)))))) (lc (c4 (o9 T) hr (lc (aF hr (ac 0)) (l1 (ac 1)))) (l1 (cT bJ T.Kd (l1 (ac 2))))))))))) rfl
def cA:ap:=aP 2 (C.d0 fm)
def l8(T:Txt P w K mg):Kb P w K mg base 2 "tally_of_take" 2 cA:=b9 ["jars","body"] T.o_tally_of_take (fun _ _ _ _ _ _ _ hr nd=>(aj (al (aA (lc (aA (lc ai (l1 ai))) (lc (c4 (gN T) hr (lc (ac 0) (lc (aF hr (ac 1)) (l1 (fN bK (aF hr (ac 1))))))) (l1 (c4 (gN T) hr (lc (ac 0) (lc (aF hr (ac 1)) (l1 (aF hr (ac 1))))))))))))) rfl
noncomputable def bv:Nat->ap×ap
 |0=>(nK,nK)
 |n+1=>(aP 5 (C.cj eW fU mT (bv n).1 (bv n).2),aP 6 (C.gq eW fm fU oC cA (bv n).1 (bv n).2))
def dF(n:Nat):ap:=(bv n).1
def jY(n:Nat):ap:=(bv n).2
def kX(T:Txt P w K mg)(n:Nat){s0 s1:ap}(R0:Kb P w K mg base (4+n) "tally_of_often" 3 s0)(R1:Kb P w K mg base (4+n) "tally_of" 3 s1):Kb P w K mg base (4+n+1) "tally_of_often" 3 (aP 5 (C.cj eW fU mT s0 s1)):=b9 ["jars","body","goings","found","going"] T.o_tally_of_often (fun _ _ _ _ _ _ _ hr nd=>(ad (s4 3 nd (c4 (mC T) hr (l1 (ac 0))))
  (ad (bZ V5 rfl (bD (ac 2)) (gn 4 nd) (aj (s4 3 nd (c4 (l6 T) hr (lc (ac 3) (l1 (c4 (As T) hr (lc (c4 R1 hr (lc (ac 0) (lc (aF hr (ac 1)) (l1 (aF hr (ac 4)))))) (l1 (aF hr (ac 4)))))))))))
  (aj (al (ac 3)))))) rfl
def tT(T:Txt P w K mg)(n:Nat){s0 s1:ap}(R0:Kb P w K mg base (4+n) "tally_of_often" 3 s0)(R1:Kb P w K mg base (4+n) "tally_of" 3 s1):Kb P w K mg base (4+n+1) "tally_of" 3 (aP 6 (C.gq eW fm fU oC cA s0 s1)):=b9 ["jars","body","trace","head","nothing","side"] T.o_tally_of (fun _ _ _ _ _ _ _ hr nd=>(ad (s4 3 nd (aF hr (ac 1)))
  (ad (s4 4 nd (c4 (mC T) hr (l1 (ac 0))))
  (ad (aZ (e_ hr (ac 3) aw) (aj (al (aA (lc (aF hr (ac 1)) (lc (aF hr (ac 4)) (l1 (aF hr (ac 4)))))))) aI)
  (ad (aZ (e_ hr (ac 3) aw) (aj (al (aA (lc (aF hr (ac 4)) (lc (c4 (gN T) hr (lc (ac 0) (lc (aF hr (ac 1)) (l1 (aF hr (ac 1)))))) (l1 (aF hr (ac 4)))))))) aI)
  (ad (aZ (e_ hr (ac 3) aw) (aj (al (c4 (l6 T) hr (lc (c4 R1 hr (lc (ac 0) (lc (aF hr (ac 1)) (l1 (aF hr (ac 2)))))) (l1 (c4 R1 hr (lc (ac 0) (lc (aF hr (ac 1)) (l1 (aF hr (ac 2))))))))))) aI)
  (ad (aZ (e_ hr (ac 3) aw) (aj (al (c4 R0 hr (lc (ac 0) (lc (ac 1) (l1 (ac 2))))))) aI)
  (ad (aZ (bq (eL (dU hr)) (ac 3) (aA (lc aw (l1 aw))) rfl) (aj (al (ac 4))) aI)
  (ad (s4 5 nd (c4 R1 hr (lc (ac 0) (lc (c4 (xN T) hr (lc (ac 1) (l1 (ac 2)))) (l1 (aF hr (ac 2)))))))
  (ad (aZ (sH (j9 (e_ hr (ac 3) aw) (il (e_ hr (aF hr (ac 2)) ai)))) (aj (al (c4 (l6 T) hr (lc (c4 (l8 T) hr (lc (ac 0) (l1 (ac 1)))) (l1 (ac 5)))))) aI)
  (aj (al (ac 5))))))))))))) rfl
theorem eX(T:Txt P w K mg):∀n:Nat,Kb P w K mg base (4+n) "tally_of_often" 3 (dF n)/\Kb P w K mg base (4+n) "tally_of" 3 (jY n)
 |0=>⟨.zero T.o_tally_of_often,.zero T.o_tally_of⟩
 |n+1=>let ⟨h0,h1⟩:=eX T n;⟨kX T n h0 h1,tT T n h0 h1⟩
def oF:ap:=jY 12
def tU(T:Txt P w K mg):Kb P w K mg base 16 "tally_of" 3 oF:=(eX T 12).2
def de:ap:=aP 2 (CL.cU dE)
def jZ(T:Txt P w K mg):Kb P w K mg base 15 "numbered_bodies" 2 de:=b9 ["body","names"] T.o_numbered_bodies (fun _ _ _ _ _ _ _ hr nd=>(aj (al (aB aD (a_ (l1 (aA (lc ij (l1 (ac 0)))))) (c4 (kU T) hr (lc (ac 0) (l1 (ac 1)))))))) rfl
def sd:ap:=aP 9 (CL.qZ eU de mB oF)
def At(T:Txt P w K mg):Kb P w K mg base 30 "lines" 1 sd:=b9 ["house","names","found","d","deed","number","body","trace","gone"] T.o_lines (fun _ _ _ _ _ _ _ hr nd=>(ad (s4 1 nd (c4 (iT T) hr (l1 (ac 0))))
  (ad (s4 2 nd (a_ cn))
  (ad (bZ V5 rfl (jE rfl rfl T.Kw (by decide +kernel) (l1 (aF hr (ac 0)))) (pV rfl (aO (gn 3 nd) (aO (gn 4 nd) cI))) (aj (bZ V5 rfl (bD (c4 (jZ T) hr (lc (aF hr (ac 4)) (l1 (ac 1))))) (pV rfl (aO (gn 5 nd) (aO (gn 6 nd) cI))) (aj (bZ V5 rfl (bD (c4 (r_ T) hr (lc (ac 6) (l1 (ac 1))))) (gn 7 nd) (ad (s4 8 nd (c4 (tU T) hr (lc (aF hr (ac 0)) (lc (ac 6) (l1 (ac 7))))))
  (aj (bY (ua cK dQ (ac 2) (l1 (aA (lc (ac 3) (lc (ac 5) (lc (aF hr (ac 8)) (lc (aF hr (ac 8)) (l1 (ac 7)))))))))))))))))
  (aj (al (cT bJ T.Kd (l1 (ac 2))))))))) rfl
def eY:ap:=aP 4 (C.eO cz jf)
def mK(T:Txt P w K mg):Kb P w K mg base 14 "rows_of_body" 2 eY:=b9 ["body","names","rows","come_to"] T.o_rows_of_body (fun _ _ _ _ _ _ _ hr nd=>(ad (zc [] 1 [] ["found"] 2 nd (bD (cD (dB T) hr (lc (ac 0) (l1 (ac 1))))) (fun _=>(gn 0 Hu)) (fun _=>(kj (fe (c4 (oB T) hr (l1 (aF hr (ac 0))))))) (fun _=>(ac 0)))
  (ad (zc [] 2 [] ["row","found"] 3 nd (jE rfl rfl T.Kw (by decide +kernel) (l1 (ac 2))) (fun _=>(pV rfl (aO (gn 0 Dl) (aO (gn 1 Dl) cI)))) (fun _=>(kj (fe (aF hr (ac 1))))) (fun _=>(ac 0)))
  (aj (al (cT bJ T.Kd (l1 (aB aD (ac 3) (a_ (l1 (cB dP T.Lo (l1 (ac 2))))))))))))) rfl
def eZ:ap:=aP 2 (C.eP eU eY)
def mL(T:Txt P w K mg):Kb P w K mg base 30 "rows_come_to" 1 eZ:=b9 ["house","names"] T.o_rows_come_to (fun _ _ _ _ _ _ _ hr nd=>(ad (s4 1 nd (c4 (iT T) hr (l1 (ac 0))))
  (aj (al (cT bJ T.Kd (l1 (p_ ["names"] 1 [1] ["deed","names"] (bD (aF hr (ac 0))) (fun _=>(gn 0 Hx)) (fun _=>cp) (fun _=>(c4 (mK T) hr (lc (aF hr (ac 0)) (l1 (ac 1)))))))))))) rfl
def b8:ap:=aP 3 (CL.b4 eU)
def hV(T:Txt P w K mg):Kb P w K mg base 30 "worths_of_fillable" 2 b8:=b9 ["house","worths","names"] T.o_worths_of_fillable (fun _ _ _ _ _ _ _ hr nd=>(ad (s4 2 nd (c4 (iT T) hr (l1 (ac 0))))
  (aj (al (cT (BW rfl) T.Rm (l1 (p_ ["names"] 2 [2] ["jar","worth","names"] (pW rfl rfl rfl T.M5 (by decide +kernel) (lc (aF hr (ac 0)) (l1 (ac 1)))) (fun _=>(pV rfl (aO (gn 0 Dm) (aO (gn 1 Dm) cI)))) (fun _=>(kj (bq (jq (dU hr)) (ac 0) (ac 2) rfl))) (fun _=>(aA (lc (ac 0) (l1 (ac 1)))))))))))) rfl
def j0:ap:=aP 4 (CL.eQ jW jh we)
def tV(T:Txt P w K mg):Kb P w K mg base 4 "asked_at" 3 j0:=b9 ["row","lefts","worths","head"] T.o_asked_at (fun _ _ _ _ _ _ _ hr nd=>(ad (s4 3 nd (aF hr (ac 0)))
  (ad (aZ (e_ hr (ac 3) aw) (aj (al (a_ (l1 (aA (lc ai (l1 ai))))))) aI)
  (ad (aZ (e_ hr (ac 3) aw) (aj (al (a_ (l1 (c4 (kR T) hr (lc (aF hr (ac 0)) (l1 (eA hr (ac 1) (aF hr (ac 0)))))))))) aI)
  (ad (aZ (e_ hr (ac 3) aw) (aj (al (a_ (l1 (c4 (kR T) hr (lc (c4 (kS T) hr (lc (eA hr (ac 2) (aF hr (ac 0))) (l1 (aA (lc (aF hr (ac 0)) (l1 ai)))))) (l1 (eA hr (ac 1) (aF hr (ac 0)))))))))) aI)
  (ad (aZ (BS hr (ac 3) aw) (aj (al (a_ (lc (eA hr (ac 1) (aF hr (ac 0))) (l1 (eA hr (ac 1) (aF hr (ac 0)))))))) aI)
  (ad (aZ (bq (eL (dU hr)) (aF hr (ac 0)) (ac 2) rfl) (aj (al (a_ (l1 (eA hr (ac 1) (aF hr (ac 0))))))) aI)
  (aj (al (a_ (lc (eA hr (ac 1) (aF hr (ac 0))) (l1 (c4 (Aq T) hr (lc (eA hr (ac 1) (aF hr (ac 0))) (l1 (c4 (kS T) hr (lc (eA hr (ac 2) (aF hr (ac 0))) (l1 (aA (lc (aF hr (ac 0)) (l1 ai))))))))))))))))))))) rfl
def fH:ap:=aP 6 (CL.fG qw j0)
def oG(T:Txt P w K mg):Kb P w K mg base 5 "least_lefts" 3 fH:=b9 ["rows","come_to","worths","lefts","ahead","number"] T.o_least_lefts (fun _ _ _ _ _ _ _ hr nd=>(ad (s4 3 nd (aB bi (a_ (l1 (aA (lc ai (l1 ai))))) (cB dP T.Lo (l1 (ac 0)))))
  (ad (s4 4 nd ij)
  (ad (i4 V5 (BS hr (ac 3) (ac 4)) (ad (s4 4 nd (cT (ED rfl) T.Qe (l1 (ac 3))))
  (aj (bZ V5 rfl (EW Br rfl T.Oc (ac 1)) (gn 5 nd) (aj (kg (xU hr) (c4 (vg T) hr (l1 (aB aD (a_ (l1 (eA hr (ac 3) (ac 5)))) (c4 (tV T) hr (lc (eA hr (ac 0) (ac 5)) (lc (ac 3) (l1 (ac 2)))))))) (ac 3) (ac 5)))))))
  (aj (al (cT bJ T.Kd (l1 (ac 3))))))))) rfl
def se:ap:=aP 2 (CL.rm vf jW oE)
def Au(T:Txt P w K mg):Kb P w K mg base 6 "gains" 2 se:=b9 ["line","worths"] T.o_gains (fun _ _ _ _ _ _ _ hr nd=>(aj (al (c4 (wf T) hr (lc (aA (lc ai (l1 ai))) (l1 (c4 (kR T) hr (lc (aF hr (ac 0)) (l1 (c4 (tS T) hr (lc (aF hr (ac 0)) (l1 (ac 1))))))))))))) rfl
def j1:ap:=aP 7 (CL.jQ sd se b8 eZ fH r6)
def tW(T:Txt P w K mg):Kb P w K mg base 31 "paper_by" 2 j1:=b9 ["house","worths","gaining","by_name","lefts","deed","come_to"] T.o_paper_by (fun _ _ _ _ _ _ _ hr nd=>(ad (zc ["worths"] 1 [1] ["line","worths"] 2 nd (bD (c4 (At T) hr (l1 (ac 0)))) (fun _=>(gn 0 Hy)) (fun _=>(kj (sH (j9 (bq j_ (aF hr (ac 0)) ij (bf _)) (il (fe (c4 (Au T) hr (lc (ac 0) (l1 (ac 1)))))))))) (fun _=>(ac 0)))
  (ad (aZ (BS hr (ac 2) (a_ cn)) (aj (al (aA (lc aw (l1 (aF hr (ac 2))))))) aI)
  (ad (s4 3 nd (c4 (hV T) hr (lc (ac 0) (l1 (ac 1)))))
  (ad (s4 4 nd (a_ cn))
  (ad (bZ V5 rfl (pW rfl rfl rfl T.M5 (by decide +kernel) (lc (aF hr (ac 0)) (l1 (c4 (mL T) hr (l1 (ac 0)))))) (pV rfl (aO (gn 5 nd) (aO (gn 6 nd) cI))) (aj (bY (ua cK dQ (ac 4) (l1 (c4 (oG T) hr (lc (c4 (Ap T) hr (l1 (aF hr (ac 5)))) (lc (ac 6) (l1 (ac 3))))))))))
  (aj (al (aA (lc aw (l1 (aA (lc (ac 1) (l1 (cT bJ T.Kd (l1 (ac 4))))))))))))))))) rfl
def mD:ap:=aP 5 C.ix
def sf(T:Txt P w K mg):Kb P w K mg base 1 "_law_deal" 2 mD:=b9 ["_law_script","_law_base","_law_one_here","_law_some","_law_number"] T.o__law_deal (fun _ _ _ _ _ _ _ hr nd=>(ad (zc [] 1 [] ["_law_one_here"] 3 nd (bD (fg (ac 0) (fz (ac 1)) (fz ai))) (fun _=>(gn 0 Dn)) (fun _=>cp) (fun _=>(cB (qN rfl) T.PB (lc (ac 0) (l1 (aB dS ai (ac 0)))))))
  (ad (s4 4 nd (aB aD ai (ac 1)))
  (ad (bZ V5 rfl (bD (ac 3)) (gn 2 nd) (aj (s4 4 nd (aB gY (aB aD (aB bi (ac 4) ai) (aB gY (ac 2) ai)) ai))))
  (aj (al (EL (qQ aw (ac 4) (qQ aw ai (qQ aw (EN wN rfl (p_ [] 1 [] ["_law_one_here"] (bD (ac 3)) (fun _=>(gn 0 Dn)) (fun _=>(kj (bq I_ (ac 0) (aB Dg ai ai) (bf _)))) (fun _=>(ac 0))) rfl T.Qe rfl T.Oc) EK)))))))))) rfl
def w__law_draw:ap:=aP 5 C.iy
def az(T:Txt P w K mg):Kb P w K mg base 1 "_law_draw" 2 w__law_draw:=b9 ["_law_deal_here","_law_many","_law_number","_law_one_here","_law_other"] T.o__law_draw (fun _ _ _ _ _ _ _ hr nd=>(ad (i4 V5 (sH (j9 (e_ hr (eA hr (ac 0) aw) ai) (il (bq yZ (cB dP T.Lo (l1 (eA hr (ac 0) aw))) ai (bf _))))) (aj (kg (xU hr) (Jg EV GT (eA hr (ac 0) aw)) (ac 0) aw)))
  (ad (s4 2 nd (eA hr (ac 0) aw))
  (ad (aZ (bq yZ (ac 2) ai (bf _)) (ad (kg (xU hr) (aB jF (ac 2) (ac 1)) (ac 0) aw)
  (aj (al (aB gY (ac 2) (ac 1))))) aI)
  (ad (s4 3 nd (aB gY (aB aD (aB bi (eA hr (ac 0) aw) ai) ai) ai))
  (ad (kg (xU hr) (aB gY (aB aD (aB bi (ac 3) ai) ai) ai) (ac 0) aw)
  (ad (s4 4 nd (aB gY (aB bi (eA hr (ac 0) aw) (eA hr (ac 0) aw)) ai))
  (aj (al (aB gY (aB aD (aB bi (aB gY (aB bi (ac 3) (ac 3)) ai) ai) (ac 4)) (ac 1))))))))))) rfl
def gP:ap:=aP 11 (C.gg w__law_draw)
def o_(T:Txt P w K mg):Kb P w K mg base 2 "_law_words" 2 gP:=b9 ["_law_deal_here","_law_many","_law_letters","_law_taken","_law_k","_law_core","_law_at","_law_turn","_law_near","_law_found","_law_name"] T.o__law_words (fun _ _ _ _ _ _ _ hr nd=>(ad (s4 2 nd aw)
  (ad (s4 3 nd (a_ (lc aw (lc aw (lc aw (lc aw (lc aw (lc aw (lc aw (lc aw (lc aw (l1 aw))))))))))))
  (ad (s4 5 nd (ua vK yT aw (l1 (p_ ["_law_letters","_law_deal_here"] 1 [0,2] ["_law_k","_law_deal_here","_law_letters"] (iq rfl rfl T.Nn (l1 (c4 (az T) hr (lc (ac 0) (l1 ai))))) (fun _=>(gn 0 Hz)) (fun _=>cp) (fun _=>(eA hr (ac 2) (c4 (az T) hr (lc (ac 1) (l1 ai)))))))))
  (ad (BI (i:=6) (j:=7) (k:=8) rfl nd rfl rfl rfl rfl rfl rfl (aA (lc (c4 (az T) hr (lc (ac 0) (l1 (aB aD (cB dP T.Lo (l1 (ac 5))) ai)))) (lc (c4 (az T) hr (lc (ac 0) (l1 ai))) (l1 (ik (nl (kl hr)) (c4 (az T) hr (lc (ac 0) (l1 ai))) ai (bf _)))))))
  (ad (s4 9 nd (a_ cn))
  (ad (bZ V5 rfl (iq rfl rfl T.Nn (l1 (ac 1))) (gn 4 nd) (ad (s4 10 nd (aB aD (aB aD (fg (ac 5) ly (fz (ac 6))) (eA hr (ac 2) (aB gY (aB aD (ac 7) (ac 4)) ai))) (fg (ac 5) (fz (ac 6)) ly)))
  (ad (aZ (vB (fe (ac 8))) (aj (s4 10 nd (ua vK yT aw (l1 (p_ ["_law_letters","_law_deal_here"] 1 [0,2] ["_law_j","_law_deal_here","_law_letters"] (iq rfl rfl T.Nn (l1 (aB aD ai (c4 (az T) hr (lc (ac 0) (l1 ai)))))) (fun _=>(gn 0 HA)) (fun _=>cp) (fun _=>(eA hr (ac 2) (c4 (az T) hr (lc (ac 1) (l1 ai)))))))))) aI)
  (ad (i4 V5 (sH (nj (bq (jq (dU hr)) (ac 10) (ac 3) rfl) (j8 (bq (jq (dU hr)) (ac 10) (ac 9) rfl)))) (aj (s4 10 nd (aB aD (eA hr (ac 2) (aB gY (aB aD (ua zb BH (ac 2) (l1 (aF hr (ac 10)))) ai) ai)) (fg (ac 10) (fz ai) ly)))))
  (aj (bY (ua cK dQ (ac 9) (l1 (ac 10)))))))))
  (aj (al (ac 9)))))))))) rfl
def cF:ap:=aP 4 C.jG
def dZ(T:Txt P w K mg):Kb P w K mg base 1 "_law_low" 2 cF:=b9 ["_law_top","_law_bottom","_law_one_here","_law_other"] T.o__law_low (fun _ _ _ _ _ _ _ hr nd=>(ad (Df (i:=2) (j:=3) rfl nd rfl rfl (by decide) rfl rfl (lc (cB (qN rfl) T.PB (lc (ac 0) (l1 (aB dS ai (ac 0))))) (l1 (ac 1))))
  (ad (i4 V5 (bq yZ (ac 3) ai (bf _)) (aj (Df (i:=2) (j:=3) rfl nd rfl rfl (by decide) rfl rfl (lc (ac 3) (l1 (aB gY (ac 2) (ac 3)))))))
  (aj (al (aA (lc (aB jF (ac 0) (ac 2)) (l1 (aB jF (ac 1) (ac 2)))))))))) rfl
def fo:ap:=aP 2 (C.fh cF)
def kY(T:Txt P w K mg):Kb P w K mg base 2 "_law_plus" 2 fo:=b9 ["_law_one_here","_law_other"] T.o__law_plus (fun _ _ _ _ _ _ _ hr nd=>(aj (al (c4 (dZ T) hr (lc (aB aD (aB bi (aF hr (ac 0)) (aF hr (ac 1))) (aB bi (aF hr (ac 1)) (aF hr (ac 0)))) (l1 (aB bi (aF hr (ac 0)) (aF hr (ac 1))))))))) rfl
def kZ:ap:=aP 2 (CL.gr cF)
def ph(T:Txt P w K mg):Kb P w K mg base 2 "_law_times" 2 kZ:=b9 ["_law_one_here","_law_many"] T.o__law_times (fun _ _ _ _ _ _ _ hr nd=>(aj (al (c4 (dZ T) hr (lc (aB bi (aF hr (ac 0)) (ac 1)) (l1 (aF hr (ac 0)))))))) rfl
def iW:ap:=aP 2 (C.iz w__law_draw cF)
def sg(T:Txt P w K mg):Kb P w K mg base 2 "_law_cost" 1 iW:=b9 ["_law_deal_here","_law_form"] T.o__law_cost (fun _ _ _ _ _ _ _ hr nd=>(ad (s4 1 nd (c4 (az T) hr (lc (ac 0) (l1 ai))))
  (ad (aZ (e_ hr (ac 1) ai) (aj (al (aA (lc ai (l1 ai))))) aI)
  (ad (aZ (bq qR (ac 1) ai (bf _)) (aj (al (aA (lc (aB aD ai (c4 (az T) hr (lc (ac 0) (l1 ai)))) (l1 ai))))) aI)
  (aj (al (c4 (dZ T) hr (lc (c4 (az T) hr (lc (ac 0) (l1 ai))) (l1 (aB aD ai (c4 (az T) hr (lc (ac 0) (l1 ai))))))))))))) rfl
def fq:ap:=aP 4 (C.iA w__law_draw iW)
def gQ(T:Txt P w K mg):Kb P w K mg base 3 "_law_leaf" 2 fq:=b9 ["_law_deal_here","_law_jars","_law_form","_law_many"] T.o__law_leaf (fun _ _ _ _ _ _ _ hr nd=>(ad (s4 2 nd (c4 (az T) hr (lc (ac 0) (l1 ai))))
  (ad (aZ (e_ hr (ac 2) ai) (aj (al (aA (l1 aw)))) aI)
  (ad (aZ (sH (nj (bq qR (ac 2) ai (bf _)) (j8 (e_ hr (cB dP T.Lo (l1 (ac 1))) ai)))) (aj (al (aA (lc aw (l1 (c4 (sg T) hr (l1 (ac 0)))))))) aI)
  (ad (s4 3 nd (eA hr (a_ (lc ai (lc ai (l1 (aB aD ai (c4 (az T) hr (lc (ac 0) (l1 ai)))))))) (c4 (az T) hr (lc (ac 0) (l1 ai)))))
  (aj (al (aA (lc aw (lc (eA hr (ac 1) (c4 (az T) hr (lc (ac 0) (l1 (cB dP T.Lo (l1 (ac 1))))))) (l1 (ac 3)))))))))))) rfl
noncomputable def ft:Nat->ap
 |0=>nK
 |n+1=>aP 8 (C.iB w__law_draw fq (ft n))
def mE:ap:=ft 12
def sh(T:Txt P w K mg):Kb P w K mg base 15 "_law_body" 4 mE:=nL (b:=3) (r:=ft) T.o__law_body (fun n R0=>b9 ["_law_deal_here","_law_jars","_law_left","_law_down","_law_form","_law_one_here","_law_other","_law_many"] T.o__law_body (fun _ _ _ _ _ _ _ hr nd=>(ad (s4 4 nd (c4 (az T) hr (lc (ac 0) (l1 ai))))
  (ad (aZ (sH (nj (e_ hr (ac 3) ai) (nj (bq qR (aF hr (ac 2)) ai (bf _)) (j8 (bq qR (ac 4) ai (bf _)))))) (aj (al (c4 (gQ T) hr (lc (ac 0) (l1 (ac 1)))))) aI)
  (ad (aZ (bq qR (ac 4) ai (bf _)) (ad (kg (xU hr) (aB dS (aF hr (ac 2)) ai) (ac 2) ai)
  (aj (al (aA (lc aw (l1 (c4 R0 hr (lc (ac 0) (lc (ac 1) (lc (ac 2) (l1 (aB dS (ac 3) ai)))))))))))) aI)
  (ad (kg (xU hr) (aB dS (aF hr (ac 2)) ai) (ac 2) ai)
  (ad (s4 5 nd (c4 R0 hr (lc (ac 0) (lc (ac 1) (lc (ac 2) (l1 (aB dS (ac 3) ai)))))))
  (ad (s4 6 nd (c4 R0 hr (lc (ac 0) (lc (ac 1) (lc (ac 2) (l1 (aB dS (ac 3) ai)))))))
  (ad (aZ (bq qR (ac 4) ai (bf _)) (aj (al (aA (lc aw (lc (ac 5) (l1 (ac 6))))))) aI)
  (ad (aZ (sH (nj (e_ hr (ac 4) ai) (j8 (e_ hr (cB dP T.Lo (l1 (ac 1))) ai)))) (aj (al (aA (lc aw (lc (ac 5) (l1 (ac 6))))))) aI)
  (ad (s4 7 nd (eA hr (a_ (lc ai (lc ai (lc ai (l1 (aB aD ai (c4 (az T) hr (lc (ac 0) (l1 ai))))))))) (c4 (az T) hr (lc (ac 0) (l1 ai)))))
  (aj (al (aA (lc aw (lc (eA hr (ac 1) (c4 (az T) hr (lc (ac 0) (l1 (cB dP T.Lo (l1 (ac 1))))))) (lc (ac 7) (lc (ac 5) (l1 (ac 6))))))))))))))))))) rfl) rfl rfl 12
noncomputable def bV:Nat->ap
 |0=>nK
 |n+1=>aP 1 (C.cR (bV n))
def bW:ap:=bV 12
def e8(T:Txt P w K mg):Kb P w K mg base 12 "_law_pass_count" 1 bW:=nL (b:=0) (r:=bV) T.o__law_pass_count (fun n R0=>b9 ["_law_body_here"] T.o__law_pass_count (fun _ _ _ _ _ _ _ hr nd=>(ad (aZ (e_ hr (aF hr (ac 0)) aw) (aj (al (aB bi (c4 R0 hr (l1 (aF hr (ac 0)))) (c4 R0 hr (l1 (aF hr (ac 0))))))) aI)
  (ad (aZ (sH (nj (e_ hr (aF hr (ac 0)) aw) (j8 (e_ hr (aF hr (ac 0)) aw)))) (aj (al (aB aD (c4 R0 hr (l1 (eA hr (ac 0) (fN bK ai)))) (c4 R0 hr (l1 (eA hr (ac 0) (fN bK ai))))))) aI)
  (aj (al ai))))) rfl) rfl rfl 12
noncomputable def bP:Nat->ap
 |0=>nK
 |n+1=>aP 1 (C.cC bW (bP n))
def e9:ap:=bP 12
def jo(T:Txt P w K mg):Kb P w K mg base 24 "_law_round_count" 1 e9:=nL (b:=12) (r:=bP) T.o__law_round_count (fun n R0=>b9 ["_law_body_here"] T.o__law_round_count (fun _ _ _ _ _ _ _ hr nd=>(ad (aZ (e_ hr (aF hr (ac 0)) aw) (aj (al (aB aD (c4 (e8 T) hr (l1 (aF hr (ac 0)))) (c4 R0 hr (l1 (aF hr (ac 0))))))) aI)
  (ad (aZ (bq (jq (dU hr)) (aF hr (ac 0)) (aA (lc aw (lc aw (l1 aw)))) rfl) (aj (al (aB aD (c4 R0 hr (l1 (eA hr (ac 0) (fN bK ai)))) (c4 R0 hr (l1 (eA hr (ac 0) (fN bK ai))))))) aI)
  (aj (al ai))))) rfl) rfl rfl 12
def dG:ap:=aP 5 (C.dr mE bW e9 fq)
def k4(T:Txt P w K mg):Kb P w K mg base 25 "_law_deed_body" 4 dG:=b9 ["_law_deal_here","_law_jars","_law_room","_law_most","_law_body_here"] T.o__law_deed_body (fun _ _ _ _ _ _ _ hr nd=>(ad (s4 4 nd (c4 (sh T) hr (lc (ac 0) (lc (ac 1) (lc (a_ (l1 (aB dS (ac 2) ai))) (l1 ai))))))
  (ad (aZ (bq yZ (aB aD (c4 (e8 T) hr (l1 (ac 4))) (c4 (jo T) hr (l1 (ac 4)))) (ac 3) (bf _)) (aj (s4 4 nd (aA (lc aw (lc (aA (lc aw (l1 (c4 (gQ T) hr (lc (ac 0) (l1 (ac 1))))))) (l1 (c4 (gQ T) hr (lc (ac 0) (l1 (ac 1)))))))))) aI)
  (aj (al (ac 4)))))) rfl
def gR:ap:=aP 9 (C.gh gP w__law_draw dG)
def pk(T:Txt P w K mg):Kb P w K mg base 26 "_law_house" 4 gR:=b9 ["_law_deal_here","_law_most_jars","_law_most_deeds","_law_room","_law_words_here","_law_jars","_law_first","_law_many","_law_deeds"] T.o__law_house (fun _ _ _ _ _ _ _ hr nd=>(ad (s4 4 nd (c4 (o_ T) hr (lc (ac 0) (l1 ai))))
  (ad (s4 5 nd (cT bJ T.Kd (l1 (fg (ac 4) ly (fz (c4 (az T) hr (lc (ac 0) (l1 (aB aD (ac 1) ai)))))))))
  (ad (s4 6 nd (eA hr (a_ (lc ai (l1 ai))) (c4 (az T) hr (lc (ac 0) (l1 ai)))))
  (ad (s4 7 nd (aB aD ai (c4 (az T) hr (lc (ac 0) (l1 (ac 2))))))
  (ad (zc ["_law_words_here","_law_room","_law_many","_law_jars","_law_first","_law_deal_here"] 1 [0,6,5,7,3,4] ["_law_k","_law_deal_here","_law_first","_law_jars","_law_many","_law_room","_law_words_here"] 8 nd (iq rfl rfl T.Nn (l1 (ac 7))) (fun _=>(gn 0 HB)) (fun _=>cp) (fun _=>(aA (lc (eA hr (ac 6) (aB aD (ac 2) (ac 0))) (l1 (c4 (k4 T) hr (lc (ac 1) (lc (ac 3) (lc (ac 5) (l1 (aB jF ai (ac 4))))))))))))
  (aj (al (aA (lc (ac 5) (l1 (cT bJ T.Kd (l1 (ac 8)))))))))))))) rfl
noncomputable def fu:Nat->ap
 |0=>nK
 |n+1=>aP 3 (C.iF (fu n))
def mF:ap:=fu 12
def si(T:Txt P w K mg):Kb P w K mg base 12 "_law_puts" 3 mF:=nL (b:=0) (r:=fu) T.o__law_puts (fun n R0=>b9 ["_law_body_here","_law_held","_law_found"] T.o__law_puts (fun _ _ _ _ _ _ _ hr nd=>(ad (aZ (e_ hr (aF hr (ac 0)) aw) (aj (bY (ua cK dQ (ac 2) (l1 (aF hr (ac 0)))))) aI)
  (ad (aZ (e_ hr (aF hr (ac 0)) aw) (aj (bY (c4 R0 hr (lc (aF hr (ac 0)) (lc (ac 1) (l1 (ac 2))))))) aI)
  (aj (aZ (bq (jq (dU hr)) (aF hr (ac 0)) (aA (lc aw (lc aw (l1 aw)))) rfl) (ad (aZ (sH (nj (BS hr (aF hr (ac 0)) aw) (j8 (bq (jq (dU hr)) (aF hr (ac 0)) (ac 1) rfl)))) (aj (bY (c4 R0 hr (lc (eA hr (ac 0) (fN bK ai)) (lc (ac 1) (l1 (ac 2))))))) aI)
  (aj (bY (c4 R0 hr (lc (eA hr (ac 0) (fN bK ai)) (lc (ac 1) (l1 (ac 2)))))))) aI))))) rfl) rfl rfl 12
def d_:ap:=aP 6 (C.d4 mF)
def l9(T:Txt P w K mg):Kb P w K mg base 13 "_law_fillable" 1 d_:=b9 ["_law_house_here","_law_held","_law_turn","_law_found","_law_name","_law_body_here"] T.o__law_fillable (fun _ _ _ _ _ _ _ hr nd=>(ad (s4 1 nd (a_ cn))
  (ad (bZ V5 rfl (bD (aF hr (ac 0))) (gn 2 nd) (ad (s4 3 nd (a_ cn))
  (ad (bZ V5 rfl (bD (aF hr (ac 0))) (pV rfl (aO (gn 4 nd) (aO (gn 5 nd) cI))) (aj (bY (c4 (si T) hr (lc (ac 5) (lc (ac 1) (l1 (ac 3))))))))
  (aj (s4 1 nd (ac 3))))))
  (aj (al (ac 1)))))) rfl
noncomputable def eC:Nat->ap
 |0=>nK
 |n+1=>aP 2 (CL.cV (eC n))
def k5:ap:=eC 12
def pA(T:Txt P w K mg):Kb P w K mg base 12 "_law_alike" 2 k5:=nL (b:=0) (r:=eC) T.o__law_alike (fun n R0=>b9 ["_law_found","_law_due"] T.o__law_alike (fun _ _ _ _ _ _ _ hr nd=>(ad (aZ (sH (nj (fe (cB pS T.KC (lc (ac 1) (l1 (FX T.Kd))))) (j8 (fe (cB pS T.KC (lc (ac 0) (l1 (FX T.Kd)))))))) (ad (aZ (sH (nj (vB (fe (cB pS T.KC (lc (ac 0) (l1 (FX T.Kd)))))) (nj (vB (fe (cB pS T.KC (lc (ac 1) (l1 (FX T.Kd)))))) (j8 (BS hr (cB dP T.Lo (l1 (ac 0))) (cB dP T.Lo (l1 (ac 1)))))))) (aj (al Bw)) aI)
  (aj (al (cB (GQ rfl) T.RY (l1 (p_ [] 2 [] ["_law_one_here","_law_other"] (uM rfl rfl rfl T.M5 (by decide +kernel) (lc (ac 0) (l1 (ac 1)))) (fun _=>(pV rfl (aO (gn 0 Do) (aO (gn 1 Do) cI)))) (fun _=>cp) (fun _=>(c4 R0 hr (lc (ac 0) (l1 (ac 1))))))))))) aI)
  (aj (al (sJ (ik (nl (kl hr)) (ac 0) (ac 1) (bf _)) (sI (ik (nl (kl hr)) (cB pS T.KC (lc (ac 0) (l1 (FX T.Qd)))) (cB pS T.KC (lc (ac 1) (l1 (FX T.Qd)))) (bf _)))))))) rfl) rfl rfl 12
def oH:ap:=aP 3 CL.jO
def tX(T:Txt P w K mg):Kb P w K mg base 1 "_law_one" 2 oH:=b9 ["_law_body_here","_law_jars","_law_effect"] T.o__law_one (fun _ _ _ _ _ _ _ hr nd=>(ad (s4 2 nd (aB bi (a_ (l1 ai)) (cB dP T.Lo (l1 (ac 1)))))
  (ad (aZ (e_ hr (aF hr (ac 0)) aw) (aj (kg (xU hr) (aF hr (ac 0)) (ac 2) (y_ YV Yl YW nI rfl (ac 1) (l1 (aF hr (ac 0)))))) aI)
  (aj (al (aA (lc (eA hr (a_ (lc (aA (lc ai (l1 ai))) (l1 (eA hr (ac 0) (fN bK ai))))) (cT GP T.RZ (l1 (ik (nl (kl hr)) (aF hr (ac 0)) aw (bf _))))) (lc (cT bJ T.Kd (l1 (ac 2))) (l1 (aA cn)))))))))) rfl
def jz:ap:=aP 9 CL.fD
def df(T:Txt P w K mg):Kb P w K mg base 1 "_law_behind" 4 jz:=b9 ["_law_some","_law_side","_law_jars","_law_taken","_law_found","_law_cost_here","_law_effect","_law_trace","_law_gone"] T.o__law_behind (fun _ _ _ _ _ _ _ hr nd=>(ad (s4 4 nd (a_ cn))
  (ad (bZ V5 rfl (bD (ac 0)) (pV rfl (aO (gn 5 nd) (aO (gn 6 nd) (aO (gn 7 nd) cI)))) (ad (s4 8 nd (aB bi (a_ (l1 ai)) (cB dP T.Lo (l1 (ac 2)))))
  (ad (aZ (bq j_ (ac 3) ij (bf _)) (aj (kg (xU hr) (aF hr (ac 3)) (ac 8) (y_ YV Yl YW nI rfl (ac 2) (l1 (aF hr (ac 3)))))) aI)
  (aj (bY (ua cK dQ (ac 4) (l1 (aA (lc (ac 5) (lc (cT bJ T.Kd (l1 (p_ [] 2 [] ["_law_one_here","_law_more_here"] (uM rfl rfl rfl T.M5 (by decide +kernel) (lc (ac 6) (l1 (ac 8)))) (fun _=>(pV rfl (aO (gn 0 Dp) (aO (gn 1 Dp) cI)))) (fun _=>cp) (fun _=>(aB dS (ac 0) (ac 1)))))) (l1 (aA (lc (ac 1) (l1 (ac 7)))))))))))))))
  (aj (al (ac 4)))))) rfl
noncomputable def dM:Nat->ap
 |0=>nK
 |n+1=>aP 8 (CL.fE fo jz oH (dM n))
def dN:ap:=dM 12
def iX(T:Txt P w K mg):Kb P w K mg base 14 "_law_passes" 3 dN:=nL (b:=2) (r:=dM) T.o__law_passes (fun n R0=>b9 ["_law_body_here","_law_jars","_law_held","_law_found","_law_one_here","_law_other","_law_effect","_law_first"] T.o__law_passes (fun _ _ _ _ _ _ _ hr nd=>(ad (aZ (e_ hr (aF hr (ac 0)) aw) (ad (s4 3 nd (a_ cn))
  (ad (bZ V5 rfl (bD (c4 R0 hr (lc (aF hr (ac 0)) (lc (ac 1) (l1 (ac 2)))))) (gn 4 nd) (aj (bZ V5 rfl (bD (c4 R0 hr (lc (aF hr (ac 0)) (lc (ac 1) (l1 (ac 2)))))) (gn 5 nd) (ad (s4 6 nd (cT bJ T.Kd (l1 (p_ [] 2 [] ["_law_here","_law_there"] (pW rfl rfl rfl T.M5 (by decide +kernel) (lc (aF hr (ac 4)) (l1 (aF hr (ac 5))))) (fun _=>(pV rfl (aO (gn 0 Dq) (aO (gn 1 Dq) cI)))) (fun _=>cp) (fun _=>(aB aD (ac 0) (ac 1)))))))
  (aj (bY (ua cK dQ (ac 3) (l1 (aA (lc (c4 (kY T) hr (lc (aF hr (ac 4)) (l1 (aF hr (ac 5))))) (lc (ac 6) (l1 (aA (lc (aF hr (ac 4)) (l1 (aF hr (ac 5)))))))))))))))))
  (aj (al (ac 3))))) aI)
  (ad (aZ (e_ hr (aF hr (ac 0)) aw) (ad (s4 7 nd (c4 (df T) hr (lc (c4 R0 hr (lc (aF hr (ac 0)) (lc (ac 1) (l1 (ac 2))))) (lc ai (lc (ac 1) (l1 ij))))))
  (aj (al (aB aD (ac 7) (c4 (df T) hr (lc (c4 R0 hr (lc (aF hr (ac 0)) (lc (ac 1) (l1 (ac 2))))) (lc ai (lc (ac 1) (l1 ij))))))))) aI)
  (ad (aZ (e_ hr (aF hr (ac 0)) aw) (ad (s4 7 nd (a_ cn))
  (ad (aZ (bq (jq (dU hr)) (aF hr (ac 0)) (ac 2) rfl) (aj (s4 7 nd (c4 (df T) hr (lc (c4 R0 hr (lc (aF hr (ac 0)) (lc (ac 1) (l1 (ac 2))))) (lc ai (lc (ac 1) (l1 (fg (ac 0) (fz ai) (fz ai))))))))) aI)
  (aj (al (aB aD (ac 7) (c4 (df T) hr (lc (c4 R0 hr (lc (aF hr (ac 0)) (lc (ac 1) (l1 (ac 2))))) (lc ai (lc (ac 1) (l1 ij)))))))))) aI)
  (aj (al (a_ (l1 (c4 (tX T) hr (lc (ac 0) (l1 (ac 1)))))))))))) rfl) rfl rfl 12
noncomputable def dO:Nat->ap
 |0=>nK
 |n+1=>aP 6 (CL.fF dN (dO n))
def fI:ap:=dO 12
def oI(T:Txt P w K mg):Kb P w K mg base 26 "_law_rounds" 5 fI:=nL (b:=14) (r:=dO) T.o__law_rounds (fun n R0=>b9 ["_law_body_here","_law_jars","_law_held","_law_number","_law_live","_law_found"] T.o__law_rounds (fun _ _ _ _ _ _ _ hr nd=>(ad (s4 5 nd (a_ cn))
  (ad (aZ (e_ hr (aF hr (ac 0)) aw) (ad (kg (xU hr) (aB aD (aF hr (ac 3)) ai) (ac 3) ai)
  (ad (aZ (fe (ac 4)) (aj (zc ["_law_number"] 1 [3] ["_law_one_here","_law_number"] 5 nd (bD (c4 (iX T) hr (lc (aF hr (ac 0)) (lc (ac 1) (l1 (ac 2)))))) (fun _=>(gn 0 HC)) (fun _=>cp) (fun _=>(aB aD (aA (l1 (aB dS (aF hr (ac 1)) ai))) (ac 0))))) aI)
  (aj (al (aB aD (ac 5) (c4 R0 hr (lc (aF hr (ac 0)) (lc (ac 1) (lc (ac 2) (lc (ac 3) (l1 (ac 4)))))))))))) aI)
  (ad (aZ (bq (jq (dU hr)) (aF hr (ac 0)) (aA (lc aw (lc aw (l1 aw)))) rfl) (ad (s4 5 nd (c4 R0 hr (lc (eA hr (ac 0) (fN bK ai)) (lc (ac 1) (lc (ac 2) (lc (ac 3) (l1 (sJ (ac 4) (sI (IV (ik (De (kl hr)) (aF hr (ac 0)) aw (bf _)) (sI (ik (jq (dU hr)) (aF hr (ac 0)) (ac 2) rfl))))))))))))
  (aj (al (aB aD (ac 5) (c4 R0 hr (lc (eA hr (ac 0) (fN bK ai)) (lc (ac 1) (lc (ac 2) (lc (ac 3) (l1 (ac 4))))))))))) aI)
  (aj (al (ac 5))))))) rfl) rfl rfl 12
def gS:ap:=aP 5 (CL.gu d_ dN fI)
def pB(T:Txt P w K mg):Kb P w K mg base 27 "_law_lines" 1 gS:=b9 ["_law_house_here","_law_held","_law_found","_law_d","_law_deed"] T.o__law_lines (fun _ _ _ _ _ _ _ hr nd=>(ad (s4 1 nd (c4 (l9 T) hr (l1 (ac 0))))
  (ad (s4 2 nd (a_ cn))
  (ad (bZ V5 rfl (jE rfl rfl T.Kw (by decide +kernel) (l1 (aF hr (ac 0)))) (pV rfl (aO (gn 3 nd) (aO (gn 4 nd) cI))) (ad (bY (ua fP io (ac 2) (l1 (p_ ["_law_d"] 1 [3] ["_law_one_here","_law_d"] (bD (c4 (iX T) hr (lc (aF hr (ac 4)) (lc (aF hr (ac 0)) (l1 (ac 1)))))) (fun _=>(gn 0 Dr)) (fun _=>cp) (fun _=>(aB aD (aA (lc (ac 1) (l1 ij))) (ac 0)))))))
  (aj (bY (ua fP io (ac 2) (l1 (p_ ["_law_d"] 1 [3] ["_law_one_here","_law_d"] (bD (c4 (oI T) hr (lc (aF hr (ac 4)) (lc (aF hr (ac 0)) (lc (ac 1) (lc (a_ (l1 ai)) (l1 Bw))))))) (fun _=>(gn 0 Dr)) (fun _=>cp) (fun _=>(aB aD (aA (l1 (ac 1))) (ac 0))))))))))
  (aj (al (ac 2))))))) rfl
def gT(J4 Ku:ap):bx:=(ah (aq 2 (ab J4 [(v3 0),(c3 (.int 5))]))
  (ah (br (aR (af (bn false) (v3 2) (c3 (.int 0)))) (ar (aC [(c3 (.int 0)),(c3 (.int 1))])) aQ)
  (ah (br (aR (af (bn false) (v3 2) (c3 (.int 4)))) (ar (ab Ku [(ab J4 [(v3 0),(af aN (af bM (v3 1) (c3 (.int 2520))) (c3 (.int 1)))]),(c3 (.int 2520))])) aQ)
  (ar (ab Ku [(ab J4 [(v3 0),(af ae (aY [(c3 (.int 4)),(c3 (.int 20)),(c3 (.int 2000))]) (af b3 (v3 2) (c3 (.int 1))))]),(af ae (aY [(c3 (.int 1)),(af aN (c3 (.int 1)) (ab J4 [(v3 0),(c3 (.int 9))]))]) (af gX (v3 2) (c3 (.int 2))))])))))
def gU:ap:=aP 3 (gT w__law_draw cF)
def pC(T:Txt P w K mg):Kb P w K mg base 2 "_law_worth" 2 gU:=b9 ["_law_deal_here","_law_most","_law_form"] T.o__law_worth (fun _ _ _ _ _ _ _ hr nd=>(ad (s4 2 nd (c4 (az T) hr (lc (ac 0) (l1 ai))))
  (ad (aZ (e_ hr (ac 2) ai) (aj (al (aA (lc ai (l1 ai))))) aI)
  (ad (aZ (e_ hr (ac 2) ai) (aj (al (c4 (dZ T) hr (lc (c4 (az T) hr (lc (ac 0) (l1 (aB aD (aB bi (ac 1) ai) ai)))) (l1 ai))))) aI)
  (aj (al (c4 (dZ T) hr (lc (c4 (az T) hr (lc (ac 0) (l1 (eA hr (a_ (lc ai (lc ai (l1 ai)))) (aB dS (ac 2) ai))))) (l1 (eA hr (a_ (lc ai (l1 (aB aD ai (c4 (az T) hr (lc (ac 0) (l1 ai))))))) (aB jF (ac 2) ai))))))))))) rfl
def iY(MH OH:ap):bx:=(ah (aq 2 (af ae (v3 1) (c3 (.int 2))))
  (ah (bE (ki (v3 0) (af ae (v3 1) (c3 (.int 3)))) (.tp (.cons (.n 3) (.cons (.n 4) .nil))) (aq 2 (ab MH [(v3 2),(ab OH [(v3 3),(v3 4)])])))
  (ar (v3 2))))
def iZ:ap:=aP 5 (iY fo kZ)
def sj(T:Txt P w K mg):Kb P w K mg base 3 "_law_more" 2 iZ:=b9 ["_law_worths","_law_each","_law_found","_law_worth_here","_law_many"] T.o__law_more (fun _ _ _ _ _ _ _ hr nd=>(ad (s4 2 nd (aF hr (ac 1)))
  (ad (bZ V5 rfl (pW rfl rfl rfl T.M5 (by decide +kernel) (lc (ac 0) (l1 (aF hr (ac 1))))) (pV rfl (aO (gn 3 nd) (aO (gn 4 nd) cI))) (aj (s4 2 nd (c4 (kY T) hr (lc (ac 2) (l1 (c4 (ph T) hr (lc (ac 3) (l1 (ac 4))))))))))
  (aj (al (ac 2)))))) rfl
def Av(O_ OI OJ OK Pa Ps OL:ap):bx:=(ah (aq 1 (ab O_ [(v3 0),(c3 (.int 0))]))
  (ah (aq 2 (ab OI [(v3 1),(c3 (.int 4)),(c3 (.int 4)),(c3 (.int 16))]))
  (ah (aq 3 (ab OJ [(v3 2)]))
  (ah (bE (nC (c3 (.int 4))) (.n 4) (ah (aq 5 (au aS [(aK (aJ (af ae (v3 2) (c3 (.int 0)))) (.n 0) bN (ab OK [(v3 1),(af sO (c3 (.int 10)) (c3 (.int 6)))]) 1 [1])]))
  (ah (aq 6 (aK (aJ (v3 3)) (.n 0) (fZ (aR (af (vC true) (af ae (v3 0) (c3 (.int 1))) (c3 .non))) (aR (af yY (af ae (ab Pa [(v3 1),(v3 0)]) (c3 (.int 0))) (c3 (.int 0))))) (v3 0) 1 [5]))
  (ah (aq 7 (ab Ps [(v3 2),(v3 5)]))
  (br (oM (fZ (aR (af (bn false) (v3 6) (aY []))) (aR (af (bn true) (af ae (v3 7) (c3 (.int 0))) (c3 (.str "paper"))))) (fZ (aR (af (bn true) (v3 6) (aY []))) (oU (aR (ab OL [(v3 7),(aC [(c3 (.str "round")),(af ae (v3 6) (c3 (.int 0)))])]))))) (ar (c3 (.bl false))) aQ)))))
  (ar (c3 (.bl true)))))))
def tY:ap:=aP 8 (Av mD gR gS gU iZ j1 k5)
def FG(T:Txt P w K mg){f:Addr}{fd:FuncData}(O:Ia K mg "law" (aU 83) ["_law_script"] f fd):Qj P w K mg base 32 f fd ["_law_script"] tY:=JR ["_law_script","_law_deal_here","_law_house_here","_law_rows","_law_turn","_law_worths","_law_some","_law_found"] O (fun _ _ _ _ _ _ _ hr nd=>(ad (s4 1 nd (c4 (sf T) hr (lc (ac 0) (l1 ai))))
  (ad (s4 2 nd (c4 (pk T) hr (lc (ac 1) (lc ai (lc ai (l1 ai))))))
  (ad (s4 3 nd (c4 (pB T) hr (l1 (ac 2))))
  (ad (bZ V5 rfl (iq rfl rfl T.Nn (l1 ai)) (gn 4 nd) (ad (s4 5 nd (cT bJ T.Kd (l1 (p_ ["_law_deal_here"] 1 [1] ["_law_jar","_law_deal_here"] (bD (aF hr (ac 2))) (fun _=>(gn 0 HD)) (fun _=>cp) (fun _=>(c4 (pC T) hr (lc (ac 1) (l1 (aB Dg ai ai)))))))))
  (ad (zc ["_law_worths"] 1 [5] ["_law_each","_law_worths"] 6 nd (bD (ac 3)) (fun _=>(gn 0 HE)) (fun _=>(kj (sH (j9 (bq j_ (aF hr (ac 0)) ij (bf _)) (il (bq yZ (aF hr (c4 (sj T) hr (lc (ac 1) (l1 (ac 0))))) ai (bf _))))))) (fun _=>(ac 0)))
  (ad (s4 7 nd (c4 (tW T) hr (lc (ac 2) (l1 (ac 5)))))
  (aj (aZ (sH (nj (sH (j9 (e_ hr (ac 6) (a_ cn)) (il (BS hr (aF hr (ac 7)) aw)))) (j8 (sH (j9 (BS hr (ac 6) (a_ cn)) (il (vB (fe (c4 (pA T) hr (lc (ac 7) (l1 (aA (lc aw (l1 (aF hr (ac 6)))))))))))))))) (aj (al Bw)) aI))))))
  (aj (al Bw))))))) rfl
end
end G40
namespace G40
open PySem L2 L3 Wd
open C CW CL
theorem oJ{q:Qs}:∀(t:Bd)(v:PV),v∈t.ps q->Al (t.dep+1) v
 | .rest,v,h=>by rw[VN.mp h];exact .tup (by simp) fun x hx=>nomatch hx
 | .pay _ _,v,h=>by rw[VN.mp h];exact .tup (by simp) fun x hx=>nomatch hx
 | .put _ _,v,h=>by rw[VN.mp h];exact .tup (by simp) fun x hx=>nomatch hx
 | .use _,v,h=>by rw[VN.mp h];exact .tup (by simp) fun x hx=>nomatch hx
 | .Kf _,v,h=>by rw[VN.mp h];exact .tup (by simp) fun x hx=>nomatch hx
 | .J9 a b,v,h=>by
  unfold Bd.ps at h
  obtain⟨x,hx,hv⟩:=Wl.mp h
  obtain⟨y,hy,rfl⟩:=VW.mp hv
  refine .tup (by simp) fun z hz=>?_
  simp only[VL,V3,WK]at hz
  rcases hz with rfl|rfl
  ·exact cx (oJ a _ hx) (by simp only[Bd.dep];omega)
  ·exact cx (oJ b _ hy) (by simp only[Bd.dep];omega)
 | .Kg a b,v,h=>by
  unfold Bd.ps at h
  rcases VO.mp h with h|h
  ·obtain⟨x,hx,rfl⟩:=VW.mp h
   refine .tup (by simp) fun z hz=>?_
   simp only[VL,V3,WK]at hz
   rcases hz with rfl|rfl
   ·exact cx (.int (n:=0) 0) (by simp only[Bd.dep];omega)
   ·exact cx (oJ a _ hx) (by simp only[Bd.dep];omega)
  ·obtain⟨x,hx,rfl⟩:=VW.mp h
   refine .tup (by simp) fun z hz=>?_
   simp only[VL,V3,WK]at hz
   rcases hz with rfl|rfl
   ·exact cx (.int (n:=0) 1) (by simp only[Bd.dep];omega)
   ·exact cx (oJ b _ hx) (by simp only[Bd.dep];omega)
 | .Ka z m a b,v,h=>by
  unfold Bd.ps at h
  rcases VO.mp h with h|h
  ·split at h
   ·obtain⟨x,hx,rfl⟩:=VW.mp h
    refine .tup (by simp) fun z hz=>?_
    simp only[VL,V3,WK]at hz
    rcases hz with rfl|rfl
    ·exact cx (.int (n:=0) 0) (by simp only[Bd.dep];omega)
    ·exact cx (oJ a _ hx) (by simp only[Bd.dep];omega)
   ·cases h
  ·obtain⟨x,hx,rfl⟩:=VW.mp h
   refine .tup (by simp) fun z hz=>?_
   simp only[VL,V3,WK]at hz
   rcases hz with rfl|rfl
   ·exact cx (.int (n:=0) 1) (by simp only[Bd.dep];omega)
   ·exact cx (oJ b _ hx) (by simp only[Bd.dep];omega)
def HF{q:Qs}{js:Zs}{ds:List (Str×Bd)}(hP:HP js ds){l:Ln}(h:l∈Np q js ds):Al 10 l.pv:=by
 have ok:=zR hP h
 obtain⟨p,hp,h⟩:=Wl.mp h
 obtain⟨x,hx,h⟩:=Wl.mp h
 obtain⟨v,hv,rfl⟩:=VW.mp h
 have hm:=Xf hp
 have hd:=(rL (hP.gd _ hm) hx).2.1
 have RP:=hP.dp _ hm
 refine .tup (by simp) fun z hz=>?_
 simp only[VL,V3,WK]at hz
 rcases hz with rfl|rfl|rfl|rfl|h5
 ·exact .int _
 ·rcases ok.who with e|⟨n,e⟩
  ·rw[e];exact .non
  ·rw[e];exact .int _
 ·exact Ho 2520 _
 ·refine .tup ?_ fun y hy=>?_
  ·rw[VI,ok.len];have:=hP.jl;omega
  ·obtain⟨e,_,rfl⟩:=VW.mp hy;exact .int _
 ·rw[h5];exact cx (oJ x.2 v hv) (by omega)
def CG{t b:Int}(hb:1<=b)(h9:b<=9):cq b t=cf (t * (2520 / b)):=by
 refine tG (by omega) (by decide) ?_
 have:b * (2520 / b)=2520:=by
  obtain rfl|rfl|rfl|rfl|rfl|rfl|rfl|rfl|rfl:b=1\/b=2\/b=3\/b=4\/b=5\/b=6\/b=7\/b=8\/b=9:=by omega
  all_goals decide
 rw[ZE,Ys (2520 / b) b,this]
def FH{b:Int}(hb:1<=b):0<=2520 / b/\2520 / b<=2520:=⟨Yc (by decide) (by omega),ZD _ (by decide)⟩
abbrev sk(w:ap):Prop:=∀{S:ax}{d l:Addr}{Q:bc}{E:bC},Ko S d l->(∀n S',0<=n->n.natAbs<=2 ^ 40->Ko S' d l->LU d l S S'->Q (cf n) S')->w [.ref d,.int (10 ^ Int.toNat 6)] S Q E
def xP{xd xl:ap}(J8:cW xd)(L8:Cs xl):sk (aP 3 (gT xd xl)):=by
 intro S d l Q E D k
 unfold gT
 refine bT ?_
 rw[show am 3 [PV.ref d,.int (10 ^ Int.toNat 6)]=[some (.ref d),some (.int 1000000),none] from rfl]
 refine ak fun N hN=>?_
 walk_at "x"
 refine J8 D (by decide) (by decide) fun f S1 f0 f1 D1 O1=>?_
 refine hN _ _ (ak fun N hN=>?_)
 walk_at "x"
 simp only[VX,VS]
 split
 ·rw[gC]
  exact k 0 S1 (Wi _) (by decide) D1 O1
 refine hN _ _ (ak fun N hN=>?_)
 simp only[br,aR,af,v3,lk,c3,bn,VX,VS]
 split
 ·simp only[ar,ab,ao,af,v3,lk,c3,bM,aN]
  refine⟨(dh (XI (Hh (by decide)))).mul (dh (XI (Hh (by decide)))),?_⟩
  refine J8 D1 (by decide) (by decide) fun a S2 a0 a1 D2 O2=>?_
  refine L8 (by decide) (dh (XI (Hh (by decide)))) ?_
  exact k a S2 a0 (by omega) D2 (O1.trans O2)
 simp only[aQ]
 refine hN _ _ ?_
 simp only[ar,ab,ao,af,aY,v3,lk,c3,b3,f_,ae]
 intro p hp
 simp only[aa]
 obtain⟨g,hg,g0,g1⟩:∃g:Int,KN [PV.int 4,.int 20,.int 2000] (f - 1)=some (.int g)/\0 < g/\g<=2000:=by
  obtain rfl|rfl|rfl:f=1\/f=2\/f=3:=by omega
  ·exact⟨4,rfl,by decide,by decide⟩
  ·exact⟨20,rfl,by decide,by decide⟩
  ·exact⟨2000,rfl,by decide,by decide⟩
 rw[hg]
 refine J8 (D1.new hp) g0 (by omega) fun a S2 a0 a1 D2 O2=>?_
 refine J8 D2 (by decide) (by decide) fun b S3 b0 b1 D3 O3=>?_
 simp only[aN]
 intro p2 hp2
 simp only[gX,gW]
 refine⟨?_,?_⟩
 ·exact⟨by decide,by decide⟩
 simp only[aa]
 obtain⟨c,hc,c0,c1⟩:∃c:Int,KN [PV.int 1,.int (1+b)] (f.fdiv 2)=some (.int c)/\1<=c/\c<=9:=by
  obtain rfl|rfl|rfl:f=1\/f=2\/f=3:=by omega
  ·exact⟨1,rfl,by decide,by decide⟩
  ·exact⟨1+b,rfl,by omega,by omega⟩
  ·exact⟨1+b,rfl,by omega,by omega⟩
 rw[hc]
 refine L8 (by omega) (dh (XI (Hh (by omega)))) ?_
 rw[CG c0 c1]
 have q:=FH c0
 have u1:a * (2520 / c)<=2000 * 2520:=ZZ (by omega) q.2 q.1 (by decide)
 have u0:0<=a * (2520 / c):=Xd a0 q.1
 exact k _ _ u0 (by omega) (D3.new hp2) (O1.trans ((LU.new hp).trans (O2.trans (O3.trans (.new hp2)))))
abbrev oK(w:ap):Prop:=∀{S:ax}{k m:Nat}{l:Ln}{ws:Zw}{Q:bc}{E:bC},Cw k m l->k<=1000->ws.length=k->(∀x∈ws,x.natAbs<=2 ^ 40)->Q (cf (l.c+g_ l.es ws)) S->w [.tup (ws.map cf),l.pv] S Q E
abbrev wj(w:ap):Prop:=∀{S:ax}{i B n:Int}{Q:bc}{E:bC},i.natAbs < oO->Fq B n->Q (cq B (n * i)) S->w [cq B n,.int i] S Q E
def xQ{xl:ap}(L8:Cs xl):wj (aP 2 (CL.gr xl)):=by
 intro S i B n Q E hi h k
 unfold CL.gr
 refine bT ?_
 rw[show am 2 [cq B n,.int i]=[some (.tup [.int (M3.aW n B),.int (M3.aE n B)]),some (.int i)] from rfl]
 simp only[ar,ab,ao,af,v3,lk,c3,ae,cv,cX,bM]
 have a:=h.sz
 have:=h.q1;have:=h.n1;have q0:=h.q0
 refine⟨(dh (by omega)).mul (dh (by omega)),?_⟩
 refine L8 a.2.2 (dh (by omega)) ?_
 rw[tG (m:=n * i) a.2.2 q0 (by have w:=M3.cg (t:=n) (b:=B) (by omega);grind)]
 exact k
theorem tZ{a b:Int}:∀{xs ys:Zw},xs.length=ys.length->g_ (xs++[a]) (ys++[b])=g_ xs ys+a * b
 |[],[],_=>by simp[g_]
 |x::xs,y::ys,h=>by
  have:=tZ (a:=a) (b:=b) (xs:=xs) (ys:=ys) (Zk h)
  simp only[List.cons_append,g_]at this ⊢
  omega
def OM{xp xm:ap}(Kt:tJ xp)(KL:wj xm):oK (aP 5 (iY xp xm)):=by
 intro S k m l ws Q E ok hk hl hb kk
 unfold iY
 refine bT ?_
 rw[show am 5 [.tup (ws.map cf),l.pv]=[some (.tup (ws.map cf)),some l.pv,none,none,none] from rfl]
 refine ak fun N hN=>?_
 simp only[aq,af,v3,lk,c3,ae,Ln.pv,vN,List.set_cons_zero,List.set_cons_succ]
 refine hN _ _ (ak fun N hN=>?_)
 simp only[bE,ki,af,v3,lk,c3,ae,Ib]
 have ez:bz (ws.map cf) (l.es.map PV.int)=(ws.zip l.es).map fun z=>.tup [cf z.1,.int z.2]:=by
  unfold bz
  rw[Zi,V9]
  rfl
 rw[ez]
 have el:ws.length=l.es.length:=by rw[ok.len,hl]
 refine bg (fun done σ S'=>S'=S/\done.length<=ws.length/\∃(x3 x4:Option PV),σ=[some (.tup (ws.map cf)),some l.pv,some (cf (l.c+g_ (l.es.take done.length) (ws.take done.length))),x3,x4]) ⟨rfl,Ws _,none,none,by simp[g_,Ln.pv]⟩ (fun _ _ _ _=>trivial) ?_ ?_
 ·rintro done x rest σ S' K e ⟨rfl,hd,x3,x4,rfl⟩ hK
  have hget:((ws.zip l.es).map fun z=>PV.tup [cf z.1,.int z.2])[done.length]?=some x:=by rw[e];simp
  obtain⟨⟨n,i⟩,hz,rfl⟩:∃q,(ws.zip l.es)[done.length]?=some q/\PV.tup [cf q.1,.int q.2]=x:=by rw[V2]at hget;exact Wg.mp hget
  obtain⟨h1,h2⟩:=Xr.mp hz
  have hlt:done.length < ws.length:=(V4.mp h1).1
  simp only[Tg.put,Tg.J7,List.set_cons_zero,List.set_cons_succ,aq,ab,ao,v3,lk]
  refine KL (B:=2520) (n:=n) (Hi (ok.e i (V6 h2))) (Fs (by decide) (by decide) (VU (hb n (V6 h1)) (by decide))) ?_
  refine Kt (n:=l.c+g_ (l.es.take done.length) (ws.take done.length)) (m:=n * i) (hK _ _ ⟨rfl,by rw[VH,V0];exact hlt,some (cf n),some (.int i),?_⟩)
  rw[VH,V0,W3,W3,h1,h2]
  rw[show(some i).toList=[i] from rfl,show(some n).toList=[n] from rfl,tZ (by rw[WS,WS,el]),Ys n,Int.add_assoc]
 ·rintro σ S' ⟨rfl,hd,x3,x4,rfl⟩
  have VC:((ws.zip l.es).map fun z=>PV.tup [cf z.1,PV.int z.2]).length=ws.length:=by rw[VI,XG,<-el,Nat.min_self]
  rw[VC,WH,el,WH]
  refine hN _ _ ?_
  walk_at "x"
  exact kk
def HH{js:Zs}{ds:List (Str×Bd)}(h:C.MS 6 js [] ds)(pc:∀p∈ds,p.2.J3+p.2.J6<=1000):HP js ds where
 jw:=fun z hz=>rq (h.jw z hz)
 jl:=by have:=h.jl;omega
 dl:=by have:=h.dl;omega
 gd:=h.gd
 dp:=h.dq
 sz:=h.sz
 pc:=pc
def CH{z:Str}{S:ax}{Q:bc}:bn true (.str z) (.str z) S Q=Q (.bl false) S:=by
 show Q (.bl (true != decide (z=z))) S=_
 rw[Wu rfl]
 rfl
theorem mG{xw:ap}(QL:sk xw){d l:Addr}{σ':cG}(hσ:∀v,((Tg.n 0).put v σ')=some [some v,some (.ref d)]){fin:List PV->ax->Prop}{S0:ax}:∀(js:Zs)(ws:Zw)(S:ax),Ko S d l->LU d l S0 S->ws.length+js.length<=1000->(∀x∈ws,0<=x/\x.natAbs<=2 ^ 40)->
  (∀(ws':Zw) (S':ax),ws'.length=ws.length+js.length->(∀x∈ws',0<=x/\x.natAbs<=2 ^ 40)->Ko S' d l->LU d l S0 S'->fin (ws'.map cf) S')->cJ (.n 0) bN (ab xw [(v3 1),(af sO (c3 (.int 10)) (c3 (.int 6)))]) σ' (fun _=>True) fin (js.map PV.str) (ws.map cf) S
 |[],ws,S,D,O,hl,hb,hf=>⟨trivial,bt (by simpa using hl),hf ws S rfl hb D O⟩
 |j::r,ws,S,D,O,hl,hb,hf=>by
  refine⟨trivial,bt (by simp at hl ⊢;omega),?_⟩
  rw[hσ]
  simp only[bN,WB,ab,ao,af,v3,lk,c3,sO,gW]
  refine⟨⟨by decide,by decide,by decide⟩,?_⟩
  refine QL D fun n S1 n0 n1 D1 O1=>?_
  have:=mG QL hσ (fin:=fin) (S0:=S0) r (ws++[n]) S1 D1 (O.trans O1) (by simp at hl ⊢;omega) (fun x hx=>by
   rcases VO.mp hx with hx|hx
   ·exact hb x hx
   ·rw[VN.mp hx];exact⟨n0,n1⟩) fun ws' S' e b D' O'=>hf ws' S' (by simp at e ⊢;omega) b D' O'
  rw[We]at this
  exact this
abbrev CI(w:ap):Prop:=∀{ns:Zw}{S:ax}{Q:bc}{E:bC},ns.length<=63->(∀S',Q (.bl true) S')->w [.cl (ns.map PV.int)] S Q E
def FI{x0 x1 x2 x3 x4 x5 x6:ap}(Oq:sX x0)(Qf:iO x1)(R4:oq x2)(QL:sk x3)(OM:oK x4)(R5:rY x5)(Qa:rW 12 x6):CI (aP 8 (Av x0 x1 x2 x3 x4 x5 x6)):=by
 intro ns S Q E hl k
 unfold Av
 refine bT ?_
 rw[show am 8 [PV.cl (ns.map PV.int)]=[some (.cl (ns.map PV.int)),none,none,none,none,none,none,none] from rfl]
 refine ak fun N hN=>?_
 walk_at "x"
 refine Oq hl (by decide) (by decide) fun d l S1 _ _ D1 _=>?_
 refine hN _ _ (ak fun N hN=>?_)
 walk_at "x"
 refine Qf (most:=4) (many:=4) (size:=16) D1 (by decide) (by decide) (by decide) (by decide) (by decide) fun js ds S2 hO hd1 hd4 hj8 Pc D2 O2=>?_
 have hP:=HH hO Pc
 have jl:js.length<=1000:=by have:=hP.jl;omega
 refine hN _ _ (ak fun N hN=>?_)
 simp only[aq,ab,ao,v3,lk,List.set_cons_zero,List.set_cons_succ]
 refine R4 hP hO.jn fun pr S3 Sv X3 f3=>?_
 have hL:=Ah (q:=qh js ds) hP
 rw[rO]at f3
 have Uy:=D2.free Sv
 have D3:=D2.ext X3
 refine hN _ _ (ak fun N hN=>?_)
 simp only[bE,nC,c3]
 refine⟨by decide,by decide,?_⟩
 rw[show bQ 0 (4:Int).toNat=(List.range 4).map fun i:Nat=>PV.int (i:Int)from rfl]
 refine bg (fun done σ S'=>Ko S' d l/\S' pr=some (.lst ((Np (qh js ds) js ds).map Ln.pv))/\∃(x4 x5 x6 x7:Option PV),σ=[some (.cl (ns.map PV.int)),some (.ref d),some (jv js ds),some (.ref pr),x4,x5,x6,x7]) ⟨D3,f3,_,_,_,_,rfl⟩ (fun _ _ _ _=>trivial) ?_ ?_
 ·rintro done x rest σ S4 K e ⟨D4,f4,x4,x5,x6,x7,rfl⟩ hK
  simp only[Tg.put,List.set_cons_zero,List.set_cons_succ]
  refine ak fun N2 MZ=>?_
  simp only[aq,au,ao,aK,aJ,af,v3,lk,c3,ae,jv,cv,bF]
  refine mG QL (l:=l) (S0:=S4) (fun v=>rfl) js [] S4 D4 (fun _ _ h _ _=>h) (by simpa using jl) (fun x hx=>nomatch hx) fun ws S5 VD hb D5 O5 pw Uz=>?_
  have R6:ws.length=js.length:=by simpa using VD
  have f5:=O5 _ _ f4 Uy.1 Uy.2
  simp only[aS,jj,aa,List.set_cons_zero,List.set_cons_succ]
  have D6:=D5.new (o:=.lst (ws.map cf)) Uz
  have f6:=Ext.new (o:=.lst (ws.map cf)) Uz _ _ f5
  generalize JZ S5 pw (.lst (ws.map cf))=S6 at D6 f6
  refine MZ _ _ (ak fun N3 Pb=>?_)
  simp only[aq,aK,aJ,v3,lk,bF,f6]
  refine gJ (S0:=S6) Ln.pv Ln.pv (gnL ws) (keep:=fun S=>S pr=some (.lst ((Np (qh js ds) js ds).map Ln.pv))) (fun S X=>X _ _ f6) (Np (qh js ds) js ds) [] S6 .refl (by simpa using hL.len) (fun l hm=>⟨_,rfl,fun S2 X2 K kk=>?_,fun S2 X2 K kk=>?_⟩) fun S7 X7 pg TL=>?_
  ·have ok:=hL.ok l hm
   simp only[cQ,List.reduceReplicate,VT,Wr,List.cons_append,List.nil_append,List.set_cons_zero,List.set_cons_succ,fZ,aR,af,v3,lk,c3,ae,Ln.pv,cX,ab,ao]
   refine Am ok.who ?_
   cases hw:Hf l.who with
   |true=>
    simp only[W5,VZ,Wx]
    have:=kk S2 .refl
    rw[show gnL ws l=false by unfold gnL;rw[hw];rfl]at this
    exact this
   |false=>
    simp only[WL,WB]
    refine OM (l:=l) ok jl R6 (fun x hx=>(hb x hx).2) ?_
    simp only[cf,cv,yY,f_]
    have:=kk S2 .refl
    have e2:=(Fx (Q:=2520) (n:=l.c+g_ l.es ws) (by decide)).2.1
    rw[show gnL ws l=decide (0 < M3.aW (l.c+g_ l.es ws) 2520) by unfold gnL;rw[hw,decide_eq_decide.mpr e2];rfl]at this
    exact this
  ·simp only[cQ,List.reduceReplicate,VT,Wr,List.cons_append,List.nil_append,List.set_cons_zero,List.set_cons_succ,v3,lk]
   exact kk S2 .refl
  rw[Wm]
  simp only[List.set_cons_zero,List.set_cons_succ]
  have hdat:∀{S:ax},∀l∈(Np (qh js ds) js ds).filter (gnL ws),∃d,Dat S l.pv d/\d.canLay0=true:=fun l h=>Aj (WI.mp h).1
  have hal:∀l∈(Np (qh js ds) js ds).filter (gnL ws),Al 10 l.pv:=fun l h=>HF hP (WI.mp h).1
  have X8:Ext S6 (JZ S7 pg (.lst (((Np (qh js ds) js ds).filter (gnL ws)).map Ln.pv))):=X7.trans (.new TL)
  have f8:(JZ S7 pg (.lst (((Np (qh js ds) js ds).filter (gnL ws)).map Ln.pv))) pg=some (.lst (((Np (qh js ds) js ds).filter (gnL ws)).map Ln.pv)):=aa
  generalize JZ S7 pg (.lst (((Np (qh js ds) js ds).filter (gnL ws)).map Ln.pv))=S8 at X8 f8
  refine Pb _ _ (ak fun N4 UA=>?_)
  have next:∀S':ax,Ext S6 S'->∀y4 y5 y6 y7,K [some (.cl (ns.map PV.int)),some (.ref d),some (jv js ds),some (.ref pr),y4,y5,y6,y7] S':=fun S' X' y4 y5 y6 y7=>hK _ _ ⟨D6.ext X',X' _ _ f6,_,_,_,_,rfl⟩
  simp only[aq,ab,ao,v3,lk]
  refine R5 hP hO.jn R6 hb (fun g r S9 eG X9=>?_) (fun Pd S9 eG okL X9=>?_)
  ·rw[eG]at f8 hdat hal
   have f9:=X9 _ _ f8
   refine UA _ _ ?_
   simp only[br,oM,fZ,aR,af,aY,ao,v3,lk,List.set_cons_zero,List.set_cons_succ]
   intro p1 hp1
   have n1:pg≠p1:=fun h=>by rw[<-h,f9]at hp1;cases hp1
   have QK:Ext S6 (JZ S9 p1 (.lst [])):=X8.trans (X9.trans (.new hp1))
   have Qc:(JZ S9 p1 (.lst [])) pg=some (.lst ((g::r).map Ln.pv)):=by rw[av n1];exact f9
   have R7:(JZ S9 p1 (.lst [])) p1=some (.lst []):=aa
   generalize JZ S9 p1 (.lst [])=Qm at QK Qc R7
   refine oy Qc R7 (fun v hv=>by obtain⟨l,hl',rfl⟩:=VW.mp hv;exact hdat l hl') ?_
   simp only[VT,List.isEmpty_cons,VX,VZ,Wx]
   intro p2 hp2
   have n2:pg≠p2:=fun h=>by rw[<-h,Qc]at hp2;cases hp2
   have R8:Ext S6 (JZ Qm p2 (.lst [])):=QK.trans (.new hp2)
   have Ru:(JZ Qm p2 (.lst [])) pg=some (.lst ((g::r).map Ln.pv)):=by rw[av n2];exact Qc
   have R9:(JZ Qm p2 (.lst [])) p2=some (.lst []):=aa
   generalize JZ Qm p2 (.lst [])=UB at R8 Ru R9
   refine oy Ru R9 (fun v hv=>by obtain⟨l,hl',rfl⟩:=VW.mp hv;exact hdat l hl') ?_
   simp only[VT,List.isEmpty_cons,Wt,WL,WB,oU,aR,ab,ao,aC,af,v3,lk,c3,ae,Ru,cv]
   refine Qa (v:=.tup [.str "round",g.pv]) (.tup (by simp) fun z hz=>?_) fun VE VF=>?_
   ·simp only[VL,V3,WK]at hz
    rcases hz with rfl|rfl
    ·exact .str _
    ·exact cx (hal g (by simp)) (by decide)
   ·simp only[W5,VZ,Wx,aQ]
    exact next VE (R8.trans VF) _ _ _ _
  ·rw[eG]at f8 hdat
   have f9:=X9 _ _ f8
   refine UA _ _ ?_
   simp only[br,oM,fZ,aR,af,aY,ao,v3,lk,List.set_cons_zero,List.set_cons_succ]
   intro p1 hp1
   have n1:pg≠p1:=fun h=>by rw[<-h,f9]at hp1;cases hp1
   have QK:Ext S6 (JZ S9 p1 (.lst [])):=X8.trans (X9.trans (.new hp1))
   have Qc:(JZ S9 p1 (.lst [])) pg=some (.lst (([]:List Ln).map Ln.pv)):=by rw[av n1];exact f9
   have R7:(JZ S9 p1 (.lst [])) p1=some (.lst []):=aa
   generalize JZ S9 p1 (.lst [])=Qm at QK Qc R7
   refine oy Qc R7 (fun v hv=>by cases hv) ?_
   simp only[Wr,List.isEmpty_nil,VX,WB,Jz,c3,ae,cv,CH,VZ,Wx]
   intro p2 hp2
   have n2:pg≠p2:=fun h=>by rw[<-h,Qc]at hp2;cases hp2
   have R8:Ext S6 (JZ Qm p2 (.lst [])):=QK.trans (.new hp2)
   have Ru:(JZ Qm p2 (.lst [])) pg=some (.lst (([]:List Ln).map Ln.pv)):=by rw[av n2];exact Qc
   have R9:(JZ Qm p2 (.lst [])) p2=some (.lst []):=aa
   generalize JZ Qm p2 (.lst [])=UB at R8 Ru R9
   refine oy Ru R9 (fun v hv=>by cases hv) ?_
   simp only[Wr,List.isEmpty_nil,Wt,W5,VZ,Wx,aQ]
   exact next UB R8 _ _ _ _
 ·rintro σ S4 ⟨D4,f4,x4,x5,x6,x7,rfl⟩
  refine hN _ _ ?_
  walk_at "x"
  exact k S4
def l_:cW w__law_draw:=J8
def wk:i7 cF:=L8
def CJ:lH gP:=NX l_
def FJ:nS iW:=Ot l_ wk
def Aw:kq fq:=MX l_ FJ
theorem Ax:∀n,kr n (ft n)
 |0=>fun _ _ _ _ _ _ _ h0 h1 _=>by omega
 |n+1=>Ou l_ Aw n (Ax n)
theorem t4:∀n,dv n (bV n)
 |0=>fun h _ _=>absurd h (by have:=Bd.Ke;exact Xi.mpr (this _))
 |n+1=>w9 n (t4 n)
def t5:dv 12 bW:=t4 12
theorem t6:∀n,n<=12->gy n (bP n)
 |0,_=>fun h _ _=>absurd h (by have:=Bd.Ke;exact Xi.mpr (this _))
 |n+1,hn=>w_ n 12 t5 (t6 n (by omega)) (by omega)
def Jo:gA dG:=rA 12 (by decide) (Ax 12) t5 (t6 12 (by decide)) Aw
def CK:iO gR:=uX CJ l_ Jo
theorem Ay:∀n,jb n (fu n)
 |0=>fun h _ _ _ _ _ _ _ _=>absurd h (by have:=Bd.Ke;exact Xi.mpr (this _))
 |n+1=>zB n (Ay n)
def CM:lP d_:=zC fun h a b c e f g i j=>Ay 12 (VU h (by decide)) a b c e f g i j
def wm:i9 gK:=MK
theorem sn:∀n,dW n (gL n)
 |0=>fun h _ _=>absurd h (by have:=Bd.Ke;exact Xi.mpr (this _))
 |n+1=>ML wm n (sn n)
def Az:lK 12 rZ:=xq 12 (sn 12)
theorem wn:∀n,ja n (dJ n)
 |0=>fun h _=>absurd h (by have:=Bd.Ke;exact Xi.mpr (this _))
 |n+1=>zp n (wn n)
theorem Ds:∀n,n<=12->kA n (dL n)
 |0,_=>fun h _ _ _=>absurd h (by have:=Bd.Ke;exact Xi.mpr (this _))
 |n+1,hn=>Ca n 12 (by omega) Az (wn 12) (Ds n (by omega))
theorem CN:∀n,lO n (cy n)
 |0=>fun h _ _ _ _ _ _=>absurd h (by have:=Bd.Ke;exact Xi.mpr (this _))
 |n+1=>N6 wm n (CN n)
def FK:oa iS:=Ox (fun h a b c d e f=>CN 12 (VU h (by decide)) a b c d e f) (fun h a b c=>Ds 12 (by decide) (VU h (by decide)) a b c)
def j2:c_ eU:=tq (Nf FK)
theorem AA:∀n,iN ((n+1) / 2) (iV n)/\lQ (n / 2) (dD n)
 |0=>⟨fun h _ _ _ _ _ _=>absurd h (by have:=Bd.Ke;exact Xi.mpr (this _)),fun h _ _ _ _ _ _ _=>absurd h (by have:=Bd.Ke;exact Xi.mpr (this _))⟩
 |n+1=>by
  obtain⟨a,b⟩:=AA n
  refine⟨?_,?_⟩
  ·rw[show(n+1+1) / 2=n / 2+1 by omega]
   exact fun{S t js us hs nm Q E} h1 h2 h3 h4 h5 h6 h7=>Oz (n / 2) b (fun g1 g2 g3 g4 g5 g6 g7=>a (VU g1 (by omega)) g2 g3 g4 g5 g6 g7) (S:=S) (t:=t) (js:=js) (us:=us) (hs:=hs) (nm:=nm) (Q:=Q) (E:=E) h1 h2 h3 h4 h5 h6 h7
  ·exact fun{S x y js us hs nm Q E} h1 h2 h3 h4 h5 h6 h7 h8=>zD (s0:=dD n) ((n+1) / 2) a (S:=S) (a:=x) (b:=y) (js:=js) (us:=us) (hs:=hs) (nm:=nm) (Q:=Q) (E:=E) h1 h2 h3 h4 h5 h6 h7 h8
def FL:oi dE:=OC fun h a b c d e f=>CN 12 (VU h (by decide)) a b c d e f
def FM:fS jW:=Kt (Kh Lz)
def CO:lM jh:=KL (Kh Lz)
def t7:gD fU:=LA N0 FM
def CP:lN mT:=N1 Ov CO
def AB:jS cA:=NA Le
theorem Dt:∀n,kE ((n+1) / 2) (jY n)/\n9 (n / 2) (dF n)
 |0=>⟨fun _ _ _ _ h _=>absurd h (by have:=Bd.Ke;exact Xi.mpr (this _)),fun _ _ _ _ h _=>absurd h (by have:=Bd.Ke;exact Xi.mpr (this _))⟩
 |n+1=>by
  obtain⟨a,b⟩:=Dt n
  refine⟨?_,?_⟩
  ·rw[show(n+1+1) / 2=n / 2+1 by omega]
   exact fun{S js us t v Q E} h1 h2 h3 h4 h5 h6=>Pp MY Le t7 Ny AB (n / 2) b (fun g1 g2 g3 g4 g5 g6=>a g1 g2 g3 g4 (VU g5 (by omega)) g6) (S:=S) (js:=js) (us:=us) (t:=t) (v:=v) (Q:=Q) (E:=E) h1 h2 h3 h4 h5 h6
  ·exact fun{S js us t v Q E} h1 h2 h3 h4 h5 h6=>xy (s0:=dF n) MY t7 CP ((n+1) / 2) a (S:=S) (js:=js) (us:=us) (a:=t) (v:=v) (Q:=Q) (E:=E) h1 h2 h3 h4 h5 h6
def Jp:uZ de:=CL.P8 FL
def CQ:lV sd:=CL.N8 j2 Jp (AA 12).1 (Dt 12).1
def sr:qq dC:=zM u5
def CS:zO jW:=zP sr
def AC:u6 jh:=xF sr
def HI:Fy jX:=Cv CS
def mU:ow dC:=CA sr
def FN:oA se:=OF tK (ox mU) (xM HI AC)
def AD:rV b8:=NB j2
def CT:kN j0:=tL (ox mU) (xK mU) (xJ mU)
def CU:lZ fH:=N_ (z_ tK) CT tM
def AE:Cs cF:=Ct wk
def AF:fS fo:=zq wk
theorem HJ:∀n,rW n (eC n)
 |0=>fun h _=>by cases h
 |n+1=>Qa n (HJ n)
theorem AG:∀n,eR n (dM n)
 |0=>fun _ _ h _ _ _ _ _ _=>absurd h (by have:=Bd.Ke;exact Xi.mpr (this _))
 |n+1=>Cq AF Cn Cm n (AG n)
def AH:eR 6 dN:=fun a b h c d e f g i=>AG 12 a b (VU h (by decide)) c d e f g i
theorem Du:∀n,kJ n (dO n)
 |0=>fun _ _ h _ _ _ _ _ _ _ _ _=>absurd h (by have:=Bd.Ke;exact Xi.mpr (this _))
 |n+1=>Fp AH n (Du n)
def HK:kJ 6 fI:=fun a b h c d e f g i j k m=>Du 12 a b (VU h (by decide)) c d e f g i j k m
def FO:oq gS:=Cr CM AH HK fun hP w hw=>hP.jw w (vT hP.toHG _ w hw)
def t8:gB jf:=Nz
def CV:lR eY:=zH (fun h a b c d e f=>CN 12 (VU h (by decide)) a b c d e f) t8
def CZ:lS eZ:=zI j2 CV
def k6:dy 12 cL:=xj 12 (sn 12) t8
def ss:kz 12 fk:=zn 12 k6
theorem AI:∀n,n<=12->dz (n / 2) (jg n)/\lI ((n - 1) / 2) (b5 n)/\rF ((n - 1) / 2) (bL n)/\nY ((n - 1) / 2) (bS n)
 |0,_=>⟨fun h _ _=>absurd h (by have:=Bd.Ke;exact Xi.mpr (this _)),fun h _ _ _=>absurd h (by have:=Bd.Ke;exact Xi.mpr (this _)),fun{S t f b Q E} h hh _ _=>by
   have h1:t.dep<=1:=h
   cases t with
   |Kg a b=>have:=a.Ke;simp only[Bd.dep]at h1;omega
   |Ka _ _ a b=>have:=a.Ke;simp only[Bd.dep]at h1;omega
   |_=>simp[Bd.hd,aG]at hh,fun h _ _=>absurd h (by have:=Bd.Ke;exact Xi.mpr (this _))⟩
 |n+1,hn=>by
  obtain⟨a,b,c,e⟩:=AI n (by omega)
  have e2:(n+1 - 1) / 2=n / 2:=rfl
  refine⟨?_,?_,?_,?_⟩
  ·rcases Nat.eq_zero_or_pos n with rfl|hn
   ·exact fun h _ _=>absurd h (by have:=Bd.Ke;exact Xi.mpr (this _))
   ·have e1:(n+1) / 2=(n - 1) / 2+1:=by omega
    rw[e1]
    exact fun{S t f b' Q E} h1 h2 h3=>Ff (s3:=jg n) ((n - 1) / 2) b c e (S:=S) (t:=t) (f:=f) (b:=b') (Q:=Q) (E:=E) h1 h2 h3
  ·rw[e2]
   exact fun{S t u f b' Q E} h1 h2 h3 h4=>zo (s0:=b5 n) (s1:=bL n) (s2:=bS n) (n / 2) 12 (by omega) k6 ss a (S:=S) (t:=t) (u:=u) (f:=f) (b:=b') (Q:=Q) (E:=E) h1 h2 h3 h4
  ·rw[e2]
   exact fun{S t f b' Q E} h1 h2 h3 h4=>Fe (s0:=b5 n) (s1:=bL n) (s2:=bS n) (n / 2) 12 (by omega) k6 ss a (S:=S) (t:=t) (f:=f) (b:=b') (Q:=Q) (E:=E) h1 h2 h3 h4
  ·rw[e2]
   exact fun{S t f b' Q E} h1 h2 h3=>B_ (s0:=b5 n) (s1:=bL n) (s2:=bS n) (n / 2) 12 (by omega) ss a (S:=S) (t:=t) (f:=f) (b:=b') (Q:=Q) (E:=E) h1 h2 h3
def C0:lJ 6 r6:=NZ 6 (AI 12 (VM _)).1 fun a b k=>k6 (VU a (by decide)) b k
def xR:rY j1:=u_ CQ FN AD CZ CU C0
def AJ:sk gU:=xP l_ AE
def FP:oK iZ:=OM (xI (xH wk)) (xQ AE)
def AK:∀ns:List Int,ns.length<=63->tY [.cl (ns.map PV.int)] (fun _=>none) (fun v _=>v = .bl true) eE:=fun ns h=>FI Oq CK FO AJ FP xR (HJ 12) h fun _=>rfl
end G40
namespace L3
open PySem L2 Xc
def qx{P:List Value->Prop}(h:∀a,P [a])(us:Zx)(hl:us.length=1):P us:=match us,hl with|[_],_=>h _
def ji{P:List Value->Prop}(h:∀a b,P [a,b])(us:Zx)(hl:us.length=2):P us:=match us,hl with|[_,_],_=>h _ _
def wo{P:List Value->Prop}(h:∀a b c,P [a,b,c])(us:Zx)(hl:us.length=3):P us:=match us,hl with|[_,_,_],_=>h _ _ _
def Ig{P:List Value->Prop}(h:∀a b c d,P [a,b,c,d])(us:Zx)(hl:us.length=4):P us:=match us,hl with|[_,_,_,_],_=>h _ _ _ _
def JV{P:List Value->Prop}(h:∀a b c d e,P [a,b,c,d,e])(us:Zx)(hl:us.length=5):P us:=match us,hl with|[_,_,_,_,_],_=>h _ _ _ _ _
section
variable {K:Zo}{h:Heap}{mg:Zr}{x c m q:Str}{st:Stmt}{ps fl:Zs}
noncomputable def C1:Option (Option Value)->Bool
 |some none=>true
 |_=>false
def C2{o:Option (Option Value)}(h:C1 o=true):o=some none:=by
 unfold C1 at h;split at h
 ·rfl
 ·cases h
def FnAt(K:Zo)(f:Addr)(m q:Str)(st:Stmt):Prop:=∃(oc kV doc pm cdv ct:Value)(od an:Option Addr)(osl:Array (Option Value)),
 K.lookup f=some ⟨oc,od,.func (PySem.W.fnOf m q (b_ st) (bp st) (aL st) .none kV doc pm an cdv ct),osl⟩/\PySem.W.codeIn K cdv q=true/\PySem.W.keepIn K (.ref f)=true
abbrev AL(m q:Str)(st:Stmt)(ps:Zs):Prop:=∀(kV doc pm:Value)(an:Option Addr)(cdv ct:Value)(us:Zx),us.length=ps.length->bindArgs (PySem.W.fnOf m q (b_ st) (bp st) (aL st) .none kV doc pm an cdv ct) ⟨us,[]⟩=pure (ps.zip us)
def FnAt.mk{f:Addr}(a:FnAt K f m q st)(hb:AL m q st ps):∃fd,QN K m q st f fd/\Binds K fd ps []/\PySem.W.keepIn K (.ref f)=true:=by
 obtain⟨oc,kV,doc,pm,cdv,ct,od,an,osl,l,cc,k⟩:=a
 exact⟨_,qG l cc k,(qG l cc k).binds hb,k⟩
def Ks(K:Zo)(x:Str)(st:Stmt):Prop:=∃f,PySem.W.nsIn K mainGlobals x=some (some (.ref f))/\FnAt K f x x st
def Ks.own(X:K.In h)(G:h.Ns mainGlobals mg)(a:Ks K x st)(hb:AL x x st ps):aT K mg x st ps:=by
 obtain⟨f,n,a⟩:=a
 obtain⟨fd,F,b,k⟩:=a.mk hb
 exact⟨f,fd,F,b,k,Z9 X G n⟩
def Ks.law{fa:Addr}(X:K.In h)(G:h.Ns mainGlobals mg)(a:Ks K x st)(hfa:mg x=some (.ref fa))(hb:AL x x st ps):∃kV doc pm an cdv ct,Ia K mg x st ps fa (PySem.W.fnOf x x (b_ st) (bp st) (aL st) .none kV doc pm an cdv ct):=by
 obtain⟨f,n,oc,kV,doc,pm,cdv,ct,od,an,osl,l,cc,k⟩:=a
 cases hfa.symm.trans (Z9 X G n)
 exact⟨kV,doc,pm,an,cdv,ct,qG l cc k,(qG l cc k).binds hb,k,hfa⟩
def Sx(P:Program)(w:World)(K:Zo)(x:Str)(kvs:List (bo×V)):Prop:=∃a o,PySem.W.nsIn K mainGlobals x=some (some (.ref a))/\K.lookup a=some o/\(a == sysModules)=false/\∃vs,KV kvs vs/\Obj.IsDictOf (ba P w) o vs
def Sx.kd{P:Program}{w:World}{kvs:List (bo×V)}(X:K.In h)(G:h.Ns mainGlobals mg)(a:Sx P w K x kvs):∃a,mg x=some (.ref a)/\KD P w K a kvs:=by
 obtain⟨a,o,n,l,s,vs,h1,h2⟩:=a
 exact⟨a,Z9 X G n,s,o,vs,l,h1,h2⟩
def k7(X:K.In h)(G:h.Ns mainGlobals mg){l:Zs}(a:(l.all fun x=>C1 (PySem.W.nsIn K mainGlobals x))=true)(hx:x∈l:=by decide):mg x=none:=PySem.W.mg_none_of X G (C2 (XQ.mp a x hx))
section
variable {f C:Addr}{oc kV doc pm cdv ct:Value}{od an:Option Addr}{osl:Array (Option Value)}
def JW(n:PySem.W.nsIn K mainGlobals x=some (some (.ref f)))(l:K.lookup f=some ⟨oc,od,.func (PySem.W.fnOf x x (b_ st) (bp st) (aL st) .none kV doc pm an cdv ct),osl⟩)(cc:PySem.W.codeIn K cdv x=true)(k:PySem.W.keepIn K (.ref f)=true):Ks K x st:=⟨f,n,oc,kV,doc,pm,cdv,ct,od,an,osl,l,cc,k⟩
def JX{P:Program}{w:World}{kvs:List (bo×V)}{o:Obj}(n:PySem.W.nsIn K mainGlobals x=some (some (.ref f)))(l:K.lookup f=some o)(s:(f == sysModules)=false)(v:∃vs,KV kvs vs/\Obj.IsDictOf (ba P w) o vs):Sx P w K x kvs:=⟨f,o,n,l,s,v⟩
end
end
section
variable {K:Zo}{h:Heap}{mg:Zr}{x:Str}{st:Stmt}{ps:Zs}
def Sy(K:Zo)(x:Str)(st:Stmt):Prop:=∃(f T:Addr)(oc kV doc pm cdv ct:Value)(od an:Option Addr)(osl:Array (Option Value))(oT:Obj)(nT:Nat),PySem.W.nsIn K mainGlobals x=some (some (.ref f))/\
 K.lookup f=some ⟨oc,od,.func (PySem.W.fnOf x x (b_ st) (bp st) (aL st) (.ref T) kV doc pm an cdv ct),osl⟩/\PySem.W.codeIn K cdv x=true/\PySem.W.keepIn K (.ref f)=true/\K.lookup T=some oT/\oT.data = .seq #[.bool true] nT
abbrev Dv(x:Str)(st:Stmt)(ps:Zs):Prop:=∀(s:Shared)(T:Addr)(oT:Obj)(nT:Nat)(kV doc pm cdv ct:Value)(an:Option Addr)(us:Zx),oT.data = .seq #[.bool true] nT->us.length=ps.length->s.heap.get? T=some oT->BindsTo s (PySem.W.fnOf x x (b_ st) (bp st) (aL st) (.ref T) kV doc pm an cdv ct) ⟨us,[]⟩ (ps.zip us)
abbrev Dw(x:Str)(st:Stmt)(ps:Zs):Prop:=∀(s:Shared)(T:Addr)(oT:Obj)(nT:Nat)(kV doc pm cdv ct:Value)(an:Option Addr)(us:Zx),oT.data = .seq #[.bool true] nT->us.length+1=ps.length->s.heap.get? T=some oT->BindsTo s (PySem.W.fnOf x x (b_ st) (bp st) (aL st) (.ref T) kV doc pm an cdv ct) ⟨us,[]⟩ (ps.zip (us++[.bool true]))
def Sy.own(X:K.In h)(G:h.Ns mainGlobals mg)(a:Sy K x st)(hb:Dv x st ps)(hd:Dw x st ps):sR K mg x st ps:=by
 obtain⟨f,T,oc,kV,doc,pm,cdv,ct,od,an,osl,oT,nT,n,l,c,k,lT,sT⟩:=a
 exact⟨T,f,_,⟨⟨oc,od,kV,doc,pm,an,cdv,ct,osl,rfl,l,c⟩,k⟩,fun s us KI hl=>by rw[Wh]at hl ⊢;exact hb _ _ _ _ _ _ _ _ _ _ us sT hl (KI T oT lT),fun s us KI hl=>hd _ _ _ _ _ _ _ _ _ _ us sT (by rw[VH]at hl;exact hl) (KI T oT lT),k,Z9 X G n⟩
def JY{f T:Addr}{oc kV doc pm cdv ct:Value}{od an:Option Addr}{osl:Array (Option Value)}{oT:Obj}{nT:Nat}(n:PySem.W.nsIn K mainGlobals x=some (some (.ref f)))(l:K.lookup f=some ⟨oc,od,.func (PySem.W.fnOf x x (b_ st) (bp st) (aL st) (.ref T) kV doc pm an cdv ct),osl⟩)(c:PySem.W.codeIn K cdv x=true)(k:PySem.W.keepIn K (.ref f)=true)
  (lT:K.lookup T=some oT) (sT:oT.data = .seq #[.bool true] nT):Sy K x st:=⟨f,T,oc,kV,doc,pm,cdv,ct,od,an,osl,oT,nT,n,l,c,k,lT,sT⟩
end
end L3
namespace G40
open PySem L2 L3
def ma:Dv "parts_reached" (aU 19) ["body","names","reached"]:=fun _ _ _ _ _ _ _ _ _ _ us sT hl hT=>wo (P:=fun us=>BindsTo _ _ ⟨us,[]⟩ ((["body","names","reached"]:Zs).zip us)) (fun _ _ _=>by refine BindsTo.of_defaults rfl hT sT rfl ?_;rfl) us hl
def md:Dw "parts_reached" (aU 19) ["body","names","reached"]:=fun _ _ _ _ _ _ _ _ _ _ us sT hl hT=>ji (P:=fun us=>BindsTo _ _ ⟨us,[]⟩ ((["body","names","reached"]:Zs).zip (us++[.bool true]))) (fun _ _=>by refine BindsTo.of_defaults rfl hT sT rfl ?_;rfl) us (Zk hl)
def FQ{l:PySem.W.OpenLaw}{w:World}{K:Zo}{h:Heap}{mg:Zr}{fa:Addr}(X:K.In h)(G:h.Ns mainGlobals mg)(hfa:mg "law" = some (.ref fa))
  (Mo:Ks K "sides_of" (aU 2))
  (Mp:Ks K "parts_in" (aU 3))
  (NC:Ks K "parts" (aU 4))
  (MN:Ks K "has_row" (aU 6))
  (MO:Ks K "rows_in" (aU 7))
  (ND:Ks K "begin" (aU 8))
  (Lg:Ks K "rows_of_then" (aU 9))
  (KO:Ks K "rows_of_choice" (aU 10))
  (K8:Ks K "rows_of_often" (aU 11))
  (MP:Ks K "rows_of" (aU 12))
  (NE:Ks K "chart" (aU 13))
  (Ng:Ks K "chosen" (aU 15))
  (Ls:Ks K "plain_trace" (aU 16))
  (Lu:Ks K "led_to_part" (aU 17))
  (K9:Sy K "parts_reached" (aU 19))
  (L9:Ks K "next_step" (aU 20))
  (MQ:Ks K "filling" (aU 21))
  (Mq:Ks K "fillable" (aU 22))
  (Nh:Ks K "common" (aU 24))
  (Mr:Ks K "fraction" (aU 25))
  (Od:Ks K "plus" (aU 26))
  (NF:Ks K "minus" (aU 27))
  (NH:Ks K "times" (aU 28))
  (Oe:Ks K "less" (aU 29))
  (MR:Ks K "highest" (aU 30))
  (Ms:Ks K "together" (aU 31))
  (Mt:Ks K "worth_of" (aU 32))
  (KP:Ks K "passes_of_then" (aU 34))
  (L_:Ks K "passes_of" (aU 35))
  (KQ:Ks K "oftens_come_to" (aU 36))
  (Ma:Ks K "things_of" (aU 38))
  (NI:Ks K "added" (aU 39))
  (LG:Ks K "multiplied" (aU 40))
  (Mv:Ks K "no_tally" (aU 41))
  (Ni:Ks K "behind" (aU 42))
  (NJ:Ks K "again" (aU 43))
  (KR:Ks K "tally_of_often" (aU 44))
  (K_:Ks K "tally_of_take" (aU 45))
  (Mw:Ks K "tally_of" (aU 46))
  (KG:Ks K "numbered_bodies" (aU 48))
  (NK:Ks K "lines" (aU 49))
  (Lh:Ks K "rows_of_body" (aU 51))
  (Li:Ks K "rows_come_to" (aU 52))
  (Kp:Ks K "worths_of_fillable" (aU 54))
  (Mx:Ks K "asked_at" (aU 55))
  (Lv:Ks K "least_lefts" (aU 56))
  (NL:Ks K "gains" (aU 57))
  (My:Ks K "paper_by" (aU 58))
  (Mb:Ks K "_law_deal" (aU 60))
  (Mc:Ks K "_law_draw" (aU 61))
  (LH:Ks K "_law_words" (aU 62))
  (Mz:Ks K "_law_low" (aU 63))
  (Me:Ks K "_law_plus" (aU 64))
  (LJ:Ks K "_law_times" (aU 65))
  (Mf:Ks K "_law_cost" (aU 66))
  (Mg:Ks K "_law_leaf" (aU 67))
  (Mh:Ks K "_law_body" (aU 68))
  (KH:Ks K "_law_pass_count" (aU 69))
  (Kx:Ks K "_law_round_count" (aU 70))
  (KS:Ks K "_law_deed_body" (aU 71))
  (LK:Ks K "_law_house" (aU 72))
  (Mi:Ks K "_law_puts" (aU 73))
  (La:Ks K "_law_fillable" (aU 74))
  (LL:Ks K "_law_alike" (aU 75))
  (MA:Ks K "_law_one" (aU 76))
  (Lw:Ks K "_law_behind" (aU 77))
  (Lx:Ks K "_law_passes" (aU 78))
  (Ly:Ks K "_law_rounds" (aU 79))
  (LN:Ks K "_law_lines" (aU 80))
  (LP:Ks K "_law_worth" (aU 81))
  (Mj:Ks K "_law_more" (aU 82))
  (LQ:Sx l.prog w K "SIDES_FROM" (C.k_SIDES_FROM.map fun kv=>(kv.1,V.int kv.2)))
  (Pe:((["abs","all","bool","dict","enumerate","int","isinstance","len","list","max","range","reversed","tuple","zip"]:Zs).all fun x=>C1 (PySem.W.nsIn K mainGlobals x))=true)
  (Qg:Ks K "law" (aU 83))
  : ∃fd:FuncData,(∀(s:Shared) (v:Value),BindsTo s fd ⟨[v],[]⟩ [("_law_script",v)])/\∀base:Heap,K.In base->base.Ns mainGlobals mg->oP l.prog w K mg base AN 32 fa fd ["_law_script"] (GV K 1 tY):=by
 obtain⟨kV,doc,pm,an,cdv,ct,O⟩:=Qg.law X G hfa (ps:=["_law_script"]) (fun _ _ _ _ _ _=>qx fun _=>rfl)
 exact⟨_,fun s v=>.of_eq rfl,fun base _ _=>(FG (P:=l.prog) (w:=w) (base:=base) ⟨Mo.own X G (fun _ _ _ _ _ _=>qx fun _=>rfl),
  Mp.own X G (fun _ _ _ _ _ _=>qx fun _=>rfl),
  NC.own X G (fun _ _ _ _ _ _=>qx fun _=>rfl),
  MN.own X G (fun _ _ _ _ _ _=>qx fun _=>rfl),
  MO.own X G (fun _ _ _ _ _ _=>qx fun _=>rfl),
  ND.own X G (fun _ _ _ _ _ _=>wo fun _ _ _=>rfl),
  Lg.own X G (fun _ _ _ _ _ _=>wo fun _ _ _=>rfl),
  KO.own X G (fun _ _ _ _ _ _=>wo fun _ _ _=>rfl),
  K8.own X G (fun _ _ _ _ _ _=>wo fun _ _ _=>rfl),
  MP.own X G (fun _ _ _ _ _ _=>wo fun _ _ _=>rfl),
  NE.own X G (fun _ _ _ _ _ _=>qx fun _=>rfl),
  Ng.own X G (fun _ _ _ _ _ _=>ji fun _ _=>rfl),
  Ls.own X G (fun _ _ _ _ _ _=>qx fun _=>rfl),
  Lu.own X G (fun _ _ _ _ _ _=>wo fun _ _ _=>rfl),
  K9.own X G ma md,
  L9.own X G (fun _ _ _ _ _ _=>ji fun _ _=>rfl),
  MQ.own X G (fun _ _ _ _ _ _=>qx fun _=>rfl),
  Mq.own X G (fun _ _ _ _ _ _=>qx fun _=>rfl),
  Nh.own X G (fun _ _ _ _ _ _=>ji fun _ _=>rfl),
  Mr.own X G (fun _ _ _ _ _ _=>ji fun _ _=>rfl),
  Od.own X G (fun _ _ _ _ _ _=>ji fun _ _=>rfl),
  NF.own X G (fun _ _ _ _ _ _=>ji fun _ _=>rfl),
  NH.own X G (fun _ _ _ _ _ _=>ji fun _ _=>rfl),
  Oe.own X G (fun _ _ _ _ _ _=>ji fun _ _=>rfl),
  MR.own X G (fun _ _ _ _ _ _=>qx fun _=>rfl),
  Ms.own X G (fun _ _ _ _ _ _=>qx fun _=>rfl),
  Mt.own X G (fun _ _ _ _ _ _=>ji fun _ _=>rfl),
  KP.own X G (fun _ _ _ _ _ _=>ji fun _ _=>rfl),
  L_.own X G (fun _ _ _ _ _ _=>ji fun _ _=>rfl),
  KQ.own X G (fun _ _ _ _ _ _=>ji fun _ _=>rfl),
  Ma.own X G (fun _ _ _ _ _ _=>wo fun _ _ _=>rfl),
  NI.own X G (fun _ _ _ _ _ _=>ji fun _ _=>rfl),
  LG.own X G (fun _ _ _ _ _ _=>ji fun _ _=>rfl),
  Mv.own X G (fun _ _ _ _ _ _=>qx fun _=>rfl),
  Ni.own X G (fun _ _ _ _ _ _=>ji fun _ _=>rfl),
  NJ.own X G (fun _ _ _ _ _ _=>ji fun _ _=>rfl),
  KR.own X G (fun _ _ _ _ _ _=>wo fun _ _ _=>rfl),
  K_.own X G (fun _ _ _ _ _ _=>ji fun _ _=>rfl),
  Mw.own X G (fun _ _ _ _ _ _=>wo fun _ _ _=>rfl),
  KG.own X G (fun _ _ _ _ _ _=>ji fun _ _=>rfl),
  NK.own X G (fun _ _ _ _ _ _=>qx fun _=>rfl),
  Lh.own X G (fun _ _ _ _ _ _=>ji fun _ _=>rfl),
  Li.own X G (fun _ _ _ _ _ _=>qx fun _=>rfl),
  Kp.own X G (fun _ _ _ _ _ _=>ji fun _ _=>rfl),
  Mx.own X G (fun _ _ _ _ _ _=>wo fun _ _ _=>rfl),
  Lv.own X G (fun _ _ _ _ _ _=>wo fun _ _ _=>rfl),
  NL.own X G (fun _ _ _ _ _ _=>ji fun _ _=>rfl),
  My.own X G (fun _ _ _ _ _ _=>ji fun _ _=>rfl),
  Mb.own X G (fun _ _ _ _ _ _=>ji fun _ _=>rfl),
  Mc.own X G (fun _ _ _ _ _ _=>ji fun _ _=>rfl),
  LH.own X G (fun _ _ _ _ _ _=>ji fun _ _=>rfl),
  Mz.own X G (fun _ _ _ _ _ _=>ji fun _ _=>rfl),
  Me.own X G (fun _ _ _ _ _ _=>ji fun _ _=>rfl),
  LJ.own X G (fun _ _ _ _ _ _=>ji fun _ _=>rfl),
  Mf.own X G (fun _ _ _ _ _ _=>qx fun _=>rfl),
  Mg.own X G (fun _ _ _ _ _ _=>ji fun _ _=>rfl),
  Mh.own X G (fun _ _ _ _ _ _=>Ig fun _ _ _ _=>rfl),
  KH.own X G (fun _ _ _ _ _ _=>qx fun _=>rfl),
  Kx.own X G (fun _ _ _ _ _ _=>qx fun _=>rfl),
  KS.own X G (fun _ _ _ _ _ _=>Ig fun _ _ _ _=>rfl),
  LK.own X G (fun _ _ _ _ _ _=>Ig fun _ _ _ _=>rfl),
  Mi.own X G (fun _ _ _ _ _ _=>wo fun _ _ _=>rfl),
  La.own X G (fun _ _ _ _ _ _=>qx fun _=>rfl),
  LL.own X G (fun _ _ _ _ _ _=>ji fun _ _=>rfl),
  MA.own X G (fun _ _ _ _ _ _=>ji fun _ _=>rfl),
  Lw.own X G (fun _ _ _ _ _ _=>Ig fun _ _ _ _=>rfl),
  Lx.own X G (fun _ _ _ _ _ _=>wo fun _ _ _=>rfl),
  Ly.own X G (fun _ _ _ _ _ _=>JV fun _ _ _ _ _=>rfl),
  LN.own X G (fun _ _ _ _ _ _=>qx fun _=>rfl),
  LP.own X G (fun _ _ _ _ _ _=>ji fun _ _=>rfl),
  Mj.own X G (fun _ _ _ _ _ _=>ji fun _ _=>rfl),
  k7 (x:="abs") X G Pe,
  k7 (x:="all") X G Pe,
  k7 (x:="bool") X G Pe,
  k7 (x:="dict") X G Pe,
  k7 (x:="enumerate") X G Pe,
  k7 (x:="int") X G Pe,
  k7 (x:="isinstance") X G Pe,
  k7 (x:="len") X G Pe,
  k7 (x:="list") X G Pe,
  k7 (x:="max") X G Pe,
  k7 (x:="range") X G Pe,
  k7 (x:="reversed") X G Pe,
  k7 (x:="tuple") X G Pe,
  k7 (x:="zip") X G Pe,
  LQ.kd X G⟩ O).ok⟩
def Jq{l:PySem.W.OpenLaw}{q:Program}{loose:Zs}{XP:(Zr)->Heap->Prop}{YP:World->Heap->Prop}{d:DefRec}{K:Params->PySem.W.Frag}(hn:l.most=some 63)(hdf:d.params.defaults=[])
  (hY:∀(w:World)(h:Heap),YP w h->(K w.params).In h)
  (F:∀(w:World)(mg:Zr)(fa:Addr)(h:Heap),(K w.params).In h->h.Ns mainGlobals mg->mg d.name=some (.ref fa)->
   ∃fd:FuncData,(∀(s:Shared) (u:Value),BindsTo s fd ⟨[u],[]⟩ [("_law_script",u)])/\∀base:Heap,(K w.params).In base->base.Ns mainGlobals mg->oP l.prog w (K w.params) mg base AN 32 fa fd ["_law_script"] (GV (K w.params) 1 tY)) :
  PySem.W.WalkO q loose XP YP l.row.toRowW d [] (fun f vs=>PySem.call f vs):=
 L2.Bj (n:=63) (k:=32) (x:="_law_script") (CX:=fun _=>AN) (sp:=fun w=>GV (K w.params) 1 tY) hn (by decide) hdf ⟨rfl,by decide,by decide,rfl⟩ hY F (fun _ _ a ns hl hO hS=>Ja hO hS (AK ns hl)) fun _ _ _ _ _ z=>z
end G40
local macro_rules | `(tactic| walk_at "k")=>`(tactic| (apply L3.JW; k_is; k_is; k_is; k_is))
local macro_rules | `(tactic| walk_at "d")=>`(tactic| (apply L3.JY; k_is; k_is; k_is; k_is; k_is; rfl))
open PySem PySem.W PyProof.Rows
set_option maxRecDepth 100000 in
set_option maxHeartbeats 0 in
theorem PySem.Challenge.cw_dueworth_k40_rounds_that_have_more_holds : PySem.Challenge.rw_dueworth_k40_rounds_that_have_more.Holds := by
 w_on; refine holds_law E40.said fun said => ?_
 refine holds_open (q := E40.vw) (loose := ["SIDES_FROM", "parts_reached"]) (Xt := fun s => (xlAt E40.vw [] s && recOk (RowW.records E40.rr) s)) (XP := XL E40.vw []) (N := 4742)
  (Yf := Hook.obs E40.hk) (Ya := Hook.val E40.hk) (YP := Hook.says (kHook E40.early.heap_1 E40.as E40.Jr)) E40.left (Hook.of E40.hk) (Hook.keeps E40.hk) (fun s e => xl_of s (YB.mp e).1)
  XL.keeps rfl rfl rfl (fun s e => recFacts_of (YB.mp e).2) rfl (by assumption)
  (by decide +kernel) ⟨rfl, rfl, rfl, rfl, rfl, by decide +kernel⟩ ?hw ?hc
 (case hw => w_witness2)
 k_fill
 refine G40.Jq (l := PySem.Challenge.rw_dueworth_k40_rounds_that_have_more) rfl rfl (fun w h Y => PySem.W.kIn_of Y) ?F
 case F =>
  intro w mg fa h KX G hmg
  refine' G40.FQ KX G hmg ?Mo ?Mp ?NC ?MN ?MO ?ND ?Lg ?KO ?K8 ?MP ?NE ?Ng ?Ls ?Lu ?K9 ?L9 ?MQ ?Mq ?Nh ?Mr ?Od ?NF ?NH ?Oe ?MR ?Ms ?Mt ?KP ?L_ ?KQ ?Ma ?NI ?LG ?Mv ?Ni ?NJ ?KR ?K_ ?Mw ?KG ?NK ?Lh ?Li ?Kp ?Mx ?Lv ?NL ?My ?Mb ?Mc ?LH ?Mz ?Me ?LJ ?Mf ?Mg ?Mh ?KH ?Kx ?KS ?LK ?Mi ?La ?LL ?MA ?Lw ?Lx ?Ly ?LN ?LP ?Mj ?LQ ?Pe ?Qg
  (case Mo => walk_at "k")
  (case Mp => walk_at "k")
  (case NC => walk_at "k")
  (case MN => walk_at "k")
  (case MO => walk_at "k")
  (case ND => walk_at "k")
  (case Lg => walk_at "k")
  (case KO => walk_at "k")
  (case K8 => walk_at "k")
  (case MP => walk_at "k")
  (case NE => walk_at "k")
  (case Ng => walk_at "k")
  (case Ls => walk_at "k")
  (case Lu => walk_at "k")
  (case K9 => walk_at "d")
  (case L9 => walk_at "k")
  (case MQ => walk_at "k")
  (case Mq => walk_at "k")
  (case Nh => walk_at "k")
  (case Mr => walk_at "k")
  (case Od => walk_at "k")
  (case NF => walk_at "k")
  (case NH => walk_at "k")
  (case Oe => walk_at "k")
  (case MR => walk_at "k")
  (case Ms => walk_at "k")
  (case Mt => walk_at "k")
  (case KP => walk_at "k")
  (case L_ => walk_at "k")
  (case KQ => walk_at "k")
  (case Ma => walk_at "k")
  (case NI => walk_at "k")
  (case LG => walk_at "k")
  (case Mv => walk_at "k")
  (case Ni => walk_at "k")
  (case NJ => walk_at "k")
  (case KR => walk_at "k")
  (case K_ => walk_at "k")
  (case Mw => walk_at "k")
  (case KG => walk_at "k")
  (case NK => walk_at "k")
  (case Lh => walk_at "k")
  (case Li => walk_at "k")
  (case Kp => walk_at "k")
  (case Mx => walk_at "k")
  (case Lv => walk_at "k")
  (case NL => walk_at "k")
  (case My => walk_at "k")
  (case Mb => walk_at "k")
  (case Mc => walk_at "k")
  (case LH => walk_at "k")
  (case Mz => walk_at "k")
  (case Me => walk_at "k")
  (case LJ => walk_at "k")
  (case Mf => walk_at "k")
  (case Mg => walk_at "k")
  (case Mh => walk_at "k")
  (case KH => walk_at "k")
  (case Kx => walk_at "k")
  (case KS => walk_at "k")
  (case LK => walk_at "k")
  (case Mi => walk_at "k")
  (case La => walk_at "k")
  (case LL => walk_at "k")
  (case MA => walk_at "k")
  (case Lw => walk_at "k")
  (case Lx => walk_at "k")
  (case Ly => walk_at "k")
  (case LN => walk_at "k")
  (case LP => walk_at "k")
  (case Mj => walk_at "k")
  (case LQ => apply L3.JX; k_is; k_is; rfl; exact L2.Ew _ w [("then", 1, _, _), ("either", 1, _, _), ("take", 3, _, _), ("often", 1, _, _)] _ (by decide +kernel))
  (case Pe => kernel_rfl)
  (case Qg => walk_at "k")
#print axioms PySem.Challenge.cw_dueworth_k40_rounds_that_have_more_holds
