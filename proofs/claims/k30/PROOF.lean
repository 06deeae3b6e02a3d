import PyProof.Rows.All
import Wide.All
import OpenK.AllK
import Wide.FinOn
import Lean
import PyProof.EqAt
import PyProof.EqKinds
import PyProof.TupleCall
import PySem.Challenge.RW_dueworth_k30_passes_in_order
import Open.Tree
import Open.Head
section
set_option Elab.async false
set_option linter.all false
set_option maxRecDepth 100000
set_option maxHeartbeats 0
abbrev HB:=@PySem.wpAny_bind
abbrev HC:=@List.length_append
abbrev HD:=@List.length_map
abbrev HE:=@PySem.Heap.get?_push_of_some
abbrev HF:=@Nat.le_refl
abbrev HH:=@List.size_toArray
abbrev HJ:=@PySem.wpAny_pure
abbrev HK:=@PySem.Heap.lt_size
abbrev HL:=@List.mem_cons
abbrev HM:=@List.mem_singleton
abbrev HN:=@List.mem_append
abbrev HQ:=@Bool.false_bne
abbrev HR:=@List.getElem?_map
abbrev HS:=@decide_eq_true_eq
abbrev HU:=@Bool.false_eq_true
abbrev HV:=@PySem.Heap.get?_push_size
abbrev HW:=@List.length_cons
abbrev HX:=@Nat.le_trans
abbrev HY:=@Nat.lt_of_lt_of_le
abbrev HZ:=@List.length_singleton
abbrev Ia:=@Array.getElem?_eq_getElem
abbrev Ib:=@List.getElem?_eq_getElem
abbrev Ic:=@List.not_mem_nil
abbrev Ie:=@Bool.false_ne_true
abbrev Ig:=@List.map_cons
abbrev Ih:=@List.getElem?_eq_some_iff
abbrev Ii:=@Nat.ne_of_lt
abbrev Ij:=@decide_eq_false
abbrev Ik:=@List.mem_of_getElem?
abbrev Il:=@Nat.zero_le
abbrev Im:=@List.mem_map
abbrev Io:=@List.mem_append_right
abbrev Ip:=@List.append_nil
abbrev Iq:=@PySem.PassesOwn.never
abbrev Ir:=@PyProof.Rows.callWith_type1
abbrev Iu:=@if_false
abbrev Iw:=@PySem.wpAny_field
abbrev Iz:=@List.getElem?_append_left
abbrev IA:=@List.map_append
abbrev IB:=@decide_eq_true
abbrev IC:=@PyProof.Rows.slot_tuple_getitem
abbrev ID:=@List.length_replicate
abbrev IE:=@List.getElem?_append_right
abbrev IF:=@List.length_drop
abbrev IG:=@PySem.wpAny_callSpecial?_slot
abbrev II:=@if_true
abbrev IJ:=@decide_true
abbrev IK:=@Option.map_eq_some_iff
abbrev IL:=@Option.some.inj
abbrev IM:=@List.replicate_succ
abbrev IP:=@congrArg
abbrev IQ:=@PySem.wpAny_newObj_type
abbrev IS:=@List.mem_of_mem_take
abbrev IU:=@List.nodup_cons
abbrev IV:=@List.length_take
abbrev IW:=@PySem.Heap.get?_update_other
abbrev IY:=@or_false
abbrev IZ:=@PySem.Heap.get?_update_self
abbrev I9:=@PySem.wpAny_seqItems
abbrev Ja:=@List.mem_cons_self
abbrev Jb:=@PySem.Calls.spliced_cons
abbrev Jc:=@PySem.wpAny_pyIter_tuple
abbrev Jd:=@List.mem_cons_of_mem
abbrev Je:=@List.map_nil
abbrev Jf:=@PySem.F.plain_extend_loop
abbrev Jg:=@List.flatMap_append
abbrev Jh:=@List.length_nil
abbrev Ji:=@List.getElem?_eq_none
abbrev Jj:=@PySem.wpAny_Call_Name_kw
abbrev Jk:=@PySem.wpAny_call_entry
abbrev Jl:=@PySem.wpAny_setField_rec
abbrev Jm:=@Nat.le_add_right
abbrev Jo:=@Nat.lt_irrefl
abbrev Jp:=@PySem.wpAny_holding
abbrev Jq:=@Bool.true_bne
abbrev Jr:=@PySem.Heap.size_push
abbrev Js:=@PySem.Around.under_plainId
abbrev Jt:=@Nat.pow_le_pow_right
abbrev Ju:=@List.getElem?_replicate
abbrev Jv:=@Int.eq_ofNat_of_zero_le
abbrev Jw:=@PySem.F.plainAttrs_list
abbrev Jx:=@List.nil_append
abbrev Jy:=@PySem.F.slot_zip_next
abbrev Jz:=@PySem.mem_of_lookup
abbrev JA:=@PySem.Calls.callWith_builtin
abbrev JB:=@PyProof.Rows.assignInOrder_cons
abbrev JC:=@PySem.F.slot_tuple_iterator_next
abbrev JD:=@Bool.not_false
abbrev JE:=@Ne.symm
abbrev JF:=@PySem.F.slot_dict_get
abbrev JG:=@PySem.wpAny_passesOwn
abbrev JH:=@List.mem_append_left
abbrev JI:=@PySem.Calls.spliced_nil
abbrev JJ:=@List.flatten_cons
abbrev JK:=@PySem.wpAny_pyIter_list
abbrev JL:=@List.map_map
abbrev JM:=@decide_false
abbrev JN:=@Int.mul_ediv_cancel_left
abbrev JO:=@Nat.not_le
abbrev JP:=@Int.fdiv_eq_ediv_of_dvd
abbrev JQ:=@List.mem_flatMap
abbrev JR:=@PySem.wpAny_mono
abbrev JS:=@PySem.tupleKind_room_in1
abbrev JT:=@Array.getElem?_eq_none
abbrev JU:=@List.take_of_length_le
abbrev JV:=@List.length_mapIdx
abbrev JW:=@Bool.eq_iff_iff
abbrev JX:=@PySem.codeAny_builtin
abbrev JY:=@List.dropLast_concat_getLast
abbrev JZ:=@PySem.builtinLookup_eq_fast
abbrev J3:=@PySem.wpAny_truthy_bool
abbrev J4:=@Int.toNat_natCast
abbrev J5:=@Bool.and_eq_true_iff
abbrev J6:=@List.mem_range
abbrev J7:=@PySem.Calls.evalArgs_plain
abbrev J8:=@PySem.call_meets
abbrev J9:=@List.mem_of_mem_drop
abbrev Ka:=@List.getElem?_mapIdx
abbrev Kc:=@Array.getElem?_eq_some_iff
abbrev Kd:=@true_and
abbrev Ke:=@List.take_succ
abbrev Kf:=@Nat.ne_of_gt
abbrev Kg:=@List.getElem_mem
abbrev Kh:=@Nat.zero_add
abbrev Kl:=@List.getElem?_zip_eq_some
abbrev Km:=@List.length_reverse
abbrev Kn:=@List.getElem?_range
abbrev Ko:=@PySem.F.args_tuple_add_2
abbrev Kp:=@PySem.plainId_quiet
abbrev Kq:=@List.map_take
abbrev Kr:=@Bool.not_true
abbrev Ks:=@PySem.wpAny_updateSeq
abbrev Ku:=@List.forIn_cons
abbrev Kv:=@PySem.wpAny_loadPart'
abbrev Kw:=@PySem.wpAny_rule
abbrev Ky:=@Nat.lt_of_le_of_lt
abbrev Kz:=@PySem.F.entry_tuple_add
abbrev KA:=@PySem.F.args_dict_get_3
abbrev KC:=@Nat.le_of_lt
abbrev KG:=@PySem.wpAny_bindName
abbrev KH:=@PySem.F.slot_tuple_add
abbrev KJ:=@PySem.wpAny_typeOf
abbrev KL:=@List.reverse_cons
abbrev KN:=@List.append_assoc
abbrev KO:=@PySem.F.entry_dict_get
abbrev KP:=@PySem.wpAny_nextOf_list_item
abbrev KQ:=@PySem.F.args_zip_next_1
abbrev KR:=@PySem.wpAny_pyIter_enum
abbrev KS:=@List.eraseIdxIfInBounds_toArray
abbrev KU:=@Nat.le_of_ble_eq_true
abbrev KW:=@List.all_eq_true
abbrev KY:=@PySem.F.entry_zip_next
abbrev KZ:=@PySem.Heap.size_update
abbrev K0:=@List.take_length
abbrev K1:=@List.any_cons
abbrev K3:=@PySem.wpAny_updateSeq_pair
abbrev K4:=@List.mem_filter
abbrev K5:=@PySem.wpAny_execs_nil
abbrev K6:=@List.of_mem_zip
abbrev K7:=@PySem.typeLookup_type
abbrev K8:=@PySem.wpAny_specialOf
abbrev K9:=@Int.natCast_pos
abbrev La:=@List.filterMap_cons
abbrev Lb:=@Array.length_toList
abbrev Lc:=@PySem.F.entry_extend_loop
abbrev Ld:=@Int.le_of_lt
abbrev Le:=@List.getElem?_drop
abbrev Lf:=@List.nodup_nil
abbrev Lg:=@Int.emod_lt_of_pos
abbrev Lh:=@Nat.mul_le_mul
abbrev Li:=@List.take_sublist
abbrev Lj:=@Option.isSome_map
abbrev Lk:=@Option.some.injEq
abbrev Ll:=@List.length_range
abbrev Lm:=@List.flatMap_cons
abbrev Ln:=@Bool.and_true
abbrev Lo:=@PySem.W.mg_of
abbrev Lp:=@List.filter_cons
abbrev Lq:=@Nat.le_max_right
abbrev Lr:=@Nat.lt_trans
namespace ET
open PySem PySem.W PyProof.Rows
def fQ(tb:String→Option Builtin)(p:Program)(w:World)(n₀:Nat)(ann:Option Value):Nat→SharedT→Thread→Option SharedT
 |0,_,_=>none
 |n+1,s,t=>match through t with
  |true=>some s
  |false=>match stepOk n₀ ann t with
   |false=>none
   |true=>match stepT (denote tb) p w s t with
    |some x=>fQ tb p w n₀ ann n x.1 x.2
    |none=>none
theorem jG{tb:String→Option Builtin}{p:Program}{w:World}{n₀:Nat}{ann:Option Value}:∀{n:Nat} {s s':SharedT} {t:Thread},fQ tb p w n₀ ann n s t=some s'→topRun tb p w n₀ ann n s.abs t=some s'.abs
 |0,_,_,_,h=>by cases h
 |n+1,s,s',t,h=>by
  unfold fQ at h
  unfold topRun
  cases he:through t with
  |true=>rw[he]at h;cases h;rfl
  |false=>
   rw[he]at h
   cases hk:stepOk n₀ ann t with
   |false=>rw[hk]at h;cases h
   |true=>
    rw[hk]at h
    cases hs:stepT (denote tb) p w s t with
    |none=>rw[hs]at h;cases h
    |some r=>rw[hs]at h;rw[stepT_spec hs];exact jG h
def v5:List Obj→BT→Nat→Option (BT×Nat)
 |[],t,n=>some (t,n)
 |o::os,t,n=>match ((t.ins n o).get n).isSome with
  |true=>v5 os (t.ins n o) (n+1)
  |false=>none
theorem mI{life:Life}:∀{os:List Obj} {t t':BT} {n n':Nat},v5 os t n=some (t',n')→absHeap t' n' life=⟨(absHeap t n life).objs++os.toArray,life⟩
 |[],t,t',n,n',h=>by cases h;simp[absHeap]
 |o::os,t,t',n,n',h=>by
  unfold v5 at h
  cases g:((t.ins n o).get n).isSome with
  |false=>rw[g]at h;cases h
  |true=>
   rw[g]at h
   rw[mI h,absHeap_ins g]
   simp[Heap.push]
def fR(tb:String→Option Builtin)(p:Program)(w:World)(N:Nat)(s₀:Shared):Option Shared:=
 match s₀.heap.isNs mainGlobals&&s₀.gens.size == 0 with
 |true=>match v5 s₀.heap.objs.toList .nil 0 with
  |some x=>match fQ tb p w x.2 (s₀.heap.nsMap mainGlobals "__annotations__") N ⟨x.1,x.2,s₀.heap.life,s₀.gens,s₀.drawn,s₀.toks,s₀.os⟩ (topStub p)with
   |some s=>match staticsOk (importedModules p.main.body) s₀.heap s.abs.heap&&namesBound p s.abs.heap&&gensDone s.abs&&laidKept s₀.heap s.abs.heap with
    |true=>some s.abs
    |false=>none
   |none=>none
  |none=>none
 |false=>none
theorem lP{tb:String→Option Builtin}{p:Program}{w:World}{N:Nat}{s₀ s:Shared}(h:fR tb p w N s₀=some s):topFrom tb p w N s₀=some s:=by
 unfold fR at h
 unfold topFrom
 cases h1:s₀.heap.isNs mainGlobals&&s₀.gens.size == 0 with
 |false=>rw[h1]at h;cases h
 |true=>
  rw[h1]at h
  dsimp only at h ⊢
  cases h2:v5 s₀.heap.objs.toList .nil 0 with
  |none=>rw[h2]at h;cases h
  |some x=>
   rw[h2]at h
   dsimp only at h
   have e:=mI (life:=s₀.heap.life) h2
   have e':absHeap x.1 x.2 s₀.heap.life=s₀.heap:=by
    rw[e]
    simp[absHeap,BT.list]
   have n':x.2=s₀.heap.objs.size:=by rw[←e',absHeap_size]
   cases h3:fQ tb p w x.2 (s₀.heap.nsMap mainGlobals "__annotations__") N ⟨x.1,x.2,s₀.heap.life,s₀.gens,s₀.drawn,s₀.toks,s₀.os⟩ (topStub p)with
   |none=>rw[h3]at h;cases h
   |some r=>
    rw[h3]at h
    dsimp only at h
    have ea:SharedT.abs ⟨x.1,x.2,s₀.heap.life,s₀.gens,s₀.drawn,s₀.toks,s₀.os⟩=s₀:=by
     unfold SharedT.abs
     rw[e']
    have:=jG h3
    rw[ea,n']at this
    rw[this]
    exact h
theorem lQ{tb:String→Option Builtin}{p:Program}{w:World}{N:Nat}{s₀:Shared}{α:Type}{f:Shared→α}{a:α}(h:Option.map f (fR tb p w N s₀)=some a):Option.map f (topFrom tb p w N s₀)=some a:=by
 obtain⟨s,h1,h2⟩:=IK.mp h
 rw[lP h1]
 exact IP some h2
def seenT(p q:Program)(loose:List Str)(Xt:Shared→Bool){α:Type}(Yf:Shared→α)(N:Nat)(u u':World):=
 Option.map (fun c=>Option.map (fun s=>(openSeen q loose (importedModules p.main.body) Xt true s,Yf s)) (fR treeTable p u' N c)) (fencedOpening treeTable p u N)
lay_quick seenT
theorem mJ{p q:Program}{loose:List Str}{Xt:Shared→Bool}{α:Type}{Yf:Shared→α}{N:Nat}{u u':World}{r}(h:PySem.W.Fast.tw2787559817927863336 p q loose Xt Yf N u u'=r):seenT p q loose Xt Yf N u u'=r:=by
 rw[PySem.W.Fast.te2787559817927863336]
 exact h
theorem xI{p q:Program}{loose:List Str}{Xt:Shared→Bool}{α:Type}{Yf:Shared→α}{Ya:World→α}{N:Nat}
  (h:∀u:World,seenT p q loose Xt Yf N u u=some (some (openGood q loose,Ya u))):LeftO p q loose Xt Yf Ya N:=fun u=>by
 obtain⟨c,a,b⟩:=IK.mp (h u)
 unfold openEnds
 rw[a]
 exact lQ b
theorem oR{p q:Program}{loose:List Str}{Xt:Shared→Bool}{α:Type}{Yf:Shared→α}{Ya:World→α}{N:Nat}(row:String)
  (h0:∀u:World,seenT p q loose Xt Yf N u (u.withFollow row false)=some (some (openGood q loose,Ya (u.withFollow row false))))
  (h1:∀u:World,seenT p q loose Xt Yf N u (u.withFollow row true)=some (some (openGood q loose,Ya (u.withFollow row true)))):LeftO p q loose Xt Yf Ya N:=fun u=>by
 obtain⟨c,a,b⟩:=IK.mp (h0 u)
 obtain⟨c',a',b'⟩:=IK.mp (h1 u)
 have hc:c'=c:=by rw[a]at a';cases a';rfl
 subst hc
 have b:=lQ b
 have b':=lQ b'
 have hu:=World.withFollow_self u row
 unfold openEnds
 rw[a]
 cases hb:u.params.followText row<;>rw[hb]at hu
 ·rw[hu]at b
  exact b
 ·rw[hu]at b'
  exact b'
end ET
namespace E30
open PySem PySem.W PyProof.Rows
abbrev tp(i:Nat):Stmt:=PySem.Challenge.pw_dueworth_k30_passes_in_order.main.body.getD i (.Pass ⟨0,0,0,0⟩)
/-- the text without what says nothing -/
def vw:Program:={ PySem.Challenge.pw_dueworth_k30_passes_in_order with main:={ PySem.Challenge.pw_dueworth_k30_passes_in_order.main with body:=[tp 1,tp 2,tp 3,tp 4,tp 6,tp 7,tp 10,tp 11,tp 12,tp 14,tp 15,tp 16,tp 18,tp 19,tp 20,tp 21,tp 22,tp 23,tp 24,tp 25,tp 26,tp 27,tp 28,tp 29,tp 30,tp 31,tp 32,tp 33,tp 34,tp 35,tp 36,tp 37,tp 38] } }
abbrev rr:RowW:=OpenRow.toRowW (OpenLaw.row PySem.Challenge.rw_dueworth_k30_passes_in_order)
local macro_rules | `(tactic| o_head $H)=>`(tactic|
 refine holds_open (q:=vw) (loose:=["SIDES_FROM","parts_reached"]) (Xt:=fun s=>(xlAt vw [] s&&recOk (RowW.records rr) s)) (XP:=XL vw []) (N:=2328)
  (Yf:=Hook.obs $H) (Ya:=Hook.val $H) (YP:=Hook.says $H) ?hl (Hook.of $H) (Hook.keeps $H) (fun s e=>xl_of s (J5.mp e).1)
  XL.keeps rfl rfl rfl (fun s e=>recFacts_of (J5.mp e).2) rfl (by assumption)
  (by decide +kernel) ⟨rfl,rfl,rfl,rfl,rfl,by decide +kernel⟩ ?hw ?hc)
/-- the law is well said: by the quick twin of the look,with no twin of the program -/
theorem said:OpenLaw.wellSaid PySem.Challenge.rw_dueworth_k30_passes_in_order=true:=(congrFun PySem.W.Fast.te9446332074065402090 _).trans (by kernel_rfl)
/-- says nothing; what lies in the heap is written down by the way -/
theorem early(h:∀P:Prop,P):PySem.Challenge.rw_dueworth_k30_passes_in_order.Holds:=by
 w_on;refine holds_law said fun said=>?_;k_head
 all_goals exact h _
abbrev as:List Addr:=[2,3,15,16,18,19,21,22,23,25,26,28,29,30,32,33,35,36,37,39,40,42,43,44,46,47,49,50,51,52,54,55,57,58,59,61,62,64,65,66,68,69,71,72,73,76,77,78,81,82,83,86,87,88,90,91,93,94,95,98,99,100,102,103,105,106,107,110,111,112,114,115,117,118,119,121,122,124,125,126,128,129,131,132,133,135,136,138,139,140,142,143,145,146,147,149,150,152,153,154,156,157,159,160,161,164,165,166,168,169,171,172,173,175,176,178,179,180,183,184,185,188,189,190,193,194,195,197,198,200,201,202,204,205,207,208,209,212,213,214,216,217,219,220,221,224,225]
theorem y8(P:Params):as=(early.heap_1 P).map (·.1):=by kernel_rfl
noncomputable abbrev hk:Hook:=kHook early.heap_1 as y8
theorem v6(u:World):ET.seenT (OpenLaw.row PySem.Challenge.rw_dueworth_k30_passes_in_order).prog vw ["SIDES_FROM","parts_reached"] (fun s=>(xlAt vw [] s&&recOk (RowW.records rr) s)) (Hook.obs hk) 2328 u (u.withFollow "special-get-raises" false)=some (some (openGood vw ["SIDES_FROM","parts_reached"],Hook.val hk (u.withFollow "special-get-raises" false))):=ET.mJ (by kernel_rfl)
theorem v7(u:World):ET.seenT (OpenLaw.row PySem.Challenge.rw_dueworth_k30_passes_in_order).prog vw ["SIDES_FROM","parts_reached"] (fun s=>(xlAt vw [] s&&recOk (RowW.records rr) s)) (Hook.obs hk) 2328 u (u.withFollow "special-get-raises" true)=some (some (openGood vw ["SIDES_FROM","parts_reached"],Hook.val hk (u.withFollow "special-get-raises" true))):=ET.mJ (by kernel_rfl)
theorem left:LeftO (OpenLaw.row PySem.Challenge.rw_dueworth_k30_passes_in_order).prog vw ["SIDES_FROM","parts_reached"] (fun s=>(xlAt vw [] s&&recOk (RowW.records rr) s)) (Hook.obs hk) (Hook.val hk) 2328:=ET.oR "special-get-raises" v6 v7
end E30
end
open PySem in
abbrev Vq:=Value->Shared->Prop
open PySem in
abbrev Va:=List (Addr×Obj)
open PySem in
abbrev Vo:=PySem.W.Frag
open PySem in
abbrev Vr:=Str->Option Value
open PySem in
abbrev Vs:=List Str
open PySem in
abbrev Vu:=List Int
open PySem in
abbrev Vv:=List Value
open PySem in
abbrev Vw:=Array Value
set_option Elab.async false
set_option linter.all false
set_option maxRecDepth 100000
namespace L2
open PySem PySem.Spec PyProof.Rows
abbrev a_:=Sum Int Str
noncomputable def jH:a_->Value->Bool
 | .inl k,v=>Value.isInt k v
 | .inr x,v=>Value.isStrOf x v
noncomputable def xY(w:World):a_->Int
 | .inl k=>hashInt k
 | .inr x=>hashStr w x
theorem ba:∀{k:a_} {v:Value},jH k v=true->(∃i t,k=Sum.inl i/\v=Value.int i t)\/(∃x t,k=Sum.inr x/\v=Value.str x t)
 | .inl i,v,h=>by
  obtain⟨t,e⟩:=Value.isInt_shape (k:=i) (v:=v) h
  exact .inl ⟨i,t,rfl,e⟩
 | .inr x,v,h=>by
  obtain⟨t,e⟩:=Value.isStrOf_shape (x:=x) (v:=v) h
  exact .inr ⟨x,t,rfl,e⟩
def nC(i:Int)(t:Tok):jH (.inl i) (.int i t)=true:=by simp[jH,Value.isInt]
def gD(x:Str)(t:Tok):jH (.inr x) (.str x t)=true:=by simp[jH,Value.isStrOf]
def t6(a b:Int):decide ((Sum.inl a:a_)=Sum.inl b)=(a == b):=by
 by_cases e:a=b
 ·subst e;simp
 ·have h:¬(Sum.inl a:a_)=Sum.inl b:=fun q=>e (Sum.inl.inj q)
  rw[Ij h]
  exact(beq_eq_false_iff_ne.mpr e).symm
def t7(a b:Str):decide ((Sum.inr a:a_)=Sum.inr b)=decide (a=b):=by
 by_cases e:a=b
 ·subst e;simp
 ·have h:¬(Sum.inr a:a_)=Sum.inr b:=fun q=>e (Sum.inr.inj q)
  rw[Ij h,Ij e]
def t8(a:Int)(b:Str):decide ((Sum.inl a:a_)=Sum.inr b)=false:=Ij (fun q=>nomatch q)
def t9(a:Str)(b:Int):decide ((Sum.inr a:a_)=Sum.inl b)=false:=Ij (fun q=>nomatch q)
noncomputable def aN(prog:Program)(w:World):PySem.KeyKind prog w a_ where
 is:=jH
 hash:=xY w
 inj:=fun v a b ha hb=>by
  rcases ba ha with⟨i,t,rfl,rfl⟩|⟨x,t,rfl,rfl⟩
  ·rcases ba hb with⟨j,u,rfl,e⟩|⟨y,u,rfl,e⟩
   ·injection e with e1 _;rw[e1]
   ·exact nomatch e
  ·rcases ba hb with⟨j,u,rfl,e⟩|⟨y,u,rfl,e⟩
   ·exact nomatch e
   ·injection e with e1 _;rw[e1]
 byValue:=fun k v h=>by
  rcases ba h with⟨i,t,rfl,rfl⟩|⟨x,t,rfl,rfl⟩<;>rfl
 pyHash:=fun hv h=>by
  rcases ba hv with⟨i,t,rfl,rfl⟩|⟨x,t,rfl,rfl⟩
  ·exact wpAny_pyHash_int h
  ·exact wpAny_pyHash_str h
 eqBool:=fun hu hv h=>by
  rcases ba hu with⟨i,t,rfl,rfl⟩|⟨x,t,rfl,rfl⟩
  ·rcases ba hv with⟨j,u,rfl,rfl⟩|⟨y,u,rfl,rfl⟩
   ·rw[t6]at h;exact wpAny_eqBool_int h
   ·rw[t8]at h;exact SeqAt.EqAt.int_str i t y u _ _ _ _ h
  ·rcases ba hv with⟨j,u,rfl,rfl⟩|⟨y,u,rfl,rfl⟩
   ·rw[t9]at h;exact SeqAt.EqAt.str_int x t j u _ _ _ _ h
   ·rw[t7]at h;exact wpAny_eqBool_str h
 «strs»:=fun k x t v h=>by
  rcases ba h with⟨i,u,rfl,e⟩|⟨y,u,rfl,e⟩
  ·exact nomatch e
  ·injection e with e1 _
   subst e1
   cases v<;>rfl
def kW(prog:Program)(w:World)(i:Int)(t:Tok):(aN prog w).is (.inl i) (.int i t)=true:=nC i t
def kX(prog:Program)(w:World)(x:Str)(t:Tok):(aN prog w).is (.inr x) (.str x t)=true:=gD x t
inductive V where
 |non|bl (b:Bool)|int (i:Int)|str (x:Str)|C7 (b:Array UInt8)|Fb (b:UInt64)|ref (a:Addr)|ty (n:String)
 deriving DecidableEq
noncomputable def RelV:V->Value->Prop
 | .non,u=>u=Value.none
 | .bl b,u=>u=Value.bool b
 | .int i,u=>∃t,u=Value.int i t
 | .str x,u=>∃t,u=Value.str x t
 | .C7 b,u=>∃t,u=Value.bytes b t
 | .Fb b,u=>∃t,u=Value.float b t
 | .ref a,u=>u=Value.ref a
 | .ty n,u=>u=Value.type n
noncomputable abbrev Vals:List V->List Value->Prop:=Paired RelV
theorem Vals.length{xs:List V}{us:Vv}(r:Vals xs us):xs.length=us.length:=Paired.length r
theorem Vals.get:∀{xs:List V} {us:Vv} {i:Nat} {x:V},Vals xs us->xs[i]?=some x->∃u,us[i]?=some u/\RelV x u
 |_,_,_,_,.nil,e=>by simp at e
 |_,_,0,_,.cons r _,e=>by simp at e;subst e;exact⟨_,rfl,r⟩
 |_,_,i+1,x,.cons _ t,e=>by
  obtain⟨u,h1,h2⟩:=Vals.get (i:=i) (x:=x) t (by simpa using e)
  exact⟨u,by simpa using h1,h2⟩
theorem Vals.set{x:V}{u:Value}(r:RelV x u):∀{xs:List V} {us:Vv} (i:Nat),Vals xs us->Vals (xs.set i x) (us.set i u)
 |_,_,_,.nil=>.nil
 |_,_,0,.cons _ t=>.cons r t
 |_,_,i+1,.cons q t=>.cons q (Vals.set r i t)
theorem Vals.append:∀{xs ys:List V} {us ws:Vv},Vals xs us->Vals ys ws->Vals (xs++ys) (us++ws)
 |_,_,_,_,.nil,s=>s
 |_,_,_,_,.cons r t,s=>.cons r (Vals.append t s)
theorem Vals.take:∀{xs:List V} {us:Vv} (n:Nat),Vals xs us->Vals (xs.take n) (us.take n)
 |_,_,0,_=>.nil
 |_,_,_+1,.nil=>.nil
 |_,_,n+1,.cons r t=>.cons r (Vals.take n t)
theorem Vals.drop:∀{xs:List V} {us:Vv} (n:Nat),Vals xs us->Vals (xs.drop n) (us.drop n)
 |_,_,0,r=>r
 |_,_,_+1,.nil=>.nil
 |_,_,n+1,.cons _ t=>Vals.drop n t
noncomputable def RelO:Option V->Option Value->Prop
 |some v,some u=>RelV v u
 |none,none=>True
 |_,_=>False
noncomputable def KV{κ:Type}:List (κ×V)->List (κ×Value)->Prop:=Paired fun(p:κ×V) (q:κ×Value)=>p.1=q.1/\RelV p.2 q.2
noncomputable def kV:a_->V
 | .inl i=>.int i
 | .inr x=>.str x
inductive HO where
 /-- a list -/
 |lst (xs:List V)
 /-- a tuple (never changes) -/
 |tup (xs:List V)
 /-- a dict whose keys are ints and texts; one whose keys are tuples of ints and texts (the empty one is both) -/
 |dK (kvs:List (a_×V))|dT (kvs:List (List a_×V))
 /-- a set of ints: its members,its size -/
 |set (S:Int->Bool) (n:Nat)
 /-- an instance of the class at C,its dict at dx,its attributes -/
 |ins (C dx:Addr) (fs:List (Str×V))
 /-- the dict of the instance at x -/
 |own (x:Addr)
 /-- the dict of an exception -/
 |xd (fs:List (Str×V))
 /-- a bound method,f of x -/
 |met (f x:Addr)
 /-- a range object lo,lo + 1,.. below hi -/
 |Fc (lo hi:Int)
 /-- a thing that is known to the object (the script; a dict while a loop walks it): read,never written while it is so -/
 |frz (o:Obj) (u:HO)
 /-- a code object's table -/
 |DR (ps:Vw)
 /-- any other thing,by what is true of its one object (a def of F8 own: GQ a S n:=HO.ext fun h=>..) -/
 |ext (φ:Heap->Prop)
abbrev Hp:=Addr->Option HO
noncomputable def upd(H:Hp)(a:Addr)(o:HO):Hp:=fun b=>if b=a then some o else H b
def aw{H:Hp}{a:Addr}{o:HO}:upd H a o a=some o:=by unfold upd;rw[if_pos rfl]
def av{H:Hp}{a b:Addr}{o:HO}(h:b≠a):upd H a o b=H b:=by unfold upd;rw[if_neg h]
def v8{H:Hp}{a b:Addr}{o u:HO}(h:H a=some o)(h':H b=some u)(d:o≠u):a≠b:=by
 intro e;subst e;rw[h]at h';exact d (IL h')
def aO{H:Hp}{a b:Addr}{o:HO}(h:H a=some o)(h':H b=none):a≠b:=by
 intro e;subst e;rw[h]at h';cases h'
def Ak(h:Heap)(a:Addr)(its:Vw):Prop:=∃o,h.get? a=some o/\o.dict=none/\o.cls = .type "tuple"/\∃n,o.data = .seq its n
def Ak.tup{h:Heap}{a:Addr}{its:Vw}(x:Ak h a its):IsTup h a its:=let ⟨o,e,_,c,d⟩:=x;⟨o,e,c,d⟩
def Ak.new(h:Heap)(its:Vw):Ak (h.push { cls:=.type "tuple",data:=.seq its }) h.objs.size its:=⟨_,HV _ rfl,rfl,rfl,_,rfl⟩
section
variable (P:Program) (w:World)
noncomputable def Ac(H:Hp)(h:Heap)(a:Addr):HO->Prop
 | .lst xs=>xs.length<=sizeLine/\∃(its:Vv) (n:Nat),Vals xs its/\h.get? a=some { cls:=.type "list",data:=.seq its.toArray n }
 | .tup xs=>xs.length<=sizeLine/\∃its:List Value,Vals xs its/\Ak h a its.toArray
 | .dK kvs=>kvs.length<=sizeLine/\(a == sysModules)=false/\∃vs,KV kvs vs/\h.DictOf (aN P w) a vs
 | .dT kvs=>kvs.length<=sizeLine/\(a == sysModules)=false/\∃xs:List (List a_×Addr×Value),
   Paired (fun(p:List a_×V) (q:List a_×Addr×Value)=>p.1=q.1/\H q.2.1=some (.tup (p.1.map kV))/\RelV p.2 q.2.2) kvs xs/\
   ∃o es ep,h.get? a=some o/\o.ExactDict/\o.data = .dict es ep/\es.toList=xs.map (entryOfKey (tupleKind (aN P w)))/\(xs.map (·.1)).Nodup
 | .set S n=>h.SetOf (intKind P w) a S n
 | .ins C dx fs=>H dx=some (.own a)/\fs.length<=1000/\dx≠a/\h.get? a=some (PySem.W.instObj C dx)/\
   ∃mA,h.Ns1 dx mA/\(∀f,RelO (fs.lookup f) (mA f))/\PySem.Within mA (fs.map (·.1))
 | .own _=>∃o,h.get? a=some o
 | .xd fs=>∃mA,h.Ns1 a mA/\∀f,RelO (fs.lookup f) (mA f)
 | .Fc lo hi=>∃t u v,h.get? a=some { cls:=.type "range",data:=.fields #[.int lo t,.int hi u,.int 1 v] }
 | .frz o u=>h.get? a=some o/\Ac H h a u
 | .DR ps=>h.get? a=some { cls:=.none,data:=.fields ps }
 | .met f x=>h.get? a=some (PySem.W.methodObj (.ref f) (.ref x))
 | .ext φ=>φ h/\(∃o,h.get? a=some o)/\∀h1 h2:Heap,φ h1->(∀o,h1.get? a=some o->h2.get? a=some o)->φ h2
def Bm(H:Hp)(h:Heap):Prop:=∀a o,H a=some o->Ac P w H h a o
end
section
variable {P:Program} {w:World} {H H':Hp} {h h':Heap} {a:Addr} {o:HO}
theorem Ac.lt(x:Ac P w H h a o):a < h.objs.size:=by
 cases o with
 |lst xs=>obtain⟨_,_,_,_,e⟩:=x;exact HK e
 |tup xs=>obtain⟨_,_,_,p⟩:=x;exact p.tup.lt
 |dK kvs=>obtain⟨_,_,_,_,o,_,_,e,_⟩:=x;exact HK e
 |dT kvs=>obtain⟨_,_,_,_,o,_,_,e,_⟩:=x;exact HK e
 |set S n=>obtain⟨o,_,_,_,e,_⟩:=x;exact HK e
 |ins C dx fs=>obtain⟨_,_,_,e,_⟩:=x;exact HK e
 |own y=>obtain⟨_,e⟩:=x;exact HK e
 |xd fs=>obtain⟨_,⟨_,_,_,e,_⟩,_⟩:=x;exact HK e
 |Fc lo hi=>obtain⟨_,_,_,e⟩:=x;exact HK e
 |frz ob u=>obtain⟨e,_⟩:=x;exact HK e
 |DR ps=>exact HK (show h.get? a=some _ from x)
 |met f y=>exact HK (show h.get? a=some _ from x)
 |ext φ=>obtain⟨_,⟨_,e⟩,_⟩:=x;exact HK e
theorem Paired.DS{α β:Type}{F G:α->β->Prop}:∀{l₁:List α} {l₂:List β},Paired F l₁ l₂->(∀a b,F a b->G a b)->Paired G l₁ l₂
 |_,_,.nil,_=>.nil
 |_,_,.cons r t,f=>.cons (f _ _ r) (Paired.DS t f)
def Ac.stay(x:Ac P w H h a o)(k:∀b u,(b=a\/H b=some (.own a))->h.get? b=some u->h'.get? b=some u)
  (ho:∀b,H b=some (.own a)->H' b=some (.own a)) (ht:∀b xs,H b=some (.tup xs)->H' b=some (.tup xs)):Ac P w H' h' a o:=by
 induction o with
 |lst xs=>obtain⟨z,its,n,r,e⟩:=x;exact⟨z,its,n,r,k _ _ (.inl rfl) e⟩
 |tup xs=>obtain⟨z,its,r,ob,e,c⟩:=x;exact⟨z,its,r,ob,k _ _ (.inl rfl) e,c⟩
 |dK kvs=>obtain⟨z,y,vs,r,ob,es,ep,e,c⟩:=x;exact⟨z,y,vs,r,ob,es,ep,k _ _ (.inl rfl) e,c⟩
 |dT kvs=>
  obtain⟨z,y,xs,r,ob,es,ep,e,c⟩:=x
  exact⟨z,y,xs,Paired.DS r fun p q z=>⟨z.1,ht _ _ z.2.1,z.2.2⟩,ob,es,ep,k _ _ (.inl rfl) e,c⟩
 |set S n=>obtain⟨ob,es,ep,t,e,c⟩:=x;exact⟨ob,es,ep,t,k _ _ (.inl rfl) e,c⟩
 |ins C dx fs=>
  obtain⟨d,z,ne,e,mA,⟨od,es,ep,e2,c⟩,r⟩:=x
  exact⟨ho _ d,z,ne,k _ _ (.inl rfl) e,mA,⟨od,es,ep,k _ _ (.inr d) e2,c⟩,r⟩
 |own y=>obtain⟨ob,e⟩:=x;exact⟨ob,k _ _ (.inl rfl) e⟩
 |xd fs=>obtain⟨mA,⟨od,es,ep,e,c⟩,r⟩:=x;exact⟨mA,⟨od,es,ep,k _ _ (.inl rfl) e,c⟩,r⟩
 |Fc lo hi=>obtain⟨t,u,v,e⟩:=x;exact⟨t,u,v,k _ _ (.inl rfl) e⟩
 |frz ob u ih=>obtain⟨e,q⟩:=x;exact⟨k _ _ (.inl rfl) e,ih q⟩
 |DR ps=>
  have e:h.get? a=some { cls:=.none,data:=.fields ps }:=x
  show h'.get? a=some { cls:=.none,data:=.fields ps }
  exact k a _ (.inl rfl) e
 |met f y=>
  have e:h.get? a=some (PySem.W.methodObj (.ref f) (.ref y)):=x
  show h'.get? a=some (PySem.W.methodObj (.ref f) (.ref y))
  exact k a _ (.inl rfl) e
 |ext φ=>obtain⟨p,⟨o,e⟩,st⟩:=x;exact⟨st _ _ p fun o q=>k _ _ (.inl rfl) q,⟨o,k _ _ (.inl rfl) e⟩,st⟩
theorem Bm.lt(x:Bm P w H h)(e:H a=some o):a < h.objs.size:=(x a o e).lt
def Bm.fresh(x:Bm P w H h)(e:h.objs.size<=a):H a=none:=by
 cases q:H a with
 |none=>rfl
 |some u=>exact absurd (HY (x.lt q) e) (Jo _)
def Bm.kept(x:Bm P w H h)(k:∀b u,h.get? b=some u->h'.get? b=some u):Bm P w H h':=fun a o e=>
 (x a o e).stay (fun b u _ q=>k b u q) (fun _ q=>q) fun _ _ q=>q
def Bm.laid(x:Bm P w H h)(k:∀b u,h.get? b=some u->h'.get? b=some u)(hp:h.objs.size<=a)(new:Ac P w (upd H a o) h' a o):Bm P w (upd H a o) h':=fun b u e=>by
 have hn:=x.fresh hp
 by_cases hb:b=a
 ·subst hb;rw[aw]at e;cases e;exact new
 ·rw[av hb]at e
  exact(x b u e).stay (fun c v _ q=>k c v q) (fun c q=>by rw[av (aO q hn)];exact q) fun c xs q=>by rw[av (aO q hn)];exact q
end
def Rd(H:Hp)(a:Addr)(u:HO):Prop:=H a=some u\/∃o,H a=some (.frz o u)
def Rd.ok{P:Program}{w:World}{H:Hp}{h:Heap}{a:Addr}{u:HO}(r:Rd H a u)(x:Bm P w H h):Ac P w H h a u:=by
 rcases r with r|⟨o,r⟩
 ·exact x a u r
 ·obtain⟨_,q⟩:=x a _ r
  exact q
noncomputable def v9:Option HO->Prop
 |some (.lst _)=>True
 |some (.dK _)=>True
 |some (.dT _)=>True
 |some (.set _ _)=>True
 |some (.ins _ _ _)=>True
 |some (.ext _)=>True
 |_=>False
section
variable {P:Program} {w:World} {H:Hp} {h h':Heap} {x e:Addr} {o':HO}
def Bm.write(ok:Bm P w H h)(mu:v9 (H x))(he:e=x\/H e=some (.own x))(k:∀b u,b≠e->h.get? b=some u->h'.get? b=some u)(Em:∃u,h'.get? e=some u)
  (new:Ac P w (upd H x o') h' x o'):Bm P w (upd H x o') h':=fun b u q=>by
 have Es:∀c y,H c=some (.own y)->c≠x:=fun c y r z=>by subst z;rw[r]at mu;exact mu
 have Fd:∀c xs,H c=some (.tup xs)->c≠x:=fun c xs r z=>by subst z;rw[r]at mu;exact mu
 by_cases hb:b=x
 ·subst hb;rw[aw]at q;cases q;exact new
 ·rw[av hb]at q
  by_cases DT:b=e
  ·have q':H b=some (.own x):=by
    rcases he with z|z
    ·exact absurd (DT.trans z) hb
    ·rw[DT];exact z
   rw[q]at q';cases q'
   obtain⟨v,hv⟩:=Em
   exact⟨v,by rw[DT];exact hv⟩
  ·refine(ok b u q).stay (fun c v hc r=>k c v ?_ r) (fun c r=>by rw[av (Es c b r)];exact r) fun c xs r=>by rw[av (Fd c xs r)];exact r
   rcases hc with rfl|hc
   ·exact DT
   ·rintro rfl
    rcases he with z|z
    ·exact Es c b hc z
    ·rw[hc]at z;cases z;exact hb rfl
end
structure Un (fs ex:List Addr) (H H':Hp) (h h':Heap):Prop where
 keep:∀b o,h.get? b=some o->H b=none->b ∉ fs->b ∉ ex->h'.get? b=some o
 slot:∀b o,h.get? b=some o->H b=none->b∈fs->b ∉ ex->∃sl,h'.get? b=some { o with slots:=sl }
 free:∀b o,h.get? b=some o->H b=none->b ∉ ex->H' b=none
 there:∀b o,h.get? b=some o->b ∉ ex->∃o',h'.get? b=some o'
 tups:∀b xs,H b=some (.tup xs)->H' b=some (.tup xs)
 B8:∀b o u,H b=some (.frz o u)->H' b=some (.frz o u)
 Cn:∀b ps,H b=some (.DR ps)->∃more,H' b=some (.DR (ps++more))
section
variable {fs fs' ex ex':List Addr} {H H1 H2:Hp} {h h1 h2 h':Heap} {a x e:Addr} {o:HO}
def Un.any(u:Un fs ex H H1 h h1){b:Addr}{ob:Obj}(q:h.get? b=some ob)(n:H b=none)(hx:b ∉ ex):∃sl,h1.get? b=some { ob with slots:=sl }:=by
 by_cases hb:b∈fs
 ·exact u.slot b ob q n hb hx
 ·exact⟨ob.slots,u.keep b ob q n hb hx⟩
def Un.kept(k:∀b u,h.get? b=some u->h'.get? b=some u):Un fs ex H H h h':=
 ⟨fun b ob q _ _ _=>k b ob q,fun b ob q _ _ _=>⟨ob.slots,k b ob q⟩,fun _ _ _ n _=>n,fun b ob q _=>⟨ob,k b ob q⟩,fun _ _ q=>q,fun _ _ _ q=>q,fun _ ps q=>⟨#[],by rw[q];simp⟩⟩
def Un.refl:Un fs ex H H h h:=Un.kept fun _ _ q=>q
def Un.laid(k:∀b u,h.get? b=some u->h'.get? b=some u)(hp:h.objs.size<=a)(hn:H a=none):Un fs ex H (upd H a o) h h' where
 keep:=fun b u q _ _ _=>k b u q
 slot:=fun b u q _ _ _=>⟨u.slots,k b u q⟩
 free:=fun b u q n _=>by rw[av (Ii (HY (HK q) hp))];exact n
 there:=fun b u q _=>⟨u,k b u q⟩
 tups:=fun b xs q=>by rw[av (aO q hn)];exact q
 B8:=fun b u xs q=>by rw[av (aO q hn)];exact q
 Cn:=fun b ps q=>⟨#[],by rw[av (aO q hn),q];simp⟩
def Un.write(mu:v9 (H x))(he:e=x\/H e=some (.own x))(k:∀b u,b≠e->h.get? b=some u->h'.get? b=some u)(Em:∃u,h'.get? e=some u):Un fs ex H (upd H x o) h h':=by
 have hx:∀b,H b=none->b≠x:=fun b n z=>by subst z;rw[n]at mu;exact mu
 have hb:∀b,H b=none->b≠e:=fun b n z=>by
  subst z
  rcases he with r|r
  ·exact hx b n r
  ·rw[n]at r;cases r
 have hm:∀b u,H b=some u->¬v9 (some u)->b≠x:=fun b u q nm z=>by subst z;rw[q]at mu;exact nm mu
 refine⟨fun b u q n _ _=>k b u (hb b n) q,fun b u q n _ _=>⟨u.slots,k b u (hb b n) q⟩,fun b u q n _=>by rw[av (hx b n)];exact n,fun b u q _=>?_,
  fun b xs q=>by rw[av (hm b _ q fun z=>z)];exact q,fun b u xs q=>by rw[av (hm b _ q fun z=>z)];exact q,fun b ps q=>⟨#[],by rw[av (hm b _ q fun z=>z),q];simp⟩⟩
 by_cases DT:b=e
 ·subst DT;exact Em
 ·exact⟨u,k b u DT q⟩
end
noncomputable def xJ(h:Heap)(H:Hp):List Addr:=(List.range h.objs.size).filter fun a=>(H a).isSome
noncomputable def kc(h:Heap)(H:Hp):Heap:=PySem.W.hideAll h (xJ h H)
def nE(h:Heap)(H:Hp):(kc h H).objs.size=h.objs.size:=PySem.W.hideAll_size _ _
def oS{h:Heap}{H:Hp}{b:Addr}{o:Obj}(e:h.get? b=some o)(n:H b=none):(kc h H).get? b=some o:=
 PySem.W.hideAll_get _ e fun hm=>by
  have q:(H b).isSome=true:=(K4.mp hm).2
  rw[n]at q;simp at q
def rh{h:Heap}{H:Hp}{b:Addr}{o:Obj}(e:(kc h H).get? b=some o):h.get? b=some o/\H b=none:=by
 have e':h.get? b=some o:=PySem.W.of_hideAll (xJ h H) e
 refine⟨e',?_⟩
 cases q:H b with
 |none=>rfl
 |some x=>
  have hm:b∈xJ h H:=K4.mpr ⟨J6.mpr (HK e'),by simp[q]⟩
  have z:(kc h H).get? b=none:=PySem.W.hideAll_none (xJ h H) hm
  rw[z]at e;cases e
structure Mod (K:Vo) (mg:Vr) (base:Heap):Prop where
 Fe:K.In base
 glob:base.Ns mainGlobals mg
 blt:∃mb,base.Ns builtinsNs mb/\∀x:Str,x ≠ "__name__"->mb x=bootBuiltins x
 nolimit:base.NoLimit
structure Cx where
 prog:Program
 w:World
 K:Vo
 mg:Vr
 base:Heap
 A:Around
 N:List Str
 s₀:Shared
 H₀:Hp
 env:Env
 outer:List Env
 stack:List Env
 ex:List Addr
 fn:Str->Bool
 calm:Bool
 pn:Va
 xe:Value->Shared->Prop
noncomputable def frs(l:List Env):List Addr:=l.filterMap (·.frame)
noncomputable abbrev Cx.fs(X:Cx):List Addr:=frs X.outer
def xK(sc:Scope)(x:Str):Prop:=sc.names.lookup x=some .local\/sc.names.lookup x=some .cell\/sc.names.lookup x=some .free
def tG(sc:Scope)(x:Str):Prop:=sc.names.lookup x=some .local\/sc.names.lookup x=some .cell
def xZ(env:Env)(h:Heap)(m:Vr)(x:Str)(u:Value):Prop:=
 (env.kindOf x=some .local/\m x=some u)\/((env.kindOf x=some .cell\/env.kindOf x=some .free)/\∃c,env.cells.lookup x=some c/\h.IsCell c (some u))
structure Cx.Ok (X:Cx):Prop where
 mod:Mod X.K X.mg X.base
 kind:X.env.scope.kind = .function
 glob:X.env.globals=mainGlobals
 blt:X.env.builtins=builtinsNs
 above:X.s₀.heap.objs.size<=X.env.locals
 inj:∀x y c,X.env.cells.lookup x=some c->X.env.cells.lookup y=some c->x=y
 has:∀x,(X.env.kindOf x=some .cell\/X.env.kindOf x=some .free)->∃c,X.env.cells.lookup x=some c
 En:∀x c,X.fn x=true->X.env.cells.lookup x=some c->X.s₀.heap.objs.size<=c
 hd:X.calm=true->X.A.handled=none
 frames:X.A.frames=some X.stack
 stk:X.stack=X.outer\/(X.stack=X.env::X.outer/\X.env.frame=some X.env.locals)
 Ff:∀b∈X.ex,b≠X.env.locals/\∀x c,X.env.cells.lookup x=some c->c≠b
 bs:∀b o,X.base.get? b=some o->X.s₀.heap.get? b=some o/\X.H₀ b=none
 Du:X.base.objs.size<=X.s₀.heap.objs.size
 CT:∀b o,X.base.get? b=some o->b ∉ X.ex
 C8:∀b∈X.ex,b ∉ X.fs
 BM:X.s₀.heap.FunFrames X.base X.outer
 DU:∀b∈X.fs,X.H₀ b=none
structure Inv (X:Cx) (pins:Va) (σ:List (Option V)) (H:Hp) (s:Shared):Prop where
 ok:X.Ok
 os:s.os=X.s₀.os
 bare:AllBare s.gens
 base:Un X.fs X.ex X.H₀ H X.s₀.heap s.heap
 loc:∃m,s.heap.Ns X.env.locals m/\∀(i:Nat) (x:Str) (v:V),X.N[i]?=some x->σ[i]?=some (some v)->xK X.env.scope x->∃u,RelV v u/\xZ X.env s.heap m x u
 cell:∀x c,X.env.cells.lookup x=some c->∃v,s.heap.IsCell c v
 free:H X.env.locals=none
 Be:∀x c,X.env.cells.lookup x=some c->H c=none
 pin:∀p∈X.pn++pins,s.heap.get? p.1=some p.2/\H p.1=none/\p.1≠X.env.locals/\p.1 ∉ X.fs/\∀v,p.2.data ≠ .cell v
 hok:Bm X.prog X.w H s.heap
 len:σ.length=X.N.length
section
variable {X:Cx} {pins:Va} {σ:List (Option V)} {H H':Hp} {s:Shared} {h':Heap}
def Cx.Ok.Fg(ok:X.Ok){b:Addr}{o:Obj}(e:X.base.get? b=some o):b ∉ X.fs:=fun hb=>by
 have:=(ok.BM.mem hb).1
 rw[e]at this;cases this
theorem Inv.bs(I:Inv X pins σ H s):∀b o,X.base.get? b=some o->s.heap.get? b=some o/\H b=none:=fun b o e=>
 ⟨I.base.keep b o (I.ok.bs b o e).1 (I.ok.bs b o e).2 (I.ok.Fg e) (I.ok.CT b o e),I.base.free b o (I.ok.bs b o e).1 (I.ok.bs b o e).2 (I.ok.CT b o e)⟩
def Inv.bk(I:Inv X pins σ H s):∀b o,X.base.get? b=some o->s.heap.get? b=some o:=fun b o e=>(I.bs b o e).1
theorem Inv.mod(I:Inv X pins σ H s):Mod X.K X.mg X.base:=I.ok.mod
def Inv.C9(I:Inv X pins σ H s):X.K.In s.heap:=I.ok.mod.Fe.keeps I.bk
theorem Inv.lt(I:Inv X pins σ H s):X.env.locals < s.heap.objs.size:=let ⟨_,hn,_⟩:=I.loc;hn.lt
def Inv.sz(I:Inv X pins σ H s):X.s₀.heap.objs.size<=s.heap.objs.size:=HX I.ok.above (KC I.lt)
def Inv.Eu(I:Inv X pins σ H s){a:Addr}(h:s.heap.objs.size<=a):a ∉ X.fs:=fun hb=>by
 obtain⟨_,o,ho,_⟩:=I.ok.BM.mem hb
 exact absurd (HY (HK ho) (HX I.sz h)) (Jo _)
def Inv.DV(I:Inv X pins σ H s):∀x c,X.env.cells.lookup x=some c->c≠X.env.locals:=fun x c e z=>by
 obtain⟨v,o,ho,hd⟩:=I.cell x c e
 obtain⟨m,⟨o',es,ep,ho',hd',_⟩,_⟩:=I.loc
 rw[z,ho']at ho;cases ho;rw[hd']at hd;cases hd
theorem Inv.BM(I:Inv X pins σ H s):s.heap.FunFrames X.base X.outer:=by
 have all:∀(l:List Env),(∀b∈frs l,b∈X.fs)->X.s₀.heap.FunFrames X.base l->s.heap.FunFrames X.base l:=by
  intro l
  induction l with
  |nil=>intro _ _;trivial
  |cons env r ih=>
   intro hs hl
   obtain⟨hk,⟨L,o,hf,hn,ho,hd⟩,hr⟩:=hl
   have hL:L∈X.fs:=hs L (by unfold frs;rw[La,hf];exact Ja)
   obtain⟨sl,e⟩:=I.base.slot L o ho (I.ok.DU L hL) hL fun z=>I.ok.C8 L z hL
   exact⟨hk,⟨L,_,hf,hn,e,hd⟩,ih (fun b hb=>hs b (by unfold frs;rw[La,hf];exact Jd _ hb)) hr⟩
 exact all X.outer (fun _ hb=>hb) I.ok.BM
theorem Inv.stack(I:Inv X pins σ H s):s.heap.FunFrames X.base X.stack:=by
 rcases I.ok.stk with e|⟨e,hf⟩
 ·rw[e];exact I.BM
 ·rw[e]
  obtain⟨m,hn,_⟩:=I.loc
  refine .cons (by rw[I.ok.kind];decide) hf hn ?_ I.BM
  exact Heap.get?_none_of_le (HX I.ok.Du I.ok.above)
def Inv.BB(I:Inv X pins σ H s):∀b∈frs X.stack,b∈X.env.locals::X.fs:=fun b hb=>by
 rcases I.ok.stk with e|⟨e,hf⟩
 ·rw[e]at hb;exact Jd _ hb
 ·rw[e]at hb
  unfold frs at hb
  rw[La,hf]at hb
  exact hb
def Inv.CK(I:Inv X pins σ H s):∀b∈frs X.stack,H b=none:=fun b hb=>by
 rcases HL.mp (I.BB b hb)with e|hb
 ·rw[e];exact I.free
 ·obtain⟨_,o,ho,_⟩:=I.ok.BM.mem hb
  exact I.base.free b o ho (I.ok.DU b hb) fun z=>I.ok.C8 b z hb
def Inv.step{g':Array GenState}{t':Nat}{d':Drawn}{ch:List Addr}(I:Inv X pins σ H s)
  (hch:∀b∈ch,(b∈X.ex\/X.s₀.heap.objs.size<=b)/\b≠X.env.locals/\(∀x c,X.env.cells.lookup x=some c->c≠b)/\∀p∈X.pn++pins,p.1≠b)
  (keep:∀b o,b≠X.env.locals->b ∉ X.fs->b ∉ ch->s.heap.get? b=some o->H b=none->h'.get? b=some o)
  (slot:∀b o,b≠X.env.locals->b∈X.fs->b ∉ ch->s.heap.get? b=some o->H b=none->∃sl,h'.get? b=some { o with slots:=sl }) (free:∀b o,b ∉ ch->s.heap.get? b=some o->H b=none->H' b=none)
  (there:∀b o,b ∉ ch->s.heap.get? b=some o->∃o',h'.get? b=some o')
  (tups:∀b xs,H b=some (.tup xs)->H' b=some (.tup xs)) (B8:∀b o u,H b=some (.frz o u)->H' b=some (.frz o u)) (Cn:∀b ps,H b=some (.DR ps)->∃more,H' b=some (.DR (ps++more)))
  (ns:∀m,s.heap.Ns X.env.locals m->h'.Ns X.env.locals m) (hok:Bm X.prog X.w H' h') (hg:AllBare g') :
  Inv X pins σ H' { s with heap:=h',gens:=g',drawn:=d',toks:=t' }:=by
 have F9:∀b o,X.s₀.heap.get? b=some o->b≠X.env.locals:=fun b o e=>Ii (HY (HK e) I.ok.above)
 have EN:∀b o,X.s₀.heap.get? b=some o->b ∉ X.ex->b ∉ ch:=fun b o e hx hb=>by
  rcases(hch b hb).1 with z|z
  ·exact hx z
  ·exact absurd (HY (HK e) z) (Jo _)
 have cellK:∀x c,X.env.cells.lookup x=some c->∀v,s.heap.IsCell c v->h'.IsCell c v:=fun x c e v ⟨o,ho,hd⟩=>by
  have Ev:c ∉ ch:=fun z=>(hch c z).2.2.1 x c e rfl
  by_cases hc:c∈X.fs
  ·obtain⟨sl,q⟩:=slot c o (I.DV x c e) hc Ev ho (I.Be x c e)
   exact⟨_,q,hd⟩
  ·exact⟨o,keep c o (I.DV x c e) hc Ev ho (I.Be x c e),hd⟩
 refine⟨I.ok,I.os,hg,⟨fun b o e n hb hx=>?_,fun b o e n hb hx=>?_,fun b o e n hx=>?_,fun b o e hx=>?_,fun b xs e=>tups b xs (I.base.tups b xs e),fun b o xs e=>B8 b o xs (I.base.B8 b o xs e),fun b ps e=>?_⟩,?_,fun x c e=>?_,?_,fun x c e=>?_,fun p hp=>?_,hok,I.len⟩
 ·exact keep b o (F9 b o e) hb (EN b o e hx) (I.base.keep b o e n hb hx) (I.base.free b o e n hx)
 ·obtain⟨sl,e1⟩:=I.base.slot b o e n hb hx
  obtain⟨sl',e2⟩:=slot b _ (F9 b o e) hb (EN b o e hx) e1 (I.base.free b o e n hx)
  exact⟨sl',e2⟩
 ·obtain⟨o',e1⟩:=I.base.there b o e hx
  exact free b o' (EN b o e hx) e1 (I.base.free b o e n hx)
 ·obtain⟨o',e1⟩:=I.base.there b o e hx
  exact there b o' (EN b o e hx) e1
 ·obtain⟨m1,e1⟩:=I.base.Cn b ps e
  obtain⟨m2,e2⟩:=Cn b _ e1
  exact⟨m1++m2,by rw[e2,Array.append_assoc]⟩
 ·obtain⟨m,hn,hl⟩:=I.loc
  refine⟨m,ns m hn,fun i x v e1 e2 e3=>?_⟩
  obtain⟨u,r,l⟩:=hl i x v e1 e2 e3
  refine⟨u,r,?_⟩
  rcases l with l|⟨k,c,e,z⟩
  ·exact .inl l
  ·exact .inr ⟨k,c,e,cellK x c e _ z⟩
 ·obtain⟨v,z⟩:=I.cell x c e
  exact⟨v,cellK x c e v z⟩
 ·obtain⟨m,⟨o,_,_,ho,_⟩,_⟩:=I.loc
  exact free _ o (fun z=>(hch _ z).2.1 rfl) ho I.free
 ·obtain⟨v,o,ho,hd⟩:=I.cell x c e
  exact free c o (fun z=>(hch c z).2.2.1 x c e rfl) ho (I.Be x c e)
 ·obtain⟨e,n,ne,nf,d⟩:=I.pin p hp
  have Ev:p.1 ∉ ch:=fun z=>(hch p.1 z).2.2.2 p hp rfl
  exact⟨keep p.1 p.2 ne nf Ev e n,free p.1 p.2 Ev e n,ne,nf,d⟩
def Inv.un{t':Nat}(I:Inv X pins σ H s)(u:Un X.fs [] H H' s.heap h')(hok:Bm X.prog X.w H' h'):Inv X pins σ H' { s with heap:=h',toks:=t' }:=by
 obtain⟨m,⟨o,es,ep,ho,r⟩,_⟩:=id I.loc
 obtain⟨sl,hL⟩:=u.any ho I.free (by simp)
 exact I.step (g':=s.gens) (d':=s.drawn) (ch:=[]) (fun _ z=>nomatch z) (fun b o _ hb _ e n=>u.keep b o e n hb (by simp)) (fun b o _ hb _ e n=>u.slot b o e n hb (by simp)) (fun b o _ e n=>u.free b o e n (by simp)) (fun b o _ e=>u.there b o e (by simp)) u.tups u.B8 u.Cn (fun m' hm=>by
  obtain⟨o',es',Fh,ho',r'⟩:=hm
  rw[ho]at ho';cases ho'
  exact⟨_,es',Fh,hL,r'⟩) hok I.bare
def Inv.call{g':Array GenState}{t':Nat}{d':Drawn}{ch:List Addr}(I:Inv X pins σ H s)(u:Un (frs X.stack) ch H H' s.heap h')(hok:Bm X.prog X.w H' h')(hg:AllBare g')
  (hch:∀b∈ch,(b∈X.ex\/X.s₀.heap.objs.size<=b)/\b≠X.env.locals/\(∀x c,X.env.cells.lookup x=some c->c≠b)/\∀p∈X.pn++pins,p.1≠b) :
  Inv X pins σ H' { s with heap:=h',gens:=g',drawn:=d',toks:=t' }:=by
 obtain⟨m,⟨o,es,ep,ho,r⟩,_⟩:=id I.loc
 obtain⟨sl,hL⟩:=u.any ho I.free fun z=>(hch _ z).2.1 rfl
 exact I.step (ch:=ch) hch (fun b o hL hb hc e n=>u.keep b o e n (fun z=>(HL.mp (I.BB b z)).elim hL hb) hc) (fun b o _ _ hc e n=>u.any e n hc) (fun b o hc e n=>u.free b o e n hc) (fun b o hc e=>u.there b o e hc) u.tups u.B8 u.Cn (fun m' hm=>by
  obtain⟨o',es',Fh,ho',r'⟩:=hm
  rw[ho]at ho';cases ho'
  exact⟨_,es',Fh,hL,r'⟩) hok hg
def Inv.turned{t':Nat}{it:Addr}(I:Inv X pins σ H s)(k:∀b o,b≠it->s.heap.get? b=some o->h'.get? b=some o)(hn:H it=none)(hL:it≠X.env.locals)
  (h1:it∈X.ex\/X.s₀.heap.objs.size<=it) (h2:∀x c,X.env.cells.lookup x=some c->c≠it) (h3:∀p∈X.pn++pins,p.1≠it):Inv X pins σ H { s with heap:=h',toks:=t' }:=by
 have Ew:∀b u,H b=some u->b≠it:=fun b u e z=>by rw[z,hn]at e;cases e
 refine I.step (g':=s.gens) (d':=s.drawn) (ch:=[it]) (fun b hb=>?_) (fun b o _ _ hc e _=>k b o (fun z=>hc (by simp[z])) e) (fun b o _ _ hc e _=>⟨o.slots,k b o (fun z=>hc (by simp[z])) e⟩) (fun _ _ _ _ n=>n)
  (fun b o hc e=>⟨o,k b o (fun z=>hc (by simp[z])) e⟩) (fun _ _ e=>e) (fun _ _ _ e=>e) (fun b ps e=>⟨#[],by rw[e];simp⟩) (fun m hm=>?_) (fun b u e=>?_) I.bare
 ·have e:b=it:=by simpa using hb
  subst e
  exact⟨h1,hL,h2,h3⟩
 ·obtain⟨o,es,ep,ho,r⟩:=hm
  exact⟨o,es,ep,k _ o (JE hL) ho,r⟩
 ·refine(I.hok b u e).stay (fun c v hc q=>k c v ?_ q) (fun _ q=>q) fun _ _ q=>q
  rcases hc with z|z
  ·rw[z];exact Ew b u e
  ·exact Ew c _ z
def Inv.tok(I:Inv X pins σ H s)(t:Nat):Inv X pins σ H { s with toks:=t }:=I.un (h':=s.heap) (t':=t) Un.refl I.hok
theorem Inv.kept{t':Nat}(I:Inv X pins σ H s)(k:∀b u,s.heap.get? b=some u->h'.get? b=some u):Inv X pins σ H { s with heap:=h',toks:=t' }:=I.un (Un.kept k) (I.hok.kept k)
theorem Inv.laid{a:Addr}{o:HO}{t':Nat}(I:Inv X pins σ H s)(k:∀b u,s.heap.get? b=some u->h'.get? b=some u)(hp:s.heap.objs.size<=a)(new:Ac X.prog X.w (upd H a o) h' a o) :
  Inv X pins σ (upd H a o) { s with heap:=h',toks:=t' }:=I.un (Un.laid k hp (I.hok.fresh hp)) (I.hok.laid k hp new)
theorem Inv.write{x e:Addr}{o:HO}{t':Nat}(I:Inv X pins σ H s)(mu:v9 (H x))(he:e=x\/H e=some (.own x))(k:∀b u,b≠e->s.heap.get? b=some u->h'.get? b=some u)(Em:∃u,h'.get? e=some u)
  (new:Ac X.prog X.w (upd H x o) h' x o):Inv X pins σ (upd H x o) { s with heap:=h',toks:=t' }:=I.un (Un.write mu he k Em) (I.hok.write mu he k Em new)
def Inv.weak{σ':List (Option V)}(I:Inv X pins σ H s)(hl:σ'.length=σ.length)(w:∀(i:Nat) v,σ'[i]?=some (some v)->σ[i]?=some (some v)):Inv X pins σ' H s:=
 ⟨I.ok,I.os,I.bare,I.base,let ⟨m,hn,hl'⟩:=I.loc;⟨m,hn,fun i x v e1 e2 e3=>hl' i x v e1 (w i v e2) e3⟩,I.cell,I.free,I.Be,I.pin,I.hok,hl.trans I.len⟩
def Inv.BP{DG:Va}(I:Inv X pins σ H s)(h:∀p∈DG,s.heap.get? p.1=some p.2/\H p.1=none/\p.1≠X.env.locals/\p.1 ∉ X.fs/\∀v,p.2.data ≠ .cell v):Inv X DG σ H s:=
 ⟨I.ok,I.os,I.bare,I.base,I.loc,I.cell,I.free,I.Be,fun p hp=>(HN.mp hp).elim (fun z=>I.pin p (JH _ z)) (h p),I.hok,I.len⟩
def kY{N:Vs}(hN:N.Nodup){i j:Nat}{x:Str}(a:N[i]?=some x)(b:N[j]?=some x):i=j:=by
 obtain⟨h1,e1⟩:=Ih.mp a
 obtain⟨h2,e2⟩:=Ih.mp b
 exact(List.getElem_inj hN).mp (e1.trans e2.symm)
def jI {M : Model} {A : Around} {E : Value -> Shared -> Prop} {i : Nat} {x : Str} {v : V} {u : Value} {Q : Unit -> Shared -> Prop} (I : Inv X pins σ H s) (hN : X.N.Nodup) (hi : X.N[i]? = some x) (hx : tG X.env.scope x) (r : RelV v u)
  (h : ∀ s', Inv X pins (σ.set i (some v)) H s' -> (∃ a, Heap.SameBut a s.heap s'.heap /\ (a = X.env.locals \/ X.env.cells.lookup x = some a)) -> Q () s') (hf : X.fn x = true \/ X.env.scope.names.lookup x = some .local := by first | exact .inl rfl | exact .inr rfl | assumption) : wpAny M A (storeName X.env x u) Q E s := by
 obtain ⟨m, hn, hl⟩ := id I.loc
 have hcls : (X.env.scope.kind == .class || (X.env.scope.kind == .module && X.env.locals != X.env.globals)) = false := by rw [I.ok.kind]; rfl
 have F_ : i < σ.length := by rw [I.len]; exact (Ih.mp hi).1
 have DV := I.DV
 have tracked : ∀ {a : Addr} {h' : Heap}, (∃ o, s.heap.get? a = some o /\ H a = none) -> Heap.SameBut a s.heap h' -> Bm X.prog X.w H h' := fun {a h'} ha hs b ob e => by
  obtain ⟨_, _, hfree⟩ := ha
  refine (I.hok b ob e).stay (fun c w' hc q => (hs.2 c ?_).trans q) (fun _ q => q) fun _ _ q => q
  rintro rfl
  rcases hc with rfl | hc
  ·rw [hfree] at e; cases e
  ·rw [hfree] at hc; cases hc
 rcases hx with hk | hk
 ·refine wpAny_storeName_local hk hn (fun h' hn' hs => ?_) hcls
  obtain ⟨oL, _, _, GR, _⟩ := id hn
  refine h _ ⟨I.ok, I.os, I.bare, ⟨fun b o e n hb hx => ?_, fun b o e n hb hx => ?_, I.base.free, fun b o e hx => ?_, I.base.tups, I.base.B8, I.base.Cn⟩, ⟨_, hn', fun j y v' e1 e2 e3 => ?_⟩, fun y c e => ?_, I.free, I.Be, fun p hp => ?_, tracked ⟨oL, GR, I.free⟩ hs, by simpa using I.len⟩ ⟨_, hs, .inl rfl⟩
  ·exact (hs.2 b (Ii (HY (HK e) I.ok.above))).trans (I.base.keep b o e n hb hx)
  ·obtain ⟨sl, e1⟩ := I.base.slot b o e n hb hx
   exact ⟨sl, (hs.2 b (Ii (HY (HK e) I.ok.above))).trans e1⟩
  ·obtain ⟨o', e1⟩ := I.base.there b o e hx
   exact ⟨o', (hs.2 b (Ii (HY (HK e) I.ok.above))).trans e1⟩
  ·by_cases hj : j = i
   ·subst hj
    rw [hi] at e1; cases e1
    rw [List.getElem?_set_self F_] at e2
    cases e2
    exact ⟨u, r, .inl ⟨hk, by simp⟩⟩
   ·rw [List.getElem?_set_ne (JE hj)] at e2
    obtain ⟨u', r', q⟩ := hl j y v' e1 e2 e3
    refine ⟨u', r', ?_⟩
    rcases q with ⟨k, e⟩ | ⟨k, c, e, z⟩
    ·refine .inl ⟨k, ?_⟩
     have : y ≠ x := fun e => hj (kY hN e1 (e ▸ hi))
     simp [this, e]
    ·exact .inr ⟨k, c, e, z.sameBut hs (DV y c e)⟩
  ·obtain ⟨w', z⟩ := I.cell y c e
   exact ⟨w', z.sameBut hs (DV y c e)⟩
  ·obtain ⟨e, n, ne, nf, d⟩ := I.pin p hp
   exact ⟨(hs.2 p.1 ne).trans e, n, ne, nf, d⟩
 ·have hfn : X.fn x = true := by
   rcases hf with z | z
   ·exact z
   ·rw [z] at hk; cases hk
  obtain ⟨c, hc⟩ := I.ok.has x (.inl hk)
  obtain ⟨w', z⟩ := I.cell x c hc
  refine wpAny_storeName_cell I.ok.kind hk hc z (fun h' hc' hs => ?_)
  obtain ⟨oc, hoc, Fi⟩ := id z
  refine h { s with heap := h' } ⟨I.ok, I.os, I.bare, ⟨fun b o e n hb hx => ?_, fun b o e n hb hx => ?_, I.base.free, fun b o e hx => ?_, I.base.tups, I.base.B8, I.base.Cn⟩, ⟨m, hn.sameBut hs (JE (DV x c hc)), fun j y v' e1 e2 e3 => ?_⟩, fun y c' e => ?_, I.free, I.Be, fun p hp => ?_, tracked ⟨oc, hoc, I.Be x c hc⟩ hs, by simpa using I.len⟩ ⟨c, hs, .inr hc⟩
  ·exact (hs.2 b (Ii (HY (HK e) (I.ok.En x c hfn hc)))).trans (I.base.keep b o e n hb hx)
  ·obtain ⟨sl, e1⟩ := I.base.slot b o e n hb hx
   exact ⟨sl, (hs.2 b (Ii (HY (HK e) (I.ok.En x c hfn hc)))).trans e1⟩
  ·obtain ⟨o', e1⟩ := I.base.there b o e hx
   exact ⟨o', (hs.2 b (Ii (HY (HK e) (I.ok.En x c hfn hc)))).trans e1⟩
  ·by_cases hj : j = i
   ·subst hj
    rw [hi] at e1; cases e1
    rw [List.getElem?_set_self F_] at e2
    cases e2
    exact ⟨u, r, .inr ⟨.inl hk, c, hc, hc'⟩⟩
   ·rw [List.getElem?_set_ne (JE hj)] at e2
    obtain ⟨u', r', q⟩ := hl j y v' e1 e2 e3
    refine ⟨u', r', ?_⟩
    rcases q with q | ⟨k, c', e, z'⟩
    ·exact .inl q
    ·refine .inr ⟨k, c', e, z'.sameBut hs ?_⟩
     rintro rfl
     exact hj (kY hN e1 (I.ok.inj _ _ _ e hc ▸ hi))
  ·by_cases hcc : c' = c
   ·subst hcc; exact ⟨_, hc'⟩
   ·obtain ⟨w2, z2⟩ := I.cell y c' e
    exact ⟨w2, z2.sameBut hs hcc⟩
  ·obtain ⟨e, n, ne, nf, d⟩ := I.pin p hp
   refine ⟨(hs.2 p.1 ?_).trans e, n, ne, nf, d⟩
   intro q
   rw [q, hoc] at e
   have q' : oc = p.2 := IL e
   exact d w' (by rw [<- q']; exact Fi)
def cI{M:Model}{A:Around}{E:Vq}{i:Nat}{x:Str}{v:V}{u:Value}{Q:Unit->Shared->Prop}(I:Inv X pins σ H s)(hN:X.N.Nodup)(hi:X.N[i]?=some x)(hx:tG X.env.scope x)(r:RelV v u)
  (h:∀s',Inv X pins (σ.set i (some v)) H s'->Q () s') (hf:X.fn x=true\/X.env.scope.names.lookup x=some .local:=by first|exact .inl rfl|exact .inr rfl|assumption):wpAny M A (storeName X.env x u) Q E s:=
 jI I hN hi hx r (fun s' I' _=>h s' I') hf
def Inv.Ex{s':Shared}{ch:List Addr}(I:Inv X pins σ H s)(ho:s'.os=s.os)(u:Un (frs X.stack) ch H H' s.heap s'.heap)(hok:Bm X.prog X.w H' s'.heap)(hg:AllBare s'.gens)
  (hch:∀b∈ch,(b∈X.ex\/X.s₀.heap.objs.size<=b)/\b≠X.env.locals/\(∀x c,X.env.cells.lookup x=some c->c≠b)/\∀p∈X.pn++pins,p.1≠b):Inv X pins σ H' s':=by
 obtain⟨h',g',d',t',o'⟩:=s'
 have e:o'=s.os:=ho
 subst e
 exact I.call (g':=g') (t':=t') (d':=d') u hok hg hch
end
abbrev XK:=Value->Option Addr->Hp->Prop
abbrev St:=List (Option V)
abbrev VK:=V->Hp->Prop
abbrev TE:=St->Hp->VK->Prop
abbrev TT:=St->Hp->(Bool->Hp->Prop)->Prop
abbrev TA:=St->Hp->(List V->Hp->Prop)->Prop
structure lR where
 nx:St->Hp->Prop
 rt:VK
 bk:St->Hp->Prop:=fun _ _=>False
 ct:St->Hp->Prop:=fun _ _=>False
abbrev TS:=lR->St->Hp->Prop
def EP(X:Cx)(pins:Va)(σ:St)(Q:VK)(u:Value)(s':Shared):Prop:=∃v H',Inv X pins σ H' s'/\RelV v u/\Q v H'
def TP(X:Cx)(pins:Va)(σ:St)(Q:Bool->Hp->Prop)(b:Bool)(s':Shared):Prop:=∃H',Inv X pins σ H' s'/\Q b H'
def AP(X:Cx)(pins:Va)(σ:St)(Q:List V->Hp->Prop)(us:Vv)(s':Shared):Prop:=∃vs H',Inv X pins σ H' s'/\Vals vs us/\Q vs H'
def SP(X:Cx)(pins:Va)(D:lR)(f:Flow)(s':Shared):Prop:=
 match f with
 | .next=>∃σ' H',Inv X pins σ' H' s'/\D.nx σ' H'
 | .brk=>∃σ' H',Inv X pins σ' H' s'/\D.bk σ' H'
 | .cont=>∃σ' H',Inv X pins σ' H' s'/\D.ct σ' H'
 | .ret u=>∃v σ' H',Inv X pins σ' H' s'/\RelV v u/\D.rt v H'
def PE(X:Cx)(e:Expr)(t:TE):Prop:=
 ∀(pins:Va) (s:Shared) (σ:St) (H:Hp) (Q:VK),Inv X pins σ H s->t σ H Q->wpAny (model X.prog X.w) X.A (eval e X.env) (EP X pins σ Q) X.xe s
def PT(X:Cx)(e:Expr)(t:TT):Prop:=
 ∀(pins:Va) (s:Shared) (σ:St) (H:Hp) (Q:Bool->Hp->Prop),Inv X pins σ H s->t σ H Q->wpAny (model X.prog X.w) X.A (isTrue e X.env (eval e X.env)) (TP X pins σ Q) X.xe s
def PW(X:Cx)(e:Expr)(t:TT):Prop:=
 ∀(whole:Sem Value) (pins:Va) (s:Shared) (σ:St) (H:Hp) (Q:Bool->Hp->Prop),Inv X pins σ H s->t σ H Q->wpAny (model X.prog X.w) X.A (isTrue e X.env whole) (TP X pins σ Q) X.xe s
def PW.pt{X:Cx}{e:Expr}{t:TT}(h:PW X e t):PT X e t:=h _
def PA(X:Cx)(es:List Expr)(t:TA):Prop:=
 ∀(pos:Pos) (pins:Va) (s:Shared) (σ:St) (H:Hp) (Q:List V->Hp->Prop),Inv X pins σ H s->t σ H Q->wpAny (model X.prog X.w) X.A (spliced (backTo pos (starEach es X.env))) (AP X pins σ Q) X.xe s
def PS(X:Cx)(st:Stmt)(t:TS):Prop:=
 ∀(pins:Va) (s:Shared) (σ:St) (H:Hp) (D:lR),Inv X pins σ H s->t D σ H->wpAny (model X.prog X.w) X.A (exec st X.env) (SP X pins D) X.xe s
def Co(X:Cx)(st:List Stmt)(t:TS):Prop:=
 ∀(pins:Va) (s:Shared) (σ:St) (H:Hp) (D:lR),Inv X pins σ H s->t D σ H->wpAny (model X.prog X.w) X.A (execs st X.env) (SP X pins D) X.xe s
def zP{α:Type}{t:Sem α}{Q Q':α->Shared->Prop}{M:Model}{A:Around}{E:Vq}{s:Shared}(h:wpAny M A t Q E s)(hQ:∀a s,Q a s->Q' a s):wpAny M A t Q' E s:=JR h hQ fun _ _ x=>x
section
variable {X:Cx}
def x_(i:Nat):TE:=fun σ H Q=>∃v,σ[i]?=some (some v)/\Q v H
def tC(v:V):TE:=fun _ H Q=>Q v H
def t_{i:Nat}{x:Str}{pos:Pos}(hN:X.N[i]?=some x)(hv:xK X.env.scope x)(hd:(x == ("__debug__":Str))=false:=by decide)(hcd:(x == ("__classdict__":Str))=false:=by decide):PE X (.Name x pos) (x_ i):=by
 intro pins s σ H Q I h
 obtain⟨v,e,h⟩:=h
 obtain⟨m,hn,hl⟩:=I.loc
 obtain⟨u,r,l⟩:=hl i x v hN e hv
 have fin:EP X pins σ Q u s:=⟨v,H,I,r,h⟩
 rcases l with⟨hk,hm⟩|⟨hk,c,hc,hcell⟩
 ·exact wpAny_Name (wpAny_loadName_local I.ok.kind hk hn hm fin) hd
 ·rcases hk with hk|hk
  ·exact wpAny_Name (wpAny_loadName_cell I.ok.kind hk hc hcell fin) hd
  ·exact wpAny_Name (wpAny_loadName_free I.ok.kind hk hc hcell fin hcd) hd
def ua{i j pos}:PE X (.Constant (.int i) j pos) (tC (.int i)):=fun _ _ _ H _ I h=>wpAny_Constant_int ⟨.int i,H,I.tok _,⟨_,rfl⟩,h⟩
def v_{b j pos}:PE X (.Constant (.bool b) j pos) (tC (.bl b)):=fun _ _ _ H _ I h=>Constant_bool ⟨.bl b,H,I,rfl,h⟩
def ub{j pos}:PE X (.Constant .none j pos) (tC .non):=fun _ _ _ H _ I h=>Constant_none ⟨.non,H,I,rfl,h⟩
def uc{x j pos}:PE X (.Constant (.str x) j pos) (tC (.str x)):=fun _ _ _ H _ I h=>Calls.Constant_str ⟨.str x,H,I.tok _,⟨_,rfl⟩,h⟩
def Gl(X:Cx)(x:Str):Prop:=X.env.kindOf x=some .globalImplicit
def mK{E:Vq}{pins:Va}{s:Shared}{σ:St}{H:Hp}{x:Str}{u:Value}{pos:Pos}{Q:Vq}(I:Inv X pins σ H s)(hg:Gl X x)(hm:X.mg x=some u)(h:Q u s)
  (hd:(x == ("__debug__":Str))=false:=by decide):wpAny (model X.prog X.w) X.A (eval (.Name x pos) X.env) Q E s:=
 Calls.Name_function_global I.ok.kind hg (Calls.loadGlobal_global (by rw[I.ok.glob];exact I.mod.glob.keeps I.bk) hm h) hd
def df{E:Vq}{pins:Va}{s:Shared}{σ:St}{H:Hp}{x:Str}{u:Value}{pos:Pos}{Q:Vq}(I:Inv X pins σ H s)(hg:Gl X x)(hm:X.mg x=none)(hv:bootBuiltins x=some u)(h:Q u s)
  (hn:x ≠ "__name__":=by decide) (hd:(x == ("__debug__":Str))=false:=by decide):wpAny (model X.prog X.w) X.A (eval (.Name x pos) X.env) Q E s:=by
 obtain⟨mb,h1,h2⟩:=I.mod.blt
 exact Calls.Name_function_global I.ok.kind hg (Calls.loadGlobal_builtin (by rw[I.ok.glob];exact I.mod.glob.keeps I.bk) hm (by rw[I.ok.blt];exact h1.keeps I.bk) ((h2 x hn).trans hv) h) hd
def rj{x:Str}{v:V}{u:Value}{pos:Pos}(hg:Gl X x)(hm:X.mg x=none)(hv:bootBuiltins x=some u)(r:RelV v u)(hn:x ≠ "__name__":=by decide)(hd:(x == ("__debug__":Str))=false:=by decide):PE X (.Name x pos) (tC v):=
 fun _ _ _ H _ I h=>df I hg hm hv ⟨v,H,I,r,h⟩ hn hd
variable {a b:Expr} {ta tb:TE} {pos:Pos}
def tB(t:TE):TT:=fun σ H Q=>t σ H fun x H1=>∃c,x = .bl c/\Q c H1
def ud{e:Expr}{t:TE}(h:PE X e t)(he:∀whole,isTrue e X.env whole=(do let v <-whole;standAt e.pos;holding [v] (truthy v)):=by intro _;rfl):PT X e (tB t):=by
 intro pins s σ H Q I hw
 refine isTrue_plain (zP (h pins s σ H _ I hw) fun v s1 ⟨x,H1,I1,r1,q1⟩=>?_) (he _)
 obtain⟨d,rfl,q⟩:=q1
 cases r1
 exact J3 ⟨H1,I1,q⟩
variable {tA EO:TT} {rest:List Expr}
def ya(t u:TT):TT:=fun σ H Q=>t σ H fun c H1=>if c=true then u σ H1 Q else Q false H1
def zi(t u:TT):TT:=fun σ H Q=>t σ H fun c H1=>if c=true then Q true H1 else u σ H1 Q
def yb(t:TT):TT:=fun σ H Q=>t σ H fun c H1=>Q (!c) H1
def rm(ha:PT X a tA):PW X (.BoolOp .And [a] pos) tA:=by
 intro wh pins s σ H Q I h
 refine isTrue_and (zP (ha pins s σ H Q I h) fun c s1 e=>?_)
 cases c with
 |true=>exact isTrue_and_nil e
 |false=>exact e
def ue(ha:PT X a tA):PW X (.BoolOp .Or [a] pos) tA:=by
 intro wh pins s σ H Q I h
 refine isTrue_or (zP (ha pins s σ H Q I h) fun c s1 e=>?_)
 cases c with
 |false=>exact isTrue_or_nil e
 |true=>exact e
def uf(ha:PT X a tA)(hb:PW X (.BoolOp .And (b::rest) pos) EO):PW X (.BoolOp .And (a::b::rest) pos) (ya tA EO):=by
 intro wh pins s σ H Q I h
 refine isTrue_and (zP (ha pins s σ H _ I h) fun c s1 ⟨H1,I1,q1⟩=>?_)
 cases c with
 |true=>exact hb wh pins s1 σ H1 Q I1 q1
 |false=>exact⟨H1,I1,q1⟩
def wa(ha:PT X a tA)(hb:PW X (.BoolOp .Or (b::rest) pos) EO):PW X (.BoolOp .Or (a::b::rest) pos) (zi tA EO):=by
 intro wh pins s σ H Q I h
 refine isTrue_or (zP (ha pins s σ H _ I h) fun c s1 ⟨H1,I1,q1⟩=>?_)
 cases c with
 |true=>exact⟨H1,I1,q1⟩
 |false=>exact hb wh pins s1 σ H1 Q I1 q1
def ug(ha:PT X a tA):PT X (.UnaryOp .Not a pos) (yb tA):=by
 intro pins s σ H Q I h
 exact isTrue_not (ha pins s σ H (fun c H1=>Q (!c) H1) I h)
def wb(ta tb:TE):TE:=fun σ H Q=>ta σ H fun x H1=>∃c,x = .bl c/\if c=true then tb σ H1 Q else Q (.bl false) H1
def we(ta:TE):TE:=fun σ H Q=>ta σ H fun x H1=>∃c,x = .bl c/\Q (.bl (!c)) H1
def uh{op}{t:TE}(h:PE X a t):PE X (.BoolOp op [a] pos) t:=fun pins s σ H Q I hw=>BoolOp_one (h pins s σ H Q I hw)
def uk(ha:PE X a ta)(hb:PE X (.BoolOp .And (b::rest) pos) tb):PE X (.BoolOp .And (a::b::rest) pos) (wb ta tb):=by
 intro pins s σ H Q I h
 refine BoolOp_and (zP (ha pins s σ H _ I h) fun v s1 ⟨x,H1,I1,r1,q1⟩=>?_)
 obtain⟨c,rfl,q1⟩:=q1
 cases r1
 refine J3 ?_
 cases c with
 |true=>exact hb pins s1 σ H1 Q I1 q1
 |false=>exact⟨.bl false,H1,I1,rfl,q1⟩
def ul(ha:PE X a ta):PE X (.UnaryOp .Not a pos) (we ta):=by
 intro pins s σ H Q I h
 refine UnaryOp_ (zP (ha pins s σ H _ I h) fun v s1 ⟨x,H1,I1,r1,q1⟩=>?_)
 obtain⟨c,rfl,q1⟩:=q1
 cases r1
 exact not_of (J3 ⟨.bl (!c),H1,I1,rfl,q1⟩)
def zj(t:TT)(ta tb:TE):TE:=fun σ H Q=>t σ H fun c H1=>if c=true then ta σ H1 Q else tb σ H1 Q
def oU{c:Expr}(hc:PT X c tA)(ha:PE X a ta)(hb:PE X b tb):PE X (.IfExp c a b pos) (zj tA ta tb):=by
 intro pins s σ H Q I h
 refine wpAny_IfExp (zP (hc pins s σ H _ I h) fun d s1 ⟨H1,I1,q1⟩=>?_)
 cases d with
 |true=>exact ha pins s1 σ H1 Q I1 q1
 |false=>exact hb pins s1 σ H1 Q I1 q1
end
def SqL(K:Vo)(H:Hp)(a:Addr)(xs:List V):Prop:=
 Rd H a (.lst xs) \/
  ∃(o:Obj) (its:Vw) (n:Nat),K.lookup a=some o/\o.cls = .type "list"/\o.dict=none/\o.data = .seq its n/\its.size<=sizeLine/\Vals xs its.toList
def SqT(K:Vo)(H:Hp)(a:Addr)(xs:List V):Prop:=
 Rd H a (.tup xs) \/
  ∃(o:Obj) (its:Vw) (n:Nat),K.lookup a=some o/\o.cls = .type "tuple"/\o.dict=none/\o.data = .seq its n/\its.size<=sizeLine/\Vals xs its.toList
noncomputable def yc:Value->Option V
 | .none=>some .non
 | .bool b=>some (.bl b)
 | .int i _=>some (.int i)
 | .str x _=>some (.str x)
 | .bytes b _=>some (.C7 b)
 | .float b _=>some (.Fb b)
 | .ref a=>some (.ref a)
 | .type n=>some (.ty n)
 |_=>none
def RelV.abs{x:V}{u:Value}(r:RelV x u):yc u=some x:=by
 cases x with
 |non=>cases r;rfl
 |bl _=>cases r;rfl
 |int _=>obtain⟨t,rfl⟩:=r;rfl
 |str _=>obtain⟨t,rfl⟩:=r;rfl
 |C7 _=>obtain⟨t,rfl⟩:=r;rfl
 |Fb _=>obtain⟨t,rfl⟩:=r;rfl
 |ref _=>cases r;rfl
 |ty _=>cases r;rfl
theorem RelV.inj{x y:V}{u:Value}(r:RelV x u)(q:RelV y u):x=y:=IL (r.abs.symm.trans q.abs)
theorem Vals.inj:∀{xs ys:List V} {us:Vv},Vals xs us->Vals ys us->xs=ys
 |_,_,_,.nil,.nil=>rfl
 |_,_,_,.cons r t,.cons r' t'=>by rw[r.inj r',Vals.inj t t']
section
variable {X:Cx} {pins:Va} {σ:St} {H:Hp} {s:Shared} {a:Addr} {xs ys:List V}
def SqL.of{K:Vo}(h:H a=some (.lst xs)):SqL K H a xs:=.inl (.inl h)
def SqT.of{K:Vo}(h:H a=some (.tup xs)):SqT K H a xs:=.inl (.inl h)
def Inv.list(I:Inv X pins σ H s)(h:SqL X.K H a xs):∃its:List Value,Vals xs its/\PlainL s.heap a its.toArray/\xs.length<=sizeLine:=by
 rcases h with h|⟨o,its,n,hk,hc,hd,hs,hz,r⟩
 ·obtain⟨z,its,n,r,e⟩:=h.ok I.hok
  exact⟨its,r,⟨_,n,e,rfl,rfl,rfl⟩,z⟩
 ·refine⟨its.toList,r,⟨o,n,I.C9 a o hk,hc,hd,by simpa using hs⟩,?_⟩
  have e:=r.length
  simp only[Array.length_toList]at e
  omega
def Inv.tuple(I:Inv X pins σ H s)(h:SqT X.K H a xs):∃its:List Value,Vals xs its/\IsTup s.heap a its.toArray/\xs.length<=sizeLine:=by
 rcases h with h|⟨o,its,n,hk,hc,_,hs,hz,r⟩
 ·obtain⟨z,its,r,p⟩:=h.ok I.hok
  exact⟨its,r,p.tup,z⟩
 ·refine⟨its.toList,r,⟨o,I.C9 a o hk,hc,n,by simpa using hs⟩,?_⟩
  have e:=r.length
  simp only[Array.length_toList]at e
  omega
def Inv.BU(I:Inv X pins σ H s)(h:SqL X.K H a xs)(h':SqL X.K H a ys):xs=ys:=by
 obtain⟨its,r,⟨o,n,e,_,_,d⟩,_⟩:=I.list h
 obtain⟨its',r',⟨o',n',e',_,_,d'⟩,_⟩:=I.list h'
 rw[e]at e';cases e'
 rw[d]at d'
 injection d' with d1 _
 have:its=its':=by simpa using IP Array.toList d1
 subst this
 exact r.inj r'
def Inv.BC(I:Inv X pins σ H s)(h:SqT X.K H a xs)(h':SqT X.K H a ys):xs=ys:=by
 obtain⟨its,r,⟨o,e,_,n,d⟩,_⟩:=I.tuple h
 obtain⟨its',r',⟨o',e',_,n',d'⟩,_⟩:=I.tuple h'
 rw[e]at e';cases e'
 rw[d]at d'
 injection d' with d1 _
 have:its=its':=by simpa using IP Array.toList d1
 subst this
 exact r.inj r'
end
noncomputable abbrev Cx.wish(X:Cx)(E:Vq):Cx:={ X with xe:=E }
noncomputable abbrev Cx.DW(X:Cx):Cx:=X.wish fun _ _=>False
theorem Cx.Ok.wish{X:Cx}(ok:X.Ok)(E:Vq):(X.wish E).Ok:=
 ⟨ok.mod,ok.kind,ok.glob,ok.blt,ok.above,ok.inj,ok.has,ok.En,ok.hd,ok.frames,ok.stk,ok.Ff,ok.bs,ok.Du,ok.CT,ok.C8,ok.BM,ok.DU⟩
def Cx.Ok.Bf{X:Cx}{E:Vq}(ok:(X.wish E).Ok):X.Ok:=
 ⟨ok.mod,ok.kind,ok.glob,ok.blt,ok.above,ok.inj,ok.has,ok.En,ok.hd,ok.frames,ok.stk,ok.Ff,ok.bs,ok.Du,ok.CT,ok.C8,ok.BM,ok.DU⟩
section
variable {X:Cx} {pins:Va} {σ:St} {H:Hp} {s:Shared} {E:Vq}
theorem Inv.wish(I:Inv X pins σ H s)(E:Vq):Inv (X.wish E) pins σ H s:=⟨I.ok.wish E,I.os,I.bare,I.base,I.loc,I.cell,I.free,I.Be,I.pin,I.hok,I.len⟩
theorem Inv.Bf(I:Inv (X.wish E) pins σ H s):Inv X pins σ H s:=⟨I.ok.Bf,I.os,I.bare,I.base,I.loc,I.cell,I.free,I.Be,I.pin,I.hok,I.len⟩
theorem SP.Bf{D:lR}{f:Flow}{s':Shared}(h:SP (X.wish E) pins D f s'):SP X pins D f s':=by
 cases f with
 |next=>obtain⟨σ',H',I,q⟩:=h;exact⟨σ',H',I.Bf,q⟩
 |brk=>obtain⟨σ',H',I,q⟩:=h;exact⟨σ',H',I.Bf,q⟩
 |cont=>obtain⟨σ',H',I,q⟩:=h;exact⟨σ',H',I.Bf,q⟩
 |ret u=>obtain⟨v,σ',H',I,r,q⟩:=h;exact⟨v,σ',H',I.Bf,r,q⟩
theorem Co.DW{st:List Stmt}{t:TS}(h:Co X.DW st t):Co X st t:=fun pins s σ H D I hw=>
 JR (h pins s σ H D (I.wish _) hw) (fun _ _ q=>q.Bf) fun _ _ z=>False.elim z
end
section
variable {X:Cx} {st:Stmt} {rest:List Stmt} {t u:TS} {e:Expr} {te:TE} {pos:Pos}
def wf:TS:=fun D σ H=>D.nx σ H
def yd(t u:TS):TS:=fun D σ H=>t { D with nx:=u D } σ H
def rn:Co X [] wf:=fun _ _ σ H _ I h=>K5 ⟨σ,H,I,h⟩
def oV(h1:PS X st t)(h2:Co X rest u):Co X (st::rest) (yd t u):=by
 intro pins s σ H D I h
 refine wpAny_execs_cons (zP (h1 pins s σ H { D with nx:=u D } I h) fun f s1 q=>?_)
 cases f with
 |next=>
  obtain⟨σ',H',I',q⟩:=q
  exact h2 pins s1 σ' H' D I' q
 |ret v=>exact q
 |brk=>exact q
 |cont=>exact q
def rq(h1:PS X st t):Co X [st] t:=by
 intro pins s σ H D I h
 refine wpAny_execs_cons (zP (h1 pins s σ H D I h) fun f s1 q=>?_)
 cases f with
 |next=>exact K5 q
 |ret v=>exact q
 |brk=>exact q
 |cont=>exact q
def Inv.quiet{pins:Va}{σ:St}{H:Hp}{s:Shared}(I:Inv X pins σ H s):interactive X.env=false:=by simp[interactive,I.ok.kind]
def wg(te:TE):TS:=fun D σ H=>te σ H fun _ H1=>D.nx σ H1
def rA(he:PE X e te)(hs:swapsWith e none pos.line X.env=pure false:=by rfl):PS X (.Expr e pos) (wg te):=by
 intro pins s σ H D I h
 exact wpAny_Expr_any (zP (he pins s σ H _ I h) fun v s1 ⟨x,H1,I1,r1,q1⟩=>⟨σ,H1,I1,q1⟩) I.quiet hs
def ye(te:TE):TS:=fun D σ H=>te σ H D.rt
def um(he:PE X e te):PS X (.Return (some e) pos) (ye te):=by
 intro pins s σ H D I h
 exact wpAny_Return_some (zP (he pins s σ H _ I h) fun v s1 ⟨x,H1,I1,r1,q1⟩=>⟨x,σ,H1,I1,r1,q1⟩)
def yf(c:TT)(t u:TS):TS:=fun D σ H=>c σ H fun b H1=>if b=true then t D σ H1 else u D σ H1
def wj{c:Expr}{a b:List Stmt}{tc:TT}(hc:PT X c tc)(ha:Co X a t)(hb:Co X b u):PS X (.If c a b pos) (yf tc t u):=by
 intro pins s σ H D I h
 refine wpAny_If (zP (hc pins s σ H _ I h) fun d s1 ⟨H1,I1,q1⟩=>?_)
 cases d with
 |true=>exact ha pins s1 σ H1 D I1 q1
 |false=>exact hb pins s1 σ H1 D I1 q1
end
abbrev TG:=V->St->Hp->(St->Hp->Prop)->Prop
abbrev tH:=List V->St->Hp->(St->Hp->Prop)->Prop
def PG(X:Cx)(target:Expr)(t:TG):Prop:=
 ∀(pins:Va) (s:Shared) (σ:St) (H:Hp) (v:V) (u:Value) (Q:St->Hp->Prop),Inv X pins σ H s->RelV v u->t v σ H Q->
  wpAny (model X.prog X.w) X.A (assign target X.env u) (fun _ s'=>∃σ' H',Inv X pins σ' H' s'/\Q σ' H') X.xe s
def wk(X:Cx)(ts:List Expr)(t:tH):Prop:=
 ∀(pins:Va) (s:Shared) (σ:St) (H:Hp) (vs:List V) (us:Vv) (Q:St->Hp->Prop),Inv X pins σ H s->Vals vs us->t vs σ H Q->
  wpAny (model X.prog X.w) X.A (assignInOrder ((assignEach ts X.env).map (·.2)) us) (fun _ s'=>∃σ' H',Inv X pins σ' H' s'/\Q σ' H') X.xe s
abbrev uo:=V->V->V->Hp->(Hp->Prop)->Prop
def rB(X:Cx)(t:uo):Prop:=
 ∀(pins:Va) (s:Shared) (σ:St) (H:Hp) (o i v:V) (ov iv u:Value) (Q:Hp->Prop),Inv X pins σ H s->RelV o ov->RelV i iv->RelV v u->t o i v H Q->
  wpAny (model X.prog X.w) X.A (setItem ov iv u) (fun _ s'=>∃H',Inv X pins σ H' s'/\Q H') X.xe s
section
variable {X:Cx} {pos:Pos}
def kZ(i:Nat):TG:=fun v σ H Q=>Q (σ.set i (some v)) H
def rC{i:Nat}{x:Str}(hN:X.N.Nodup)(hi:X.N[i]?=some x)(hx:tG X.env.scope x)(hf:X.fn x=true\/X.env.scope.names.lookup x=some .local:=by first|exact .inl rfl|exact .inr rfl|assumption):PG X (.Name x pos) (kZ i):=by
 intro pins s σ H v u Q I r h
 exact wpAny_assign_Name (cI I hN hi hx r (fun s' I'=>⟨_,H,I',h⟩) hf)
noncomputable def wm:tH:=fun vs σ H Q=>vs=[]/\Q σ H
noncomputable def tI(t:TG)(u:tH):tH:=fun vs σ H Q=>∃v r,vs=v::r/\t v σ H fun σ' H'=>u r σ' H' Q
def rD:wk X [] wm:=by
 intro pins s σ H vs us Q I r h
 obtain⟨e,h⟩:=h
 subst e
 cases r
 exact assignInOrder_nil ⟨σ,H,I,h⟩
def oW{e:Expr}{es:List Expr}{t:TG}{u:tH}(h1:PG X e t)(h2:wk X es u)
  (hs:(assignEach (e::es) X.env).map (·.2)=assign e X.env::(assignEach es X.env).map (·.2):=by rfl):wk X (e::es) (tI t u):=by
 intro pins s σ H vs us Q I r h
 obtain⟨v,vr,e1,h⟩:=h
 subst e1
 cases r with
 |cons r rr=>
  rw[hs]
  refine JB (zP (h1 pins s σ H _ _ _ I r h) fun _ s1 ⟨σ1,H1,I1,q1⟩=>?_)
  exact h2 pins s1 σ1 H1 _ _ Q I1 rr q1
def wn(K:Vo)(n:Nat)(t:tH):TG:=fun v σ H Q=>∃a xs,v = .ref a/\SqT K H a xs/\xs.length=n/\t xs σ H Q
def uq{es:List Expr}{k:Nat}{t:tH}{n:Nat}(hc:X.calm=true)(h:wk X es t)
  (hn:(assignEach es X.env).length=n:=by rfl) (hst:(assignEach es X.env).findIdx? (·.1)=none:=by rfl):PG X (.Tuple es k pos) (wn X.K n t):=by
 intro pins s σ H v u Q I r hw
 obtain⟨a,xs,e1,hq,hl,hw⟩:=hw
 subst e1
 cases r
 obtain⟨its,rv,ht,hz⟩:=I.tuple hq
 refine assign_Tuple_tuple (I.ok.hd hc) ht (by simp[hn,<-hl,rv.length]) hst fun h' hx=>?_
 have I1:Inv X pins σ H { s with heap:=h' }:=I.kept (t':=s.toks) fun b o e=>hx b o (Ii (HK e)) e
 exact h pins _ σ H xs _ Q I1 (by simpa using rv) hw
def yg(to ti:TE)(t:uo):TG:=fun v σ H Q=>to σ H fun o H1=>ti σ H1 fun i H2=>t o i v H2 fun H3=>Q σ H3
def ur{o i:Expr}{to ti:TE}{t:uo}(ho:PE X o to)(hi:PE X i ti)(hs:rB X t)
  (ha:∀v,assign (.Subscript o i pos) X.env v=(do
   let ov <-holding [v] (eval o X.env)
   let iv <-holding [v,ov] (eval i X.env)
   standAt pos
   holding [v,ov,iv] (setItem ov iv v)
   release [v,ov,iv] []):=by intro _;rfl):PG X (.Subscript o i pos) (yg to ti t):=by
 intro pins s σ H v u Q I r h
 rw[ha]
 refine HB (Jp (zP (ho pins s σ H _ I h) fun ov s1 ⟨x,H1,I1,r1,q1⟩=>?_))
 refine HB (Jp (zP (hi pins s1 σ H1 _ I1 q1) fun iv s2 ⟨y,H2,I2,r2,q2⟩=>?_))
 refine HB (wpAny_standAt (HB (Jp (zP (hs pins s2 σ H2 x y v ov iv u _ I2 r1 r2 r q2) fun _ s3 ⟨H3,I3,q3⟩=>?_))))
 exact wpAny_release ⟨σ,H3,I3,q3⟩
def rE(te:TE)(g:TG):TS:=fun D σ H=>te σ H fun x H1=>g x σ H1 D.nx
def oX{tg e:Expr}{te:TE}{g:TG}(he:PE X e te)(hg:PG X tg g)(hs:swapsWithSole [tg] e pos.line X.env=pure false:=by rfl)(hw:swappedStores [tg] e X.env=pure none:=by rfl)
  (h1:(assignEach [tg] X.env).map (·.2)=[assign tg X.env]:=by rfl):PS X (.Assign [tg] e pos) (rE te g):=by
 intro pins s σ H D I h
 refine wpAny_Assign_stores (zP (he pins s σ H _ I h) fun v s1 ⟨x,H1,I1,r1,q1⟩=>?_) hs hw
 rw[h1]
 exact zP (hg pins s1 σ H1 x v _ I1 r1 q1) fun _ s2 q=>q
def ut{i:Nat}{x:Str}{e:Expr}{te:TE}{pos':Pos}(hN:X.N.Nodup)(hi:X.N[i]?=some x)(hx:tG X.env.scope x)(he:PE X e te)(hs:swapsWith e (some (.Name x pos')) pos.line X.env=pure false:=by rfl)(hf:X.fn x=true\/X.env.scope.names.lookup x=some .local:=by first|exact .inl rfl|exact .inr rfl|assumption) :
  PS X (.Assign [.Name x pos'] e pos) (rE te (kZ i)):=by
 intro pins s σ H D I h
 refine wpAny_Assign_Name (zP (he pins s σ H _ I h) fun v s1 ⟨y,H1,I1,r1,q1⟩=>?_) hs
 exact cI I1 hN hi hx r1 (fun s2 I2=>⟨_,H1,I2,q1⟩) hf
def yh(i j:Nat)(ta:TA):TS:=fun D σ H=>ta σ H fun vs H1=>∃v w,vs=[v,w]/\D.nx ((σ.set i (some v)).set j (some w)) H1
def uu{i j:Nat}{x y:Str}{a b:Expr}{ta:TA}{px py pt:Pos}{kt k2 DX}(hc:X.calm=true)(hN:X.N.Nodup)(hi:X.N[i]?=some x)(hj:X.N[j]?=some y)(hij:i≠j)
  (hx:X.env.scope.names.lookup x=some .local) (hy:X.env.scope.names.lookup y=some .local) (ha:PA X [a,b] ta)
  (hw:swappedStores [.Tuple [.Name x px,.Name y py] kt pt] (.Tuple [a,b] k2 DX) X.env=pure (some [x,y]))
  (hs:swapsWithSole [.Tuple [.Name x px,.Name y py] kt pt] (.Tuple [a,b] k2 DX) pos.line X.env=pure false:=by rfl) :
  PS X (.Assign [.Tuple [.Name x px,.Name y py] kt pt] (.Tuple [a,b] k2 DX) pos) (yh i j ta):=by
 intro pins s σ H D I h
 rw[exec_Assign_arm]
 refine HB (wpAny_standAt ?_)
 rw[hs]
 refine HB (HJ ?_)
 rw[if_neg (by decide)]
 refine HB (Tuple_ (zP (ha _ pins s σ H _ I h) fun us s1 ⟨vs,H1,I1,r1,q1⟩=>?_))
 obtain⟨v,w,e1,q1⟩:=q1
 subst e1
 obtain⟨u1,u2,rfl,rv,rw'⟩:∃u1 u2,us=[u1,u2]/\RelV v u1/\RelV w u2:=by
  cases r1 with
  |cons p q=>
   cases q with
   |cons p' q'=>
    cases q'
    exact⟨_,_,rfl,p,p'⟩
 refine IQ ?_ (by show 2<=sizeLine;decide)
 have I2:Inv X pins σ H1 { s1 with heap:=s1.heap.push { cls:=.type "tuple",data:=.seq [u1,u2].toArray } }:=I1.kept (t':=s1.toks) fun b o e=>HE _ e
 rw[hw]
 refine HB (HJ ?_)
 show wpAny (model X.prog X.w) X.A (do rule "assign.swapped-stores"; let items <-unpackItems (.ref s1.heap.objs.size) 2 none;assignInOrder [fun v=>bindName X.env y v,fun v=>bindName X.env x v] items.reverse;pure Flow.next) _ _ _
 refine HB (Kw (HB (unpackItems_tuple (items:=#[u1,u2]) (I.ok.hd hc) (IsTup.new s1.heap _) fun h' hx'=>?_)))
 have I3:=I2.kept (h':=h') (t':=s1.toks) fun b o e=>hx' b o (Ii (HK e)) e
 show wpAny _ _ (assignInOrder [fun v=>bindName X.env y v,fun v=>bindName X.env x v] [u2,u1] >>= fun _=>pure Flow.next) _ _ _
 refine HB (JB (KG (cI I3 hN hj (.inl hy) rw' (fun s2 I4=>?_) (.inr hy))))
 refine JB (KG (cI I4 hN hi (.inl hx) rv (fun s3 I5=>assignInOrder_nil (HJ ?_)) (.inr hx)))
 rw[List.set_comm _ _ (JE hij)]at I5
 exact⟨_,H1,I5,q1⟩
end
section
variable {X:Cx} {pos:Pos}
def uv(c:TT)(tb:TS):TS:=fun D σ H=>∃W:Nat->St->Hp->Prop,(∃m,W m σ H)/\∀m σ H,W m σ H->
 c σ H fun b H1=>if b=true then ∃N:St->Hp->Prop,(∀σ' H',N σ' H'->∃m',m' < m/\W m' σ' H')/\tb { D with nx:=N,ct:=N,bk:=D.nx } σ H1 else D.nx σ H1
def oY{c:Expr}{body:List Stmt}{tc:TT}{tb:TS}(hp:PassesOwn (model X.prog X.w) X.A X.env X.xe)(hc:PT X c tc)(hb:Co X body tb):PS X (.While c body [] pos) (uv tc tb):=by
 intro pins s σ H D I h
 obtain⟨W,⟨m0,w0⟩,turn⟩:=h
 refine wpAny_While (codeAny_whileLoop (fun n s'=>∃σ' H',Inv X pins σ' H' s'/\W n σ' H') ?_ m0 ⟨σ,H,I,w0⟩)
 rintro n s1 ⟨σ1,H1,I1,w1⟩
 refine JG hp (zP (hc pins s1 σ1 H1 _ I1 (turn n σ1 H1 w1)) fun b s2 ⟨H2,I2,q2⟩=>?_)
 cases b with
 |true=>
  obtain⟨N,hN,q2⟩:=q2
  rw[if_pos rfl]
  refine JG hp (zP (hb pins s2 σ1 H2 _ I2 q2) fun f s3 q3=>?_)
  cases f with
  |next=>
   obtain⟨σ3,H3,I3,n3⟩:=q3
   obtain⟨m',hm,w3⟩:=hN σ3 H3 n3
   exact⟨m',hm,σ3,H3,I3,w3⟩
  |cont=>
   obtain⟨σ3,H3,I3,n3⟩:=q3
   obtain⟨m',hm,w3⟩:=hN σ3 H3 n3
   exact⟨m',hm,σ3,H3,I3,w3⟩
  |brk=>exact q3
  |ret v=>exact q3
 |false=>
  rw[if_neg Ie]
  exact K5 ⟨σ1,H2,I2,q2⟩
end
structure It where
 go:Nat->Hp->Prop
 EQ:Nat->Hp->V->Hp->Prop
 stop:Nat->Hp->Prop
def dr(X:Cx)(pins:Va)(H:Hp)(b:Addr):Prop:=
 H b=none/\b≠X.env.locals/\b ∉ X.fs/\(b∈X.ex\/X.s₀.heap.objs.size<=b)/\(∀x c,X.env.cells.lookup x=some c->c≠b)/\∀p∈X.pn++pins,p.1≠b
def Inv.Bx{X:Cx}{pins:Va}{σ:St}{H H':Hp}{s:Shared}{b:Addr}(I:Inv X pins σ H s)(hb:s.heap.objs.size<=b)(hn:H' b=none):dr X pins H' b:=by
 refine⟨hn,Kf (HY I.lt hb),I.Eu hb,.inr (HX I.sz hb),fun x c e z=>?_,fun p hp z=>?_⟩
 ·obtain⟨v,q⟩:=I.cell x c e
  exact absurd (HY q.lt (by rw[z];exact hb)) (Jo _)
 ·exact absurd (HY (HK (I.pin p hp).1) (by rw[z];exact hb)) (Jo _)
structure ke (P:Program) (w:World) (K:Vo) (tg:Expr) (J:It) (fp:List Addr) (it:Addr) (tn:Nat->Heap->Prop):Prop where
 mem:it∈fp
 obj:∀i h,tn i h->∀b∈fp,∃o,h.get? b=some o/\∀v,o.data ≠ .cell v
 keep:∀i h h',tn i h->(∀b∈fp,∀o,h.get? b=some o->h'.get? b=some o)->tn i h'
 item:∀(X:Cx),X.prog=P->X.w=w->X.K=K->X.calm=true->∀(i:Nat) (pins:Va) (s:Shared) (σ:St) (H:Hp) (E:Vq),Inv X pins σ H s->(∀b∈fp,dr X pins H b)->tn i s.heap->J.go i H->
  wpAny (model P w) X.A (pyNext (.ref it)) (fun r s1=>∃u,r=some u/\
   wpAny (model P w) X.A (letOwnedTupleGo tg (.ref it) u) (fun _ s2=>∃x H',Inv X pins σ H' s2/\RelV x u/\J.EQ i H x H'/\tn (i+1) s2.heap/\∀b∈fp,H' b=none) E s1) E s
 done:∀(X:Cx),X.prog=P->X.w=w->X.K=K->X.calm=true->∀(i:Nat) (pins:Va) (s:Shared) (σ:St) (H:Hp) (E:Vq),Inv X pins σ H s->(∀b∈fp,dr X pins H b)->tn i s.heap->J.stop i H->
  wpAny (model P w) X.A (pyNext (.ref it)) (fun r s1=>r=none/\Inv X pins σ H s1) E s
 self:∀(A:Around) (i:Nat) (s:Shared) (Q:Vq) (E:Vq),tn i s.heap->Q (.ref it) s->wpAny (model P w) A (pyIter (.ref it)) Q E s
abbrev TI:=St->Hp->(It->Hp->Prop)->Prop
def yi(X:Cx)(pins:Va)(σ:St)(tg:Expr)(R:It->Hp->Prop)(itv:Value)(s2:Shared):Prop:=
 ∃(it:Addr) (fp:List Addr) (tn:Nat->Heap->Prop) (J:It) (H':Hp),itv = .ref it/\Inv X pins σ H' s2/\ke X.prog X.w X.K tg J fp it tn/\tn 0 s2.heap/\(∀b∈fp,dr X pins H' b)/\R J H'
def PI(X:Cx)(tg iter:Expr)(wi:TI):Prop:=
 ∀(pins:Va) (s:Shared) (σ:St) (H:Hp) (R:It->Hp->Prop),Inv X pins σ H s->wi σ H R->
  wpAny (model X.prog X.w) X.A (eval iter X.env) (fun v s1=>wpAny (model X.prog X.w) X.A (pyIter v) (yi X pins σ tg R) X.xe s1) X.xe s
def mL {M : Model} {A : Around} {E : Value -> Shared -> Prop} {s : Shared} {tg : Expr} {it : Addr} {u : Value} {o : Obj} {n : String} {vs : Array Value} {Q : Unit -> Shared -> Prop} (ho : s.heap.get? it = some o) (hc : o.cls = .type n) (hd : o.data = .fields vs)
    (hn : ["enumerate", "zip", "dict_itemiterator", "dict_reverseitemiterator", "odict_iterator", "itertools.zip_longest", "itertools.pairwise"].contains n = false) (hQ : Q () s) : wpAny M A (letOwnedTupleGo tg (.ref it) u) Q E s := by
  unfold letOwnedTupleGo
  cases tg <;> first
    | exact HJ hQ
    | (cases u <;> first
        | exact HJ hQ
        | (refine HB (wpAny_load ho ?_)
           rw [hc, hd]
           show wpAny M A (if (["enumerate", "zip", "dict_itemiterator", "dict_reverseitemiterator", "odict_iterator", "itertools.zip_longest", "itertools.pairwise"].contains n && vs[0]? == some (rawInt _)) = true then _ else _) Q E s
           rw [if_neg (by intro h; rw [hn, Bool.false_and] at h; cases h)]
           exact HJ hQ))
noncomputable def xL(K:Vo)(a:Addr):It:=
 ⟨fun i H=>∃xs x,SqL K H a xs/\xs[i]?=some x,fun i H x H'=>H'=H/\∀xs,SqL K H a xs->xs[i]?=some x,fun i H=>∃xs,SqL K H a xs/\xs.length<=i⟩
noncomputable def yj(K:Vo)(a:Addr):It:=
 ⟨fun i H=>∃xs x,SqT K H a xs/\xs[i]?=some x,fun i H x H'=>H'=H/\∀xs,SqT K H a xs->xs[i]?=some x,fun i H=>∃xs,SqT K H a xs/\xs.length<=i⟩
noncomputable def xM(lo:Int)(n:Nat):It:=⟨fun i _=>i < n,fun i H x H'=>H'=H/\x = .int (lo+i),fun i _=>n<=i⟩
def nF{P:Program}{w:World}{K:Vo}{tg:Expr}(a it:Addr):ke P w K tg (xL K a) [it] it (fun i h=>h.IsListIter it a i) where
 mem:=by simp
 obj:=fun i h st b hb=>by
  have e:b=it:=by simpa using hb
  subst e
  obtain⟨o,e,c,d⟩:=st
  exact⟨o,e,fun v z=>by rw[d]at z;cases z⟩
 keep:=fun i h h' st k=>st.at fun o e=>k it (by simp) o e
 item:=by
  intro X hP hw hK hc i pins s σ H E I hf st hg
  subst hP hw hK
  obtain⟨xs,x,hq,hx⟩:=hg
  obtain⟨its,rv,p,hz⟩:=I.list hq
  obtain⟨u,hu,ru⟩:=rv.get hx
  obtain⟨f0,f1,f2,f3,f4,f5⟩:=hf it (by simp)
  refine wpAny_pyNext_list_item st p.isList (x:=u) (by simpa using hu) fun h' st' sb=>?_
  have I1:Inv X pins σ H { s with heap:=h' }:=I.turned (t':=s.toks) (fun b o hb e=>(sb.2 b hb).trans e) f0 f1 f3 f4 f5
  obtain⟨o,e,c,d⟩:=id st'
  exact⟨u,rfl,mL (s:={ s with heap:=h' }) e c d (by decide) ⟨x,H,I1,ru,⟨rfl,fun ys hy=>by rw[I.BU hy hq];exact hx⟩,st',fun b hb=>(hf b hb).1⟩⟩
 done:=by
  intro X hP hw hK hc i pins s σ H E I hf st hg
  subst hP hw hK
  obtain⟨xs,hq,hx⟩:=hg
  obtain⟨its,rv,p,hz⟩:=I.list hq
  obtain⟨f0,f1,f2,f3,f4,f5⟩:=hf it (by simp)
  have hl:=rv.length
  exact wpAny_pyNext_list_end (I.ok.hd hc) st p.isList (by simp;omega) fun h' eb=>⟨rfl,I.turned (t':=s.toks) (fun b o hb e=>eb b o hb e) f0 f1 f3 f4 f5⟩
 self:=fun _ _ _ _ _ st h=>wpAny_pyIter_listiter st h
def lS{P:Program}{w:World}{K:Vo}{tg:Expr}(a it:Addr):ke P w K tg (yj K a) [it] it (fun i h=>h.IsTupleIter it a i) where
 mem:=by simp
 obj:=fun i h st b hb=>by
  have e:b=it:=by simpa using hb
  subst e
  obtain⟨o,e,c,d⟩:=st
  exact⟨o,e,fun v z=>by rw[d]at z;cases z⟩
 keep:=fun i h h' st k=>st.at fun o e=>k it (by simp) o e
 item:=by
  intro X hP hw hK hc i pins s σ H E I hf st hg
  subst hP hw hK
  obtain⟨xs,x,hq,hx⟩:=hg
  obtain⟨its,rv,p,hz⟩:=I.tuple hq
  obtain⟨u,hu,ru⟩:=rv.get hx
  obtain⟨f0,f1,f2,f3,f4,f5⟩:=hf it (by simp)
  refine wpAny_pyNext_tuple_item st (show s.heap.IsTuple a its.toArray from p) (x:=u) (by simpa using hu) fun h' st' sb=>?_
  have I1:Inv X pins σ H { s with heap:=h' }:=I.turned (t':=s.toks) (fun b o hb e=>(sb.2 b hb).trans e) f0 f1 f3 f4 f5
  obtain⟨o,e,c,d⟩:=id st'
  exact⟨u,rfl,mL (s:={ s with heap:=h' }) e c d (by decide) ⟨x,H,I1,ru,⟨rfl,fun ys hy=>by rw[I.BC hy hq];exact hx⟩,st',fun b hb=>(hf b hb).1⟩⟩
 done:=by
  intro X hP hw hK hc i pins s σ H E I hf st hg
  subst hP hw hK
  obtain⟨xs,hq,hx⟩:=hg
  obtain⟨its,rv,p,hz⟩:=I.tuple hq
  obtain⟨f0,f1,f2,f3,f4,f5⟩:=hf it (by simp)
  have hl:=rv.length
  exact wpAny_pyNext_tuple_end (I.ok.hd hc) st (show s.heap.IsTuple a its.toArray from p) (by simp;omega) fun h' eb=>⟨rfl,I.turned (t':=s.toks) (fun b o hb e=>eb b o hb e) f0 f1 f3 f4 f5⟩
 self:=fun _ _ _ _ _ st h=>wpAny_pyIter_tupleiter st h
def lU{P:Program}{w:World}{K:Vo}{tg:Expr}(it:Addr)(lo:Int)(n:Nat):ke P w K tg (xM lo n) [it] it (fun i h=>IsRangeIter h it (lo+(i:Nat) * 1) ((n:Int) - (i:Nat)) 1) where
 mem:=by simp
 obj:=fun i h st b hb=>by
  have e:b=it:=by simpa using hb
  subst e
  exact⟨_,st,fun v z=>by
   have z':Data.fields _=Data.cell v:=z
   cases z'⟩
 keep:=fun i h h' st k=>k it (by simp) _ st
 item:=by
  intro X hP hw hK hc i pins s σ H E I hf st hg
  subst hP hw hK
  obtain⟨f0,f1,f2,f3,f4,f5⟩:=hf it (by simp)
  have W:=Walks.range (prog:=X.prog) (w:=X.w) (I.ok.hd hc) it lo 1 n
  refine W.item i s _ _ hg st fun v h' tk hv st' kk=>?_
  obtain⟨t,rfl⟩:=hv
  have I1:Inv X pins σ H { s with heap:=h',toks:=tk }:=I.turned (fun b o hb e=>kk b o (by simpa using hb) e) f0 f1 f3 f4 f5
  refine⟨_,rfl,mL (s:={ s with heap:=h',toks:=tk }) (n:="range_iterator") st' rfl rfl (by decide) ⟨.int (lo+i),H,I1,⟨t,?_⟩,⟨rfl,rfl⟩,st',fun b hb=>(hf b hb).1⟩⟩
  rw[Int.mul_one]
 done:=by
  intro X hP hw hK hc i pins s σ H E I hf st hg
  subst hP hw hK
  obtain⟨f0,f1,f2,f3,f4,f5⟩:=hf it (by simp)
  exact wpAny_pyNext_range_end (I.ok.hd hc) st (by have:n<=i:=hg;omega) fun h' eb=>⟨rfl,I.turned (t':=s.toks) (fun b o hb e=>eb b o hb e) f0 f1 f3 f4 f5⟩
 self:=fun _ _ _ _ _ st h=>wpAny_pyIter_rangeiter st h
section
variable {X:Cx} {tg:Expr}
def oZ{pins:Va}{σ:St}{H:Hp}{s:Shared}{R:It->Hp->Prop}{E:Vq}{lo hi:Int}{t u v:Tok}{tk:Nat}(I:Inv X pins σ H s)(h1:-(2 ^ 62)<=lo)(h2:lo < 2 ^ 62)(h3:-(2 ^ 62)<=hi)(h4:hi < 2 ^ 62)
  (q:R (xM lo (hi - lo).toNat) H):wpAny (model X.prog X.w) X.A (pyIter (.ref s.heap.objs.size)) (yi X pins σ tg R) E { s with heap:=s.heap.push { cls:=.type "range",data:=.fields #[.int lo t,.int hi u,.int 1 v] },toks:=tk }:=by
 refine wpAny_pyIter_range (IsRange.new ..) (small_one h1 h2 h3 h4) ?_
 have I1:Inv X pins σ H { s with heap:=s.heap.push { cls:=.type "range",data:=.fields #[.int lo t,.int hi u,.int 1 v] },toks:=tk }:=I.kept fun b o e=>HE _ e
 refine⟨(s.heap.push { cls:=.type "range",data:=.fields #[.int lo t,.int hi u,.int 1 v] }).objs.size,[(s.heap.push { cls:=.type "range",data:=.fields #[.int lo t,.int hi u,.int 1 v] }).objs.size],_,_,H,rfl,
  I1.kept (t':=tk) fun b o e=>HE _ e,lU _ lo (hi - lo).toNat,?_,fun b hb=>?_,q⟩
 ·have e1:lo+((0:Nat):Int) * 1=lo:=by simp
  have e2:(((hi - lo).toNat:Nat):Int) - ((0:Nat):Int)=Builtin.Range.rangeSize lo hi 1:=by rw[rangeSize_one];split<;>omega
  show IsRangeIter _ _ (lo+((0:Nat):Int) * 1) ((((hi - lo).toNat:Nat):Int) - ((0:Nat):Int)) 1
  rw[e1,e2]
  exact HV _ rfl
 ·have e:b=(s.heap.push { cls:=.type "range",data:=.fields #[.int lo t,.int hi u,.int 1 v] }).objs.size:=by simpa using hb
  subst e
  exact I1.Bx (HF _) (I1.hok.fresh (HF _))
def wo(ta:TA):TI:=fun σ H R=>ta σ H fun vs H1=>∃j:Int,vs=[.int j]/\-(2 ^ 62)<=j/\j < 2 ^ 62/\R (xM 0 j.toNat) H1
def nG{a:Expr}{ta:TA}{p pos:Pos}(hg:Gl X "range")(hm:X.mg "range" = none)(ha:PA X [a] ta)(hs:starEach [a] X.env=[(false,eval a X.env)]:=by rfl):PI X tg (.Call (.Name "range" p) [a] [] pos) (wo ta):=by
 intro pins s σ H R I h
 refine Call_ (df I hg hm boot_range (Ir (zP (ha pos pins s σ H _ I h) fun us s1 ⟨vs,H1,I1,r1,q1⟩=>?_) hs rfl))
 obtain⟨j,e,q1,q2,q⟩:=q1
 subst e
 cases r1 with
 |cons r rr=>
  cases rr
  obtain⟨t,rfl⟩:=r
  exact call_range_1 (oZ I1 (by omega) (by omega) q1 q2 (by simpa using q))
def yk(wi:TI)(g:TG)(tb:TS):TS:=fun D σ H=>wi σ H fun J H1=>∃W:Nat->Nat->St->Hp->Prop,(∃m,W 0 m σ H1)/\∀i m σ H,W i m σ H->
 (J.stop i H/\D.nx σ H)\/(J.go i H/\∃N:St->Hp->Prop,(∀σ' H',N σ' H'->∃m',m' < m/\W (i+1) m' σ' H')/\∀x H',J.EQ i H x H'->g x σ H' fun σ2 H2=>tb { D with nx:=N,ct:=N,bk:=D.nx } σ2 H2)
noncomputable def iI(fp:List Addr)(h:Heap):List (Addr×Obj):=fp.filterMap fun b=>(h.get? b).map fun o=>(b,o)
def fz{fp:List Addr}{h:Heap}{b:Addr}{o:Obj}(hb:b∈fp)(e:h.get? b=some o):(b,o)∈iI fp h:=List.mem_filterMap.mpr ⟨b,hb,by rw[e];rfl⟩
def nH{fp:List Addr}{h:Heap}{p:Addr×Obj}(hp:p∈iI fp h):p.1∈fp/\h.get? p.1=some p.2:=by
 obtain⟨b,hb,e⟩:=List.mem_filterMap.mp hp
 cases q:h.get? b with
 |none=>rw[q]at e;cases e
 |some o=>
  rw[q]at e
  have e':(b,o)=p:=IL e
  subst e'
  exact⟨hb,q⟩
def Inv.pinned{pins:Va}{σ:St}{H:Hp}{s:Shared}{fp:List Addr}(I:Inv X pins σ H s)(hf:∀b∈fp,dr X pins H b)(ho:∀b∈fp,∃o,s.heap.get? b=some o/\∀v,o.data ≠ .cell v):Inv X (pins++iI fp s.heap) σ H s:=
 I.BP fun p hp=>(HN.mp hp).elim (fun z=>I.pin p (Io _ z)) fun z=>by
  obtain⟨hb,e⟩:=nH z
  obtain⟨f0,f1,f2,_⟩:=hf p.1 hb
  obtain⟨o,e',d⟩:=ho p.1 hb
  rw[e]at e';cases e'
  exact⟨e,f0,f1,f2,d⟩
def Inv.By{pins pl:Va}{σ:St}{H:Hp}{s:Shared}(I:Inv X (pins++pl) σ H s):Inv X pins σ H s:=I.BP fun p hp=>I.pin p (Io _ (JH _ hp))
def ux{iter:Expr}{body:List Stmt}{wi:TI}{g:TG}{tb:TS}{pos:Pos}(hp:PassesOwn (model X.prog X.w) X.A X.env X.xe)(hc:X.calm=true)(hi:PI X tg iter wi)(hg:PG X tg g)(hb:Co X body tb)
  (hs:∀x,foldedSetIterable iter X.env x=pure x:=by intro _;rfl):PS X (.For tg iter body [] pos) (yk wi g tb):=by
 intro pins s σ H D I h
 refine wpAny_For (zP (hi pins s σ H _ I h) fun v s1 h1=>zP h1 fun itv s2 h2=>?_) hs
 obtain⟨it,fp,tn,J,H2,e,I2,T,st2,f2,W,⟨m0,w0⟩,turn⟩:=h2
 subst e
 -- what stays true of the iterator's objects through the loop
 have stat:∀{H':Hp},(∀b∈fp,H' b=none)->∀b∈fp,dr X pins H' b:=fun hn b hb=>⟨hn b hb,(f2 b hb).2⟩
 refine codeAny_forLoop_any (fun n s'=>∃i σ' H',Inv X pins σ' H' s'/\tn i s'.heap/\(∀b∈fp,H' b=none)/\W i n σ' H') ?_ m0 ⟨0,σ,H2,I2,st2,fun b hb=>(f2 b hb).1,w0⟩
 rintro n s3 ⟨i,σ3,H3,I3,st3,Ga,w3⟩
 rcases turn i n σ3 H3 w3 with⟨stop,qn⟩|⟨go,N,hN,step⟩
 ·refine JG hp (zP (T.done X rfl rfl rfl hc i pins s3 σ3 H3 X.xe I3 (stat Ga) st3 stop) fun r s4 ⟨hr,I4⟩=>?_)
  subst hr
  exact K5 ⟨σ3,H3,I4,qn⟩
 ·refine JG hp (zP (T.item X rfl rfl rfl hc i pins s3 σ3 H3 X.xe I3 (stat Ga) st3 go) fun r s4 ⟨u,hr,h4⟩=>?_)
  subst hr
  refine JG hp (zP h4 fun _ s5 ⟨x,H5,I5,r5,y5,Dv,Fj⟩=>?_)
  have Fk:=I5.pinned (stat Fj) (T.obj _ _ Dv)
  refine JG hp (zP (hg _ s5 σ3 H5 x u _ Fk r5 (step x H5 y5)) fun _ s6 ⟨σ6,H6,I6,q6⟩=>?_)
  refine JG hp (zP (hb _ s6 σ6 H6 _ I6 q6) fun f s7 q7=>?_)
  have again:∀{σ7:St} {H7:Hp},Inv X (pins++iI fp s5.heap) σ7 H7 s7->N σ7 H7->∃m,m < n/\∃i σ' H',Inv X pins σ' H' s7/\tn i s7.heap/\(∀b∈fp,H' b=none)/\W i m σ' H':=fun{σ7 H7} I7 n7=>by
   obtain⟨m',hm,w7⟩:=hN σ7 H7 n7
   refine⟨m',hm,i+1,σ7,H7,I7.By,T.keep _ _ _ Dv fun b hb o e=>(I7.pin (b,o) (Io _ (Io _ (fz hb e)))).1,fun b hb=>?_,w7⟩
   obtain⟨o,e,d⟩:=T.obj _ _ Dv b hb
   exact(I7.pin (b,o) (Io _ (Io _ (fz hb e)))).2.1
  cases f with
  |next=>obtain⟨σ7,H7,I7,n7⟩:=q7;exact again I7 n7
  |cont=>obtain⟨σ7,H7,I7,n7⟩:=q7;exact again I7 n7
  |brk=>obtain⟨σ7,H7,I7,q7⟩:=q7;exact⟨σ7,H7,I7.By,q7⟩
  |ret v=>obtain⟨x7,σ7,H7,I7,r7,q7⟩:=q7;exact⟨x7,σ7,H7,I7.By,r7,q7⟩
end
abbrev R2:=V->V->Hp->VK->Prop
def fS(X:Cx)(f:Value->Value->Sem Value)(r:R2):Prop:=
 ∀(pins:Va) (s:Shared) (σ:St) (H:Hp) (x y:V) (v u:Value) (Q:VK),Inv X pins σ H s->RelV x v->RelV y u->r x y H Q->
  wpAny (model X.prog X.w) X.A (f v u) (EP X pins σ Q) X.xe s
def xN(X:Cx)(f:Value->Sem Value)(r:V->Hp->VK->Prop):Prop:=
 ∀(pins:Va) (s:Shared) (σ:St) (H:Hp) (x:V) (v:Value) (Q:VK),Inv X pins σ H s->RelV x v->r x H Q->
  wpAny (model X.prog X.w) X.A (f v) (EP X pins σ Q) X.xe s
def fT(X:Cx)(f:Value)(r:List V->Hp->VK->Prop):Prop:=
 ∀(pins:Va) (s:Shared) (σ:St) (H:Hp) (xs:List V) (us:Vv) (Q:VK),Inv X pins σ H s->Vals xs us->r xs H Q->
  wpAny (model X.prog X.w) X.A (call f us) (EP X pins σ Q) X.xe s
def wq(r:R2)(ta tb:TE):TE:=fun σ H Q=>ta σ H fun x H1=>tb σ H1 fun y H2=>r x y H2 Q
def zk(r:V->Hp->VK->Prop)(ta:TE):TE:=fun σ H Q=>ta σ H fun x H1=>r x H1 Q
def rI(C:Int->Int->Prop)(g:Int->Int->V):R2:=fun x y H Q=>∃i j,x = .int i/\y = .int j/\C i j/\Q (g i j) H
def rF(g:Int->Int->V):R2:=fun x y H Q=>∃i j,x = .int i/\y = .int j/\Q (g i j) H
noncomputable def rU(g:Int->V):V->Hp->VK->Prop:=fun x H Q=>∃i,x = .int i/\Q (g i) H
section
variable {X:Cx} {a b c:Expr} {ta tb tc:TE} {pos:Pos}
def uy(ha:PE X a ta)(hb:PE X b tb){pins:Va}{s:Shared}{σ:St}{H:Hp}{R:V->V->Hp->Prop}(I:Inv X pins σ H s)
  (h:ta σ H fun x H1=>tb σ H1 fun y H2=>R x y H2) {Q:Vq} {f:Value->Value->Sem Value}
  (hf:∀v u s2 x y H2,Inv X pins σ H2 s2->RelV x v->RelV y u->R x y H2->wpAny (model X.prog X.w) X.A (f v u) Q X.xe s2) :
  wpAny (model X.prog X.w) X.A (eval a X.env) (fun v s₁=>wpAny (model X.prog X.w) X.A (eval b X.env) (fun u s₂=>wpAny (model X.prog X.w) X.A (f v u) Q X.xe s₂) X.xe s₁) X.xe s:=by
 refine zP (ha pins s σ H _ I h) fun v s1 ⟨x,H1,I1,r1,q1⟩=>?_
 refine zP (hb pins s1 σ H1 _ I1 q1) fun u s2 ⟨y,H2,I2,r2,q2⟩=>?_
 exact hf v u s2 x y H2 I2 r1 r2 q2
def wt{op:Operator}{r:R2}(ho:fS X (binaryOp op) r)(ha:PE X a ta)(hb:PE X b tb):PE X (.BinOp a op b pos) (wq r ta tb):=by
 intro pins s σ H Q I h
 exact wpAny_BinOp (uy ha hb I h fun v u s2 x y H2 I2 rx ry q=>ho pins s2 σ H2 x y v u Q I2 rx ry q)
def wu{op:UnaryOp}{r:V->Hp->VK->Prop}(ho:xN X (unaryOp op) r)(ha:PE X a ta):PE X (.UnaryOp op a pos) (zk r ta):=by
 intro pins s σ H Q I h
 exact UnaryOp_ (zP (ha pins s σ H _ I h) fun v s1 ⟨x,H1,I1,r1,q1⟩=>ho pins s1 σ H1 x v Q I1 r1 q1)
def xO{f:Value->Value->Sem Value}{C:Int->Int->Prop}{g:Int->Int->Int}
  (rule:∀(i j:Int) (t u:Tok) (s:Shared) (Q:Vq) (E:Vq),C i j->Q (.int (g i j) s.toks) { s with toks:=s.toks+1 }->wpAny (model X.prog X.w) X.A (f (.int i t) (.int j u)) Q E s) :
  fS X f (rI C fun i j=>.int (g i j)):=by
 intro pins s σ H x y v u Q I rx ry h
 obtain⟨i,j,rfl,rfl,hc,q⟩:=h
 obtain⟨t,rfl⟩:=rx
 obtain⟨t',rfl⟩:=ry
 exact rule i j t t' s _ _ hc ⟨.int (g i j),H,I.tok _,⟨_,rfl⟩,q⟩
def wv{f:Value->Value->Sem Value}{g:Int->Int->Int}
  (rule:∀(i j:Int) (t u:Tok) (s:Shared) (Q:Vq) (E:Vq),Q (.int (g i j) s.toks) { s with toks:=s.toks+1 }->wpAny (model X.prog X.w) X.A (f (.int i t) (.int j u)) Q E s) :
  fS X f (rF fun i j=>.int (g i j)):=by
 intro pins s σ H x y v u Q I rx ry h
 obtain⟨i,j,rfl,rfl,q⟩:=h
 obtain⟨t,rfl⟩:=rx
 obtain⟨t',rfl⟩:=ry
 exact rule i j t t' s _ _ ⟨.int (g i j),H,I.tok _,⟨_,rfl⟩,q⟩
def uz{f:Value->Value->Sem Value}{g:Int->Int->Bool}
  (rule:∀(i j:Int) (t u:Tok) (s:Shared) (Q:Vq) (E:Vq),Q (.bool (g i j)) s->wpAny (model X.prog X.w) X.A (f (.int i t) (.int j u)) Q E s) :
  fS X f (rF fun i j=>.bl (g i j)):=by
 intro pins s σ H x y v u Q I rx ry h
 obtain⟨i,j,rfl,rfl,q⟩:=h
 obtain⟨t,rfl⟩:=rx
 obtain⟨t',rfl⟩:=ry
 exact rule i j t t' s _ _ ⟨.bl (g i j),H,I,rfl,q⟩
def uA(i j:Int):Prop:=0<=j/\j<=1000000/\i.natAbs < 2 ^ 64
def Dw(i j:Int):Prop:=(-(2 ^ 64) < i/\i < 2 ^ 64)\/(-(2 ^ 64) < j/\j < 2 ^ 64)
def Dw.ok{i j:Int}(h:Dw i j):IntMulOk i j:=by
 rcases h with⟨h1,h2⟩|⟨h1,h2⟩
 ·exact .of_left (intBits_le_64 h1 h2)
 ·exact .of_right (intBits_le_64 h1 h2)
def uB:fS X (binaryOp .Add) (rF fun i j=>.int (i+j)):=wv fun _ _ _ _ _ _ _ q=>add_int q
def uC:fS X (binaryOp .Sub) (rF fun i j=>.int (i - j)):=wv fun _ _ _ _ _ _ _ q=>sub_int q
def rG:fS X (binaryOp .Mod) (rI (fun _ j=>j≠0) fun i j=>.int (i.fmod j)):=xO fun _ _ _ _ _ _ _ hc q=>mod_int' hc q
def uD:fS X (binaryOp .Pow) (rI uA fun i j=>.int (i ^ j.toNat)):=xO fun _ _ _ _ _ _ _ hc q=>pow_int_small hc.1 hc.2.1 hc.2.2 q
def zm{f:Value->Sem Value}{g:Int->Int}
  (rule:∀(i:Int) (t:Tok) (s:Shared) (Q:Vq) (E:Vq),Q (.int (g i) s.toks) { s with toks:=s.toks+1 }->wpAny (model X.prog X.w) X.A (f (.int i t)) Q E s) :
  xN X f (rU fun i=>.int (g i)):=by
 intro pins s σ H x v Q I rx h
 obtain⟨i,rfl,q⟩:=h
 obtain⟨t,rfl⟩:=rx
 exact rule i t s _ _ ⟨.int (g i),H,I.tok _,⟨_,rfl⟩,q⟩
def uE:xN X (unaryOp .USub) (rU fun i=>.int (-i)):=zm fun _ _ _ _ _ q=>neg_int q
end
noncomputable def ww:V->V->Bool
 | .non,.non=>true | .non,.int _=>true | .int _,.non=>true | .non,.bl _=>true | .bl _,.non=>true | .non,.str _=>true | .str _,.non=>true
 | .int _,.int _=>true | .bl _,.bl _=>true | .str _,.str _=>true | .C7 _,.C7 _=>true
 | .int _,.str _=>true | .str _,.int _=>true | .bl _,.str _=>true | .str _,.bl _=>true
 |_,_=>false
def zn:R2:=fun x y H Q=>ww x y=true/\Q (.bl (decide (x=y))) H
def zo:R2:=fun x y H Q=>ww x y=true/\Q (.bl (!decide (x=y))) H
def mM{i j:Int}:decide (V.int i=V.int j)=(i == j):=by
 rw[JW]
 simp
def o0{i j:Bool}:decide (V.bl i=V.bl j)=(i == j):=by
 rw[JW]
 simp
def mN{i j:Str}:decide (V.str i=V.str j)=(i == j):=by
 rw[JW]
 simp
def mO{i j:Array UInt8}:decide (V.C7 i=V.C7 j)=(i.toList == j.toList):=by
 rw[JW]
 cases i
 cases j
 simp
section
variable {X:Cx} {a b c:Expr} {ta tb tc:TE} {pos:Pos}
def aJ{pins:Va}{σ:St}{H:Hp}{s:Shared}{Q:VK}{k k':Bool}(I:Inv X pins σ H s)(q:Q (.bl k) H)(e:k=k'):EP X pins σ Q (.bool k') s:=by
 subst e
 exact⟨.bl k,H,I,rfl,q⟩
def o6:fS X (compareOp .Eq) zn:=by
 intro pins s σ H x y v u Q I rx ry h
 obtain⟨hs,q⟩:=h
 cases x with
 |non=>
  cases rx
  cases y with
  |non=>cases ry;exact PySem.EqNone.eq_none_none (aJ I q (by simp))
  |bl j=>cases ry;exact PySem.EqNone.eq_none_bool (aJ I q (by simp))
  |int j=>obtain⟨t',rfl⟩:=ry;exact PySem.EqNone.eq_none_int (aJ I q (by simp))
  |str j=>obtain⟨t',rfl⟩:=ry;exact PySem.EqNone.eq_none_str (aJ I q (by simp))
  |_=>exact absurd (show false=true from hs) Ie
 |bl i=>
  cases rx
  cases y with
  |non=>cases ry;exact PySem.EqNone.eq_bool_none (aJ I q (by simp))
  |bl j=>cases ry;exact eq_bool (aJ I q o0)
  |str j=>obtain⟨t',rfl⟩:=ry;exact PySem.EqMixed.eq_bool_str (aJ I q (by simp))
  |_=>exact absurd (show false=true from hs) Ie
 |int i=>
  obtain⟨t,rfl⟩:=rx
  cases y with
  |non=>cases ry;exact PySem.EqNone.eq_int_none (aJ I q (by simp))
  |int j=>obtain⟨t',rfl⟩:=ry;exact eq_int (aJ I q mM)
  |str j=>obtain⟨t',rfl⟩:=ry;exact PySem.EqMixed.eq_int_str (aJ I q (by simp))
  |_=>exact absurd (show false=true from hs) Ie
 |str i=>
  obtain⟨t,rfl⟩:=rx
  cases y with
  |non=>cases ry;exact PySem.EqNone.eq_str_none (aJ I q (by simp))
  |bl j=>cases ry;exact PySem.EqMixed.eq_str_bool (aJ I q (by simp))
  |int j=>obtain⟨t',rfl⟩:=ry;exact PySem.EqMixed.eq_str_int (aJ I q (by simp))
  |str j=>obtain⟨t',rfl⟩:=ry;exact eq_str (aJ I q mN)
  |_=>exact absurd (show false=true from hs) Ie
 |C7 i=>
  obtain⟨t,rfl⟩:=rx
  cases y with
  |C7 j=>obtain⟨t',rfl⟩:=ry;exact PySem.W.eq_bytes (aJ I q mO)
  |_=>exact absurd (show false=true from hs) Ie
 |_=>cases y<;>exact absurd (show false=true from hs) Ie
def o7:fS X (compareOp .NotEq) zo:=by
 intro pins s σ H x y v u Q I rx ry h
 obtain⟨hs,q⟩:=h
 cases x with
 |non=>
  cases rx
  cases y with
  |non=>cases ry;exact PySem.EqNone.ne_none_none (aJ I q (by simp))
  |bl j=>cases ry;exact PySem.EqNone.ne_none_bool (aJ I q (by simp))
  |int j=>obtain⟨t',rfl⟩:=ry;exact PySem.EqNone.ne_none_int (aJ I q (by simp))
  |str j=>obtain⟨t',rfl⟩:=ry;exact PySem.EqNone.ne_none_str (aJ I q (by simp))
  |_=>exact absurd (show false=true from hs) Ie
 |bl i=>
  cases rx
  cases y with
  |non=>cases ry;exact PySem.EqNone.ne_bool_none (aJ I q (by simp))
  |bl j=>cases ry;exact ne_bool (aJ I q (IP not o0))
  |str j=>obtain⟨t',rfl⟩:=ry;exact PySem.EqMixed.ne_bool_str (aJ I q (by simp))
  |_=>exact absurd (show false=true from hs) Ie
 |int i=>
  obtain⟨t,rfl⟩:=rx
  cases y with
  |non=>cases ry;exact PySem.EqNone.ne_int_none (aJ I q (by simp))
  |int j=>obtain⟨t',rfl⟩:=ry;exact ne_int (aJ I q (IP not mM))
  |str j=>obtain⟨t',rfl⟩:=ry;exact PySem.EqMixed.ne_int_str (aJ I q (by simp))
  |_=>exact absurd (show false=true from hs) Ie
 |str i=>
  obtain⟨t,rfl⟩:=rx
  cases y with
  |non=>cases ry;exact PySem.EqNone.ne_str_none (aJ I q (by simp))
  |bl j=>cases ry;exact PySem.EqMixed.ne_str_bool (aJ I q (by simp))
  |int j=>obtain⟨t',rfl⟩:=ry;exact PySem.EqMixed.ne_str_int (aJ I q (by simp))
  |str j=>obtain⟨t',rfl⟩:=ry;exact ne_str (aJ I q (IP not mN))
  |_=>exact absurd (show false=true from hs) Ie
 |C7 i=>
  obtain⟨t,rfl⟩:=rx
  cases y with
  |C7 j=>obtain⟨t',rfl⟩:=ry;exact PySem.W.ne_bytes (aJ I q (IP not mO))
  |_=>exact absurd (show false=true from hs) Ie
 |_=>cases y<;>exact absurd (show false=true from hs) Ie
def wx:fS X (compareOp .Lt) (rF fun i j=>.bl (decide (i < j))):=uz fun _ _ _ _ _ _ _ q=>lt_int q
def wy:fS X (compareOp .Gt) (rF fun i j=>.bl (decide (j < i))):=uz fun _ _ _ _ _ _ _ q=>gt_int q
def wA:fS X (compareOp .GtE) (rF fun i j=>.bl (decide (j<=i))):=uz fun _ _ _ _ _ _ _ q=>ge_int q
def nI:fS X (compareOp .In) (fun x y H Q=>∃i j,x = .str i/\y = .str j/\Q (.bl (!(Builtin.Str.occurrences j i 0 j.length 1).isEmpty)) H):=by
 intro pins s σ H x y v u Q I rx ry h
 obtain⟨i,j,rfl,rfl,q⟩:=h
 obtain⟨t,rfl⟩:=rx
 obtain⟨t',rfl⟩:=ry
 exact in_str (aJ I q rfl)
def rH:fS X (compareOp .IsNot) (fun x y H Q=>y = .non/\Q (.bl (!decide (x = .non))) H):=by
 intro pins s σ H x y v u Q I rx ry h
 obtain⟨rfl,q⟩:=h
 cases ry
 refine isnot_none_gen (aJ I q ?_)
 cases x<;>first
  |(cases rx;rfl)
  |(obtain⟨t,rfl⟩:=rx;rfl)
def aY(b:Expr){op:CmpOp}(h:op ≠ .In:=by decide)(h2:op ≠ .NotIn:=by decide):behindInMarks op b=false:=by
 have e1:(op == CmpOp.In)=false:=by cases op<;>first|rfl|exact absurd rfl h
 have e2:(op == CmpOp.NotIn)=false:=by cases op<;>first|rfl|exact absurd rfl h2
 cases b<;>simp[behindInMarks,e1,e2]
def rJ{op:CmpOp}{r:R2}(ho:fS X (compareOp op) r)(ha:PE X a ta)(hb:PE X b tb)(hm:behindInMarks op b=false):PE X (.Compare a [op] [b] pos) (wq r ta tb):=by
 intro pins s σ H Q I h
 exact wpAny_Compare1 (uy ha hb I h fun v u s2 x y H2 I2 rx ry q=>ho pins s2 σ H2 x y v u Q I2 rx ry q) hm
def wB(t:TE):TT:=fun σ H Q=>t σ H fun x H'=>∃k,x = .bl k/\Q k H'
def rK{op:CmpOp}{r:R2}(ho:fS X (compareOp op) r)(ha:PE X a ta)(hb:PE X b tb)(hm:behindInMarks op b=false):PT X (.Compare a [op] [b] pos) (wB (wq r ta tb)):=by
 intro pins s σ H Q I h
 refine wpAny_isTrue_Compare1 (zP (ha pins s σ H _ I h) fun v s1 ⟨x,H1,I1,r1,q1⟩=>zP (hb pins s1 σ H1 _ I1 q1) fun u s2 ⟨y,H2,I2,r2,q2⟩=>
  zP (ho pins s2 σ H2 x y v u _ I2 r1 r2 q2) fun c s3 ⟨z,H3,I3,r3,k,e,q3⟩=>?_) hm
 subst e
 cases r3
 exact J3 ⟨H3,I3,q3⟩
def gE:(sizeLine:Nat) < 2 ^ 63:=by rw[sizeLine_eq];decide
def lV:fS X (binaryOp .Add) (fun x y H Q=>∃i j,x = .str i/\y = .str j/\i.length+j.length<=sizeLine/\Q (.str (i++j)) H):=by
 intro pins s σ H x y v u Q I rx ry h
 obtain⟨i,j,rfl,rfl,hz,q⟩:=h
 obtain⟨t,rfl⟩:=rx
 obtain⟨t',rfl⟩:=ry
 exact add_str (fun t' tk=>⟨.str (i++j),H,I.tok _,⟨_,rfl⟩,q⟩) hz
def fU{x:V}{us:Vv}(r:Vals [x] us):∃u,us=[u]/\RelV x u:=by
 cases r with
 |cons r1 r2=>cases r2;exact⟨_,rfl,r1⟩
def o8{x y:V}{us:Vv}(r:Vals [x,y] us):∃u w',us=[u,w']/\RelV x u/\RelV y w':=by
 cases r with
 |cons r1 r2=>
  cases r2 with
  |cons r3 r4=>cases r4;exact⟨_,_,rfl,r1,r3⟩
def nJ(hc:X.calm=true):fT X (.builtin "max") (fun xs H Q=>∃i j,xs=[.int i,.int j]/\Q (.int (if j > i then j else i)) H):=by
 intro pins s σ H xs us Q I r h
 obtain⟨i,j,rfl,q⟩:=h
 obtain⟨u,w',rfl,⟨t,rfl⟩,⟨t',rfl⟩⟩:=o8 r
 refine max_two_ints (I.ok.hd hc) fun h' tk k=>⟨_,H,I.kept k,?_,q⟩
 by_cases hj:j > i
 ·rw[if_pos hj,if_pos hj];exact⟨_,rfl⟩
 ·rw[if_neg hj,if_neg hj];exact⟨_,rfl⟩
end
def RelO.some_of{v:V}{o:Option Value}(r:RelO (some v) o):∃u,o=some u/\RelV v u:=by
 cases o with
 |none=>exact(show False from r).elim
 |some u=>exact⟨u,rfl,r⟩
structure Room (k:Nat) (A:Around):Prop where
 hd:A.handled=none
 dp:A.depth+3 * k+5 < recursionLimit
 un:A.units+16 * k+200 < cLine
 gd:A.guards=some []
def Room.mono{j k:Nat}{A:Around}(r:Room k A)(h:j<=k):Room j A:=⟨r.hd,by have:=r.dp;omega,by have:=r.un;omega,r.gd⟩
theorem Room.deeper{k:Nat}{A:Around}(r:Room (k+1) A)(env:Env):Room k (A.deeper env):=
 ⟨r.hd,by have:=r.dp;show A.depth+1+3 * k+5 < _;omega,by have:=r.un;show A.units+3+16 * k+200 < _;omega,r.gd⟩
theorem Room.depth{k:Nat}{A:Around}(r:Room k A):A.depth < recursionLimit:=by have:=r.dp;omega
def wC:TA:=fun _ H Q=>Q [] H
def tJ(ta:TE)(tr:TA):TA:=fun σ H Q=>ta σ H fun x H1=>tr σ H1 fun xs H2=>Q (x::xs) H2
section
variable {X:Cx} {e:Expr} {es:List Expr} {te:TE} {t:TA} {pos:Pos}
def uF:PA X [] wC:=fun _ _ _ _ H Q I h=>JI ⟨[],H,I,.nil,h⟩
def rL(ha:PE X e te)(hr:PA X es t)(hs:starEach (e::es) X.env=(false,eval e X.env)::starEach es X.env:=by rfl):PA X (e::es) (tJ te t):=by
 intro pos pins s σ H Q I h
 rw[hs]
 show wpAny _ _ (spliced ((false,eval e X.env)::backTo pos (starEach es X.env))) _ _ s
 refine Jb (zP (ha pins s σ H _ I h) fun u s1 ⟨x,H1,I1,r1,q1⟩=>?_)
 exact zP (hr pos pins s1 σ H1 _ I1 q1) fun us s2 ⟨xs,H2,I2,r2,q2⟩=>⟨x::xs,H2,I2,.cons r1 r2,q2⟩
def ym(t:TA):TE:=fun σ H Q=>t σ H fun xs H1=>xs.length<=sizeLine/\∀p,H1 p=none->Q (.ref p) (upd H1 p (.tup xs))
def yn(t:TA):TE:=fun σ H Q=>t σ H fun xs H1=>xs.length<=sizeLine/\∀p,H1 p=none->Q (.ref p) (upd H1 p (.lst xs))
def uG{x1}(h:PA X es t):PE X (.Tuple es x1 pos) (ym t):=by
 intro pins s σ H Q I hq
 refine wpAny_Tuple_spliced (zP (h pos pins s σ H _ I hq) fun us s1 ⟨xs,H1,I1,r,z,q⟩=>⟨by rw[<-r.length];exact z,?_⟩)
 have hf:H1 s1.heap.objs.size=none:=I1.hok.fresh (HF _)
 refine⟨.ref s1.heap.objs.size,upd H1 s1.heap.objs.size (.tup xs),I1.laid (t':=s1.toks) (fun b u e=>HE _ e) (HF _) ?_,rfl,q _ hf⟩
 exact⟨z,us,r,⟨_,HV _ rfl,rfl,rfl,_,rfl⟩⟩
def uH(h:PA X es t):PE X (.List es pos) (yn t):=by
 intro pins s σ H Q I hq
 refine wpAny_List_spliced (zP (h pos pins s σ H _ I hq) fun us s1 ⟨xs,H1,I1,r,z,q⟩=>⟨by rw[<-r.length];exact z,?_⟩)
 have hf:H1 s1.heap.objs.size=none:=I1.hok.fresh (HF _)
 refine⟨.ref s1.heap.objs.size,upd H1 s1.heap.objs.size (.lst xs),I1.laid (t':=s1.toks) (fun b u e=>HE _ e) (HF _) ?_,rfl,q _ hf⟩
 exact⟨z,us,0,r,HV _ rfl⟩
end
abbrev Sp:=List V->Hp->VK->XK->Prop
abbrev q9:=List Env->Hp->Shared->XK->Value->Shared->Prop
structure rM (P:Program) (w:World) (K:Vo) (mg:Vr) (base:Heap) (A:Around) (outer:List Env) (s:Shared) (H:Hp):Prop where
 frames:A.frames=some outer
 mod:Mod K mg base
 bs:∀b o,base.get? b=some o->s.heap.get? b=some o/\H b=none
 Du:base.objs.size<=s.heap.objs.size
 BM:s.heap.FunFrames base outer
 DU:∀b∈frs outer,H b=none
 hok:Bm P w H s.heap
 bare:AllBare s.gens
def CE(outer:List Env)(P:Program)(w:World)(H:Hp)(s:Shared)(Q:VK)(u:Value)(s':Shared):Prop:=
 ∃v H',s'.os=s.os/\AllBare s'.gens/\Un (frs outer) [] H H' s.heap s'.heap/\Bm P w H' s'.heap/\RelV v u/\Q v H'
def CR(CX:q9)(outer:List Env)(P:Program)(w:World)(H:Hp)(s:Shared)(Q:VK)(E:XK)(r:Result)(s':Shared):Prop:=
 match r with
 | .ok (.ret u)=>CE outer P w H s Q u s'
 | .ok _=>False
 | .error e=>CX outer H s E e s'
structure jx (P:Program) (w:World) (K:Vo) (mg:Vr) (base:Heap) (CX:q9) (k:Nat) (f:Addr) (fd:FuncData) (ps:Vs) (sp:Sp):Prop where
 len:∀vs H Q E,sp vs H Q E->vs.length=ps.length
 run:∀(A:Around) (outer:List Env) (s:Shared) (H:Hp) (args:Args) (us:Vv) (vs:List V) (Q:VK) (E:XK),Room k A->rM P w K mg base A outer s H->BindsTo s fd args (ps.zip us)->Vals vs us->sp vs H Q E->
  codeAny (model P w) A (.call (.ref f) args) (CR CX outer P w H s Q E) s
section
variable {X:Cx} {pins:Va} {σ:St} {H:Hp} {s s':Shared}
def Inv.Fl(I:Inv X pins σ H s):rM X.prog X.w X.K X.mg X.base X.A X.stack s H:=
 ⟨I.ok.frames,I.ok.mod,I.bs,HX I.ok.Du I.sz,I.stack,I.CK,I.hok,I.bare⟩
def Inv.after{Q:VK}{u:Value}(I:Inv X pins σ H s)(h:CE X.stack X.prog X.w H s Q u s'):EP X pins σ Q u s':=by
 obtain⟨v,H',os,bare,un,hok,r,q⟩:=h
 obtain⟨hh,g,d,t,os'⟩:=s'
 obtain rfl:os'=s.os:=os
 exact⟨v,H',I.call (h':=hh) (g':=g) (d':=d) (t':=t) (ch:=[]) un hok bare (fun b z=>absurd z (by simp)),r,q⟩
end
def wD(sp:Sp)(dvs:List V)(E:XK)(t:TA):TE:=fun σ H Q=>t σ H fun vs H1=>sp (vs++dvs) H1 Q E
def Binds(K:Vo)(fd:FuncData)(ps:Vs)(ds:Vv):Prop:=
 ∀(s:Shared) (us:Vv),K.In s.heap->(us++ds).length=ps.length->BindsTo s fd ⟨us,[]⟩ (ps.zip (us++ds))
def Binds.all{K:Vo}{fd:FuncData}{ps:Vs}(h:∀us:List Value,us.length=ps.length->bindArgs fd ⟨us,[]⟩=pure (ps.zip us)):Binds K fd ps []:=fun s us _ hl=>by
 rw[Ip]at hl ⊢
 exact .of_eq (h us hl)
def lW(CX:q9)(X:Cx)(E:XK):Prop:=∀(pins:Va) (σ:St) (H:Hp) (s:Shared) (e:Value) (s':Shared),Inv X pins σ H s->CX X.stack H s E e s'->X.xe e s'
section
variable {X:Cx} {CX:q9} {k:Nat} {f C:Addr} {fd:FuncData} {ps:Vs} {sp:Sp} {dvs:List V} {ds:Vv} {E:XK} {x m:Str} {p pos apos:Pos} {e o:Expr} {es:List Expr} {ta:TE} {t:TA}
def uI{pins:Va}{σ:St}{H:Hp}{s:Shared}{Q:VK}{us:Vv}{vs:List V}(F:jx X.prog X.w X.K X.mg X.base CX k f fd ps sp)(hr:Room k X.A)(hb:Binds X.K fd ps ds)(hd:Vals dvs ds)(hx:lW CX X E)
  (I:Inv X pins σ H s) (r:Vals vs us) (h:sp (vs++dvs) H Q E):wpAny (model X.prog X.w) X.A (call (.ref f) us) (EP X pins σ Q) X.xe s:=by
 have r2:Vals (vs++dvs) (us++ds):=r.append hd
 have hl:(us++ds).length=ps.length:=by rw[<-r2.length];exact F.len _ _ _ _ h
 refine wpAny_call (codeAny_mono (F.run X.A X.stack s H ⟨us,[]⟩ (us++ds) (vs++dvs) Q E hr I.Fl (hb s us I.C9 hl) r2 h) fun r s' hq=>?_)
 cases r with
 |error e=>exact hx pins σ H s e s' I hq
 |ok fl=>
  cases fl with
  |ret u=>exact I.after hq
  |next=>exact False.elim hq
  |brk=>exact False.elim hq
  |cont=>exact False.elim hq
def mP(F:jx X.prog X.w X.K X.mg X.base CX k f fd ps sp)(hr:Room k X.A)(hg:Gl X x)(hm:X.mg x=some (.ref f))(hk:PySem.W.keepIn X.K (.ref f)=true)(hb:Binds X.K fd ps ds)(hd:Vals dvs ds)(hx:lW CX X E)
  (ha:PA X (e::es) t) (hdb:(x == ("__debug__":Str))=false:=by decide) (he:starEach (e::es) X.env=(false,eval e X.env)::starEach es X.env:=by rfl) (hpl:(backTo pos (starEach es X.env)).any (·.1)=false:=by rfl) :
  PE X (.Call (.Name x p) (e::es) [] pos) (wD sp dvs E t):=by
 intro pins s σ H Q I h
 refine Jj (mK I hg hm ?_ hdb)
 refine PySem.W.callWith_K (h₀:=X.base) I.ok.mod.Fe hk (zP (ha pos pins s σ H _ I h) fun us s1 ⟨vs,H1,I1,r,q⟩=>⟨I1.C9,?_⟩) he hpl
 exact uI F hr hb hd hx I1 r q
end
structure cy (N P:Vs) (sc:Scope):Prop where
 kind:sc.kind = .function
 co:sc.isCoroutine=false
 gen:sc.isGenerator=false
 nd:N.Nodup
 pre:N.take P.length=P
 par:∀x∈P,sc.names.lookup x=some .local\/sc.names.lookup x=some .cell
 DY:∀y∈sc.names,y.2 ≠ .free
theorem jJ{kindOf:Str->Option NameKind}{x:Str}:∀{binds:List (Str×Value)} {m:Vr},(∀v,(x,v) ∉ binds)->bindL kindOf binds m x=m x
 |[],_,_=>rfl
 |(n,v)::r,m,h=>by
  unfold bindL
  rw[jJ fun w hw=>h w (Jd _ hw)]
  split
  ·have:x≠n:=by rintro rfl;exact h v Ja
   simp[this]
  ·rfl
theorem jK{kindOf:Str->Option NameKind}{x:Str}:∀{binds:List (Str×Value)} {m:Vr},(∀v,(x,v) ∉ binds)->bindC kindOf binds m x=m x
 |[],_,_=>rfl
 |(n,v)::r,m,h=>by
  unfold bindC
  rw[jK fun w hw=>h w (Jd _ hw)]
  split
  ·rfl
  ·have:x≠n:=by rintro rfl;exact h v Ja
   simp[this]
theorem jL{kindOf:Str->Option NameKind}{x:Str}{v:Value}:∀{P:Vs} {vs:Vv} {i:Nat} {m:Vr},P.Nodup->P[i]?=some x->vs[i]?=some v->kindOf x=some .local->
  bindL kindOf (P.zip vs) m x=some v
 |[],_,_,_,_,h,_,_=>by simp at h
 |_::_,[],_,_,_,_,h,_=>by simp at h
 |p::P,w::vs,0,m,nd,h1,h2,hk=>by
  simp at h1 h2;subst h1;subst h2
  show bindL kindOf ((p,w)::P.zip vs) m p=_
  unfold bindL
  rw[jJ fun v hv=>(IU.mp nd).1 (K6 hv).1,if_pos hk]
  simp
 |p::P,w::vs,i+1,m,nd,h1,h2,hk=>by
  show bindL kindOf ((p,w)::P.zip vs) m x=_
  unfold bindL
  exact jL (i:=i) (IU.mp nd).2 (by simpa using h1) (by simpa using h2) hk
theorem jM{kindOf:Str->Option NameKind}{x:Str}{v:Value}:∀{P:Vs} {vs:Vv} {i:Nat} {m:Vr},P.Nodup->P[i]?=some x->vs[i]?=some v->kindOf x≠some .local->
  bindC kindOf (P.zip vs) m x=some v
 |[],_,_,_,_,h,_,_=>by simp at h
 |_::_,[],_,_,_,_,h,_=>by simp at h
 |p::P,w::vs,0,m,nd,h1,h2,hk=>by
  simp at h1 h2;subst h1;subst h2
  show bindC kindOf ((p,w)::P.zip vs) m p=_
  unfold bindC
  rw[jK fun v hv=>(IU.mp nd).1 (K6 hv).1,if_neg hk]
  simp
 |p::P,w::vs,i+1,m,nd,h1,h2,hk=>by
  show bindC kindOf ((p,w)::P.zip vs) m x=_
  unfold bindC
  exact jM (i:=i) (IU.mp nd).2 (by simpa using h1) (by simpa using h2) hk
noncomputable def d4(N:Vs)(vs:List V):St:=vs.map some++List.replicate (N.length - vs.length) none
noncomputable def k4(CX:q9)(P:Program)(w:World)(K:Vo)(mg:Vr)(base:Heap)(N:Vs)(qual:Str)(scope:Scope)(f:Addr)(cd:Value)(A:Around)(outer:List Env)(s:Shared)(H:Hp)(E:XK):Cx where
 prog:=P
 w:=w
 K:=K
 mg:=mg
 base:=base
 A:=A.deeper (envOfC qual scope s.heap.objs.size f cd)
 N:=N
 s₀:=s
 H₀:=H
 env:=envOfC qual scope s.heap.objs.size f cd
 outer:=outer
 stack:=envOfC qual scope s.heap.objs.size f cd::outer
 ex:=[]
 calm:=true
 fn:=fun _=>true
 pn:=[]
 xe:=fun e s'=>wpAny (model P w) (A.deeper (envOfC qual scope s.heap.objs.size f cd)) (leaving (envOfC qual scope s.heap.objs.size f cd) e) (fun _ s''=>CX outer H s E e s'') (fun e' s''=>CX outer H s E e' s'') s'
def k5{sc:Scope}{n:Nat}{x:Str}(h:sc.names.lookup x=some .cell):∃c,(cellsFrom n sc.names []).lookup x=some c:=by
 have q:=PySem.W.cellsFrom_some sc.names n [] (.inl h)
 exact Option.isSome_iff_exists.mp q
def nK{CX:q9}{P:Program}{w:World}{K:Vo}{mg:Vr}{base:Heap}{N ps:Vs}{qual:Str}{scope:Scope}{f:Addr}{cd:Value}{A:Around}{outer:List Env}{s s1:Shared}{H:Hp}{E:XK}{us:Vv}{vs:List V}
  (S:cy N ps scope) (hd:A.handled=none) (e0:rM P w K mg base A outer s H) (hl:vs.length=ps.length) (r:Vals vs us)
  (x:InCallC s s.heap.objs.size (bindL (envOfC qual scope s.heap.objs.size f cd).kindOf (ps.zip us) fun _=>none) (cellsFrom (s.heap.objs.size+1) scope.names []) (bindC (envOfC qual scope s.heap.objs.size f cd).kindOf (ps.zip us) fun _=>none) s1) :
  Inv (k4 CX P w K mg base N qual scope f cd A outer s H E) [] (d4 N vs) H s1:=by
 have hpl:ps.length<=N.length:=by have:=IP List.length S.pre;rw[IV]at this;omega
 obtain⟨h1,tk,rfl,hk⟩:=x.done
 have Ey:∀b:Addr,b ∉ (k4 CX P w K mg base N qual scope f cd A outer s H E).ex:=fun b z=>absurd (show b∈([]:List Addr)from z) (by simp)
 refine⟨⟨e0.mod,S.kind,rfl,rfl,HF _,fun y z c h1 h2=>?_,fun y hy=>?_,fun y c _ h=>?_,fun _=>hd,Around.frames_deeper e0.frames,.inr ⟨rfl,rfl⟩,fun b z=>absurd z (Ey b),e0.bs,e0.Du,fun b _ _=>Ey b,fun b z=>absurd z (Ey b),e0.BM,e0.DU⟩,
  rfl,e0.bare,Un.kept hk,⟨_,x.toInCall.ns,fun i y v h1 h2 h3=>?_⟩,fun y c h=>⟨_,x.cell y c h⟩,e0.hok.fresh (HF _),fun y c h=>?_,fun p hp=>absurd (show p∈([]:Va)from hp) (by simp),e0.hok.kept hk,?_⟩
 ·exact name_of_addr x.apart (Jz h1) (Jz h2)
 ·have hy:scope.names.lookup y=some .cell\/scope.names.lookup y=some .free:=hy
  rcases hy with hy|hy
  ·exact k5 hy
  ·exact absurd rfl (S.DY _ (Jz hy))
 ·exact KC (x.above y c (Jz h))
 ·have hi:i < vs.length:=by
   unfold d4 at h2
   by_cases hi:i < vs.length
   ·exact hi
   ·rw[IE (by simpa using hi)]at h2
    rw[Ju]at h2
    split at h2<;>cases h2
  have ha:vs[i]?=some v:=by
   unfold d4 at h2
   rw[Iz (by simpa using hi),HR]at h2
   cases e:vs[i]? with
   |none=>rw[e]at h2;cases h2
   |some a=>rw[e]at h2;cases h2;rfl
  obtain⟨u,hu,rv⟩:=r.get ha
  have hp:ps[i]?=some y:=by
   rw[<-S.pre,List.getElem?_take_of_lt (by omega)];exact h1
  have Gb:ps.Nodup:=by rw[<-S.pre];exact S.nd.sublist (Li _ _)
  refine⟨u,rv,?_⟩
  rcases S.par y (Ik hp)with k|k
  ·exact .inl ⟨k,jL Gb hp hu k⟩
  ·obtain⟨c,e⟩:=k5 (n:=s.heap.objs.size+1) k
   refine .inr ⟨.inl k,c,e,?_⟩
   have q:=x.cell y c e
   rw[jM Gb hp hu (by show scope.names.lookup y≠_;rw[k];decide)]at q
   exact q
 ·exact e0.hok.fresh (KC (x.above y c (Jz h)))
 ·unfold d4
  show _=N.length
  rw[HC,HD,ID]
  omega
def tK{CX:q9}{P:Program}{w:World}{K:Vo}{mg:Vr}{base:Heap}{k:Nat}{f:Addr}{name qual:Str}{params:Arguments}{body:List Stmt}{scope:Scope}{dV kV doc pm cdv ct oc:Value}{an od:Option Addr}
  {osl:Array (Option Value)} {N ps:Vs} {sp:Sp} (lk:K.lookup f=some ⟨oc,od,.func (PySem.W.fnOf name qual params body scope dV kV doc pm an cdv ct),osl⟩) (hcd:PySem.W.codeIn K cdv qual=true) (S:cy N ps scope)
  (len:∀vs H Q E,sp vs H Q E->vs.length=ps.length)
  (hbody:∀(A:Around) (outer:List Env) (s:Shared) (H:Hp) (vs:List V) (Q:VK) (E:XK),Room k (A.deeper (envOfC qual scope s.heap.objs.size f cdv))->sp vs H Q E->
   ∃t,Co (k4 CX P w K mg base N qual scope f cdv A outer s H E) body t/\t { nx:=fun _ H'=>Q .non H',rt:=Q } (d4 N vs) H) :
  jx P w K mg base CX (k+1) f (PySem.W.fnOf name qual params body scope dV kV doc pm an cdv ct) ps sp:=by
 refine⟨len,fun A outer s H args us vs Q E hr e0 hb r Do=>?_⟩
 have hl:=len _ _ _ _ Do
 have KX:K.In s.heap:=e0.mod.Fe.keeps fun b o e=>(e0.bs b o e).1
 have lim:s.heap.NoLimit:=e0.mod.nolimit.keeps fun b o e=>(e0.bs b o e).1
 have hkind:∀y∈ps.zip us,scope.names.lookup y.1=some .local\/(scope.names.lookup y.1=some .cell/\((cellsFrom (s.heap.objs.size+1) scope.names []).lookup y.1).isSome=true):=fun⟨n,v⟩ hy=>by
  rcases S.par n (K6 hy).1 with q|q
  ·exact .inl q
  ·exact .inr ⟨q,PySem.W.cellsFrom_some _ _ _ (.inl q)⟩
 refine codeAny_call_function hr.depth (KX _ _ lk) rfl S.co S.gen rfl (PySem.W.codeRec_of KX hcd) (hb _ _ _ _ ?_)
 refine wpAny_newFunctionEnv_cells S.kind hkind fun env he s1 x=>?_
 subst he
 refine⟨lim.keeps x.toInCall.keep,codeAny_func ?_⟩
 obtain⟨t,ht,hq⟩:=hbody A outer s H vs Q E (hr.deeper _) Do
 have I:Inv (k4 CX P w K mg base N qual scope f cdv A outer s H E) [] (d4 N vs) H s1:=nK S hr.hd e0 hl r x
 refine JR (ht [] s1 (d4 N vs) H _ I hq) (fun fl s' hs=>?_) fun e s' hs=>hs
 have fin:∀{σ':St} {H':Hp} {v:V} {u:Value},Inv (k4 CX P w K mg base N qual scope f cdv A outer s H E) [] σ' H' s'->RelV v u->Q v H'->CE outer P w H s Q u s':=
  fun{σ' H' v u} J rv q=>⟨v,H',J.os,J.bare,J.base,J.hok,rv,q⟩
 cases fl with
 |ret u=>
  obtain⟨v,σ',H',J,rv,q⟩:=hs
  exact fin J rv q
 |next=>
  obtain⟨σ',H',J,q⟩:=hs
  exact fin (v:=V.non) (u:=Value.none) J rfl q
 |brk=>
  obtain⟨_,_,_,q⟩:=hs
  exact False.elim q
 |cont=>
  obtain⟨_,_,_,q⟩:=hs
  exact False.elim q
section
variable {X:Cx} {x:Str} {p pos:Pos} {e:Expr} {es:List Expr} {t:TA} {id T:String} {r:List V->Hp->VK->Prop}
def y9(r:List V->Hp->VK->Prop)(t:TA):TE:=fun σ H Q=>t σ H fun vs H1=>r vs H1 Q
def o9(hc:fT X (.builtin id) r)(hg:Gl X x)(hm:X.mg x=none)(hv:bootBuiltins x=some (.builtin id))(ha:PA X (e::es) t)(hn:x ≠ "__name__":=by decide)(hdb:(x == ("__debug__":Str))=false:=by decide)
  (he:starEach (e::es) X.env=(false,eval e X.env)::starEach es X.env:=by rfl) (hpl:(backTo pos (starEach es X.env)).any (·.1)=false:=by rfl):PE X (.Call (.Name x p) (e::es) [] pos) (y9 r t):=by
 intro pins s σ H Q I h
 refine Jj (df I hg hm hv ?_ hn hdb)
 exact PyProof.Rows.callWith_builtin1 (zP (ha pos pins s σ H _ I h) fun us s1 ⟨vs,H1,I1,r1,q1⟩=>hc pins s1 σ H1 vs us Q I1 r1 q1) he hpl
def nL(hc:fT X (.type T) r)(hg:Gl X x)(hm:X.mg x=none)(hv:bootBuiltins x=some (.type T))(ha:PA X (e::es) t)(hn:x ≠ "__name__":=by decide)(hdb:(x == ("__debug__":Str))=false:=by decide)
  (he:starEach (e::es) X.env=(false,eval e X.env)::starEach es X.env:=by rfl) (hpl:(backTo pos (starEach es X.env)).any (·.1)=false:=by rfl):PE X (.Call (.Name x p) (e::es) [] pos) (y9 r t):=by
 intro pins s σ H Q I h
 refine Jj (df I hg hm hv ?_ hn hdb)
 exact Ir (zP (ha pos pins s σ H _ I h) fun us s1 ⟨vs,H1,I1,r1,q1⟩=>hc pins s1 σ H1 vs us Q I1 r1 q1) he hpl
end
end L2
namespace HT
open PySem PyProof.Rows
section
open PySem.SeqAt
open PySem.AutoSeq1 (wpAny_loadPart')
open PySem.MeetsSeq PySem.MeetsSeq2 PySem.MeetsSeq3
end
section
variable {prog:Program} {w:World} {A:Around} {E:Vq} {s:Shared}
def rN{t b:Addr}{vs ws:Vv}{Q:Vq}(ht:IsTup s.heap t vs.toArray)(hb:IsTup s.heap b ws.toArray)(hv:vs≠[])
  (h1:ws=[]->Q (.ref t) s) (h2:ws≠[]->Q (.ref s.heap.objs.size) { s with heap:=s.heap.push { cls:=.type "tuple",data:=.seq (vs++ws).toArray } })
  (hsz:vs.length+ws.length<=sizeLine):wpAny (model prog w) A (binaryOp .Add (.ref t) (.ref b)) Q E s:=by
 obtain⟨⟨cls,dd,data,sl⟩,ho,hc,n,hd⟩:=id ht
 obtain⟨⟨Fm,dd2,data2,sl2⟩,ho2,hc2,n2,hd2⟩:=id hb
 simp only at hc hd hc2 hd2
 subst hc hd hc2 hd2
 have e:vs.toArray++ws.toArray=(vs++ws).toArray:=by simp
 by_cases hw:ws=[]
 ·exact concat_meets ⟨_,ho,rfl⟩ ⟨_,ho2,rfl⟩ noFill_tuple_add seq_tuple_add KH Kz (Ko _ _)
   (tuple_addW1 t b vs.toArray ws.toArray n n2 dd dd2 sl sl2 (by simpa using hv) (by simp[hw])) ⟨ho,ho2,h1 hw⟩
 ·refine concat_meets ⟨_,ho,rfl⟩ ⟨_,ho2,rfl⟩ noFill_tuple_add seq_tuple_add KH Kz (Ko _ _)
   (tuple_addW2 t b vs.toArray ws.toArray n n2 dd dd2 sl sl2 (by simpa using hv) (by simpa using hw) (by rw[HH,HH];exact hsz)) ⟨ho,ho2,?_⟩
  rw[e]
  exact h2 hw
noncomputable def Aa(n d:Nat):Option Int->Nat
 |none=>d
 |some v=>if v < 0 then (v+(n:Int)).toNat else min v.toNat n
def iJ(n d:Nat):Aa n d none=d:=rfl
def mQ(n d k:Nat):Aa n d (some (k:Int))=min k n:=by
 show(if (k:Int) < 0 then ((k:Int)+(n:Int)).toNat else min (k:Int).toNat n)=min k n
 rw[if_neg (by omega),J4]
def uJ(n d:Nat)(hd:d<=n)(o:Option Int):Aa n d o<=n:=by
 cases o with
 |none=>exact hd
 |some v=>
  show(if v < 0 then (v+(n:Int)).toNat else min v.toNat n)<=n
  by_cases hv:v < 0
  ·rw[if_pos hv];omega
  ·rw[if_neg hv];exact Nat.min_le_right _ _
def mR(v:Int)(n d:Nat):(if v < 0 then max (v+(n:Int)) 0 else min v (n:Int))=((Aa n d (some v):Nat):Int):=by
 show(if v < 0 then max (v+(n:Int)) 0 else min v (n:Int))=(((if v < 0 then (v+(n:Int)).toNat else min v.toNat n):Nat):Int)
 by_cases hv:v < 0
 ·simp only[if_pos hv];omega
 ·simp only[if_neg hv];omega
def lX(lo hi:Option Int)(n:Nat):Builtin.Slice.sliceAdjust lo hi 1 (n:Int)=(((Aa n 0 lo:Nat):Int),((Aa n n hi:Nat):Int)):=by
 have h1:¬((1:Int) < 0):=by omega
 unfold Builtin.Slice.sliceAdjust
 simp only[h1,Iu]
 refine Prod.ext ?_ ?_
 ·cases lo with
  |none=>rfl
  |some v=>exact mR v n 0
 ·cases hi with
  |none=>rfl
  |some v=>exact mR v n n
def lY(i j:Nat):Builtin.Slice.slicePlaces (i:Int) (j:Int) 1=j - i:=by
 unfold Builtin.Slice.slicePlaces
 have h1:(1:Int) > 0:=by omega
 simp only[h1,II,Int.ediv_one]
 split<;>omega
def iK{v:Value}{o:Option Int}{Q:Option Int->Shared->Prop}(p:IsPart v o)(h:Q o s):wpAny (model prog w) A (Builtin.Slice.slicePartIndex v) Q E s:=by
 cases p with
 |none=>exact slicePart_none h
 |int i t=>exact slicePart_int h
def du{sl:Addr}{vl vu:Value}{lo hi:Option Int}{n:Nat}{Q:Int×Int×Nat->Shared->Prop}(hs:s.heap.IsSliceOf sl vl vu .none)(pl:IsPart vl lo)(pu:IsPart vu hi)
  (h:Q (((Aa n 0 lo:Nat):Int),1,Aa n n hi - Aa n 0 lo) s):wpAny (model prog w) A (Builtin.Slice.sliceApplied (.ref sl) (pure (n:Int))) Q E s:=by
 obtain⟨os,hos,hcs,hds⟩:=id hs
 unfold Builtin.Slice.sliceApplied Builtin.Slice.sliceFields
 refine HB (HB (Iw hos hds (x:=vl) rfl (HB (Iw hos hds (x:=vu) rfl (HB (Iw hos hds (x:=.none) rfl (HJ ?_)))))))
 refine HB (slicePart_none ?_)
 show wpAny _ _ (if ((1:Int) == 0)=true then _ else _) _ _ s
 rw[if_neg (by decide)]
 refine HB (iK pl (HB (iK pu (HB (HJ ?_)))))
 show wpAny _ _ (match Builtin.Slice.sliceAdjust lo hi 1 (n:Int)with|(lo,hi)=>pure (lo,(1:Int),Builtin.Slice.slicePlaces lo hi 1)) _ _ s
 rw[lX lo hi n]
 show wpAny _ _ (pure (((Aa n 0 lo:Nat):Int),(1:Int),Builtin.Slice.slicePlaces ((Aa n 0 lo:Nat):Int) ((Aa n n hi:Nat):Int) 1)) _ _ s
 rw[lY]
 exact HJ h
def o_(xs:Vw)(i k:Nat):((List.range k).filterMap fun(m:Nat)=>xs[((i:Int)+(m:Int) * 1).toNat]?).toArray=((xs.toList.drop i).take k).toArray:=by
 have e:(fun(m:Nat)=>xs[((i:Int)+(m:Int) * 1).toNat]?)=fun m=>xs[i+m]?:=by
  funext m
  have:((i:Int)+(m:Int) * 1).toNat=i+m:=by omega
  rw[this]
 rw[e]
 have:=pick_run xs i k
 rw[List.filterMap_map]at this
 have e2:((fun x=>xs[x]?) ∘ fun x=>i+x)=fun m=>xs[i+m]?:=rfl
 rw[e2]at this
 rw[this]
def fV{t sl:Addr}{items:Vw}{vl vu:Value}{lo hi:Option Int}{Q:Vq}(ht:IsTup s.heap t items)(hs:s.heap.IsSliceOf sl vl vu .none)(pl:IsPart vl lo)(pu:IsPart vu hi)
  (hw:¬(Aa items.size 0 lo=0/\Aa items.size items.size hi=items.size))
  (h:Q (.ref s.heap.objs.size) { s with heap:=s.heap.push { cls:=.type "tuple",data:=.seq ((items.toList.drop (Aa items.size 0 lo)).take (Aa items.size items.size hi - Aa items.size 0 lo)).toArray } })
  (hsz:items.size<=sizeLine):wpAny (model prog w) A (getItem (.ref t) (.ref sl)) Q E s:=by
 have CL:sizeOk (.seq ((items.toList.drop (Aa items.size 0 lo)).take (Aa items.size items.size hi - Aa items.size 0 lo)).toArray):=by
  show((items.toList.drop (Aa items.size 0 lo)).take (Aa items.size items.size hi - Aa items.size 0 lo)).toArray.size<=sizeLine
  rw[HH,IV,IF,Lb]
  omega
 have hj:Aa items.size items.size hi<=items.size:=uJ _ _ (HF _) hi
 obtain⟨os,hos,hcs,hds⟩:=id hs
 have Fn:s.TypeIs (.ref sl) "slice":=⟨os,hos,hcs⟩
 unfold getItem
 try with_reducible refine Jp ?_
 first|refine HB (HJ ?_)|skip
 refine HB (wpAny_sequenceKey ht.typeIs (by decide) ?_)
 refine HB (IG (name:=Str.ofString "__getitem__") ht.typeIs IC
  (Jk IC ht.typeIs entry_tuple_getitem ?_ (args_tuple_getitem _ _)))
 show wpAny _ _ (Builtin.Tuple.tupleItemsOf (.ref t) >>= _) _ _ s
 refine HB (tupleItemsOf_ ht ?_)
 refine HB (KJ Fn ?_)
 rw[if_pos (by decide)]
 refine HB (du hs pl pu ?_)
 have hno:¬((((Aa items.size 0 lo:Nat):Int) == 0&&(1:Int) == 1&&(Aa items.size items.size hi - Aa items.size 0 lo) == items.size)=true):=by
  intro q
  rw[Bool.and_eq_true,Bool.and_eq_true]at q
  have q1:((Aa items.size 0 lo:Nat):Int)=0:=eq_of_beq q.1.1
  have q2:Aa items.size items.size hi - Aa items.size 0 lo=items.size:=eq_of_beq q.2
  exact hw ⟨by omega,by omega⟩
 show wpAny _ _ (if (((Aa items.size 0 lo:Nat):Int) == 0&&(1:Int) == 1&&(Aa items.size items.size hi - Aa items.size 0 lo) == items.size)=true then _ else _) _ _ s
 rw[if_neg hno,o_]
 first
  |exact HB (m:=Builtin.Tuple.tupleExact _) (IQ (HJ ⟨_,rfl,HJ h⟩) CL)
  |exact HB (m:=Builtin.Tuple.tupleExact _) (IQ (HB (HJ (HJ ⟨_,rfl,HJ h⟩))) CL)
  |exact HB (HB (m:=Builtin.Tuple.tupleExact _) (IQ (HJ (HJ ⟨_,rfl,HJ h⟩)) CL))
  |exact HB (HB (m:=Builtin.Tuple.tupleExact _) (IQ (HJ ⟨_,rfl,HJ h⟩) CL))
end
end HT
namespace L2
open PySem PySem.Spec PyProof.Rows
abbrev TO:=St->Hp->(Option Int->Hp->Prop)->Prop
def PO(X:Cx)(e:Option Expr)(t:TO):Prop:=
 ∀(pins:Va) (s:Shared) (σ:St) (H:Hp) (Q:Option Int->Hp->Prop),Inv X pins σ H s->t σ H Q->
  wpAny (model X.prog X.w) X.A (evalPart e X.env) (fun u s'=>∃o H',Inv X pins σ H' s'/\IsPart u o/\Q o H') X.xe s
noncomputable def rO:TO:=fun _ H Q=>Q none H
noncomputable def wE(t:TE):TO:=fun σ H Q=>t σ H fun x H1=>∃i,x = .int i/\Q (some i) H1
section
variable {X:Cx} {e:Expr} {te:TE} {lo hi:Option Expr} {tl th:TO} {pos p2:Pos}
def rP:PO X none rO:=by
 intro pins s σ H Q I h
 rw[evalPart_none]
 exact HJ ⟨none,H,I,.none,h⟩
def rQ(h:PE X e te):PO X (some e) (wE te):=by
 intro pins s σ H Q I hw
 rw[evalPart_some]
 refine zP (h pins s σ H _ I hw) fun u s1 ⟨x,H1,I1,r1,q1⟩=>?_
 obtain⟨i,rfl,q⟩:=q1
 obtain⟨t,rfl⟩:=r1
 exact⟨some i,H1,I1,.int i t,q⟩
def vT(X:Cx)(r:V->Option Int->Option Int->Hp->VK->Prop):Prop:=
 ∀(pins:Va) (s:Shared) (σ:St) (H:Hp) (x:V) (v vl vu:Value) (lo hi:Option Int) (sl:Addr) (Q:VK),Inv X pins σ H s->RelV x v->s.heap.IsSliceOf sl vl vu .none->IsPart vl lo->IsPart vu hi->r x lo hi H Q->
  ∃T id,typeLookup (.type T) "__getitem__" = pure (some (.builtin id))/\s.TypeIs v T/\wpAny (model X.prog X.w) X.A (getItem v (.ref sl)) (EP X pins σ Q) X.xe s
def zp(r:V->Option Int->Option Int->Hp->VK->Prop)(te:TE)(tl th:TO):TE:=fun σ H Q=>te σ H fun x H1=>tl σ H1 fun l H2=>th σ H2 fun u H3=>r x l u H3 Q
def pe{r:V->Option Int->Option Int->Hp->VK->Prop}(hr:vT X r)(he:PE X e te)(hl:PO X lo tl)(hu:PO X hi th):PE X (.Subscript e (.Slice lo hi none p2) pos) (zp r te tl th):=by
 intro pins s σ H Q I h
 refine Subscript_ (zP (he pins s σ H _ I h) fun v s1 ⟨x,H1,I1,r1,q1⟩=>?_)
 refine wpAny_Slice (zP (hl pins s1 σ H1 _ I1 q1) fun vl s2 ⟨l,H2,I2,pl,q2⟩=>zP (hu pins s2 σ H2 _ I2 q2) fun vu s3 ⟨u,H3,I3,pu,q3⟩=>?_)
 rw[evalPart_none]
 refine HJ ?_
 have I4:Inv X pins σ H3 { s3 with heap:=s3.heap.push { cls:=.type "slice",data:=.fields #[vl,vu,.none] } }:=I3.kept (t':=s3.toks) fun b ob q=>HE _ q
 obtain⟨T,id,hT,ht,hg⟩:=hr pins { s3 with heap:=s3.heap.push { cls:=.type "slice",data:=.fields #[vl,vu,.none] } } σ H3 x v vl vu l u s3.heap.objs.size Q I4 r1 (Heap.IsSliceOf.new ..) pl pu q3
 show wpAny (model X.prog X.w) X.A (subscriptTail e (.Slice lo hi none p2) v (.ref s3.heap.objs.size)) (EP X pins σ Q) X.xe { s3 with heap:=s3.heap.push { cls:=.type "slice",data:=.fields #[vl,vu,.none] } }
 exact tail_any (ops:=[.ref s3.heap.objs.size,v]) ht hT hg (by with_unfolding_all rfl)
noncomputable def iL(xs:List V)(lo hi:Option Int):List V:=(xs.drop (HT.Aa xs.length 0 lo)).take (HT.Aa xs.length xs.length hi - HT.Aa xs.length 0 lo)
def hV(xs:List V)(lo hi:Option Int):(iL xs lo hi).length<=xs.length:=by
 unfold iL
 rw[IV,IF]
 omega
noncomputable def yo(K:Vo):V->Option Int->Option Int->Hp->VK->Prop:=fun x lo hi H Q=>∃a xs,x = .ref a/\SqT K H a xs/\
 ¬(HT.Aa xs.length 0 lo=0/\HT.Aa xs.length xs.length hi=xs.length)/\∀p,H p=none->Q (.ref p) (upd H p (.tup (iL xs lo hi)))
def uK:vT X (yo X.K):=by
 intro pins s σ H x v vl vu lo hi sl Q I rx hs pl pu h
 obtain⟨a,xs,rfl,hx,hw,q⟩:=h
 cases rx
 obtain⟨its,r,ht,hz⟩:=I.tuple hx
 have hlen:its.toArray.size=xs.length:=by rw[HH];exact r.length.symm
 refine⟨"tuple",_,IC.lookup,ht.typeIs,?_⟩
 refine HT.fV ht hs pl pu (by rw[hlen];exact hw) ?_ (by rw[hlen];exact hz)
 rw[hlen]
 refine⟨.ref s.heap.objs.size,_,I.laid (t':=s.toks) (o:=.tup (iL xs lo hi)) (fun b ob q=>HE _ q) (HF _) ?_,rfl,q _ (I.hok.fresh (HF _))⟩
 exact⟨HX (hV xs lo hi) hz,_,(r.drop (HT.Aa xs.length 0 lo)).take (HT.Aa xs.length xs.length hi - HT.Aa xs.length 0 lo),Ak.new _ _⟩
def wF(K:Vo):R2:=fun x y H Q=>∃a b xs ys,x = .ref a/\y = .ref b/\SqT K H a xs/\SqT K H b ys/\xs≠[]/\xs.length+ys.length<=sizeLine/\
 (ys=[]->Q (.ref a) H)/\(ys≠[]->∀p,H p=none->Q (.ref p) (upd H p (.tup (xs++ys))))
def Vals.B9{xs:List V}{us:Vv}(r:Vals xs us):us=[]↔xs=[]:=by
 cases r with
 |nil=>simp
 |cons _ _=>simp
def rR:fS X (binaryOp .Add) (wF X.K):=by
 intro pins s σ H x y v u Q I rx ry h
 obtain⟨a,b,xs,ys,rfl,rfl,ha,hb,hx,hz,q1,q2⟩:=h
 cases rx
 cases ry
 obtain⟨its,r1,p1,_⟩:=I.tuple ha
 obtain⟨its2,r2,p2,_⟩:=I.tuple hb
 refine HT.rN p1 p2 (fun z=>hx (r1.B9.mp z)) (fun z=>⟨.ref a,H,I,rfl,q1 (r2.B9.mp z)⟩) (fun z=>?_) (by rw[<-r1.length,<-r2.length];exact hz)
 refine⟨.ref s.heap.objs.size,_,I.laid (t':=s.toks) (o:=.tup (xs++ys)) (fun b ob q=>HE _ q) (HF _) ?_,rfl,q2 (fun w=>z (r2.B9.mpr w)) _ (I.hok.fresh (HF _))⟩
 exact⟨by rw[HC];exact hz,_,r1.append r2,Ak.new _ _⟩
end
noncomputable def nM(n:Nat)(i:Int):Option Nat:=if 0<=i then (if i < n then some i.toNat else none) else if -(n:Int)<=i then some (i+n).toNat else none
noncomputable def Ar{α:Type}(xs:List α)(i:Int):Option α:=(nM xs.length i).bind fun j=>xs[j]?
def mS{n:Nat}{i:Int}{j:Nat}(h:nM n i=some j):seqIndex? i n=some j/\j < n/\-(n:Int)<=i/\i < n:=by
 unfold nM at h
 by_cases h0:0<=i
 ·rw[if_pos h0]at h
  by_cases h1:i < n
  ·rw[if_pos h1]at h
   have e:i.toNat=j:=IL h
   exact⟨by rw[seqIndex_of h0 h1,e],by omega,by omega,h1⟩
  ·rw[if_neg h1]at h;cases h
 ·rw[if_neg h0]at h
  by_cases h1:-(n:Int)<=i
  ·rw[if_pos h1]at h
   have e:(i+n).toNat=j:=IL h
   exact⟨by rw[seqIndex_neg (by omega) h1,e],by omega,h1,by omega⟩
  ·rw[if_neg h1]at h;cases h
def kf{α:Type}{xs:List α}{i:Int}{v:α}(h:Ar xs i=some v):∃j,seqIndex? i xs.length=some j/\xs[j]?=some v/\j < xs.length/\-(xs.length:Int)<=i/\i < xs.length:=by
 unfold Ar at h
 cases e:nM xs.length i with
 |none=>rw[e]at h;cases h
 |some j=>
  rw[e]at h
  obtain⟨h1,h2,h3,h4⟩:=mS e
  exact⟨j,h1,h,h2,h3,h4⟩
def cz{α:Type}{xs:List α}{j:Nat}{v:α}(h:xs[j]?=some v):Ar xs (j:Int)=some v:=by
 have hj:j < xs.length:=(Ih.mp h).1
 have e:nM xs.length (j:Int)=some j:=by
  unfold nM
  rw[if_pos (by omega),if_pos (by omega)];simp
 unfold Ar;rw[e];exact h
def iB(b:Expr):Prop:=∀o i,subscripted b false o i=operate [o,i] (getItem o i)
def vU(X:Cx)(r:R2):Prop:=
 ∀(value slice:Expr) (pins:Va) (s:Shared) (σ:St) (H:Hp) (x y:V) (v u:Value) (Q:VK),Inv X pins σ H s->RelV x v->RelV y u->r x y H Q->
  subscripted slice false v u=operate [v,u] (getItem v u)->wpAny (model X.prog X.w) X.A (subscriptTail value slice v u) (EP X pins σ Q) X.xe s
def uL(X:Cx)(id:String)(r:V->List V->Hp->VK->Prop):Prop:=
 ∀(pins:Va) (s:Shared) (σ:St) (H:Hp) (x:V) (xs:List V) (v:Value) (us:Vv) (Q:VK),Inv X pins σ H s->RelV x v->Vals xs us->r x xs H Q->
  wpAny (model X.prog X.w) X.A (call (.builtin id) (v::us)) (EP X pins σ Q) X.xe s
section
variable {X:Cx} {a b:Expr} {ta tb:TE} {pos:Pos}
def wG{r:R2}(hr:vU X r)(ha:PE X a ta)(hb:PE X b tb)(hs:iB b):PE X (.Subscript a b pos) (wq r ta tb):=by
 intro pins s σ H Q I h
 exact Subscript_ (uy ha hb I h fun v u s2 x y H2 I2 rx ry q=>hr a b pins s2 σ H2 x y v u Q I2 rx ry q (hs _ _))
def yp(K:Vo):R2:=fun x y H Q=>∃p xs i v,x = .ref p/\y = .int i/\SqL K H p xs/\Ar xs i=some v/\Q v H
def yq(K:Vo):R2:=fun x y H Q=>∃p xs i v,x = .ref p/\y = .int i/\SqT K H p xs/\Ar xs i=some v/\Q v H
def yr:R2:=fun x y H Q=>∃z i c,x = .str z/\y = .int i/\z.length<=sizeLine/\Ar z.cps.toList i=some c/\Q (.str ⟨#[c]⟩) H
def mT:vU X (yp X.K):=by
 intro value slice pins s σ H x y v u Q I rx ry h hs
 obtain⟨p,xs,i,z,rfl,rfl,hq,he,q⟩:=h
 cases rx
 obtain⟨t,rfl⟩:=ry
 obtain⟨its,r,pl,hz⟩:=I.list hq
 obtain⟨j,h1,h2,h3,h4,h5⟩:=kf he
 obtain⟨w,ew,rw'⟩:=r.get h2
 have hl:=r.length
 have hn:=gE
 have fin:EP X pins σ Q w s:=⟨z,H,I,rw',q⟩
 by_cases h0:0<=i
 ·have hj:i.toNat=j:=by
   rw[seqIndex_of h0 h5]at h1
   exact IL h1
  exact item_listR pl.isList h0 (by omega) (by rw[hj];simpa using ew) fin hs
 ·have hj:(i+(its.toArray.size:Int)).toNat=j:=by
   rw[seqIndex_neg (by omega) h4]at h1
   rw[HH,<-hl]
   exact IL h1
  exact subscriptTail_builtinR (x:=w) pl.isList.typeIs slot_list_getitem.lookup
   (wpAny_getItem_list_neg (Q:=fun r s'=>r=w/\EP X pins σ Q r s') pl.isList (by omega) (by rw[HH]<;>omega) (by omega) (by rw[hj];simpa using ew) ⟨rfl,fin⟩) hs
def uM:vU X (yq X.K):=by
 intro value slice pins s σ H x y v u Q I rx ry h hs
 obtain⟨p,xs,i,z,rfl,rfl,hq,he,q⟩:=h
 cases rx
 obtain⟨t,rfl⟩:=ry
 obtain⟨its,r,pl,hz⟩:=I.tuple hq
 obtain⟨j,h1,h2,h3,h4,h5⟩:=kf he
 obtain⟨w,ew,rw'⟩:=r.get h2
 have hl:=r.length
 have hn:=gE
 have fin:EP X pins σ Q w s:=⟨z,H,I,rw',q⟩
 exact subscriptTail_builtinR (x:=w) pl.typeIs slot_tuple_getitem.lookup
  (getItem_tuple (j:=j) (Q:=fun r s'=>r=w/\EP X pins σ Q r s') pl (by omega) (by omega) (by rw[HH,<-hl];exact h1) (by simpa using ew) ⟨rfl,fin⟩) hs
def uN:vU X yr:=by
 intro value slice pins s σ H x y v u Q I rx ry h hs
 obtain⟨z,i,c,rfl,rfl,hz,he,q⟩:=h
 obtain⟨t,rfl⟩:=rx
 obtain⟨t',rfl⟩:=ry
 obtain⟨j,h1,h2,h3,h4,h5⟩:=kf he
 have hl:z.cps.toList.length=z.length:=by simp[Str.length]
 rw[hl]at h1 h4 h5
 have hn:=gE
 exact tail_any (typeIs_str s z t) slot_str_getitem.lookup (getItem_str (c:=c) (by
  have e1:decide (i < -(2 ^ 63:Int))=false:=Ij (by omega)
  have e2:decide (i>=2 ^ 63)=false:=Ij (by omega)
  rw[e1,e2,Bool.or_false]) (by rw[h1];simpa using h2) ⟨.str ⟨#[c]⟩,H,I.tok _,⟨_,rfl⟩,q⟩) hs
def lZ(its:Vv)(n j:Nat)(u:Value):Obj.mapSeq (·.setIfInBounds j u) { cls:=.type "list",data:=.seq its.toArray n }={ cls:=.type "list",data:=.seq (its.set j u).toArray n }:=by
 simp[Obj.mapSeq]
theorem Inv.lst{pins:Va}{σ:St}{H:Hp}{s:Shared}{p:Addr}{xs:List V}(I:Inv X pins σ H s)(h:H p=some (.lst xs)) :
  ∃(its:Vv) (n:Nat),Vals xs its/\s.heap.get? p=some { cls:=.type "list",data:=.seq its.toArray n }/\xs.length<=sizeLine:=by
 obtain⟨z,its,n,r,e⟩:=I.hok p _ h
 exact⟨its,n,r,e,z⟩
def Inv.DZ{pins:Va}{σ:St}{H:Hp}{s:Shared}{p:Addr}{xs ys:List V}{its its':Vv}{n n':Nat}{f:Obj->Obj}(I:Inv X pins σ H s)(h:H p=some (.lst xs))
  (ho:s.heap.get? p=some { cls:=.type "list",data:=.seq its.toArray n }) (hf:f { cls:=.type "list",data:=.seq its.toArray n }={ cls:=.type "list",data:=.seq its'.toArray n' }) (r:Vals ys its') (hz:ys.length<=sizeLine) (t:Nat) :
  Inv X pins σ (upd H p (.lst ys)) { s with heap:=s.heap.update p f,toks:=t }:=by
 have e:(s.heap.update p f).get? p=some { cls:=.type "list",data:=.seq its'.toArray n' }:=by
  rw[IZ f ho (by rw[hf]<;>rfl),hf]
 refine I.write (x:=p) (e:=p) (by rw[h];trivial) (.inl rfl) (fun b u hb q=>(IW _ _ (JE hb)).trans q) ⟨_,e⟩ ?_
 exact⟨hz,its',n',r,e⟩
noncomputable def wH:V->V->V->Hp->(Hp->Prop)->Prop:=fun o i v H Q=>∃p xs k j,o = .ref p/\i = .int k/\H p=some (.lst xs)/\nM xs.length k=some j/\Q (upd H p (.lst (xs.set j v)))
def pg:rB X wH:=by
 intro pins s σ H o i v ov iv u Q I ro ri rv h
 obtain⟨p,xs,k,j,rfl,rfl,hp,hj,q⟩:=h
 cases ro
 obtain⟨t,rfl⟩:=ri
 obtain⟨its,n,r,ho,hz⟩:=I.lst hp
 obtain⟨h1,h2,h3,h4⟩:=mS hj
 have hl:=r.length
 have hn:=gE
 have I':Inv X pins σ (upd H p (.lst (xs.set j v))) { s with heap:=s.heap.update p (Obj.mapSeq (·.setIfInBounds j u)) }:=
  I.DZ hp ho (lZ its n j u) (r.set rv j) (by rw[List.length_set];exact hz) s.toks
 by_cases h0:0<=k
 ·have hk:k.toNat=j:=by
   rw[seqIndex_of h0 h4]at h1
   exact IL h1
  exact PySem.W.ki_setAt ho h0 (by omega) (by rw[HH,<-hl];exact h4) (by rw[hk];exact⟨_,I',q⟩)
 ·have hk:(k+(its.toArray.size:Int)).toNat=j:=by
   rw[seqIndex_neg (by omega) h3]at h1
   rw[HH,<-hl]
   exact IL h1
  exact PySem.W.ki_setBack ho (by omega) (by rw[HH,<-hl];exact h3) (by omega) (by rw[hk];exact⟨_,I',q⟩)
def kg(lo hi:Option Int)(n:Nat):(sliceBounds lo hi none n).1=((HT.Aa n 0 lo:Nat):Int)/\(sliceBounds lo hi none n).2.1=((HT.Aa n n hi:Nat):Int)/\(sliceBounds lo hi none n).2.2=1:=by
 refine⟨?_,?_,rfl⟩
 ·cases lo with
  |none=>simp[sliceBounds,HT.Aa]
  |some i=>
   simp only[sliceBounds,HT.Aa,Option.getD_none,show(1:Int) > 0 by decide,II]
   by_cases h:i < 0
   ·simp only[h,II]<;>omega
   ·simp only[h,Iu]<;>omega
 ·cases hi with
  |none=>simp[sliceBounds,HT.Aa]
  |some i=>
   simp only[sliceBounds,HT.Aa,Option.getD_none,show(1:Int) > 0 by decide,II]
   by_cases h:i < 0
   ·simp only[h,II]<;>omega
   ·simp only[h,Iu]<;>omega
def jy(its:Vv)(lo hi:Option Int):slicePick its.toArray lo hi none=((its.drop (HT.Aa its.length 0 lo)).take (HT.Aa its.length its.length hi - HT.Aa its.length 0 lo)).toArray:=by
 obtain⟨h1,h2,h3⟩:=kg lo hi its.toArray.size
 unfold slicePick
 rw[h1,h2,h3]
 simp only[sliceRange_one,pick_run,HH]<;>rfl
noncomputable def yt(K:Vo):V->Option Int->Option Int->Hp->VK->Prop:=fun x lo hi H Q=>∃a xs,x = .ref a/\SqL K H a xs/\∀p,H p=none->Q (.ref p) (upd H p (.lst (iL xs lo hi)))
def mU:vT X (yt X.K):=by
 intro pins s σ H x v vl vu lo hi sl Q I rx hs pl pu h
 obtain⟨a,xs,rfl,hx,q⟩:=h
 cases rx
 obtain⟨its,r,ht,hz⟩:=I.list hx
 have hlen:=r.length
 refine⟨"list",_,slot_list_getitem.lookup,ht.isList.typeIs,?_⟩
 refine wpAny_getItem_list_slice ht.isList hs pl pu .none (by simp) ?_ (by rw[HH]<;>omega)
 rw[jy,<-hlen]
 refine⟨.ref s.heap.objs.size,_,I.laid (t':=s.toks) (o:=.lst (iL xs lo hi)) (fun b ob q=>HE _ q) (HF _) ?_,rfl,q _ (I.hok.fresh (HF _))⟩
 exact⟨HX (hV xs lo hi) hz,_,0,(r.drop (HT.Aa xs.length 0 lo)).take (HT.Aa xs.length xs.length hi - HT.Aa xs.length 0 lo),HV _ rfl⟩
def kh:fS X (compareOp .NotIn) (fun x y H Q=>∃i j,x = .str i/\y = .str j/\Q (.bl (!(!(Builtin.Str.occurrences j i 0 j.length 1).isEmpty))) H):=by
 intro pins s σ H x y v u Q I rx ry h
 obtain⟨i,j,rfl,rfl,q⟩:=h
 obtain⟨t,rfl⟩:=rx
 obtain⟨t',rfl⟩:=ry
 exact notIn_str ⟨.bl _,H,I,rfl,q⟩
def dG:fT X (.builtin "len") (fun xs H Q=>∃p ys,xs=[.ref p]/\(SqL X.K H p ys\/SqT X.K H p ys)/\Q (.int ys.length) H):=by
 intro pins s σ H xs us Q I r h
 obtain⟨p,ys,rfl,hq,q⟩:=h
 obtain⟨u,rfl,rx⟩:=fU r
 cases rx
 have hn:=gE
 rcases hq with hq|hq
 ·obtain⟨its,r',pl,hz⟩:=I.list hq
  have hlen:=r'.length
  exact Calls.call_len_list pl.isList (by simp only[HH]<;>omega) ⟨.int ys.length,H,I.tok _,⟨s.toks+1,by rw[HH,hlen]⟩,q⟩
 ·obtain⟨its,r',pl,hz⟩:=I.tuple hq
  have hlen:=r'.length
  exact len_tuple pl (by simp only[HH]<;>omega) ⟨.int ys.length,H,I.tok _,⟨s.toks+1,by rw[HH,hlen]⟩,q⟩
def ki:fT X (.builtin "len") (fun xs H Q=>∃z,xs=[.str z]/\z.length<=sizeLine/\Q (.int z.length) H):=by
 intro pins s σ H xs us Q I r h
 obtain⟨z,rfl,hz,q⟩:=h
 obtain⟨u,rfl,t,rfl⟩:=fU r
 have hn:=gE
 exact len_str (by omega) ⟨.int z.length,H,I.tok _,⟨_,rfl⟩,q⟩
def fj:fT X (.type "tuple") (fun xs H Q=>∃p ys,xs=[.ref p]/\((SqL X.K H p ys/\∀l,H l=none->Q (.ref l) (upd H l (.tup ys)))\/(SqT X.K H p ys/\Q (.ref p) H))):=by
 intro pins s σ H xs us Q I r h
 obtain⟨p,ys,rfl,h⟩:=h
 obtain⟨u,rfl,rx⟩:=fU r
 cases rx
 rcases h with⟨hq,q⟩|⟨hq,q⟩
 ·obtain⟨its,r',pl,hz⟩:=I.list hq
  have hlen:=r'.length
  refine call_tuple_list pl.isList (fun h' kp=>?_) (by simp only[HH]<;>omega)
  have I1:Inv X pins σ H { s with heap:=h' }:=I.kept (t':=s.toks) kp
  have I2:Inv X pins σ (upd H h'.objs.size (.tup ys)) { s with heap:=h'.push { cls:=.type "tuple",data:=.seq its.toArray } }:=
   I1.laid (t':=s.toks) (fun b o e=>HE _ e) (HF _) (show Ac X.prog X.w _ _ _ (.tup ys)from ⟨hz,its,r',Ak.new _ _⟩)
  exact⟨.ref h'.objs.size,_,I2,rfl,q _ (I1.hok.fresh (HF _))⟩
 ·obtain⟨its,r',pl,hz⟩:=I.tuple hq
  exact call_tuple_same pl ⟨.ref p,H,I,rfl,q⟩
def xP(K:Vo)(T:String)(x:V)(H:Hp):Prop:=match x with
 | .str _=>T = "str"
 | .int _=>T = "int"
 | .ref p=>(T = "list"/\∃xs,SqL K H p xs)\/(T = "tuple"/\∃o,K.lookup p=some o/\o.cls = .type "tuple"/\o.dict=none) \/
   (T = "dict"/\((∃kvs,H p=some (.dK kvs))\/∃kvs,H p=some (.dT kvs)))\/(T = "set"/\∃S n,H p=some (.set S n))
 |_=>False
def pp{pins:Va}{σ:St}{H:Hp}{s:Shared}{T:String}{x:V}{v:Value}(I:Inv X pins σ H s)(r:RelV x v)(ty:xP X.K T x H) :
  s.TypeIs v T/\∀a,v = .ref a->∃ob,s.heap.get? a=some ob/\ob.dict=none:=by
 cases x with
 |str z=>
  obtain⟨t,rfl⟩:=r
  cases (show T = "str" from ty)
  exact⟨typeIs_str s z t,fun _ e=>nomatch e⟩
 |int i=>
  obtain⟨t,rfl⟩:=r
  cases (show T = "int" from ty)
  exact⟨typeIs_int s i t,fun _ e=>nomatch e⟩
 |ref p=>
  cases r
  rcases ty with⟨rfl,xs,hq⟩|⟨rfl,o,hk,hc,hd⟩|⟨rfl,hk⟩|⟨rfl,S,n,hk⟩
  ·obtain⟨its,_,pl,_⟩:=I.list hq
   refine⟨pl.isList.typeIs,fun a e=>?_⟩
   cases e
   obtain⟨o,n,e,c,hd,_⟩:=pl
   exact⟨o,e,hd⟩
  ·refine⟨⟨o,I.C9 p o hk,hc⟩,fun a e=>?_⟩
   cases e
   exact⟨o,I.C9 _ o hk,hd⟩
  ·have z:∃o,s.heap.get? p=some o/\o.ExactDict:=by
    rcases hk with⟨kvs,hk⟩|⟨kvs,hk⟩
    ·obtain⟨_,_,_,_,o,_,_,e,ex,_⟩:=I.hok p _ hk
     exact⟨o,e,ex⟩
    ·obtain⟨_,_,_,_,o,_,_,e,ex,_⟩:=I.hok p _ hk
     exact⟨o,e,ex⟩
   obtain⟨o,e,ex⟩:=z
   refine⟨⟨o,e,ex.1⟩,fun a e2=>?_⟩
   cases e2
   exact⟨o,e,ex.2.1⟩
  ·obtain⟨o,_,_,_,e,ex,_⟩:=I.hok p _ hk
   refine⟨⟨o,e,ex.1⟩,fun a e2=>?_⟩
   cases e2
   exact⟨o,e,ex.2.1⟩
 |_=>exact False.elim ty
def yu(K:Vo)(T:String)(r:V->List V->Hp->VK->Prop)(to:TE):TE:=fun σ H Q=>to σ H fun x H1=>xP K T x H1/\r x [] H1 Q
def zq(K:Vo)(T:String)(r:V->List V->Hp->VK->Prop)(to:TE)(t:TA):TE:=fun σ H Q=>to σ H fun x H1=>xP K T x H1/\t σ H1 fun xs H2=>r x xs H2 Q
variable {o e:Expr} {es:List Expr} {to:TE} {t:TA} {name:Str} {apos cpos:Pos} {T id:String} {r:V->List V->Hp->VK->Prop}
def uO(pa:PlainAttrs T)(slot:Slot T name id)(hty:typeOf (.builtin id)=pure (.type "method_descriptor"))(hm:uL X id r)(ho:PE X o to)
  (hbase:attributeBase o name X.env (eval o X.env)=eval o X.env:=by rfl) (hline:(apos.endLine == cpos.line)=true:=by rfl):PE X (.Call (.Attribute o name apos) [] [] cpos) (yu X.K T r to):=by
 intro pins s σ H Q I h
 refine wpAny_Call_method0_late hbase hline (zP (ho pins s σ H _ I h) fun v s1 ⟨x,H1,I1,r1,ty,q1⟩=>?_)
 obtain⟨h1,h2⟩:=pp I1 r1 ty
 exact⟨T,id,pa,slot,hty,h1,h2,JA rfl (PySem.evalArgs_none (hm pins s1 σ H1 x [] v [] Q I1 r1 .nil q1))⟩
def wI(pa:PlainAttrs T)(slot:Slot T name id)(hty:typeOf (.builtin id)=pure (.type "method_descriptor"))(hm:uL X id r)(ho:PE X o to)(ha:PA X (e::es) t)
  (hbase:attributeBase o name X.env (eval o X.env)=eval o X.env:=by rfl)
  (hfew:((backTo cpos (starEach (e::es) X.env)).all (fun x=>!x.1)&&(backToKw cpos (keywordEach [] X.env)).all (fun x=>x.1.isSome)
   && decide ((e::es).length+([]:List Keyword).length+(if ([]:List Keyword).isEmpty then 0 else 1) < 30))=true:=by rfl)
  (hline:(apos.endLine == cpos.line)=true:=by rfl) (hs:starEach (e::es) X.env=(false,eval e X.env)::starEach es X.env:=by rfl) (hplain:(backTo cpos (starEach es X.env)).any (·.1)=false:=by rfl) :
  PE X (.Call (.Attribute o name apos) (e::es) [] cpos) (zq X.K T r to t):=by
 intro pins s σ H Q I h
 refine wpAny_Call_method_late hbase hfew hline rfl (zP (ho pins s σ H _ I h) fun v s1 ⟨x,H1,I1,r1,ty,q1⟩=>?_)
 obtain⟨h1,h2⟩:=pp I1 r1 ty
 refine⟨T,id,pa,slot,hty,h1,h2,?_⟩
 have hA:=ha cpos pins s1 σ H1 _ I1 q1
 rw[hs]at hA ⊢
 refine JA (by show(false || (backTo cpos (starEach es X.env)).any (·.1))=false;rw[hplain]<;>rfl) (J7 ?_)
 exact zP hA fun us s2 ⟨vs,H2,I2,r2,q2⟩=>hm pins s2 σ H2 x vs v us Q I2 r1 r2 q2
end
def vV(X:Cx)(id:String)(r:V->List V->Hp->VK->Prop):Prop:=
 ∀(pins:Va) (s:Shared) (σ:St) (H:Hp) (x:V) (xs:List V) (v:Value) (us:Vv) (Q:VK),Inv X pins σ H s->RelV x v->Vals xs us->r x xs H Q->
  wpAny (model X.prog X.w) X.A (call (.builtin id) (v::us)) (EP X pins σ Q) X.xe s
theorem Vals.one:∀{x:V} {us:Vv},Vals [x] us->∃u,us=[u]/\RelV x u
 |_,_,.cons r .nil=>⟨_,rfl,r⟩
theorem Vals.zero:∀{us:Vv},Vals [] us->us=[]
 |_,.nil=>rfl
theorem Vals.dropLast{xs:List V}{us:Vv}(h:Vals xs us):Vals xs.dropLast us.dropLast:=by
 induction h with
 |nil=>exact .nil
 |cons r t ih=>
  cases t with
  |nil=>exact .nil
  |cons q t'=>exact .cons r ih
theorem Vals.eraseIdx:∀{xs:List V} {us:Vv} (i:Nat),Vals xs us->Vals (xs.eraseIdx i) (us.eraseIdx i)
 |_,_,_,.nil=>.nil
 |_,_,0,.cons _ t=>t
 |_,_,i+1,.cons r t=>.cons r (Vals.eraseIdx i t)
theorem Vals.reverse{xs:List V}{us:Vv}(h:Vals xs us):Vals xs.reverse us.reverse:=by
 induction h with
 |nil=>exact .nil
 |cons r t ih=>rw[KL,KL];exact Vals.append ih (.cons r .nil)
theorem Vals.rep{xs:List V}{us:Vv}(h:Vals xs us):∀k:Nat,Vals (List.replicate k xs).flatten (List.replicate k us).flatten
 |0=>.nil
 |k+1=>by
  rw[IM,IM,JJ,JJ]
  exact Vals.append h (Vals.rep h k)
def l0{α:Type}(l:List α):l.eraseIdx (l.length - 1)=l.dropLast:=by
 induction l with
 |nil=>rfl
 |cons a r ih=>
  cases r with
  |nil=>rfl
  |cons b r=>
   have e:(a::b::r).length - 1=((b::r).length - 1)+1:=by
    have h1:(a::b::r).length=r.length+2:=rfl
    have h2:(b::r).length=r.length+1:=rfl
    omega
   rw[e,List.eraseIdx_cons_succ,ih]
   all_goals rfl
theorem jN{α:Type}:∀(l:List α) (i:Nat),(l.eraseIdx i).length<=l.length
 |[],_=>HF _
 |_::_,0=>Nat.le_succ _
 |_::r,i+1=>Nat.succ_le_succ (jN r i)
theorem jO(its:Vv):∀(k:Nat) (acc:Vv),
  List.foldl (fun x1 x2=>x1++x2) acc.toArray (List.replicate k its.toArray)=(acc++(List.replicate k its).flatten).toArray
 |0,acc=>by simp
 |k+1,acc=>by
  have e:acc.toArray++its.toArray=(acc++its).toArray:=by simp
  have e2:(acc++its)++(List.replicate k its).flatten=acc++(List.replicate (k+1) its).flatten:=by
   rw[IM,JJ,KN]
  rw[<-e2,<-jO its k (acc++its),<-e,IM,List.foldl_cons]
section
variable {X:Cx} {pins:Va} {σ:St} {H:Hp} {s:Shared} {l b:Addr} {xs ys zs:List V}
def Inv.CU{its its':Vv}{n:Nat}{f:Array Value->Array Value}{t':Nat}(I:Inv X pins σ H s)(hH:H l=some (.lst xs))
  (e:s.heap.get? l=some { cls:=.type "list",data:=.seq its.toArray n }) (hf:f its.toArray=its'.toArray) (hv:Vals ys its') (hz:ys.length<=sizeLine) :
  Inv X pins σ (upd H l (.lst ys)) { s with heap:=s.heap.update l (Obj.mapSeq f),toks:=t' }:=by
 have q:=PySem.IsL.update e f
 rw[hf]at q
 refine I.write (x:=l) (e:=l) (by rw[hH];exact trivial) (.inl rfl) (fun b' u hb hu=>(IW s.heap (Obj.mapSeq f) (JE hb)).trans hu) ⟨_,q⟩ ?_
 exact⟨hz,its',_,hv,q⟩
def Inv.Ez{its:Vv}{t':Nat}(I:Inv X pins σ H s)(hv:Vals ys its)(hz:ys.length<=sizeLine) :
  Inv X pins σ (upd H s.heap.objs.size (.lst ys)) { s with heap:=s.heap.push { cls:=.type "list",data:=.seq its.toArray },toks:=t' }:=
 I.laid (fun _ _ q=>HE _ q) (HF _) ⟨hz,its,0,hv,HV _ rfl⟩
theorem Inv.fresh(I:Inv X pins σ H s):H s.heap.objs.size=none:=I.hok.fresh (HF _)
def Inv.B5(I:Inv X pins σ H s)(hH:H l=some (.lst xs)):xs.length<=sizeLine/\∃(its:Vv) (n:Nat),Vals xs its/\xs.length=its.length/\s.heap.get? l=some { cls:=.type "list",data:=.seq its.toArray n }:=by
 obtain⟨z,its,n,r,e⟩:=I.hok l _ hH
 exact⟨z,its,n,r,r.length,e⟩
def k6{n:Nat}(h:n<=sizeLine):Builtin.List.listTooLong n=false:=by
 unfold Builtin.List.listTooLong
 exact Ij (by omega)
end
section
variable {X:Cx}
noncomputable def rT:V->List V->Hp->VK->Prop:=fun x vs H Q=>∃l xs y,x = .ref l/\vs=[y]/\H l=some (.lst xs)/\xs.length < sizeLine/\Q .non (upd H l (.lst (xs++[y])))
def nN:vV X "list.append" rT:=by
 intro pins s σ H x vs v us Q I rx rv h
 obtain⟨l,xs,y,rfl,rfl,hH,hz,q⟩:=h
 cases rx
 obtain⟨u,rfl,ru⟩:=rv.one
 obtain⟨z,its,n,r,hl,e⟩:=I.B5 hH
 refine J8 F.slot_list_append ⟨_,e,rfl⟩ F.entry_list_append (F.args_list_append_2 _ _) (PySem.list_append l its.toArray n u (by rw[HH];omega)) ⟨e,?_⟩
 refine⟨.non,_,I.CU (its':=its++[u]) hH e (by simp) (r.append (.cons ru .nil)) ?_,rfl,q⟩
 rw[HC,HZ]
 omega
noncomputable def rV:V->List V->Hp->VK->Prop:=fun x vs H Q=>∃l b xs zs,x = .ref l/\vs=[.ref b]/\H l=some (.lst xs)/\H b=some (.lst zs)/\xs.length+zs.length<=sizeLine/\Q .non (upd H l (.lst (xs++zs)))
def nO:vV X "list.extend" rV:=by
 intro pins s σ H x vs v us Q I rx rv h
 obtain⟨l,b,xs,zs,rfl,rfl,hH,hB,hz,q⟩:=h
 cases rx
 obtain⟨u,rfl,ru⟩:=rv.one
 cases ru
 obtain⟨z,its,n,r,hl,e⟩:=I.B5 hH
 obtain⟨z2,its2,n2,r2,hl2,e2⟩:=I.B5 hB
 have hsz:its.toArray.size+its2.toArray.size<=sizeLine:=by rw[HH,HH];omega
 have C_:¬(!its.toArray.isEmpty&&Builtin.List.listTooLong (its.toArray.size+its2.toArray.size))=true:=by
  rw[k6 hsz,Bool.and_false]
  exact Ie
 refine J8 F.slot_list_extend ⟨_,e,rfl⟩ F.entry_list_extend (F.args_list_extend_2 _ _)
  (AutoSeq1.list_extend_list_list_0 l its.toArray n b its2.toArray n2 C_ (by rw[HH];omega) (by omega)) ⟨e,e2,?_⟩
 refine⟨.non,_,I.CU (its':=its++its2) hH e (by simp) (r.append r2) ?_,rfl,q⟩
 rw[HC]
 omega
noncomputable def yv:V->List V->Hp->VK->Prop:=fun x vs H Q=>∃l xs y,x = .ref l/\vs=[]/\H l=some (.lst xs)/\xs[xs.length - 1]?=some y/\Q y (upd H l (.lst xs.dropLast))
def uP:vV X "list.pop" yv:=by
 intro pins s σ H x vs v us Q I rx rv h
 obtain⟨l,xs,y,rfl,rfl,hH,hy,q⟩:=h
 cases rx
 have Fo:=rv.zero
 subst Fo
 obtain⟨z,its,n,r,hl,e⟩:=I.B5 hH
 obtain⟨u,hu,ru⟩:=r.get hy
 have hy':its.toArray[its.toArray.size - 1]?=some u:=by
  show its.toArray[its.length - 1]?=some u
  rw[<-Array.getElem?_toList,<-hl]
  exact hu
 refine J8 F.slot_list_pop ⟨_,e,rfl⟩ F.entry_list_pop (F.args_list_pop_1 _) (MeetsSeq.list_pop_last l its.toArray n u hy' (by rw[HH];omega)) ⟨e,?_⟩
 refine⟨y,_,I.CU (its':=its.dropLast) hH e ?_ r.dropLast ?_,ru,q⟩
 ·show its.toArray.eraseIdxIfInBounds (its.toArray.size - 1)=its.dropLast.toArray
  rw[HH,KS,l0]
 ·rw[List.length_dropLast]
  omega
noncomputable def uQ:V->List V->Hp->VK->Prop:=fun x vs H Q=>∃l xs i k y,x = .ref l/\vs=[.int i]/\H l=some (.lst xs)/\-(2 ^ 63)<=i/\i < 2 ^ 63/\seqIndex? i xs.length=some k/\xs[k]?=some y/\Q y (upd H l (.lst (xs.eraseIdx k)))
def pA:vV X "list.pop" uQ:=by
 intro pins s σ H x vs v us Q I rx rv h
 obtain⟨l,xs,i,k,y,rfl,rfl,hH,h1,h2,hk,hy,q⟩:=h
 cases rx
 obtain⟨u,rfl,ru⟩:=rv.one
 obtain⟨t,rfl⟩:=ru
 obtain⟨z,its,n,r,hl,e⟩:=I.B5 hH
 obtain⟨w,hw,rw'⟩:=r.get hy
 refine J8 F.slot_list_pop ⟨_,e,rfl⟩ F.entry_list_pop (F.args_list_pop_2 _ _)
  (MeetsSeq.list_pop_at l its.toArray n i t k w (fitsIndex_both h1 h2) (by rw[HH,<-hl];exact hk) (by rw[<-Array.getElem?_toList];exact hw) (by rw[HH];omega)) ⟨e,?_⟩
 refine⟨y,_,I.CU (its':=its.eraseIdx k) hH e ?_ (r.eraseIdx k) ?_,rw',q⟩
 ·show its.toArray.eraseIdxIfInBounds k=(its.eraseIdx k).toArray
  rw[KS]
 ·have:=jN xs k
  omega
noncomputable def pB:V->List V->Hp->VK->Prop:=fun x vs H Q=>∃l xs,x = .ref l/\vs=[]/\H l=some (.lst xs)/\Q .non (upd H l (.lst xs.reverse))
def l4:vV X "list.reverse" pB:=by
 intro pins s σ H x vs v us Q I rx rv h
 obtain⟨l,xs,rfl,rfl,hH,q⟩:=h
 cases rx
 have Fo:=rv.zero
 subst Fo
 obtain⟨z,its,n,r,hl,e⟩:=I.B5 hH
 refine J8 F.slot_list_reverse ⟨_,e,rfl⟩ F.entry_list_reverse (F.args_list_reverse_1 _) (AutoSeq1.list_reverse_list_0 l its.toArray n (by rw[HH];omega)) ⟨e,?_⟩
 refine⟨.non,_,I.CU (its':=its.reverse) hH e (by simp) r.reverse ?_,rfl,q⟩
 rw[Km]
 omega
def yw:R2:=fun x y H Q=>∃l b xs zs,x = .ref l/\y = .ref b/\H l=some (.lst xs)/\H b=some (.lst zs)/\xs.length+zs.length<=sizeLine/\∀p,H p=none->Q (.ref p) (upd H p (.lst (xs++zs)))
def uR:fS X (binaryOp .Add) yw:=by
 intro pins s σ H x y v u Q I rx ry h
 obtain⟨l,b,xs,zs,rfl,rfl,hH,hB,hz,q⟩:=h
 cases rx
 cases ry
 obtain⟨z,its,n,r,hl,e⟩:=I.B5 hH
 obtain⟨z2,its2,n2,r2,hl2,e2⟩:=I.B5 hB
 refine PySem.P.add_list e e2 ?_ (by rw[HH,HH];omega)
 have ea:its.toArray++its2.toArray=(its++its2).toArray:=by simp
 rw[ea]
 exact⟨.ref _,_,I.Ez (t':=s.toks) (r.append r2) (by rw[HC];omega),rfl,q _ I.fresh⟩
def yx:R2:=fun x y H Q=>∃l k xs,x = .ref l/\y = .int k/\H l=some (.lst xs)/\-(2 ^ 63)<=k/\k < 2 ^ 63/\xs.length * k.toNat<=sizeLine/\
 ∀p,H p=none->Q (.ref p) (upd H p (.lst (List.replicate k.toNat xs).flatten))
def rW{α:Type}(xs:List α)(k:Nat):(List.replicate k xs).flatten.length=k * xs.length:=by
 induction k with
 |zero=>simp
 |succ k ih=>rw[IM,JJ,HC,ih,Nat.succ_mul,Nat.add_comm]
def uS:fS X (binaryOp .Mult) yx:=by
 intro pins s σ H x y v u Q I rx ry h
 obtain⟨l,k,xs,rfl,rfl,hH,h1,h2,hz,q⟩:=h
 cases rx
 obtain⟨t,rfl⟩:=ry
 obtain⟨z,its,n,r,hl,e⟩:=I.B5 hH
 have hlen:its.toArray.size * k.toNat<=sizeLine:=by rw[HH,<-hl];exact hz
 have hcap:¬its.toArray.size * k.toNat > (2 ^ 63 - 1) / 8:=by
  have:(sizeLine:Nat)<=(2 ^ 63 - 1) / 8:=by decide
  omega
 have hfit:¬(!Builtin.List.listFitsIndex k)=true:=by
  rw[fitsIndex_both h1 h2]
  exact Ie
 have C_:¬Builtin.List.listTooLong (its.toArray.size * k.toNat)=true:=by
  rw[k6 hlen]
  exact Ie
 have hnew:List.foldl (fun x1 x2=>x1++x2) #[] (List.replicate (if its.toArray.isEmpty=true then 0 else k.toNat) its.toArray)=(List.replicate k.toNat its).flatten.toArray:=by
  have f0:∀m:Nat,List.foldl (fun x1 x2=>x1++x2) #[] (List.replicate m its.toArray)=(List.replicate m its).flatten.toArray:=fun m=>by
   have:=jO its m []
   rw[Jx]at this
   exact this
  rw[f0]
  cases its with
  |nil=>simp
  |cons a r'=>rw[if_neg (by simp)]
 refine wpAny_binaryOp_repeat_ref (T:="list") (U:="int") (by decide) ⟨_,e,rfl⟩ (fun s'=>typeIs_int s' k t) noFill_list_mul F.fills_int_mul F.slot_int_rmul repeat_list F.slot_int_index.lookup
  (J8 F.slot_int_rmul (typeIs_int s k t) F.entry_int_rmul (F.args_int_rmul_2 _ _) (int___rmul___int_list k t l its.toArray n)
   ⟨e,rfl,⟨_,e,rfl⟩,J8 F.slot_list_mul ⟨_,e,rfl⟩ F.entry_list_mul (F.args_list_mul_2 _ _) (AutoListH.list___mul___list_int_3 l its.toArray n k t hfit hcap C_) ⟨e,?_⟩⟩)
 rw[hnew]
 exact⟨.ref _,_,I.Ez (t':=s.toks) (r.rep k.toNat) (by rw[rW,Nat.mul_comm];exact hz),rfl,q _ I.fresh⟩
end
section
variable {κ:Type} [DecidableEq κ]
noncomputable def fc(kvs:List (κ×V))(k:κ):Option V:=(kvs.find? fun kv=>decide (kv.1=k)).map (·.2)
noncomputable def ed(kvs:List (κ×V))(k:κ)(v:V):List (κ×V):=
 if (kvs.any fun kv=>decide (kv.1=k))=true then kvs.map (fun kv=>if kv.1=k then (kv.1,v) else kv) else kvs++[(k,v)]
def A1{p:κ×V}{r:List (κ×V)}{k:κ}(e:p.1=k):fc (p::r) k=some p.2:=by simp[fc,List.find?_cons,e]
def AE{p:κ×V}{r:List (κ×V)}{k:κ}(e:¬p.1=k):fc (p::r) k=fc r k:=by simp[fc,List.find?_cons,e]
theorem iM(k:κ):∀kvs:List (κ×V),(kvs.any fun kv=>decide (kv.1=k))=(fc kvs k).isSome
 |[]=>rfl
 |p::r=>by
  rw[K1]
  by_cases e:p.1=k
  ·simp only[A1 e,IB e,Bool.true_or,Option.isSome_some]
  ·rw[AE e,Ij e,Bool.false_or];exact iM k r
def eg(kvs:List (κ×V))(k:κ)(v:V):(ed kvs k v).length<=kvs.length+1:=by
 unfold ed
 split
 ·rw[HD];omega
 ·rw[HC,HW,Jh];omega
def RelO.A2{o:Option V}{u:Option Value}(r:RelO o u):o.isSome=u.isSome:=by
 cases o with
 |none=>cases u with
  |none=>rfl
  |some _=>exact(show False from r).elim
 |some _=>cases u with
  |none=>exact(show False from r).elim
  |some _=>rfl
theorem RelO.getD{o:Option V}{u:Option Value}{d:V}{d':Value}(r:RelO o u)(rd:RelV d d'):RelV (o.getD d) (u.getD d'):=by
 cases o with
 |none=>cases u with
  |none=>exact rd
  |some _=>exact(show False from r).elim
 |some _=>cases u with
  |none=>exact(show False from r).elim
  |some _=>exact r
def KV.val{kvs:List (κ×V)}{vs:List (κ×Value)}(r:KV kvs vs)(k:κ):RelO (fc kvs k) (valueAt vs k):=by
 unfold KV at r
 induction r with
 |nil=>exact True.intro
 |@cons p q ps qs h t ih=>
  obtain⟨h1,h2⟩:=h
  by_cases e:p.1=k
  ·have e':q.1=k:=h1.symm.trans e
   have b:valueAt (q::qs) k=some q.2:=by simp[valueAt,List.find?_cons,e']
   rw[A1 e,b];exact h2
  ·have e':¬q.1=k:=fun z=>e (h1.trans z)
   have b:valueAt (q::qs) k=valueAt qs k:=by simp[valueAt,List.find?_cons,e']
   rw[AE e,b];exact ih
theorem KV.any{kvs:List (κ×V)}{vs:List (κ×Value)}(r:KV kvs vs)(k:κ):(kvs.any fun kv=>decide (kv.1=k))=vs.any fun kv=>decide (kv.1=k):=by
 unfold KV at r
 induction r with
 |nil=>rfl
 |cons h t ih=>rw[K1,K1,ih,h.1]
def KV.repl{kvs:List (κ×V)}{vs:List (κ×Value)}(r:KV kvs vs)(k:κ){y:V}{u:Value}(ry:RelV y u) :
  KV (kvs.map fun kv=>if kv.1=k then (kv.1,y) else kv) (vs.map fun kv=>if kv.1=k then (kv.1,u) else kv):=by
 unfold KV at r ⊢
 induction r with
 |nil=>exact .nil
 |@cons p q ps qs h t ih=>
  rw[Ig,Ig]
  refine .cons ?_ ih
  obtain⟨h1,h2⟩:=h
  by_cases e:p.1=k
  ·rw[if_pos e,if_pos (h1.symm.trans e)];exact⟨h1,ry⟩
  ·rw[if_neg e,if_neg (fun z=>e (h1.trans z))];exact⟨h1,h2⟩
def KV.put{kvs:List (κ×V)}{vs:List (κ×Value)}(r:KV kvs vs)(k:κ){y:V}{u:Value}(ry:RelV y u):KV (ed kvs k y) (stored vs k u):=by
 unfold ed stored
 rw[r.any k]
 by_cases e:(vs.any fun kv=>decide (kv.1=k))=true
 ·rw[if_pos e,if_pos e];exact r.repl k ry
 ·rw[if_neg e,if_neg e];exact Paired.snoc r ⟨rfl,ry⟩
theorem KV.length{kvs:List (κ×V)}{vs:List (κ×Value)}(r:KV kvs vs):kvs.length=vs.length:=Paired.length r
end
def hW{P:Program}{w:World}{k:a_}{u:Value}(r:RelV (kV k) u):(aN P w).is k u=true:=by
 cases k with
 |inl i=>obtain⟨t,e⟩:=(show ∃t,u=Value.int i t from r);subst e;exact kW P w i t
 |inr x=>obtain⟨t,e⟩:=(show ∃t,u=Value.str x t from r);subst e;exact kX P w x t
theorem jP{P:Program}{w:World}:∀{ks:List a_} {us:Vv},Vals (ks.map kV) us->ItemsAre (aN P w) ks us
 |[],_,r=>by rw[Je]at r;cases r;exact .nil
 |k::ks,_,r=>by
  rw[Ig]at r
  cases r with
  |cons h t=>exact .cons (hW h) (jP t)
noncomputable abbrev KT(H:Hp):List (List a_×V)->List (List a_×Addr×Value)->Prop:=Paired fun p q=>p.1=q.1/\H q.2.1=some (.tup (p.1.map kV))/\RelV p.2 q.2.2
def KT.val{H:Hp}{kvs:List (List a_×V)}{xs:List (List a_×Addr×Value)}(r:KT H kvs xs)(k:List a_):RelO (fc kvs k) ((atKey xs k).map (·.2)):=by
 induction r with
 |nil=>exact True.intro
 |@cons p q ps qs h t ih=>
  obtain⟨h1,_,h2⟩:=h
  by_cases e:p.1=k
  ·have e':q.1=k:=h1.symm.trans e
   have b:atKey (q::qs) k=some q.2:=by simp[atKey,List.find?_cons,e']
   rw[A1 e,b];exact h2
  ·have e':¬q.1=k:=fun z=>e (h1.trans z)
   have b:atKey (q::qs) k=atKey qs k:=by simp[atKey,List.find?_cons,e']
   rw[AE e,b];exact ih
def KT.repl{H:Hp}{kvs:List (List a_×V)}{xs:List (List a_×Addr×Value)}(r:KT H kvs xs)(k:List a_){y:V}{u:Value}(ry:RelV y u) :
  KT H (kvs.map fun kv=>if kv.1=k then (kv.1,y) else kv) (xs.map (putAt k u)):=by
 induction r with
 |nil=>exact .nil
 |@cons p q ps qs h t ih=>
  rw[Ig,Ig]
  refine .cons ?_ ih
  obtain⟨h1,h2,h3⟩:=h
  unfold putAt
  by_cases e:p.1=k
  ·rw[if_pos e,if_pos (h1.symm.trans e)];exact⟨h1,h2,ry⟩
  ·rw[if_neg e,if_neg (fun z=>e (h1.trans z))];exact⟨h1,h2,h3⟩
def KT.put{H:Hp}{kvs:List (List a_×V)}{xs:List (List a_×Addr×Value)}(r:KT H kvs xs)(k:List a_){b:Addr}{y:V}{u:Value}(hb:H b=some (.tup (k.map kV)))(ry:RelV y u) :
  KT H (ed kvs k y) (storedH xs k b u):=by
 have e:(kvs.any fun kv=>decide (kv.1=k))=(atKey xs k).isSome:=by
  rw[iM,(r.val k).A2,Lj]
 unfold ed storedH
 rw[e]
 by_cases q:(atKey xs k).isSome=true
 ·rw[if_pos q,if_pos q];exact r.repl k ry
 ·rw[if_neg q,if_neg q];exact Paired.snoc r ⟨rfl,hb,ry⟩
def KT.keeps{H H':Hp}{kvs:List (List a_×V)}{xs:List (List a_×Addr×Value)}(r:KT H kvs xs)(ht:∀b ys,H b=some (.tup ys)->H' b=some (.tup ys)):KT H' kvs xs:=
 Paired.DS r fun _ _ z=>⟨z.1,ht _ _ z.2.1,z.2.2⟩
section
variable {P:Program} {w:World} {H:Hp} {h:Heap} {a:Addr}
def tL{u:HO}(ok:Bm P w H h)(e:Rd H a u):Ac P w H h a u:=e.ok ok
def hZ{kvs:List (a_×V)}(ok:Bm P w H h)(e:Rd H a (.dK kvs)):kvs.length<=sizeLine/\(a == sysModules)=false/\∃vs,KV kvs vs/\h.DictOf (aN P w) a vs:=
 show Ac P w H h a (.dK kvs)from tL ok e
def tM{kvs:List (a_×V)}(ok:Bm P w H h)(e:H a=some (.dK kvs)):kvs.length<=sizeLine/\(a == sysModules)=false/\∃vs,KV kvs vs/\h.DictOf (aN P w) a vs:=hZ ok (.inl e)
def cp{ks:List a_}(ok:Bm P w H h)(e:H a=some (.tup (ks.map kV))):(tupleKind (aN P w)).is h ks a:=by
 obtain⟨_,its,r,o,h1,_,h2,n,h3⟩:=(show Ac P w H h a (.tup (ks.map kV))from ok a _ e)
 exact⟨o,its.toArray,n,h1,h2,h3,by simpa using jP r⟩
def iN{kvs:List (List a_×V)}(ok:Bm P w H h)(e:Rd H a (.dT kvs)):kvs.length<=sizeLine/\(a == sysModules)=false/\
  ∃xs,KT H kvs xs/\h.DictOfH (tupleKind (aN P w)) a xs:=by
 obtain⟨z,y,xs,r,o,es,ep,h1,h2,h3,h4,h5⟩:=(show Ac P w H h a (.dT kvs)from tL ok e)
 refine⟨z,y,xs,r,o,es,ep,h1,h2,h3,h4,fun x hx=>?_,h5⟩
 have all:∀{l:List (List a_×V)} {m:List (List a_×Addr×Value)},KT H l m->∀x∈m,(tupleKind (aN P w)).is h x.1 x.2.1:=by
  intro l m q
  induction q with
  |nil=>intro x hx;exact nomatch hx
  |@cons p q ps qs hq t ih=>
   intro x hx
   rcases HL.mp hx with e|hx
   ·subst e
    exact cp ok (by rw[<-hq.1];exact hq.2.1)
   ·exact ih x hx
 exact all r x hx
def wJ{kvs:List (List a_×V)}(ok:Bm P w H h)(e:H a=some (.dT kvs)):kvs.length<=sizeLine/\(a == sysModules)=false/\
  ∃xs,KT H kvs xs/\h.DictOfH (tupleKind (aN P w)) a xs:=iN ok (.inl e)
end
def DGet(H:Hp)(a:Addr)(y:V)(r:Option V):Prop:=
 (∃kvs k,Rd H a (.dK kvs)/\y=kV k/\r=fc kvs k)\/∃kvs k b,Rd H a (.dT kvs)/\y = .ref b/\H b=some (.tup (k.map kV))/\r=fc kvs k
def Dc(H:Hp)(a:Addr)(y v:V)(H':Hp):Prop:=
 (∃kvs k,H a=some (.dK kvs)/\y=kV k/\kvs.length < sizeLine/\H'=upd H a (.dK (ed kvs k v))) \/
 ∃kvs k b,H a=some (.dT kvs)/\y = .ref b/\H b=some (.tup (k.map kV))/\kvs.length < sizeLine/\H'=upd H a (.dT (ed kvs k v))
theorem DGet.k{H:Hp}{a:Addr}{kvs:List (a_×V)}{k:a_}(e:H a=some (.dK kvs)):DGet H a (kV k) (fc kvs k):=.inl ⟨kvs,k,.inl e,rfl,rfl⟩
theorem Dc.k{H:Hp}{a:Addr}{kvs:List (a_×V)}{k:a_}{v:V}(e:H a=some (.dK kvs))(hl:kvs.length < sizeLine):Dc H a (kV k) v (upd H a (.dK (ed kvs k v))):=.inl ⟨kvs,k,e,rfl,hl,rfl⟩
section
variable {X:Cx} {pins:Va} {σ:St} {H:Hp} {s:Shared} {a:Addr} {y v:V} {u r:Value} {o:Option V} {A:Around} {E:Vq}
def Inv.big(I:Inv X pins σ H s):sysModules < s.heap.objs.size:=by
 have h:mainGlobals < s.heap.objs.size:=(I.mod.glob.keeps I.bk).lt
 exact Lr (by decide) h
def nP{Q:Vq}(hu:A.units+1 < cLine)(I:Inv X pins σ H s)(g:DGet H a y (some v))(ry:RelV y u)(h:∀w' s',Inv X pins σ H s'->RelV v w'->Q w' s') :
  wpAny (model X.prog X.w) A (getItem (.ref a) u) Q E s:=by
 rcases g with⟨kvs,k,e,ey,l⟩|⟨kvs,k,b,e,ey,eb,l⟩
 ·subst ey
  obtain⟨z,hd,vs,rel,dd⟩:=hZ I.hok e
  obtain⟨w',hw,rw'⟩:=RelO.some_of (v:=v) (o:=valueAt vs k) (by rw[l];exact rel.val k)
  exact wpAny_getItem_of (hW ry) dd.mapOf hw (h w' _ (I.tok _) rw')
 ·subst ey
  cases (show u=Value.ref b from ry)
  obtain⟨z,hd,xs,rel,dd⟩:=iN I.hok e
  obtain⟨w',hw,rw'⟩:=RelO.some_of (v:=v) (o:=(atKey xs k).map (·.2)) (by rw[l];exact rel.val k)
  obtain⟨p,hp,hp2⟩:=IK.mp hw
  refine wpAny_getItem_heap (JS hu) (cp I.hok eb) dd hp ?_
  rw[hp2]
  exact h w' _ (I.tok _) rw'
def wK{Q:Vq}(hu:A.units+1 < cLine)(I:Inv X pins σ H s)(g:DGet H a y o)(ry:RelV y u)(h:∀s',Inv X pins σ H s'->Q (.bool o.isSome) s') :
  wpAny (model X.prog X.w) A (compareOp .In u (.ref a)) Q E s:=by
 rcases g with⟨kvs,k,e,ey,l⟩|⟨kvs,k,b,e,ey,eb,l⟩
 ·subst ey
  obtain⟨z,hd,vs,rel,dd⟩:=hZ I.hok e
  refine wpAny_in_of (hW ry) hd dd.mapOf ?_
  rw[<-(rel.val k).A2,<-l]
  exact h _ (I.tok _)
 ·subst ey
  cases (show u=Value.ref b from ry)
  obtain⟨z,hd,xs,rel,dd⟩:=iN I.hok e
  refine wpAny_in_heap (JS hu) (cp I.hok eb) hd dd ?_
  have q:=(rel.val k).A2
  rw[Lj]at q
  rw[<-q,<-l]
  exact h _ (I.tok _)
def mV{Q:Vq}(hu:A.units+1 < cLine)(I:Inv X pins σ H s)(g:DGet H a y o)(ry:RelV y u)(h:∀s',Inv X pins σ H s'->Q (.bool (!o.isSome)) s') :
  wpAny (model X.prog X.w) A (compareOp .NotIn u (.ref a)) Q E s:=by
 rcases g with⟨kvs,k,e,ey,l⟩|⟨kvs,k,b,e,ey,eb,l⟩
 ·subst ey
  obtain⟨z,hd,vs,rel,dd⟩:=hZ I.hok e
  refine wpAny_notIn_of (hW ry) hd dd.mapOf ?_
  rw[<-(rel.val k).A2,<-l]
  exact h _ (I.tok _)
 ·subst ey
  cases (show u=Value.ref b from ry)
  obtain⟨z,hd,xs,rel,dd⟩:=iN I.hok e
  refine wpAny_notIn_heap (JS hu) (cp I.hok eb) hd dd ?_
  have q:=(rel.val k).A2
  rw[Lj]at q
  rw[<-q,<-l]
  exact h _ (I.tok _)
def kj{h':Heap}{t':Nat}{ob:HO}(I:Inv X pins σ H s)(mu:v9 (H a))(hs:Heap.SameBut a s.heap h')(he:∃q,h'.get? a=some q)(new:Ac X.prog X.w (upd H a ob) h' a ob) :
  Inv X pins σ (upd H a ob) { s with heap:=h',toks:=t' }:=
 I.write (x:=a) (e:=a) mu (.inl rfl) (fun b q hb z=>(hs.2 b hb).trans z) he new
def pC{P:Program}{w:World}{H':Hp}{h':Heap}{kvs:List (a_×V)}{vs:List (a_×Value)}(z:kvs.length<=sizeLine)(hd:(a == sysModules)=false)(rel:KV kvs vs)(dd:h'.DictOf (aN P w) a vs) :
  Ac P w H' h' a (.dK kvs):=⟨z,hd,vs,rel,dd⟩
def nQ{H':Hp}{Q:Unit->Shared->Prop}(hu:A.units+1 < cLine)(I:Inv X pins σ H s)(g:Dc H a y v H')(ry:RelV y u)(rv:RelV v r)(h:∀s',Inv X pins σ H' s'->Q () s') :
  wpAny (model X.prog X.w) A (setItem (.ref a) u r) Q E s:=by
 rcases g with⟨kvs,k,e,ey,l,eH⟩|⟨kvs,k,b,e,ey,eb,l,eH⟩
 ·subst ey eH
  obtain⟨z,hd,vs,rel,dd⟩:=tM I.hok e
  have hz:vs.length<=sizeLine:=by rw[<-rel.length];exact z
  have hl:(ed kvs k v).length<=sizeLine:=by have:=eg kvs k v;omega
  refine wpAny_setItem_pairs (hsz:=hz) (hW ry) dd fun h' D8 hs=>h _ ?_
  have he:∃q,h'.get? a=some q:=let ⟨q,_,_,hq,_⟩:=D8;⟨q,hq⟩
  exact kj I (by rw[e];exact True.intro) hs he (pC hl hd (rel.put k rv) D8)
 ·subst ey eH
  cases (show u=Value.ref b from ry)
  obtain⟨z,hd,xs,rel,dd⟩:=wJ I.hok e
  have hz:xs.length<=sizeLine:=by rw[<-Paired.length rel];exact z
  have hl:(ed kvs k v).length<=sizeLine:=by have:=eg kvs k v;omega
  refine wpAny_setItem_heap (hsz:=hz) (JS hu) (cp I.hok eb) dd fun h' D8 hs=>h _ ?_
  obtain⟨q,es,ep,hq,h2,h3,h4,_,h5⟩:=D8
  refine kj I (by rw[e];exact True.intro) hs ⟨q,hq⟩ ⟨hl,hd,_,(rel.put k eb rv).keeps fun c ys ec=>?_,q,es,ep,hq,h2,h3,h4,h5⟩
  rw[av (v8 ec e (fun z=>nomatch z))]
  exact ec
end
section
variable {X:Cx} {pins:Va} {σ:St} {H:Hp} {s:Shared} {a:Addr} {kvs:List (a_×V)} {k:a_} {u:Value} {A:Around} {E:Vq}
def wL{Q:Vq}(I:Inv X pins σ H s)(e:Rd H a (.dK kvs))(h:∀t s',Inv X pins σ H s'->Q (.int kvs.length t) s'):wpAny (model X.prog X.w) A (call (.builtin "len") [.ref a]) Q E s:=by
 obtain⟨z,hd,vs,rel,dd⟩:=hZ I.hok e
 refine call_len_dict hd dd (by rw[<-rel.length];rw[sizeLine_eq]at z;omega) ?_
 rw[<-rel.length]
 exact h _ _ (I.tok _)
end
def k7{X:Cx}{pins:Va}{σ:St}{H:Hp}{s:Shared}{a:Addr}{y:V}{o:Option V}(I:Inv X pins σ H s)(g:DGet H a y o):s.TypeIs (.ref a) "dict":=by
 rcases g with⟨kvs,k,e,_,_⟩|⟨kvs,k,b,e,_,_,_⟩
 ·obtain⟨_,_,vs,_,dd⟩:=hZ I.hok e
  exact dd.typeIs
 ·obtain⟨_,_,xs,_,dd⟩:=iN I.hok e
  exact dd.typeIs
def pD{P:Program}{w:World}{H:Hp}(h:Heap)(hb:sysModules < h.objs.size):Ac P w H (h.push { cls:=.type "dict",data:=.dict #[] }) h.objs.size (.dK []):=
 ⟨Il _,beq_eq_false_iff_ne.mpr (JE (Ii hb)),[],.nil,Heap.DictOf.new h⟩
noncomputable def kl:List (TE×TE)->St->Hp->(List (V×V)->Hp->Prop)->Prop
 |[],_,H,Q=>Q [] H
 |(tk,tv)::r,σ,H,Q=>tk σ H fun x H1=>tv σ H1 fun y H2=>kl r σ H2 fun ps H3=>Q ((x,y)::ps) H3
noncomputable abbrev VV:List (V×V)->List (Value×Value)->Prop:=Paired fun p q=>RelV p.1 q.1/\RelV p.2 q.2
def wM(X:Cx)(pos:Pos)(keys:List (Option Expr))(values:List Expr)(BQ:List (TE×TE)):Prop:=
 ∀(pins:Va) (s:Shared) (σ:St) (H:Hp) (Q:List (V×V)->Hp->Prop),Inv X pins σ H s->kl BQ σ H Q->
  wpAny (model X.prog X.w) X.A (evalPairs (pairTrees keys values X.env pos)) (fun vs s'=>∃ps H',Inv X pins σ H' s'/\VV ps vs/\Q ps H') X.xe s
def rX{X:Cx}{pos:Pos}:wM X pos [] [] []:=fun pins s σ H Q I h=>pairTrees_nil_walk ⟨[],H,I,.nil,h⟩
def pE{X:Cx}{pos:Pos}{k v:Expr}{ks:List (Option Expr)}{vs:List Expr}{tk tv:TE}{BQ:List (TE×TE)}(hk:PE X k tk)(hv:PE X v tv)(hr:wM X pos ks vs BQ) :
  wM X pos (some k::ks) (v::vs) ((tk,tv)::BQ):=fun pins s σ H Q I h=>
 pairTrees_cons_walk (zP (hk pins s σ H _ I h) fun u s1 ⟨x,H1,I1,rx,q1⟩=>zP (hv pins s1 σ H1 _ I1 q1) fun w2 s2 ⟨y,H2,I2,ry,q2⟩=>
  zP (hr pins s2 σ H2 _ I2 q2) fun ws s3 ⟨ps,H3,I3,rel,q3⟩=>⟨(x,y)::ps,H3,I3,.cons ⟨rx,ry⟩ rel,q3⟩)
noncomputable def gF(kvs more:List (a_×V)):List (a_×V):=more.foldl (fun acc kv=>ed acc kv.1 kv.2) kvs
def KV.merge:∀{more:List (a_×V)} {rs:List (a_×Value)} {kvs:List (a_×V)} {vs:List (a_×Value)},KV more rs->KV kvs vs->KV (gF kvs more) (merged vs rs):=by
 intro more rs kvs vs r
 unfold KV at r
 induction r generalizing kvs vs with
 |nil=>intro q;exact q
 |@cons p q ps qs h t ih=>
  intro r0
  have e:KV (ed kvs p.1 p.2) (stored vs q.1 q.2):=by
   have:=r0.put p.1 h.2
   rw[<-h.1];exact this
  exact ih e
theorem fk:∀(more kvs:List (a_×V)),(gF kvs more).length<=kvs.length+more.length
 |[],kvs=>by show kvs.length<=kvs.length+0;omega
 |p::r,kvs=>by
  have h1:=fk r (ed kvs p.1 p.2)
  have h2:=eg kvs p.1 p.2
  show(gF (ed kvs p.1 p.2) r).length<=_
  rw[HW];omega
theorem iO{P:Program}{w:World}:∀{kvs:List (a_×V)} {ws:List (Value×Value)},VV (kvs.map fun kv=>(kV kv.1,kv.2)) ws->∃rs,Carries (aN P w) ws rs/\KV kvs rs
 |[],_,r=>by rw[Je]at r;cases r;exact⟨[],True.intro,.nil⟩
 |p::kvs,_,r=>by
  rw[Ig]at r
  cases r with
  |@cons a b as bs h t=>
   obtain⟨rs,c,q⟩:=iO (P:=P) (w:=w) t
   obtain⟨b1,b2⟩:=b
   exact⟨(p.1,b2)::rs,⟨hW h.1,rfl,c⟩,.cons ⟨rfl,h.2⟩ q⟩
def wN(BQ:List (TE×TE)):TE:=fun σ H Q=>∀p,H p=none->kl BQ σ (upd H p (.dK [])) fun ps H2=>H2 p=some (.dK [])/\∃kvs:List (a_×V),ps=kvs.map (fun kv=>(kV kv.1,kv.2))/\kvs.length<=15/\Q (.ref p) (upd H2 p (.dK (gF [] kvs)))
def rY{X:Cx}{pos:Pos}{keys:List (Option Expr)}{values:List Expr}{BQ:List (TE×TE)}(h:wM X pos keys values BQ)(hall:keys.all (·.isSome)=true)(hl:keys.length=values.length)(h0:keys≠[])
  (Fp:keys.length<=15):PE X (.Dict keys values pos) (wN BQ):=by
 intro pins s σ H Q I q
 have hn:=I.hok.fresh (HF s.heap.objs.size)
 have I1:=I.laid (a:=s.heap.objs.size) (o:=.dK []) (h':=s.heap.push { cls:=.type "dict",data:=.dict #[] }) (t':=s.toks) (fun _ _ q=>HE _ q) (HF _) (pD s.heap I.big)
 refine wpAny_Dict_walk (knd:=aN X.prog X.w) hall hl h0 Fp (zP (h pins _ σ _ _ I1 (q _ hn)) fun ws s2 ⟨ps,H2,I2,rel,e,kvs,ep,lk,q2⟩=>?_)
 subst ep
 obtain⟨rs,c,rk⟩:=iO (P:=X.prog) (w:=X.w) rel
 obtain⟨z,hd,vs0,r0,dd⟩:=tM I2.hok e
 cases r0
 refine⟨rs,c,dd,fun h' D8 hs=>⟨.ref s.heap.objs.size,_,?_,rfl,q2⟩⟩
 have hz:(gF [] kvs).length<=sizeLine:=by
  have h1:=fk kvs []
  rw[Jh]at h1
  rw[sizeLine_eq];omega
 have he:∃q,h'.get? s.heap.objs.size=some q:=let ⟨q,_,_,hq,_⟩:=D8;⟨q,hq⟩
 exact kj I2 (by rw[e];exact True.intro) hs he (pC hz hd (rk.merge .nil) D8)
structure M2 (X:Cx) (o:Expr) (m:Str) (apos:Pos) (e f:Expr) (cpos:Pos):Prop where
 base:attributeBase o m X.env (eval o X.env)=eval o X.env
 few:((backTo cpos (starEach [e,f] X.env)).all (fun x=>!x.1)&&(backToKw cpos (keywordEach [] X.env)).all (fun x=>x.1.isSome)
  && decide (([e,f]:List Expr).length+([]:List Keyword).length+(if ([]:List Keyword).isEmpty then 0 else 1) < 30))=true
 line:(apos.endLine == cpos.line)=true
 trees:backTo cpos (starEach [e,f] X.env)=[(false,eval e X.env),(false,eval f X.env)]
def y_(H:Hp)(a:Addr):Prop:=(∃kvs,Rd H a (.dK kvs))\/∃kvs,Rd H a (.dT kvs)
def uT{X:Cx}{pins:Va}{σ:St}{H:Hp}{s:Shared}{a:Addr}(I:Inv X pins σ H s)(d:y_ H a) :
  s.TypeIs (.ref a) "dict"/\(∀b,Value.ref a = .ref b->∃ob,s.heap.get? b=some ob/\ob.dict=none)/\(a == sysModules)=false:=by
 rcases d with⟨kvs,e⟩|⟨kvs,e⟩
 ·obtain⟨_,hd,vs,_,dd⟩:=hZ I.hok e
  refine⟨dd.typeIs,fun b q=>?_,hd⟩
  cases q
  obtain⟨ob,_,_,h1,h2,_⟩:=dd
  exact⟨ob,h1,h2.2.1⟩
 ·obtain⟨_,hd,xs,_,dd⟩:=iN I.hok e
  refine⟨dd.typeIs,fun b q=>?_,hd⟩
  cases q
  obtain⟨ob,_,_,h1,h2,_⟩:=dd
  exact⟨ob,h1,h2.2.1⟩
section
variable {X:Cx} {pins:Va} {σ:St} {H:Hp} {s:Shared} {a:Addr} {y d:V} {u r:Value} {o:Option V} {A:Around} {E:Vq}
def uU{Q:Vq}(hu:A.units+1 < cLine)(I:Inv X pins σ H s)(g:DGet H a y o)(ry:RelV y u)(rd:RelV d r)(h:∀w' s',Inv X pins σ H s'->RelV (o.getD d) w'->Q w' s') :
  wpAny (model X.prog X.w) A (call (.builtin "dict.get") [.ref a,u,r]) Q E s:=by
 rcases g with⟨kvs,k,e,ey,l⟩|⟨kvs,k,b,e,ey,eb,l⟩
 ·subst ey
  obtain⟨z,hd,vs,rel,dd⟩:=hZ I.hok e
  refine call_meetsIn JF dd.typeIs KO (KA _ _ _) (meets_dict_get_default (aN X.prog X.w) a (hW ry) hd r) ⟨_,dd.mapOf,h _ _ (I.tok _) ?_⟩
  rw[l]
  exact(rel.val k).getD rd
 ·subst ey
  cases (show u=Value.ref b from ry)
  obtain⟨z,hd,xs,rel,dd⟩:=iN I.hok e
  refine call_meetsIn JF dd.typeIs KO (KA _ _ _) (meetsH_dict_get_default (tupleKind (aN X.prog X.w)) a b hd r) ⟨JS hu,k,xs,cp I.hok eb,dd,h _ _ (I.tok _) ?_⟩
  rw[l]
  exact(rel.val k).getD rd
end
def uV(td ty tx:TE):TE:=fun σ H Q=>td σ H fun x H1=>∃a,x = .ref a/\y_ H1 a/\ty σ H1 fun y H2=>tx σ H2 fun z H3=>∃o,DGet H3 a y o/\Q (o.getD z) H3
section
variable {X:Cx} {o e f:Expr} {apos cpos:Pos} {td ty tx:TE}
def pF(hu:X.A.units+1 < cLine)(ho:PE X o td)(he:PE X e ty)(hf:PE X f tx)(m:M2 X o "get" apos e f cpos):PE X (.Call (.Attribute o "get" apos) [e,f] [] cpos) (uV td ty tx):=by
 intro pins s σ H Q I h
 refine wpAny_Call_method m.base m.few m.line PySem.F.plainAttrs_dict JF PySem.F.type_dict_get (zP (ho pins s σ H _ I h) fun u s1 ⟨x,H1,I1,rx,a,ex,d,q1⟩=>?_)
 subst ex
 obtain rfl:u=Value.ref a:=rx
 obtain⟨t1,t2,_⟩:=uT I1 d
 refine⟨t1,t2,?_⟩
 rw[m.trees]
 refine JA rfl (J7 (Jb (zP (he pins s1 σ H1 _ I1 q1) fun iv s2 ⟨y,H2,I2,ry,q2⟩=>
  Jb (zP (hf pins s2 σ H2 _ I2 q2) fun fv s3 ⟨z,H3,I3,rz,ov,g,q3⟩=>JI ?_))))
 exact uU hu I3 g ry rz fun w' s4 I4 rw'=>⟨_,H3,I4,rw',q3⟩
end
end L2
namespace Att
open PySem PySem.W PySem.Calls PyProof.Rows
def ir{P:Params}{h:Heap}:∀(ns:Vu) (vs:Vv),WellAll P h vs (ns.map WData.int)->IntsAre vs ns:=by
 intro ns
 induction ns with
 |nil=>
  intro vs w
  rw[Je]at w
  cases w
  exact .nil
 |cons n ns ih=>
  intro vs w
  rw[Ig]at w
  cases w with
  |cons a b=>
   cases a
   exact .cons _ _ (ih _ b)
def nR{l:OpenLaw}{n:Nat}(hn:l.most=some n){P:Params}{h:Heap}{args:List WData}{vals:Vv}
  (hpre:l.row.toRowW.claim.pre args=true) (hwl:WellAll P h vals args) :
  ∃a vs ns,vals=[Value.ref a]/\args=[WData.list (ns.map WData.int)]/\h.get? a=some { cls:=.type "list",data:=.seq vs.toArray }/\IntsAre vs ns/\ns.length<=n:=by
 have hsh:WShape.hasAll [] args [.list .int]=true:=(pre_splitW hpre).1
 have hc:l.pre.holds [] { args:=args }=true:=(pre_splitW hpre).2
 obtain⟨d,r,rfl,h1,h2⟩:=hasAllW_cons hsh
 obtain rfl:=hasAllW_nil h2
 obtain⟨xs,rfl,h3⟩:=hasW_list h1
 obtain⟨ns,rfl⟩:=items_int h3
 have hlen:ns.length<=n:=by
  unfold OpenLaw.pre at hc
  have h4:(WTm.not (.lt (.lit (.int (n:Int))) (.len (.arg 0)))).holds [] { args:=[.list (ns.map .int)] }=true:=by
   have h4:=(holds_andW hc).1
   rw[hn]at h4
   exact h4
  have h5:=condW_of h4 (w_not (w_lt w_lit (w_len_list (w_arg rfl))))
  rw[HD]at h5
  refine Nat.le_of_not_lt fun q=>?_
  have q':(n:Int) < ((ns.length:Nat):Int):=by omega
  first
   |(rw[IB q']at h5;exact absurd h5 (by decide))
   |(simp at h5;omega)
 cases hwl with
 |cons w1 w2=>
  cases w2
  cases w1 with
  |list ho hall=>exact⟨_,_,ns,rfl,rfl,ho,ir ns _ hall,hlen⟩
def nS(l:OpenLaw)(args:List WData):l.row.toRowW.claim.post args (.bool true) args=true:=
 postW_of (r:=l.row.toRowW) (X:=(true == true))
  (show WShape.has [] (.bool true) .bool=true by first|rfl|decide|simp[WShape.has,WShape.arms,WShape.armsAll])
  (show(WTm.eq .res (.lit (.bool true))).value [] { args:=args,res:=some (.bool true),after:=args }=some (.bool (true == true))from w_eq_bool (w_res rfl) w_lit) rfl
def k8{l:OpenLaw}{n:Nat}{q:Program}{loose:Vs}{XP:(Vr)->Heap->Prop}{YP:World->Heap->Prop}{d:DefRec}
  (hn:l.most=some n) (hdf:d.params.defaults=[])
  (call:∀(w:World) (s₀ s₁:Shared) (mg mb:Vr) (fa:Addr) (o:Obj) (pm cd doc:Value) (a:Addr) (vs:Vv) (ns:Vu),
   Ground q loose [] XP w s₀ mg mb s₁.heap->YP w s₁.heap->
   s₁.heap.get? fa=some o->o.data = .func (docDef d.name d.params d.body d.scope pm cd doc)->s₁.heap.CodeRec cd d.name->mg d.name=some (.ref fa)->
   s₁.heap.get? a=some { cls:=.type "list",data:=.seq vs.toArray }->IntsAre vs ns->ns.length<=n->s₁.gens=#[]->
   codeAny (model l.prog w) callerA (.call (.ref fa) ⟨[.ref a],[]⟩) (fun r s'=>r = .ok (.ret (.bool true))/\OldK s₁.heap s'.heap/\s'.os=s₁.os/\AllBare s'.gens) s₁) :
  WalkO q loose XP YP l.row.toRowW d [] (fun f vs=>PySem.call f vs):=by
 intro w s₀ s₁ mg mb G Y fa o pm cd doc dV kV ho hd hcd hD hmg hg args vals as hpre hlay hrd hwl hlo
 obtain rfl:dV = .none:=Dflts.none hD hdf
 obtain rfl:kV = .none:=Dflts.noKw hD
 obtain⟨a,vs,ns,rfl,rfl,hobj,hints,hlen⟩:=nR hn hpre hwl
 refine enter_call (codeAny_mono (call w s₀ s₁ mg mb fa o pm cd doc a vs ns G Y ho (fd_plain hd) hcd hmg hobj hints hlen hg) fun r s' hq=>?_)
 obtain⟨rfl,h2,h3,h4⟩:=hq
 exact⟨.inl ⟨.bool true,.bool true,[],rfl,fun _=>rfl,.bool true,nS l _,fun _=>⟨List.Pairwise.nil,fun _ hm=>(nomatch hm)⟩⟩,h2,h3,h4⟩
end Att
namespace L2
open PySem PySem.Spec PyProof.Rows
theorem jQ:∀{vs:Vv} {ns:Vu},IntsAre vs ns->Vals (ns.map V.int) vs
 |_,_,.nil=>.nil
 |_,_,.cons n t h=>.cons ⟨t,rfl⟩ (jQ h)
def rZ(H:Hp):Prop:=∀b,H b=none\/∃o xs,H b=some (.frz o (.lst xs))
def pG{P:Program}{w:World}{K:Vo}{mg mb:Vr}{CX:q9}{k:Nat}{fa a:Addr}{fd:FuncData}{x:Str}{sp:Sp}{s₁:Shared}{vs:Vv}{ns:Vu}
  (KX:K.In s₁.heap) (hns:s₁.heap.Ns mainGlobals mg) (hb:s₁.heap.Ns builtinsNs mb) (GS:∀x:Str,x ≠ "__name__"->mb x=bootBuiltins x) (hlim:s₁.heap.NoLimit) (hg:s₁.gens=#[])
  (ha:s₁.heap.get? a=some { cls:=.type "list",data:=.seq vs.toArray }) (hi:IntsAre vs ns) (hl:ns.length<=sizeLine) (hr:Room k callerA)
  (F:∀base:Heap,K.In base->base.Ns mainGlobals mg->jx P w K mg base CX k fa fd [x] sp) (hbind:∀(s:Shared) (u:Value),BindsTo s fd ⟨[u],[]⟩ [(x,u)])
  (Do:∀H:Hp,rZ H->SqL K H a (ns.map V.int)->sp [.ref a] H (fun v _=>v = .bl true) fun _ _ _=>False)
  (Fq:∀H e s',CX [] H s₁ (fun _ _ _=>False) e s'->False) :
  codeAny (model P w) callerA (.call (.ref fa) ⟨[.ref a],[]⟩) (fun r s'=>r = .ok (.ret (.bool true))/\OldK s₁.heap s'.heap/\s'.os=s₁.os/\AllBare s'.gens) s₁:=by
 have rv:=jQ hi
 have Fr:=hi.length
 -- from an abstract heap in which nothing but the script may be tracked
 have core:∀H:Hp,rZ H->SqL K H a (ns.map V.int)->Bm P w H s₁.heap->(∀b,H b≠none->b=a)->(H a≠none->K.lookup a=none)->
   codeAny (model P w) callerA (.call (.ref fa) ⟨[.ref a],[]⟩) (fun r s'=>r = .ok (.ret (.bool true))/\OldK s₁.heap s'.heap/\s'.os=s₁.os/\AllBare s'.gens) s₁:=by
  intro H hO hS hok hA hK
  have CM:∀{b:Addr} {o:Obj},s₁.heap.get? b=some o->H b=none->(kc s₁.heap H).get? b=some o:=fun e n=>oS e n
  have Ey:∀{b:Addr} {o:Obj} {es:Array DictEntry} {ep:Nat},s₁.heap.get? b=some o->o.data = .dict es ep->H b=none:=fun{b o es ep} e d=>by
   cases q:H b with
   |none=>rfl
   |some u=>
    have e':b=a:=hA b (by rw[q];simp)
    subst e'
    rw[ha]at e;cases e
    have d':Data.seq vs.toArray _=Data.dict es ep:=d
    cases d'
  have ER:∀{b:Addr} {m:Vr},s₁.heap.Ns b m->(kc s₁.heap H).Ns b m:=fun{b m} ⟨o,es,ep,e,d,r⟩=>⟨o,es,ep,CM e (Ey e d),d,r⟩
  have Gc:K.In (kc s₁.heap H):=fun b o e=>CM (KX b o e) (by
   cases q:H b with
   |none=>rfl
   |some u=>
    have e':b=a:=hA b (by rw[q];simp)
    subst e'
    rw[hK (by rw[q];simp)]at e;cases e)
  have hM:Mod K mg (kc s₁.heap H):=⟨Gc,ER hns,⟨mb,ER hb,GS⟩,let ⟨mc,h1,h2⟩:=hlim;⟨mc,ER h1,h2⟩⟩
  have e0:rM P w K mg (kc s₁.heap H) callerA [] s₁ H:=⟨rfl,hM,fun b o e=>rh e,Nat.le_of_eq (nE _ _),trivial,fun b hb=>absurd (show b∈([]:List Addr)from hb) (by simp),hok,.of_eq hg⟩
  refine codeAny_mono ((F _ Gc (ER hns)).run callerA [] s₁ H ⟨[.ref a],[]⟩ [.ref a] [.ref a] _ _ hr e0 (hbind s₁ (.ref a)) (.cons rfl .nil) (Do H hO hS)) fun r s' h=>?_
  cases r with
  |error e=>exact(Fq H e s' h).elim
  |ok fl=>
   cases fl with
   |next=>exact False.elim h
   |brk=>exact False.elim h
   |cont=>exact False.elim h
   |ret u=>
    obtain⟨v,H',os,bare,un,Ft,r',q⟩:=h
    have q':v = .bl true:=q
    subst q'
    obtain rfl:u=Value.bool true:=r'
    refine⟨rfl,OldK.of_keep fun b o e=>?_,os,bare⟩
    cases q:H b with
    |none=>exact un.keep b o e q (by intro z;exact absurd (show b∈([]:List Addr)from z) (by simp)) (by simp)
    |some u=>
     rcases hO b with z|⟨ob,xs,z⟩
     ·rw[q]at z;cases z
     ·have z2:=un.B8 b ob _ z
      obtain⟨e1,_⟩:=hok b _ z
      obtain⟨e2,_⟩:=Ft b _ z2
      rw[e]at e1;cases e1
      exact e2
 cases hk:K.lookup a with
 |some o=>
  -- the script is one of the module's own objects
  have e:=KX a o hk
  rw[ha]at e
  cases e
  refine core (fun _=>none) (fun _=>.inl rfl) (.inr ⟨_,vs.toArray,_,hk,rfl,rfl,rfl,by rw[HH,Fr];exact hl,by simpa using rv⟩) (fun b u z=>by have z':(none:Option HO)=some u:=z;cases z') (fun b z=>absurd rfl z) fun z=>absurd rfl z
 |none=>
  refine core (fun b=>if b=a then some (.frz { cls:=.type "list",data:=.seq vs.toArray } (.lst (ns.map V.int))) else none) (fun b=>?_) (.inl (.inr ⟨{ cls:=.type "list",data:=.seq vs.toArray },if_pos rfl⟩)) (fun b u z=>?_) (fun b z=>?_) fun _=>hk
  ·by_cases hb:b=a
   ·exact .inr ⟨_,_,if_pos hb⟩
   ·exact .inl (if_neg hb)
  ·by_cases hb:b=a
   ·have z':=(if_pos hb).symm.trans z
    cases z'
    subst hb
    exact⟨ha,by rw[HD];exact hl,vs,_,rv,ha⟩
   ·have z':=(if_neg hb).symm.trans z
    cases z'
  ·by_cases hb:b=a
   ·exact hb
   ·exact absurd (if_neg hb) z
def r9{l:PySem.W.OpenLaw}{n k:Nat}{q:Program}{loose:Vs}{XP:(Vr)->Heap->Prop}{YP:World->Heap->Prop}{d:DefRec}{K:Params->PySem.W.Frag}{CX:World->q9}{sp:World->Sp}{x:Str}
  (hn:l.most=some n) (hn2:n<=sizeLine) (hdf:d.params.defaults=[]) (hr:Room k callerA)
  (hY:∀(w:World) (h:Heap),YP w h->(K w.params).In h)
  (F:∀(w:World) (mg:Vr) (fa:Addr) (h:Heap),(K w.params).In h->h.Ns mainGlobals mg->mg d.name=some (.ref fa)->
   ∃fd:FuncData,(∀(s:Shared) (u:Value),BindsTo s fd ⟨[u],[]⟩ [(x,u)])/\
    ∀base:Heap,(K w.params).In base->base.Ns mainGlobals mg->jx l.prog w (K w.params) mg base (CX w) k fa fd [x] (sp w))
  (Do:∀(w:World) (H:Hp) (a:Addr) (ns:Vu),ns.length<=n->rZ H->SqL (K w.params) H a (ns.map V.int)->sp w [.ref a] H (fun v _=>v = .bl true) fun _ _ _=>False)
  (Fq:∀(w:World) (H:Hp) (s:Shared) (e:Value) (s':Shared),CX w [] H s (fun _ _ _=>False) e s'->False) :
  PySem.W.WalkO q loose XP YP l.row.toRowW d [] (fun f vs=>PySem.call f vs):=by
 refine Att.k8 hn hdf fun w s₀ s₁ mg mb fa o pm cd doc a vs ns G Y ho hd hcd hmg hobj hints hlen hg=>?_
 have KX:=hY w _ Y
 obtain⟨fd,hb,hF⟩:=F w mg fa _ KX G.T.g hmg
 exact pG KX G.T.g G.T.b G.T.builtins G.T.nolimit hg hobj hints (HX hlen hn2) hr hF hb (fun H hO hS=>Do w H a ns hlen hO hS) fun H e s'=>Fq w H s₁ e s'
noncomputable def bB(s:Stmt):Arguments:=match s with
 | .FunctionDef _ a _ _ _ _ _ _ _ _=>a
 |_=>{ posonlyargs:=[],args:=[],vararg:=none,kwonlyargs:=[],kw_defaults:=[],kwarg:=none,defaults:=[] }
noncomputable def aW(s:Stmt):List Stmt:=match s with
 | .FunctionDef _ _ b _ _ _ _ _ _ _=>b
 |_=>[]
noncomputable def ax(s:Stmt):Scope:=match s with
 | .FunctionDef _ _ _ _ _ _ sc _ _ _=>sc
 |_=>{ kind:=.function,names:=[],isGenerator:=false,isCoroutine:=false }
noncomputable abbrev q_:q9:=fun _ _ _ _ _ _=>False
noncomputable abbrev E0:XK:=fun _ _ _=>False
def tN{X:Cx}:lW q_ X E0:=fun _ _ _ _ _ _ _ h=>h.elim
structure DH (K:Vo) (x qual:Str) (st:Stmt) (f:Addr) (fd:FuncData):Prop where
 ex:∃(oc:Value) (od:Option Addr) (kV doc pm:Value) (an:Option Addr) (cdv ct:Value) (osl:Array (Option Value)),
  fd=PySem.W.fnOf x qual (bB st) (aW st) (ax st) .none kV doc pm an cdv ct/\K.lookup f=some ⟨oc,od,.func fd,osl⟩/\PySem.W.codeIn K cdv qual=true
 kp:PySem.W.keepIn K (.ref f)=true
section
variable {P:Program} {w:World} {K:Vo} {mg:Vr} {base:Heap}
def DH.ok{x qual:Str}{st:Stmt}{f:Addr}{fd:FuncData}{N ps:Vs}{k:Nat}{sp:Sp}(F:DH K x qual st f fd)(S:cy N ps (ax st))(len:∀vs H Q E,sp vs H Q E->vs.length=ps.length)
  (hbody:∀(cdv:Value) (A:Around) (outer:List Env) (s:Shared) (H:Hp) (vs:List V) (Q:VK) (E:XK),Room k (A.deeper (envOfC qual (ax st) s.heap.objs.size f cdv))->sp vs H Q E->
   ∃t,Co (k4 q_ P w K mg base N qual (ax st) f cdv A outer s H E).DW (aW st) t/\t { nx:=fun _ H'=>Q .non H',rt:=Q } (d4 N vs) H):jx P w K mg base q_ (k+1) f fd ps sp:=by
 obtain⟨oc,od,kV,doc,pm,an,cdv,ct,osl,rfl,lk,hcd⟩:=F.ex
 refine tK lk hcd S len fun A outer s H vs Q E hr Do=>?_
 obtain⟨t,h,q⟩:=hbody cdv A outer s H vs Q E hr Do
 exact⟨t,h.DW,q⟩
def DH.binds{x qual:Str}{st:Stmt}{f:Addr}{fd:FuncData}{ps:Vs}(F:DH K x qual st f fd)
  (h:∀(kV doc pm:Value) (an:Option Addr) (cdv ct:Value) (us:Vv),us.length=ps.length->bindArgs (PySem.W.fnOf x qual (bB st) (aW st) (ax st) .none kV doc pm an cdv ct) ⟨us,[]⟩=pure (ps.zip us)):Binds K fd ps []:=by
 obtain⟨oc,od,kV,doc,pm,an,cdv,ct,osl,rfl,lk,hcd⟩:=F.ex
 exact .all (h kV doc pm an cdv ct)
def km{x qual:Str}{st:Stmt}{f:Addr}{oc:Value}{od an:Option Addr}{osl:Array (Option Value)}{kV doc pm cdv ct:Value}(l:K.lookup f=some ⟨oc,od,.func (PySem.W.fnOf x qual (bB st) (aW st) (ax st) .none kV doc pm an cdv ct),osl⟩)
  (c:PySem.W.codeIn K cdv qual=true) (k:PySem.W.keepIn K (.ref f)=true):DH K x qual st f (PySem.W.fnOf x qual (bB st) (aW st) (ax st) .none kV doc pm an cdv ct):=⟨⟨oc,od,kV,doc,pm,an,cdv,ct,osl,rfl,l,c⟩,k⟩
end
def dv{n:Nat}(h:n<=1000):n < sizeLine:=Ky h (by decide)
section
variable {X:Cx}
def nU:fT X (.builtin "len") (fun xs H Q=>∃a kvs,xs=[V.ref a]/\H a=some (.dK kvs)/\Q (.int kvs.length) H):=by
 intro pins s σ H xs us Q I r h
 obtain⟨a,kvs,rfl,ha,q⟩:=h
 obtain⟨u,rfl,ru⟩:=fU r
 cases ru
 exact wL I (.inl ha) fun t s' I'=>⟨.int kvs.length,H,I',⟨t,rfl⟩,q⟩
end
end L2
set_option maxHeartbeats 4000000
namespace L2
open PySem PySem.Spec PyProof.Rows
def kn{prog:Program}{w:World}{A:Around}{R:Result->Shared->Prop}{s:Shared}{elt target iter:Expr}{ifs:List Expr}{scope:Scope}{pos:Pos}{it acc:Value}{env:Env}(I:Nat->Shared->Prop)
  (turn:∀n s,I n s->wpAny (model prog w) A (pyNext it) (fun r s₁=>match r with
   |none=>R (.ok .next) s₁
   |some v=>wpAny (model prog w) A (letOwnedTupleGo target it v) (fun _ s₁'=>wpAny (model prog w) A (assign target env v) (fun _ s₂=>
     wpAny (model prog w) A (forIn ifs true fun c r=>if r=true then do let ok <-isTrue c env (eval c env);pure (ForInStep.yield ok) else pure (ForInStep.yield r)) (fun ok s₃=>
      if ok=true then wpAny (model prog w) A (eval elt env) (fun x s₄=>
       wpAny (model prog w) A (call (.builtin "list.append") [acc,x]) (fun _ s₅=>∃m,m < n/\I m s₅) (fun _ _=>False) s₄) (fun _ _=>False) s₃
      else ∃m,m < n/\I m s₃) (fun _ _=>False) s₂) (fun _ _=>False) s₁') (fun _ _=>False) s₁) (fun _ _=>False) s)
  (n:Nat) (h:I n s) :
  codeAny (model prog w) A (.compLoop (.ListComp elt [⟨target,iter,ifs,0⟩] scope pos) 0 it acc env) R s:=by
 refine codeAny_loop rfl I (fun n s hI=>?_) n h
 show wpAny _ A ((compTurn (.ListComp elt [⟨target,iter,ifs,0⟩] scope pos) 0 it acc env).onRaise (fun x=>do noteFrame x env;theTreesLotGoes x)) _ _ s
 refine wpAny_noted ?_
 rw[compTurn_list]
 refine HB (wpAny_standAt (HB (JR (turn n s hI) (fun r s₁ h₁=>?_) fun _ _ h'=>h'.elim)))
 cases r with
 |none=>exact HJ h₁
 |some v=>
  refine HB (JR h₁ (fun _ s₁' h₁'=>?_) fun _ _ h'=>h'.elim)
  refine HB (JR h₁' (fun _ s₂ h₂=>HB (JR h₂ (fun ok s₃ h₃=>?_) fun _ _ h'=>h'.elim)) fun _ _ h'=>h'.elim)
  cases ok with
  |false=>exact HJ ⟨rfl,h₃⟩
  |true=>
   exact HB (HB (JR h₃ (fun x s₄ h₄=>HB (JR h₄ (fun _ s₅ h₅=>HJ (HJ ⟨rfl,h₅⟩)) fun _ _ h'=>h'.elim)) fun _ _ h'=>h'.elim))
structure Bk where
 C:Addr
 s:Shared
 H:Hp
 fp:List Addr
 pn:Va
noncomputable def b5(env:Env)(fs:Vs):List (Str×Addr):=fs.map fun x=>(x,(env.cells.lookup x).getD 0)
noncomputable abbrev Cx.Bj(X:Cx)(N:Vs)(scope:Scope)(fs:Vs)(B:Bk):Cx:=
 { X with N:=N,s₀:=B.s,H₀:=B.H,env:=compEnvC scope (b5 X.env fs) B.C X.env,outer:=X.stack,ex:=B.fp,fn:=fun _=>false,pn:=B.pn,xe:=fun _ _=>False }
noncomputable def bR(env:Env):List Str->Prop
 |[]=>True
 |x::r=>(∃c,env.cells.lookup x=some c)/\bR env r
theorem h_{env:Env}:∀{fs:Vs},bR env fs->∀{x:Str} {c:Addr},(b5 env fs).lookup x=some c->env.cells.lookup x=some c
 |[],_,x,c,h=>by cases h
 |y::r,k,x,c,h=>by
  obtain⟨⟨d,hd⟩,k⟩:=k
  have h':List.lookup x ((y,(env.cells.lookup y).getD 0)::b5 env r)=some c:=h
  rw[List.lookup_cons]at h'
  cases e:x == y with
  |true=>
   rw[e]at h'
   have e':x=y:=by simpa using e
   subst e'
   rw[hd]at h'
   rw[hd]
   exact h'
  |false=>
   rw[e]at h'
   exact h_ k h'
noncomputable def ko(names:List (Str×NameKind))(cl:List (Str×Addr)):Bool:=names.all fun y=>(y.2 != .cell&&y.2 != .free) || (cl.lookup y.1).isSome
def pH{names:List (Str×NameKind)}{cl:List (Str×Addr)}{x:Str}{k:NameKind}(h:ko names cl=true)(e:names.lookup x=some k)(hk:k = .cell\/k = .free):∃c,cl.lookup x=some c:=by
 have hm:(x,k)∈names:=Jz e
 have q:=KW.mp h _ hm
 have z:(cl.lookup x).isSome=true:=by
  rcases hk with rfl|rfl
  ·simpa using q
  ·simpa using q
 exact Option.isSome_iff_exists.mp z
noncomputable def Ax(env:Env)(scope:Scope)(cl:List (Str×Addr)):List Str->Prop
 |[]=>True
 |x::r=>((env.scope.names.lookup x=some .cell\/env.scope.names.lookup x=some .free)/\((relabel scope env).names.lookup x=some .cell\/(relabel scope env).names.lookup x=some .free)/\cl.lookup x=env.cells.lookup x)/\Ax env scope cl r
theorem Ax.mem{env:Env}{scope:Scope}{cl:List (Str×Addr)}:∀{l:Vs},Ax env scope cl l->∀x∈l,
  (env.scope.names.lookup x=some .cell\/env.scope.names.lookup x=some .free)/\((relabel scope env).names.lookup x=some .cell\/(relabel scope env).names.lookup x=some .free)/\cl.lookup x=env.cells.lookup x
 |[],_,x,h=>nomatch h
 |y::r,k,x,h=>by
  rcases HL.mp h with rfl|h
  ·exact k.1
  ·exact Ax.mem k.2 x h
noncomputable def dy(own:Nat)(fr:List Nat)(σ:St):St:=List.replicate own none++fr.map fun j=>(σ[j]?).getD none
noncomputable abbrev gG(us:Vv):Obj:={ cls:=.type "list",data:=.seq us.toArray us.length }
def nV(us:Vv)(u:Value):({ cls:=.type "list",data:=.seq (us.toArray.push u) (us.length+1) }:Obj)=gG (us++[u]):=by
 show({ cls:=.type "list",data:=.seq (us.toArray.push u) (us.length+1) }:Obj)={ cls:=.type "list",data:=.seq (us++[u]).toArray (us++[u]).length }
 rw[HC,HZ,List.push_toArray]
section
variable {X:Cx} {pins:Va} {σ:St} {H:Hp} {s:Shared}
def Inv.EA{D:Addr}{us:Vv}{n:Nat}{ys:List V}(I:Inv X pins σ H s)(f:dr X pins H D)(e:s.heap.get? D=some { cls:=.type "list",data:=.seq us.toArray n })(r:Vals ys us)(hz:ys.length<=sizeLine) :
  Inv X pins σ (upd H D (.lst ys)) s:=by
 obtain⟨f0,f1,f2,f3,f4,f5⟩:=f
 have nD:∀b u,H b=some u->b≠D:=fun b u q=>aO q f0
 have hok:Bm X.prog X.w (upd H D (.lst ys)) s.heap:=fun b u q=>by
  by_cases hb:b=D
  ·subst hb
   rw[aw]at q
   cases q
   exact⟨hz,us,n,r,e⟩
  ·rw[av hb]at q
   exact(I.hok b u q).stay (fun _ _ _ z=>z) (fun c z=>by rw[av (nD c _ z)];exact z) fun c xs z=>by rw[av (nD c _ z)];exact z
 exact I.step (H':=upd H D (.lst ys)) (h':=s.heap) (g':=s.gens) (t':=s.toks) (d':=s.drawn) (ch:=[D])
  (fun b hb=>by
   have z:b=D:=by simpa using hb
   subst z
   exact⟨f3,f1,f4,f5⟩)
  (fun _ _ _ _ _ q _=>q) (fun _ o _ _ _ q _=>⟨o.slots,q⟩)
  (fun b o hb _ n=>by rw[av (fun z=>hb (by simp[z]))];exact n)
  (fun _ o _ q=>⟨o,q⟩) (fun b xs q=>by rw[av (nD b _ q)];exact q) (fun b o u q=>by rw[av (nD b _ q)];exact q)
  (fun b ps q=>⟨#[],by rw[av (nD b _ q),q];simp⟩) (fun _ q=>q) hok I.bare
def uW{N:Vs}{scope:Scope}{fs:Vs}{C:Addr}{fp:List Addr}(I:Inv X pins σ H s)(hkind:scope.kind = .function)(hC:s.heap.objs.size<=C)(hcl:bR X.env fs)
  (hhas:ko (relabel scope X.env).names (b5 X.env fs)=true) (hf:∀b∈fp,dr X pins H b) (hlt:∀b∈fp,b < s.heap.objs.size):(X.Bj N scope fs ⟨C,s,H,fp,X.pn++pins⟩).Ok where
 mod:=I.ok.mod
 kind:=hkind
 glob:=I.ok.glob
 blt:=I.ok.blt
 above:=hC
 inj:=fun x y c h1 h2=>I.ok.inj x y c (h_ hcl h1) (h_ hcl h2)
 has:=fun x hx=>by
  rcases hx with e|e
  ·exact pH hhas e (.inl rfl)
  ·exact pH hhas e (.inr rfl)
 En:=fun x c h=>by cases h
 hd:=I.ok.hd
 frames:=I.ok.frames
 stk:=.inl rfl
 Ff:=fun b hb=>⟨Ii (HY (hlt b hb) hC),fun x c e=>(hf b hb).2.2.2.2.1 x c (h_ hcl e)⟩
 bs:=I.bs
 Du:=HX I.ok.Du I.sz
 CT:=fun b o e hb=>(hf b hb).2.2.2.1.elim (fun z=>I.ok.CT b o e z) fun z=>absurd (HY (HK e) (HX I.ok.Du z)) (Jo _)
 C8:=fun b hb z=>(HL.mp (I.BB b z)).elim (hf b hb).2.1 (hf b hb).2.2.1
 BM:=I.stack
 DU:=I.CK
def r_{N:Vs}{scope:Scope}{fs:Vs}{C D:Addr}{fp:List Addr}{own:Nat}{fr:List Nat}{h₁:Heap}{m0:Vr}{t':Nat}(I:Inv X pins σ H s)
  (ok:(X.Bj N scope fs ⟨C,s,H,fp,X.pn++pins⟩).Ok) (hC:s.heap.objs.size<=C) (hD:s.heap.objs.size<=D) (hDC:D≠C) (hcl:bR X.env fs)
  (old:∀b o,s.heap.get? b=some o->h₁.get? b=some o) (hns:h₁.Ns C m0) (hacc:h₁.get? D=some (gG [])) (hlen:N.length=own+fr.length) (hN:(N.drop own).map some=fr.map fun j=>X.N[j]?)
  (hF:Ax X.env scope (b5 X.env fs) (N.drop own)) :
  Inv (X.Bj N scope fs ⟨C,s,H,fp,X.pn++pins⟩) [(D,gG [])] (dy own fr σ) H { s with heap:=h₁,toks:=t' }:=by
 refine⟨ok,rfl,I.bare,Un.kept old,⟨m0,hns,fun i x v e1 e2 e3=>?_⟩,fun x c e=>?_,I.hok.fresh hC,fun x c e=>I.Be x c (h_ hcl e),fun p hp=>?_,I.hok.kept old,?_⟩
 ·have e1:N[i]?=some x:=e1
  by_cases hi:i < own
  ·unfold dy at e2
   rw[Iz (by rw[ID];exact hi),Ju,if_pos hi]at e2
   cases e2
  ·obtain⟨k,rfl⟩:∃k,i=own+k:=⟨i - own,by omega⟩
   have e1':(N.drop own)[k]?=some x:=by rw[Le];exact e1
   have q:=IP (fun l=>l[k]?) hN
   simp only[HR,e1',Option.map_some]at q
   unfold dy at e2
   rw[IE (by rw[ID];omega),ID,Nat.add_sub_cancel_left,HR]at e2
   cases hj:fr[k]? with
   |none=>rw[hj]at e2;cases e2
   |some j=>
    rw[hj]at e2 q
    simp only[Option.map_some,Lk]at e2 q
    have hσ:σ[j]?=some (some v):=by
     cases z:σ[j]? with
     |none=>rw[z]at e2;cases e2
     |some w=>rw[z]at e2;simp only[Option.getD_some]at e2;rw[e2]
    obtain⟨k1,k2,k3⟩:=hF.mem x (Ik e1')
    obtain⟨m,hn,hl⟩:=I.loc
    have vis:xK X.env.scope x:=by
     rcases k1 with z|z
     ·exact .inr (.inl z)
     ·exact .inr (.inr z)
    obtain⟨u,ru,l⟩:=hl j x v q.symm hσ vis
    rcases l with⟨hk,_⟩|⟨_,c,hc,o,ho,hd⟩
    ·have hk':X.env.scope.names.lookup x=some .local:=hk
     rcases k1 with z|z
     ·rw[z]at hk';cases hk'
     ·rw[z]at hk';cases hk'
    ·exact⟨u,ru,.inr ⟨k2,c,k3.trans hc,o,old _ _ ho,hd⟩⟩
 ·obtain⟨v,o,ho,hd⟩:=I.cell x c (h_ hcl e)
  exact⟨v,o,old _ _ ho,hd⟩
 ·rcases HN.mp hp with z|z
  ·obtain⟨e,n,ne,nf,d⟩:=I.pin p z
   exact⟨old _ _ e,n,Ii (HY (HK e) hC),fun q=>(HL.mp (I.BB _ q)).elim ne nf,d⟩
  ·have z':p=(D,gG []):=by simpa using z
   subst z'
   exact⟨hacc,I.hok.fresh hD,hDC,fun q=>(HL.mp (I.BB _ q)).elim (fun e=>absurd e (Kf (HY I.lt hD))) (I.Eu hD),fun v z=>by cases z⟩
 ·show(dy own fr σ).length=N.length
  unfold dy
  rw[HC,ID,HD,hlen]
end
def PF(X:Cx)(ifs:List Expr)(t:TT):Prop:=
 ∀(pins:Va) (s:Shared) (σ:St) (H:Hp) (Q:Bool->Hp->Prop),Inv X pins σ H s->t σ H Q->
  wpAny (model X.prog X.w) X.A (forIn ifs true fun c r=>if r=true then do let ok <-isTrue c X.env (eval c X.env);pure (ForInStep.yield ok) else pure (ForInStep.yield r)) (TP X pins σ Q) X.xe s
def yy:TT:=fun _ H Q=>Q true H
def uX{X:Cx}:PF X [] yy:=fun _ _ _ H _ I h=>wpAny_tests_nil ⟨H,I,h⟩
def uY{X:Cx}{c:Expr}{t:TT}(h:PT X c t):PF X [c] t:=fun pins s σ H Q I q=>wpAny_tests_one (h pins s σ H Q I q)
def tO(J:It)(g:TG)(tc:TT)(te:TE)(own:Nat)(σ':St)(fin:List V->Hp->Prop)(H1:Hp):Prop:=
 ∃W:Nat->Nat->List V->Hp->Prop,(∃m,W 0 m [] H1)/\∀i m ys H,W i m ys H->
  (J.stop i H/\ys.length<=sizeLine/\fin ys H) \/
  (J.go i H/\ys.length<=sizeLine/\∃Nx:List V->Hp->Prop,(∀ys' H',Nx ys' H'->∃m',m' < m/\W (i+1) m' ys' H')/\∀x H',J.EQ i H x H'->g x σ' H' fun σ2 H2=>σ2.drop own=σ'.drop own/\tc σ2 H2 fun b H3=>
   if b=true then te σ2 H3 fun y H4=>Nx (ys++[y]) H4 else Nx ys H3)
section
variable {X:Cx} {pins:Va} {σ:St} {H:Hp} {s:Shared}
variable {elt iter tg:Expr} {ifs:List Expr} {scope:Scope} {pos:Pos} {N:Vs} {own:Nat} {fr:List Nat} {fs:Vs} {g:TG} {tc:TT} {te:TE}
def iP{J:It}{fp:List Addr}{it:Addr}{tn:Nat->Heap->Prop}{fin:List V->Hp->Prop}{E:Vq}{RR:Value->Addr->Result->Shared->Prop}
  (hc:X.calm=true) (hcell:∀y∈scope.names,y.2 ≠ .cell) (hkind:scope.kind = .function) (hcl:bR X.env fs) (hhas:ko (relabel scope X.env).names (b5 X.env fs)=true)
  (hlen:N.length=own+fr.length) (hN:(N.drop own).map some=fr.map fun j=>X.N[j]?) (hF:Ax X.env scope (b5 X.env fs) (N.drop own))
  (hg:∀B,PG (X.Bj N scope fs B) tg g) (hf:∀B,PF (X.Bj N scope fs B) ifs tc) (he:∀B,PE (X.Bj N scope fs B) elt te)
  (I:Inv X pins σ H s) (T:ke X.prog X.w X.K tg J fp it tn) (st:tn 0 s.heap) (f:∀b∈fp,dr X pins H b) (W:tO J g tc te own (dy own fr σ) fin H)
  (hRR:∀D C s' ys H' m',Inv X pins σ (upd H' D (.lst ys)) s'->H' D=none->s'.heap.Ns C m'->dr X pins (upd H' D (.lst ys)) C->fin ys H'->RR (.ref D) C (.ok .next) s') :
  wpAny (model X.prog X.w) X.A (newList []) (fun acc s₃=>wpAny (model X.prog X.w) X.A (newFunctionEnv scope X.env.globals (b5 X.env fs) [] X.env.qual none .none (some X.env)) (fun cenv s₄=>
   codeAny (model X.prog X.w) X.A (.compStart (.ListComp elt [⟨tg,iter,ifs,0⟩] scope pos) 0 (.ref it) acc { cenv with scope:=relabel scope X.env }) (RR acc cenv.locals) s₄) E s₃) E s:=by
 refine IQ (wpAny_newFunctionEnv hcell (by intro y hy;simp at hy) (fun h₁ D9 Dx=>?_) hkind)
 dsimp only at D9 Dx ⊢
 generalize Fu:s.heap.push { cls:=.type "list",dict:=none,data:=.seq ([]:Vv).toArray }=H2 at D9 Dx ⊢
 have hC:H2.objs.size=s.heap.objs.size+1:=by rw[<-Fu,Jr]
 have D_:s.heap.objs.size<=H2.objs.size:=by rw[hC];exact Nat.le_succ _
 have hDC:s.heap.objs.size≠H2.objs.size:=by rw[hC];exact Ii (Nat.lt_succ_self _)
 have below:∀b,b < s.heap.objs.size->b≠H2.objs.size/\b≠s.heap.objs.size:=fun b hb=>⟨by rw[hC];exact Ii (Nat.lt_succ_of_lt hb),Ii hb⟩
 have old:∀b o,s.heap.get? b=some o->h₁.get? b=some o:=fun b o e=>Dx.extBut b o (below b (HK e)).1 (HE _ (Fu▸HE _ e))
 have hacc:h₁.get? s.heap.objs.size=some (gG []):=Dx.extBut _ _ hDC (HE _ (Fu▸HV _ rfl))
 have hlt:∀b∈fp,b < s.heap.objs.size:=fun b hb=>by
  obtain⟨o,e,_⟩:=T.obj 0 _ st b hb
  exact HK e
 obtain⟨Wv,⟨m0,w0⟩,turn⟩:=W
 have ok:=uW (N:=N) I hkind D_ hcl hhas f hlt
 have loop:∀s₃:Shared,s₃={ s with heap:=h₁,toks:=s.toks+([]:List (Str×Value)).length }->
   codeAny (model X.prog X.w) X.A (.compLoop (.ListComp elt [⟨tg,iter,ifs,0⟩] scope pos) 0 (.ref it) (.ref s.heap.objs.size) (compEnvC scope (b5 X.env fs) H2.objs.size X.env))
    (RR (.ref s.heap.objs.size) H2.objs.size) s₃:=by
  rintro s₃ rfl
  have I0:=r_ (own:=own) (fr:=fr) (t':=s.toks+([]:List (Str×Value)).length) I ok D_ (HF _) hDC hcl old D9 hacc hlen hN hF
  have GT:tn 0 h₁:=T.keep 0 _ _ st fun b _ o e=>old b o e
  have stat:∀{us:Vv} {H':Hp},(∀b∈fp,H' b=none)->∀b∈fp,dr (X.Bj N scope fs ⟨H2.objs.size,s,H,fp,X.pn++pins⟩) [(s.heap.objs.size,gG us)] H' b:=fun{us H'} hn b hb=>by
   obtain⟨f0,f1,f2,f3,f4,f5⟩:=f b hb
   refine⟨hn b hb,(below b (hlt b hb)).1,fun z=>(HL.mp (I.BB b z)).elim f1 f2,.inl hb,fun x c e=>f4 x c (h_ hcl e),fun p hp=>?_⟩
   rcases HN.mp hp with z|z
   ·exact f5 p z
   ·have z':p=(s.heap.objs.size,gG us):=by simpa using z
    subst z'
    exact JE (below b (hlt b hb)).2
  have Fv:∀p∈X.pn++pins,p.1 < s.heap.objs.size:=fun p hp=>HK (I.pin p hp).1
  refine kn (fun k s'=>∃i ys us H',Inv (X.Bj N scope fs ⟨H2.objs.size,s,H,fp,X.pn++pins⟩) [(s.heap.objs.size,gG us)] (dy own fr σ) H' s'/\Vals ys us/\tn i s'.heap/\(∀b∈fp,H' b=none)/\Wv i k ys H') ?_ m0
   ⟨0,[],[],H,I0,.nil,GT,fun b hb=>(f b hb).1,w0⟩
  rintro n s' ⟨i,ys,us,H',I',rv,st',Gd,w'⟩
  rcases turn i n ys H' w' with⟨stop,hz,Fw⟩|⟨go,hz,Nx,Ge,step⟩
  ·refine zP (T.done (X.Bj N scope fs ⟨H2.objs.size,s,H,fp,X.pn++pins⟩) rfl rfl rfl hc i _ s' _ H' (fun _ _=>False) I' (stat Gd) st' stop) (fun r s1 ⟨hr,I1⟩=>?_)
   subst hr
   show RR _ _ (.ok .next) s1
   have IX:Inv X pins σ H' s1:=I.Ex I1.os I1.base I1.hok I1.bare fun b hb=>by
    obtain⟨f0,f1,f2,f3,f4,f5⟩:=f b hb
    exact⟨f3,f1,f4,f5⟩
   obtain⟨eD,nD,_⟩:=I1.pin (s.heap.objs.size,gG us) (by simp)
   have IT:=IX.EA (I.Bx (H':=H') (HF _) nD) eD rv hz
   obtain⟨m',hn',_⟩:=I1.loc
   exact hRR _ _ s1 ys H' m' IT nD hn' (I.Bx D_ (by rw[av (JE hDC)];exact I1.free)) Fw
  ·refine zP (T.item (X.Bj N scope fs ⟨H2.objs.size,s,H,fp,X.pn++pins⟩) rfl rfl rfl hc i _ s' _ H' (fun _ _=>False) I' (stat Gd) st' go) (fun r s1 ⟨u,hr,h1⟩=>?_)
   subst hr
   show wpAny _ _ (letOwnedTupleGo tg (.ref it) u) _ _ s1
   refine zP h1 (fun _ s5 ⟨x,H5,I5,r5,y5,Dv,Fj⟩=>?_)
   have Fk:=I5.pinned (stat Fj) (T.obj _ _ Dv)
   refine zP (hg _ _ s5 _ H5 x u _ Fk r5 (step x H5 y5)) (fun _ s6 ⟨σ6,H6,I6,GU,q6⟩=>?_)
   refine zP (hf _ _ s6 σ6 H6 _ I6 q6) (fun b s7 ⟨H7,I7,q7⟩=>?_)
   -- Ea the turn's own names
   have forget:∀{H8:Hp} {s8:Shared} {pl:Va},Inv (X.Bj N scope fs ⟨H2.objs.size,s,H,fp,X.pn++pins⟩) pl σ6 H8 s8->Inv (X.Bj N scope fs ⟨H2.objs.size,s,H,fp,X.pn++pins⟩) pl (dy own fr σ) H8 s8:=fun{H8 s8 pl} I8=>by
    refine I8.weak (I0.len.trans I8.len.symm) fun j v e=>?_
    by_cases hj:j < own
    ·unfold dy at e
     rw[Iz (by rw[ID];exact hj),Ju,if_pos hj]at e
     cases e
    ·obtain⟨k,rfl⟩:∃k,j=own+k:=⟨j - own,by omega⟩
     rw[<-Le]at e ⊢
     rw[GU]
     exact e
   have ES:∀{H8:Hp} {s8:Shared},Inv (X.Bj N scope fs ⟨H2.objs.size,s,H,fp,X.pn++pins⟩) ([(s.heap.objs.size,gG us)]++iI fp s5.heap) σ6 H8 s8->∀b∈fp,∀o,s5.heap.get? b=some o->s8.heap.get? b=some o/\H8 b=none:=fun I8 b hb o e=>
    let z:=I8.pin (b,o) (Io _ (Io _ (fz hb e)))
    ⟨z.1,z.2.1⟩
   cases b with
   |false=>
    show ∃m,m < n/\_
    obtain⟨m',hm,w7⟩:=Ge _ _ (show Nx ys H7 from q7)
    refine⟨m',hm,i+1,ys,us,H7,(forget I7).By,rv,T.keep _ _ _ Dv fun b hb o e=>(ES I7 b hb o e).1,fun b hb=>?_,w7⟩
    obtain⟨o,e,_⟩:=T.obj _ _ Dv b hb
    exact(ES I7 b hb o e).2
   |true=>
    show wpAny _ _ (eval elt _) _ _ s7
    have GV:te σ6 H7 fun y H4=>Nx (ys++[y]) H4:=q7
    refine zP (he _ _ s7 σ6 H7 _ I7 GV) (fun v s8 ⟨y,H8,I8,r8,n8⟩=>?_)
    obtain⟨m',hm,w8⟩:=Ge _ _ n8
    obtain⟨eD,nD,Gf,GW,_⟩:=I8.pin (s.heap.objs.size,gG us) (Io _ (JH _ (by simp)))
    refine append_at (hsz:=by show us.toArray.size<=sizeLine;rw[HH,<-rv.length];exact hz) eD fun h9 Fx GX=>?_
    have J0:Inv (X.Bj N scope fs ⟨H2.objs.size,s,H,fp,X.pn++pins⟩) [] σ6 H8 s8:=I8.BP fun p hp=>nomatch hp
    have J1:Inv (X.Bj N scope fs ⟨H2.objs.size,s,H,fp,X.pn++pins⟩) [] σ6 H8 { s8 with heap:=h9 }:=J0.turned (t':=s8.toks) (it:=s.heap.objs.size) (fun b o hb e=>(Fx.2 b hb).trans e) nD Gf (.inr (HF _))
     (fun x c e z=>by
      obtain⟨v',q⟩:=I.cell x c (h_ hcl e)
      exact absurd (HY q.lt (by rw[z];exact HF _)) (Jo _))
     (fun p hp=>by
      rw[Ip]at hp
      exact Ii (Fv p hp))
    have J2:Inv (X.Bj N scope fs ⟨H2.objs.size,s,H,fp,X.pn++pins⟩) [(s.heap.objs.size,gG (us++[v]))] σ6 H8 { s8 with heap:=h9 }:=J1.BP fun p hp=>by
     have z':p=(s.heap.objs.size,gG (us++[v])):=by simpa using hp
     subst z'
     exact⟨GX.trans (IP some (nV us v)),nD,Gf,GW,fun v z=>by cases z⟩
    refine⟨m',hm,i+1,ys++[y],us++[v],H8,forget J2,Vals.append rv (.cons r8 .nil),T.keep _ _ _ Dv fun b hb o e=>(Fx.2 b (below b (hlt b hb)).2).trans (ES I8 b hb o e).1,fun b hb=>?_,w8⟩
    obtain⟨o,e,_⟩:=T.obj _ _ Dv b hb
    exact(ES I8 b hb o e).2
 exact codeAny_compStart_list (loop _ rfl) (T.self _ 0 _ _ _ (T.keep 0 _ _ st fun b _ o e=>old b o e) (loop _ rfl))
def pI(wi:TI)(g:TG)(tc:TT)(te:TE)(own:Nat)(fr:List Nat):TE:=fun σ H Q=>wi σ H fun J H1=>
 tO J g tc te own (dy own fr σ) (fun ys H2=>∀D,H2 D=none->Q (.ref D) (upd H2 D (.lst ys))) H1
def sa(fs:Vs)(own:Nat)(fr:List Nat)(N:Vs){wi:TI}(hc:X.calm=true)(hclos:closureFor scope X.env=pure (b5 X.env fs))(hcell:∀y∈scope.names,y.2 ≠ .cell)(hkind:scope.kind = .function)
  (hnames:∀x∈scope.names,x.2 = .local->scope.names.lookup x.1=some .local) (hcl:bR X.env fs) (hhas:ko (relabel scope X.env).names (b5 X.env fs)=true)
  (hlen:N.length=own+fr.length) (hN:(N.drop own).map some=fr.map fun j=>X.N[j]?) (hF:Ax X.env scope (b5 X.env fs) (N.drop own))
  (hi:PI X tg iter wi) (hg:∀B,PG (X.Bj N scope fs B) tg g) (hf:∀B,PF (X.Bj N scope fs B) ifs tc) (he:∀B,PE (X.Bj N scope fs B) elt te)
  (hs:∀x,foldedSetIterable iter X.env x=pure x:=by intro _;rfl):PE X (.ListComp elt [⟨tg,iter,ifs,0⟩] scope pos) (pI wi g tc te own fr):=by
 intro pins s σ H Q I h
 rw[eval_ListComp]
 refine wpAny_comprehension_free (use:=none) (g:=⟨tg,iter,ifs,0⟩) (gs:=[]) rfl hs hclos hkind hnames (zP (hi pins s σ H _ I h) fun v s1 h1=>zP h1 fun itv s2 h2=>?_)
 obtain⟨it,fp,tn,J,H2,e,I2,T,st2,f2,W⟩:=h2
 subst e
 refine iP (RR:=fun acc C=>compPost (model X.prog X.w) X.A X.xe none (EP X pins σ Q) acc C) hc hcell hkind hcl hhas hlen hN hF hg hf he I2 T st2 f2 W ?_
 intro D C s' ys H' m' I' nD hn fC fin
 exact⟨m',hn,fun h' hs'=>⟨.ref D,_,I'.turned (t':=s'.toks) (fun b o hb e=>(hs'.2 b hb).trans e) fC.1 fC.2.1 fC.2.2.2.1 fC.2.2.2.2.1 fC.2.2.2.2.2,rfl,fin D nD⟩⟩
def sd(fs:Vs)(own:Nat)(fr:List Nat)(N:Vs){wi:TI}{i:Nat}{y:Str}{py spos:Pos}(hX:X.N.Nodup)(hix:X.N[i]?=some y)(hy:X.env.scope.names.lookup y=some .local)
  (hsw:swapsWith (.ListComp elt [⟨tg,iter,ifs,0⟩] scope pos) (some (.Name y py)) spos.line X.env=pure true)
  (hc:X.calm=true) (hclos:closureFor scope X.env=pure (b5 X.env fs)) (hcell:∀y∈scope.names,y.2 ≠ .cell) (hkind:scope.kind = .function)
  (hnames:∀x∈scope.names,x.2 = .local->scope.names.lookup x.1=some .local) (hcl:bR X.env fs) (hhas:ko (relabel scope X.env).names (b5 X.env fs)=true)
  (hlen:N.length=own+fr.length) (hN:(N.drop own).map some=fr.map fun j=>X.N[j]?) (hF:Ax X.env scope (b5 X.env fs) (N.drop own))
  (hi:PI X tg iter wi) (hg:∀B,PG (X.Bj N scope fs B) tg g) (hf:∀B,PF (X.Bj N scope fs B) ifs tc) (he:∀B,PE (X.Bj N scope fs B) elt te)
  (hs:∀x,foldedSetIterable iter X.env x=pure x:=by intro _;rfl):PS X (.Assign [.Name y py] (.ListComp elt [⟨tg,iter,ifs,0⟩] scope pos) spos) (rE (pI wi g tc te own fr) (kZ i)):=by
 intro pins s σ H D I h
 rw[exec_Assign_Name_used _ _ _ _ hsw]
 refine HB (wpAny_standAt (HB ?_))
 show wpAny _ X.A (do let _ <-comprehension (.ListComp elt [⟨tg,iter,ifs,0⟩] scope pos) scope X.env _ (newList []) false (eval iter X.env) (some (assign (.Name y py) X.env))) _ _ s
 refine HB (JR (wpAny_comprehension_free (use:=some (assign (.Name y py) X.env)) (Q:=fun _ s'=>SP X pins D .next s') (g:=⟨tg,iter,ifs,0⟩) (gs:=[]) rfl hs hclos hkind hnames
  (zP (hi pins s σ H _ I h) fun v s1 h1=>zP h1 fun itv s2 h2=>?_)) (fun _ s' hq=>HJ (HJ hq)) fun _ _ e=>e)
 obtain⟨it,fp,tn,J,H2,e,I2,T,st2,f2,W⟩:=h2
 subst e
 refine iP (RR:=fun acc C=>compPost (model X.prog X.w) X.A X.xe (some (assign (.Name y py) X.env)) (fun _ s'=>SP X pins D .next s') acc C) hc hcell hkind hcl hhas hlen hN hF hg hf he I2 T st2 f2 W ?_
 intro Da C s' ys H' m' I' nD hn fC fin
 show wpAny _ X.A (assign (.Name y py) X.env (.ref Da)) _ _ s'
 refine wpAny_assign_Name (jI (v:=.ref Da) I' hX hix (.inl hy) rfl (fun s2 I3 ⟨a,sb,ha⟩=>?_) (.inr hy))
 have ca:C≠a:=by
  rcases ha with z|z
  ·rw[z];exact fC.2.1
  ·exact JE (fC.2.2.2.2.1 _ _ z)
 exact⟨m',hn.sameBut sb ca,fun h' hs'=>⟨_,_,I3.turned (t':=s2.toks) (fun b o hb e=>(hs'.2 b hb).trans e) fC.1 fC.2.1 fC.2.2.2.1 fC.2.2.2.2.1 fC.2.2.2.2.2,fin Da nD⟩⟩
end
end L2
namespace PySem
open Sem (wp)
namespace F
def nW:typeLookup (.type "list_reverseiterator") "__len__" = pure none:=by rw[K7,JZ];kernel_rfl
def pJ:typeLookup (.type "list_reverseiterator") "__length_hint__" = pure (some (.builtin "list_reverseiterator.__length_hint__")):=by rw[K7,JZ];kernel_rfl
end F
section
variable {prog:Program} {w:World} {A:Around} {s:Shared} {R:Result->Shared->Prop}
variable {I:Addr} {fp wr:List Addr} {G:Array GenState->Array GenState->Prop} {n:Nat} {P:Nat->Value->Prop} {St:Nat->Shared->Prop}
def l5(W:WalksS prog w A.in1 I fp wr G n P St)(hT:∀i s,St i s->s.TypeIs (.ref I) "list_reverseiterator")(S:Addr)(res:Value)(c₀:Nat)(hst:St 0 s)(hSf:S ∉ fp)(hI:I∈fp)
  (hS:s.heap.get? S=some { cls:=.type "list",data:=.seq #[] c₀ })
  (hR:∀s' acc' c',Moved (S::wr) G s s'->s'.heap.get? S=some { cls:=.type "list",dict:=none,data:=.seq acc' c',slots:=#[] }->ItemsOf P acc' n->R (.ok (.ret res)) s') (hn:n<=sizeLine) :
  wpAny (model prog w) A.in1 (Builtin.List.listExtendWith (.ref S) (.ref I) res)
   (fun fin s'=>match fin with | .done f=>R (.ok f) s' | .again c'=>c'.quiet=true/\codeAny (model prog w) A c' R s') (fun e s'=>R (.error e) s') s:=by
 have hSI:S≠I:=fun e=>hSf (e▸hI)
 have h1:Builtin.List.listSameRef (.ref S) (.ref I)=false:=by simp[Builtin.List.listSameRef,hSI]
 unfold Builtin.List.listExtendWith
 refine HB (KJ (hT 0 _ hst) ?_)
 rw[if_neg (by rw[h1];decide)]
 refine HB (W.self 0 _ _ _ hst ?_)
 refine HB (Jp ?_)
 unfold Builtin.List.listLengthHint
 refine HB (K8 (hT 0 _ hst) F.nW ?_)
 show wpAny _ A.in1 (specialOf (Value.ref I) (Str.ofString "__length_hint__") >>= _) _ _ _
 refine HB (K8 (hT 0 _ hst) F.pJ ?_)
 (generalize hid:("list_reverseiterator.__length_hint__":String)=GY;wp_delta;rw[show splitId GY=some ("list_reverseiterator","__length_hint__")from by subst hid;decide +kernel];subst hid)
 refine HB (wpAny_isInstance (b:=true) (hT 0 _ hst) (by rw[isSubtype_type];kernel_rfl) ?_)
 refine HJ ?_
 rw[if_neg (by decide)]
 exact HJ ⟨Kp Jf _,codeAny_extend_loopS W hn _ hSf _ n 0 _ _ _ rfl (Il _) hst hS (ItemsOf.nil P) fun s' acc' c' hm hS' hacc=>hR s' acc' c' hm hS' hacc⟩
def jz(W:WalksS prog w A.in1 I fp wr G n P St)(hT:∀i s,St i s->s.TypeIs (.ref I) "list_reverseiterator")(S:Addr)(hst:St 0 s)(hSf:S ∉ fp)(hI:I∈fp)
  (hS:s.heap.get? S=some { cls:=.type "list",data:=.seq #[] })
  (hR:∀s' acc' c',Moved (S::wr) G s s'->s'.heap.get? S=some { cls:=.type "list",dict:=none,data:=.seq acc' c',slots:=#[] }->ItemsOf P acc' n->R (.ok (.ret .none)) s') (hn:n<=sizeLine) :
  wpAny (model prog w) A.in1 (Builtin.«list.__init__» ⟨[.ref S,.ref I],[]⟩)
   (fun fin s'=>match fin with | .done f=>R (.ok f) s' | .again c'=>c'.quiet=true/\codeAny (model prog w) A c' R s') (fun e s'=>R (.error e) s') s:=by
 show wpAny _ A.in1 (do let old <-Builtin.List.listItems (.ref S);Builtin.List.listUpdate (.ref S) (fun _=>#[]);letGo old.toList.reverse;Builtin.List.listExtendWith (.ref S) (.ref I) .none) _ _ s
 refine HB ?_
 unfold Builtin.List.listItems
 refine HB (I9 hS rfl (HJ ?_))
 show wpAny _ A.in1 (updateSeq S (fun _=>#[]) >>= fun _=>letGo (#[]:Vw).toList.reverse >>= fun _=>Builtin.List.listExtendWith (.ref S) (.ref I) .none) _ _ s
 refine HB (Ks hS rfl ?_)
 have EU:=IZ (Obj.mapSeq (fun _=>(#[]:Vw))) hS rfl
 have Bp:∀b o,b≠S->s.heap.get? b=some o->(s.heap.update S (Obj.mapSeq (fun _=>(#[]:Vw)))).get? b=some o:=
  fun b o hb e=>(IW _ _ (JE hb)).trans e
 refine HB (wpAny_letGo ?_)
 refine l5 (hn:=hn) W hT S .none _ (W.frame 0 s _ s.toks hst (HF _) fun b hb o e=>Bp b o (fun h=>hSf (h▸hb)) e) hSf hI EU fun s' acc' c' hm hS' hacc=>?_
 exact hR s' acc' c' (Moved.trans W.gtrans ((Moved.refl W.grefl).then_heap (HF _) fun b o hb e=>Bp b o (fun h=>hb (h▸Ja)) e) hm) hS' hacc
end
section
variable {prog:Program} {w:World} {A:Around} {E:Vq} {s:Shared}
def jA{I l:Addr}{items:Vw}{Q:Vq}(hh:A.handled=none)(hl:s.heap.IsList l items)(hit:s.heap.IsRevIter I l ((items.size:Int) - 1))(hne:l≠I)(hn:items.size<=sizeLine)
  (hQ:∀h' tk acc' c',(∀b o,b≠I->s.heap.get? b=some o->h'.get? b=some o)->h'.get? s.heap.objs.size=some { cls:=.type "list",dict:=none,data:=.seq acc' c',slots:=#[] }->
   acc'.toList=items.toList.reverse->Q (.ref s.heap.objs.size) { s with heap:=h',toks:=tk }) :
  wpAny (model prog w) A (call (.type "list") [.ref I]) Q E s:=by
 have W:=(Walks.listRev (prog:=prog) (w:=w) (A:=A.in1.in1) hh I l hne items).toS
 have Fy:I < s.heap.objs.size:=by obtain⟨o,ho,_⟩:=hit;exact HK ho
 have Fz:l < s.heap.objs.size:=by obtain⟨o,ho,_⟩:=hl;exact HK ho
 have hfp:∀b∈[I,l],b < s.heap.objs.size:=fun b hb=>by
  rcases HL.mp hb with rfl|hb
  ·exact Fy
  ·rw[HM.mp hb];exact Fz
 have hSf:s.heap.objs.size ∉ [I,l]:=fun hm=>Jo _ (hfp _ hm)
 have hst:(fun i (s:Shared)=>i<=items.size/\s.heap.IsRevIter I l ((items.size:Int) - 1 - (i:Int))/\s.heap.IsList l items) 0 s:=⟨Il _,by simpa using hit,hl⟩
 refine callType_codes (Q₁:=fun obj s₁=>obj = .ref s.heap.objs.size/\s₁={ s with heap:=s.heap.push { cls:=.type "list",data:=.seq #[] } }) F.called_list (F.typeCall_list_1 _) F.entry_list_init
  (code_list_new _ ⟨rfl,rfl⟩) fun obj s₁ h₁=>?_
 obtain⟨rfl,rfl⟩:=h₁
 have hS:(s.heap.push { cls:=.type "list",data:=.seq #[] }).get? s.heap.objs.size=some { cls:=.type "list",data:=.seq #[] }:=HV _ rfl
 refine⟨⟨_,hS,rfl⟩,F.args_list_init_2 _ _,jz (hn:=hn) W (fun i s st=>st.2.1.typeIs) _ (W.frame 0 s _ s.toks hst (HF _) fun b _ o e=>HE _ e) hSf (Ja ..) hS fun s' acc' c' hm hS' hacc=>?_⟩
 refine⟨rfl,?_⟩
 rw[hm.eq_with]
 refine hQ s'.heap s'.toks acc' c' (fun b o hb e=>hm.heap b o (fun z=>?_) (HE _ e)) hS' ?_
 ·rcases HL.mp z with z|z
  ·exact absurd (HK e) (by rw[z];exact Jo _)
  ·exact hb (HM.mp z)
 ·obtain⟨hsz,hP⟩:=hacc
  apply List.ext_getElem?
  intro j
  by_cases hj:j < items.size
  ·have hj':j < acc'.size:=by rw[hsz];exact hj
   have q:=hP j acc'[j] (by simp[hj'])
   have e1:acc'.toList[j]?=some acc'[j]:=by simp[hj']
   rw[e1,List.getElem?_reverse (by simpa using hj)]
   simpa using q.symm
  ·rw[Ji (by simpa [hsz]using hj),Ji (by simpa using hj)]
end
end PySem
namespace L2
open PySem PySem.Spec PyProof.Rows
section
variable {X:Cx}
def pK(K:Vo)(te:TE):TE:=fun σ H Q=>te σ H fun x H1=>∃a xs,x = .ref a/\SqL K H1 a xs/\∀q,H1 q=none->Q (.ref q) (upd H1 q (.lst xs.reverse))
def l6{e:Expr}{te:TE}{p1 p2 q1 q2:Pos}(hc:X.calm=true)(he:PE X e te)(Eb:Gl X "list")(hm1:X.mg "list" = none)(Dy:Gl X "reversed")(hm2:X.mg "reversed" = none)
  (hs:starEach [e] X.env=[(false,eval e X.env)]:=by rfl) (hs2:starEach [.Call (.Name "reversed" p2) [e] [] q2] X.env=[(false,eval (.Call (.Name "reversed" p2) [e] [] q2) X.env)]:=by rfl) :
  PE X (.Call (.Name "list" p1) [.Call (.Name "reversed" p2) [e] [] q2] [] q1) (pK X.K te):=by
 intro pins s σ H Q I h
 refine Jj (df I Eb hm1 (u:=.type "list") (by decide +kernel) ?_)
 refine Ir ?_ hs2 rfl
 rw[hs2]
 show wpAny _ _ (spliced ((false,eval (.Call (.Name "reversed" p2) [e] [] q2) X.env)::backTo q1 [])) _ _ s
 refine Jb ?_
 refine Jj (df I Dy hm2 (u:=.type "reversed") boot_reversed ?_)
 refine Ir ?_ hs rfl
 rw[hs]
 show wpAny _ _ (spliced ((false,eval e X.env)::backTo q2 [])) _ _ s
 refine Jb (zP (he pins s σ H _ I h) fun u s1 ⟨x,H1,I1,r1,a,xs,ex,hx,q⟩=>?_)
 subst ex
 cases r1
 obtain⟨its,rv,p,hz⟩:=I1.list hx
 have hl:=rv.length
 have hal:a < s1.heap.objs.size:=by obtain⟨o,ho,_⟩:=p.isList;exact HK ho
 refine JI (call_reversed_list p.isList ?_)
 refine JI ?_
 refine jA (I.ok.hd hc) (p.isList.push _) ⟨_,HV _ rfl,rfl,rfl⟩ (Ii hal) (by rw[HH,<-hl];exact hz) fun h' tk acc c hk hS ha=>?_
 have hsz:(s1.heap.push (revObj a ((its.toArray.size:Int) - 1))).objs.size=s1.heap.objs.size+1:=Jr _ _
 have hle:s1.heap.objs.size<=(s1.heap.push (revObj a ((its.toArray.size:Int) - 1))).objs.size:=by rw[hsz];exact Nat.le_succ _
 refine⟨.ref _,_,I1.laid (a:=(s1.heap.push (revObj a ((its.toArray.size:Int) - 1))).objs.size) (o:=.lst xs.reverse) (h':=h') (t':=tk) (fun b u e=>hk b u (Ii (HK e)) (HE _ e)) hle ?_,rfl,q _ (I1.hok.fresh hle)⟩
 refine⟨by rw[Km];exact hz,its.reverse,c,Vals.reverse rv,?_⟩
 rw[hS]
 have e:acc=its.reverse.toArray:=by
  apply Array.toList_inj.mp
  rw[ha]
 rw[e]
end
section
variable {X:Cx}
noncomputable abbrev kq(c:Nat):Str:=⟨#[c]⟩
noncomputable def yz(z:Str):It:=⟨fun i _=>i < z.cps.size,fun i H x H'=>H'=H/\∃c,z.cps[i]?=some c/\x = .str (kq c),fun i _=>z.cps.size<=i⟩
def pL{P:Program}{w:World}{K:Vo}{tg:Expr}{ty:String}(hty:ty = "str_ascii_iterator" \/ ty = "str_iterator")(it:Addr)(z:Str)(t:Tok):ke P w K tg (yz z) [it] it (fun i h=>i<=z.cps.size/\h.IsStrIter it ty z t i):=by
 have W:∀A':Around,A'.handled=none->Walks P w A' it [it] [it] z.cps.size (SignAt z) (fun i h=>h.IsStrIter it ty z t i):=fun A' hA=>by
  rcases hty with rfl|rfl
  ·exact Walks.strAscii hA it z t
  ·exact Walks.strWide hA it z t
 have nt:(["enumerate","zip","dict_itemiterator","dict_reverseitemiterator","odict_iterator","itertools.zip_longest","itertools.pairwise"].contains ty)=false:=by
  rcases hty with rfl|rfl<;>decide
 refine⟨by simp,fun i h st b hb=>?_,fun i h h' st k=>?_,?_,?_,?_⟩
 ·have e:b=it:=by simpa using hb
  subst e
  obtain⟨_,o,e,c,d⟩:=st
  exact⟨o,e,fun v q=>by rw[d]at q;cases q⟩
 ·obtain⟨hi,o,e,r⟩:=st
  exact⟨hi,o,k it (by simp) o e,r⟩
 ·intro X hP hw hK hc i pins s σ H E I hf st hg
  subst hP hw hK
  obtain⟨f0,f1,f2,f3,f4,f5⟩:=hf it (by simp)
  refine(W X.A (I.ok.hd hc)).item i s _ _ hg st.2 fun v h' tk hv st' kk=>?_
  obtain⟨c,u,hcp,rfl⟩:=hv
  have I1:Inv X pins σ H { s with heap:=h',toks:=tk }:=I.turned (fun b o hb e=>kk b o (by simpa using hb) e) f0 f1 f3 f4 f5
  obtain⟨o,e,co,d⟩:=id st'
  exact⟨_,rfl,mL (s:={ s with heap:=h',toks:=tk }) e co d nt ⟨.str (kq c),H,I1,⟨u,rfl⟩,⟨rfl,c,hcp,rfl⟩,⟨hg,st'⟩,fun b hb=>(hf b hb).1⟩⟩
 ·intro X hP hw hK hc i pins s σ H E I hf st hg
  subst hP hw hK
  obtain⟨f0,f1,f2,f3,f4,f5⟩:=hf it (by simp)
  have e:i=z.cps.size:=Nat.le_antisymm st.1 hg
  subst e
  exact(W X.A (I.ok.hd hc)).done s _ _ st.2 fun h' tk kk=>⟨rfl,I.turned (fun b o hb e=>kk b o (by simpa using hb) e) f0 f1 f3 f4 f5⟩
 ·intro A i s Q E st h
  rcases hty with rfl|rfl
  ·exact wpAny_pyIter_striter_ascii st.2 h
  ·exact wpAny_pyIter_striter_wide st.2 h
def se{ys:Vs}:∀{us:Vv},Vals (ys.map V.str) us->StrsAre us ys:=by
 induction ys with
 |nil=>intro us r;rw[Je]at r;cases r;exact .nil
 |cons n ns ih=>
  intro us r
  rw[Ig]at r
  cases r with
  |cons r1 r2=>
   obtain⟨t,e⟩:=r1
   subst e
   exact .cons n t (ih r2)
noncomputable def wO(K:Vo):V->List V->Hp->VK->Prop:=fun x vs H Q=>∃sep p ys,x = .str sep/\vs=[.ref p]/\SqL K H p (ys.map V.str)/\(ys.map (·.length)).sum+ys.length * sep.length<=1000000/\Q (.str (Txt.join sep ys)) H
def sf:uL X "str.join" (wO X.K):=by
 intro pins s σ H x vs v us Q I rx rv h
 obtain⟨sep,p,ys,rfl,rfl,hp,hz,q⟩:=h
 obtain⟨t,rfl⟩:=rx
 obtain⟨u,rfl,ru⟩:=fU rv
 cases ru
 obtain⟨its,r,pl,_⟩:=I.list hp
 exact join_list pl.isList (by simpa using se r) (by omega) fun t' k=>⟨.str _,H,I.tok k,⟨t',rfl⟩,q⟩
def nX(hc:X.calm=true):fT X (.builtin "all") (fun xs H Q=>∃(p:Addr) (bs:List Bool),xs=[.ref p]/\SqL X.K H p (bs.map V.bl)/\Q (.bl (bs.all id)) H):=by
 intro pins s σ H xs us Q I r h
 obtain⟨p,bs,rfl,hp,q⟩:=h
 obtain⟨u,rfl,rx⟩:=fU r
 cases rx
 obtain⟨its,rv,pl,hz⟩:=I.list hp
 have hl:=rv.length
 rw[HD]at hl
 have hlt:p < s.heap.objs.size:=by obtain⟨o,ho,_⟩:=pl.isList;exact HK ho
 refine call_all_walk (JK pl.isList ?_)
 have up:∀b o,s.heap.get? b=some o->(s.heap.push { cls:=.type "list_iterator",data:=.fields #[.ref p,.int 0 0] }).get? b=some o:=fun b o e=>HE _ e
 refine⟨s.heap.objs.size,_,_,_,_,_,fun i=>(bs[i]?).getD true,rfl,Walks.list (A:=X.A.in1) (I.ok.hd hc) s.heap.objs.size p (Ii hlt) its.toArray,⟨⟨_,HV _ rfl,rfl,rfl⟩,pl.isList.push _⟩,?_,fun h' tk hk=>?_⟩
 ·intro i v s' Q' E' hv hq
  have hi:i < its.length:=by
   by_cases z:i < its.length
   ·exact z
   ·rw[JT (by simpa using z)]at hv;cases hv
  obtain⟨u',e1,r1⟩:=rv.get (i:=i) (x:=.bl bs[i]) (by rw[HR,Ib (by omega)];rfl)
  have e2:v=u':=by
   have z:its[i]?=some v:=by simpa using hv
   rw[z]at e1;exact IL e1
  subst e2
  cases (show v=Value.bool bs[i] from r1)
  refine J3 ?_
  have hq':Q' ((bs[i]?).getD true) s':=hq
  rw[Ib (show i < bs.length by omega)]at hq'
  exact hq'
 ·have e:(List.range its.toArray.size).all (fun i=>(bs[i]?).getD true)=bs.all id:=by
   rw[HH,<-hl,JW,KW,KW]
   constructor
   ·intro h1 x hx
    obtain⟨j,hj,e⟩:=List.getElem_of_mem hx
    have q1:=h1 j (J6.mpr hj)
    rw[Ib hj]at q1
    rw[<-e];exact q1
   ·intro h1 j hj
    have hj':=J6.mp hj
    rw[Ib hj']
    exact h1 _ (Kg hj')
  rw[e]
  exact⟨.bl _,H,(I.kept (t':=tk) (h':=h') fun b o eo=>hk b o (by
   intro hm
   have hb:b=s.heap.objs.size:=by simpa using hm
   exact absurd (HK eo) (by rw[hb];exact Jo _)) (up b o eo)),rfl,q⟩
end
section
variable {X:Cx}
noncomputable def yA:V->Option Int->Option Int->Hp->VK->Prop:=fun x lo hi H Q=>∃z,x = .str z/\z.length<=sizeLine/\Q (.str (Txt.slice z lo hi)) H
def uZ:vT X yA:=by
 intro pins s σ H x v vl vu lo hi sl Q I rx hs pl pu h
 obtain⟨z,rfl,hz,q⟩:=h
 obtain⟨t,rfl⟩:=rx
 refine⟨"str",_,F.slot_str_getitem.lookup,typeIs_str _ _ _,?_⟩
 obtain⟨o,e,c,d⟩:=hs
 have fin:∀l u:Option (Int×Tok),(vl=partValue l/\lo=l.map (·.1))->(vu=partValue u/\hi=u.map (·.1))->wpAny (model X.prog X.w) X.A (getItem (.str z t) (.ref sl)) (EP X pins σ Q) X.xe s:=by
  rintro l u ⟨rfl,rfl⟩ ⟨rfl,rfl⟩
  exact wpAny_getItem_str_slice (l:=l) (u:=u) (st:=none) ⟨o,e,c,d⟩ rfl (post_val_or_str ⟨HX (Txt.slice_le z _ _) hz,fun t' k=>⟨.str _,H,I.tok k,⟨t',rfl⟩,q⟩⟩)
 cases pl with
 |none=>
  cases pu with
  |none=>exact fin none none ⟨rfl,rfl⟩ ⟨rfl,rfl⟩
  |int j uj=>exact fin none (some (j,uj)) ⟨rfl,rfl⟩ ⟨rfl,rfl⟩
 |int i ui=>
  cases pu with
  |none=>exact fin (some (i,ui)) none ⟨rfl,rfl⟩ ⟨rfl,rfl⟩
  |int j uj=>exact fin (some (i,ui)) (some (j,uj)) ⟨rfl,rfl⟩ ⟨rfl,rfl⟩
noncomputable def u4:V->List V->Hp->VK->Prop:=fun x vs H Q=>∃a b i rest,x = .str a/\vs=[.str b]/\Builtin.Str.occurrences a b 0 a.length 1=i::rest/\Q (.int i) H
def pM:uL X "str.index" u4:=by
 intro pins s σ H x vs v us Q I rx rv h
 obtain⟨a,b,i,rest,rfl,rfl,ho,q⟩:=h
 obtain⟨t,rfl⟩:=rx
 obtain⟨w,rfl,u,rfl⟩:=fU rv
 exact call_gives F.slot_str_index (typeIs_str _ _ _) F.entry_str_index (F.args_str_index_2 _ _) (gives_str_index a b t u i rest ho) ⟨.int i,H,I.tok _,⟨_,rfl⟩,q⟩
def u5(K:Vo)(i j k:Nat)(te:TE):TS:=fun D σ H=>te σ H fun x H1=>∃p v w u,x = .ref p/\SqT K H1 p [v,w,u]/\D.nx (((σ.set k (some u)).set j (some w)).set i (some v)) H1
def pN{i j k:Nat}{x y z:Str}{e:Expr}{te:TE}{px py pz pt:Pos}{kt:Nat}{pos:Pos}(hc:X.calm=true)(hN:X.N.Nodup)(hi:X.N[i]?=some x)(hj:X.N[j]?=some y)(hk:X.N[k]?=some z)
  (hx:X.env.scope.names.lookup x=some .local) (hy:X.env.scope.names.lookup y=some .local) (hz:X.env.scope.names.lookup z=some .local) (he:PE X e te)
  (hw:swappedStores [.Tuple [.Name x px,.Name y py,.Name z pz] kt pt] e X.env=pure (some [x,y,z]))
  (hs:swapsWithSole [.Tuple [.Name x px,.Name y py,.Name z pz] kt pt] e pos.line X.env=pure false) :
  PS X (.Assign [.Tuple [.Name x px,.Name y py,.Name z pz] kt pt] e pos) (u5 X.K i j k te):=by
 intro pins s σ H D I h
 refine Assign_Tuple_swapped (names:=[x,y,z]) (zP (he pins s σ H _ I h) fun r s1 ⟨xr,H1,I1,r1,p,v,w,u,ex,hp,q⟩=>?_) hs hw
 subst ex
 cases r1
 obtain⟨its,rv,tp,_⟩:=I1.tuple hp
 obtain⟨u1,u2,u3,ei,a1,a2,a3⟩:∃u1 u2 u3,its=[u1,u2,u3]/\RelV v u1/\RelV w u2/\RelV u u3:=by
  cases rv with
  |cons a1 rv=>
   cases rv with
   |cons a2 rv=>
    cases rv with
    |cons a3 rv=>
     cases rv
     exact⟨_,_,_,rfl,a1,a2,a3⟩
 subst ei
 refine unpackItems_tuple (items:=#[u1,u2,u3]) (I.ok.hd hc) tp fun h' kp=>?_
 have I2:=I1.kept (h':=h') (t':=s1.toks) fun b o eb=>kp b o (Ii (HK eb)) eb
 refine JB (KG (cI I2 hN hk (.inl hz) a3 (fun s2 I3=>?_) (.inr hz)))
 refine JB (KG (cI I3 hN hj (.inl hy) a2 (fun s3 I4=>?_) (.inr hy)))
 exact JB (KG (cI I4 hN hi (.inl hx) a1 (fun s4 I5=>assignInOrder_nil ⟨_,H1,I5,q⟩) (.inr hx)))
end
end L2
namespace Zt
open PySem
open Sem (wp)
def Si(kd:Bool)(h:Heap)(a t:Addr)(i:Nat):Prop:=cond kd (h.IsListIter a t i) (h.IsTupleIter a t i)
def Sq(kd:Bool)(h:Heap)(a:Addr)(xs:Vw):Prop:=cond kd (h.IsList a xs) (h.IsTuple a xs)
theorem Si.at{kd:Bool}{h h':Heap}{a t:Addr}{i:Nat}(x:Si kd h a t i)(e:∀o,h.get? a=some o->h'.get? a=some o):Si kd h' a t i:=match kd,x with|true,x=>Heap.IsListIter.at x e|false,x=>Heap.IsTupleIter.at x e
theorem Sq.at{kd:Bool}{h h':Heap}{a:Addr}{xs:Vw}(x:Sq kd h a xs)(e:∀o,h.get? a=some o->h'.get? a=some o):Sq kd h' a xs:=match kd,x with|true,x=>Heap.IsList.at x e|false,x=>Heap.IsTuple.at x e
def Sq.lt{kd:Bool}{h:Heap}{a:Addr}{xs:Vw}(x:Sq kd h a xs):a < h.objs.size:=match kd,x with|true,⟨_,e,_⟩=>HK e|false,⟨_,e,_⟩=>HK e
def Si.ob{kd:Bool}{h:Heap}{a t:Addr}{i:Nat}(x:Si kd h a t i):∃o f,h.get? a=some o/\o.data = .fields f:=match kd,x with|true,⟨o,e,_,d⟩=>⟨o,_,e,d⟩|false,⟨o,e,_,d⟩=>⟨o,_,e,d⟩
def Si.extBut{kd:Bool}{h h':Heap}{a c t:Addr}{i:Nat}(x:Si kd h a t i)(e:Heap.ExtBut c h h')(n:a≠c):Si kd h' a t i:=x.at fun _ q=>e _ _ n q
def Sq.extBut{kd:Bool}{h h':Heap}{a c:Addr}{xs:Vw}(x:Sq kd h a xs)(e:Heap.ExtBut c h h')(n:a≠c):Sq kd h' a xs:=x.at fun _ q=>e _ _ n q
section
variable {prog:Program} {w:World} {A:Around} {E:Vq} {s:Shared}
def nx{j t:Addr}{i:Nat}{its:Vw}{x:Value}{Q:Vq}(hj:s.heap.IsTupleIter j t i)(ht:s.heap.IsTuple t its)(hx:its[i]?=some x)
  (k:∀g:Heap,g.IsTupleIter j t (i+1)->Heap.SameBut j s.heap g->Q x { s with heap:=g }):wpAny (model prog w) A (Builtin.SmallTypes.nextOf (.ref j)) Q E s:=by
 obtain⟨ob,eb,kb,db⟩:=id hj
 obtain⟨oc,ec,_,nc,dc⟩:=ht
 unfold Builtin.SmallTypes.nextOf
 refine HB (IG (name:=Str.ofString "__next__") hj.typeIs JC (Jk JC hj.typeIs F.entry_tuple_iterator_next ?_ (F.args_tuple_iterator_next_1 _)))
 show wpAny _ _ (field (.ref j) 0 >>= _) _ _ s;refine HB (Iw eb db (x:=.ref t) rfl ?_)
 show wpAny _ _ (if (Value.ref t == Value.none)=true then _ else _) _ _ s;rw[if_neg (show ¬((Value.ref t == Value.none)=true)from Ie)]
 show wpAny _ _ (field (.ref j) 1 >>= _) _ _ s;refine HB (Iw eb db (x:=.int i 0) rfl ?_)
 show wpAny _ _ (seqItems? (.ref t) >>= _) _ _ s;refine HB (I9 ec dc ?_)
 simp only[Int.toNat_natCast,hx];refine HB (wpAny_setField eb db (by simp) (HJ ⟨x,rfl,HJ (k _ ?_ (Heap.SameBut.update ..))⟩))
 exact⟨_,IZ _ eb (Obj.isFreed_of_fields (Obj.data_mapFields db _)),(Obj.cls_mapFields ..).trans kb,by rw[Obj.data_mapFields db];simp[rawInt]⟩
def zc{j t:Addr}{i:Nat}{its:Vw}{Q:Vq}(hh:A.handled=none)(hj:s.heap.IsTupleIter j t i)(ht:s.heap.IsTuple t its)(hx:its[i]?=none)
  (k:∀(g:Heap) (e:Addr),Heap.ExtBut j s.heap g->(∃o,g.get? e=some o/\o.cls = .type "StopIteration")->E (.ref e) { s with heap:=g }):wpAny (model prog w) A (Builtin.SmallTypes.nextOf (.ref j)) Q E s:=by
 obtain⟨ob,eb,kb,db⟩:=id hj
 obtain⟨oc,ec,_,nc,dc⟩:=ht
 unfold Builtin.SmallTypes.nextOf
 refine HB (IG (name:=Str.ofString "__next__") hj.typeIs JC (Jk JC hj.typeIs F.entry_tuple_iterator_next ?_ (F.args_tuple_iterator_next_1 _)))
 show wpAny _ _ (field (.ref j) 0 >>= _) _ _ s;refine HB (Iw eb db (x:=.ref t) rfl ?_)
 show wpAny _ _ (if (Value.ref t == Value.none)=true then _ else _) _ _ s;rw[if_neg (show ¬((Value.ref t == Value.none)=true)from Ie)]
 show wpAny _ _ (field (.ref j) 1 >>= _) _ _ s;refine HB (Iw eb db (x:=.int i 0) rfl ?_)
 show wpAny _ _ (seqItems? (.ref t) >>= _) _ _ s;refine HB (I9 ec dc ?_)
 simp only[Int.toNat_natCast,hx];refine HB (Kw (HB (wpAny_setField eb db (by simp) ?_)))
 show wpAny _ _ (newExc (.type "StopIteration") [] >>= _) _ _ _;refine HB ?_
 simp only[newExc,newTuple];refine HB (IQ ?_ (by size_fits))
 refine HB (m:=firstArgMember _ _) (wpAny_of_eq (a:=Value.none) (by first|rfl|(simp only[firstArgMember];rfl)) ?_);refine IQ ?_ (by size_fits)
 simp only[raiseNew];refine HB (wpAny_handled ?_)
 first|(rw[hh])|(rw[show A.in1.handled=none from hh])
 exact HB (HJ (wpAny_throw (k _ _ (((Heap.SameBut.update ..).extBut.push _).push _) ⟨_,HV _ rfl,rfl⟩)))
def yB{kd:Bool}{j t:Addr}{i:Nat}{its:Vw}{x:Value}{Q:Vq}(hj:Si kd s.heap j t i)(ht:Sq kd s.heap t its)(hx:its[i]?=some x)
  (k:∀g:Heap,Si kd g j t (i+1)->Heap.SameBut j s.heap g->Q x { s with heap:=g }):wpAny (model prog w) A (Builtin.SmallTypes.nextOf (.ref j)) Q E s:=by
 cases kd with
 |true=>exact KP hj ht hx k
 |false=>exact nx hj ht hx k
def wP{kd:Bool}{j t:Addr}{i:Nat}{its:Vw}{Q:Vq}(hh:A.handled=none)(hj:Si kd s.heap j t i)(ht:Sq kd s.heap t its)(hx:its[i]?=none)
  (k:∀(g:Heap) (e:Addr),Heap.ExtBut j s.heap g->(∃o,g.get? e=some o/\o.cls = .type "StopIteration")->E (.ref e) { s with heap:=g }):wpAny (model prog w) A (Builtin.SmallTypes.nextOf (.ref j)) Q E s:=by
 cases kd with
 |true=>exact wpAny_nextOf_list_end hh hj ht hx k
 |false=>exact zc hh hj ht hx k
variable {ka kb:Bool} {z TI TO i1 i2 l1 l2:Addr} {k1 k2:Nat} {xs ys:Vw} {x y a b:Value}
def sg{Q:Vq}(D:ZipApart z TI TO i1 i2 l1 l2)(gz:IsZip s.heap z TI TO .none)(gI:IsPair s.heap TI (.ref i1) (.ref i2))(gO:IsPair s.heap TO a b)
  (g1:Si ka s.heap i1 l1 k1) (g2:Si kb s.heap i2 l2 k2) (t1:Sq ka s.heap l1 xs) (t2:Sq kb s.heap l2 ys) (hx:xs[k1]?=some x) (hy:ys[k2]?=some y)
  (k:∀g,IsZip g z TI TO (rawInt s.heap.objs.size)->IsPair g TO x y->Si ka g i1 l1 (k1+1)->Si kb g i2 l2 (k2+1)->IsPair g s.heap.objs.size x y->
   (∀c o,c≠z->c≠TO->c≠i1->c≠i2->s.heap.get? c=some o->g.get? c=some o)->Q (.ref s.heap.objs.size) { s with heap:=g }) :
  wpAny (model prog w) A (Builtin.«zip.__next__» ⟨[.ref z],[]⟩) (fun fin s'=>∃v,fin = .done (.ret v)/\Q v s') E s:=by
 show wpAny _ _ (field (.ref z) 2 >>= _) _ _ _;refine HB (Iw gz rfl (x:=.bool false) rfl ?_)
 show wpAny _ _ (field (.ref z) 3 >>= _) _ _ _;refine HB (Iw gz rfl (x:=.ref TI) rfl (HB (I9 gI rfl ?_)))
 show wpAny _ _ (Builtin.SmallTypes.ownedTupleIsFree (.ref z) >>= _) _ _ _;refine HB ?_;unfold Builtin.SmallTypes.ownedTupleIsFree
 refine HB (Iw gz rfl (x:=.none) rfl (HJ ?_));simp only[II]
 refine HB (Kw (HB (Iw gz rfl (x:=.ref TO) rfl (HB (Jl gz (by simp) fun h₁ z1 q1=>?_)))))
 replace z1:IsZip h₁ z TI TO .ellipsis:=z1
 refine HB ?_;simp only[List.zipIdx_cons,List.zipIdx_nil,Ku,List.forIn_nil]
 refine HB (HB (wpAny_onRaise ?_));show wpAny _ _ (Builtin.SmallTypes.nextOf (.ref i1) >>= _) _ _ _
 refine HB (yB (g1.extBut q1.extBut D.i1z) (t1.extBut q1.extBut D.l1z) hx fun h₂ n1 q2=>HJ ?_)
 have o2:IsPair h₂ TO a b:=q2.extBut _ _ D.TOi1 (q1.extBut _ _ D.TOz gO)
 refine HB (I9 o2 rfl (HB (K3 o2 fun h₃ o3 q3=>?_)))
 replace o3:IsPair h₃ TO x b:=o3
 refine HB (wpAny_letGo (HJ ?_));refine HB (HB (wpAny_onRaise ?_));show wpAny _ _ (Builtin.SmallTypes.nextOf (.ref i2) >>= _) _ _ _
 refine HB (yB (((g2.extBut q1.extBut D.i2z).extBut q2.extBut D.i12.symm).extBut q3.extBut D.TOi2.symm) (((t2.extBut q1.extBut D.l2z).extBut q2.extBut D.l2i1).extBut q3.extBut D.l2TO) hy fun h₄ n2 q4=>HJ ?_)
 have o4:IsPair h₄ TO x b:=q4.extBut _ _ D.TOi2 o3
 refine HB (I9 o4 rfl (HB (K3 o4 fun h₅ o5 q5=>?_)))
 replace o5:IsPair h₅ TO x y:=o5
 refine HB (wpAny_letGo (HJ (HJ ?_)));refine HB (I9 o5 rfl (HB (wpAny_newTuple ?_)))
 have sz:h₅.objs.size=s.heap.objs.size:=by rw[q5.1,q4.1,q3.1,q2.1,q1.1]
 have z5:IsZip h₅ z TI TO .ellipsis:=q5.extBut _ _ D.TOz.symm (q4.extBut _ _ D.i2z.symm (q3.extBut _ _ D.TOz.symm (q2.extBut _ _ D.i1z.symm z1)))
 have kk:∀c o,c≠z->c≠TO->c≠i1->c≠i2->s.heap.get? c=some o->h₅.get? c=some o:=fun c o c1 c2 c3 c4 e=>q5.extBut _ _ c2 (q4.extBut _ _ c4 (q3.extBut _ _ c2 (q2.extBut _ _ c3 (q1.extBut _ _ c1 e))))
 have m1:Si ka h₅ i1 l1 (k1+1):=((n1.extBut q3.extBut D.TOi1.symm).extBut q4.extBut D.i12).extBut q5.extBut D.TOi1.symm
 have m2:Si kb h₅ i2 l2 (k2+1):=n2.extBut q5.extBut D.TOi2.symm
 have zl:z < h₅.objs.size:=HK z5
 show wpAny _ _ (Builtin.SmallTypes.ownedTupleHandOut (.ref z) (.ref h₅.objs.size) >>= _) _ _ _;refine HB ?_;unfold Builtin.SmallTypes.ownedTupleHandOut
 have z6:IsZip (h₅.push { cls:=.type "tuple",data:=.seq #[x,y] }) z TI TO .ellipsis:=HE _ z5
 refine HB (Jl z6 (by simp) fun h₇ z7 q7=>?_)
 replace z7:IsZip h₇ z TI TO (rawInt h₅.objs.size):=z7
 refine Jl z7 (by simp) fun h₈ z8 q8=>?_
 replace z8:IsZip h₈ z TI TO (rawInt h₅.objs.size):=z8
 have up:∀c o,c≠z->h₅.get? c=some o->h₈.get? c=some o:=fun c o c1 e=>q8.extBut _ _ c1 (q7.extBut _ _ c1 (HE _ e))
 have T8:IsPair h₈ h₅.objs.size x y:=q8.extBut _ _ (Kf zl) (q7.extBut _ _ (Kf zl) (HV _ rfl))
 rw[sz]at z8 T8
 refine HJ ⟨_,rfl,?_⟩
 show Q (.ref h₅.objs.size) _
 rw[sz]
 exact k h₈ z8 (up _ _ D.TOz o5) (m1.at fun o e=>up _ o D.i1z e) (m2.at fun o e=>up _ o D.i2z e) T8 fun c o c1 c2 c3 c4 e=>up c o c1 (kk c o c1 c2 c3 c4 e)
def u6{Q:Fin->Shared->Prop}(hh:A.handled=none)(D:ZipApart z TI TO i1 i2 l1 l2)(gz:IsZip s.heap z TI TO .none)(gI:IsPair s.heap TI (.ref i1) (.ref i2))(gO:IsPair s.heap TO a b)
  (g1:Si ka s.heap i1 l1 k1) (g2:Si kb s.heap i2 l2 k2) (t1:Sq ka s.heap l1 xs) (t2:Sq kb s.heap l2 ys) (he:xs[k1]?=none\/ys[k2]?=none)
  (k:∀(g:Heap) (e:Addr),(∀c o,c≠z->c≠TO->c≠i1->c≠i2->s.heap.get? c=some o->g.get? c=some o)->(∃o,g.get? e=some o/\o.cls = .type "StopIteration")->E (.ref e) { s with heap:=g }) :
  wpAny (model prog w) A (Builtin.«zip.__next__» ⟨[.ref z],[]⟩) Q E s:=by
 show wpAny _ _ (field (.ref z) 2 >>= _) _ _ _;refine HB (Iw gz rfl (x:=.bool false) rfl ?_)
 show wpAny _ _ (field (.ref z) 3 >>= _) _ _ _;refine HB (Iw gz rfl (x:=.ref TI) rfl (HB (I9 gI rfl ?_)))
 show wpAny _ _ (Builtin.SmallTypes.ownedTupleIsFree (.ref z) >>= _) _ _ _;refine HB ?_;unfold Builtin.SmallTypes.ownedTupleIsFree
 refine HB (Iw gz rfl (x:=.none) rfl (HJ ?_));simp only[II]
 refine HB (Kw (HB (Iw gz rfl (x:=.ref TO) rfl (HB (Jl gz (by simp) fun h₁ z1 q1=>?_)))))
 replace z1:IsZip h₁ z TI TO .ellipsis:=z1
 refine HB ?_;simp only[List.zipIdx_cons,List.zipIdx_nil,Ku,List.forIn_nil]
 refine HB (HB (wpAny_onRaise ?_));show wpAny _ _ (Builtin.SmallTypes.nextOf (.ref i1) >>= _) _ _ _
 cases hx:xs[k1]? with
 |none=>
  refine HB (wP hh (g1.extBut q1.extBut D.i1z) (t1.extBut q1.extBut D.l1z) hx fun h₂ e q2 ⟨oe,ge,ce⟩=>?_)
  have z2:IsZip h₂ z TI TO .ellipsis:=q2 _ _ D.i1z.symm z1
  have ez:e≠z:=fun u=>by subst u;rw[z2]at ge;cases ge;simp at ce
  exact Jl z2 (by simp) fun h₃ _ q3=>k h₃ e (fun c o c1 _ c3 _ u=>q3.extBut _ _ c1 (q2 _ _ c3 (q1.extBut _ _ c1 u))) ⟨oe,q3.extBut _ _ ez ge,ce⟩
 |some x=>
  have hy:ys[k2]?=none:=he.elim (fun q=>by rw[hx]at q;cases q) id
  refine HB (yB (g1.extBut q1.extBut D.i1z) (t1.extBut q1.extBut D.l1z) hx fun h₂ n1 q2=>HJ ?_)
  have o2:IsPair h₂ TO a b:=q2.extBut _ _ D.TOi1 (q1.extBut _ _ D.TOz gO)
  refine HB (I9 o2 rfl (HB (K3 o2 fun h₃ o3 q3=>?_)))
  refine HB (wpAny_letGo (HJ ?_));refine HB (HB (wpAny_onRaise ?_));show wpAny _ _ (Builtin.SmallTypes.nextOf (.ref i2) >>= _) _ _ _
  refine HB (wP hh (((g2.extBut q1.extBut D.i2z).extBut q2.extBut D.i12.symm).extBut q3.extBut D.TOi2.symm) (((t2.extBut q1.extBut D.l2z).extBut q2.extBut D.l2i1).extBut q3.extBut D.l2TO) hy fun h₄ e q4 ⟨oe,ge,ce⟩=>?_)
  have z4:IsZip h₄ z TI TO .ellipsis:=q4 _ _ D.i2z.symm (q3.extBut _ _ D.TOz.symm (q2.extBut _ _ D.i1z.symm z1))
  have ez:e≠z:=fun u=>by subst u;rw[z4]at ge;cases ge;simp at ce
  exact Jl z4 (by simp) fun h₅ _ q5=>k h₅ e (fun c o c1 c2 c3 c4 u=>q5.extBut _ _ c1 (q4 _ _ c4 (q3.extBut _ _ c2 (q2.extBut _ _ c3 (q1.extBut _ _ c1 u))))) ⟨oe,q5.extBut _ _ ez ge,ce⟩
def nY{Q:Option Value->Shared->Prop}(D:ZipApart z TI TO i1 i2 l1 l2)(gz:IsZip s.heap z TI TO .none)(gI:IsPair s.heap TI (.ref i1) (.ref i2))(gO:IsPair s.heap TO a b)
  (g1:Si ka s.heap i1 l1 k1) (g2:Si kb s.heap i2 l2 k2) (t1:Sq ka s.heap l1 xs) (t2:Sq kb s.heap l2 ys) (hx:xs[k1]?=some x) (hy:ys[k2]?=some y)
  (k:∀g,IsZip g z TI TO (rawInt s.heap.objs.size)->IsPair g TO x y->Si ka g i1 l1 (k1+1)->Si kb g i2 l2 (k2+1)->IsPair g s.heap.objs.size x y->
   (∀c o,c≠z->c≠TO->c≠i1->c≠i2->s.heap.get? c=some o->g.get? c=some o)->Q (some (.ref s.heap.objs.size)) { s with heap:=g }):wpAny (model prog w) A (pyNext (.ref z)) Q E s:=by
 have ty:s.TypeIs (.ref z) "zip":=⟨_,gz,rfl⟩
 unfold pyNext
 exact HB (wpAny_attempt (IG (name:=Str.ofString "__next__") ty Jy (Jk Jy ty KY
  (sg D gz gI gO g1 g2 t1 t2 hx hy fun g a1 a2 a3 a4 a5 a6=>HJ (k g a1 a2 a3 a4 a5 a6)) (KQ _))))
def pO{Q:Option Value->Shared->Prop}(hh:A.handled=none)(D:ZipApart z TI TO i1 i2 l1 l2)(gz:IsZip s.heap z TI TO .none)(gI:IsPair s.heap TI (.ref i1) (.ref i2))(gO:IsPair s.heap TO a b)
  (g1:Si ka s.heap i1 l1 k1) (g2:Si kb s.heap i2 l2 k2) (t1:Sq ka s.heap l1 xs) (t2:Sq kb s.heap l2 ys) (he:xs[k1]?=none\/ys[k2]?=none)
  (k:∀g:Heap,(∀c o,c≠z->c≠TO->c≠i1->c≠i2->s.heap.get? c=some o->g.get? c=some o)->Q none { s with heap:=g }):wpAny (model prog w) A (pyNext (.ref z)) Q E s:=by
 have ty:s.TypeIs (.ref z) "zip":=⟨_,gz,rfl⟩
 unfold pyNext
 refine HB (wpAny_attempt (IG (name:=Str.ofString "__next__") ty Jy (Jk Jy ty KY (u6 hh D gz gI gO g1 g2 t1 t2 he fun g e kk ⟨o,ho,hc⟩=>?_) (KQ _))))
 exact HB (wpAny_isInstance (T:="StopIteration") (b:=true) ⟨o,ho,hc⟩ isSubtype_stop (HJ (k _ kk)))
end
noncomputable abbrev it(kd:Bool)(l:Addr):Obj:={ cls:=.type (cond kd "list_iterator" "tuple_iterator"),data:=.fields #[.ref l,.int 0 0] }
def Si.mk{kd:Bool}{h:Heap}{a l:Addr}(e:h.get? a=some (it kd l)):Si kd h a l 0:=match kd,e with|true,e=>⟨_,e,rfl,rfl⟩|false,e=>⟨_,e,rfl,rfl⟩
noncomputable abbrev H1(ka:Bool)(h:Heap)(l1:Addr):Heap:=h.push (it ka l1)
noncomputable abbrev H2(ka kb:Bool)(h:Heap)(l1 l2:Addr):Heap:=(H1 ka h l1).push (it kb l2)
noncomputable abbrev H3(ka kb:Bool)(h:Heap)(l1 l2:Addr):Heap:=(H2 ka kb h l1 l2).push { cls:=.type "tuple",data:=.seq #[.ref h.objs.size,.ref (H1 ka h l1).objs.size] }
noncomputable abbrev H4(ka kb:Bool)(h:Heap)(l1 l2:Addr):Heap:=(H3 ka kb h l1 l2).push { cls:=.type "tuple",data:=.seq #[.none,.none] }
noncomputable abbrev H5(ka kb:Bool)(h:Heap)(l1 l2:Addr):Heap:=(H4 ka kb h l1 l2).push { cls:=.type "zip",data:=.fields #[.none,.bool false,.bool false,.ref (H2 ka kb h l1 l2).objs.size,.ref (H3 ka kb h l1 l2).objs.size] }
def gH(ka kb:Bool)(l1 l2:Addr)(xs ys:Vw) :
  Meets (Builtin.«zip.__new__» ⟨[.type "zip",.ref l1,.ref l2],[]⟩) (fun _ R s=>Sq ka s.heap l1 xs/\Sq kb s.heap l2 ys/\R (.ok (.ret (.ref (H4 ka kb s.heap l1 l2).objs.size))) { s with heap:=H5 ka kb s.heap l1 l2 }):=
 .of_wp fun prog w A R s h=>by
  obtain⟨hp,g,d,tk,os⟩:=s;obtain⟨e1,e2,h⟩:=h
  have hsub:=sub_zip
  match ka,kb,e1,e2,h with
  |false,false,e1,e2,h=>
   have L1:Heap.IsTuple (Shared.heap ⟨hp,g,d,tk,os⟩) l1 xs:=e1
   have L2:Heap.IsTuple (Shared.heap ⟨hp.push { cls:=.type "tuple_iterator",data:=.fields #[.ref l1,.int 0 0] },g,d,tk,os⟩) l2 ys:=Heap.IsTuple.push e2 _
   wp_walk using Jc L1,Jc L2
   exact⟨_,rfl,h⟩
  |false,true,e1,e2,h=>
   have L1:Heap.IsTuple (Shared.heap ⟨hp,g,d,tk,os⟩) l1 xs:=e1
   have L2:Heap.IsList (Shared.heap ⟨hp.push { cls:=.type "tuple_iterator",data:=.fields #[.ref l1,.int 0 0] },g,d,tk,os⟩) l2 ys:=Heap.IsList.push e2 _
   wp_walk using Jc L1,JK L2
   exact⟨_,rfl,h⟩
  |true,false,e1,e2,h=>
   have L1:Heap.IsList (Shared.heap ⟨hp,g,d,tk,os⟩) l1 xs:=e1
   have L2:Heap.IsTuple (Shared.heap ⟨hp.push { cls:=.type "list_iterator",data:=.fields #[.ref l1,.int 0 0] },g,d,tk,os⟩) l2 ys:=Heap.IsTuple.push e2 _
   wp_walk using JK L1,Jc L2
   exact⟨_,rfl,h⟩
  |true,true,e1,e2,h=>
   have L1:Heap.IsList (Shared.heap ⟨hp,g,d,tk,os⟩) l1 xs:=e1
   have L2:Heap.IsList (Shared.heap ⟨hp.push { cls:=.type "list_iterator",data:=.fields #[.ref l1,.int 0 0] },g,d,tk,os⟩) l2 ys:=Heap.IsList.push e2 _
   wp_walk using JK L1,JK L2
   exact⟨_,rfl,h⟩
section
variable {ka kb:Bool} {prog:Program} {w:World} {A:Around} {E:Vq} {s:Shared}
def iQ{l1 l2:Addr}{xs ys:Vw}{Q:Vq}(e1:Sq ka s.heap l1 xs)(e2:Sq kb s.heap l2 ys)
  (k:∀g,IsZip g (s.heap.objs.size+4) (s.heap.objs.size+2) (s.heap.objs.size+3) .none->IsPair g (s.heap.objs.size+2) (.ref s.heap.objs.size) (.ref (s.heap.objs.size+1))->
   IsPair g (s.heap.objs.size+3) .none .none->Si ka g s.heap.objs.size l1 0->Si kb g (s.heap.objs.size+1) l2 0->
   (∀c o,s.heap.get? c=some o->g.get? c=some o)->Q (.ref (s.heap.objs.size+4)) { s with heap:=g }) :
  wpAny (model prog w) A (call (.type "zip") [.ref l1,.ref l2]) Q E s:=by
 refine callType_new F.called_zip (by decide) (F.typeCall_zip_2 _ _) (F.newCall_zip_2 _ _) (fun obj=>F.args_object_init_3 obj _ _) F.entry_zip_new (gH ka kb l1 l2 xs ys) ⟨e1,e2,?_⟩
 have z1:(H1 ka s.heap l1).objs.size=s.heap.objs.size+1:=Jr ..
 have z2:(H2 ka kb s.heap l1 l2).objs.size=s.heap.objs.size+2:=by rw[Jr,z1]
 have z3:(H3 ka kb s.heap l1 l2).objs.size=s.heap.objs.size+3:=by rw[Jr,z2]
 have z4:(H4 ka kb s.heap l1 l2).objs.size=s.heap.objs.size+4:=by rw[Jr,z3]
 have g5:(H5 ka kb s.heap l1 l2).get? (H4 ka kb s.heap l1 l2).objs.size=some _:=HV _ rfl
 have g4:(H5 ka kb s.heap l1 l2).get? (H3 ka kb s.heap l1 l2).objs.size=some _:=HE _ (HV _ rfl)
 have g3:(H5 ka kb s.heap l1 l2).get? (H2 ka kb s.heap l1 l2).objs.size=some _:=HE _ (HE _ (HV _ rfl))
 have g2:(H5 ka kb s.heap l1 l2).get? (H1 ka s.heap l1).objs.size=some _:=HE _ (HE _ (HE _ (HV _ rfl)))
 have g1:(H5 ka kb s.heap l1 l2).get? s.heap.objs.size=some _:=HE _ (HE _ (HE _ (HE _ (HV _ rfl))))
 show _/\_
 rw[z2,z3,z4]at g5
 rw[z1,z2]at g3
 rw[z3]at g4
 rw[z1]at g2
 rw[z4]
 exact⟨⟨_,g5,rfl⟩,k _ g5 g3 g4 (.mk g1) (.mk g2) fun c o e=>HE _ (HE _ (HE _ (HE _ (HE _ e))))⟩
end
end Zt
namespace L2
open PySem PySem.Spec PyProof.Rows
section
variable {X:Cx} {pins:Va} {σ:St} {H:Hp} {s:Shared} {h':Heap}
def Inv.Bl{t':Nat}{fp:List Addr}(I:Inv X pins σ H s)(k:∀b o,b ∉ fp->s.heap.get? b=some o->h'.get? b=some o)(hf:∀b∈fp,dr X pins H b):Inv X pins σ H { s with heap:=h',toks:=t' }:=by
 have Ew:∀b u,H b=some u->b ∉ fp:=fun b u e z=>by rw[(hf b z).1]at e;cases e
 refine I.step (g':=s.gens) (d':=s.drawn) (ch:=fp) (fun b hb=>?_) (fun b o _ _ hc e _=>k b o hc e) (fun b o _ _ hc e _=>⟨o.slots,k b o hc e⟩) (fun _ _ _ _ n=>n)
  (fun b o hc e=>⟨o,k b o hc e⟩) (fun _ _ e=>e) (fun _ _ _ e=>e) (fun b ps e=>⟨#[],by rw[e];simp⟩) (fun m hm=>?_) (fun b u e=>?_) I.bare
 ·obtain⟨f0,f1,f2,f3,f4,f5⟩:=hf b hb
  exact⟨f3,f1,f4,f5⟩
 ·obtain⟨o,es,ep,ho,r⟩:=hm
  exact⟨o,es,ep,k _ o (fun z=>(hf _ z).2.1 rfl) ho,r⟩
 ·refine(I.hok b u e).stay (fun c v hc q=>k c v ?_ q) (fun _ q=>q) fun _ _ q=>q
  rcases hc with z|z
  ·rw[z];exact Ew b u e
  ·exact Ew c _ z
def Inv.BV{D:Addr}{us:Vv}{ys:List V}(I:Inv X pins σ H s)(f:dr X pins H D)(e:Ak s.heap D us.toArray)(r:Vals ys us)(hz:ys.length<=sizeLine) :
  Inv X pins σ (upd H D (.tup ys)) s:=by
 obtain⟨f0,f1,f2,f3,f4,f5⟩:=f
 have nD:∀b u,H b=some u->b≠D:=fun b u q=>aO q f0
 have hok:Bm X.prog X.w (upd H D (.tup ys)) s.heap:=fun b u q=>by
  by_cases hb:b=D
  ·subst hb
   rw[aw]at q
   cases q
   exact⟨hz,us,r,e⟩
  ·rw[av hb]at q
   exact(I.hok b u q).stay (fun _ _ _ z=>z) (fun c z=>by rw[av (nD c _ z)];exact z) fun c xs z=>by rw[av (nD c _ z)];exact z
 exact I.step (H':=upd H D (.tup ys)) (h':=s.heap) (g':=s.gens) (t':=s.toks) (d':=s.drawn) (ch:=[D])
  (fun b hb=>by
   have z:b=D:=by simpa using hb
   subst z
   exact⟨f3,f1,f4,f5⟩)
  (fun _ _ _ _ _ q _=>q) (fun _ o _ _ _ q _=>⟨o.slots,q⟩)
  (fun b o hb _ n=>by rw[av (fun z=>hb (by simp[z]))];exact n)
  (fun _ o _ q=>⟨o,q⟩) (fun b xs q=>by rw[av (nD b _ q)];exact q) (fun b o u q=>by rw[av (nD b _ q)];exact q)
  (fun b ps q=>⟨#[],by rw[av (nD b _ q),q];simp⟩) (fun _ q=>q) hok I.bare
end
def nZ(kd:Bool)(K:Vo)(H:Hp)(a:Addr)(xs:List V):Prop:=cond kd (SqL K H a xs) (SqT K H a xs)
def Inv.CV{X:Cx}{pins:Va}{σ:St}{H:Hp}{s:Shared}{kd:Bool}{a:Addr}{xs:List V}(I:Inv X pins σ H s)(h:nZ kd X.K H a xs):∃its:List Value,Vals xs its/\Zt.Sq kd s.heap a its.toArray:=by
 cases kd with
 |true=>obtain⟨i,r,p,z⟩:=I.list h;exact⟨i,r,p.isList⟩
 |false=>obtain⟨i,r,p,z⟩:=I.tuple h;exact⟨i,r,p⟩
def Inv.Cp{X:Cx}{pins:Va}{σ:St}{H:Hp}{s:Shared}{kd:Bool}{a:Addr}{xs ys:List V}(I:Inv X pins σ H s)(h:nZ kd X.K H a xs)(g:nZ kd X.K H a ys):xs=ys:=by
 cases kd with
 |true=>exact I.BU h g
 |false=>exact I.BC h g
noncomputable def yC(ka kb:Bool)(K:Vo)(a b:Addr):It:=
  ⟨fun i H=>∃xs ys x y,nZ ka K H a xs/\nZ kb K H b ys/\xs[i]?=some x/\ys[i]?=some y,
   fun i H v H'=>∃p x y,v = .ref p/\H p=none/\H'=upd H p (.tup [x,y])/\∀xs ys,nZ ka K H a xs->nZ kb K H b ys->xs[i]?=some x/\ys[i]?=some y,
   fun i H=>∃xs ys,nZ ka K H a xs/\nZ kb K H b ys/\(xs.length<=i\/ys.length<=i)⟩
def pP{ka kb:Bool}{P:Program}{w:World}{K:Vo}{elts:List Expr}{k0:Nat}{BD:Pos}{z TI TO i1 i2 a b:Addr}(D:ZipApart z TI TO i1 i2 a b) :
  ke P w K (.Tuple elts k0 BD) (yC ka kb K a b) [z,TI,TO,i1,i2] z (fun i h=>IsZip h z TI TO .none/\IsPair h TI (.ref i1) (.ref i2)/\(∃x y,IsPair h TO x y)/\Zt.Si ka h i1 a i/\Zt.Si kb h i2 b i) where
 mem:=by simp
 obj:=fun i h st c hc=>by
  obtain⟨gz,gI,⟨x,y,gO⟩,g1,g2⟩:=st
  obtain⟨o1,_,e1,d1⟩:=g1.ob;obtain⟨o2,_,e2,d2⟩:=g2.ob
  simp only[HL,Ic,IY]at hc
  rcases hc with rfl|rfl|rfl|rfl|rfl
  ·exact⟨_,gz,fun v q=>by cases q⟩
  ·exact⟨_,gI,fun v q=>by cases q⟩
  ·exact⟨_,gO,fun v q=>by cases q⟩
  ·exact⟨_,e1,fun v q=>by rw[d1]at q;cases q⟩
  ·exact⟨_,e2,fun v q=>by rw[d2]at q;cases q⟩
 keep:=fun i h h' st k=>by
  obtain⟨gz,gI,⟨x,y,gO⟩,g1,g2⟩:=st
  exact⟨k z (by simp) _ gz,k TI (by simp) _ gI,⟨x,y,k TO (by simp) _ gO⟩,g1.at fun o e=>k i1 (by simp) o e,g2.at fun o e=>k i2 (by simp) o e⟩
 item:=by
  intro X hP hw hK hc i pins s σ H E I hf st hg
  subst hP hw hK
  obtain⟨gz,gI,⟨ta,tb,gO⟩,g1,g2⟩:=st
  obtain⟨xs,ys,x,y,CN,EV,hx,hy⟩:=hg
  obtain⟨ia,ra,pa⟩:=I.CV CN
  obtain⟨ib,rb,pb⟩:=I.CV EV
  obtain⟨u,hu,ru⟩:=ra.get hx
  obtain⟨v,hv,rv⟩:=rb.get hy
  refine Zt.nY D gz gI gO g1 g2 pa pb (x:=u) (y:=v) (by simpa using hu) (by simpa using hv) fun g a1 a2 a3 a4 a5 a6=>?_
  refine⟨_,rfl,wpAny_letOwnedTupleGo_zip (s:={ s with heap:=g }) a1 fun g' z' q'=>?_⟩
  have kk:∀c o,c ∉ [z,TI,TO,i1,i2]->s.heap.get? c=some o->g'.get? c=some o:=fun c o hc e=>by
   simp only[HL,Ic,IY,not_or]at hc
   exact q'.extBut _ _ hc.1 (a6 c o hc.1 hc.2.2.1 hc.2.2.2.1 hc.2.2.2.2 e)
  have I1:Inv X pins σ H { s with heap:=g' }:=I.Bl (t':=s.toks) kk hf
  have f0:dr X pins H s.heap.objs.size:=I.Bx (HF _) (I.hok.fresh (HF _))
  have eT:Ak g' s.heap.objs.size [u,v].toArray:=⟨_,q'.extBut _ _ (Kf (HK gz)) a5,rfl,rfl,_,rfl⟩
  have I2:=I1.BV f0 eT (.cons ru (.cons rv .nil)) (by show 2<=sizeLine;decide)
  refine⟨.ref s.heap.objs.size,_,I2,rfl,⟨s.heap.objs.size,x,y,rfl,f0.1,rfl,fun xs' ys' h1 h2=>by rw[I.Cp h1 CN,I.Cp h2 EV];exact⟨hx,hy⟩⟩,
   ⟨z',q'.extBut _ _ D.TIz (a6 TI _ D.TIz D.TITO D.TIi1 D.TIi2 gI),⟨_,_,q'.extBut _ _ D.TOz a2⟩,a3.extBut q'.extBut D.i1z,a4.extBut q'.extBut D.i2z⟩,fun c hc=>?_⟩
  have hlt:c < s.heap.objs.size:=by
   obtain⟨_,_,e1,_⟩:=g1.ob
   obtain⟨_,_,e2,_⟩:=g2.ob
   simp only[HL,Ic,IY]at hc
   rcases hc with rfl|rfl|rfl|rfl|rfl
   ·exact HK gz
   ·exact HK gI
   ·exact HK gO
   ·exact HK e1
   ·exact HK e2
  rw[av (Ii hlt)]
  exact(hf c hc).1
 done:=by
  intro X hP hw hK hc i pins s σ H E I hf st hg
  subst hP hw hK
  obtain⟨gz,gI,⟨ta,tb,gO⟩,g1,g2⟩:=st
  obtain⟨xs,ys,CN,EV,hl⟩:=hg
  obtain⟨ia,ra,pa⟩:=I.CV CN
  obtain⟨ib,rb,pb⟩:=I.CV EV
  have la:=ra.length
  have lb:=rb.length
  refine Zt.pO (I.ok.hd hc) D gz gI gO g1 g2 pa pb ?_ fun g kk=>⟨rfl,I.Bl (t':=s.toks) (fun c o hc e=>?_) hf⟩
  ·rcases hl with q|q
   ·exact .inl (by simp;omega)
   ·exact .inr (by simp;omega)
  ·simp only[HL,Ic,IY,not_or]at hc
   exact kk c o hc.1 hc.2.2.1 hc.2.2.2.1 hc.2.2.2.2 e
 self:=fun _ _ _ _ _ st h=>wpAny_pyIter_zip st.1 h
section
variable {X:Cx}
def yD(K:Vo)(ta:TA):TI:=fun σ H R=>ta σ H fun vs H1=>∃ka kb a b,vs=[.ref a,.ref b]/\(∃xs,nZ ka K H1 a xs)/\(∃ys,nZ kb K H1 b ys)/\R (yC ka kb K a b) H1
def u7{elts:List Expr}{k0:Nat}{BD:Pos}{a b:Expr}{ta:TA}{p pos:Pos}(hg:Gl X "zip")(hm:X.mg "zip" = none)(hv:bootBuiltins "zip" = some (.type "zip"))(ha:PA X [a,b] ta)
  (hs:starEach [a,b] X.env=[(false,eval a X.env),(false,eval b X.env)]:=by rfl) (hs2:starEach [b] X.env=[(false,eval b X.env)]:=by rfl):PI X (.Tuple elts k0 BD) (.Call (.Name "zip" p) [a,b] [] pos) (yD X.K ta):=by
 intro pins s σ H R I h
 refine Call_ (df I hg hm hv (Ir (zP (ha pos pins s σ H _ I h) fun us s1 ⟨vs,H1,I1,r1,q1⟩=>?_) (by rw[hs,hs2]) (by rw[hs2];rfl)))
 obtain⟨ka,kb,a,b,e,⟨xs,qa⟩,⟨ys,qb⟩,q⟩:=q1
 subst e
 obtain⟨u,v,rfl,ru,rv⟩:=o8 r1
 cases ru
 cases rv
 obtain⟨ia,ra,pa⟩:=I1.CV qa
 obtain⟨ib,rb,pb⟩:=I1.CV qb
 have la:a < s1.heap.objs.size:=pa.lt
 have lb:b < s1.heap.objs.size:=pb.lt
 refine Zt.iQ pa pb fun g gz gI gO g1 g2 kk=>?_
 refine wpAny_pyIter_zip (s:={ s1 with heap:=g }) gz ?_
 refine⟨_,[s1.heap.objs.size+4,s1.heap.objs.size+2,s1.heap.objs.size+3,s1.heap.objs.size,s1.heap.objs.size+1],_,_,H1,rfl,I1.kept (t':=s1.toks) kk,pP (zipApart_new la lb),⟨gz,gI,⟨_,_,gO⟩,g1,g2⟩,fun c hc=>?_,q⟩
 have hle:s1.heap.objs.size<=c:=by
  simp only[HL,Ic,IY]at hc
  rcases hc with rfl|rfl|rfl|rfl|rfl
  ·exact Jm _ _
  ·exact Jm _ _
  ·exact Jm _ _
  ·exact HF _
  ·exact Jm _ _
 exact I1.Bx hle (I1.hok.fresh hle)
def KD(P:Program)(w:World)(K:Vo)(a:Addr)(kvs:List (a_×V)):Prop:=(a == sysModules)=false/\∃o vs,K.lookup a=some o/\KV kvs vs/\Obj.IsDictOf (aN P w) o vs
def wQ(a:Addr)(kvs:List (a_×V))(ty tx:TE):TE:=fun σ H Q=>ty σ H fun y H2=>tx σ H2 fun z H3=>∃k,y=kV k/\Q ((fc kvs k).getD z) H3
def sh{x:Str}{e f:Expr}{px apos cpos:Pos}{ty tx:TE}{a:Addr}{kvs:List (a_×V)}(hu:X.A.units+1 < cLine)(hg:Gl X x)(hm:X.mg x=some (.ref a))(hD:KD X.prog X.w X.K a kvs)(he:PE X e ty)(hf:PE X f tx)(m:M2 X (.Name x px) "get" apos e f cpos)
  (hd:(x == ("__debug__":Str))=false:=by decide):PE X (.Call (.Attribute (.Name x px) "get" apos) [e,f] [] cpos) (wQ a kvs ty tx):=by
 intro pins s σ H Q I h
 obtain⟨hsys,o,vs,hk,rel,ii⟩:=hD
 have dd:∀{s1:Shared} {H1:Hp},Inv X pins σ H1 s1->s1.heap.DictOf (aN X.prog X.w) a vs:=fun I1=>Heap.dictOf_iff.mpr ⟨o,I1.C9 a o hk,ii⟩
 refine wpAny_Call_method m.base m.few m.line PySem.F.plainAttrs_dict JF PySem.F.type_dict_get (mK I hg hm ?_ hd)
 refine⟨(dd I).typeIs,fun b q=>?_,?_⟩
 ·cases q
  obtain⟨ob,_,_,h1,h2,_⟩:=dd I
  exact⟨ob,h1,h2.2.1⟩
 rw[m.trees]
 refine JA rfl (J7 (Jb (zP (he pins s σ H _ I h) fun iv s2 ⟨y,H2,I2,ry,q2⟩=>
  Jb (zP (hf pins s2 σ H2 _ I2 q2) fun fv s3 ⟨z,H3,I3,rz,k,ey,q3⟩=>JI ?_))))
 subst ey
 refine call_meetsIn JF (dd I3).typeIs KO (KA _ _ _) (meets_dict_get_default (aN X.prog X.w) a (hW ry) hsys fv) ⟨_,(dd I3).mapOf,⟨_,H3,I3.tok _,?_,q3⟩⟩
 exact(rel.val k).getD rz
end
section
variable {env:Env} {rest:List Expr} {pos:Pos}
def n5{a:Expr}{gs:List Comprehension}{sc:Scope}:starEach (.ListComp a gs sc pos::rest) env=(false,eval (.ListComp a gs sc pos) env)::starEach rest env:=rfl
end
noncomputable def yE(K:Vo)(a:Addr):It:=
  ⟨fun i H=>∃xs x,SqL K H a xs/\xs[i]?=some x,
   fun i H v H'=>∃p x,v = .ref p/\H p=none/\H'=upd H p (.tup [.int (i:Nat),x])/\∀xs,SqL K H a xs->xs[i]?=some x,
   fun i H=>∃xs,SqL K H a xs/\xs.length<=i⟩
def n6{P:Program}{w:World}{K:Vo}{elts:List Expr}{k0:Nat}{BD:Pos}{e it a:Addr}(hei:e≠it) :
  ke P w K (.Tuple elts k0 BD) (yE K a) [e,it] e (fun i h=>(∃old,IsEnum h e it i old)/\h.IsListIter it a i) where
 mem:=by simp
 obj:=fun i h st c hc=>by
  obtain⟨⟨old,ge⟩,⟨o1,e1,_,d1⟩⟩:=st
  simp only[HL,Ic,IY]at hc
  rcases hc with rfl|rfl
  ·exact⟨_,ge,fun v q=>by cases q⟩
  ·exact⟨_,e1,fun v q=>by rw[d1]at q;cases q⟩
 keep:=fun i h h' st k=>by
  obtain⟨⟨old,ge⟩,g1⟩:=st
  exact⟨⟨old,k e (by simp) _ ge⟩,g1.at fun o q=>k it (by simp) o q⟩
 item:=by
  intro X hP hw hK hc i pins s σ H E I hf st hg
  subst hP hw hK
  obtain⟨⟨old,ge⟩,g1⟩:=st
  obtain⟨xs,x,CN,hx⟩:=hg
  obtain⟨ia,ra,pa,za⟩:=I.list CN
  obtain⟨u,hu,ru⟩:=ra.get hx
  refine wpAny_pyNext_enum_item ge g1 pa.isList (x:=u) (by simpa using hu) hei fun g a1 a2 a3 a4 a5=>?_
  refine⟨_,rfl,wpAny_letOwnedTupleGo_enum (s:={ s with heap:=g,toks:=s.toks+1 }) a1 fun g' z' q'=>?_⟩
  have kk:∀c o,c ∉ [e,it]->s.heap.get? c=some o->g'.get? c=some o:=fun c o hc q=>by
   simp only[HL,Ic,IY,not_or]at hc
   exact(q'.2 c hc.1).trans (a5 c o hc.1 hc.2 q)
  have I1:Inv X pins σ H { s with heap:=g',toks:=s.toks+1 }:=I.Bl kk hf
  have f0:dr X pins H s.heap.objs.size:=I.Bx (HF _) (I.hok.fresh (HF _))
  have FA:s.heap.objs.size≠e:=Kf (HK ge)
  have eT:Ak g' s.heap.objs.size [Value.int i s.toks,u].toArray:=⟨_,(q'.2 _ FA).trans a3,rfl,rfl,_,rfl⟩
  have I2:=I1.BV (ys:=[.int i,x]) f0 eT (.cons ⟨_,rfl⟩ (.cons ru .nil)) (by show 2<=sizeLine;decide)
  refine⟨.ref s.heap.objs.size,_,I2,rfl,⟨s.heap.objs.size,x,rfl,f0.1,rfl,fun xs' h1=>by rw[I.BU h1 CN];exact hx⟩,⟨⟨u,by simpa using z'⟩,a2.at fun o q=>(q'.2 it hei.symm).trans q⟩,fun c hc=>?_⟩
  have hlt:c < s.heap.objs.size:=by
   obtain⟨o1,e1,_⟩:=g1
   simp only[HL,Ic,IY]at hc
   rcases hc with rfl|rfl
   ·exact HK ge
   ·exact HK e1
  rw[av (Ii hlt)]
  exact(hf c hc).1
 done:=by
  intro X hP hw hK hc i pins s σ H E I hf st hg
  subst hP hw hK
  obtain⟨⟨old,ge⟩,g1⟩:=st
  obtain⟨xs,CN,hl⟩:=hg
  obtain⟨ia,ra,pa,za⟩:=I.list CN
  have la:=ra.length
  refine wpAny_pyNext_enum_end (I.ok.hd hc) ge g1 pa.isList (by simp;omega) fun g kk=>⟨rfl,I.Bl (t':=s.toks) (fun c o hc q=>?_) hf⟩
  simp only[HL,Ic,IY,not_or]at hc
  exact kk c o hc.2 q
 self:=fun _ _ _ _ _ st h=>by
  obtain⟨⟨old,ge⟩,_⟩:=st
  exact KR ge h
end L2
namespace Et
open PySem
open Sem (wp)
open AutoSeq1 (wpAny_loadPart')
def tP{P:Program}{w:World}{A:Around}(hh:A.handled=none)(it t:Addr)(hne:t≠it)(its:Vw) :
  Draws P w A it [it,t] its.size (fun i v=>its[i]?=some v) (fun i h=>h.IsTupleIter it t i/\h.IsTuple t its) where
 live:=fun i h st=>let ⟨⟨o,e,_⟩,_⟩:=st;⟨o,e⟩
 frame:=fun i h h' st k=>⟨st.1.at fun o e=>k it (by simp) o e,let ⟨o,e,r⟩:=st.2;⟨o,k t (by simp) o e,r⟩⟩
 item:=fun i s Q E hi st hQ=>Zt.nx st.1 st.2 (Ia hi) fun g a b=>hQ _ g s.toks (Ia hi) ⟨a,st.2.extBut b.extBut hne⟩ b
 done:=fun s Q E st hE=>Zt.zc hh st.1 st.2 (JT (HF _)) hE
noncomputable abbrev E1(h:Heap)(l:Addr):Heap:=h.push { cls:=.type "tuple_iterator",data:=.fields #[.ref l,.int 0 0] }
noncomputable abbrev E2(h:Heap)(l:Addr):Heap:=(E1 h l).push { cls:=.type "enumerate",data:=.fields #[.none,.bool false,.ref h.objs.size,rawInt 0,.none,.none] }
def gH(l:Addr)(its:Vw)(n:Nat)(dct:Option Addr)(sl:Array (Option Value)) :
  Meets (Builtin.«enumerate.__new__» ⟨[.type "enumerate",.ref l],[]⟩) (fun _ R s=>s.heap.get? l=some { cls:=.type "tuple",dict:=dct,data:=.seq its n,slots:=sl }/\R (.ok (.ret (.ref (E1 s.heap l).objs.size))) { s with heap:=E2 s.heap l }):=
 .of_wp fun prog w A R s h=>by
  obtain⟨hp,g,d,tk,os⟩:=s;obtain⟨hl,h⟩:=h
  have hsub:=sub_enumerate
  have T:Heap.IsTuple (Shared.heap ⟨hp,g,d,tk,os⟩) l its:=⟨_,hl,rfl,n,rfl⟩
  wp_walk using Kv hl
  refine wpAny_stack_any fun st=>HJ ?_
  split
  ·rename_i c _ _ _ _ _
   cases (c == Value.type "enumerate")
   ·wp_walk using Kv hl,Jc T
    exact⟨_,rfl,h⟩
   ·wp_walk using Kv hl,Jc T
    exact⟨_,rfl,h⟩
  ·wp_walk using Kv hl,Jc T
   exact⟨_,rfl,h⟩
def iQ{P:Program}{w:World}{A:Around}{E:Vq}{s:Shared}{l:Addr}{its:Vw}{Q:Vq}(hT:s.heap.IsTuple l its)
  (k:∀g,IsEnum g (s.heap.objs.size+1) s.heap.objs.size 0 .none->g.IsTupleIter s.heap.objs.size l 0->(∀b o,s.heap.get? b=some o->g.get? b=some o)->Q (.ref (s.heap.objs.size+1)) { s with heap:=g }) :
  wpAny (model P w) A (call (.type "enumerate") [.ref l]) Q E s:=by
 obtain⟨⟨c,dct,dt,sl⟩,hl,hc,n,hd⟩:=hT
 replace hc:c = .type "tuple":=hc
 replace hd:dt = .seq its n:=hd
 subst hc hd
 refine callType_new F.called_enumerate (by decide) (F.typeCall_enumerate_1 _) (F.newCall_enumerate_1 _) (fun obj=>F.args_object_init_2 obj _) F.entry_enumerate_new (gH l its n dct sl) ⟨hl,?_⟩
 have hz:(E1 s.heap l).objs.size=s.heap.objs.size+1:=Jr ..
 show _/\_
 rw[hz]
 have he:IsEnum (E2 s.heap l) (s.heap.objs.size+1) s.heap.objs.size 0 .none:=by
  have q:=HV (E1 s.heap l) (o:={ cls:=.type "enumerate",data:=.fields #[.none,.bool false,.ref s.heap.objs.size,rawInt 0,.none,.none] }) rfl
  rw[hz]at q
  exact q
 exact⟨⟨_,he,rfl⟩,k _ he ⟨_,HE _ (HV _ rfl),rfl,rfl⟩ fun b o x=>HE _ (HE _ x)⟩
end Et
namespace L2
open PySem PySem.Spec PyProof.Rows
noncomputable def yF(K:Vo)(a:Addr):It:=
  ⟨fun i H=>∃xs x,SqT K H a xs/\xs[i]?=some x,
   fun i H v H'=>∃p x,v = .ref p/\H p=none/\H'=upd H p (.tup [.int (i:Nat),x])/\∀xs,SqT K H a xs->xs[i]?=some x,
   fun i H=>∃xs,SqT K H a xs/\xs.length=i⟩
def l7{P:Program}{w:World}{K:Vo}{elts:List Expr}{k0:Nat}{BD:Pos}{e it a:Addr}(hei:e≠it)(GZ:a≠e)(hai:a≠it) :
  ke P w K (.Tuple elts k0 BD) (yF K a) [e,it] e (fun i h=>(∃old,IsEnum h e it i old)/\h.IsTupleIter it a i) where
 mem:=by simp
 obj:=fun i h st c hc=>by
  obtain⟨⟨old,ge⟩,⟨o1,e1,_,d1⟩⟩:=st
  simp only[HL,Ic,IY]at hc
  rcases hc with rfl|rfl
  ·exact⟨_,ge,fun v q=>by cases q⟩
  ·exact⟨_,e1,fun v q=>by rw[d1]at q;cases q⟩
 keep:=fun i h h' st k=>by
  obtain⟨⟨old,ge⟩,g1⟩:=st
  exact⟨⟨old,k e (by simp) _ ge⟩,g1.at fun o q=>k it (by simp) o q⟩
 item:=by
  intro X hP hw hK hc i pins s σ H E I hf st hg
  subst hP hw hK
  obtain⟨⟨old,ge⟩,g1⟩:=st
  obtain⟨xs,x,CN,hx⟩:=hg
  obtain⟨ia,ra,pa,za⟩:=I.tuple CN
  obtain⟨u,hu,ru⟩:=ra.get hx
  have hil:i < ia.toArray.size:=by
   rcases Nat.lt_or_ge i ia.length with q|q
   ·simpa using q
   ·rw[Ji q]at hu;cases hu
  refine wpAny_pyNext_enum_itemD (Et.tP (P:=X.prog) (w:=X.w) (A:=X.A.in1) (I.ok.hd hc) it a hai ia.toArray) ge ⟨g1,(show s.heap.IsTuple a ia.toArray from pa)⟩ hil hei (by simp[hei,JE GZ]) fun v g tk hv a1 a2 a3 a4 a5=>?_
  have ev:v=u:=by
   have q:ia[i]?=some v:=by simpa using hv
   rw[q]at hu
   exact IL hu
  subst ev
  refine⟨_,rfl,wpAny_letOwnedTupleGo_enum (s:={ s with heap:=g,toks:=tk+1 }) a1 fun g' z' q'=>?_⟩
  have kk:∀c o,c ∉ [e,it]->s.heap.get? c=some o->g'.get? c=some o:=fun c o hc q=>by
   simp only[HL,Ic,IY,not_or]at hc
   exact(q'.2 c hc.1).trans (a5 c o hc.1 hc.2 q)
  have I1:Inv X pins σ H { s with heap:=g',toks:=tk+1 }:=I.Bl kk hf
  have f0:dr X pins H s.heap.objs.size:=I.Bx (HF _) (I.hok.fresh (HF _))
  have FA:s.heap.objs.size≠e:=Kf (HK ge)
  have eT:Ak g' s.heap.objs.size [Value.int i tk,v].toArray:=⟨_,(q'.2 _ FA).trans a3,rfl,rfl,_,rfl⟩
  have I2:=I1.BV (ys:=[.int i,x]) f0 eT (.cons ⟨_,rfl⟩ (.cons ru .nil)) (by show 2<=sizeLine;decide)
  refine⟨.ref s.heap.objs.size,_,I2,rfl,⟨s.heap.objs.size,x,rfl,f0.1,rfl,fun xs' h1=>by rw[I.BC h1 CN];exact hx⟩,⟨⟨v,by simpa using z'⟩,a2.1.at fun o q=>(q'.2 it hei.symm).trans q⟩,fun c hc=>?_⟩
  have hlt:c < s.heap.objs.size:=by
   obtain⟨o1,e1,_⟩:=g1
   simp only[HL,Ic,IY]at hc
   rcases hc with rfl|rfl
   ·exact HK ge
   ·exact HK e1
  rw[av (Ii hlt)]
  exact(hf c hc).1
 done:=by
  intro X hP hw hK hc i pins s σ H E I hf st hg
  subst hP hw hK
  obtain⟨⟨old,ge⟩,g1⟩:=st
  obtain⟨xs,CN,hl⟩:=hg
  obtain⟨ia,ra,pa,za⟩:=I.tuple CN
  have la:=ra.length
  have ei:i=ia.toArray.size:=by simp;omega
  subst ei
  refine wpAny_pyNext_enum_endD (Et.tP (P:=X.prog) (w:=X.w) (A:=X.A.in1) (I.ok.hd hc) it a hai ia.toArray) ge ⟨g1,(show s.heap.IsTuple a ia.toArray from pa)⟩ fun g kk=>⟨rfl,I.Bl (t':=s.toks) (fun c o hc q=>?_) hf⟩
  simp only[HL,Ic,IY,not_or]at hc
  exact kk c o hc.2 q
 self:=fun _ _ _ _ _ st h=>by
  obtain⟨⟨old,ge⟩,_⟩:=st
  exact KR ge h
section
variable {X:Cx}
def n_:fS X (compareOp .IsNot) (fun x y H Q=>x = .bl true/\y = .bl true/\Q (.bl false) H):=by
 intro pins s σ H x y v u Q I rx ry h
 obtain⟨rfl,rfl,q⟩:=h
 cases (show v=Value.bool true from rx)
 cases (show u=Value.bool true from ry)
 exact wpAny_isNot_self rfl ⟨.bl false,H,I,rfl,q⟩
end
def pQ(w:World)(x:Str):PyData.keyHash w.params x=hashStr w x:=rfl
noncomputable abbrev xQ(w:World)(x:Str×Int×Tok×Tok):DictEntry:=⟨PyData.keyHash w.params x.1,.str x.1 x.2.2.1,.int x.2.1 x.2.2.2⟩
def u8(P:Program)(w:World)(xs:List (Str×Int×Tok×Tok))(ep:Nat)(nd:(xs.map (·.1)).Nodup) :
  ∃vs,KV (xs.map fun x=>((Sum.inr x.1:a_),V.int x.2.1)) vs/\Obj.IsDictOf (aN P w) { cls:=.type "dict",data:=.dict (xs.map (xQ w)).toArray ep } vs:=by
 refine⟨xs.map fun x=>((Sum.inr x.1:a_),Value.int x.2.1 x.2.2.2),?_,(xs.map (xQ w)).toArray,ep,⟨rfl,rfl,rfl⟩,rfl,?_,?_,?_⟩
 ·induction xs with
  |nil=>exact .nil
  |cons x xs ih=>exact .cons ⟨rfl,_,rfl⟩ (ih (by simpa using(IU.mp (by simpa using nd)).2))
 ·intro e he
  have he':e∈xs.map (xQ w):=by simpa using he
  obtain⟨x,_,rfl⟩:=Im.mp he'
  exact⟨Sum.inr x.1,gD x.1 x.2.2.1,pQ w x.1⟩
 ·have key:∀ys:List (Str×Int×Tok×Tok),Pairs (aN P w) (ys.map (xQ w)) (ys.map fun x=>((Sum.inr x.1:a_),Value.int x.2.1 x.2.2.2)):=by
   intro ys
   induction ys with
   |nil=>exact .nil
   |cons y ys ih=>exact .cons (gD y.1 y.2.2.1) rfl ih
  exact key xs
 ·rw[JL]
  have e:((fun x:a_×Value=>x.1) ∘ fun x:Str×Int×Tok×Tok=>((Sum.inr x.1:a_),Value.int x.2.1 x.2.2.2))=fun x=>Sum.inr x.1:=rfl
  have key:∀ys:List (Str×Int×Tok×Tok),(ys.map (·.1)).Nodup->(ys.map fun x=>(Sum.inr x.1:a_)).Nodup:=by
   intro ys
   induction ys with
   |nil=>intro _;exact Lf
   |cons y ys ih=>
    intro h
    rw[Ig,IU]at h ⊢
    refine⟨fun hm=>h.1 ?_,ih h.2⟩
    obtain⟨z,hz,e⟩:=Im.mp hm
    have e':z.1=y.1:=Sum.inr.inj e
    exact Im.mpr ⟨z,hz,e'⟩
  exact key xs nd
end L2
namespace Wd
open PySem L2 PyProof.Rows
noncomputable def abc:Str:="abcdefghijklmnopqrstuvwxyz"
noncomputable def AF:List Str:=["jars","deed","rest","pay","put","then","either","take","often","use"]
def u9:∀i,i < 26->abc.cps.toList[i]?=some (97+i):=by decide +kernel
def iC:abc.length<=sizeLine/\abc.cps.toList.length=26:=by decide +kernel
def pR:∀i,i < 26->Builtin.Str.occurrences abc (kq (97+i)) 0 abc.length 1=[i]:=by decide +kernel
theorem mW{α:Type} [BEq α] [LawfulBEq α]:∀{xs ys:List α},xs.Nodup->(∀x∈xs,x∈ys)->xs.length<=ys.length
 |[],ys,_,_=>Il _
 |x::xs,ys,nd,h=>by
  have hx:=h x (Ja ..)
  have q:=mW (xs:=xs) (ys:=ys.erase x) (IU.mp nd).2 fun y hy=>by
   have ne:y≠x:=fun e=>(IU.mp nd).1 (e▸hy)
   exact(List.mem_erase_of_ne ne).mpr (h y (Jd _ hy))
  rw[List.length_erase_of_mem hx]at q
  have:=List.length_pos_of_mem hx
  rw[HW]
  omega
noncomputable def cand(r:List Nat)(i:Nat):Str:=⟨((97+i % 26)::r).toArray⟩
def pS{r:List Nat}{i j:Nat}(h:cand r i=cand r j):i % 26=j % 26:=by
 have e:(((97+i % 26)::r).toArray).toList=(((97+j % 26)::r).toArray).toList:=IP (fun z:Str=>z.cps.toList) h
 simp only[List.cons.injEq]at e
 omega
def l8(r:List Nat)(c:Nat):((List.range 26).map fun i=>cand r (c+i)).Nodup:=by
 refine List.pairwise_map.mpr (List.Pairwise.imp_of_mem (R:=(·≠·)) ?_ List.nodup_range)
 intro a b ha hb ne e
 have h1:=J6.mp ha
 have h2:=J6.mp hb
 have h3:=pS e
 omega
def oa(r:List Nat)(c:Nat)(bad:Vs)(h:bad.length < 26):∃j,j < 26/\cand r (c+j) ∉ bad:=by
 refine Classical.byContradiction fun no=>?_
 have q:=mW (l8 r c) (ys:=bad) fun x hx=>by
  obtain⟨j,hj,rfl⟩:=Im.mp hx
  exact Classical.byContradiction fun z=>no ⟨j,J6.mp hj,z⟩
 rw[HD,Ll]at q
 omega
structure Cl (z:Str):Prop where
 ne:z.cps.toList≠[]
 le:z.cps.toList.length<=6
 sm:∀c∈z.cps.toList,97<=c/\c<=122
theorem Cl.cand{z:Str}(h:Cl z):∃i r,z=Wd.cand r i/\i < 26/\r.length<=5/\∀c∈r,97<=c/\c<=122:=by
 obtain⟨⟨⟨l⟩⟩,ne,le,sm⟩:∃z',_/\_/\_:=⟨z,h.ne,h.le,h.sm⟩
 obtain⟨⟨l⟩⟩:=z
 cases l with
 |nil=>exact absurd rfl h.ne
 |cons c r=>
  have q:=h.sm c (Ja ..)
  refine⟨c - 97,r,?_,by omega,by have:=h.le;simp at this;omega,fun d hd=>h.sm d (Jd _ hd)⟩
  unfold Wd.cand
  rw[show 97+(c - 97) % 26=c by omega]
def pU{r:List Nat}(h:r.length<=5)(hs:∀c∈r,97<=c/\c<=122)(i:Nat):Cl (cand r i):=by
 refine⟨by simp[cand],by simp[cand];omega,fun c hc=>?_⟩
 have hc':c∈(97+i % 26)::r:=hc
 rcases HL.mp hc' with e|e
 ·omega
 ·exact hs c e
def Cl.len{z:Str}(h:Cl z):z.length<=6:=by have q:=h.le;rw[Lb]at q;exact q
def Cl.line{z:Str}(h:Cl z):z.length<=sizeLine:=HX h.len (by decide)
def jR(r:List Nat)(i:Nat):Ar (cand r i).cps.toList 0=some (97+i % 26):=cz (j:=0) rfl
def eW(r:List Nat)(i:Nat):Txt.slice (cand r i) (some 1) none=⟨r.toArray⟩:=by
 have e:Txt.slice (cand r i) (some 1) none=StrLaws.sliceText (cand r i) (some 1) none:=rfl
 rw[e,StrLaws.sliceText_from ⟨by decide,by simp[cand];omega⟩]
 simp[cand]
def jS(r:List Nat)(i:Nat):(kq (97+(i+1) % 26):Str)++(⟨r.toArray⟩:Str)=cand r (i+1):=by
 refine Str.ext' ?_
 show #[97+(i+1) % 26]++r.toArray=_
 simp[cand]
def kr(i:Nat):Ar abc.cps.toList ((i % 26:Nat):Int)=some (97+i % 26):=cz (u9 _ (Nat.mod_lt _ (by decide)))
def iR(cs:List Nat):Txt.join "" (cs.map kq)=⟨cs.toArray⟩:=by
 have q:=join_nil_signs ⟨cs.toArray⟩
 have e:Txt.join "" (cs.map kq)=Str.join ⟨#[]⟩ (cs.map kq):=StrLaws.glued_eq_join _ _
 rw[e]
 exact q
def si(cs:List Nat):((cs.map kq).map (·.length)).sum=cs.length:=by
 induction cs with
 |nil=>rfl
 |cons c r ih=>rw[Ig,Ig,List.sum_cons,ih,HW];show 1+r.length=_;omega
def sj{cs:List Nat}{a i:Nat}(h:cs.length<=5)(hs:∀c∈cs,97<=c/\c<=122)(ha:a<=cs.length)(hi:i < 26) :
  Cl (Txt.slice ⟨cs.toArray⟩ none (some (a:Int))++(kq (97+i):Str)++Txt.slice ⟨cs.toArray⟩ (some (a:Int)) none)/\(Txt.slice ⟨cs.toArray⟩ none (some (a:Int))).length<=5/\(Txt.slice ⟨cs.toArray⟩ (some (a:Int)) none).length<=5:=by
 have e1:Txt.slice ⟨cs.toArray⟩ none (some (a:Int))=⟨(cs.take a).toArray⟩:=by
  have e:Txt.slice ⟨cs.toArray⟩ none (some (a:Int))=StrLaws.sliceText ⟨cs.toArray⟩ none (some (a:Int)):=rfl
  rw[e,StrLaws.sliceText_to ⟨by omega,by simp;omega⟩]
  simp
 have e2:Txt.slice ⟨cs.toArray⟩ (some (a:Int)) none=⟨(cs.drop a).toArray⟩:=by
  have e:Txt.slice ⟨cs.toArray⟩ (some (a:Int)) none=StrLaws.sliceText ⟨cs.toArray⟩ (some (a:Int)) none:=rfl
  rw[e,StrLaws.sliceText_from ⟨by omega,by simp;omega⟩]
  refine Str.ext' ?_
  show((cs.drop (a:Int).toNat).take ((cs.length:Int) - a).toNat).toArray=(cs.drop a).toArray
  rw[J4,JU (by rw[IF];omega)]
 rw[e1,e2]
 have e3:((⟨(cs.take a).toArray⟩:Str)++(kq (97+i):Str)++(⟨(cs.drop a).toArray⟩:Str)).cps.toList=cs.take a++[97+i]++cs.drop a:=by
  show((cs.take a).toArray++#[97+i]++(cs.drop a).toArray).toList=_
  simp
 refine⟨⟨by rw[e3];simp,by rw[e3];simp;omega,fun c hc=>?_⟩,?_,?_⟩
 ·rw[e3]at hc
  rcases HN.mp hc with hc|hc
  ·rcases HN.mp hc with hc|hc
   ·exact hs c (IS hc)
   ·rw[HM.mp hc];omega
  ·exact hs c (J9 hc)
 ·show(cs.take a).toArray.size<=5
  rw[HH,IV];omega
 ·show(cs.drop a).toArray.size<=5
  rw[HH,IF];omega
end Wd
namespace M3
noncomputable def kw(t b:Int):Int:=(if b < 0 then -t else t) / (Int.gcd t b:Int)
noncomputable def k9(t b:Int):Int:=(if b < 0 then -b else b) / (Int.gcd t b:Int)
def fW{t b:Int}(h:b≠0):0 < Int.gcd t b:=Nat.gcd_pos_of_pos_right _ (by omega)
def u_{t b:Int}(h:b≠0):(Int.gcd t b:Int)<=b.natAbs:=by
 have q:Nat.gcd t.natAbs b.natAbs<=b.natAbs:=Nat.gcd_le_right _ (by omega)
 have e:Int.gcd t b=Nat.gcd t.natAbs b.natAbs:=rfl
 omega
def pV(t b:Int):Int.gcd (-t) (-b)=Int.gcd t b:=by rw[Int.gcd_neg,Int.neg_gcd]
def parts(t b:Int):∃x y:Int,t=(Int.gcd t b:Int) * x/\b=(Int.gcd t b:Int) * y:=by
 obtain⟨x,hx⟩:=Int.gcd_dvd_left t b
 obtain⟨y,hy⟩:=Int.gcd_dvd_right t b
 exact⟨x,y,hx,hy⟩
def va{t b x y g:Int}(hg:g=(Int.gcd t b:Int))(h:b≠0)(ht:t=g * x)(hb:b=g * y):kw t b=(if y < 0 then -x else x)/\k9 t b=(if y < 0 then -y else y):=by
 have gp:0 < g:=by rw[hg];exact K9.mpr (fW h)
 have hy:b < 0↔y < 0:=by
  rw[hb]
  constructor
  ·intro q
   by_cases z:y < 0
   ·exact z
   ·have:=Int.mul_nonneg (Ld gp) (Int.not_lt.mp z)
    omega
  ·intro q
   exact Int.mul_neg_of_pos_of_neg gp q
 unfold kw k9
 rw[<-hg]
 by_cases z:y < 0
 ·rw[if_pos (hy.mpr z),if_pos (hy.mpr z),if_pos z,if_pos z]
  constructor
  ·rw[ht,<-Int.mul_neg,JN _ (by omega)]
  ·rw[hb,<-Int.mul_neg,JN _ (by omega)]
 ·rw[if_neg (fun q=>z (hy.mp q)),if_neg (fun q=>z (hy.mp q)),if_neg z,if_neg z]
  constructor
  ·rw[ht,JN _ (by omega)]
  ·rw[hb,JN _ (by omega)]
def sk{t b x y:Int}(h:b≠0)(ht:t=(Int.gcd t b:Int) * x)(hb:b=(Int.gcd t b:Int) * y):Int.gcd x y=1:=by
 have gp:=fW (t:=t) h
 have q:Int.gcd ((Int.gcd t b:Int) * x) ((Int.gcd t b:Int) * y)=(Int.gcd t b:Int).natAbs * Int.gcd x y:=Int.gcd_mul_left _ _ _
 rw[<-ht,<-hb,Int.natAbs_natCast]at q
 have q2:Int.gcd t b * 1=Int.gcd t b * Int.gcd x y:=by omega
 exact(Nat.eq_of_mul_eq_mul_left gp q2).symm
structure zd (a b:Int):Prop where
 pos:0 < b
 one:Int.gcd a b=1
def mX{t b:Int}(h:b≠0):zd (kw t b) (k9 t b):=by
 obtain⟨x,y,ht,hb⟩:=parts t b
 have c:=sk h ht hb
 obtain⟨e1,e2⟩:=va rfl h ht hb
 have y0:y≠0:=fun z=>h (by rw[hb,z,Int.mul_zero])
 rw[e1,e2]
 by_cases z:y < 0
 ·rw[if_pos z,if_pos z]
  exact⟨by omega,by rw[pV];exact c⟩
 ·rw[if_neg z,if_neg z]
  exact⟨by omega,c⟩
def pW{t b:Int}(h:b≠0):t.fdiv (if b < 0 then -(Int.gcd t b:Int) else (Int.gcd t b:Int))=kw t b/\b.fdiv (if b < 0 then -(Int.gcd t b:Int) else (Int.gcd t b:Int))=k9 t b:=by
 have gp:(0:Int) < (Int.gcd t b:Int):=K9.mpr (fW h)
 have d1:=Int.gcd_dvd_left t b
 have d2:=Int.gcd_dvd_right t b
 unfold kw k9
 by_cases z:b < 0
 ·rw[if_pos z,if_pos z,if_pos z,Int.fdiv_neg (by omega),if_pos d1,Int.fdiv_neg (by omega),if_pos d2,JP d1,JP d2,Int.neg_ediv_of_dvd d1,Int.neg_ediv_of_dvd d2]
  exact⟨rfl,rfl⟩
 ·rw[if_neg z,if_neg z,if_neg z,JP d1,JP d2]
  exact⟨rfl,rfl⟩
def pX(x y:Int):Int.gcd y (x.fmod y)=Int.gcd x y:=by
 have q:=Int.mul_fdiv_add_fmod x y
 have e:Int.gcd y (x.fmod y+x.fdiv y * y)=Int.gcd y (x.fmod y):=Int.gcd_add_mul_right_right _ _ _
 rw[<-e,Int.mul_comm (x.fdiv y) y,Int.add_comm,q,Int.gcd_comm]
def pY{t b T B:Int}(h:b≠0)(h1:-T<=t)(h2:t<=T)(h3:-B<=b)(h4:b<=B)(hT:0<=T)(hB:0<=B):-T<=kw t b/\kw t b<=T/\0 < k9 t b/\k9 t b<=B:=by
 have gp:(0:Int) < (Int.gcd t b:Int):=K9.mpr (fW h)
 have L:=(mX (t:=t) h).pos
 have key:∀z M:Int,0<=M->-M<=z->z<=M->-M<=z / (Int.gcd t b:Int)/\z / (Int.gcd t b:Int)<=M:=fun z M hM z1 z2=>by
  generalize (Int.gcd t b:Int)=g at gp
  have m2:M * 1<=M * g:=Int.mul_le_mul_of_nonneg_left (by omega) hM
  have m3:-M * g = -(M * g):=Int.neg_mul M g
  exact⟨Int.le_ediv_of_mul_le gp (by omega),Int.ediv_le_of_le_mul gp (by omega)⟩
 have k1:=key (if b < 0 then -t else t) T hT (by split<;>omega) (by split<;>omega)
 have k2:=key (if b < 0 then -b else b) B hB (by split<;>omega) (by split<;>omega)
 exact⟨k1.1,k1.2,L,k2.2⟩
end M3
namespace Xc
open PySem PySem.W PySem.Calls PyProof.Rows Builtin Builtin.ObjectAttr
structure yG (h:Heap) (e:Addr) (oe:Obj) (vs:Vw):Prop where
 at_:h.get? e=some oe
 dat:oe.data = .fields vs
 tb:vs[1]?=some .none\/∃T oT ts,vs[1]?=some (.ref T)/\T≠e/\h.get? T=some oT/\oT.data = .fields ts/\ts[3]?=some .none
end Xc
namespace L2
open PySem PySem.Spec PyProof.Rows Xc
def zr(X:Cx)(pins:Va)(H:Hp)(h:Heap)(a C dx:Addr):Prop:=
 ∃oe vs,yG h a oe vs/\oe.cls = .ref C/\oe.dict=some dx/\dr X pins H a/\∀T,vs[1]?=some (.ref T)->dr X pins H T
def XD(dx:Addr)(fs:List (Str×V))(h:Heap):Prop:=∃mA,h.Ns1 dx mA/\(∀f,RelO (fs.lookup f) (mA f))/\PySem.Within mA (fs.map (·.1))
end L2
namespace L3
open PySem L2
inductive PV where
 |non|bl (b:Bool)|int (i:Int)|str (x:Str)|tup (xs:List PV)|cl (xs:List PV)|ref (a:Addr)|ty (n:String)|exc (c:Str) (ks:Vs) (ps:List PV)|cls (c:Str)
def Eo(K:Vo)(H:Hp)(a:Addr)(xs:List V):Prop:=
 (∃o,H a=some (.frz o (.lst xs))) \/
  ∃(o:Obj) (its:Vw) (n:Nat),K.lookup a=some o/\o.cls = .type "list"/\o.dict=none/\o.data = .seq its n/\its.size<=sizeLine/\Vals xs its.toList
def Eo.sq{K:Vo}{H:Hp}{a:Addr}{xs:List V}(h:Eo K H a xs):SqL K H a xs:=h.elim (fun z=>.inl (.inr z)) .inr
def EW(H:Hp)(a C:Addr)(ks:Vs)(vs:List V):Prop:=
 ∃oe dx od,H a=some (.frz oe (.ext fun _=>True))/\oe.cls = .ref C/\oe.dict=some dx/\(∀c,oe.data ≠ .cls c)/\H dx=some (.frz od (.ext (XD dx (ks.zip vs))))
def sn(K:Vo)(c:Str)(C:Addr):Prop:=PySem.W.nsIn K mainGlobals c=some (some (.ref C))
mutual
inductive Rep (K:Vo) (H:Hp):V->PV->Prop
 |non:Rep K H .non .non
 |bl (b:Bool):Rep K H (.bl b) (.bl b)
 |int (i:Int):Rep K H (.int i) (.int i)
 |str (x:Str):Rep K H (.str x) (.str x)
 |ty (n:String):Rep K H (.ty n) (.ty n)
 |ref (a:Addr):Rep K H (.ref a) (.ref a)
 |tup {a:Addr} {vs:List V} {ps:List PV}:SqT K H a vs->Reps K H vs ps->Rep K H (.ref a) (.tup ps)
 |cl {a:Addr} {vs:List V} {ps:List PV}:Eo K H a vs->Reps K H vs ps->Rep K H (.ref a) (.cl ps)
 |exc {a C:Addr} {c:Str} {ks:Vs} {vs:List V} {ps:List PV}:sn K c C->EW H a C ks vs->Reps K H vs ps->Rep K H (.ref a) (.exc c ks ps)
 |cls {C:Addr} {c:Str}:sn K c C->Rep K H (.ref C) (.cls c)
inductive Reps (K:Vo) (H:Hp):List V->List PV->Prop
 |nil:Reps K H [] []
 |cons {v:V} {p:PV} {vs:List V} {ps:List PV}:Rep K H v p->Reps K H vs ps->Reps K H (v::vs) (p::ps)
end
structure Grow (K:Vo) (H H':Hp):Prop where
 t:∀a vs,SqT K H a vs->SqT K H' a vs
 c:∀a vs,Eo K H a vs->Eo K H' a vs
 x:∀a o u,H a=some (.frz o u)->H' a=some (.frz o u)
def Grow.refl{K:Vo}{H:Hp}:Grow K H H:=⟨fun _ _ h=>h,fun _ _ h=>h,fun _ _ _ h=>h⟩
def Grow.trans{K:Vo}{H H1 H2:Hp}(a:Grow K H H1)(b:Grow K H1 H2):Grow K H H2:=⟨fun x vs h=>b.t x vs (a.t x vs h),fun x vs h=>b.c x vs (a.c x vs h),fun x o u h=>b.x x o u (a.x x o u h)⟩
def EW.mono{K:Vo}{H H':Hp}(g:Grow K H H'){a C:Addr}{ks:Vs}{vs:List V}(h:EW H a C ks vs):EW H' a C ks vs:=let ⟨oe,dx,od,h1,h2,h3,h4,h5⟩:=h;⟨oe,dx,od,g.x _ _ _ h1,h2,h3,h4,g.x _ _ _ h5⟩
def Grow.of{K:Vo}{H H':Hp}(h:∀a xs,H a=some (.tup xs)->H' a=some (.tup xs))(h2:∀a o u,H a=some (.frz o u)->H' a=some (.frz o u)):Grow K H H':=by
 refine⟨fun a vs q=>?_,fun a vs q=>?_,h2⟩
 ·rcases q with(q|⟨o,q⟩)|q
  ·exact .inl (.inl (h a vs q))
  ·exact .inl (.inr ⟨o,h2 a o _ q⟩)
  ·exact .inr q
 ·rcases q with⟨o,q⟩|q
  ·exact .inl ⟨o,h2 a o _ q⟩
  ·exact .inr q
def Grow.same{K:Vo}{H H':Hp}(h:∀c o,H c=some o->H' c=some o):Grow K H H':=.of (fun a _ q=>h a _ q) (fun a _ _ q=>h a _ q)
def Grow.new{K:Vo}{H:Hp}{p:Addr}{o:HO}(h:H p=none):Grow K H (upd H p o):=.same fun c u q=>by rw[av (aO q h)];exact q
noncomputable def Mu:HO->Prop
 | .tup _=>False
 | .frz _ _=>False
 |_=>True
def Grow.mut{K:Vo}{H:Hp}{p:Addr}{o u:HO}(h:H p=some u)(m:Mu u):Grow K H (upd H p o):=
 .of (fun a xs q=>by rw[av (fun e=>by subst e;rw[h]at q;cases q;exact m)];exact q) (fun a _ _ q=>by rw[av (fun e=>by subst e;rw[h]at q;cases q;exact m)];exact q)
mutual
theorem Rep.mono{K:Vo}{H H':Hp}(g:Grow K H H'):∀{v:V} {p:PV},Rep K H v p->Rep K H' v p
 |_,_,.non=>.non
 |_,_,.bl b=>.bl b
 |_,_,.int i=>.int i
 |_,_,.str x=>.str x
 |_,_,.ty n=>.ty n
 |_,_,.ref a=>.ref a
 |_,_,.tup h r=>.tup (g.t _ _ h) (Reps.mono g r)
 |_,_,.cl h r=>.cl (g.c _ _ h) (Reps.mono g r)
 |_,_,.exc n h r=>.exc n (h.mono g) (Reps.mono g r)
 |_,_,.cls n=>.cls n
theorem Reps.mono{K:Vo}{H H':Hp}(g:Grow K H H'):∀{vs:List V} {ps:List PV},Reps K H vs ps->Reps K H' vs ps
 |_,_,.nil=>.nil
 |_,_,.cons a r=>.cons (Rep.mono g a) (Reps.mono g r)
end
theorem Reps.length{K:Vo}{H:Hp}:∀{vs:List V} {ps:List PV},Reps K H vs ps->vs.length=ps.length
 |_,_,.nil=>rfl
 |_,_,.cons _ r=>by rw[HW,HW,Reps.length r]
theorem Reps.append{K:Vo}{H:Hp}:∀{vs us:List V} {ps qs:List PV},Reps K H vs ps->Reps K H us qs->Reps K H (vs++us) (ps++qs)
 |_,_,_,_,.nil,s=>s
 |_,_,_,_,.cons a r,s=>.cons a (Reps.append r s)
theorem Reps.get{K:Vo}{H:Hp}:∀{vs:List V} {ps:List PV} {i:Nat} {p:PV},Reps K H vs ps->ps[i]?=some p->∃v,vs[i]?=some v/\Rep K H v p
 |_,_,_,_,.nil,e=>by simp at e
 |_,_,0,_,.cons a r,e=>by simp at e;subst e;exact⟨_,rfl,a⟩
 |_,_,i+1,p,.cons a r,e=>by
  obtain⟨v,h1,h2⟩:=Reps.get (i:=i) (p:=p) r (by simpa using e)
  exact⟨v,by simpa using h1,h2⟩
theorem Reps.take{K:Vo}{H:Hp}:∀{vs:List V} {ps:List PV} (n:Nat),Reps K H vs ps->Reps K H (vs.take n) (ps.take n)
 |_,_,0,_=>.nil
 |_,_,_+1,.nil=>.nil
 |_,_,n+1,.cons a r=>.cons a (Reps.take n r)
theorem Reps.drop{K:Vo}{H:Hp}:∀{vs:List V} {ps:List PV} (n:Nat),Reps K H vs ps->Reps K H (vs.drop n) (ps.drop n)
 |_,_,0,r=>r
 |_,_,_+1,.nil=>.nil
 |_,_,n+1,.cons _ r=>Reps.drop n r
theorem Reps.set{K:Vo}{H:Hp}{v:V}{p:PV}(q:Rep K H v p):∀{vs:List V} {ps:List PV} (n:Nat),Reps K H vs ps->Reps K H (vs.set n v) (ps.set n p)
 |_,_,_,.nil=>.nil
 |_,_,0,.cons _ r=>.cons q r
 |_,_,n+1,.cons a r=>.cons a (Reps.set q n r)
theorem Reps.eraseIdx{K:Vo}{H:Hp}:∀{vs:List V} {ps:List PV} (n:Nat),Reps K H vs ps->Reps K H (vs.eraseIdx n) (ps.eraseIdx n)
 |_,_,_,.nil=>.nil
 |_,_,0,.cons _ r=>r
 |_,_,n+1,.cons a r=>.cons a (Reps.eraseIdx n r)
theorem Reps.reverse{K:Vo}{H:Hp}:∀{vs:List V} {ps:List PV},Reps K H vs ps->Reps K H vs.reverse ps.reverse
 |_,_,.nil=>.nil
 |_,_,.cons a r=>by rw[KL,KL];exact(Reps.reverse r).append (.cons a .nil)
theorem Reps.dropLast{K:Vo}{H:Hp}{vs:List V}{ps:List PV}(r:Reps K H vs ps):Reps K H vs.dropLast ps.dropLast:=by
 rw[List.dropLast_eq_take,List.dropLast_eq_take,r.length]
 exact r.take _
inductive SO where
 |lst (xs:List PV)
 |dct (kvs:List (a_×PV))
 |ins (c:Str) (fs:List (Str×PV))
abbrev aq:=Addr->Option SO
noncomputable def zL(S:aq)(a:Addr)(o:SO):aq:=fun b=>if b=a then some o else S b
def aa{S:aq}{a:Addr}{o:SO}:zL S a o a=some o:=by unfold zL;rw[if_pos rfl]
def aj{S:aq}{a b:Addr}{o:SO}(h:b≠a):zL S a o b=S b:=by unfold zL;rw[if_neg h]
inductive zZ (K:Vo) (H:Hp) {κ:Type}:List (κ×V)->List (κ×PV)->Prop
 |nil:zZ K H [] []
 |cons {k:κ} {v:V} {p:PV} {vs:List (κ×V)} {ps:List (κ×PV)}:Rep K H v p->zZ K H vs ps->zZ K H ((k,v)::vs) ((k,p)::ps)
theorem zZ.mono{K:Vo}{H H':Hp}(g:Grow K H H'){κ:Type}:∀{vs:List (κ×V)} {ps:List (κ×PV)},zZ K H vs ps->zZ K H' vs ps
 |_,_,.nil=>.nil
 |_,_,.cons a r=>.cons (a.mono g) (zZ.mono g r)
theorem zZ.length{K:Vo}{H:Hp}{κ:Type}:∀{vs:List (κ×V)} {ps:List (κ×PV)},zZ K H vs ps->vs.length=ps.length
 |_,_,.nil=>rfl
 |_,_,.cons _ r=>by rw[HW,HW,zZ.length r]
noncomputable def Cq(K:Vo)(H:Hp)(a:Addr):SO->Prop
 | .lst xs=>∃vs,H a=some (.lst vs)/\Reps K H vs xs
 | .dct kvs=>∃kv,H a=some (.dK kv)/\zZ K H kv kvs
 | .ins c fs=>∃C dx f',sn K c C/\H a=some (.ins C dx f')/\zZ K H f' fs
theorem Cq.stay{K:Vo}{H H':Hp}(g:Grow K H H'){a:Addr}(e:H' a=H a):∀{o:SO},Cq K H a o->Cq K H' a o
 | .lst _,⟨vs,h,r⟩=>⟨vs,e.trans h,r.mono g⟩
 | .dct _,⟨vs,h,r⟩=>⟨vs,e.trans h,r.mono g⟩
 | .ins _ _,⟨C,dx,vs,n,h,r⟩=>⟨C,dx,vs,n,e.trans h,r.mono g⟩
theorem Cq.some{K:Vo}{H:Hp}{a:Addr}:∀{o:SO},Cq K H a o->∃u,H a=Option.some u/\Mu u
 | .lst _,⟨_,h,_⟩=>⟨_,h,trivial⟩
 | .dct _,⟨_,h,_⟩=>⟨_,h,trivial⟩
 | .ins _ _,⟨_,_,_,_,h,_⟩=>⟨_,h,trivial⟩
def zQ(K:Vo)(H:Hp)(S:aq):Prop:=∀a o,S a=some o->Cq K H a o
def zQ.free{K:Vo}{H:Hp}{S:aq}(r:zQ K H S){p:Addr}(h:H p=none):S p=none:=by
 cases e:S p with
 |none=>rfl
 |some o=>
  obtain⟨u,q,_⟩:=(r p o e).some
  rw[h]at q;cases q
def zQ.grow{K:Vo}{H H':Hp}{S:aq}(r:zQ K H S)(h:∀c o,H c=some o->H' c=some o):zQ K H' S:=fun a o e=>by
 obtain⟨u,q,_⟩:=(r a o e).some
 exact(r a o e).stay (.same h) ((h a u q).trans q.symm)
def zQ.other{K:Vo}{H:Hp}{S:aq}(r:zQ K H S){p:Addr}{o:HO}(h:H p=none):zQ K (upd H p o) S:=r.grow fun c u q=>by rw[av (aO q h)];exact q
theorem zQ.new{K:Vo}{H:Hp}{S:aq}(r:zQ K H S){p:Addr}{u:HO}{o:SO}(h:H p=none)(q:Cq K (upd H p u) p o):zQ K (upd H p u) (zL S p o):=fun a x e=>by
 by_cases z:a=p
 ·subst z;rw[aa]at e;cases e;exact q
 ·rw[aj z]at e;exact(r a x e).stay (.new h) (av z)
def zQ.put{K:Vo}{H:Hp}{S:aq}(r:zQ K H S){p:Addr}{u0 u:HO}{o:SO}(h:H p=some u0)(m:Mu u0)(q:Cq K (upd H p u) p o):zQ K (upd H p u) (zL S p o):=fun a x e=>by
 by_cases z:a=p
 ·subst z;rw[aa]at e;cases e;exact q
 ·rw[aj z]at e;exact(r a x e).stay (.mut h m) (av z)
abbrev bY:=List (Option PV)
noncomputable def lk:bY->Nat->Option PV
 |[],_=>none
 |x::_,0=>x
 |_::r,i+1=>lk r i
def pZ{σ:bY}{i:Nat}{p:PV}(h:lk σ i=some p):σ[i]?=some (some p):=by
 induction σ generalizing i with
 |nil=>cases h
 |cons x r ih=>
  cases i with
  |zero=>exact IP some h
  |succ i=>exact ih h
structure zR (K:Vo) (H:Hp) (σ:St) (σ3:bY):Prop where
 len:σ.length=σ3.length
 at':∀(i:Nat) (p:PV),σ3[i]?=some (some p)->∃v,σ[i]?=some (some v)/\Rep K H v p
theorem zR.mono{K:Vo}{H H':Hp}{σ:St}{σ3:bY}(r:zR K H σ σ3)(g:Grow K H H'):zR K H' σ σ3:=⟨r.len,fun i p e=>let ⟨v,h,q⟩:=r.at' i p e;⟨v,h,q.mono g⟩⟩
theorem zR.set{K:Vo}{H:Hp}{σ:St}{σ3:bY}(r:zR K H σ σ3){v:V}{p:PV}(q:Rep K H v p)(i:Nat):zR K H (σ.set i (some v)) (σ3.set i (some p)):=by
 refine⟨by rw[List.length_set,List.length_set,r.len],fun j x e=>?_⟩
 rw[List.getElem?_set]at e ⊢
 split at e
 ·rename_i hij
  rw[if_pos hij]
  subst hij
  split at e
  ·rename_i hl
   cases e
   rw[if_pos (by rw[r.len];exact hl)]
   exact⟨v,rfl,q⟩
  ·cases e
 ·rename_i hij
  rw[if_neg hij]
  exact r.at' j x e
abbrev bQ:=PV->aq->Prop
abbrev cU:=PV->bY->aq->Prop
abbrev aQ:=bY->aq->bQ->cU->Prop
abbrev iu:=bY->aq->(Bool->aq->Prop)->cU->Prop
abbrev zt:=bY->aq->(List PV->aq->Prop)->cU->Prop
structure k_ where
 nx:bY->aq->Prop
 rt:bQ
 ex:cU
 bk:bY->aq->Prop:=fun _ _=>False
 ct:bY->aq->Prop:=fun _ _=>False
abbrev bH:=k_->bY->aq->Prop
def C4(X:Cx)(H:Hp)(E:cU):Prop:=∀(c:Str) (ks:Vs) (ps:List PV) (σ3:bY) (S':aq) (H':Hp) (pins:Va) (σ:St) (s':Shared) (a C dx:Addr) (od:Obj) (vs:List V),E (.exc c ks ps) σ3 S'->sn X.K c C->vs.length=ks.length->
 H' dx=some (.frz od (.ext (XD dx (ks.zip vs))))->Reps X.K H' vs ps->zQ X.K H' S'->zR X.K H' σ σ3->Grow X.K H H'->Inv X pins σ H' s'->zr X pins H' s'.heap a C dx->X.xe (.ref a) s'
def C4.mono{X:Cx}{H H':Hp}{E:cU}(x:C4 X H E)(g:Grow X.K H H'):C4 X H' E:=fun c ks ps σ3 S' H2 pins σ s' a C dx od vs h1 h2 h3 h4 h5 h6 h7 h8 h9 G0=>x c ks ps σ3 S' H2 pins σ s' a C dx od vs h1 h2 h3 h4 h5 h6 h7 (g.trans h8) h9 G0
def C5(K:Vo)(H:Hp)(Q3:bQ)(Q:VK):Prop:=∀p S' v H',Q3 p S'->Rep K H' v p->zQ K H' S'->Grow K H H'->Q v H'
def C5.mono{K:Vo}{H H':Hp}{Q3:bQ}{Q:VK}(r:C5 K H Q3 Q)(g:Grow K H H'):C5 K H' Q3 Q:=fun p S' v H2 h1 h2 h3 h4=>r p S' v H2 h1 h2 h3 (g.trans h4)
def Ep(K:Vo)(H:Hp)(N3:bY->aq->Prop)(N:St->Hp->Prop):Prop:=∀σ3 S' σ H',N3 σ3 S'->zR K H' σ σ3->zQ K H' S'->Grow K H H'->N σ H'
def Ep.mono{K:Vo}{H H':Hp}{Q3:bY->aq->Prop}{Q:St->Hp->Prop}(r:Ep K H Q3 Q)(g:Grow K H H'):Ep K H' Q3 Q:=fun p S' v H2 h1 h2 h3 h4=>r p S' v H2 h1 h2 h3 (g.trans h4)
inductive LE (X:Cx) (t:aQ) (σ:L2.St) (H:Hp) (Q:VK):Prop
 |mk (σ3 S Q3 E3) (rσ:zR X.K H σ σ3) (rS:zQ X.K H S) (h:t σ3 S Q3 E3) (xo:C4 X H E3) (k:C5 X.K H Q3 Q):LE X t σ H Q
inductive LT (X:Cx) (t:iu) (σ:L2.St) (H:Hp) (Q:Bool->Hp->Prop):Prop
 |mk (σ3 S Q3 E3) (rσ:zR X.K H σ σ3) (rS:zQ X.K H S) (h:t σ3 S Q3 E3) (xo:C4 X H E3) (k:∀b S' H',Q3 b S'->zQ X.K H' S'->Grow X.K H H'->Q b H'):LT X t σ H Q
inductive LS (X:Cx) (t:bH) (D:lR) (σ:L2.St) (H:Hp):Prop
 |mk (σ3 S D3) (rσ:zR X.K H σ σ3) (rS:zQ X.K H S) (h:t D3 σ3 S) (xo:C4 X H D3.ex) (nx:Ep X.K H D3.nx D.nx) (rt:C5 X.K H D3.rt D.rt) (bk:Ep X.K H D3.bk D.bk) (ct:Ep X.K H D3.ct D.ct):LS X t D σ H
structure aZ (X:Cx) (e:Expr) (t:aQ):Prop where
 ok:PE X e (LE X t)
structure l9 (X:Cx) (e:Expr) (t:iu):Prop where
 ok:PT X e (LT X t)
structure vb (X:Cx) (e:Expr) (t:iu):Prop where
 ok:PW X e (LT X t)
structure l_ (X:Cx) (st:Stmt) (t:bH):Prop where
 ok:PS X st (LS X t)
structure gJ (X:Cx) (st:List Stmt) (t:bH):Prop where
 ok:Co X st (LS X t)
def aK{X:Cx}{e:Expr}{t t':TE}(h:PE X e t)(k:∀σ H Q,t' σ H Q->t σ H Q):PE X e t':=fun pins s σ H Q I q=>h pins s σ H Q I (k σ H Q q)
def ma{X:Cx}{e:Expr}{t t':TT}(h:PT X e t)(k:∀σ H Q,t' σ H Q->t σ H Q):PT X e t':=fun pins s σ H Q I q=>h pins s σ H Q I (k σ H Q q)
def p5{X:Cx}{e:Expr}{t t':TT}(h:PW X e t)(k:∀σ H Q,t' σ H Q->t σ H Q):PW X e t':=fun wh pins s σ H Q I q=>h wh pins s σ H Q I (k σ H Q q)
def cJ{X:Cx}{e:Stmt}{t t':TS}(h:PS X e t)(k:∀D σ H,t' D σ H->t D σ H):PS X e t':=fun pins s σ H D I q=>h pins s σ H D I (k D σ H q)
def mY{X:Cx}{e:List Stmt}{t t':TS}(h:Co X e t)(k:∀D σ H,t' D σ H->t D σ H):Co X e t':=fun pins s σ H D I q=>h pins s σ H D I (k D σ H q)
section
variable {X:Cx} {a b c e o:Expr} {es:List Expr} {ta tb tc te:aQ} {pos:Pos}
def v3(i:Nat):aQ:=fun σ S Q _=>match lk σ i with|some p=>Q p S|none=>False
def ae(i:Nat){x:Str}(hN:X.N[i]?=some x:=by rfl)(hv:xK X.env.scope x:=by first|exact Or.inl rfl|exact Or.inr (Or.inl rfl)|exact Or.inr (Or.inr rfl))(hd:(x == ("__debug__":Str))=false:=by decide)
  (hcd:(x == ("__classdict__":Str))=false:=by decide):aZ X (.Name x pos) (v3 i):=
 ⟨aK (t_ hN hv hd hcd) fun σ H Q ⟨σ3,S,Q3,E3,rσ,rS,h,xo,k⟩=>by
  unfold v3 at h
  split at h
  ·rename_i p e
   obtain⟨v,ev,rv⟩:=rσ.at' i p (pZ e)
   exact⟨v,ev,k p S v H h rv rS .refl⟩
  ·exact h.elim⟩
def c3(p:PV):aQ:=fun _ S Q _=>Q p S
def ad{i:Int}{j:Nat}:aZ X (.Constant (.int i) j pos) (c3 (.int i)):=⟨aK ua fun σ H Q ⟨σ3,S,Q3,E3,rσ,rS,h,xo,k⟩=>k _ S _ H h (.int i) rS .refl⟩
def vc{i:Bool}{j:Nat}:aZ X (.Constant (.bool i) j pos) (c3 (.bl i)):=⟨aK v_ fun σ H Q ⟨σ3,S,Q3,E3,rσ,rS,h,xo,k⟩=>k _ S _ H h (.bl i) rS .refl⟩
def am{i:Str}{j:Nat}:aZ X (.Constant (.str i) j pos) (c3 (.str i)):=⟨aK uc fun σ H Q ⟨σ3,S,Q3,E3,rσ,rS,h,xo,k⟩=>k _ S _ H h (.str i) rS .refl⟩
def p7{j:Nat}:aZ X (.Constant .none j pos) (c3 .non):=⟨aK ub fun σ H Q ⟨σ3,S,Q3,E3,rσ,rS,h,xo,k⟩=>k _ S _ H h .non rS .refl⟩
def yH{x:Str}{n:String}(hg:Gl X x)(hm:X.mg x=none)(hv:bootBuiltins x=some (.type n))(hn:x ≠ "__name__":=by decide)(hd:(x == ("__debug__":Str))=false:=by decide):aZ X (.Name x pos) (c3 (.ty n)):=
 ⟨aK (rj (v:=.ty n) hg hm hv rfl hn hd) fun σ H Q ⟨σ3,S,Q3,E3,rσ,rS,h,xo,k⟩=>k _ S _ H h (.ty n) rS .refl⟩
noncomputable def ao:List aQ->zt
 |[],_,S,Q,_=>Q [] S
 |t::ts,σ,S,Q,E=>t σ S (fun x S1=>ao ts σ S1 (fun xs S2=>Q (x::xs) S2) E) E
noncomputable def xR:List TE->TA
 |[]=>wC
 |t::ts=>tJ t (xR ts)
structure iw (X:Cx) (es:List Expr) (ts:List aQ):Prop where
 ok:PA X es (xR (ts.map (LE X)))
def cw:iw X [] []:=⟨uF⟩
def p8{ts:List aQ}(hs:starEach (e::es) X.env=(false,eval e X.env)::starEach es X.env)(ha:aZ X e te)(hr:iw X es ts):iw X (e::es) (te::ts):=⟨rL ha.ok hr.ok hs⟩
theorem bM:∀{ts:List aQ} {σ:L2.St} {H:Hp} {Q:List V->Hp->Prop} {σ3:bY} {S:aq} {Q3:List PV->aq->Prop} {E3:cU},zR X.K H σ σ3->zQ X.K H S->ao ts σ3 S Q3 E3->C4 X H E3->
  (∀ps S' vs H',ps.length=ts.length->Q3 ps S'->Reps X.K H' vs ps->zQ X.K H' S'->Grow X.K H H'->Q vs H')->xR (ts.map (LE X)) σ H Q
 |[],σ,H,Q,σ3,S,Q3,E3,rσ,rS,h,xo,k=>k [] S [] H rfl h .nil rS .refl
 |t::ts,σ,H,Q,σ3,S,Q3,E3,rσ,rS,h,xo,k=>
  ⟨σ3,S,_,E3,rσ,rS,h,xo,fun p S1 v H1 h1 rv zT g1=>bM (rσ.mono g1) zT h1 (xo.mono g1) fun ps S2 vs H2 hl h2 FB Bb g2=>k (p::ps) S2 (v::vs) H2 (by rw[HW,HW,hl]) h2 (.cons (rv.mono g2) FB) Bb (g1.trans g2)⟩
def ay(ts:List aQ):aQ:=fun σ S Q E=>ao ts σ S (fun xs S1=>Q (.tup xs) S1) E
def aA{ts:List aQ}{x1:Nat}(h:iw X es ts)(hn:ts.length<=1000:=by exact KU rfl):aZ X (.Tuple es x1 pos) (ay ts):=
 ⟨aK (uG h.ok) fun σ H Q ⟨σ3,S,Q3,E3,rσ,rS,hq,xo,k⟩=>bM rσ rS hq xo fun ps S' vs H' hl q rv Bn g=>
  ⟨KC (dv (by rw[rv.length,hl];exact hn)),fun p hp=>k _ S' _ _ q (.tup (SqT.of aw) (rv.mono (.new hp))) (Bn.other hp) (g.trans (.new hp))⟩⟩
def bu(ts:List aQ):aQ:=fun σ S Q E=>ao ts σ S (fun xs S1=>∀p,S1 p=none->Q (.ref p) (zL S1 p (.lst xs))) E
def bo{ts:List aQ}(h:iw X es ts)(hn:ts.length<=1000:=by exact KU rfl):aZ X (.List es pos) (bu ts):=
 ⟨aK (uH h.ok) fun σ H Q ⟨σ3,S,Q3,E3,rσ,rS,hq,xo,k⟩=>bM rσ rS hq xo fun ps S' vs H' hl q rv Bn g=>
  ⟨KC (dv (by rw[rv.length,hl];exact hn)),fun p hp=>k _ _ _ _ (q p (Bn.free hp)) (.ref p) (Bn.new hp ⟨vs,aw,rv.mono (.new hp)⟩) (g.trans (.new hp))⟩⟩
abbrev R3:=PV->PV->aq->bQ->Prop
inductive LR (X:Cx) (r:R3) (x y:V) (H:Hp) (Q:VK):Prop
 |mk (px py S Q3) (rx:Rep X.K H x px) (ry:Rep X.K H y py) (rS:zQ X.K H S) (h:r px py S Q3) (k:C5 X.K H Q3 Q):LR X r x y H Q
structure gK (X:Cx) (f:Value->Value->Sem Value) (r:R3):Prop where
 ok:fS X f (LR X r)
def ah(r:R3)(ta tb:aQ):aQ:=fun σ S Q E=>ta σ S (fun x S1=>tb σ S1 (fun y S2=>r x y S2 Q) E) E
def iD{r:R3}{σ:L2.St}{H:Hp}{Q:VK}:LE X (ah r ta tb) σ H Q->wq (LR X r) (LE X ta) (LE X tb) σ H Q:=fun⟨σ3,S,Q3,E3,rσ,rS,h,xo,k⟩=>
 ⟨σ3,S,_,E3,rσ,rS,h,xo,fun x S1 v H1 h1 rx zT g1=>⟨σ3,S1,_,E3,rσ.mono g1,zT,h1,xo.mono g1,fun y S2 u H2 h2 ry Bb g2=>⟨x,y,S2,Q3,rx.mono g2,ry,Bb,h2,k.mono (g1.trans g2)⟩⟩⟩
def aE{op:Operator}{r:R3}(ho:gK X (binaryOp op) r)(ha:aZ X a ta)(hb:aZ X b tb):aZ X (.BinOp a op b pos) (ah r ta tb):=⟨aK (wt ho.ok ha.ok hb.ok) fun _ _ _=>iD⟩
def iS{op:CmpOp}{r:R3}(ho:gK X (compareOp op) r)(ha:aZ X a ta)(hb:aZ X b tb)(hm:behindInMarks op b=false):aZ X (.Compare a [op] [b] pos) (ah r ta tb):=⟨aK (rJ ho.ok ha.ok hb.ok hm) fun _ _ _=>iD⟩
def aS(t:aQ):iu:=fun σ S Q E=>t σ S (fun v S'=>match v with | .bl k=>Q k S'|_=>False) E
def p_{σ:L2.St}{H:Hp}{Q:Bool->Hp->Prop}:LT X (aS te) σ H Q->LE X te σ H (fun x H'=>∃k,x = .bl k/\Q k H'):=fun⟨σ3,S,Q3,E3,rσ,rS,h,xo,k⟩=>
 ⟨σ3,S,_,E3,rσ,rS,h,xo,fun p S' v H' h1 rv Bn g=>by
  cases p with
  |bl z=>cases rv;exact⟨z,rfl,k z S' H' h1 Bn g⟩
  |_=>exact h1.elim⟩
def bd{op:CmpOp}{r:R3}(ho:gK X (compareOp op) r)(ha:aZ X a ta)(hb:aZ X b tb)(hm:behindInMarks op b=false):l9 X (.Compare a [op] [b] pos) (aS (ah r ta tb)):=
 ⟨ma (rK ho.ok ha.ok hb.ok hm) fun σ H Q ⟨σ3,S,Q3,E3,rσ,rS,h,xo,k⟩=>iD ⟨σ3,S,_,E3,rσ,rS,h,xo,fun p S' v H' h1 rv Bn g=>by
  cases p with
  |bl z=>cases rv;exact⟨z,rfl,k z S' H' h1 Bn g⟩
  |_=>exact h1.elim⟩⟩
def mZ(h:aZ X e te)(he:∀whole,isTrue e X.env whole=(do let v <-whole;standAt e.pos;holding [v] (truthy v)):=by intro _;rfl):l9 X e (aS te):=
 ⟨ma (ud h.ok he) fun σ H Q q=>p_ q⟩
end
section
variable {X:Cx} {a b c:Expr} {rest:List Expr} {ta tb te:aQ} {tA tB:iu} {pos:Pos}
def jB(t u:iu):iu:=fun σ S Q E=>t σ S (fun c S1=>if c=true then u σ S1 Q E else Q false S1) E
def iT(t u:iu):iu:=fun σ S Q E=>t σ S (fun c S1=>if c=true then Q true S1 else u σ S1 Q E) E
def md(t:iu):iu:=fun σ S Q E=>t σ S (fun c S1=>Q (!c) S1) E
def me(ha:l9 X a tA):vb X (.BoolOp .And [a] pos) tA:=⟨rm ha.ok⟩
def fm(ha:l9 X a tA):vb X (.BoolOp .Or [a] pos) tA:=⟨ue ha.ok⟩
def m4(ha:l9 X a tA)(hb:vb X (.BoolOp .And (b::rest) pos) tB):vb X (.BoolOp .And (a::b::rest) pos) (jB tA tB):=
 ⟨p5 (uf ha.ok hb.ok) fun σ H Q ⟨σ3,S,Q3,E3,rσ,rS,h,xo,k⟩=>⟨σ3,S,_,E3,rσ,rS,h,xo,fun c S1 H1 h1 zT g1=>by
  cases c with
  |true=>rw[if_pos rfl]at h1 ⊢;exact⟨σ3,S1,Q3,E3,rσ.mono g1,zT,h1,xo.mono g1,fun b S2 H2 h2 Bb g2=>k b S2 H2 h2 Bb (g1.trans g2)⟩
  |false=>rw[if_neg (by decide)]at h1 ⊢;exact k false S1 H1 h1 zT g1⟩⟩
def iU(ha:l9 X a tA)(hb:vb X (.BoolOp .Or (b::rest) pos) tB):vb X (.BoolOp .Or (a::b::rest) pos) (iT tA tB):=
 ⟨p5 (wa ha.ok hb.ok) fun σ H Q ⟨σ3,S,Q3,E3,rσ,rS,h,xo,k⟩=>⟨σ3,S,_,E3,rσ,rS,h,xo,fun c S1 H1 h1 zT g1=>by
  cases c with
  |true=>rw[if_pos rfl]at h1 ⊢;exact k true S1 H1 h1 zT g1
  |false=>rw[if_neg (by decide)]at h1 ⊢;exact⟨σ3,S1,Q3,E3,rσ.mono g1,zT,h1,xo.mono g1,fun b S2 H2 h2 Bb g2=>k b S2 H2 h2 Bb (g1.trans g2)⟩⟩⟩
def og(h:vb X a tA):l9 X a tA:=⟨h.ok.pt⟩
def tQ(ha:l9 X a tA):l9 X (.UnaryOp .Not a pos) (md tA):=
 ⟨ma (ug ha.ok) fun σ H Q ⟨σ3,S,Q3,E3,rσ,rS,h,xo,k⟩=>⟨σ3,S,_,E3,rσ,rS,h,xo,fun c S1 H1 h1 zT g1=>k (!c) S1 H1 h1 zT g1⟩⟩
def cK(t u:aQ):aQ:=fun σ S Q E=>t σ S (fun v S1=>match v with | .bl c=>if c=true then u σ S1 Q E else Q (.bl false) S1|_=>False) E
def jT(t:aQ):aQ:=fun σ S Q E=>t σ S (fun v S1=>match v with | .bl c=>Q (.bl (!c)) S1|_=>False) E
def m5{op:BoolOp}(h:aZ X a ta):aZ X (.BoolOp op [a] pos) ta:=⟨uh h.ok⟩
def ld(ha:aZ X a ta)(hb:aZ X (.BoolOp .And (b::rest) pos) tb):aZ X (.BoolOp .And (a::b::rest) pos) (cK ta tb):=
 ⟨aK (uk ha.ok hb.ok) fun σ H Q ⟨σ3,S,Q3,E3,rσ,rS,h,xo,k⟩=>⟨σ3,S,_,E3,rσ,rS,h,xo,fun p S1 v H1 h1 rv zT g1=>by
  cases p with
  |bl z=>
   cases rv
   refine⟨z,rfl,?_⟩
   cases z with
   |true=>rw[if_pos rfl];exact⟨σ3,S1,Q3,E3,rσ.mono g1,zT,h1,xo.mono g1,k.mono g1⟩
   |false=>rw[if_neg (by decide)];exact k _ S1 _ H1 h1 (.bl false) zT g1
  |_=>exact h1.elim⟩⟩
def wR(ha:aZ X a ta):aZ X (.UnaryOp .Not a pos) (jT ta):=
 ⟨aK (ul ha.ok) fun σ H Q ⟨σ3,S,Q3,E3,rσ,rS,h,xo,k⟩=>⟨σ3,S,_,E3,rσ,rS,h,xo,fun p S1 v H1 h1 rv zT g1=>by
  cases p with
  |bl z=>cases rv;exact⟨z,rfl,k _ S1 _ H1 h1 (.bl _) zT g1⟩
  |_=>exact h1.elim⟩⟩
def oh(t:iu)(ta tb:aQ):aQ:=fun σ S Q E=>t σ S (fun c S1=>if c=true then ta σ S1 Q E else tb σ S1 Q E) E
def tR(hc:l9 X c tA)(ha:aZ X a ta)(hb:aZ X b tb):aZ X (.IfExp c a b pos) (oh tA ta tb):=
 ⟨aK (oU hc.ok ha.ok hb.ok) fun σ H Q ⟨σ3,S,Q3,E3,rσ,rS,h,xo,k⟩=>⟨σ3,S,_,E3,rσ,rS,h,xo,fun c S1 H1 h1 zT g1=>by
  cases c with
  |true=>rw[if_pos rfl]at h1 ⊢;exact⟨σ3,S1,Q3,E3,rσ.mono g1,zT,h1,xo.mono g1,k.mono g1⟩
  |false=>rw[if_neg (by decide)]at h1 ⊢;exact⟨σ3,S1,Q3,E3,rσ.mono g1,zT,h1,xo.mono g1,k.mono g1⟩⟩⟩
abbrev wS:=PV->aq->bQ->Prop
noncomputable def zu(X:Cx)(r:wS):V->Hp->VK->Prop:=fun x H Q=>∃px S Q3,Rep X.K H x px/\zQ X.K H S/\r px S Q3/\C5 X.K H Q3 Q
structure ze (X:Cx) (f:Value->Sem Value) (r:wS):Prop where
 ok:xN X f (zu X r)
def d9(r:wS)(ta:aQ):aQ:=fun σ S Q E=>ta σ S (fun x S1=>r x S1 Q) E
def er{op:UnaryOp}{r:wS}(ho:ze X (unaryOp op) r)(ha:aZ X a ta):aZ X (.UnaryOp op a pos) (d9 r ta):=
 ⟨aK (wu ho.ok ha.ok) fun σ H Q ⟨σ3,S,Q3,E3,rσ,rS,h,xo,k⟩=>⟨σ3,S,_,E3,rσ,rS,h,xo,fun p S1 v H1 h1 rv zT g1=>⟨p,S1,Q3,rv,zT,h1,k.mono g1⟩⟩⟩
noncomputable def bq:wS:=fun x S Q=>match x with | .int i=>Q (.int (-i)) S|_=>False
def bv:ze X (unaryOp .USub) bq:=⟨fun pins s σ H x v Q I rx ⟨px,S,Q3,r1,rS,h,k⟩=>by
 cases px with
 |int i=>cases r1;exact uE pins s σ H _ v Q I rx ⟨i,rfl,k _ S _ H h (.int _) rS .refl⟩
 |_=>exact h.elim⟩
end
section
variable {X:Cx}
def dH(g:Int->Int->PV):R3:=fun x y S Q=>match x,y with | .int i,.int j=>Q (g i j) S|_,_=>False
def fo(C:Int->Int->Prop)(g:Int->Int->PV):R3:=fun x y S Q=>match x,y with | .int i,.int j=>C i j/\Q (g i j) S|_,_=>False
def vd{f:Value->Value->Sem Value}{g:Int->Int->Int}(h:fS X f (rF fun i j=>.int (g i j))):gK X f (dH fun i j=>.int (g i j)):=⟨fun pins s σ H x y v u Q I rx ry ⟨px,py,S,Q3,r1,r2,rS,q,k⟩=>by
 cases px with
 |int i=>
  cases py with
  |int j=>cases r1;cases r2;exact h pins s σ H _ _ v u Q I rx ry ⟨i,j,rfl,rfl,k _ S _ H q (.int _) rS .refl⟩
  |_=>exact q.elim
 |_=>exact q.elim⟩
def ky{f:Value->Value->Sem Value}{g:Int->Int->Bool}(h:fS X f (rF fun i j=>.bl (g i j))):gK X f (dH fun i j=>.bl (g i j)):=⟨fun pins s σ H x y v u Q I rx ry ⟨px,py,S,Q3,r1,r2,rS,q,k⟩=>by
 cases px with
 |int i=>
  cases py with
  |int j=>cases r1;cases r2;exact h pins s σ H _ _ v u Q I rx ry ⟨i,j,rfl,rfl,k _ S _ H q (.bl _) rS .refl⟩
  |_=>exact q.elim
 |_=>exact q.elim⟩
def kz{f:Value->Value->Sem Value}{C:Int->Int->Prop}{g:Int->Int->Int}(h:fS X f (rI C fun i j=>.int (g i j))):gK X f (fo C fun i j=>.int (g i j)):=⟨fun pins s σ H x y v u Q I rx ry ⟨px,py,S,Q3,r1,r2,rS,q,k⟩=>by
 cases px with
 |int i=>
  cases py with
  |int j=>cases r1;cases r2;exact h pins s σ H _ _ v u Q I rx ry ⟨i,j,rfl,rfl,q.1,k _ S _ H q.2 (.int _) rS .refl⟩
  |_=>exact q.elim
 |_=>exact q.elim⟩
def lg(i j:Int):Prop:=j≠0/\j.natAbs < 2 ^ 8000
def mf{n:Nat}(h:n < 2 ^ 8000):n.log2 < 9000:=by
 by_cases z:n=0
 ·rw[z];decide +kernel
 ·exact Lr ((Nat.log2_lt z).mpr h) (by decide)
def ve:gK X (binaryOp .Sub) (dH fun i j=>.int (i - j)):=vd uC
def vf:gK X (binaryOp .Mod) (fo (fun _ j=>j≠0) fun i j=>.int (i.fmod j)):=kz rG
def sr:gK X (binaryOp .FloorDiv) (fo lg fun i j=>.int (i.fdiv j)):=kz (xO fun _ _ _ _ _ _ _ hc q=>PyProof.Rows.floordiv_int hc.1 q (.inl (PyProof.noPylong_of_log2 (mf hc.2))))
def vg:gK X (binaryOp .Pow) (fo uA fun i j=>.int (i ^ j.toNat)):=kz uD
def wT:gK X (compareOp .Lt) (dH fun i j=>.bl (decide (i < j))):=ky wx
def wU:gK X (compareOp .Gt) (dH fun i j=>.bl (decide (j < i))):=ky wy
def wV:gK X (compareOp .GtE) (dH fun i j=>.bl (decide (j<=i))):=ky wA
end
end L3
namespace L2
open PySem PySem.Spec PyProof.Rows
section
variable {X:Cx}
def wW(K:Vo):R2:=fun x y H Q=>∃a b xs ys,x = .ref a/\y = .ref b/\SqT K H a xs/\SqT K H b ys/\xs.length+ys.length<=sizeLine/\∀r H',(∀c o,H c=some o->H' c=some o)->SqT K H' r (xs++ys)->Q (.ref r) H'
def ss:fS X (binaryOp .Add) (wW X.K):=by
 intro pins s σ H x y v u Q I rx ry h
 obtain⟨a,b,xs,ys,rfl,rfl,ha,hb,hz,q⟩:=h
 by_cases hx:xs=[]
 ·subst hx
  cases rx
  cases ry
  obtain⟨its,r1,p1,_⟩:=I.tuple ha
  obtain⟨its2,r2,p2,_⟩:=I.tuple hb
  cases r1
  obtain⟨⟨cls,dd,data,sl⟩,ho,hc,n,hd⟩:=id p1
  obtain⟨⟨Fm,dd2,data2,sl2⟩,ho2,hc2,n2,hd2⟩:=id p2
  simp only at hc hd hc2 hd2
  subst hc hd hc2 hd2
  exact concat_meets ⟨_,ho,rfl⟩ ⟨_,ho2,rfl⟩ noFill_tuple_add seq_tuple_add KH Kz (Ko _ _)
   (tuple_addW0 a b _ its2.toArray n n2 dd dd2 sl sl2 rfl) ⟨ho,ho2,⟨.ref b,H,I,rfl,q b H (fun _ _ e=>e) hb⟩⟩
 ·exact rR pins s σ H _ _ v u Q I rx ry ⟨a,b,xs,ys,rfl,rfl,ha,hb,hx,hz,fun e=>q a H (fun _ _ e=>e) (by rw[e,Ip];exact ha),
   fun _ p hp=>q p _ (fun c o e=>by rw[av (aO e hp)];exact e) (SqT.of aw)⟩
end
end L2
namespace L3
open PySem L2
section
variable {X:Cx}
def aP:R3:=fun x y S Q=>match x,y with
 | .int i,.int j=>Q (.int (i+j)) S
 | .str i,.str j=>i.length+j.length<=sizeLine/\Q (.str (i++j)) S
 | .tup i,.tup j=>i.length+j.length<=sizeLine/\Q (.tup (i++j)) S
 | .ref i,.ref j=>match S i,S j with
  |some (.lst xs),some (.lst ys)=>xs.length+ys.length<=sizeLine/\∀p,S p=none->Q (.ref p) (zL S p (.lst (xs++ys)))
  |_,_=>False
 |_,_=>False
def aD:gK X (binaryOp .Add) aP:=⟨fun pins s σ H x y v u Q I rx ry ⟨px,py,S,Q3,r1,r2,rS,q,k⟩=>by
 unfold aP at q
 split at q
 ·cases r1;cases r2
  exact uB pins s σ H _ _ v u Q I rx ry ⟨_,_,rfl,rfl,k _ S _ H q (.int _) rS .refl⟩
 ·cases r1;cases r2
  exact lV pins s σ H _ _ v u Q I rx ry ⟨_,_,rfl,rfl,q.1,k _ S _ H q.2 (.str _) rS .refl⟩
 ·cases r1 with
  |tup h1 s1=>
   cases r2 with
   |tup h2 s2=>
    refine ss pins s σ H _ _ v u Q I rx ry ⟨_,_,_,_,rfl,rfl,h1,h2,by rw[s1.length,s2.length];exact q.1,fun r H' hs hr=>?_⟩
    exact k _ S _ H' q.2 (.tup hr ((s1.mono (.same hs)).append (s2.mono (.same hs)))) (rS.grow hs) (.same hs)
 ·cases r1;cases r2
  split at q
  ·rename_i i j xs ys e1 e2
   obtain⟨vs,h1,s1⟩:=rS _ _ e1
   obtain⟨us,h2,s2⟩:=rS _ _ e2
   exact uR pins s σ H _ _ v u Q I rx ry ⟨_,_,_,_,rfl,rfl,h1,h2,by rw[s1.length,s2.length];exact q.1,fun p hp=>k _ _ _ _ (q.2 p (rS.free hp)) (.ref p) (rS.new hp ⟨_,aw,(s1.append s2).mono (.new hp)⟩) (.new hp)⟩
  ·exact q.elim
 ·exact q.elim⟩
end
mutual
inductive Dat (S:aq):PV->PyData->Prop
 |non:Dat S .non .none
 |bl (b:Bool):Dat S (.bl b) (.bool b)
 |int (i:Int):Dat S (.int i) (.int i)
 |str (x:Str):Dat S (.str x) (.str x)
 |tup {ps:List PV} {ds:List PyData}:Bq S ps ds->Dat S (.tup ps) (.tuple ds)
 |cl {ps:List PV} {ds:List PyData}:Bq S ps ds->Dat S (.cl ps) (.list ds)
 |ref {a:Addr} {ps:List PV} {ds:List PyData}:S a=some (.lst ps)->Bq S ps ds->Dat S (.ref a) (.list ds)
inductive Bq (S:aq):List PV->List PyData->Prop
 |nil:Bq S [] []
 |cons {p:PV} {d:PyData} {ps:List PV} {ds:List PyData}:Dat S p d->Bq S ps ds->Bq S (p::ps) (d::ds)
end
section
variable {X:Cx} {pins:Va} {σ:L2.St} {H:Hp} {s:Shared} {S:aq}
def mh(I:Inv X pins σ H s)(rS:zQ X.K H S):(∀{p:PV} {d:PyData},Dat S p d->∀{v:V} {u:Value},Rep X.K H v p->RelV v u->∃as,Reads s.heap u d as)/\∀{ps:List PV} {ds:List PyData},Bq S ps ds->∀{vs:List V} {us:Vv},Reps X.K H vs ps->Vals vs us->∃as,ReadsAll s.heap us ds as:=by
 have one:=@Dat.rec S (motive_1:=fun p d _=>∀{v:V} {u:Value},Rep X.K H v p->RelV v u->∃as,Reads s.heap u d as) (motive_2:=fun ps ds _=>∀{vs:List V} {us:Vv},Reps X.K H vs ps->Vals vs us->∃as,ReadsAll s.heap us ds as)
 have two:=@Bq.rec S (motive_1:=fun p d _=>∀{v:V} {u:Value},Rep X.K H v p->RelV v u->∃as,Reads s.heap u d as) (motive_2:=fun ps ds _=>∀{vs:List V} {us:Vv},Reps X.K H vs ps->Vals vs us->∃as,ReadsAll s.heap us ds as)
 have c1:∀{v:V} {u:Value},Rep X.K H v .non->RelV v u->∃as,Reads s.heap u .none as:=fun h r=>by cases h;cases r;exact⟨_,.none⟩
 have c2:∀(b:Bool) {v:V} {u:Value},Rep X.K H v (.bl b)->RelV v u->∃as,Reads s.heap u (.bool b) as:=fun b _ _ h r=>by cases h;cases r;exact⟨_,.bool b⟩
 have c3:∀(i:Int) {v:V} {u:Value},Rep X.K H v (.int i)->RelV v u->∃as,Reads s.heap u (.int i) as:=fun i _ _ h r=>by cases h;obtain⟨t,rfl⟩:=r;exact⟨_,.int i t⟩
 have c4:∀(x:Str) {v:V} {u:Value},Rep X.K H v (.str x)->RelV v u->∃as,Reads s.heap u (.str x) as:=fun x _ _ h r=>by cases h;obtain⟨t,rfl⟩:=r;exact⟨_,.str x t⟩
 have c5:∀{ps:List PV} {ds:List PyData},Bq S ps ds->(∀{vs:List V} {us:Vv},Reps X.K H vs ps->Vals vs us->∃as,ReadsAll s.heap us ds as)->∀{v:V} {u:Value},Rep X.K H v (.tup ps)->RelV v u->∃as,Reads s.heap u (.tuple ds) as:=fun _ ih _ _ h r=>by
  cases h with
  |tup h rs=>
   cases r
   obtain⟨its,rv,⟨o,ho,hc,n,hd⟩,hz⟩:=I.tuple h
   obtain⟨as,q⟩:=ih rs rv
   exact⟨as,.tuple ho hc hd (by simpa using q)⟩
 have c6:∀{ps:List PV} {ds:List PyData},Bq S ps ds->(∀{vs:List V} {us:Vv},Reps X.K H vs ps->Vals vs us->∃as,ReadsAll s.heap us ds as)->∀{v:V} {u:Value},Rep X.K H v (.cl ps)->RelV v u->∃as,Reads s.heap u (.list ds) as:=fun _ ih _ _ h r=>by
  cases h with
  |cl h rs=>
   cases r
   obtain⟨its,rv,⟨o,n,ho,hc,_,hd⟩,hz⟩:=I.list h.sq
   obtain⟨as,q⟩:=ih rs rv
   exact⟨_,.list ho hc hd (by simpa using q)⟩
 have c7:∀{a:Addr} {ps:List PV} {ds:List PyData},S a=some (.lst ps)->Bq S ps ds->(∀{vs:List V} {us:Vv},Reps X.K H vs ps->Vals vs us->∃as,ReadsAll s.heap us ds as)->∀{v:V} {u:Value},Rep X.K H v (.ref a)->RelV v u->∃as,Reads s.heap u (.list ds) as:=fun e _ ih _ _ h r=>by
  cases h
  cases r
  obtain⟨vs,hv,rs⟩:=rS _ _ e
  obtain⟨its,rv,⟨o,n,ho,hc,_,hd⟩,hz⟩:=I.list (SqL.of hv)
  obtain⟨as,q⟩:=ih rs rv
  exact⟨_,.list ho hc hd (by simpa using q)⟩
 have c8:∀{vs:List V} {us:Vv},Reps X.K H vs []->Vals vs us->∃as,ReadsAll s.heap us [] as:=fun h r=>by cases h;cases r;exact⟨_,.nil⟩
 have c9:∀{p:PV} {d:PyData} {ps:List PV} {ds:List PyData},Dat S p d->Bq S ps ds->(∀{v:V} {u:Value},Rep X.K H v p->RelV v u->∃as,Reads s.heap u d as)->(∀{vs:List V} {us:Vv},Reps X.K H vs ps->Vals vs us->∃as,ReadsAll s.heap us ds as)->∀{vs:List V} {us:Vv},Reps X.K H vs (p::ps)->Vals vs us->∃as,ReadsAll s.heap us (d::ds) as:=fun _ _ i1 i2 _ _ h r=>by
  cases h with
  |cons a rs=>
   cases r with
   |cons r1 r2=>
    obtain⟨as,q⟩:=i1 a r1
    obtain⟨bs,q2⟩:=i2 rs r2
    exact⟨_,.cons q q2⟩
 exact⟨fun h=>one c1 c2 c3 c4 c5 c6 c7 c8 c9 h,fun h=>two c1 c2 c3 c4 c5 c6 c7 c8 c9 h⟩
def Dat.reads(I:Inv X pins σ H s)(rS:zQ X.K H S){p:PV}{d:PyData}{v:V}{u:Value}(h:Dat S p d)(r:Rep X.K H v p)(r2:RelV v u):∃as,Reads s.heap u d as:=(mh I rS).1 h r r2
end
section
variable {X:Cx}
def bg(neg:Bool):R3:=fun x y S Q=>match x,y with
 | .int i,.int j=>Q (.bl (neg != decide (i=j))) S
 | .str i,.str j=>Q (.bl (neg != decide (i=j))) S
 | .bl i,.bl j=>Q (.bl (neg != decide (i=j))) S
 |x,y=>∃d d',Dat S x d/\Dat S y d'/\d.canLay0=true/\d'.canLay0=true/\min d.depth d'.depth<=150/\Q (.bl (neg != PyData.eqv d d')) S
def iV(hu:X.A.units+150 < cLine):gK X (compareOp .Eq) (bg false):=⟨fun pins s σ H x y v u Q I rx ry ⟨px,py,S,Q3,r1,r2,rS,q,k⟩=>by
 unfold bg at q
 split at q
 ·cases r1;cases r2
  exact o6 pins s σ H _ _ v u Q I rx ry ⟨rfl,k _ S _ H (by simpa using q) (.bl _) rS .refl⟩
 ·cases r1;cases r2
  exact o6 pins s σ H _ _ v u Q I rx ry ⟨rfl,k _ S _ H (by simpa using q) (.bl _) rS .refl⟩
 ·cases r1;cases r2
  exact o6 pins s σ H _ _ v u Q I rx ry ⟨rfl,k _ S _ H (by simpa using q) (.bl _) rS .refl⟩
 ·obtain⟨d,d',h1,h2,c1,c2,hd,q⟩:=q
  obtain⟨as,a1⟩:=h1.reads I rS r1 rx
  obtain⟨bs,a2⟩:=h2.reads I rS r2 ry
  exact SeqAt.compareEq_reads a1 a2 c1 c2 (by omega) ⟨.bl _,H,I,rfl,k _ S _ H (by simpa using q) (.bl _) rS .refl⟩⟩
def wX(hu:X.A.units+150 < cLine):gK X (compareOp .NotEq) (bg true):=⟨fun pins s σ H x y v u Q I rx ry ⟨px,py,S,Q3,r1,r2,rS,q,k⟩=>by
 unfold bg at q
 split at q
 ·cases r1;cases r2
  exact o7 pins s σ H _ _ v u Q I rx ry ⟨rfl,k _ S _ H (by simpa using q) (.bl _) rS .refl⟩
 ·cases r1;cases r2
  exact o7 pins s σ H _ _ v u Q I rx ry ⟨rfl,k _ S _ H (by simpa using q) (.bl _) rS .refl⟩
 ·cases r1;cases r2
  exact o7 pins s σ H _ _ v u Q I rx ry ⟨rfl,k _ S _ H (by simpa using q) (.bl _) rS .refl⟩
 ·obtain⟨d,d',h1,h2,c1,c2,hd,q⟩:=q
  obtain⟨as,a1⟩:=h1.reads I rS r1 rx
  obtain⟨bs,a2⟩:=h2.reads I rS r2 ry
  exact SeqAt.compareNe_reads a1 a2 c1 c2 (by omega) ⟨.bl _,H,I,rfl,k _ S _ H (by simpa using q) (.bl _) rS .refl⟩⟩
def tS(neg:Bool):R3:=fun x y S Q=>match y with
 | .non=>Q (.bl (neg != match x with | .non=>true|_=>false)) S
 | .bl true=>match x with | .bl true=>Q (.bl (neg != true)) S|_=>False
 |_=>False
def qc:gK X (compareOp .IsNot) (tS true):=⟨fun pins s σ H x y v u Q I rx ry ⟨px,py,S,Q3,r1,r2,rS,q,k⟩=>by
 unfold tS at q
 split at q
 ·cases r2
  refine rH pins s σ H _ _ v u Q I rx ry ⟨rfl,?_⟩
  cases r1<;>exact k _ S _ H (by simpa using q) (.bl _) rS .refl
 ·cases r2
  split at q
  ·cases r1
   exact n_ pins s σ H _ _ v u Q I rx ry ⟨rfl,rfl,k _ S _ H (by simpa using q) (.bl _) rS .refl⟩
  ·exact q.elim
 ·exact q.elim⟩
noncomputable def lh(S:aq):PV->Option (List PV)
 | .tup xs=>some xs
 | .cl xs=>some xs
 | .ref a=>match S a with|some (.lst xs)=>some xs|_=>none
 |_=>none
def vh{H:Hp}{S:aq}{v:V}{p:PV}{xs:List PV}(rS:zQ X.K H S)(r:Rep X.K H v p)(h:lh S p=some xs):∃a vs,v = .ref a/\(SqL X.K H a vs\/SqT X.K H a vs)/\Reps X.K H vs xs:=by
 unfold lh at h
 split at h
 ·cases h;cases r with|tup h1 rs=>exact⟨_,_,rfl,.inr h1,rs⟩
 ·cases h;cases r with|cl h1 rs=>exact⟨_,_,rfl,.inl h1.sq,rs⟩
 ·cases r
  split at h
  ·rename_i e
   cases h
   obtain⟨vs,hv,rs⟩:=rS _ _ e
   exact⟨_,vs,rfl,.inl (SqL.of hv),rs⟩
  ·cases h
 ·cases h
noncomputable def ic(x:PyData)(xs:List PyData):Bool:=xs.any fun y=>PyData.eqv y x
def jv(neg:Bool):R3:=fun x y S Q=>match x,y with
 | .str i,.str j=>Q (.bl (neg != !(Builtin.Str.occurrences j i 0 j.length 1).isEmpty)) S
 |x,y=>match y with
  | .ref a=>match S a with
   |some (.lst xs)=>∃d ds,Dat S x d/\Bq S xs ds/\d.canLay0=true/\PyData.canLayAll0 ds=true/\d.depth<=150/\Q (.bl (neg != ic d ds)) S
   |some (.dct kvs)=>match x with
    | .str z=>Q (.bl (neg != (kvs.any fun kv=>decide (kv.1=Sum.inr z)))) S
    | .int z=>Q (.bl (neg != (kvs.any fun kv=>decide (kv.1=Sum.inl z)))) S
    |_=>False
   |_=>False
  | .tup xs=>∃d ds,Dat S x d/\Bq S xs ds/\d.canLay0=true/\PyData.canLayAll0 ds=true/\d.depth<=150/\Q (.bl (neg != ic d ds)) S
  |_=>False
theorem zZ.any{K:Vo}{H:Hp}{κ:Type} [DecidableEq κ](k:κ):∀{vs:List (κ×V)} {ps:List (κ×PV)},zZ K H vs ps->(fc vs k).isSome=ps.any fun kv=>decide (kv.1=k)
 |_,_,.nil=>rfl
 |_,_,.cons (k:=k') a r=>by
  rw[K1,<-zZ.any k r]
  by_cases e:k'=k
  ·rw[A1 e];simp[e]
  ·rw[AE e];simp[e]
def iW(hu:X.A.units+160 < cLine):gK X (compareOp .In) (jv false):=⟨fun pins s σ H x y v u Q I rx ry ⟨px,py,S,Q3,r1,r2,rS,q,k⟩=>by
 unfold jv at q
 split at q
 ·cases r1;cases r2
  exact nI pins s σ H _ _ v u Q I rx ry ⟨_,_,rfl,rfl,k _ S _ H (by simpa using q) (.bl _) rS .refl⟩
 ·split at q
  ·cases r2
   cases ry
   split at q
   ·rename_i xs e
    obtain⟨d,ds,h1,h2,c1,c2,hd,q⟩:=q
    obtain⟨as,a1⟩:=h1.reads I rS r1 rx
    obtain⟨bs,a2⟩:=(Dat.ref e h2).reads I rS (.ref _) (rfl:RelV (.ref _) (.ref _))
    exact SeqAt.in_list_reads a2 a1 c2 c1 (by omega) ⟨.bl _,H,I,rfl,k _ S _ H (by simpa [ic]using q) (.bl _) rS .refl⟩
   ·rename_i kvs e
    obtain⟨kv,hv,rk⟩:=rS _ _ e
    split at q
    ·cases r1
     exact wK (by omega) I (DGet.k (k:=Sum.inr _) hv) rx fun s3 I3=>⟨.bl _,H,I3,rfl,k _ S _ H (by rw[rk.any];simpa using q) (.bl _) rS .refl⟩
    ·cases r1
     exact wK (by omega) I (DGet.k (k:=Sum.inl _) hv) rx fun s3 I3=>⟨.bl _,H,I3,rfl,k _ S _ H (by rw[rk.any];simpa using q) (.bl _) rS .refl⟩
    ·exact q.elim
   ·exact q.elim
  ·rename_i xs
   obtain⟨d,ds,h1,h2,c1,c2,hd,q⟩:=q
   obtain⟨as,a1⟩:=h1.reads I rS r1 rx
   obtain⟨bs,a2⟩:=(Dat.tup h2).reads I rS r2 ry
   exact SeqAt.in_tuple_reads a2 a1 c2 c1 (by omega) ⟨.bl _,H,I,rfl,k _ S _ H (by simpa [ic]using q) (.bl _) rS .refl⟩
  ·exact q.elim⟩
def fX(hu:X.A.units+160 < cLine):gK X (compareOp .NotIn) (jv true):=⟨fun pins s σ H x y v u Q I rx ry ⟨px,py,S,Q3,r1,r2,rS,q,k⟩=>by
 unfold jv at q
 split at q
 ·cases r1;cases r2
  exact kh pins s σ H _ _ v u Q I rx ry ⟨_,_,rfl,rfl,k _ S _ H (by simpa using q) (.bl _) rS .refl⟩
 ·split at q
  ·cases r2
   cases ry
   split at q
   ·rename_i xs e
    obtain⟨d,ds,h1,h2,c1,c2,hd,q⟩:=q
    obtain⟨as,a1⟩:=h1.reads I rS r1 rx
    obtain⟨bs,a2⟩:=(Dat.ref e h2).reads I rS (.ref _) (rfl:RelV (.ref _) (.ref _))
    exact SeqAt.notIn_list_reads a2 a1 c2 c1 (by omega) ⟨.bl _,H,I,rfl,k _ S _ H (by simpa [ic]using q) (.bl _) rS .refl⟩
   ·rename_i kvs e
    obtain⟨kv,hv,rk⟩:=rS _ _ e
    split at q
    ·cases r1
     exact mV (by omega) I (DGet.k (k:=Sum.inr _) hv) rx fun s3 I3=>⟨.bl _,H,I3,rfl,k _ S _ H (by rw[rk.any];simpa using q) (.bl _) rS .refl⟩
    ·cases r1
     exact mV (by omega) I (DGet.k (k:=Sum.inl _) hv) rx fun s3 I3=>⟨.bl _,H,I3,rfl,k _ S _ H (by rw[rk.any];simpa using q) (.bl _) rS .refl⟩
    ·exact q.elim
   ·exact q.elim
  ·rename_i xs
   obtain⟨d,ds,h1,h2,c1,c2,hd,q⟩:=q
   obtain⟨as,a1⟩:=h1.reads I rS r1 rx
   obtain⟨bs,a2⟩:=(Dat.tup h2).reads I rS r2 ry
   exact SeqAt.notIn_tuple_reads a2 a1 c2 c1 (by omega) ⟨.bl _,H,I,rfl,k _ S _ H (by simpa [ic]using q) (.bl _) rS .refl⟩
  ·exact q.elim⟩
end
end L3
namespace HT
open PySem PySem.Spec PyProof.Rows
section
variable {prog:Program} {w:World} {A:Around} {E:Vq} {s:Shared}
def fY{t sl:Addr}{items:Vw}{vl vu:Value}{lo hi:Option Int}{Q:Vq}(ht:IsTup s.heap t items)(hs:s.heap.IsSliceOf sl vl vu .none)(pl:IsPart vl lo)(pu:IsPart vu hi)
  (hw:Aa items.size 0 lo=0/\Aa items.size items.size hi=items.size)
  (h:Q (.ref t) s):wpAny (model prog w) A (getItem (.ref t) (.ref sl)) Q E s:=by
 obtain⟨os,hos,hcs,hds⟩:=id hs
 have Fn:s.TypeIs (.ref sl) "slice":=⟨os,hos,hcs⟩
 unfold getItem
 try with_reducible refine Jp ?_
 first|refine HB (HJ ?_)|skip
 refine HB (wpAny_sequenceKey ht.typeIs (by decide) ?_)
 refine HB (IG (name:=Str.ofString "__getitem__") ht.typeIs IC
  (Jk IC ht.typeIs entry_tuple_getitem ?_ (args_tuple_getitem _ _)))
 show wpAny _ _ (Builtin.Tuple.tupleItemsOf (.ref t) >>= _) _ _ s
 refine HB (tupleItemsOf_ ht ?_)
 refine HB (KJ Fn ?_)
 rw[if_pos (by decide)]
 refine HB (du hs pl pu ?_)
 have hyes:(((Aa items.size 0 lo:Nat):Int) == 0&&(1:Int) == 1&&(Aa items.size items.size hi - Aa items.size 0 lo) == items.size)=true:=by
  rw[hw.1,hw.2];simp
 show wpAny _ _ (if (((Aa items.size 0 lo:Nat):Int) == 0&&(1:Int) == 1&&(Aa items.size items.size hi - Aa items.size 0 lo) == items.size)=true then _ else _) _ _ s
 rw[if_pos hyes]
 unfold Builtin.Tuple.tupleIsExact
 refine HB (HB (KJ ht.typeIs (HJ ?_)))
 rw[if_pos (by decide)]
 first
  |exact HB (Kw (HJ ⟨_,rfl,HJ h⟩))
  |exact HB (Kw (HB (HJ (HJ ⟨_,rfl,HJ h⟩))))
  |exact HB (Kw (HB (HJ ⟨_,rfl,HJ h⟩)))
end
end HT
namespace L2
open PySem PySem.Spec PyProof.Rows
section
variable {X:Cx}
noncomputable def wY(K:Vo):V->Option Int->Option Int->Hp->VK->Prop:=fun x lo hi H Q=>∃a xs,x = .ref a/\SqT K H a xs/\∀r H',(∀c o,H c=some o->H' c=some o)->SqT K H' r (iL xs lo hi)->Q (.ref r) H'
def su:vT X (wY X.K):=by
 intro pins s σ H x v vl vu lo hi sl Q I rx hs pl pu h
 obtain⟨a,xs,rfl,hx,q⟩:=h
 by_cases hw:HT.Aa xs.length 0 lo=0/\HT.Aa xs.length xs.length hi=xs.length
 ·cases rx
  obtain⟨its,r,ht,hz⟩:=I.tuple hx
  have hlen:its.toArray.size=xs.length:=by rw[HH];exact r.length.symm
  refine⟨"tuple",_,IC.lookup,ht.typeIs,HT.fY ht hs pl pu (by rw[hlen];exact hw) ⟨.ref a,H,I,rfl,q a H (fun _ _ e=>e) ?_⟩⟩
  have e:iL xs lo hi=xs:=by unfold iL;rw[hw.1,hw.2];simp
  rw[e];exact hx
 ·exact uK pins s σ H _ v vl vu lo hi sl Q I rx hs pl pu ⟨a,xs,rfl,hx,hw,fun p hp=>q p _ (fun c o e=>by rw[av (aO e hp)];exact e) (SqT.of aw)⟩
def sv(hu:X.A.units+1 < cLine):vU X (fun x y H Q=>∃a v,x = .ref a/\DGet H a y (some v)/\Q v H):=by
 intro value slice pins s σ H x y v u Q I rx ry h hs
 obtain⟨a,z,rfl,g,q⟩:=h
 cases rx
 exact tail_any (k7 I g) PySem.F.slot_dict_getitem.lookup (nP hu I g ry fun w' s3 I3 rw'=>⟨z,H,I3,rw',q⟩) hs
def qd(hu:X.A.units+1 < cLine):rB X (fun o i v H Q=>∃a H',o = .ref a/\Dc H a i v H'/\Q H'):=by
 intro pins s σ H o i v ov iv u Q I ro ri rv h
 obtain⟨a,H',rfl,g,q⟩:=h
 cases ro
 exact nQ hu I g ri rv fun s' I'=>⟨H',I',q⟩
end
end L2
namespace L3
open PySem L2
theorem Reps.Ar{K:Vo}{H:Hp}{vs:List V}{ps:List PV}{i:Int}{p:PV}(r:Reps K H vs ps)(h:L2.Ar ps i=some p):∃v,L2.Ar vs i=some v/\Rep K H v p:=by
 unfold L2.Ar at h ⊢
 rw[r.length]
 cases e:nM ps.length i with
 |none=>rw[e]at h;cases h
 |some j=>
  rw[e]at h
  obtain⟨v,h1,h2⟩:=r.get h
  exact⟨v,h1,h2⟩
noncomputable def gL:PV->Option a_
 | .int i=>some (.inl i)
 | .str x=>some (.inr x)
 |_=>none
def cp{K:Vo}{H:Hp}{v:V}{p:PV}{k:a_}(r:Rep K H v p)(h:gL p=some k):v=kV k:=by
 cases p with
 |int i=>cases h;cases r;rfl
 |str i=>cases h;cases r;rfl
 |_=>cases h
noncomputable def dz{κ:Type} [DecidableEq κ]:List (κ×PV)->κ->Option PV
 |[],_=>none
 |(k',v)::r,k=>if k'=k then some v else dz r k
theorem zZ.val{K:Vo}{H:Hp}{κ:Type} [DecidableEq κ]{k:κ}{p:PV}:∀{vs:List (κ×V)} {ps:List (κ×PV)},zZ K H vs ps->dz ps k=some p->∃v,fc vs k=some v/\Rep K H v p
 |_,_,.nil,h=>by cases h
 |_,_,.cons (k:=k') a r,h=>by
  unfold dz at h
  split at h
  ·rename_i e;cases h;exact⟨_,A1 e,a⟩
  ·rename_i e;rw[AE e];exact zZ.val r h
theorem zZ.valN{K:Vo}{H:Hp}{κ:Type} [DecidableEq κ]{k:κ}:∀{vs:List (κ×V)} {ps:List (κ×PV)},zZ K H vs ps->dz ps k=none->fc vs k=none
 |_,_,.nil,_=>rfl
 |_,_,.cons (k:=k') a r,h=>by
  unfold dz at h
  split at h
  ·cases h
  ·rename_i e;rw[AE e];exact zZ.valN r h
section
variable {X:Cx} {a b e lo hi:Expr} {ta tb te:aQ} {pos p2:Pos}
structure zf (X:Cx) (r:R3):Prop where
 ok:vU X (LR X r)
def wZ{r:R3}(hr:zf X r)(ha:aZ X a ta)(hb:aZ X b tb)(hs:iB b):aZ X (.Subscript a b pos) (ah r ta tb):=⟨aK (wG hr.ok ha.ok hb.ok hs) fun _ _ _=>iD⟩
def ag:R3:=fun x y S Q=>match x with
 | .tup xs=>match y with | .int i=>(match Ar xs i with|some v=>Q v S|none=>False)|_=>False
 | .cl xs=>match y with | .int i=>(match Ar xs i with|some v=>Q v S|none=>False)|_=>False
 | .str z=>match y with | .int i=>z.length<=sizeLine/\(match Ar z.cps.toList i with|some c=>Q (.str ⟨#[c]⟩) S|none=>False)|_=>False
 | .ref a=>match S a with
  |some (.lst xs)=>(match y with | .int i=>(match Ar xs i with|some v=>Q v S|none=>False)|_=>False)
  |some (.dct kvs)=>(match gL y with|some k=>(match dz kvs k with|some v=>Q v S|none=>False)|none=>False)
  |_=>False
 |_=>False
def zg(hu:X.A.units+1 < cLine):zf X ag:=⟨fun value slice pins s σ H x y v u Q I rx ry ⟨px,py,S,Q3,r1,r2,rS,q,k⟩ hs=>by
 unfold ag at q
 split at q
 ·split at q
  ·split at q
   ·rename_i e
    cases r2
    cases r1 with
    |tup h1 rs=>
     obtain⟨w,hw,rw'⟩:=rs.Ar e
     exact uM value slice pins s σ H _ _ v u Q I rx ry ⟨_,_,_,w,rfl,rfl,h1,hw,k _ S _ H q rw' rS .refl⟩ hs
   ·exact q.elim
  ·exact q.elim
 ·split at q
  ·split at q
   ·rename_i e
    cases r2
    cases r1 with
    |cl h1 rs=>
     obtain⟨w,hw,rw'⟩:=rs.Ar e
     exact mT value slice pins s σ H _ _ v u Q I rx ry ⟨_,_,_,w,rfl,rfl,h1.sq,hw,k _ S _ H q rw' rS .refl⟩ hs
   ·exact q.elim
  ·exact q.elim
 ·split at q
  ·obtain⟨hz,q⟩:=q
   split at q
   ·rename_i e
    cases r1;cases r2
    exact uN value slice pins s σ H _ _ v u Q I rx ry ⟨_,_,_,rfl,rfl,hz,e,k _ S _ H q (.str _) rS .refl⟩ hs
   ·exact q.elim
  ·exact q.elim
 ·split at q
  ·rename_i e0
   split at q
   ·split at q
    ·rename_i e
     cases r1;cases r2
     obtain⟨vs,hv,rs⟩:=rS _ _ e0
     obtain⟨w,hw,rw'⟩:=rs.Ar e
     exact mT value slice pins s σ H _ _ v u Q I rx ry ⟨_,_,_,w,rfl,rfl,SqL.of hv,hw,k _ S _ H q rw' rS .refl⟩ hs
    ·exact q.elim
   ·exact q.elim
  ·rename_i e0
   split at q
   ·rename_i ek
    split at q
    ·rename_i ev
     cases r1
     have e1:=cp r2 ek
     subst e1
     obtain⟨kv,hv,rk⟩:=rS _ _ e0
     obtain⟨w,hw,rw'⟩:=rk.val ev
     refine sv hu value slice pins s σ H _ _ v u Q I rx ry ⟨_,w,rfl,?_,k _ S _ H q rw' rS .refl⟩ hs
     rw[<-hw]
     exact DGet.k hv
    ·exact q.elim
   ·exact q.elim
  ·exact q.elim
 ·exact q.elim⟩
abbrev vW:=bY->aq->(Option Int->aq->Prop)->cU->Prop
inductive LO (X:Cx) (t:vW) (σ:L2.St) (H:Hp) (Q:Option Int->Hp->Prop):Prop
 |mk (σ3 S Q3 E3) (rσ:zR X.K H σ σ3) (rS:zQ X.K H S) (h:t σ3 S Q3 E3) (xo:C4 X H E3) (k:∀o S' H',Q3 o S'->zQ X.K H' S'->Grow X.K H H'->Q o H'):LO X t σ H Q
structure xS (X:Cx) (e:Option Expr) (t:vW):Prop where
 ok:PO X e (LO X t)
noncomputable def kU:vW:=fun _ S Q _=>Q none S
noncomputable def jU(t:aQ):vW:=fun σ S Q E=>t σ S (fun v S'=>match v with | .int i=>Q (some i) S'|_=>False) E
def qe{e:Option Expr}{t t':TO}(h:PO X e t)(k:∀σ H Q,t' σ H Q->t σ H Q):PO X e t':=fun pins s σ H Q I q=>h pins s σ H Q I (k σ H Q q)
def dg:xS X none kU:=⟨qe rP fun σ H Q ⟨σ3,S,Q3,E3,rσ,rS,h,xo,k⟩=>k none S H h rS .refl⟩
def cq(h:aZ X e te):xS X (some e) (jU te):=⟨qe (rQ h.ok) fun σ H Q ⟨σ3,S,Q3,E3,rσ,rS,h,xo,k⟩=>⟨σ3,S,_,E3,rσ,rS,h,xo,fun p S' v H' h1 rv Bn g=>by
 cases p with
 |int i=>cases rv;exact⟨i,rfl,k _ S' H' h1 Bn g⟩
 |_=>exact h1.elim⟩⟩
noncomputable def dh{α:Type}(xs:List α)(lo hi:Option Int):List α:=(xs.drop (HT.Aa xs.length 0 lo)).take (HT.Aa xs.length xs.length hi - HT.Aa xs.length 0 lo)
def Reps.cut{K:Vo}{H:Hp}{vs:List V}{ps:List PV}(r:Reps K H vs ps)(lo hi:Option Int):Reps K H (iL vs lo hi) (dh ps lo hi):=by
 unfold iL dh
 rw[r.length]
 exact(r.drop _).take _
def kA(x:PV)(lo hi:Option Int)(S:aq)(Q:bQ):Prop:=match x with
 | .tup xs=>Q (.tup (dh xs lo hi)) S
 | .cl xs=>∀p,S p=none->Q (.ref p) (zL S p (.lst (dh xs lo hi)))
 | .str z=>z.length<=sizeLine/\Q (.str (Txt.slice z lo hi)) S
 | .ref a=>match S a with|some (.lst xs)=>∀p,S p=none->Q (.ref p) (zL S p (.lst (dh xs lo hi)))|_=>False
 |_=>False
noncomputable def zv(X:Cx):V->Option Int->Option Int->Hp->VK->Prop:=fun x lo hi H Q=>∃px S Q3,Rep X.K H x px/\zQ X.K H S/\kA px lo hi S Q3/\C5 X.K H Q3 Q
def zw:vT X (zv X):=by
 intro pins s σ H x v vl vu lo hi sl Q I rx hs pl pu ⟨px,S,Q3,r1,rS,q,k⟩
 unfold kA at q
 split at q
 ·cases r1 with
  |tup h1 rs=>exact su pins s σ H _ v vl vu lo hi sl Q I rx hs pl pu ⟨_,_,rfl,h1,fun r H' hh hr=>k _ S _ H' q (.tup hr ((rs.cut lo hi).mono (.same hh))) (rS.grow hh) (.same hh)⟩
 ·cases r1 with
  |cl h1 rs=>exact mU pins s σ H _ v vl vu lo hi sl Q I rx hs pl pu ⟨_,_,rfl,h1.sq,fun p hp=>k _ _ _ _ (q p (rS.free hp)) (.ref p) (rS.new hp ⟨_,aw,(rs.cut lo hi).mono (.new hp)⟩) (.new hp)⟩
 ·cases r1
  exact uZ pins s σ H _ v vl vu lo hi sl Q I rx hs pl pu ⟨_,rfl,q.1,k _ S _ H q.2 (.str _) rS .refl⟩
 ·split at q
  ·rename_i e
   cases r1
   obtain⟨vs,hv,rs⟩:=rS _ _ e
   exact mU pins s σ H _ v vl vu lo hi sl Q I rx hs pl pu ⟨_,_,rfl,SqL.of hv,fun p hp=>k _ _ _ _ (q p (rS.free hp)) (.ref p) (rS.new hp ⟨_,aw,(rs.cut lo hi).mono (.new hp)⟩) (.new hp)⟩
  ·exact q.elim
 ·exact q.elim
def bj(te:aQ)(tl th:vW):aQ:=fun σ S Q E=>te σ S (fun x S1=>tl σ S1 (fun l S2=>th σ S2 (fun u S3=>kA x l u S3 Q) E) E) E
def bS{lo hi:Option Expr}{tl th:vW}(he:aZ X e te)(hl:xS X lo tl)(hu:xS X hi th):aZ X (.Subscript e (.Slice lo hi none p2) pos) (bj te tl th):=
 ⟨aK (pe zw he.ok hl.ok hu.ok) fun σ H Q ⟨σ3,S,Q3,E3,rσ,rS,h,xo,k⟩=>⟨σ3,S,_,E3,rσ,rS,h,xo,fun x S1 v H1 h1 rx zT g1=>⟨σ3,S1,_,E3,rσ.mono g1,zT,h1,xo.mono g1,fun l S2 H2 h2 Bb g2=>
  ⟨σ3,S2,_,E3,rσ.mono (g1.trans g2),Bb,h2,xo.mono (g1.trans g2),fun u S3 H3 h3 Dp g3=>⟨x,S3,Q3,rx.mono (g2.trans g3),Dp,h3,k.mono (g1.trans (g2.trans g3))⟩⟩⟩⟩⟩
def sx:fS X (binaryOp .Mult) (rI IntMulOk fun i j=>.int (i * j)):=xO fun _ _ _ _ _ _ _ hc q=>PyProof.Rows.mul_int q hc
def iz:R3:=fun x y S Q=>match x,y with
 | .int i,.int j=>IntMulOk i j/\Q (.int (i * j)) S
 | .ref a,.int j=>(match S a with|some (.lst xs)=>-(2 ^ 63)<=j/\j < 2 ^ 63/\xs.length * j.toNat<=sizeLine/\∀p,S p=none->Q (.ref p) (zL S p (.lst (List.replicate j.toNat xs).flatten))|_=>False)
 |_,_=>False
theorem Reps.rep{K:Vo}{H:Hp}{vs:List V}{ps:List PV}(r:Reps K H vs ps):∀n:Nat,Reps K H (List.replicate n vs).flatten (List.replicate n ps).flatten
 |0=>.nil
 |n+1=>by
  rw[IM,IM,JJ,JJ]
  exact r.append (Reps.rep r n)
def fA:gK X (binaryOp .Mult) iz:=⟨fun pins s σ H x y v u Q I rx ry ⟨px,py,S,Q3,r1,r2,rS,q,k⟩=>by
 unfold iz at q
 split at q
 ·cases r1;cases r2
  exact sx pins s σ H _ _ v u Q I rx ry ⟨_,_,rfl,rfl,q.1,k _ S _ H q.2 (.int _) rS .refl⟩
 ·split at q
  ·rename_i e
   cases r1;cases r2
   obtain⟨vs,hv,rs⟩:=rS _ _ e
   exact uS pins s σ H _ _ v u Q I rx ry ⟨_,_,_,rfl,rfl,hv,q.1,q.2.1,by rw[rs.length];exact q.2.2.1,fun p hp=>k _ _ _ _ (q.2.2.2 p (rS.free hp)) (.ref p) (rS.new hp ⟨_,aw,(rs.rep _).mono (.new hp)⟩) (.new hp)⟩
  ·exact q.elim
 ·exact q.elim⟩
end
end L3
namespace L2
open PySem PySem.Spec PyProof.Rows
section
variable {X:Cx}
def mi{pins:Va}{σ:St}{H:Hp}{s:Shared}{x:Value}{t:Value}{p:Heap->Prop}{vs:List V}{tp:Addr}{b:Bool}{Q:Vq}{E:Vq}(I:Inv X pins σ H s)(Z:PySem.W.KitX X.K x t p)(hp:p s.heap)(hx:x ≠ .builtin "__main__.__loader__#opaque")
  (ht:SqT X.K H tp vs) (e:∀its,Vals vs its->PySem.W.kitAny X.K t its=some b) (h:∀tk,Q (.bool b) { s with toks:=tk }):wpAny (model X.prog X.w) X.A (call (.builtin "isinstance") [x,.ref tp]) Q E s:=by
 obtain⟨its,rv,⟨⟨cls,dd,data,sl⟩,ho,hc,n,hd⟩,hz⟩:=I.tuple ht
 simp only at hc hd
 subst hc hd
 exact PySem.W.kia_tup Z I.C9 hp ho (e its rv) hx h
end
end L2
namespace L3
open PySem L2
abbrev oi:=List PV->aq->bQ->Prop
section
variable {X:Cx} {e o:Expr} {es:List Expr} {te to:aQ} {ts:List aQ} {x:Str} {p pos apos cpos:Pos}
inductive LC (X:Cx) (r:oi) (xs:List V) (H:Hp) (Q:VK):Prop
 |mk (ps S Q3) (rx:Reps X.K H xs ps) (rS:zQ X.K H S) (h:r ps S Q3) (k:C5 X.K H Q3 Q):LC X r xs H Q
structure fZ (X:Cx) (f:Value) (r:oi):Prop where
 ok:fT X f (LC X r)
def ap(r:oi)(ts:List aQ):aQ:=fun σ S Q E=>ao ts σ S (fun ps S1=>r ps S1 Q) E
def m6{r:oi}{σ:L2.St}{H:Hp}{Q:VK}:LE X (ap r ts) σ H Q->xR (ts.map (LE X)) σ H fun vs H1=>LC X r vs H1 Q:=fun⟨σ3,S,Q3,E3,rσ,rS,h,xo,k⟩=>
 bM rσ rS h xo fun ps S' vs H' hl q rv Bn g=>⟨ps,S',Q3,rv,Bn,q,k.mono g⟩
def sy{id:String}{r:oi}(hc:fZ X (.builtin id) r)(hg:Gl X x)(hm:X.mg x=none)(hv:bootBuiltins x=some (.builtin id))(he:starEach (e::es) X.env=(false,eval e X.env)::starEach es X.env)(ha:iw X (e::es) ts)
  (hn:x ≠ "__name__":=by decide) (hdb:(x == ("__debug__":Str))=false:=by decide) (hpl:(backTo pos (starEach es X.env)).any (·.1)=false:=by rfl):aZ X (.Call (.Name x p) (e::es) [] pos) (ap r ts):=
 ⟨aK (o9 hc.ok hg hm hv ha.ok hn hdb he hpl) fun _ _ _=>m6⟩
def sA{id:String}{r:oi}(hc:fZ X (.type id) r)(hg:Gl X x)(hm:X.mg x=none)(hv:bootBuiltins x=some (.type id))(he:starEach (e::es) X.env=(false,eval e X.env)::starEach es X.env)(ha:iw X (e::es) ts)
  (hn:x ≠ "__name__":=by decide) (hdb:(x == ("__debug__":Str))=false:=by decide) (hpl:(backTo pos (starEach es X.env)).any (·.1)=false:=by rfl):aZ X (.Call (.Name x p) (e::es) [] pos) (ap r ts):=
 ⟨aK (nL hc.ok hg hm hv ha.ok hn hdb he hpl) fun _ _ _=>m6⟩
def bZ:oi:=fun ps S Q=>match ps with
 |[.tup xs]=>Q (.int xs.length) S
 |[.cl xs]=>Q (.int xs.length) S
 |[.str z]=>z.length<=sizeLine/\Q (.int z.length) S
 |[.ref a]=>(match S a with|some (.lst xs)=>Q (.int xs.length) S|some (.dct kvs)=>Q (.int kvs.length) S|_=>False)
 |_=>False
def cV:fZ X (.builtin "len") bZ:=⟨fun pins s σ H xs us Q I r ⟨ps,S,Q3,rp,rS,q,k⟩=>by
 unfold bZ at q
 split at q
 ·cases rp with|cons a rr=>cases rr;cases a with|tup h rs=>exact dG pins s σ H _ us Q I r ⟨_,_,rfl,.inr h,by rw[rs.length];exact k _ S _ H q (.int _) rS .refl⟩
 ·cases rp with|cons a rr=>cases rr;cases a with|cl h rs=>exact dG pins s σ H _ us Q I r ⟨_,_,rfl,.inl h.sq,by rw[rs.length];exact k _ S _ H q (.int _) rS .refl⟩
 ·cases rp with|cons a rr=>cases rr;cases a;exact ki pins s σ H _ us Q I r ⟨_,rfl,q.1,k _ S _ H q.2 (.int _) rS .refl⟩
 ·cases rp with
  |cons a rr=>
   cases rr;cases a
   split at q
   ·rename_i e
    obtain⟨vs,hv,rs⟩:=rS _ _ e
    exact dG pins s σ H _ us Q I r ⟨_,_,rfl,.inl (SqL.of hv),by rw[rs.length];exact k _ S _ H q (.int _) rS .refl⟩
   ·rename_i e
    obtain⟨vs,hv,rs⟩:=rS _ _ e
    exact nU pins s σ H _ us Q I r ⟨_,_,rfl,hv,by rw[rs.length];exact k _ S _ H q (.int _) rS .refl⟩
   ·exact q.elim
 ·exact q.elim⟩
def iX:oi:=fun ps S Q=>match ps with|[.int i,.int j]=>Q (.int (if j > i then j else i)) S|_=>False
def qf(hc:X.calm=true):fZ X (.builtin "max") iX:=⟨fun pins s σ H xs us Q I r ⟨ps,S,Q3,rp,rS,q,k⟩=>by
 unfold iX at q
 split at q
 ·cases rp with|cons a rr=>cases rr with|cons b r3=>cases r3;cases a;cases b;exact nJ hc pins s σ H _ us Q I r ⟨_,_,rfl,k _ S _ H q (.int _) rS .refl⟩
 ·exact q.elim⟩
def bJ:oi:=fun ps S Q=>match ps with
 |[v]=>(match lh S v with|some xs=>Q (.tup xs) S|none=>False)
 |_=>False
def f8:fZ X (.type "tuple") bJ:=⟨fun pins s σ H xs us Q I r ⟨ps,S,Q3,rp,rS,q,k⟩=>by
 unfold bJ at q
 split at q
 ·cases rp with
  |cons a rr=>
   cases rr
   split at q
   ·rename_i e
    obtain⟨b,vs,rfl,hs,rs⟩:=vh rS a e
    rcases hs with hs|hs
    ·exact fj pins s σ H _ us Q I r ⟨_,_,rfl,.inl ⟨hs,fun p hp=>k _ S _ _ q (.tup (SqT.of aw) (rs.mono (.new hp))) (rS.other hp) (.new hp)⟩⟩
    ·exact fj pins s σ H _ us Q I r ⟨_,_,rfl,.inr ⟨hs,k _ S _ _ q (.tup hs rs) rS .refl⟩⟩
   ·exact q.elim
 ·exact q.elim⟩
noncomputable def iY:List PV->Option (List Bool)
 |[]=>some []
 | .bl b::r=>(iY r).map (b::·)
 |_::_=>none
theorem iZ{K:Vo}{H:Hp}:∀{vs:List V} {ps:List PV} {bs:List Bool},Reps K H vs ps->iY ps=some bs->vs=bs.map V.bl
 |_,_,_,.nil,h=>by cases h;rfl
 |_,_,bs,.cons (p:=p) a r,h=>by
  cases p with
  |bl b=>
   cases a
   unfold iY at h
   cases e:iY _ with
   |none=>rw[e]at h;cases h
   |some l=>rw[e]at h;cases h;rw[iZ r e];rfl
  |_=>cases h
def mj:oi:=fun ps S Q=>match ps with
 |[.ref a]=>(match S a with|some (.lst xs)=>(match iY xs with|some bs=>Q (.bl (bs.all id)) S|none=>False)|_=>False)
 |_=>False
def tT(hc:X.calm=true):fZ X (.builtin "all") mj:=⟨fun pins s σ H xs us Q I r ⟨ps,S,Q3,rp,rS,q,k⟩=>by
 unfold mj at q
 split at q
 ·cases rp with
  |cons a rr=>
   cases rr;cases a
   split at q
   ·rename_i e
    split at q
    ·rename_i eb
     obtain⟨vs,hv,rs⟩:=rS _ _ e
     have e2:=iZ rs eb
     subst e2
     exact nX hc pins s σ H _ us Q I r ⟨_,_,rfl,SqL.of hv,k _ S _ H q (.bl _) rS .refl⟩
    ·exact q.elim
   ·exact q.elim
 ·exact q.elim⟩
end
noncomputable def fe(t c:String):Bool:=t == c || (t == "bool" && c == "int")
noncomputable def ml(S:aq):PV->Option String
 | .non=>some "NoneType"
 | .bl _=>some "bool"
 | .int _=>some "int"
 | .str _=>some "str"
 | .tup _=>some "tuple"
 | .cl _=>some "list"
 | .ref a=>(match S a with|some (.lst _)=>some "list" | some (.dct _)=>some "dict" | _=>none)
 | .ty _=>none
 | .exc _ _ _=>none
 | .cls _=>none
noncomputable def cN(c:String):Bool:=["int","str","bool","tuple","list","dict"].contains c
def qg(K:Vo)(t c:String):PySem.W.kitCls K (.type t) (.type c)=(if PySem.W.kitMeta c=true then (PySem.fastBuiltinMro t).map (·.contains (Value.type c)) else none):=rfl
def m7{K:Vo}{t c:String}(ht:t∈["NoneType","bool","int","str","tuple","list","dict"])(hc:cN c=true):PySem.W.kitOne K (.type t) (.type c)=some (fe t c):=by
 have hc':c∈["int","str","bool","tuple","list","dict"]:=by
  have:=hc
  unfold cN at this
  simpa using this
 simp only[HL,Ic,IY]at ht hc'
 rcases ht with rfl|rfl|rfl|rfl|rfl|rfl|rfl<;>rcases hc' with rfl|rfl|rfl|rfl|rfl|rfl <;>
  first
   |(unfold PySem.W.kitOne;rw[if_pos (by decide)];rfl)
   |(unfold PySem.W.kitOne;rw[if_neg (by decide),qg];decide +kernel)
def qh{S:aq}{p:PV}{t:String}(h:ml S p=some t):t∈["NoneType","bool","int","str","tuple","list","dict"]:=by
 unfold ml at h
 split at h<;>first|(cases h;decide)|(split at h<;>first|(cases h;decide)|cases h)|cases h
section
variable {X:Cx}
noncomputable def vi:List PV->Option (List String)
 |[]=>some []
 | .ty c::r=>if cN c then (vi r).map (c::·) else none
 |_::_=>none
def i0:oi:=fun ps S Q=>match ps with
 |[x,.ty c]=>(match ml S x with|some t=>cN c=true/\Q (.bl (fe t c)) S|none=>False)
 |[x,.tup cs]=>(match ml S x,vi cs with|some t,some l=>Q (.bl (l.any (fe t))) S|_,_=>False)
 |_=>False
def sB{K:Vo}{H:Hp}{t:String}(ht:t∈["NoneType","bool","int","str","tuple","list","dict"]):∀(cs:List PV) {l:List String} {vs:List V} {its:Vv},vi cs=some l->Reps K H vs cs->Vals vs its->PySem.W.kitAny K (.type t) its=some (l.any (fe t)):=by
 intro cs
 induction cs with
 |nil=>intro l vs its h rs r;cases h;cases rs;cases r;rfl
 |cons p cs ih=>
  intro l vs its h rs r
  cases p with
  |ty c=>
   unfold vi at h
   split at h
   ·rename_i hc
    cases e:vi cs with
    |none=>rw[e]at h;cases h
    |some l'=>
     rw[e]at h
     cases h
     cases rs with
     |cons a rs=>
      cases a
      cases r with
      |@cons _ u _ us r1 r2=>
       cases (show u=Value.type c from r1)
       show(match PySem.W.kitOne K (.type t) (.type c)with|some true=>some true|some false=>PySem.W.kitAny K (.type t) us|none=>none)=_
       rw[m7 ht hc,K1]
       cases fe t c with
       |true=>rfl
       |false=>exact ih e rs r2
   ·cases h
  |_=>cases h
def i3:fZ X (.builtin "isinstance") i0:=⟨fun pins s σ H xs us Q I r ⟨ps,S,Q3,rp,rS,q,k⟩=>by
 have main:∀{v:PV} {x:V} {u:Value} {t:String},Rep X.K H x v->RelV x u->ml S v=some t->∃(h:Heap->Prop),PySem.W.KitX X.K u (.type t) h/\h s.heap/\u ≠ .builtin "__main__.__loader__#opaque":=by
  intro v x u t rv rx ht
  cases rv with
  |non=>cases ht;cases rx;exact⟨_,PySem.W.kitx_none,True.intro,fun z=>nomatch z⟩
  |bl b=>cases ht;cases rx;exact⟨_,PySem.W.kitx_bool,True.intro,fun z=>nomatch z⟩
  |int b=>cases ht;obtain⟨t,rfl⟩:=rx;exact⟨_,PySem.W.kitx_int,True.intro,fun z=>nomatch z⟩
  |str b=>cases ht;obtain⟨t,rfl⟩:=rx;exact⟨_,PySem.W.kitx_str,True.intro,fun z=>nomatch z⟩
  |ty b=>cases ht
  |exc _ _ _=>cases ht
  |cls _=>cases ht
  |tup h rs=>
   cases ht;cases rx
   obtain⟨its,_,⟨o,ho,hc,_⟩,_⟩:=I.tuple h
   exact⟨_,PySem.W.kitx_tuple,⟨o,ho,hc⟩,fun z=>nomatch z⟩
  |cl h rs=>
   cases ht;cases rx
   obtain⟨its,_,⟨o,n,ho,hc,_⟩,_⟩:=I.list h.sq
   exact⟨_,PySem.W.kitx_list,⟨o,ho,hc⟩,fun z=>nomatch z⟩
  |ref a=>
   cases rx
   unfold ml at ht
   simp only at ht
   split at ht
   ·rename_i e
    cases ht
    obtain⟨vs,hv,_⟩:=rS _ _ e
    obtain⟨its,_,⟨o,n,ho,hc,_⟩,_⟩:=I.list (SqL.of hv)
    exact⟨_,PySem.W.kitx_list,⟨o,ho,hc⟩,fun z=>nomatch z⟩
   ·rename_i e
    cases ht
    obtain⟨vs,hv,_⟩:=rS _ _ e
    obtain⟨_,_,vs',_,p⟩:=(show Ac X.prog X.w H s.heap _ (.dK vs)from I.hok _ _ hv)
    obtain⟨o,es,ep,h1,h2,_⟩:=p
    exact⟨_,PySem.W.kitx_dict,⟨o,h1,h2.1⟩,fun z=>nomatch z⟩
   ·cases ht
 unfold i0 at q
 split at q
 ·split at q
  ·rename_i ht
   cases rp with
   |cons a rr=>
    cases rr with
    |cons b r3=>
     cases r3;cases b
     cases r with
     |cons r1 r2=>
      cases r2 with
      |cons r4 r5=>
       cases r5
       cases (show _=Value.type _ from r4)
       obtain⟨h,Z,hp,hx⟩:=main a r1 ht
       exact PySem.W.kia_one Z I.C9 hp (m7 (qh ht) q.1) hx fun tk=>⟨.bl _,H,I.tok _,rfl,k _ S _ H q.2 (.bl _) rS .refl⟩
  ·exact q.elim
 ·split at q
  ·rename_i ht hl
   cases rp with
   |cons a rr=>
    cases rr with
    |cons b r3=>
     cases r3
     cases b with
     |tup h1 rs=>
      cases r with
      |cons r1 r2=>
       cases r2 with
       |cons r4 r5=>
        cases r5
        cases r4
        obtain⟨h,Z,hp,hx⟩:=main a r1 ht
        exact mi I Z hp hx h1 (fun its rv=>sB (qh ht) _ hl rs rv) fun tk=>⟨.bl _,H,I.tok _,rfl,k _ S _ H q (.bl _) rS .refl⟩
  ·exact q.elim
 ·exact q.elim⟩
end
abbrev lN:=PV->List PV->aq->bQ->Prop
section
variable {X:Cx} {e o:Expr} {es:List Expr} {te to:aQ} {ts:List aQ} {name:Str} {p pos apos cpos:Pos} {T id:String}
inductive LM (X:Cx) (r:lN) (x:V) (xs:List V) (H:Hp) (Q:VK):Prop
 |mk (px ps S Q3) (rx:Rep X.K H x px) (rs:Reps X.K H xs ps) (rS:zQ X.K H S) (h:r px ps S Q3) (k:C5 X.K H Q3 Q):LM X r x xs H Q
structure oj (X:Cx) (id:String) (r:lN):Prop where
 ok:uL X id (LM X r)
def mn(T:String)(x:PV)(S:aq):Prop:=match x with
 | .str _=>T = "str"
 | .ref a=>(match S a with|some (.lst _)=>T = "list" | some (.dct _)=>T = "dict" | _=>False)
 | .cl _=>T = "list"
 |_=>False
def qi{H:Hp}{S:aq}{v:V}{p:PV}(rS:zQ X.K H S)(r:Rep X.K H v p)(h:mn T p S):xP X.K T v H:=by
 cases r with
 |str x=>exact h
 |ref a=>
  unfold mn at h
  simp only at h
  split at h
  ·rename_i e
   obtain⟨vs,hv,_⟩:=rS _ _ e
   exact .inl ⟨h,_,SqL.of hv⟩
  ·rename_i e
   obtain⟨vs,hv,_⟩:=rS _ _ e
   exact .inr (.inr (.inl ⟨h,.inl ⟨_,hv⟩⟩))
  ·exact h.elim
 |cl h1 _=>exact .inl ⟨h,_,h1.sq⟩
 |_=>exact h.elim
def d_(T:String)(r:lN)(to:aQ)(ts:List aQ):aQ:=fun σ S Q E=>to σ S (fun x S1=>mn T x S1/\ao ts σ S1 (fun ps S2=>r x ps S2 Q) E) E
def yI{r:lN}(pa:PlainAttrs T)(slot:Slot T name id)(hty:typeOf (.builtin id)=pure (.type "method_descriptor"))(hm:oj X id r)(hs:starEach (e::es) X.env=(false,eval e X.env)::starEach es X.env)(ho:aZ X o to)(ha:iw X (e::es) ts)
  (hbase:attributeBase o name X.env (eval o X.env)=eval o X.env:=by rfl)
  (hfew:((backTo cpos (starEach (e::es) X.env)).all (fun x=>!x.1)&&(backToKw cpos (keywordEach [] X.env)).all (fun x=>x.1.isSome)
   && decide ((e::es).length+([]:List Keyword).length+(if ([]:List Keyword).isEmpty then 0 else 1) < 30))=true:=by rfl)
  (hline:(apos.endLine == cpos.line)=true:=by rfl) (hplain:(backTo cpos (starEach es X.env)).any (·.1)=false:=by rfl):aZ X (.Call (.Attribute o name apos) (e::es) [] cpos) (d_ T r to ts):=
 ⟨aK (wI pa slot hty hm.ok ho.ok ha.ok hbase hfew hline hs hplain) fun σ H Q ⟨σ3,S,Q3,E3,rσ,rS,h,xo,k⟩=>⟨σ3,S,_,E3,rσ,rS,h,xo,fun x S1 v H1 h1 rx zT g1=>
  ⟨qi zT rx h1.1,bM (rσ.mono g1) zT h1.2 (xo.mono g1) fun ps S2 vs H2 hl q rv Bb g2=>⟨x,ps,S2,Q3,rx.mono g2,rv,Bb,q,k.mono (g1.trans g2)⟩⟩⟩⟩
def w4{r:lN}(pa:PlainAttrs T)(slot:Slot T name id)(hty:typeOf (.builtin id)=pure (.type "method_descriptor"))(hm:oj X id r)(ho:aZ X o to)
  (hbase:attributeBase o name X.env (eval o X.env)=eval o X.env:=by rfl) (hline:(apos.endLine == cpos.line)=true:=by rfl):aZ X (.Call (.Attribute o name apos) [] [] cpos) (d_ T r to []):=
 ⟨aK (uO pa slot hty hm.ok ho.ok hbase hline) fun σ H Q ⟨σ3,S,Q3,E3,rσ,rS,h,xo,k⟩=>⟨σ3,S,_,E3,rσ,rS,h,xo,fun x S1 v H1 h1 rx zT g1=>
  ⟨qi zT rx h1.1,⟨x,[],S1,Q3,rx,.nil,zT,h1.2,k.mono g1⟩⟩⟩⟩
def bm:lN:=fun x ps S Q=>match x,ps with
 | .ref a,[y]=>(match S a with|some (.lst xs)=>xs.length < sizeLine/\Q .non (zL S a (.lst (xs++[y])))|_=>False)
 |_,_=>False
def dA:oj X "list.append" bm:=⟨fun pins s σ H x xs v us Q I rx rs ⟨px,ps,S,Q3,r1,rp,rS,q,k⟩=>by
 unfold bm at q
 split at q
 ·split at q
  ·rename_i e
   cases r1
   cases rp with
   |cons b rr=>
    cases rr
    obtain⟨vs,hv,rl⟩:=rS _ _ e
    exact nN pins s σ H _ _ v us Q I rx rs ⟨_,_,_,rfl,rfl,hv,by rw[rl.length];exact q.1,k _ _ _ _ q.2 .non (rS.put hv trivial ⟨_,aw,(rl.append (.cons b .nil)).mono (.mut hv trivial)⟩) (.mut hv trivial)⟩
  ·exact q.elim
 ·exact q.elim⟩
def bf:lN:=fun x ps S Q=>match x,ps with
 | .ref a,[.ref b]=>(match S a,S b with|some (.lst xs),some (.lst ys)=>xs.length+ys.length<=sizeLine/\Q .non (zL S a (.lst (xs++ys)))|_,_=>False)
 |_,_=>False
def eu:oj X "list.extend" bf:=⟨fun pins s σ H x xs v us Q I rx rs ⟨px,ps,S,Q3,r1,rp,rS,q,k⟩=>by
 unfold bf at q
 split at q
 ·split at q
  ·rename_i e e2
   cases r1
   cases rp with
   |cons b rr=>
    cases rr
    cases b
    obtain⟨vs,hv,rl⟩:=rS _ _ e
    obtain⟨us',hu,ru⟩:=rS _ _ e2
    exact nO pins s σ H _ _ v us Q I rx rs ⟨_,_,_,_,rfl,rfl,hv,hu,by rw[rl.length,ru.length];exact q.1,k _ _ _ _ q.2 .non (rS.put hv trivial ⟨_,aw,(rl.append ru).mono (.mut hv trivial)⟩) (.mut hv trivial)⟩
  ·exact q.elim
 ·exact q.elim⟩
def li:lN:=fun x ps S Q=>match x,ps with
 | .ref a,[]=>(match S a with|some (.lst xs)=>(match xs[xs.length - 1]? with|some y=>Q y (zL S a (.lst xs.dropLast))|none=>False)|_=>False)
 | .ref a,[.int i]=>(match S a with|some (.lst xs)=>-(2 ^ 63)<=i/\i < 2 ^ 63/\(match seqIndex? i xs.length with|some j=>(match xs[j]? with|some y=>Q y (zL S a (.lst (xs.eraseIdx j)))|none=>False)|none=>False)|_=>False)
 |_,_=>False
def tU:oj X "list.pop" li:=⟨fun pins s σ H x xs v us Q I rx rs ⟨px,ps,S,Q3,r1,rp,rS,q,k⟩=>by
 unfold li at q
 split at q
 ·split at q
  ·rename_i e
   split at q
   ·rename_i ey
    cases r1
    cases rp
    obtain⟨vs,hv,rl⟩:=rS _ _ e
    rw[<-rl.length]at ey
    obtain⟨y',FC,ry⟩:=rl.get ey
    exact uP pins s σ H _ _ v us Q I rx rs ⟨_,_,_,rfl,rfl,hv,FC,k _ _ _ _ q (ry.mono (.mut hv trivial)) (rS.put hv trivial ⟨_,aw,rl.dropLast.mono (.mut hv trivial)⟩) (.mut hv trivial)⟩
   ·exact q.elim
  ·exact q.elim
 ·split at q
  ·rename_i e
   obtain⟨h1,h2,q⟩:=q
   split at q
   ·rename_i ej
    split at q
    ·rename_i ey
     cases r1
     cases rp with
     |cons b rr=>
      cases rr;cases b
      obtain⟨vs,hv,rl⟩:=rS _ _ e
      obtain⟨y',FC,ry⟩:=rl.get ey
      rw[<-rl.length]at ej
      exact pA pins s σ H _ _ v us Q I rx rs ⟨_,_,_,_,_,rfl,rfl,hv,h1,h2,ej,FC,k _ _ _ _ q (ry.mono (.mut hv trivial)) (rS.put hv trivial ⟨_,aw,(rl.eraseIdx _).mono (.mut hv trivial)⟩) (.mut hv trivial)⟩
    ·exact q.elim
   ·exact q.elim
  ·exact q.elim
 ·exact q.elim⟩
def f9:lN:=fun x ps S Q=>match x,ps with
 | .ref a,[]=>(match S a with|some (.lst xs)=>Q .non (zL S a (.lst xs.reverse))|_=>False)
 |_,_=>False
def ol:oj X "list.reverse" f9:=⟨fun pins s σ H x xs v us Q I rx rs ⟨px,ps,S,Q3,r1,rp,rS,q,k⟩=>by
 unfold f9 at q
 split at q
 ·split at q
  ·rename_i e
   cases r1;cases rp
   obtain⟨vs,hv,rl⟩:=rS _ _ e
   exact l4 pins s σ H _ _ v us Q I rx rs ⟨_,_,rfl,rfl,hv,k _ _ _ _ q .non (rS.put hv trivial ⟨_,aw,rl.reverse.mono (.mut hv trivial)⟩) (.mut hv trivial)⟩
  ·exact q.elim
 ·exact q.elim⟩
noncomputable def texts:List PV->Option (List Str)
 |[]=>some []
 | .str b::r=>(texts r).map (b::·)
 |_::_=>none
theorem i4{K:Vo}{H:Hp}:∀{vs:List V} {ps:List PV} {bs:Vs},Reps K H vs ps->texts ps=some bs->vs=bs.map V.str
 |_,_,_,.nil,h=>by cases h;rfl
 |_,_,bs,.cons (p:=p) a r,h=>by
  cases p with
  |str b=>
   cases a
   unfold texts at h
   cases e:texts _ with
   |none=>rw[e]at h;cases h
   |some l=>rw[e]at h;cases h;rw[i4 r e];rfl
  |_=>cases h
def jV:lN:=fun x ps S Q=>match x,ps with
 | .str z,[.ref a]=>(match S a with|some (.lst xs)=>(match texts xs with|some ys=>(ys.map (·.length)).sum+ys.length * z.length<=1000000/\Q (.str (Txt.join z ys)) S|none=>False)|_=>False)
 |_,_=>False
def qj:oj X "str.join" jV:=⟨fun pins s σ H x xs v us Q I rx rs ⟨px,ps,S,Q3,r1,rp,rS,q,k⟩=>by
 unfold jV at q
 split at q
 ·split at q
  ·rename_i e
   split at q
   ·rename_i et
    cases r1
    cases rp with
    |cons b rr=>
     cases rr;cases b
     obtain⟨vs,hv,rl⟩:=rS _ _ e
     have e2:=i4 rl et
     subst e2
     exact sf pins s σ H _ _ v us Q I rx rs ⟨_,_,_,rfl,rfl,SqL.of hv,q.1,k _ S _ H q.2 (.str _) rS .refl⟩
   ·exact q.elim
  ·exact q.elim
 ·exact q.elim⟩
def gM:lN:=fun x ps S Q=>match x,ps with
 | .str a,[.str b]=>(match Builtin.Str.occurrences a b 0 a.length 1 with|i::_=>Q (.int i) S|[]=>False)
 |_,_=>False
def sC:oj X "str.index" gM:=⟨fun pins s σ H x xs v us Q I rx rs ⟨px,ps,S,Q3,r1,rp,rS,q,k⟩=>by
 unfold gM at q
 split at q
 ·split at q
  ·rename_i e
   cases r1
   cases rp with
   |cons b rr=>
    cases rr;cases b
    exact pM pins s σ H _ _ v us Q I rx rs ⟨_,_,_,_,rfl,rfl,e,k _ S _ H q (.int _) rS .refl⟩
  ·exact q.elim
 ·exact q.elim⟩
end
section
variable {X:Cx} {e c:Expr} {te:aQ} {st:Stmt} {rest a b:List Stmt} {t u:bH} {tc:iu} {pos:Pos}
def aM:bH:=fun D σ S=>D.nx σ S
def af(t u:bH):bH:=fun D σ S=>t { D with nx:=u D } σ S
def aI:gJ X [] aM:=⟨mY rn fun D σ H ⟨σ3,S,D3,rσ,rS,h,xo,n,r,bk,ct⟩=>n σ3 S σ H h rσ rS .refl⟩
def ab(h1:l_ X st t)(h2:gJ X rest u):gJ X (st::rest) (af t u):=
 ⟨mY (oV h1.ok h2.ok) fun D σ H ⟨σ3,S,D3,rσ,rS,h,xo,n,r,bk,ct⟩=>⟨σ3,S,{ D3 with nx:=u D3 },rσ,rS,h,xo,fun σ4 S' σ' H' h' Dq Bn g=>⟨σ4,S',D3,Dq,Bn,h',xo.mono g,n.mono g,r.mono g,bk.mono g,ct.mono g⟩,r,bk,ct⟩⟩
def ak(h1:l_ X st t):gJ X [st] t:=⟨rq h1.ok⟩
def aU(te:aQ):bH:=fun D σ S=>te σ S (fun _ S1=>D.nx σ S1) D.ex
def bw(he:aZ X e te)(hs:swapsWith e none pos.line X.env=pure false:=by rfl):l_ X (.Expr e pos) (aU te):=
 ⟨cJ (rA he.ok hs) fun D σ H ⟨σ3,S,D3,rσ,rS,h,xo,n,r,bk,ct⟩=>⟨σ3,S,_,D3.ex,rσ,rS,h,xo,fun p S1 v H1 h1 rv zT g1=>n σ3 S1 σ H1 h1 (rσ.mono g1) zT g1⟩⟩
def az(te:aQ):bH:=fun D σ S=>te σ S D.rt D.ex
def ar(he:aZ X e te):l_ X (.Return (some e) pos) (az te):=
 ⟨cJ (um he.ok) fun D σ H ⟨σ3,S,D3,rσ,rS,h,xo,n,r,bk,ct⟩=>⟨σ3,S,D3.rt,D3.ex,rσ,rS,h,xo,r⟩⟩
def bh(c:iu)(t u:bH):bH:=fun D σ S=>c σ S (fun b S1=>if b=true then t D σ S1 else u D σ S1) D.ex
def bb(hc:l9 X c tc)(ha:gJ X a t)(hb:gJ X b u):l_ X (.If c a b pos) (bh tc t u):=
 ⟨cJ (wj hc.ok ha.ok hb.ok) fun D σ H ⟨σ3,S,D3,rσ,rS,h,xo,n,r,bk,ct⟩=>⟨σ3,S,_,D3.ex,rσ,rS,h,xo,fun z S1 H1 h1 zT g1=>by
  cases z with
  |true=>rw[if_pos rfl]at h1 ⊢;exact⟨σ3,S1,D3,rσ.mono g1,zT,h1,xo.mono g1,n.mono g1,r.mono g1,bk.mono g1,ct.mono g1⟩
  |false=>rw[if_neg (by decide)]at h1 ⊢;exact⟨σ3,S1,D3,rσ.mono g1,zT,h1,xo.mono g1,n.mono g1,r.mono g1,bk.mono g1,ct.mono g1⟩⟩⟩
def au(i:Nat)(te:aQ):bH:=fun D σ S=>te σ S (fun v S1=>D.nx (σ.set i (some v)) S1) D.ex
def qk{i:Nat}{D:lR}{σ:L2.St}{H:Hp}:LS X (au i te) D σ H->rE (LE X te) (kZ i) D σ H:=fun⟨σ3,S,D3,rσ,rS,h,xo,n,r,bk,ct⟩=>
 ⟨σ3,S,_,D3.ex,rσ,rS,h,xo,fun p S1 v H1 h1 rv zT g1=>n _ S1 _ H1 h1 ((rσ.mono g1).set rv i) zT g1⟩
def w5{i:Nat}{x:Str}{pos':Pos}(hN:X.N.Nodup)(hi:X.N[i]?=some x)(hx:tG X.env.scope x)(he:aZ X e te)(hs:swapsWith e (some (.Name x pos')) pos.line X.env=pure false:=by rfl)
  (hf:X.fn x=true\/X.env.scope.names.lookup x=some .local:=by first|exact .inl rfl|exact .inr rfl|assumption):l_ X (.Assign [.Name x pos'] e pos) (au i te):=⟨cJ (ut hN hi hx he.ok hs hf) fun _ _ _=>qk⟩
def om(i j:Nat)(ta tb:aQ):bH:=fun D σ S=>ta σ S (fun v S1=>tb σ S1 (fun w S2=>D.nx ((σ.set i (some v)).set j (some w)) S2) D.ex) D.ex
def tV{i j:Nat}{x y:Str}{a b:Expr}{ta tb:aQ}{px py pt:Pos}{kt k2 DX}(hc:X.calm=true)(hN:X.N.Nodup)(hi:X.N[i]?=some x)(hj:X.N[j]?=some y)(hij:i≠j)
  (hx:X.env.scope.names.lookup x=some .local) (hy:X.env.scope.names.lookup y=some .local) (ha:iw X [a,b] [ta,tb])
  (hw:swappedStores [.Tuple [.Name x px,.Name y py] kt pt] (.Tuple [a,b] k2 DX) X.env=pure (some [x,y]):=by rfl)
  (hs:swapsWithSole [.Tuple [.Name x px,.Name y py] kt pt] (.Tuple [a,b] k2 DX) pos.line X.env=pure false:=by rfl) :
  l_ X (.Assign [.Tuple [.Name x px,.Name y py] kt pt] (.Tuple [a,b] k2 DX) pos) (om i j ta tb):=
 ⟨cJ (uu hc hN hi hj hij hx hy ha.ok hw hs) fun D σ H ⟨σ3,S,D3,rσ,rS,h,xo,n,r,bk,ct⟩=>
  ⟨σ3,S,_,D3.ex,rσ,rS,h,xo,fun v S1 v' H1 h1 rv zT g1=>⟨σ3,S1,_,D3.ex,rσ.mono g1,zT,h1,xo.mono g1,fun w S2 w' H2 h2 rw' Bb g2=>
   ⟨v',w',rfl,n _ S2 _ H2 h2 (((rσ.mono (g1.trans g2)).set (rv.mono g2) i).set rw' j) Bb (g1.trans g2)⟩⟩⟩⟩
def i5(i j k:Nat)(te:aQ):bH:=fun D σ S=>te σ S (fun p S1=>match p with | .tup [v,w,u]=>D.nx (((σ.set k (some u)).set j (some w)).set i (some v)) S1|_=>False) D.ex
def sD{i j k:Nat}{x y z:Str}{px py pz pt:Pos}{kt:Nat}(hc:X.calm=true)(hN:X.N.Nodup)(hi:X.N[i]?=some x)(hj:X.N[j]?=some y)(hk:X.N[k]?=some z)
  (hx:X.env.scope.names.lookup x=some .local) (hy:X.env.scope.names.lookup y=some .local) (hz:X.env.scope.names.lookup z=some .local) (he:aZ X e te)
  (hw:swappedStores [.Tuple [.Name x px,.Name y py,.Name z pz] kt pt] e X.env=pure (some [x,y,z]):=by rfl)
  (hs:swapsWithSole [.Tuple [.Name x px,.Name y py,.Name z pz] kt pt] e pos.line X.env=pure false:=by rfl):l_ X (.Assign [.Tuple [.Name x px,.Name y py,.Name z pz] kt pt] e pos) (i5 i j k te):=
 ⟨cJ (pN hc hN hi hj hk hx hy hz he.ok hw hs) fun D σ H ⟨σ3,S,D3,rσ,rS,h,xo,n,r,bk,ct⟩=>⟨σ3,S,_,D3.ex,rσ,rS,h,xo,fun p S1 v H1 h1 rv zT g1=>by
  try dsimp only at h1
  split at h1
  ·cases rv with
   |tup hq rs=>
    cases rs with
    |cons r1 rs=>
     cases rs with
     |cons r2 rs=>
      cases rs with
      |cons r3 rs=>
       cases rs
       exact⟨_,_,_,_,rfl,hq,n _ S1 _ H1 h1 ((((rσ.mono g1).set r3 k).set r2 j).set r1 i) zT g1⟩
  ·exact h1.elim⟩⟩
inductive Tg where
 |n (i:Nat)|tp (l:Tg)|nil|cons (a r:Tg)
mutual
noncomputable def Tg.put:Tg->PV->bY->Option bY
 | .n i,p,σ=>some (σ.set i (some p))
 | .tp l,.tup xs,σ=>l.zN xs σ
 |_,_,_=>none
noncomputable def Tg.zN:Tg->List PV->bY->Option bY
 | .nil,[],σ=>some σ
 | .cons a r,x::xs,σ=>(match a.put x σ with|some σ'=>r.zN xs σ'|none=>none)
 |_,_,_=>none
end
noncomputable def Tg.len:Tg->Nat
 | .cons _ r=>r.len+1
 |_=>0
mutual
noncomputable def Tg.g2(K:Vo):Tg->TG
 | .n i=>kZ i
 | .tp l=>wn K l.len (l.DI K)
 |_=>fun _ _ _ _=>False
noncomputable def Tg.DI(K:Vo):Tg->tH
 | .nil=>wm
 | .cons a r=>tI (a.g2 K) (r.DI K)
 |_=>fun _ _ _ _=>False
end
noncomputable def Tg.under(own:Nat):Tg->Bool
 | .n i=>decide (i < own)
 | .tp l=>l.under own
 | .nil=>true
 | .cons a r=>a.under own&&r.under own
theorem Tg.zX:∀(g:Tg) {ps:List PV} {σ3 σ4:bY},g.zN ps σ3=some σ4->ps.length=g.len
 | .nil,ps,σ3,σ4,h=>by
  cases ps with
  |nil=>rfl
  |cons _ _=>unfold Tg.zN at h;cases h
 | .cons a r,ps,σ3,σ4,h=>by
  cases ps with
  |nil=>unfold Tg.zN at h;cases h
  |cons x xs=>
   unfold Tg.zN at h
   split at h
   ·rw[HW,Tg.zX r h];rfl
   ·cases h
 | .n _,ps,σ3,σ4,h=>by unfold Tg.zN at h;cases h
 | .tp _,ps,σ3,σ4,h=>by unfold Tg.zN at h;cases h
mutual
theorem Tg.B_{K:Vo}{H:Hp}{own:Nat}:∀(g:Tg) {v:V} {p:PV} {σ:L2.St} {σ3 σ4:bY} {Q:L2.St->Hp->Prop},Rep K H v p->zR K H σ σ3->g.put p σ3=some σ4->(∀σ',zR K H σ' σ4->(g.under own=true->σ'.drop own=σ.drop own)->Q σ' H)->g.g2 K v σ H Q
 | .n i,v,p,σ,σ3,σ4,Q,r,rσ,h,k=>by
  unfold Tg.put at h
  cases h
  unfold Tg.g2
  refine k _ (rσ.set r i) fun hb=>?_
  have hi:i < own:=of_decide_eq_true hb
  rw[List.drop_set]
  rw[if_pos hi]
 | .tp l,v,p,σ,σ3,σ4,Q,r,rσ,h,k=>by
  cases p with
  |tup xs=>
   unfold Tg.put at h
   cases r with
   |tup hq rs=>
    have hg:=Tg.CO (own:=own) l rs rσ h k
    unfold Tg.g2
    exact⟨_,_,rfl,hq,rs.length.trans (Tg.zX l h),hg⟩
  |_=>unfold Tg.put at h;cases h
 | .nil,v,p,σ,σ3,σ4,Q,r,rσ,h,k=>by unfold Tg.put at h;cases h
 | .cons _ _,v,p,σ,σ3,σ4,Q,r,rσ,h,k=>by unfold Tg.put at h;cases h
theorem Tg.CO{K:Vo}{H:Hp}{own:Nat}:∀(g:Tg) {vs:List V} {ps:List PV} {σ:L2.St} {σ3 σ4:bY} {Q:L2.St->Hp->Prop},Reps K H vs ps->zR K H σ σ3->g.zN ps σ3=some σ4->(∀σ',zR K H σ' σ4->(g.under own=true->σ'.drop own=σ.drop own)->Q σ' H)->g.DI K vs σ H Q
 | .nil,vs,ps,σ,σ3,σ4,Q,r,rσ,h,k=>by
  cases ps with
  |nil=>
   unfold Tg.zN at h
   cases h
   cases r
   unfold Tg.DI
   exact⟨rfl,k _ rσ fun _=>rfl⟩
  |cons _ _=>unfold Tg.zN at h;cases h
 | .cons a r',vs,ps,σ,σ3,σ4,Q,r,rσ,h,k=>by
  cases ps with
  |nil=>unfold Tg.zN at h;cases h
  |cons x xs=>
   unfold Tg.zN at h
   split at h
   ·rename_i σ5 e5
    cases r with
    |cons r1 r2=>
     unfold Tg.DI
     refine⟨_,_,rfl,Tg.B_ (own:=own) a r1 rσ e5 fun σ' Dq d1=>Tg.CO (own:=own) r' r2 Dq h fun G1 FD d2=>k G1 FD fun hb=>?_⟩
     have hb':a.under own=true/\r'.under own=true:=by simpa [Tg.under]using hb
     rw[d2 hb'.2,d1 hb'.1]
   ·cases h
 | .n _,vs,ps,σ,σ3,σ4,Q,r,rσ,h,k=>by unfold Tg.zN at h;cases h
 | .tp _,vs,ps,σ,σ3,σ4,Q,r,rσ,h,k=>by unfold Tg.zN at h;cases h
end
structure re (X:Cx) (e:Expr) (g:Tg):Prop where
 ok:PG X e (g.g2 X.K)
structure sE (X:Cx) (es:List Expr) (g:Tg):Prop where
 ok:wk X es (g.DI X.K)
 len:(assignEach es X.env).length=g.len
def zx(i:Nat){x:Str}(hN:X.N.Nodup)(hi:X.N[i]?=some x)(hx:tG X.env.scope x)(hf:X.fn x=true\/X.env.scope.names.lookup x=some .local:=by first|exact .inl rfl|exact .inr rfl|assumption):re X (.Name x pos) (.n i):=⟨by
 have h:=rC (pos:=pos) hN hi hx hf
 unfold Tg.g2
 exact h⟩
def dB:sE X [] .nil:=⟨by unfold Tg.DI;exact rD,rfl⟩
def aV{es:List Expr}{a r:Tg}(h1:re X e a)(h2:sE X es r)(hs:(assignEach (e::es) X.env).map (·.2)=assign e X.env::(assignEach es X.env).map (·.2):=by rfl)(hl:(assignEach (e::es) X.env).length=(assignEach es X.env).length+1:=by rfl):sE X (e::es) (.cons a r):=
 ⟨by unfold Tg.DI;exact oW h1.ok h2.ok hs,by rw[hl,h2.len];rfl⟩
def on{es:List Expr}{k:Nat}{l:Tg}(hc:X.calm=true)(h:sE X es l)(hst:(assignEach es X.env).findIdx? (·.1)=none:=by rfl):re X (.Tuple es k pos) (.tp l):=⟨by
 have h:=uq (pos:=pos) (k:=k) hc h.ok h.len hst
 unfold Tg.g2
 exact h⟩
def qm(te:aQ)(g:Tg):bH:=fun D σ S=>te σ S (fun v S1=>match g.put v σ with|some σ'=>D.nx σ' S1|none=>False) D.ex
def w9{tg:Expr}{g:Tg}(he:aZ X e te)(hg:re X tg g)(hs:swapsWithSole [tg] e pos.line X.env=pure false:=by rfl)(hw:swappedStores [tg] e X.env=pure none:=by rfl)
  (h1:(assignEach [tg] X.env).map (·.2)=[assign tg X.env]:=by rfl):l_ X (.Assign [tg] e pos) (qm te g):=
 ⟨cJ (oX he.ok hg.ok hs hw h1) fun D σ H ⟨σ3,S,D3,rσ,rS,h,xo,n,r,bk,ct⟩=>⟨σ3,S,_,D3.ex,rσ,rS,h,xo,fun p S1 v H1 h1 rv zT g1=>by
  try dsimp only at h1
  split at h1
  ·rename_i σ' e'
   exact Tg.B_ (own:=0) g rv (rσ.mono g1) e' fun σ2 G2 _=>n _ S1 _ H1 h1 G2 zT g1
  ·exact h1.elim⟩⟩
end
noncomputable def gN{κ:Type} [DecidableEq κ](kvs:List (κ×PV))(k:κ)(v:PV):List (κ×PV):=
 if (kvs.any fun kv=>decide (kv.1=k))=true then kvs.map (fun kv=>if kv.1=k then (kv.1,v) else kv) else kvs++[(k,v)]
theorem zZ.append{K:Vo}{H:Hp}{κ:Type}:∀{vs us:List (κ×V)} {ps qs:List (κ×PV)},zZ K H vs ps->zZ K H us qs->zZ K H (vs++us) (ps++qs)
 |_,_,_,_,.nil,s=>s
 |_,_,_,_,.cons a r,s=>.cons a (zZ.append r s)
def zZ.put{K:Vo}{H:Hp}{κ:Type} [DecidableEq κ]{k:κ}{v:V}{p:PV}(q:Rep K H v p){vs:List (κ×V)}{ps:List (κ×PV)}(r:zZ K H vs ps):zZ K H (ed vs k v) (gN ps k p):=by
 have e:(vs.any fun kv=>decide (kv.1=k))=(ps.any fun kv=>decide (kv.1=k)):=by rw[iM,r.any]
 unfold ed gN
 rw[e]
 split
 ·clear e
  rename_i h
  clear h
  induction r with
  |nil=>exact .nil
  |@cons k' v' p' vs' ps' a r ih=>
   rw[Ig,Ig]
   by_cases z:k'=k
   ·rw[if_pos z,if_pos z];exact .cons q ih
   ·rw[if_neg z,if_neg z];exact .cons a ih
 ·exact r.append (.cons q .nil)
def gP(o i v:PV)(S:aq)(Q:aq->Prop):Prop:=match o with
 | .ref a=>(match S a with
  |some (.lst xs)=>(match i with | .int k=>(match nM xs.length k with|some j=>Q (zL S a (.lst (xs.set j v)))|none=>False)|_=>False)
  |some (.dct kvs)=>(match gL i with|some k=>kvs.length < sizeLine/\Q (zL S a (.dct (gN kvs k v)))|none=>False)
  |_=>False)
 |_=>False
section
variable {X:Cx} {e o i:Expr} {te to ti:aQ} {pos pos':Pos}
noncomputable def yJ(X:Cx):V->V->V->Hp->(Hp->Prop)->Prop:=fun o i v H Q=>∃po pi pv S Q3,Rep X.K H o po/\Rep X.K H i pi/\Rep X.K H v pv/\zQ X.K H S/\gP po pi pv S Q3/\∀S' H',Q3 S'->zQ X.K H' S'->Grow X.K H H'->Q H'
def vj(hu:X.A.units+1 < cLine):rB X (yJ X):=by
 intro pins s σ H o i v ov iv u Q I ro ri rv ⟨po,pi,pv,S,Q3,r1,r2,r3,rS,q,k⟩
 unfold gP at q
 split at q
 ·split at q
  ·rename_i e
   split at q
   ·split at q
    ·rename_i ej
     cases r1;cases r2
     obtain⟨vs,hv,rl⟩:=rS _ _ e
     rw[<-rl.length]at ej
     exact pg pins s σ H _ _ _ ov iv u Q I ro ri rv ⟨_,_,_,_,rfl,rfl,hv,ej,k _ _ q (rS.put hv trivial ⟨_,aw,((rl.set r3 _).mono (.mut hv trivial))⟩) (.mut hv trivial)⟩
    ·exact q.elim
   ·exact q.elim
  ·rename_i e
   split at q
   ·rename_i ek
    cases r1
    have e1:=cp r2 ek
    subst e1
    obtain⟨kv,hv,rk⟩:=rS _ _ e
    exact qd hu pins s σ H _ _ _ ov iv u Q I ro ri rv ⟨_,_,rfl,Dc.k hv (by rw[rk.length];exact q.1),k _ _ q.2 (rS.put hv trivial ⟨_,aw,(rk.put r3).mono (.mut hv trivial)⟩) (.mut hv trivial)⟩
   ·exact q.elim
  ·exact q.elim
 ·exact q.elim
def kB(te to ti:aQ):bH:=fun D σ S=>te σ S (fun v S1=>to σ S1 (fun o S2=>ti σ S2 (fun i S3=>gP o i v S3 (fun S4=>D.nx σ S4)) D.ex) D.ex) D.ex
def ll(hu:X.A.units+1 < cLine)(he:aZ X e te)(ho:aZ X o to)(hi:aZ X i ti)
  (ha:∀v,assign (.Subscript o i pos') X.env v=(do
   let ov <-holding [v] (eval o X.env)
   let iv <-holding [v,ov] (eval i X.env)
   standAt pos'
   holding [v,ov,iv] (setItem ov iv v)
   release [v,ov,iv] []):=by intro _;rfl)
  (hs:swapsWithSole [.Subscript o i pos'] e pos.line X.env=pure false:=by rfl) (hw:swappedStores [.Subscript o i pos'] e X.env=pure none:=by rfl)
  (h1:(assignEach [.Subscript o i pos'] X.env).map (·.2)=[assign (.Subscript o i pos') X.env]:=by rfl):l_ X (.Assign [.Subscript o i pos'] e pos) (kB te to ti):=
 ⟨cJ (oX he.ok (ur ho.ok hi.ok (vj hu) ha) hs hw h1) fun D σ H ⟨σ3,S,D3,rσ,rS,h,xo,n,r,bk,ct⟩=>⟨σ3,S,_,D3.ex,rσ,rS,h,xo,fun v S1 v' H1 h1 rv zT g1=>
  ⟨σ3,S1,_,D3.ex,rσ.mono g1,zT,h1,xo.mono g1,fun o S2 o' H2 h2 ro Bb g2=>⟨σ3,S2,_,D3.ex,rσ.mono (g1.trans g2),Bb,h2,xo.mono (g1.trans g2),fun i S3 i' H3 h3 ri Dp g3=>
   ⟨o,i,v,S3,_,ro.mono g3,ri,rv.mono (g2.trans g3),Dp,h3,fun S4 H4 h4 G3 g4=>n _ S4 _ H4 h4 (rσ.mono (g1.trans (g2.trans (g3.trans g4)))) G3 (g1.trans (g2.trans (g3.trans g4)))⟩⟩⟩⟩⟩
end
end L3
namespace L2
open PySem PySem.Spec PyProof.Rows
section
variable {X:Cx} {tg:Expr}
def yK(K:Vo)(tl:TE):TI:=fun σ H R=>tl σ H fun x H1=>(∃a,x = .ref a/\(∃xs,SqL K H1 a xs)/\R (xL K a) H1)\/(∃a,x = .ref a/\(∃xs,SqT K H1 a xs)/\R (yj K a) H1)\/∃z,x = .str z/\R (yz z) H1
def vk{l:Expr}{tl:TE}(hl:PE X l tl):PI X tg l (yK X.K tl):=by
 intro pins s σ H R I h
 refine zP (hl pins s σ H _ I h) fun v s1 ⟨x,H1,I1,r1,q1⟩=>?_
 rcases q1 with⟨a,e,⟨xs,hq⟩,q⟩|⟨a,e,⟨xs,hq⟩,q⟩|⟨z,e,q⟩
 ·subst e
  cases r1
  obtain⟨its,rv,p,hz⟩:=I1.list hq
  refine JK p.isList ?_
  refine⟨s1.heap.objs.size,[s1.heap.objs.size],_,_,H1,rfl,I1.kept (t':=s1.toks) fun b o e=>HE _ e,nF a _,⟨_,HV _ rfl,rfl,rfl⟩,fun b hb=>?_,q⟩
  have e:b=s1.heap.objs.size:=by simpa using hb
  subst e
  exact I1.Bx (HF _) (I1.hok.fresh (HF _))
 ·subst e
  cases r1
  obtain⟨its,rv,p,hz⟩:=I1.tuple hq
  refine Jc (show s1.heap.IsTuple a its.toArray from p) ?_
  refine⟨s1.heap.objs.size,[s1.heap.objs.size],_,_,H1,rfl,I1.kept (t':=s1.toks) fun b o e=>HE _ e,lS a _,⟨_,HV _ rfl,rfl,rfl⟩,fun b hb=>?_,q⟩
  have e:b=s1.heap.objs.size:=by simpa using hb
  subst e
  exact I1.Bx (HF _) (I1.hok.fresh (HF _))
 ·subst e
  obtain⟨t,rfl⟩:=r1
  have fin:∀ty,(ty = "str_ascii_iterator" \/ ty = "str_iterator")->yi X pins σ tg R (.ref s1.heap.objs.size) { s1 with heap:=s1.heap.push { cls:=.type ty,data:=.fields #[.str z t,.int 0 0] } }:=fun ty hty=>by
   refine⟨s1.heap.objs.size,[s1.heap.objs.size],_,_,H1,rfl,I1.kept (t':=s1.toks) fun b o e=>HE _ e,pL hty _ z t,⟨Il _,_,HV _ rfl,rfl,rfl⟩,fun b hb=>?_,q⟩
   have e:b=s1.heap.objs.size:=by simpa using hb
   subst e
   exact I1.Bx (HF _) (I1.hok.fresh (HF _))
  cases ha:z.cps.all (· < 128)
  ·exact wpAny_pyIter_wide ha (fin _ (.inr rfl))
  ·exact wpAny_pyIter_ascii ha (fin _ (.inl rfl))
def vm(K:Vo)(ta:TA):TI:=fun σ H R=>ta σ H fun vs H1=>∃a,vs=[.ref a]/\(((∃xs,SqL K H1 a xs)/\R (yE K a) H1)\/((∃xs,SqT K H1 a xs)/\R (yF K a) H1))
def qo{elts:List Expr}{k0:Nat}{BD:Pos}{a:Expr}{ta:TA}{p pos:Pos}(hg:Gl X "enumerate")(hm:X.mg "enumerate" = none)(hv:bootBuiltins "enumerate" = some (.type "enumerate"))(ha:PA X [a] ta)
  (hs:starEach [a] X.env=[(false,eval a X.env)]:=by rfl):PI X (.Tuple elts k0 BD) (.Call (.Name "enumerate" p) [a] [] pos) (vm X.K ta):=by
 intro pins s σ H R I h
 refine Call_ (df I hg hm hv (Ir (zP (ha pos pins s σ H _ I h) fun us s1 ⟨vs,H1,I1,r1,q1⟩=>?_) hs rfl))
 obtain⟨a,e,q⟩:=q1
 subst e
 obtain⟨u,rfl,ru⟩:=fU r1
 cases ru
 rcases q with⟨⟨xs,qa⟩,q⟩|⟨⟨xs,qa⟩,q⟩
 ·obtain⟨ia,ra,pa,za⟩:=I1.list qa
  refine call_enumerate_list pa.isList fun g ge g1 gz kk=>?_
  refine KR (s:={ s1 with heap:=g }) ge ?_
  refine⟨_,[s1.heap.objs.size+1,s1.heap.objs.size],_,_,H1,rfl,I1.kept (t':=s1.toks) kk,n6 (Nat.succ_ne_self _),⟨⟨_,ge⟩,g1⟩,fun c hc=>?_,q⟩
  have hle:s1.heap.objs.size<=c:=by
   simp only[HL,Ic,IY]at hc
   rcases hc with rfl|rfl
   ·exact Jm _ _
   ·exact HF _
  exact I1.Bx hle (I1.hok.fresh hle)
 ·obtain⟨ia,ra,pa,za⟩:=I1.tuple qa
  have la:a < s1.heap.objs.size:=by obtain⟨o,e,_⟩:=pa;exact HK e
  refine Et.iQ (show s1.heap.IsTuple a ia.toArray from pa) fun g ge g1 kk=>?_
  refine KR (s:={ s1 with heap:=g }) ge ?_
  refine⟨_,[s1.heap.objs.size+1,s1.heap.objs.size],_,_,H1,rfl,I1.kept (t':=s1.toks) kk,l7 (Nat.succ_ne_self _) (Ii (Nat.lt_succ_of_lt la)) (Ii la),⟨⟨_,ge⟩,g1⟩,fun c hc=>?_,q⟩
  have hle:s1.heap.objs.size<=c:=by
   simp only[HL,Ic,IY]at hc
   rcases hc with rfl|rfl
   ·exact Jm _ _
   ·exact HF _
  exact I1.Bx hle (I1.hok.fresh hle)
end
end L2
namespace L3
open PySem L2
structure xT where
 items:List PV
 keep:aq->Prop
def f_(K:Vo)(H0:Hp)(J:It)(src:xT):Prop:=∀(i:Nat) (S:aq) (H:Hp),Grow K H0 H->zQ K H S->src.keep S->
 (∀p,src.items[i]?=some p->J.go i H/\∀x H',J.EQ i H x H'->Rep K H' x p/\zQ K H' S/\Grow K H H')/\(i=src.items.length->J.stop i H)
abbrev qp:=bY->aq->(xT->aq->Prop)->cU->Prop
inductive LI (X:Cx) (t:qp) (σ:L2.St) (H:Hp) (R:It->Hp->Prop):Prop
 |mk (σ3 S R3 E3) (rσ:zR X.K H σ σ3) (rS:zQ X.K H S) (h:t σ3 S R3 E3) (xo:C4 X H E3) (k:∀src S' J H',R3 src S'->f_ X.K H' J src->zQ X.K H' S'->Grow X.K H H'->R J H'):LI X t σ H R
structure sF (X:Cx) (tg iter:Expr) (t:qp):Prop where
 ok:PI X tg iter (LI X t)
def kC{X:Cx}{tg iter:Expr}{t t':TI}(h:PI X tg iter t)(k:∀σ H R,t' σ H R->t σ H R):PI X tg iter t':=fun pins s σ H R I q=>h pins s σ H R I (k σ H R q)
section
variable {X:Cx} {e tg:Expr} {es:List Expr} {te:aQ} {ts:List aQ} {p pos:Pos}
noncomputable def bI(S:aq):PV->Option xT
 | .tup xs=>some ⟨xs,fun _=>True⟩
 | .cl xs=>some ⟨xs,fun _=>True⟩
 | .str z=>some ⟨z.cps.toList.map fun c=>.str (kq c),fun _=>True⟩
 | .ref a=>(match S a with|some (.lst xs)=>some ⟨xs,fun S'=>S' a=some (.lst xs)⟩|_=>none)
 |_=>none
def aG(te:aQ):qp:=fun σ S R E=>te σ S (fun v S1=>match bI S1 v with|some src=>R src S1|none=>False) E
end
section
variable {X:Cx} {e tg a b:Expr} {es:List Expr} {te ta tb:aQ} {ts:List aQ} {p pos:Pos}
def qq{K:Vo}{H0:Hp}{a:Addr}{xs:List PV}:f_ K H0 (xL K a) ⟨xs,fun S'=>S' a=some (.lst xs)⟩:=by
 intro i S H g rS hk
 obtain⟨vs,hv,rs⟩:=rS a _ hk
 refine⟨fun p hp=>?_,fun hi=>⟨vs,SqL.of hv,by rw[rs.length,hi];exact HF _⟩⟩
 obtain⟨v,hx,rv⟩:=rs.get hp
 refine⟨⟨vs,v,SqL.of hv,hx⟩,fun x H' ⟨e,h⟩=>?_⟩
 subst e
 have:=h vs (SqL.of hv)
 rw[hx]at this
 cases this
 exact⟨rv,rS,.refl⟩
def sG{K:Vo}{H0:Hp}{a:Addr}{vs:List V}{xs:List PV}(h:SqT K H0 a vs)(rs:Reps K H0 vs xs):f_ K H0 (yj K a) ⟨xs,fun _=>True⟩:=by
 intro i S H g rS _
 have hv:=g.t _ _ h
 refine⟨fun p hp=>?_,fun hi=>⟨vs,hv,by rw[rs.length,hi];exact HF _⟩⟩
 obtain⟨v,hx,rv⟩:=rs.get hp
 refine⟨⟨vs,v,hv,hx⟩,fun x H' ⟨e,h⟩=>?_⟩
 subst e
 have:=h vs hv
 rw[hx]at this
 cases this
 exact⟨rv.mono g,rS,.refl⟩
def vn{K:Vo}{H0:Hp}{a:Addr}{vs:List V}{xs:List PV}(h:Eo K H0 a vs)(rs:Reps K H0 vs xs):f_ K H0 (xL K a) ⟨xs,fun _=>True⟩:=by
 intro i S H g rS _
 have hv:=(g.c _ _ h).sq
 refine⟨fun p hp=>?_,fun hi=>⟨vs,hv,by rw[rs.length,hi];exact HF _⟩⟩
 obtain⟨v,hx,rv⟩:=rs.get hp
 refine⟨⟨vs,v,hv,hx⟩,fun x H' ⟨e,h⟩=>?_⟩
 subst e
 have:=h vs hv
 rw[hx]at this
 cases this
 exact⟨rv.mono g,rS,.refl⟩
def sH{K:Vo}{H0:Hp}{z:Str}:f_ K H0 (yz z) ⟨z.cps.toList.map fun c=>.str (kq c),fun _=>True⟩:=by
 intro i S H g rS _
 refine⟨fun p hp=>?_,fun hi=>by show z.cps.size<=i;rw[hi,HD,Lb];exact HF _⟩
 rw[HR]at hp
 cases hc:z.cps.toList[i]? with
 |none=>rw[hc]at hp;cases hp
 |some c=>
  rw[hc]at hp
  cases hp
  have hc':z.cps[i]?=some c:=by simpa using hc
  refine⟨?_,fun x H' ⟨e,c',h1,h2⟩=>?_⟩
  ·show i < z.cps.size
   by_cases hi:i < z.cps.size
   ·exact hi
   ·rw[JT (by omega)]at hc';cases hc'
  ·subst e
   rw[hc']at h1
   cases h1
   subst h2
   exact⟨.str _,rS,.refl⟩
def bN(he:aZ X e te):sF X tg e (aG te):=⟨kC (vk he.ok) fun σ H R ⟨σ3,S,R3,E3,rσ,rS,h,xo,k⟩=>⟨σ3,S,_,E3,rσ,rS,h,xo,fun v S1 v' H1 h1 rv zT g1=>by
 split at h1
 ·rename_i src hs
  unfold bI at hs
  split at hs
  ·cases hs
   cases rv with
   |tup hq rs=>exact .inr (.inl ⟨_,rfl,⟨_,hq⟩,k _ S1 _ H1 h1 (sG hq rs) zT g1⟩)
  ·cases hs
   cases rv with
   |cl hq rs=>exact .inl ⟨_,rfl,⟨_,hq.sq⟩,k _ S1 _ H1 h1 (vn hq rs) zT g1⟩
  ·cases hs
   cases rv
   exact .inr (.inr ⟨_,rfl,k _ S1 _ H1 h1 sH zT g1⟩)
  ·cases rv
   split at hs
   ·rename_i ea
    cases hs
    obtain⟨vs,hv,rs⟩:=zT _ _ ea
    exact .inl ⟨_,rfl,⟨_,SqL.of hv⟩,k _ S1 _ H1 h1 qq zT g1⟩
   ·cases hs
  ·cases hs
 ·exact h1.elim⟩⟩
noncomputable def bx(lo:Int)(n:Nat):List PV:=(List.range n).map fun(i:Nat)=>PV.int (lo+i)
def oo{K:Vo}{H0:Hp}{lo:Int}{n:Nat}:f_ K H0 (xM lo n) ⟨bx lo n,fun _=>True⟩:=by
 intro i S H g rS _
 refine⟨fun p hp=>?_,fun hi=>by show n<=i;rw[hi];simp[bx]⟩
 unfold bx at hp
 rw[HR]at hp
 by_cases hi:i < n
 ·rw[Kn hi]at hp
  cases hp
  refine⟨hi,fun x H' ⟨e,h⟩=>?_⟩
  subst e h
  exact⟨.int _,rS,.refl⟩
 ·rw[Ji (by simpa using hi)]at hp
  cases hp
def kD(ta:aQ):qp:=fun σ S R E=>ta σ S (fun v S1=>match v with | .int j=>-(2 ^ 62)<=j/\j < 2 ^ 62/\R ⟨bx 0 j.toNat,fun _=>True⟩ S1|_=>False) E
def gc(hs:starEach [a] X.env=[(false,eval a X.env)])(hg:Gl X "range")(hm:X.mg "range" = none)(ha:iw X [a] [ta]):sF X tg (.Call (.Name "range" p) [a] [] pos) (kD ta):=
 ⟨kC (nG hg hm ha.ok hs) fun σ H R ⟨σ3,S,R3,E3,rσ,rS,h,xo,k⟩=>⟨σ3,S,_,E3,rσ,rS,h,xo,fun v S1 v' H1 h1 rv zT g1=>by
  split at h1
  ·cases rv
   exact⟨_,rfl,h1.1,h1.2.1,k _ S1 _ H1 h1.2.2 oo zT g1⟩
  ·exact h1.elim⟩⟩
noncomputable def aR(xs:List PV):List PV:=xs.mapIdx fun i x=>.tup [.int i,x]
def oq{K:Vo}{H0:Hp}{a:Addr}{xs:List PV}:f_ K H0 (yE K a) ⟨aR xs,fun S'=>S' a=some (.lst xs)⟩:=by
 intro i S H g rS hk
 obtain⟨vs,hv,rs⟩:=rS a _ hk
 refine⟨fun p hp=>?_,fun hi=>⟨vs,SqL.of hv,by rw[rs.length,hi];simp[aR]⟩⟩
 unfold aR at hp
 rw[Ka]at hp
 cases hx:xs[i]? with
 |none=>rw[hx]at hp;cases hp
 |some y=>
  rw[hx]at hp
  cases hp
  obtain⟨v,hx',rv⟩:=rs.get hx
  refine⟨⟨vs,v,SqL.of hv,hx'⟩,fun x H' ⟨q,x2,e1,hq,e2,h⟩=>?_⟩
  subst e1 e2
  have:=h vs (SqL.of hv)
  rw[hx']at this
  cases this
  exact⟨.tup (SqT.of aw) (.cons (.int _) (.cons (rv.mono (.new hq)) .nil)),rS.other hq,.new hq⟩
def ot{K:Vo}{H0:Hp}{a:Addr}{vs:List V}{xs:List PV}(h0:SqT K H0 a vs)(rs:Reps K H0 vs xs):f_ K H0 (yF K a) ⟨aR xs,fun _=>True⟩:=by
 intro i S H g rS _
 have hv:=g.t _ _ h0
 refine⟨fun p hp=>?_,fun hi=>⟨vs,hv,by rw[rs.length,hi];simp[aR]⟩⟩
 unfold aR at hp
 rw[Ka]at hp
 cases hx:xs[i]? with
 |none=>rw[hx]at hp;cases hp
 |some y=>
  rw[hx]at hp
  cases hp
  obtain⟨v,hx',rv⟩:=rs.get hx
  refine⟨⟨vs,v,hv,hx'⟩,fun x H' ⟨q,x2,e1,hq,e2,h⟩=>?_⟩
  subst e1 e2
  have:=h vs hv
  rw[hx']at this
  cases this
  exact⟨.tup (SqT.of aw) (.cons (.int _) (.cons ((rv.mono g).mono (.new hq)) .nil)),rS.other hq,.new hq⟩
def cL(ta:aQ):qp:=fun σ S R E=>ta σ S (fun v S1=>match v with
 | .tup xs=>R ⟨aR xs,fun _=>True⟩ S1
 | .ref a=>(match S1 a with|some (.lst xs)=>R ⟨aR xs,fun S'=>S' a=some (.lst xs)⟩ S1|_=>False)
 |_=>False) E
def gQ{elts:List Expr}{k0:Nat}{BD:Pos}(hs:starEach [a] X.env=[(false,eval a X.env)])(hg:Gl X "enumerate")(hm:X.mg "enumerate" = none)(hv:bootBuiltins "enumerate" = some (.type "enumerate"))(ha:iw X [a] [ta]):sF X (.Tuple elts k0 BD) (.Call (.Name "enumerate" p) [a] [] pos) (cL ta):=
 ⟨kC (qo hg hm hv ha.ok hs) fun σ H R ⟨σ3,S,R3,E3,rσ,rS,h,xo,k⟩=>⟨σ3,S,_,E3,rσ,rS,h,xo,fun v S1 v' H1 h1 rv zT g1=>by
  split at h1
  ·cases rv with
   |tup hq rs=>exact⟨_,rfl,.inr ⟨⟨_,hq⟩,k _ S1 _ H1 h1 (ot hq rs) zT g1⟩⟩
  ·cases rv
   split at h1
   ·rename_i ea
    obtain⟨vs,hv,rs⟩:=zT _ _ ea
    exact⟨_,rfl,.inl ⟨⟨_,SqL.of hv⟩,k _ S1 _ H1 h1 oq zT g1⟩⟩
   ·exact h1.elim
  ·exact h1.elim⟩⟩
noncomputable def bc(xs ys:List PV):List PV:=(xs.zip ys).map fun z=>.tup [z.1,z.2]
def CW(K:Vo)(H0:Hp)(ka:Bool)(a:Addr)(xs:List PV)(keep:aq->Prop):Prop:=∀S H,Grow K H0 H->zQ K H S->keep S->∃vs,nZ ka K H a vs/\Reps K H vs xs
def CW.tup{K:Vo}{H0:Hp}{a:Addr}{vs:List V}{xs:List PV}{keep:aq->Prop}(h:SqT K H0 a vs)(r:Reps K H0 vs xs):CW K H0 false a xs keep:=fun _ _ g _ _=>⟨vs,g.t _ _ h,r.mono g⟩
theorem CW.lst{K:Vo}{H0:Hp}{a:Addr}{xs:List PV}{keep:aq->Prop}(h:∀S,keep S->S a=some (.lst xs)):CW K H0 true a xs keep:=fun S _ _ rS k=>let ⟨vs,hv,r⟩:=rS _ _ (h S k);⟨vs,SqL.of hv,r⟩
def iE{K:Vo}{H0:Hp}{ka kb:Bool}{a b:Addr}{xs ys:List PV}{keep:aq->Prop}(h1:CW K H0 ka a xs keep)(h2:CW K H0 kb b ys keep):f_ K H0 (yC ka kb K a b) ⟨bc xs ys,keep⟩:=by
 intro i S H g rS kp
 obtain⟨vs,hv,r1⟩:=h1 S H g rS kp
 obtain⟨us,hu,r2⟩:=h2 S H g rS kp
 have l1:=r1.length
 have l2:=r2.length
 refine⟨fun p hp=>?_,fun hi=>⟨vs,us,hv,hu,?_⟩⟩
 ·unfold bc at hp
  rw[HR]at hp
  cases hz:(xs.zip ys)[i]? with
  |none=>rw[hz]at hp;cases hp
  |some z=>
   rw[hz]at hp
   cases hp
   obtain⟨e1,e2⟩:=Kl.mp hz
   obtain⟨v,hx',rv⟩:=r1.get e1
   obtain⟨u,hy',ru⟩:=r2.get e2
   refine⟨⟨vs,us,v,u,hv,hu,hx',hy'⟩,fun x H' ⟨q,x2,y2,e3,hq,e4,h⟩=>?_⟩
   subst e3 e4
   obtain⟨k1,k2⟩:=h vs us hv hu
   rw[hx']at k1
   rw[hy']at k2
   cases k1;cases k2
   exact⟨.tup (SqT.of aw) (.cons (rv.mono (.new hq)) (.cons (ru.mono (.new hq)) .nil)),rS.other hq,.new hq⟩
 ·have e:(bc xs ys).length=min xs.length ys.length:=by simp[bc]
  rw[e]at hi
  by_cases hle:xs.length<=ys.length
  ·exact .inl (by omega)
  ·exact .inr (by omega)
end
section
variable {X:Cx} {iter tg c:Expr} {body:List Stmt} {ti:qp} {g:Tg} {tb:bH} {tc:iu} {pos:Pos}
noncomputable def kE(g:Tg)(tb:bH)(D:k_)(keep:aq->Prop):List PV->bY->aq->Prop
 |[],σ,S=>keep S/\D.nx σ S
 |x::r,σ,S=>keep S/\match g.put x σ with|some σ'=>tb { D with nx:=kE g tb D keep r,ct:=kE g tb D keep r,bk:=D.nx } σ' S|none=>False
def cm(ti:qp)(g:Tg)(tb:bH):bH:=fun D σ S=>ti σ S (fun src S1=>kE g tb D src.keep src.items σ S1) D.ex
def d5(hp:PassesOwn (model X.prog X.w) X.A X.env X.xe)(hc:X.calm=true)(hi:sF X tg iter ti)(hg:re X tg g)(hb:gJ X body tb)(hs:∀x,foldedSetIterable iter X.env x=pure x:=by intro _;rfl):l_ X (.For tg iter body [] pos) (cm ti g tb):=
 ⟨cJ (ux hp hc hi.ok hg.ok hb.ok hs) fun D σ H ⟨σ3,S,D3,rσ,rS,h,xo,n,r,bk,ct⟩=>⟨σ3,S,_,D3.ex,rσ,rS,h,xo,fun src S1 J H1 h1 sim zT g1=>by
  refine⟨fun i m σ' H'=>i+m=src.items.length/\∃σ4 S',zR X.K H' σ' σ4/\zQ X.K H' S'/\Grow X.K H1 H'/\kE g tb D3 src.keep (src.items.drop i) σ4 S',⟨src.items.length,Kh _,σ3,S1,rσ.mono g1,zT,.refl,by simpa using h1⟩,?_⟩
  rintro i m σ' H' ⟨hm,σ4,S',Dq,Bn,g',hw⟩
  cases hd:src.items.drop i with
  |nil=>
   rw[hd]at hw
   have hi:i=src.items.length:=by
    have:=IP List.length hd
    rw[IF,Jh]at this
    omega
   exact .inl ⟨(sim i S' H' g' Bn hw.1).2 hi,n _ S' _ H' hw.2 Dq Bn (g1.trans g')⟩
  |cons x rest=>
   rw[hd]at hw
   have hx:src.items[i]?=some x:=by
    have:=IP (fun l=>l[0]?) hd
    simpa using this
   have hrest:src.items.drop (i+1)=rest:=by
    have:=IP List.tail hd
    simpa [List.tail_drop]using this
   have hlt:i < src.items.length:=by
    by_cases z:i < src.items.length
    ·exact z
    ·rw[Ji (by omega)]at hx;cases hx
   obtain⟨go,yl⟩:=(sim i S' H' g' Bn hw.1).1 x hx
   refine .inr ⟨go,fun σ5 H5=>∃σ6 S6,zR X.K H5 σ5 σ6/\zQ X.K H5 S6/\Grow X.K H1 H5/\kE g tb D3 src.keep rest σ6 S6,?_,fun v H5 hv=>?_⟩
   ·rintro σ5 H5 ⟨σ6,S6,q1,q2,q3,q4⟩
    exact⟨m - 1,by omega,by omega,σ6,S6,q1,q2,q3,by rw[hrest];exact q4⟩
   ·obtain⟨rv,FE,g5⟩:=yl v H5 hv
    obtain⟨_,hw⟩:=hw
    split at hw
    ·rename_i σ6 e6
     refine Tg.B_ (own:=0) g rv (Dq.mono g5) e6 fun σ7 EX _=>?_
     exact⟨σ6,S',_,EX,FE,hw,xo.mono (g1.trans (g'.trans g5)),fun σ8 S8 σ9 H9 q1 q2 q3 q4=>⟨σ8,S8,q2,q3,g'.trans (g5.trans q4),q1⟩,r.mono (g1.trans (g'.trans g5)),n.mono (g1.trans (g'.trans g5)),
      fun σ8 S8 σ9 H9 q1 q2 q3 q4=>⟨σ8,S8,q2,q3,g'.trans (g5.trans q4),q1⟩⟩
    ·exact hw.elim⟩⟩
def gR(tc:iu)(tb:bH):bH:=fun D σ S=>∃W:Nat->bY->aq->Prop,(∃m,W m σ S)/\∀m σ S,W m σ S->
 tc σ S (fun b S1=>if b=true then ∃N:bY->aq->Prop,(∀σ' S',N σ' S'->∃m',m' < m/\W m' σ' S')/\tb { D with nx:=N,ct:=N,bk:=D.nx } σ S1 else D.nx σ S1) D.ex
def iF(hp:PassesOwn (model X.prog X.w) X.A X.env X.xe)(hc:l9 X c tc)(hb:gJ X body tb):l_ X (.While c body [] pos) (gR tc tb):=
 ⟨cJ (oY hp hc.ok hb.ok) fun D σ H ⟨σ3,S,D3,rσ,rS,⟨W,⟨m0,w0⟩,turn⟩,xo,n,r,bk,ct⟩=>by
  refine⟨fun m σ' H'=>∃σ4 S',zR X.K H' σ' σ4/\zQ X.K H' S'/\Grow X.K H H'/\W m σ4 S',⟨m0,σ3,S,rσ,rS,.refl,w0⟩,?_⟩
  rintro m σ' H' ⟨σ4,S',Dq,Bn,g',w'⟩
  refine⟨σ4,S',_,D3.ex,Dq,Bn,turn m σ4 S' w',xo.mono g',fun b S1 H1 h1 zT g1=>?_⟩
  cases b with
  |true=>
   rw[if_pos rfl]at h1 ⊢
   obtain⟨N,hN,h1⟩:=h1
   refine⟨fun σ5 H5=>∃σ6 S6,zR X.K H5 σ5 σ6/\zQ X.K H5 S6/\Grow X.K H H5/\N σ6 S6,?_,?_⟩
   ·rintro σ5 H5 ⟨σ6,S6,q1,q2,q3,q4⟩
    obtain⟨m',hm,w6⟩:=hN σ6 S6 q4
    exact⟨m',hm,σ6,S6,q1,q2,q3,w6⟩
   ·exact⟨σ4,S1,_,Dq.mono g1,zT,h1,xo.mono (g'.trans g1),fun σ8 S8 σ9 H9 q1 q2 q3 q4=>⟨σ8,S8,q2,q3,g'.trans (g1.trans q4),q1⟩,r.mono (g'.trans g1),n.mono (g'.trans g1),
     fun σ8 S8 σ9 H9 q1 q2 q3 q4=>⟨σ8,S8,q2,q3,g'.trans (g1.trans q4),q1⟩⟩
  |false=>
   rw[if_neg (by decide)]at h1 ⊢
   exact n _ S1 _ H1 h1 (Dq.mono g1) zT (g'.trans g1)⟩
end
noncomputable def dC:cU:=fun _ _ _=>False
def C4.no{X:Cx}{H:Hp}:C4 X H dC:=fun _ _ _ _ _ _ _ _ _ _ _ _ _ _ h=>h.elim
section
variable {X:Cx} {elt iter tg c:Expr} {ifs:List Expr} {scope:Scope} {pos:Pos} {ti:qp} {g:Tg} {tc:iu} {te:aQ} {fs N:Vs} {own:Nat} {fr:List Nat}
noncomputable def cx(g:Tg)(tc:iu)(te:aQ)(σ':bY)(keep:aq->Prop)(fin:List PV->aq->Prop):List PV->List PV->aq->Prop
 |[],ys,S=>keep S/\ys.length<=sizeLine/\fin ys S
 |x::r,ys,S=>keep S/\ys.length<=sizeLine/\match g.put x σ' with
  |some σ2=>tc σ2 S (fun b S3=>if b=true then te σ2 S3 (fun y S4=>cx g tc te σ' keep fin r (ys++[y]) S4) dC else cx g tc te σ' keep fin r ys S3) dC
  |none=>False
def bp:iu:=fun _ S Q _=>Q true S
structure vX (X:Cx) (ifs:List Expr) (t:iu):Prop where
 ok:PF X ifs (LT X t)
def mo{t t':TT}(h:PF X ifs t)(k:∀σ H Q,t' σ H Q->t σ H Q):PF X ifs t':=fun pins s σ H Q I q=>h pins s σ H Q I (k σ H Q q)
def b3:vX X [] bp:=⟨mo uX fun σ H Q ⟨σ3,S,Q3,E3,rσ,rS,h,xo,k⟩=>k true S H h rS .refl⟩
def w_(h:l9 X c tc):vX X [c] tc:=⟨uY h.ok⟩
noncomputable def dI(own:Nat)(fr:List Nat)(σ:bY):bY:=List.replicate own none++fr.map fun j=>lk σ j
def sI{K:Vo}{H:Hp}{σ:L2.St}{σ3:bY}(r:zR K H σ σ3)(own:Nat)(fr:List Nat):zR K H (dy own fr σ) (dI own fr σ3):=by
 refine⟨by unfold dy dI;simp,fun i p e=>?_⟩
 unfold dI at e
 unfold dy
 by_cases hi:i < own
 ·rw[Iz (by simpa using hi),Ju,if_pos hi]at e
  cases e
 ·rw[IE (by simpa using hi),ID,HR]at e ⊢
  cases hj:fr[i - own]? with
  |none=>rw[hj]at e;cases e
  |some j=>
   rw[hj]at e
   simp only[Option.map_some,Lk]at e ⊢
   obtain⟨v,hv,rv⟩:=r.at' j p (pZ e)
   exact⟨v,by rw[hv];rfl,rv⟩
def aH(ti:qp)(g:Tg)(tc:iu)(te:aQ)(own:Nat)(fr:List Nat):aQ:=fun σ S Q E=>ti σ S (fun src S1=>cx g tc te (dI own fr σ) src.keep (fun ys S2=>∀p,S2 p=none->Q (.ref p) (zL S2 p (.lst ys))) src.items [] S1) E
def jW{σ:L2.St}{H:Hp}{Q:VK}(Dr:g.under own=true)(B0:Bk):LE X (aH ti g tc te own fr) σ H Q->pI (LI X ti) (g.g2 X.K) (fun σ H Q=>∃σ3 S Q3,zR X.K H σ σ3/\zQ X.K H S/\tc σ3 S Q3 dC/\∀b S' H',Q3 b S'->zQ X.K H' S'->Grow X.K H H'->Q b H')
  (fun σ H Q=>∃σ3 S Q3,zR X.K H σ σ3/\zQ X.K H S/\te σ3 S Q3 dC/\C5 X.K H Q3 Q) own fr σ H Q:=fun⟨σ3,S,Q3,E3,rσ,rS,h,xo,k⟩=>by
 refine⟨σ3,S,_,E3,rσ,rS,h,xo,fun src S1 J H1 h1 sim zT g1=>?_⟩
 refine⟨fun i m ys H'=>i+m=src.items.length/\∃zs S',Reps X.K H' ys zs/\zQ X.K H' S'/\Grow X.K H1 H'/\cx g tc te (dI own fr σ3) src.keep (fun ys S2=>∀p,S2 p=none->Q3 (.ref p) (zL S2 p (.lst ys))) (src.items.drop i) zs S',⟨src.items.length,Kh _,[],S1,.nil,zT,.refl,by simpa using h1⟩,?_⟩
 rintro i m ys H' ⟨hm,zs,S',rz,Bn,g',hw⟩
 cases hd:src.items.drop i with
 |nil=>
  rw[hd]at hw
  have hi:i=src.items.length:=by
   have:=IP List.length hd
   rw[IF,Jh]at this
   omega
  refine .inl ⟨(sim i S' H' g' Bn hw.1).2 hi,by rw[rz.length];exact hw.2.1,fun D hD=>?_⟩
  exact k _ _ _ _ (hw.2.2 D (Bn.free hD)) (.ref D) (Bn.new hD ⟨_,aw,rz.mono (.new hD)⟩) (g1.trans (g'.trans (.new hD)))
 |cons x rest=>
  rw[hd]at hw
  have hx:src.items[i]?=some x:=by
   have:=IP (fun l=>l[0]?) hd
   simpa using this
  have hrest:src.items.drop (i+1)=rest:=by
   have:=IP List.tail hd
   simpa [List.tail_drop]using this
  have hlt:i < src.items.length:=by
   by_cases z:i < src.items.length
   ·exact z
   ·rw[Ji (by omega)]at hx;cases hx
  obtain⟨go,yl⟩:=(sim i S' H' g' Bn hw.1).1 x hx
  refine .inr ⟨go,by rw[rz.length];exact hw.2.1,fun ys' H5=>∃zs' S6,Reps X.K H5 ys' zs'/\zQ X.K H5 S6/\Grow X.K H1 H5/\cx g tc te (dI own fr σ3) src.keep (fun ys S2=>∀p,S2 p=none->Q3 (.ref p) (zL S2 p (.lst ys))) rest zs' S6,?_,fun v H5 hv=>?_⟩
  ·rintro ys' H5 ⟨zs',S6,q1,q2,q3,q4⟩
   exact⟨m - 1,by omega,by omega,zs',S6,q1,q2,q3,by rw[hrest];exact q4⟩
  ·obtain⟨rv,FE,g5⟩:=yl v H5 hv
   obtain⟨_,_,hw⟩:=hw
   split at hw
   ·rename_i σ6 e6
    refine Tg.B_ (own:=own) g rv ((sI rσ own fr).mono (g1.trans (g'.trans g5))) e6 fun σ7 EX d7=>⟨d7 Dr,?_⟩
    refine⟨σ6,S',_,EX,FE,hw,fun b S8 H8 h8 Gg g8=>?_⟩
    cases b with
    |true=>
     rw[if_pos rfl]at h8 ⊢
     exact⟨σ6,S8,_,EX.mono g8,Gg,h8,fun y S9 y' H9 h9 ry G4 g9=>⟨zs++[y],S9,(rz.mono (g5.trans (g8.trans g9))).append (.cons ry .nil),G4,g'.trans (g5.trans (g8.trans g9)),h9⟩⟩
    |false=>
     rw[if_neg (by decide)]at h8 ⊢
     exact⟨zs,S8,rz.mono (g5.trans g8),Gg,g'.trans (g5.trans g8),h8⟩
   ·exact hw.elim
def vo(fs:Vs)(own:Nat)(fr:List Nat)(N:Vs)(Dr:g.under own=true)(hc:X.calm=true)(hclos:closureFor scope X.env=pure (b5 X.env fs))(hcell:∀y∈scope.names,y.2 ≠ .cell)(hkind:scope.kind = .function)
  (hnames:∀x∈scope.names,x.2 = .local->scope.names.lookup x.1=some .local) (hcl:bR X.env fs) (hhas:ko (relabel scope X.env).names (b5 X.env fs)=true)
  (hlen:N.length=own+fr.length) (hN:(N.drop own).map some=fr.map fun j=>X.N[j]?) (hF:Ax X.env scope (b5 X.env fs) (N.drop own))
  (hi:sF X tg iter ti) (hg:∀B,re (X.Bj N scope fs B) tg g) (hf:∀B,vX (X.Bj N scope fs B) ifs tc) (he:∀B,aZ (X.Bj N scope fs B) elt te)
  (hs:∀x,foldedSetIterable iter X.env x=pure x:=by intro _;rfl):aZ X (.ListComp elt [⟨tg,iter,ifs,0⟩] scope pos) (aH ti g tc te own fr):=
 ⟨aK (sa fs own fr N hc hclos hcell hkind hnames hcl hhas hlen hN hF hi.ok (fun B=>(hg B).ok)
  (fun B=>mo (hf B).ok fun σ H Q ⟨σ3,S,Q3,rσ,rS,h,k⟩=>⟨σ3,S,Q3,dC,rσ,rS,h,.no,k⟩) (fun B=>aK (he B).ok fun σ H Q ⟨σ3,S,Q3,rσ,rS,h,k⟩=>⟨σ3,S,Q3,dC,rσ,rS,h,.no,k⟩) hs) fun _ _ _=>jW Dr ⟨0,X.s₀,X.H₀,[],[]⟩⟩
def vp(fs:Vs)(own:Nat)(fr:List Nat)(N:Vs){i:Nat}{y:Str}{py spos:Pos}(hX:X.N.Nodup)(hix:X.N[i]?=some y)(hy:X.env.scope.names.lookup y=some .local)
  (hsw:swapsWith (.ListComp elt [⟨tg,iter,ifs,0⟩] scope pos) (some (.Name y py)) spos.line X.env=pure true)
  (Dr:g.under own=true) (hc:X.calm=true) (hclos:closureFor scope X.env=pure (b5 X.env fs)) (hcell:∀y∈scope.names,y.2 ≠ .cell) (hkind:scope.kind = .function)
  (hnames:∀x∈scope.names,x.2 = .local->scope.names.lookup x.1=some .local) (hcl:bR X.env fs) (hhas:ko (relabel scope X.env).names (b5 X.env fs)=true)
  (hlen:N.length=own+fr.length) (hN:(N.drop own).map some=fr.map fun j=>X.N[j]?) (hF:Ax X.env scope (b5 X.env fs) (N.drop own))
  (hi:sF X tg iter ti) (hg:∀B,re (X.Bj N scope fs B) tg g) (hf:∀B,vX (X.Bj N scope fs B) ifs tc) (he:∀B,aZ (X.Bj N scope fs B) elt te)
  (hs:∀x,foldedSetIterable iter X.env x=pure x:=by intro _;rfl):l_ X (.Assign [.Name y py] (.ListComp elt [⟨tg,iter,ifs,0⟩] scope pos) spos) (au i (aH ti g tc te own fr)):=
 ⟨cJ (sd fs own fr N hX hix hy hsw hc hclos hcell hkind hnames hcl hhas hlen hN hF hi.ok (fun B=>(hg B).ok)
  (fun B=>mo (hf B).ok fun σ H Q ⟨σ3,S,Q3,rσ,rS,h,k⟩=>⟨σ3,S,Q3,dC,rσ,rS,h,.no,k⟩) (fun B=>aK (he B).ok fun σ H Q ⟨σ3,S,Q3,rσ,rS,h,k⟩=>⟨σ3,S,Q3,dC,rσ,rS,h,.no,k⟩) hs)
  fun D σ H ⟨σ3,S,D3,rσ,rS,h,xo,n,r,bk,ct⟩=>jW Dr ⟨0,X.s₀,X.H₀,[],[]⟩ ⟨σ3,S,_,D3.ex,rσ,rS,h,xo,fun p S1 v H1 h1 rv zT g1=>n _ S1 _ H1 h1 ((rσ.mono g1).set rv i) zT g1⟩⟩
end
abbrev aC:=List PV->aq->bQ->cU->Prop
noncomputable def xa(K:Vo)(n:Nat)(sp:aC):Sp:=fun vs H Q _=>vs.length=n/\∃ps S Q3 E3,Reps K H vs ps/\zQ K H S/\sp ps S Q3 E3/\C5 K H Q3 Q
structure Ds (P:Program) (w:World) (K:Vo) (mg:Vr) (base:Heap) (k:Nat) (f:Addr) (fd:FuncData) (ps:Vs) (sp:aC):Prop where
 ok:jx P w K mg base q_ k f fd ps (xa K ps.length sp)
section
variable {X:Cx} {e o:Expr} {es:List Expr} {te to:aQ} {ts:List aQ} {x:Str} {p pos apos cpos:Pos} {k:Nat} {f:Addr} {fd:FuncData} {ps:Vs} {sp:aC}
def ac(sp:aC)(ts:List aQ):aQ:=fun σ S Q E=>ao ts σ S (fun ps S1=>sp ps S1 Q E) E
def qr(F:Ds X.prog X.w X.K X.mg X.base k f fd ps sp)(hr:Room k X.A)(hg:Gl X x)(hm:X.mg x=some (.ref f))(hk:PySem.W.keepIn X.K (.ref f)=true)(hb:Binds X.K fd ps [])(he:starEach (e::es) X.env=(false,eval e X.env)::starEach es X.env)(ha:iw X (e::es) ts)
  (hl:ts.length=ps.length:=by rfl) (hdb:(x == ("__debug__":Str))=false:=by decide) (hpl:(backTo pos (starEach es X.env)).any (·.1)=false:=by rfl):aZ X (.Call (.Name x p) (e::es) [] pos) (ac sp ts):=
 ⟨aK (mP F.ok hr hg hm hk hb .nil tN ha.ok hdb he hpl) fun σ H Q ⟨σ3,S,Q3,E3,rσ,rS,h,xo,k⟩=>bM rσ rS h xo fun ps' S' vs H' hl' q rv Bn g=>by
  rw[Ip]
  exact⟨by rw[rv.length,hl',hl],ps',S',Q3,E3,rv,Bn,q,k.mono g⟩⟩
end
noncomputable def aB(n:Nat)(args:List PV):bY:=args.map some++List.replicate (n - args.length) none
def zS(n:Nat)(t:bH):aC:=fun args S Q _=>t { nx:=fun _ S'=>Q .non S',rt:=Q,ex:=dC } (aB n args) S
def jX{K:Vo}{H:Hp}{N:Vs}{vs:List V}{ps:List PV}(r:Reps K H vs ps):zR K H (L2.d4 N vs) (aB N.length ps):=by
 refine⟨by unfold L2.d4 aB;simp[r.length],fun i p e=>?_⟩
 unfold aB at e
 unfold L2.d4
 by_cases hi:i < ps.length
 ·rw[Iz (by simpa using hi),HR]at e
  cases hp:ps[i]? with
  |none=>rw[hp]at e;cases e
  |some q=>
   rw[hp]at e
   cases e
   obtain⟨v,hv,rv⟩:=r.get hp
   rw[Iz (by rw[HD,r.length];exact hi),HR,hv]
   exact⟨v,rfl,rv⟩
 ·rw[IE (by simpa using hi),Ju]at e
  split at e
  ·cases e
  ·cases e
section
variable {P:Program} {w:World} {K:Vo} {mg:Vr} {base:Heap}
noncomputable abbrev xc(P:Program)(w:World)(K:Vo)(mg:Vr)(base:Heap)(N:Vs)(qual:Str)(st:Stmt)(f:Addr)(cdv:Value)(A:Around)(outer:List Env)(s:Shared)(H:Hp)(E:XK):Cx:=(k4 q_ P w K mg base N qual (ax st) f cdv A outer s H E).DW
def zh{x qual:Str}{st:Stmt}{f:Addr}{fd:FuncData}{N ps:Vs}{k:Nat}{t:bH}(F:DH K x qual st f fd)(S:cy N ps (ax st))
  (hbody:∀(cdv:Value) (A:Around) (outer:List Env) (s:Shared) (H:Hp) (E:XK),Room k (A.deeper (PyProof.Rows.envOfC qual (ax st) s.heap.objs.size f cdv))->gJ (xc P w K mg base N qual st f cdv A outer s H E) (aW st) t) :
  Ds P w K mg base (k+1) f fd ps (zS N.length t):=
 ⟨F.ok S (fun vs H Q E h=>h.1) fun cdv A outer s H vs Q E hr ⟨hl,ps',S',Q3,E3,rv,rS,q,kk⟩=>⟨_,(hbody cdv A outer s H E hr).ok,aB N.length ps',S',_,jX rv,rS,q,.no,fun σ3 S2 σ2 H2 h2 _ Bb g2=>kk _ S2 _ H2 h2 .non Bb g2,kk,fun _ _ _ _ h2=>h2.elim,fun _ _ _ _ h2=>h2.elim⟩⟩
end
section
variable {X:Cx} {o e f:Expr} {to te tf:aQ} {pos apos cpos:Pos}
noncomputable def fB:List (aQ×aQ)->bY->aq->(List (PV×PV)->aq->Prop)->cU->Prop
 |[],_,S,Q,_=>Q [] S
 |(tk,tv)::r,σ,S,Q,E=>tk σ S (fun x S1=>tv σ S1 (fun y S2=>fB r σ S2 (fun ps S3=>Q ((x,y)::ps) S3) E) E) E
noncomputable def jY:List (PV×PV)->Option (List (a_×PV))
 |[]=>some []
 |(x,y)::r=>match gL x,jY r with|some k,some l=>some ((k,y)::l)|_,_=>none
noncomputable def cM(kvs more:List (a_×PV)):List (a_×PV):=more.foldl (fun acc kv=>gN acc kv.1 kv.2) kvs
structure xU (X:Cx) (pos:Pos) (keys:List (Option Expr)) (values:List Expr) (BQ:List (aQ×aQ)):Prop where
 ok:wM X pos keys values (BQ.map fun t=>(LE X t.1,LE X t.2))
def qt:xU X pos [] [] []:=⟨rX⟩
def gf{k v:Expr}{ks:List (Option Expr)}{vs:List Expr}{tk tv:aQ}{BQ:List (aQ×aQ)}(hk:aZ X k tk)(hv:aZ X v tv)(hr:xU X pos ks vs BQ):xU X pos (some k::ks) (v::vs) ((tk,tv)::BQ):=⟨pE hk.ok hv.ok hr.ok⟩
inductive jZ (K:Vo) (H:Hp):List (V×V)->List (PV×PV)->Prop
 |nil:jZ K H [] []
 |cons {a b:V} {p q:PV} {vs:List (V×V)} {ps:List (PV×PV)}:Rep K H a p->Rep K H b q->jZ K H vs ps->jZ K H ((a,b)::vs) ((p,q)::ps)
theorem i6:∀{BQ:List (aQ×aQ)} {σ:L2.St} {H:Hp} {Q:List (V×V)->Hp->Prop} {σ3:bY} {S:aq} {Q3:List (PV×PV)->aq->Prop} {E3:cU},zR X.K H σ σ3->zQ X.K H S->fB BQ σ3 S Q3 E3->C4 X H E3->
  (∀ps S' vs H',ps.length=BQ.length->Q3 ps S'->jZ X.K H' vs ps->zQ X.K H' S'->Grow X.K H H'->Q vs H')->kl (BQ.map fun t=>(LE X t.1,LE X t.2)) σ H Q
 |[],σ,H,Q,σ3,S,Q3,E3,rσ,rS,h,xo,k=>k [] S [] H rfl h .nil rS .refl
 |(tk,tv)::ts,σ,H,Q,σ3,S,Q3,E3,rσ,rS,h,xo,k=>
  ⟨σ3,S,_,E3,rσ,rS,h,xo,fun p S1 v H1 h1 rv zT g1=>⟨σ3,S1,_,E3,rσ.mono g1,zT,h1,xo.mono g1,fun p2 S2 v2 H2 h2 G5 Bb g2=>i6 (rσ.mono (g1.trans g2)) Bb h2 (xo.mono (g1.trans g2)) fun ps S3 vs H3 hl h3 FB Dp g3=>
   k ((p,p2)::ps) S3 ((v,v2)::vs) H3 (by rw[HW,HW,hl]) h3 (.cons (rv.mono (g2.trans g3)) (G5.mono g3) FB) Dp (g1.trans (g2.trans g3))⟩⟩
theorem j0{K:Vo}{H:Hp}:∀{vs:List (V×V)} {ps:List (PV×PV)} {l:List (a_×PV)},jZ K H vs ps->jY ps=some l->∃kvs:List (a_×V),vs=kvs.map (fun kv=>(kV kv.1,kv.2))/\zZ K H kvs l
 |_,_,_,.nil,h=>by cases h;exact⟨[],rfl,.nil⟩
 |_,_,l,.cons a b r,h=>by
  unfold jY at h
  split at h
  ·rename_i k l' ek el
   cases h
   obtain⟨kvs,e,q⟩:=j0 r el
   refine⟨(k,_)::kvs,?_,.cons b q⟩
   rw[Ig,<-e,cp a ek]
  ·cases h
def zZ.merge{K:Vo}{H:Hp}{more:List (a_×V)}{m3:List (a_×PV)}(r:zZ K H more m3):∀{kvs:List (a_×V)} {k3:List (a_×PV)},zZ K H kvs k3->zZ K H (gF kvs more) (cM k3 m3):=by
 induction r with
 |nil=>intro kvs k3 q;exact q
 |cons a r ih=>intro kvs k3 q;exact ih (q.put a)
def i7(BQ:List (aQ×aQ)):aQ:=fun σ S Q E=>∀p,S p=none->fB BQ σ (zL S p (.dct [])) (fun ps S2=>S2 p=some (.dct [])/\match jY ps with|some kvs=>Q (.ref p) (zL S2 p (.dct (cM [] kvs)))|none=>False) E
def qu{keys:List (Option Expr)}{values:List Expr}{BQ:List (aQ×aQ)}(h:xU X pos keys values BQ)(hall:keys.all (·.isSome)=true:=by rfl)(hl:keys.length=values.length:=by rfl)(h0:keys≠[]:=by exact List.cons_ne_nil _ _)(Fp:keys.length<=15:=by decide)
  (ht:BQ.length<=15:=by exact KU rfl):aZ X (.Dict keys values pos) (i7 BQ):=
 ⟨aK (rY h.ok hall hl h0 Fp) fun σ H Q ⟨σ3,S,Q3,E3,rσ,rS,hq,xo,k⟩=>fun p hp=>by
  have g0:Grow X.K H (upd H p (.dK [])):=.new hp
  refine i6 (rσ.mono g0) (rS.new hp (o:=.dct []) ⟨[],aw,.nil⟩) (hq p (rS.free hp)) (xo.mono g0) fun ps S' vs H' hl' q rv Bn g=>?_
  obtain⟨e,q⟩:=q
  obtain⟨kv,hv,rk⟩:=Bn _ _ e
  cases rk
  refine⟨hv,?_⟩
  split at q
  ·rename_i kvs ek
   obtain⟨l,el,rl⟩:=j0 rv ek
   refine⟨l,el,?_,k _ _ _ _ q (.ref p) (Bn.put hv trivial ⟨_,aw,(zZ.merge rl .nil).mono (.mut hv trivial)⟩) (g0.trans (g.trans (.mut hv trivial)))⟩
   have z1:∀{vs:List (V×V)} {ps:List (PV×PV)},jZ X.K H' vs ps->vs.length=ps.length:=by
    intro vs ps r
    induction r with
    |nil=>rfl
    |cons _ _ _ ih=>rw[HW,HW,ih]
   have z2:=IP List.length el
   rw[HD,z1 rv,hl']at z2
   omega
  ·exact q.elim⟩
def lm(to te tf:aQ):aQ:=fun σ S Q E=>to σ S (fun x S1=>match x with
 | .ref a=>(match S1 a with
  |some (.dct _)=>te σ S1 (fun y S2=>tf σ S2 (fun z S3=>match S3 a,gL y with|some (.dct kvs),some k=>Q ((dz kvs k).getD z) S3|_,_=>False) E) E
  |_=>False)
 |_=>False) E
def qv(hu:X.A.units+1 < cLine)(ho:aZ X o to)(he:aZ X e te)(hf:aZ X f tf)(m:M2 X o "get" apos e f cpos):aZ X (.Call (.Attribute o "get" apos) [e,f] [] cpos) (lm to te tf):=
 ⟨aK (pF hu ho.ok he.ok hf.ok m) fun σ H Q ⟨σ3,S,Q3,E3,rσ,rS,h,xo,k⟩=>⟨σ3,S,_,E3,rσ,rS,h,xo,fun x S1 v H1 h1 rx zT g1=>by
  split at h1
  ·cases rx
   split at h1
   ·rename_i ea
    obtain⟨kv,hv,rk⟩:=zT _ _ ea
    refine⟨_,rfl,.inl ⟨_,.inl hv⟩,σ3,S1,_,E3,rσ.mono g1,zT,h1,xo.mono g1,fun y S2 y' H2 h2 ry Bb g2=>⟨σ3,S2,_,E3,rσ.mono (g1.trans g2),Bb,h2,xo.mono (g1.trans g2),fun z S3 z' H3 h3 rz Dp g3=>?_⟩⟩
    split at h3
    ·rename_i kvs k' eb ek
     obtain⟨kv3,G6,Gh⟩:=Dp _ _ eb
     have e1:=cp (ry.mono g3) ek
     subst e1
     refine⟨_,DGet.k G6,k _ S3 _ H3 h3 ?_ Dp (g1.trans (g2.trans g3))⟩
     cases ev:dz kvs k' with
     |none=>rw[Gh.valN ev];exact rz
     |some w=>
      obtain⟨w',hw,rw'⟩:=Gh.val ev
      rw[hw];exact rw'
    ·exact h3.elim
   ·exact h1.elim
  ·exact h1.elim⟩⟩
def m8(kvs:List (a_×Int))(te tf:aQ):aQ:=fun σ S Q E=>te σ S (fun y S2=>tf σ S2 (fun z S3=>match gL y with|some k=>Q (((kvs.find? fun kv=>decide (kv.1=k)).map fun kv=>PV.int kv.2).getD z) S3|none=>False) E) E
def vq{x:Str}{px:Pos}{a:Addr}{kvs:List (a_×Int)}(hu:X.A.units+1 < cLine)(hg:Gl X x)(hm:X.mg x=some (.ref a))(hD:KD X.prog X.w X.K a (kvs.map fun kv=>(kv.1,V.int kv.2)))(he:aZ X e te)(hf:aZ X f tf)(m:M2 X (.Name x px) "get" apos e f cpos)
  (hd:(x == ("__debug__":Str))=false:=by decide):aZ X (.Call (.Attribute (.Name x px) "get" apos) [e,f] [] cpos) (m8 kvs te tf):=
 ⟨aK (sh hu hg hm hD he.ok hf.ok m hd) fun σ H Q ⟨σ3,S,Q3,E3,rσ,rS,h,xo,k⟩=>⟨σ3,S,_,E3,rσ,rS,h,xo,fun y S2 y' H2 h2 ry Bb g2=>⟨σ3,S2,_,E3,rσ.mono g2,Bb,h2,xo.mono g2,fun z S3 z' H3 h3 rz Dp g3=>by
  split at h3
  ·rename_i k' ek
   have e1:=cp (ry.mono g3) ek
   subst e1
   refine⟨_,rfl,k _ S3 _ H3 h3 ?_ Dp (g2.trans g3)⟩
   have:∀l:List (a_×Int),Rep X.K H3 ((fc (l.map fun kv=>(kv.1,V.int kv.2)) k').getD z') (((l.find? fun kv=>decide (kv.1=k')).map fun kv=>PV.int kv.2).getD z):=by
    intro l
    induction l with
    |nil=>exact rz
    |cons q r ih=>
     rw[Ig,List.find?_cons]
     by_cases e:q.1=k'
     ·rw[A1 e,IB e];exact .int _
     ·rw[AE e,Ij e];exact ih
   exact this kvs
  ·exact h3.elim⟩⟩⟩
def lp(te:aQ):aQ:=fun σ S Q E=>te σ S (fun x S1=>match x with
 | .ref a=>(match S1 a with|some (.lst xs)=>∀p,S1 p=none->Q (.ref p) (zL S1 p (.lst xs.reverse))|_=>False)
 |_=>False) E
def vt{p1 p2 q1 q2:Pos}(hs:starEach [e] X.env=[(false,eval e X.env)])(hc:X.calm=true)(he:aZ X e te)(Eb:Gl X "list")(hm1:X.mg "list" = none)(Dy:Gl X "reversed")(hm2:X.mg "reversed" = none):aZ X (.Call (.Name "list" p1) [.Call (.Name "reversed" p2) [e] [] q2] [] q1) (lp te):=
 ⟨aK (l6 hc he.ok Eb hm1 Dy hm2 hs rfl) fun σ H Q ⟨σ3,S,Q3,E3,rσ,rS,h,xo,k⟩=>⟨σ3,S,_,E3,rσ,rS,h,xo,fun x S1 v H1 h1 rx zT g1=>by
  split at h1
  ·cases rx
   split at h1
   ·rename_i ea
    obtain⟨vs,hv,rs⟩:=zT _ _ ea
    exact⟨_,_,rfl,SqL.of hv,fun q hq=>k _ _ _ _ (h1 q (zT.free hq)) (.ref q) (zT.new hq ⟨_,aw,rs.reverse.mono (.new hq)⟩) (g1.trans (.new hq))⟩
   ·exact h1.elim
  ·exact h1.elim⟩⟩
end
def b4:R3:=dH fun i j=>.int (i - j)
def fg:R3:=fo (fun _ j=>j≠0) fun i j=>.int (i.fmod j)
def ie:R3:=fo lg fun i j=>.int (i.fdiv j)
def qw:R3:=fo uA fun i j=>.int (i ^ j.toNat)
def oQ:R3:=dH fun i j=>.bl (decide (i < j))
def mr:R3:=dH fun i j=>.bl (decide (j < i))
def xg:R3:=dH fun i j=>.bl (decide (j<=i))
section
variable {X:Cx}
def d6:gK X (binaryOp .Sub) b4:=ve
def eA:gK X (binaryOp .Mod) fg:=vf
def kF:gK X (binaryOp .FloorDiv) ie:=sr
def xh:gK X (binaryOp .Pow) qw:=vg
def ms:gK X (compareOp .Lt) oQ:=wT
def mv:gK X (compareOp .Gt) mr:=wU
def yL:gK X (compareOp .GtE) xg:=wV
end
def rf{A:Around}{k:Nat}(hr:Room k A):A.units+1 < cLine:=by have:=hr.un;omega
def ig{A:Around}{k:Nat}(hr:Room k A):A.units+150 < cLine:=by have:=hr.un;omega
def eB{A:Around}{k:Nat}(hr:Room k A):A.units+160 < cLine:=by have:=hr.un;omega
structure xV (K:Vo) (mg:Vr) (x:Str) (st:Stmt) (ps:Vs) (f:Addr) (fd:FuncData):Prop where
 F:DH K x x st f fd
 b:Binds K fd ps []
 k:PySem.W.keepIn K (.ref f)=true
 m:mg x=some (.ref f)
def Ds.zero{P:Program}{w:World}{K:Vo}{mg:Vr}{base:Heap}{k:Nat}{f:Addr}{fd:FuncData}{ps:Vs}{sp:aC}(h:sp=fun _ _ _ _=>False):Ds P w K mg base k f fd ps sp:=by
 subst h
 exact⟨⟨fun vs H Q E q=>q.1,fun A outer s H args us vs Q E _ _ _ _ ⟨_,_,_,_,_,_,_,q,_⟩=>q.elim⟩⟩
def yM{K:Vo}{H:Hp}{a:Addr}{ns:Vu}{sp:aC}(hO:rZ H)(hS:SqL K H a (ns.map V.int))(h:sp [.cl (ns.map PV.int)] (fun _=>none) (fun v _=>v = .bl true) dC):xa K 1 sp [.ref a] H (fun v _=>v = .bl true) fun _ _ _=>False:=by
 have hr:∀l:List Int,Reps K H (l.map V.int) (l.map PV.int):=by
  intro l
  induction l with
  |nil=>exact .nil
  |cons x r ih=>exact .cons (.int x) ih
 refine⟨rfl,[.cl (ns.map PV.int)],fun _=>none,_,dC,.cons (.cl (vs:=ns.map V.int) ?_ (hr ns)) .nil,(fun b o e=>by simp at e),h,fun p S' v H' q rv rS g=>?_⟩
 ·rcases hS with(q|q)|q
  ·rcases hO a with z|⟨o,xs,z⟩
   ·rw[z]at q;cases q
   ·rw[z]at q;cases q
  ·exact .inl q
  ·exact .inr q
 ·subst q
  cases rv
  rfl
end L3
namespace L2
open PySem PySem.Spec PyProof.Rows
end L2
namespace HT
open PySem PySem.Spec PyProof.Rows
end HT
namespace L2
open PySem PySem.Spec PyProof.Rows
end L2
namespace L3
open PySem L2
end L3
namespace L2
open PySem PySem.Spec PyProof.Rows
section
variable {X:Cx}
noncomputable def sJ:V->List V->Hp->VK->Prop:=fun x vs H Q=>∃(l:Addr) (xs:List V) (j:Nat) (y:V),x = .ref l/\vs=[.int j,y]/\H l=some (.lst xs)/\j<=xs.length/\xs.length < sizeLine/\Q .non (upd H l (.lst (xs.take j++y::xs.drop j)))
def ou:vV X "list.insert" sJ:=by
 intro pins s σ H x vs v us Q I rx rv h
 obtain⟨l,xs,j,y,rfl,rfl,hH,hj,hz,q⟩:=h
 cases rx
 cases rv with
 |@cons _ u0 _ G7 r1 rr=>
  obtain⟨u,rfl,ru⟩:∃u,G7=[u]/\RelV y u:=by
   cases rr with
   |@cons _ u _ us r2 r3=>cases r3;exact⟨u,rfl,r2⟩
  obtain⟨tk,rfl⟩:∃tk,u0 = .int (j:Int) tk:=r1
  obtain⟨z,its,n,r,hl,e⟩:=I.B5 hH
  have hfit:¬(!Builtin.List.listFitsIndex (j:Int))=true:=by
   have:j < 2 ^ 62:=Ky hj (HY hz (by decide))
   simp[Builtin.List.listFitsIndex]
   omega
  have hs1:its.toArray.size<=sizeLine:=by rw[HH];omega
  generalize hx:(j:Int)=x at hfit
  refine J8 F.slot_list_insert ⟨_,e,rfl⟩ F.entry_list_insert (F.args_list_insert_3 _ _ _) (PySem.AutoSeq1.list_insert_list_int_val_1 l its.toArray n x tk u hfit hs1) ⟨e,?_⟩
  refine⟨.non,_,I.CU (its':=its.take j++u::its.drop j) hH e ?_ ((r.take j).append (.cons ru (r.drop j))) ?_,rfl,q⟩
  ·show((its.toArray.extract 0 (if x < 0 then (x+(its.toArray.size:Int)).toNat else min x.toNat its.toArray.size)).push u++its.toArray.extract (if x < 0 then (x+(its.toArray.size:Int)).toNat else min x.toNat its.toArray.size))=_
   have hl2:its.length=xs.length:=r.length.symm
   have ek:(if x < 0 then (x+(its.toArray.size:Int)).toNat else min x.toNat its.toArray.size)=j:=by
    rw[if_neg (by omega),<-hx,J4,HH]
    omega
   rw[ek]
   apply Array.toList_inj.mp
   simp[List.extract_eq_take_drop]
   exact JU (by rw[IF];exact HF _)
  ·rw[HC,HW,IV,IF]
   omega
end
end L2
namespace L3
open PySem L2
section
variable {X:Cx} {a b c:Expr} {ta tb tc:aQ} {pos:Pos}
def iG:lN:=fun x ps S Q=>match x,ps with
 | .ref a,[.int i,y]=>(match S a with|some (.lst xs)=>0<=i/\i<=xs.length/\xs.length < sizeLine/\Q .non (zL S a (.lst (xs.take i.toNat++y::xs.drop i.toNat)))|_=>False)
 |_,_=>False
def qx:oj X "list.insert" iG:=⟨fun pins s σ H x xs v us Q I rx rs ⟨px,ps,S,Q3,r1,rp,rS,q,k⟩=>by
 unfold iG at q
 split at q
 ·rename_i i y
  split at q
  ·rename_i e
   cases r1
   cases rp with
   |cons b rr=>
    cases b
    cases rr with
    |cons b2 rr=>
     cases rr
     obtain⟨vs,hv,rl⟩:=rS _ _ e
     obtain⟨j,rfl⟩:=Jv q.1
     exact ou pins s σ H _ _ v us Q I rx rs ⟨_,_,j,_,rfl,rfl,hv,by rw[rl.length];have:=q.2.1;omega,by rw[rl.length];exact q.2.2.1,k _ _ _ _ q.2.2.2 .non (rS.put hv trivial ⟨_,aw,((rl.take j).append (.cons b2 (rl.drop j))).mono (.mut hv trivial)⟩) (.mut hv trivial)⟩
  ·exact q.elim
 ·exact q.elim⟩
end
end L3
namespace L2
open PySem PySem.Spec PyProof.Rows PySem.AutoSeq1
end L2
namespace L3
open PySem L2
end L3
namespace C
open PySem L2 L3
noncomputable def k_SIDES_FROM:List (a_×Int):=[(Sum.inr "then",1),(Sum.inr "either",1),(Sum.inr "take",3),(Sum.inr "often",1)]
def eC:bH:=(af (au 3 (aH (aG (bj (v3 0) (jU (v3 1)) (jU (c3 (.int 63))))) (.n 0) bp (ap iX [(v3 0),(ah b4 (c3 (.int 0)) (v3 0))]) 1 []))
  (af (au 4 (ah aP (c3 (.int 7919)) (v3 1)))
  (af (cm (aG (v3 3)) (.n 2) (au 4 (ah fg (ah aP (ah iz (v3 4) (c3 (.int 48271))) (ah fg (v3 2) (c3 (.int 2147483629)))) (c3 (.int 2147483647)))))
  (az (i7 [((c3 (.str "seed")),(v3 4)),((c3 (.str "number")),(c3 (.int 0))),((c3 (.str "left")),(lp (aH (aG (v3 3)) (.n 0) (aS (ah xg (v3 0) (ah qw (c3 (.int 10)) (c3 (.int 18))))) (v3 0) 1 [])))])))))
def eE:bH:=(af (gR (jB (aS (ah (bg false) (ah ag (v3 0) (c3 (.str "number"))) (c3 (.int 0)))) (aS (ah mr (ap bZ [(ah ag (v3 0) (c3 (.str "left")))]) (c3 (.int 0))))) (kB (d_ "list" li (ah ag (v3 0) (c3 (.str "left"))) []) (v3 0) (c3 (.str "number"))))
  (af (au 2 (ah ag (v3 0) (c3 (.str "number"))))
  (af (bh (aS (ah mr (v3 2) (c3 (.int 0)))) (af (kB (ah ie (v3 2) (v3 1)) (v3 0) (c3 (.str "number")))
  (az (ah fg (v3 2) (v3 1)))) aM)
  (af (au 3 (ah fg (ah aP (ah iz (ah ag (v3 0) (c3 (.str "seed"))) (c3 (.int 48271))) (c3 (.int 7919))) (c3 (.int 2147483647))))
  (af (kB (ah fg (ah aP (ah iz (v3 3) (c3 (.int 40692))) (c3 (.int 104729))) (c3 (.int 2147483399))) (v3 0) (c3 (.str "seed")))
  (af (au 4 (ah fg (ah iz (ah ag (v3 0) (c3 (.str "seed"))) (ah ag (v3 0) (c3 (.str "seed")))) (c3 (.int 2147483563))))
  (az (ah fg (ah aP (ah iz (ah fg (ah iz (v3 3) (v3 3)) (c3 (.int 2147483629))) (c3 (.int 2147483563))) (v3 4)) (v3 1)))))))))
def fD:bH:=(af (om 2 3 (ap iX [(v3 0),(ah b4 (c3 (.int 0)) (v3 0))]) (v3 1))
  (af (gR (aS (ah mr (v3 3) (c3 (.int 0)))) (om 2 3 (v3 3) (ah fg (v3 2) (v3 3))))
  (az (ay [(ah ie (v3 0) (v3 2)),(ah ie (v3 1) (v3 2))]))))
def dJ(zJ:aC):bH:=(af (au 2 (c3 (.str "abcdefghijklmnopqrstuvwxyz")))
  (af (au 3 (bu [(c3 (.str "jars")),(c3 (.str "deed")),(c3 (.str "rest")),(c3 (.str "pay")),(c3 (.str "put")),(c3 (.str "then")),(c3 (.str "either")),(c3 (.str "take")),(c3 (.str "often")),(c3 (.str "use"))]))
  (af (au 5 (d_ "str" jV (c3 (.str "")) [(aH (kD (ac zJ [(v3 0),(c3 (.int 6))])) (.n 0) bp (ah ag (v3 2) (ac zJ [(v3 1),(c3 (.int 26))])) 1 [0,2])]))
  (af (i5 6 7 8 (ay [(ac zJ [(v3 0),(ah aP (ap bZ [(v3 5)]) (c3 (.int 1)))]),(ac zJ [(v3 0),(c3 (.int 26))]),(ah (bg false) (ac zJ [(v3 0),(c3 (.int 2))]) (c3 (.int 0)))]))
  (af (au 9 (bu []))
  (af (cm (kD (v3 1)) (.n 4) (af (au 10 (ah aP (ah aP (bj (v3 5) kU (jU (v3 6))) (ah ag (v3 2) (ah fg (ah aP (v3 7) (v3 4)) (c3 (.int 26))))) (bj (v3 5) (jU (v3 6)) kU)))
  (af (bh (md (aS (v3 8))) (au 10 (d_ "str" jV (c3 (.str "")) [(aH (kD (ah aP (c3 (.int 1)) (ac zJ [(v3 0),(c3 (.int 6))]))) (.n 0) bp (ah ag (v3 2) (ac zJ [(v3 1),(c3 (.int 26))])) 1 [0,2])])) aM)
  (af (gR (iT (aS (ah (jv false) (v3 10) (v3 3))) (aS (ah (jv false) (v3 10) (v3 9)))) (au 10 (ah aP (ah ag (v3 2) (ah fg (ah aP (d_ "str" gM (v3 2) [(ah ag (v3 10) (c3 (.int 0)))]) (c3 (.int 1))) (c3 (.int 26)))) (bj (v3 10) (jU (c3 (.int 1))) kU))))
  (aU (d_ "list" bm (v3 9) [(v3 10)]))))))
  (az (v3 9))))))))
def eF(zJ Cz:aC):bH:=(af (au 1 (ac zJ [(v3 0),(c3 (.int 4))]))
  (af (bh (aS (ah (bg false) (v3 1) (c3 (.int 0)))) (az (ay [(c3 (.int 0)),(c3 (.int 1))])) aM)
  (af (bh (aS (ah oQ (v3 1) (c3 (.int 3)))) (az (ay [(ah aP (c3 (.int 1)) (ac zJ [(v3 0),(c3 (.int 5))])),(c3 (.int 1))])) aM)
  (az (ac Cz [(ac zJ [(v3 0),(c3 (.int 1000))]),(ah aP (c3 (.int 1)) (ac zJ [(v3 0),(c3 (.int 9))]))])))))
def cn(zJ Cr:aC):bH:=(af (au 2 (ac zJ [(v3 0),(c3 (.int 7))]))
  (af (bh (aS (ah (bg false) (v3 2) (c3 (.int 0)))) (az (ay [(c3 (.str "rest"))])) aM)
  (af (bh (iT (aS (ah oQ (v3 2) (c3 (.int 4)))) (aS (ah (bg false) (ap bZ [(v3 1)]) (c3 (.int 0))))) (az (ay [(c3 (.str "pay")),(ac Cr [(v3 0)])])) aM)
  (af (au 3 (ah ag (bu [(c3 (.int 1)),(c3 (.int 2)),(ah aP (c3 (.int 1)) (ac zJ [(v3 0),(c3 (.int 9))]))]) (ac zJ [(v3 0),(c3 (.int 3))])))
  (az (ay [(c3 (.str "put")),(ah ag (v3 1) (ac zJ [(v3 0),(ap bZ [(v3 1)])])),(v3 3)]))))))
def eG(zJ zU s0:aC):bH:=(af (au 4 (ac zJ [(v3 0),(c3 (.int 12))]))
  (af (bh (iT (aS (ah (bg false) (v3 3) (c3 (.int 0)))) (iT (aS (ah oQ (ah ag (v3 2) (c3 (.int 0))) (c3 (.int 2)))) (aS (ah oQ (v3 4) (c3 (.int 3)))))) (az (ac zU [(v3 0),(v3 1)])) aM)
  (af (bh (aS (ah oQ (v3 4) (c3 (.int 5)))) (af (kB (ah b4 (ah ag (v3 2) (c3 (.int 0))) (c3 (.int 1))) (v3 2) (c3 (.int 0)))
  (az (ay [(c3 (.str "often")),(ac s0 [(v3 0),(v3 1),(v3 2),(ah b4 (v3 3) (c3 (.int 1)))])]))) aM)
  (af (kB (ah b4 (ah ag (v3 2) (c3 (.int 0))) (c3 (.int 2))) (v3 2) (c3 (.int 0)))
  (af (au 5 (ac s0 [(v3 0),(v3 1),(v3 2),(ah b4 (v3 3) (c3 (.int 1)))]))
  (af (au 6 (ac s0 [(v3 0),(v3 1),(v3 2),(ah b4 (v3 3) (c3 (.int 1)))]))
  (af (bh (aS (ah oQ (v3 4) (c3 (.int 8)))) (az (ay [(c3 (.str "then")),(v3 5),(v3 6)])) aM)
  (af (bh (iT (aS (ah (bg false) (v3 4) (c3 (.int 8)))) (aS (ah (bg false) (ap bZ [(v3 1)]) (c3 (.int 0))))) (az (ay [(c3 (.str "either")),(v3 5),(v3 6)])) aM)
  (af (au 7 (ah ag (bu [(c3 (.int 1)),(c3 (.int 1)),(c3 (.int 2)),(ah aP (c3 (.int 1)) (ac zJ [(v3 0),(c3 (.int 9))]))]) (ac zJ [(v3 0),(c3 (.int 4))])))
  (az (ay [(c3 (.str "take")),(ah ag (v3 1) (ac zJ [(v3 0),(ap bZ [(v3 1)])])),(v3 7),(v3 5),(v3 6)])))))))))))
def bT(s0:aC):bH:=(af (bh (aS (ah (bg false) (ah ag (v3 0) (c3 (.int 0))) (c3 (.str "then")))) (az (ah iz (ac s0 [(ah ag (v3 0) (c3 (.int 1)))]) (ac s0 [(ah ag (v3 0) (c3 (.int 2)))]))) aM)
  (af (bh (iT (aS (ah (bg false) (ah ag (v3 0) (c3 (.int 0))) (c3 (.str "either")))) (aS (ah (bg false) (ah ag (v3 0) (c3 (.int 0))) (c3 (.str "take"))))) (az (ah aP (ac s0 [(ah ag (v3 0) (d9 bq (c3 (.int 2))))]) (ac s0 [(ah ag (v3 0) (d9 bq (c3 (.int 1))))]))) aM)
  (az (c3 (.int 1)))))
def bL(Al s0:aC):bH:=(af (bh (aS (ah (bg false) (ah ag (v3 0) (c3 (.int 0))) (c3 (.str "often")))) (az (ah aP (ac Al [(ah ag (v3 0) (c3 (.int 1)))]) (ac s0 [(ah ag (v3 0) (c3 (.int 1)))]))) aM)
  (af (bh (aS (ah (jv false) (ah ag (v3 0) (c3 (.int 0))) (ay [(c3 (.str "then")),(c3 (.str "either")),(c3 (.str "take"))]))) (az (ah aP (ac s0 [(ah ag (v3 0) (d9 bq (c3 (.int 2))))]) (ac s0 [(ah ag (v3 0) (d9 bq (c3 (.int 1))))]))) aM)
  (az (c3 (.int 0)))))
def b6(Cs Al Br zU:aC):bH:=(af (au 4 (ac Cs [(v3 0),(v3 1),(bu [(ah b4 (v3 2) (c3 (.int 1)))]),(c3 (.int 5))]))
  (af (bh (aS (ah mr (ah aP (ac Al [(v3 4)]) (ac Br [(v3 4)])) (v3 3))) (au 4 (ay [(c3 (.str "then")),(ay [(c3 (.str "often")),(ac zU [(v3 0),(v3 1)])]),(ac zU [(v3 0),(v3 1)])])) aM)
  (az (v3 4))))
def dL(A5 zJ BE:aC):bH:=(af (au 4 (ac A5 [(v3 0),(c3 (.int 8))]))
  (af (au 5 (ap bJ [(bj (v3 4) kU (jU (ac zJ [(v3 0),(ah aP (v3 1) (c3 (.int 1)))])))]))
  (af (au 6 (ah ag (bu [(c3 (.int 0)),(c3 (.int 4))]) (ac zJ [(v3 0),(c3 (.int 2))])))
  (af (au 7 (ah aP (c3 (.int 1)) (ac zJ [(v3 0),(v3 2)])))
  (af (au 8 (aH (kD (v3 7)) (.n 0) bp (ay [(ah ag (v3 6) (ah aP (v3 2) (v3 0))),(ac BE [(v3 1),(v3 3),(v3 5),(ah ie (c3 (.int 24)) (v3 4))])]) 1 [0,6,5,7,3,4]))
  (az (ay [(v3 5),(ap bJ [(v3 8)])])))))))
def fE:bH:=(az (bj (v3 0) (jU (m8 C.k_SIDES_FROM (ah ag (v3 0) (c3 (.int 0))) (ap bZ [(v3 0)]))) kU))
def fF(Bs s0:aC):bH:=(af (au 1 (bu [(v3 0)]))
  (af (cm (aG (ac Bs [(v3 0)])) (.n 2) (aU (d_ "list" bf (v3 1) [(ac s0 [(v3 2)])])))
  (az (v3 1))))
def kG(CA:aC):bH:=(az (ap bZ [(ac CA [(v3 0)])]))
def di(s0:aC):bH:=(af (bh (aS (ah (bg false) (ah ag (v3 0) (c3 (.int 0))) (c3 (.str "then")))) (az (ay [(ac s0 [(ah ag (v3 0) (c3 (.int 1)))]),(ac s0 [(ah ag (v3 0) (c3 (.int 2)))])])) aM)
  (af (bh (aS (ah (bg false) (ah ag (v3 0) (c3 (.int 0))) (c3 (.str "either")))) (az (ay [(c3 (.int 0)),(ac s0 [(ah ag (v3 0) (c3 (.int 1)))])])) aM)
  (af (bh (aS (ah (bg false) (ah ag (v3 0) (c3 (.int 0))) (c3 (.str "take")))) (az (ay [(c3 (.int 1)),(ac s0 [(ah ag (v3 0) (c3 (.int 4)))])])) aM)
  (az (ay [])))))
def dj(Dz Bo s0:aC):bH:=(af (bh (aS (ah (bg false) (v3 1) (c3 (.int 0)))) (az (v3 2)) aM)
  (af (bh (aS (ah (bg false) (ah ag (v3 0) (c3 (.int 0))) (c3 (.str "often")))) (az (ay [(ay [(c3 (.int 1)),(ac s0 [(ah ag (v3 0) (c3 (.int 1))),(ah b4 (v3 1) (c3 (.int 1))),(v3 2)])])])) aM)
  (af (au 3 (ah ag (v3 0) (d9 bq (c3 (.int 2)))))
  (af (au 4 (ah ag (v3 0) (d9 bq (c3 (.int 1)))))
  (af (au 5 (ah aP (c3 (.int 1)) (ac Dz [(v3 3)])))
  (af (au 6 (oh (aS (ah oQ (v3 1) (v3 5))) (c3 (.int 0)) (c3 (.int 1))))
  (af (au 7 (oh (aS (ah (bg false) (v3 6) (c3 (.int 0)))) (ac s0 [(v3 3),(ah b4 (v3 1) (c3 (.int 1))),(v3 2)]) (ac s0 [(v3 4),(ah b4 (v3 1) (v3 5)),(v3 2)])))
  (af (bh (aS (ah (bg true) (ah ag (v3 0) (c3 (.int 0))) (c3 (.str "then")))) (az (ay [(v3 6),(v3 7)])) aM)
  (af (bh (aS (ah (bg false) (v3 6) (c3 (.int 0)))) (az (ay [(v3 7),(ac Bo [(v3 4)])])) aM)
  (az (ay [(ac Bo [(v3 3)]),(v3 7)])))))))))))
def eI(s0:aC):bH:=(af (bh (aS (ah (bg false) (ah ag (v3 0) (c3 (.int 0))) (c3 (.str "put")))) (aU (d_ "list" bm (v3 2) [(ah ag (v3 0) (c3 (.int 1)))])) aM)
  (af (bh (aS (ah (bg false) (ah ag (v3 0) (c3 (.int 0))) (c3 (.str "often")))) (aU (ac s0 [(ah ag (v3 0) (c3 (.int 1))),(v3 1),(v3 2)])) aM)
  (bh (aS (ah (jv false) (ah ag (v3 0) (c3 (.int 0))) (ay [(c3 (.str "then")),(c3 (.str "either")),(c3 (.str "take"))]))) (af (bh (iT (aS (ah (bg true) (ah ag (v3 0) (c3 (.int 0))) (c3 (.str "take")))) (aS (ah (jv false) (ah ag (v3 0) (c3 (.int 1))) (v3 1)))) (aU (ac s0 [(ah ag (v3 0) (d9 bq (c3 (.int 2)))),(v3 1),(v3 2)])) aM)
  (aU (ac s0 [(ah ag (v3 0) (d9 bq (c3 (.int 1)))),(v3 1),(v3 2)]))) aM)))
def cr(Ct:aC):bH:=(af (au 1 (bu []))
  (af (cm (aG (ah ag (v3 0) (c3 (.int 0)))) (.n 2) (af (au 3 (bu []))
  (af (cm (aG (ah ag (v3 0) (c3 (.int 1)))) (.tp (.cons (.n 4) (.cons (.n 5) .nil))) (aU (ac Ct [(v3 5),(v3 1),(v3 3)])))
  (au 1 (v3 3)))))
  (az (v3 1))))
def cO(s0:aC):bH:=(af (bh (aS (ah (bg false) (ah ag (v3 0) (c3 (.int 0))) (c3 (.str "put")))) (az (ay [(c3 (.str "put")),(lm (v3 1) (ah ag (v3 0) (c3 (.int 1))) (ah ag (v3 0) (c3 (.int 1)))),(ah ag (v3 0) (c3 (.int 2)))])) aM)
  (af (bh (aS (ah (bg false) (ah ag (v3 0) (c3 (.int 0))) (c3 (.str "often")))) (az (ay [(c3 (.str "often")),(ac s0 [(ah ag (v3 0) (c3 (.int 1))),(v3 1)])])) aM)
  (af (bh (aS (ah (jv false) (ah ag (v3 0) (c3 (.int 0))) (ay [(c3 (.str "then")),(c3 (.str "either")),(c3 (.str "take"))]))) (af (au 2 (ay [(ac s0 [(ah ag (v3 0) (d9 bq (c3 (.int 2)))),(v3 1)]),(ac s0 [(ah ag (v3 0) (d9 bq (c3 (.int 1)))),(v3 1)])]))
  (af (bh (aS (ah (bg false) (ah ag (v3 0) (c3 (.int 0))) (c3 (.str "take")))) (az (ah aP (ay [(c3 (.str "take")),(lm (v3 1) (ah ag (v3 0) (c3 (.int 1))) (ah ag (v3 0) (c3 (.int 1)))),(ah ag (v3 0) (c3 (.int 2)))]) (v3 2))) aM)
  (az (ah aP (bj (v3 0) kU (jU (c3 (.int 1)))) (v3 2))))) aM)
  (az (v3 0)))))
end C
namespace Zu
open PySem Zt
open Sem (wp)
def nn{a b:Nat}(h:a≠b):@Ne Addr a b:=h
end Zu
namespace L2
open PySem PySem.Spec PyProof.Rows
end L2
namespace L3
open PySem L2
end L3
namespace L2
open PySem PySem.Spec PyProof.Rows
end L2
namespace L3
open PySem L2
end L3
namespace C
open PySem L2 L3
end C
namespace Zv
open PySem
open Sem (wp)
abbrev rg(h:Heap)(n:Nat)(f0 f1:Value):Prop:=h.get? (n+4:Nat)=some { cls:=.type "zip",dict:=none,data:=.fields #[f0,f1,.bool false,.ref (n+2:Nat),.ref (n+3:Nat)],slots:=#[] }
section
variable {prog:Program} {w:World} {A:Around} {E:Vq} {s:Shared} {n l1 l2:Nat} {i:Nat} {xs ys:Vw} {x y:Value} {T:Nat} {oT:Obj} {f1:Value}
def zy{M:Model}{a:Nat}{Q:Option Obj->Shared->Prop}(h:Q (s.heap.get? a) s):wpAny M A (loadIfAlive a) Q E s:=fun Γ p _=>h
def m9{Q:Bool->Shared->Prop}(gz:rg s.heap n (rawInt T) f1)(aT:s.heap.get? T=some oT)(hf:f1 = .bool false\/f1 = .bool true)
  (k:∀g,rg g n (rawInt T) (.bool true)->(∀c o,c≠n+4->s.heap.get? c=some o->g.get? c=some o)->g.objs.size=s.heap.objs.size->Q false { s with heap:=g }) :
  wpAny (model prog w) A (Builtin.SmallTypes.ownedTupleIsFree (.ref (n+4:Nat))) Q E s:=by
 unfold Builtin.SmallTypes.ownedTupleIsFree
 refine HB (Iw gz rfl (x:=rawInt T) rfl ?_)
 show wpAny _ _ (loadIfAlive ((T:Int).toNat) >>= _) _ _ _
 refine HB (zy ?_)
 rw[J4,aT]
 show wpAny _ _ (field (.ref (n+4:Nat)) 1 >>= _) _ _ _
 refine HB (Iw gz rfl (x:=f1) rfl ?_)
 rcases hf with rfl|rfl
 ·show wpAny _ _ (setField (.ref (n+4:Nat)) 1 (.bool true) >>= _) _ _ _
  exact HB (Jl gz (by simp) fun g z1 q1=>HJ (k g z1 (fun c o c1 e=>q1.extBut _ _ c1 e) q1.1))
 ·show wpAny _ _ (pure false) _ _ _
  exact HJ (k s.heap gz (fun _ _ _ e=>e) rfl)
def zz{Q:Vq}(d1:l1 < n)(d2:l2 < n)(gz:rg s.heap n (rawInt T) f1)(gI:IsPair s.heap (n+2:Nat) (.ref n) (.ref (n+1:Nat)))(aT:s.heap.get? T=some oT)(hf:f1 = .bool false\/f1 = .bool true)
  (g1:s.heap.IsListIter n l1 i) (g2:s.heap.IsListIter (n+1:Nat) l2 i) (t1:s.heap.IsList l1 xs) (t2:s.heap.IsList l2 ys) (hx:xs[i]?=some x) (hy:ys[i]?=some y)
  (k:∀g,rg g n (rawInt T) (.bool true)->g.IsListIter n l1 (i+1)->g.IsListIter (n+1:Nat) l2 (i+1)->IsPair g s.heap.objs.size x y->g.objs.size=s.heap.objs.size+1->
   (∀c o,c≠n+4->c≠n->c≠n+1->s.heap.get? c=some o->g.get? c=some o)->Q (.ref s.heap.objs.size) { s with heap:=g }) :
  wpAny (model prog w) A (Builtin.«zip.__next__» ⟨[.ref (n+4:Nat)],[]⟩) (fun fin s'=>∃v,fin = .done (.ret v)/\Q v s') E s:=by
 show wpAny _ _ (field (.ref (n+4:Nat)) 2 >>= _) _ _ _;refine HB (Iw gz rfl (x:=.bool false) rfl ?_)
 show wpAny _ _ (field (.ref (n+4:Nat)) 3 >>= _) _ _ _;refine HB (Iw gz rfl (x:=.ref (n+2:Nat)) rfl (HB (I9 gI rfl ?_)))
 show wpAny _ _ (Builtin.SmallTypes.ownedTupleIsFree (.ref (n+4:Nat)) >>= _) _ _ _
 refine HB (m9 gz aT hf fun h₁ z1 q1 DJ=>?_)
 simp only[HU,Iu]
 simp only[<-Array.forIn_toList,Ku,List.forIn_nil]
 have FF:h₁.IsListIter n l1 i:=g1.at fun o e=>q1 _ o (by omega) e
 have G8:h₁.IsListIter (n+1:Nat) l2 i:=g2.at fun o e=>q1 _ o (by omega) e
 have t1':h₁.IsList l1 xs:=t1.at fun o e=>q1 _ o (by omega) e
 have G9:h₁.IsList l2 ys:=t2.at fun o e=>q1 _ o (by omega) e
 refine HB (HB (HB (Jp ?_)))
 show wpAny _ _ (Builtin.SmallTypes.nextOf (.ref n) >>= _) _ _ _
 refine HB (KP FF t1' hx fun h₂ n1 q2=>HJ ?_)
 have FG:h₂.IsListIter (n+1:Nat) l2 i:=G8.extBut q2.extBut (Zu.nn (by omega))
 have FH:h₂.IsList l2 ys:=G9.extBut q2.extBut (Zu.nn (by omega))
 refine HJ ?_
 refine HB (HB (Jp ?_))
 show wpAny _ _ (Builtin.SmallTypes.nextOf (.ref (n+1:Nat)) >>= _) _ _ _
 refine HB (KP FG FH hy fun h₃ n2 q3=>HJ ?_)
 refine HJ (HJ ?_)
 show wpAny _ _ (newTuple [x,y] >>= _) _ _ _
 refine HB (wpAny_newTuple (HJ ⟨_,rfl,?_⟩))
 have sz:h₃.objs.size=s.heap.objs.size:=by rw[q3.1,q2.1,DJ]
 have kk:∀c o,c≠n+4->c≠n->c≠n+1->s.heap.get? c=some o->h₃.get? c=some o:=fun c o c1 c2 c3 e=>q3.extBut _ _ c3 (q2.extBut _ _ c2 (q1 c o c1 e))
 have z3:rg h₃ n (rawInt T) (.bool true):=q3.extBut _ _ (Zu.nn (by omega)) (q2.extBut _ _ (Zu.nn (by omega)) z1)
 have m1:h₃.IsListIter n l1 (i+1):=n1.extBut q3.extBut (Zu.nn (by omega))
 have T8:IsPair (h₃.push { cls:=.type "tuple",data:=.seq #[x,y] }) h₃.objs.size x y:=HV _ rfl
 rw[sz]at T8
 show Q (.ref h₃.objs.size) _
 rw[sz]
 exact k _ (HE _ z3) (m1.at fun o e=>HE _ e) (n2.at fun o e=>HE _ e) T8 (by rw[Jr,sz]) fun c o c1 c2 c3 e=>HE _ (kk c o c1 c2 c3 e)
def yN{Q:Fin->Shared->Prop}(hh:A.handled=none)(d1:l1 < n)(gz:rg s.heap n (rawInt T) f1)(gI:IsPair s.heap (n+2:Nat) (.ref n) (.ref (n+1:Nat)))(aT:s.heap.get? T=some oT)(hf:f1 = .bool false\/f1 = .bool true)
  (g1:s.heap.IsListIter n l1 i) (t1:s.heap.IsList l1 xs) (hx:xs[i]?=none)
  (k:∀(g:Heap) (e:Addr),(∀c o,c≠n+4->c≠n->s.heap.get? c=some o->g.get? c=some o)->(∃o,g.get? e=some o/\o.cls = .type "StopIteration")->E (.ref e) { s with heap:=g }) :
  wpAny (model prog w) A (Builtin.«zip.__next__» ⟨[.ref (n+4:Nat)],[]⟩) Q E s:=by
 show wpAny _ _ (field (.ref (n+4:Nat)) 2 >>= _) _ _ _;refine HB (Iw gz rfl (x:=.bool false) rfl ?_)
 show wpAny _ _ (field (.ref (n+4:Nat)) 3 >>= _) _ _ _;refine HB (Iw gz rfl (x:=.ref (n+2:Nat)) rfl (HB (I9 gI rfl ?_)))
 show wpAny _ _ (Builtin.SmallTypes.ownedTupleIsFree (.ref (n+4:Nat)) >>= _) _ _ _
 refine HB (m9 gz aT hf fun h₁ z1 q1 DJ=>?_)
 simp only[HU,Iu]
 simp only[<-Array.forIn_toList,Ku,List.forIn_nil]
 have FF:h₁.IsListIter n l1 i:=g1.at fun o e=>q1 _ o (by omega) e
 have t1':h₁.IsList l1 xs:=t1.at fun o e=>q1 _ o (by omega) e
 refine HB (HB (HB (Jp ?_)))
 show wpAny _ _ (Builtin.SmallTypes.nextOf (.ref n) >>= _) _ _ _
 exact HB (wpAny_nextOf_list_end hh FF t1' hx fun h₂ e q2 he=>k h₂ e (fun c o c1 c2 u=>q2 _ _ c2 (q1 c o c1 u)) he)
def xi{Q:Option Value->Shared->Prop}(d1:l1 < n)(d2:l2 < n)(gz:rg s.heap n (rawInt T) f1)(gI:IsPair s.heap (n+2:Nat) (.ref n) (.ref (n+1:Nat)))(aT:s.heap.get? T=some oT)(hf:f1 = .bool false\/f1 = .bool true)
  (g1:s.heap.IsListIter n l1 i) (g2:s.heap.IsListIter (n+1:Nat) l2 i) (t1:s.heap.IsList l1 xs) (t2:s.heap.IsList l2 ys) (hx:xs[i]?=some x) (hy:ys[i]?=some y)
  (k:∀g,rg g n (rawInt T) (.bool true)->g.IsListIter n l1 (i+1)->g.IsListIter (n+1:Nat) l2 (i+1)->IsPair g s.heap.objs.size x y->g.objs.size=s.heap.objs.size+1->
   (∀c o,c≠n+4->c≠n->c≠n+1->s.heap.get? c=some o->g.get? c=some o)->Q (some (.ref s.heap.objs.size)) { s with heap:=g }) :
  wpAny (model prog w) A (pyNext (.ref (n+4:Nat))) Q E s:=by
 have ty:s.TypeIs (.ref (n+4:Nat)) "zip":=⟨_,gz,rfl⟩
 unfold pyNext
 exact HB (wpAny_attempt (IG (name:=Str.ofString "__next__") ty Jy (Jk Jy ty KY
  (zz d1 d2 gz gI aT hf g1 g2 t1 t2 hx hy fun g a1 a2 a3 a4 a5 a6=>HJ (k g a1 a2 a3 a4 a5 a6)) (KQ _))))
def ow{Q:Option Value->Shared->Prop}(hh:A.handled=none)(d1:l1 < n)(gz:rg s.heap n (rawInt T) f1)(gI:IsPair s.heap (n+2:Nat) (.ref n) (.ref (n+1:Nat)))(aT:s.heap.get? T=some oT)(hf:f1 = .bool false\/f1 = .bool true)
  (g1:s.heap.IsListIter n l1 i) (t1:s.heap.IsList l1 xs) (hx:xs[i]?=none)
  (k:∀g:Heap,(∀c o,c≠n+4->c≠n->s.heap.get? c=some o->g.get? c=some o)->Q none { s with heap:=g }):wpAny (model prog w) A (pyNext (.ref (n+4:Nat))) Q E s:=by
 have ty:s.TypeIs (.ref (n+4:Nat)) "zip":=⟨_,gz,rfl⟩
 unfold pyNext
 refine HB (wpAny_attempt (IG (name:=Str.ofString "__next__") ty Jy (Jk Jy ty KY (yN hh d1 gz gI aT hf g1 t1 hx fun g e kk ⟨o,ho,hc⟩=>?_) (KQ _))))
 exact HB (wpAny_isInstance (T:="StopIteration") (b:=true) ⟨o,ho,hc⟩ isSubtype_stop (HJ (k _ kk)))
end
noncomputable def dM(n i:Nat):List Value:=(List.range i).map fun j=>Value.ref (n+6+j:Nat)
structure St (h:Heap) (n l1 l2:Nat) (xs ys:Vw) (i:Nat):Prop where
 sz:h.objs.size=n+6+i
 I:IsPair h (n+2:Nat) (.ref n) (.ref (n+1:Nat))
 z:∃f1,(f1 = .bool false\/f1 = .bool true)/\rg h n (rawInt (n+6:Nat)) f1
 g1:h.IsListIter n l1 i
 g2:h.IsListIter (n+1:Nat) l2 i
 t1:h.IsList l1 xs
 t2:h.IsList l2 ys
 S:∃c,h.get? (n+5:Nat)=some { cls:=.type "list",dict:=none,data:=.seq (dM n i).toArray c,slots:=#[] }
 its:∀j x y,j < i->xs[j]?=some x->ys[j]?=some y->IsPair h (n+6+j:Nat) x y
def ox(n i:Nat):(dM n i).toArray.push (.ref (n+6+i:Nat))=(dM n (i+1)).toArray:=by
 unfold dM
 rw[List.range_succ,IA]
 simp
structure xW (h:Heap) (n:Nat) (xs ys:Vw):Prop where
 sz:n+6+xs.size<=h.objs.size
 S:∃c,h.get? (n+5:Nat)=some { cls:=.type "list",dict:=none,data:=.seq (dM n xs.size).toArray c,slots:=#[] }
 its:∀j x y,xs[j]?=some x->ys[j]?=some y->IsPair h (n+6+j:Nat) x y
section
variable {prog:Program} {w:World} {A:Around} {R:Result->Shared->Prop} {n l1 l2:Nat} {xs ys:Vw}
def loop(hh:A.in1.handled=none)(d1:l1 < n)(d2:l2 < n)(hxy:xs.size=ys.size)(hz:xs.size<=sizeLine)(res:Value) :
  ∀(k i:Nat) (s:Shared),xs.size - i=k->1<=i->i<=xs.size->St s.heap n l1 l2 xs ys i->
  (∀g,xW g n xs ys->(∀b o,b < n->s.heap.get? b=some o->g.get? b=some o)->R (.ok (.ret res)) { s with heap:=g })->
  codeAny (model prog w) A (.builtin "list.extend.loop" ⟨[.ref (n+5:Nat),.ref (n+4:Nat),res],[]⟩) R s:=by
 intro k
 induction k with
 |zero=>
  intro i s hk hi hle st hR
  have hin:i=xs.size:=by omega
  subst hin
  refine JX Lc ?_
  rw[Js Jf _]
  show wpAny _ A.in1 (pyNext (.ref (n+4:Nat)) >>= _) _ _ s
  obtain⟨f1,hf,gz⟩:=st.z
  obtain⟨c,hS⟩:=st.S
  have h0:0 < xs.size:=by omega
  have aT:=st.its 0 (xs[0]'h0) (ys[0]'(by omega)) h0 (Ia h0) (Ia (by omega))
  have h1:xs.size - 1 < xs.size:=by omega
  have aL:=st.its (xs.size - 1) (xs[xs.size - 1]'h1) (ys[xs.size - 1]'(by omega)) h1 (Ia h1) (Ia (by omega))
  refine HB (ow hh d1 gz st.I aT hf st.g1 st.t1 (JT (HF _)) fun g kk=>?_)
  refine HJ (hR g ⟨?_,⟨c,kk _ _ (by omega) (by omega) hS⟩,fun j x y hx hy=>kk _ _ (by omega) (by omega) (st.its j x y (Kc.mp hx).1 hx hy)⟩ fun b o hb e=>kk _ _ (by omega) (by omega) e)
  have h2:n+6+(xs.size - 1) < g.objs.size:=HK (kk _ _ (by omega) (by omega) aL)
  omega
 |succ k ih=>
  intro i s hk hi hle st hR
  have hlt:i < xs.size:=by omega
  refine JX Lc ?_
  rw[Js Jf _]
  show wpAny _ A.in1 (pyNext (.ref (n+4:Nat)) >>= _) _ _ s
  obtain⟨f1,hf,gz⟩:=st.z
  obtain⟨c,hS⟩:=st.S
  have h0:0 < xs.size:=by omega
  have aT:=st.its 0 (xs[0]'h0) (ys[0]'(by omega)) (by omega) (Ia h0) (Ia (by omega))
  refine HB (xi d1 d2 gz st.I aT hf st.g1 st.g2 st.t1 st.t2 (x:=xs[i]) (y:=ys[i]'(by omega)) (Ia hlt) (Ia (by omega)) fun g z1 m1 m2 p1 DJ kk=>?_)
  have S1:=kk _ _ (by omega) (by omega) (by omega) hS
  have EB:s.heap.objs.size=n+6+i:=st.sz
  rw[EB]at p1 DJ
  show wpAny _ A.in1 (updateSeq (n+5:Nat) (·.push (.ref s.heap.objs.size)) >>= _) _ _ _
  refine HB ?_
  rw[EB]
  have len:(dM n i).toArray.size=i:=by unfold dM;simp
  have Bp:∀b o,b≠n+5->g.get? b=some o->(g.update (n+5:Nat) (Obj.mapSeq (·.push (.ref (n+6+i:Nat))))).get? b=some o:=fun b o hb e=>(IW _ _ (JE hb)).trans e
  have S2:=IZ (Obj.mapSeq (·.push (Value.ref (n+6+i:Nat)))) S1 rfl
  refine Ks S1 rfl (HJ ⟨Kp Jf _,ih (i+1) _ (by omega) (by omega) (by omega) ⟨?_,Bp _ _ (by omega) (kk _ _ (by omega) (by omega) (by omega) st.I),⟨.bool true,.inr rfl,Bp _ _ (by omega) z1⟩,m1.at fun o e=>Bp _ _ (by omega) e,m2.at fun o e=>Bp _ _ (by omega) e,(st.t1.at fun o e=>kk _ _ (by omega) (by omega) (by omega) e).at fun o e=>Bp _ _ (by omega) e,(st.t2.at fun o e=>kk _ _ (by omega) (by omega) (by omega) e).at fun o e=>Bp _ _ (by omega) e,?_,?_⟩ fun g' st' EC=>?_⟩) (by rw[len];omega) (by show((dM n i).toArray.push _).size<=sizeLine+1;rw[Array.size_push,len];omega)
  ·show(g.update _ _).objs.size=_
   rw[KZ,DJ]
   omega
  ·rw[<-ox]
   exact⟨_,S2⟩
  ·intro j x y hj hx hy
   by_cases e:j=i
   ·subst e
    rw[Ia hlt]at hx
    rw[Ia (by omega)]at hy
    cases hx;cases hy
    exact Bp _ _ (by omega) p1
   ·exact Bp _ _ (by omega) (kk _ _ (by omega) (by omega) (by omega) (st.its j x y (by omega) hx hy))
  ·exact hR g' st' fun b o hb e=>EC b o hb (Bp _ _ (by omega) (kk _ _ (by omega) (by omega) (by omega) e))
def first(hh:A.in1.handled=none)(d1:l1 < n)(d2:l2 < n)(hxy:xs.size=ys.size)(h1:1<=xs.size)(hz:xs.size<=sizeLine)(res:Value)(s:Shared)(c:Nat)(sz:s.heap.objs.size=n+6)
  (gz:IsZip s.heap (n+4:Nat) (n+2:Nat) (n+3:Nat) .none) (gI:IsPair s.heap (n+2:Nat) (.ref n) (.ref (n+1:Nat))) (gO:IsPair s.heap (n+3:Nat) .none .none) (g1:s.heap.IsListIter n l1 0) (g2:s.heap.IsListIter (n+1:Nat) l2 0) (t1:s.heap.IsList l1 xs) (t2:s.heap.IsList l2 ys)
  (hS:s.heap.get? (n+5:Nat)=some { cls:=.type "list",dict:=none,data:=.seq #[] c,slots:=#[] })
  (hR:∀g,xW g n xs ys->(∀b o,b < n->s.heap.get? b=some o->g.get? b=some o)->R (.ok (.ret res)) { s with heap:=g }) :
  codeAny (model prog w) A (.builtin "list.extend.loop" ⟨[.ref (n+5:Nat),.ref (n+4:Nat),res],[]⟩) R s:=by
 refine JX Lc ?_
 rw[Js Jf _]
 show wpAny _ A.in1 (pyNext (.ref (n+4:Nat)) >>= _) _ _ s
 have h0:0 < xs.size:=by omega
 refine HB (wpAny_pyNext_zip_item (PyProof.Rows.zipApart_new d1 d2) gz gI gO g1 g2 t1 t2 (x:=xs[0]'h0) (y:=ys[0]'(by omega)) (Ia h0) (Ia (by omega)) fun g z1 o1 m1 m2 p1 DJ kk=>?_)
 have S1:=kk _ _ (Zu.nn (by omega)) (Zu.nn (by omega)) (Zu.nn (by omega)) (Zu.nn (by omega)) hS
 rw[sz]at p1 DJ z1
 show wpAny _ A.in1 (updateSeq (n+5:Nat) (·.push (.ref s.heap.objs.size)) >>= _) _ _ _
 refine HB ?_
 rw[sz]
 have Bp:∀b o,b≠n+5->g.get? b=some o->(g.update (n+5:Nat) (Obj.mapSeq (·.push (.ref (n+6:Nat))))).get? b=some o:=fun b o hb e=>(IW _ _ (JE hb)).trans e
 have S2:=IZ (Obj.mapSeq (·.push (Value.ref (n+6:Nat)))) S1 rfl
 have kb:∀b o,b < n->s.heap.get? b=some o->(g.update (n+5:Nat) (Obj.mapSeq (·.push (.ref (n+6:Nat))))).get? b=some o:=fun b o hb e=>Bp _ _ (by omega) (kk b o (Zu.nn (by omega)) (Zu.nn (by omega)) (Zu.nn (by omega)) (Zu.nn (by omega)) e)
 refine Ks S1 rfl (HJ ⟨Kp Jf _,loop hh d1 d2 hxy hz res (xs.size - 1) 1 _ rfl (HF _) h1 ⟨?_,Bp _ _ (by omega) (kk _ _ (Zu.nn (by omega)) (Zu.nn (by omega)) (Zu.nn (by omega)) (Zu.nn (by omega)) gI),⟨.bool false,.inl rfl,Bp _ _ (by omega) z1⟩,m1.at fun o e=>Bp _ _ (by omega) e,m2.at fun o e=>Bp _ _ (by omega) e,t1.at fun o e=>kb _ _ d1 e,t2.at fun o e=>kb _ _ d2 e,⟨_,S2⟩,?_⟩ fun g' st' EC=>?_⟩) (by show 0<=sizeLine;omega) (by show 1<=sizeLine+1;omega)
 ·show(g.update _ _).objs.size=_
  rw[KZ,DJ]
 ·intro j x y hj hx hy
  have e:j=0:=by omega
  subst e
  rw[Ia h0]at hx
  rw[Ia (by omega)]at hy
  cases hx;cases hy
  exact Bp _ _ (by omega) p1
 ·exact hR g' st' fun b o hb e=>EC b o hb (kb b o hb e)
end
def mw:typeLookup (.type "zip") "__len__" = pure none:=by rw[K7,JZ];kernel_rfl
def lq:typeLookup (.type "zip") "__length_hint__" = pure none:=by rw[K7,JZ];kernel_rfl
section
variable {prog:Program} {w:World} {A:Around} {E:Vq} {s:Shared} {n l1 l2:Nat} {xs ys:Vw}
def lr{Q:List Value->Shared->Prop}(hh:A.handled=none)(d1:l1 < n)(d2:l2 < n)(hxy:xs.size=ys.size)(h1:1<=xs.size)(hz:xs.size<=sizeLine)(sz:s.heap.objs.size=n+5)
  (gz:IsZip s.heap (n+4:Nat) (n+2:Nat) (n+3:Nat) .none) (gI:IsPair s.heap (n+2:Nat) (.ref n) (.ref (n+1:Nat))) (gO:IsPair s.heap (n+3:Nat) .none .none) (g1:s.heap.IsListIter n l1 0) (g2:s.heap.IsListIter (n+1:Nat) l2 0) (t1:s.heap.IsList l1 xs) (t2:s.heap.IsList l2 ys)
  (hQ:∀g,xW g n xs ys->(∀b o,b < n->s.heap.get? b=some o->g.get? b=some o)->Q (dM n xs.size) { s with heap:=g }):wpAny (model prog w) A (collect (.ref (n+4:Nat))) Q E s:=by
 unfold collect
 refine HB (wpAny_runValue (JX F.entry_proto_collect ?_))
 rw[Js F.plain_proto_collect _]
 show wpAny _ A.in1 (newList [] >>= fun l=>again (.builtin "list.__iadd__" ⟨[l,.ref (n+4:Nat)],[]⟩)) _ _ s
 refine HB (IQ ?_)
 refine HJ ⟨Kp F.plain_list_iadd _,JX F.entry_list_iadd ?_⟩
 rw[Js F.plain_list_iadd _]
 show wpAny _ A.in1 (Builtin.List.listExtendWith (.ref s.heap.objs.size) (.ref (n+4:Nat)) (.ref s.heap.objs.size)) _ _ _
 unfold Builtin.List.listExtendWith
 have p:∀{b:Nat} {o:Obj},s.heap.get? b=some o->(s.heap.push { cls:=.type "list",data:=.seq ([]:Vv).toArray }).get? b=some o:=fun e=>HE _ e
 have hT:Shared.TypeIs { s with heap:=s.heap.push { cls:=.type "list",data:=.seq ([]:Vv).toArray } } (.ref (n+4:Nat)) "zip":=⟨_,p gz,rfl⟩
 refine HB (KJ hT ?_)
 have e1:Builtin.List.listSameRef (.ref s.heap.objs.size) (.ref (n+4:Nat))=false:=by rw[sz];simp[Builtin.List.listSameRef]
 have e2:(Value.type "zip" == Value.type "list")=false:=by decide
 have e3:(Value.type "zip" == Value.type "tuple")=false:=by decide
 simp only[e1,e2,e3,Bool.or_false,HU,Iu]
 refine HB (wpAny_pyIter_zip (s:={ s with heap:=s.heap.push { cls:=.type "list",data:=.seq ([]:Vv).toArray } }) (p gz) ?_)
 refine HB (Jp ?_)
 unfold Builtin.List.listLengthHint
 refine HB (K8 hT mw ?_)
 show wpAny _ A.in1 (specialOf (Value.ref (n+4:Nat)) (Str.ofString "__length_hint__") >>= _) _ _ _
 refine HB (K8 hT lq ?_)
 refine HJ ?_
 show wpAny _ A.in1 (rule "list.extend.makes-room" >>= fun _=>Builtin.List.listTouch (.ref s.heap.objs.size) >>= fun _=>
  again (.builtin "list.extend.loop" ⟨[.ref s.heap.objs.size,.ref (n+4:Nat),.ref s.heap.objs.size],[]⟩)) _ _ _
 refine HB (Kw ?_)
 have Gi:(s.heap.push { cls:=.type "list",data:=.seq ([]:Vv).toArray }).get? s.heap.objs.size=some { cls:=.type "list",data:=.seq ([]:Vv).toArray }:=HV _ rfl
 refine HB ?_
 show wpAny _ A.in1 (updateSeq s.heap.objs.size (·.push .none) >>= fun _=>updateSeq s.heap.objs.size (·.pop)) _ _ _
 refine HB (Ks Gi rfl ?_)
 have EU:=IZ (Obj.mapSeq (·.push Value.none)) Gi rfl
 refine Ks EU rfl ?_
 have FI:=IZ (Obj.mapSeq (·.pop)) EU rfl
 have Bp:∀b o,b≠s.heap.objs.size->(s.heap.push { cls:=.type "list",data:=.seq ([]:Vv).toArray }).get? b=some o->
   (((s.heap.push { cls:=.type "list",data:=.seq ([]:Vv).toArray }).update s.heap.objs.size (Obj.mapSeq (·.push Value.none))).update s.heap.objs.size (Obj.mapSeq (·.pop))).get? b=some o:=
  fun b o hb e=>(IW _ _ (JE hb)).trans ((IW _ _ (JE hb)).trans e)
 have q:∀{b:Nat} {o:Obj},s.heap.get? b=some o->(((s.heap.push { cls:=.type "list",data:=.seq ([]:Vv).toArray }).update s.heap.objs.size (Obj.mapSeq (·.push Value.none))).update s.heap.objs.size (Obj.mapSeq (·.pop))).get? b=some o:=
  fun{b o} e=>Bp b o (Ii (HK e)) (p e)
 have Gj:(((s.heap.push { cls:=.type "list",data:=.seq ([]:Vv).toArray }).update s.heap.objs.size (Obj.mapSeq (·.push Value.none))).update s.heap.objs.size (Obj.mapSeq (·.pop))).objs.size=n+6:=by
  rw[KZ,KZ,Jr,sz]
 show wpAny _ A.in1 (again (.builtin "list.extend.loop" ⟨[.ref s.heap.objs.size,.ref (n+4:Nat),.ref s.heap.objs.size],[]⟩)) _ _ { s with heap:=(((s.heap.push { cls:=.type "list",data:=.seq ([]:Vv).toArray }).update s.heap.objs.size (Obj.mapSeq (·.push Value.none))).update s.heap.objs.size (Obj.mapSeq (·.pop))) }
 generalize (((s.heap.push { cls:=.type "list",data:=.seq ([]:Vv).toArray }).update s.heap.objs.size (Obj.mapSeq (·.push Value.none))).update s.heap.objs.size (Obj.mapSeq (·.pop)))=h2 at FI q Gj
 rw[sz]at FI ⊢
 refine HJ ⟨Kp Jf _,first (A:=A) hh d1 d2 hxy h1 hz _ _ _ Gj (q gz) (q gI) (q gO) (g1.at fun o e=>q e) (g2.at fun o e=>q e) (t1.at fun o e=>q e) (t2.at fun o e=>q e) FI fun g st kk=>?_⟩
 obtain⟨c,hS⟩:=st.S
 show wpAny _ A (load (n+5:Nat) >>= _) _ _ _
 refine HB (wpAny_load hS ?_)
 exact HJ (by simpa using hQ g st fun b o hb e=>kk b o hb (q e))
def mx{Q:Vq}(hh:A.handled=none)(d1:l1 < n)(d2:l2 < n)(hxy:xs.size=ys.size)(h1:1<=xs.size)(hz:xs.size<=sizeLine)(sz:s.heap.objs.size=n+5)
  (gz:IsZip s.heap (n+4:Nat) (n+2:Nat) (n+3:Nat) .none) (gI:IsPair s.heap (n+2:Nat) (.ref n) (.ref (n+1:Nat))) (gO:IsPair s.heap (n+3:Nat) .none .none) (g1:s.heap.IsListIter n l1 0) (g2:s.heap.IsListIter (n+1:Nat) l2 0) (t1:s.heap.IsList l1 xs) (t2:s.heap.IsList l2 ys)
  (hQ:∀g,xW g n xs ys->(∀b o,b < n->s.heap.get? b=some o->g.get? b=some o)->Q (.ref g.objs.size) { s with heap:=g.push { cls:=.type "tuple",data:=.seq (dM n xs.size).toArray } }):wpAny (model prog w) A (call (.type "tuple") [.ref (n+4:Nat)]) Q E s:=by
 have hT:s.TypeIs (.ref (n+4:Nat)) "zip":=⟨_,gz,rfl⟩
 refine callType_codes (Q₁:=fun obj s₁=>s₁.TypeIs obj "tuple"/\Q obj s₁) F.called_tuple (F.typeCall_tuple_1 _) F.entry_object_init ?_ fun obj s₁ h₁=>
  ⟨h₁.1,F.args_object_init_2 obj _,object_init_meets F.called_tuple.init.lookup F.called_tuple.made (by decide) prog w A.in1 _ s₁ ⟨h₁.1,rfl,h₁.2⟩⟩
 refine codeAny_of_tree ?_
 show wpAny _ A.in1.in1 (do checkBuiltinCall "tuple.__new__" ⟨[.type "tuple",.ref (n+4:Nat)],[]⟩;again (.builtin "tuple.__new__" ⟨[.type "tuple",.ref (n+4:Nat)],[]⟩)) _ _ s
 refine HB (wpAny_of_eq (F.newCall_tuple_1 _) (HJ ⟨Kp F.plain_tuple_new _,JX F.entry_tuple_new ?_⟩))
 rw[Js F.plain_tuple_new _]
 have hsub:=sub_tuple_self
 have Gk:=init_tuple_lookup
 have hmh:=madeHere_tuple
 wp_walk using KJ hT,lr (A:=A.in1.in1) hh d1 d2 hxy h1 hz sz gz gI gO g1 g2 t1 t2
 intro g st kk
 show wpAny _ _ (Builtin.Tuple.tupleExact (dM n xs.size).toArray >>= fun v=>ret v) _ _ _
 unfold Builtin.Tuple.tupleExact
 refine HB (IQ ?_ (by show(dM n xs.size).toArray.size<=sizeLine;unfold dM;simpa using hz))
 exact HJ ⟨⟨_,HV _ rfl,rfl⟩,hQ g st kk⟩
end
end Zv
namespace L2
open PySem PySem.Spec PyProof.Rows
structure DA (K:Vo) (x:Str) (st:Stmt) (T:Addr) (f:Addr) (fd:FuncData):Prop where
 ex:∃(oc:Value) (od:Option Addr) (kV doc pm:Value) (an:Option Addr) (cdv ct:Value) (osl:Array (Option Value)),
  fd=PySem.W.fnOf x x (bB st) (aW st) (ax st) (.ref T) kV doc pm an cdv ct/\K.lookup f=some ⟨oc,od,.func fd,osl⟩/\PySem.W.codeIn K cdv x=true
 kp:PySem.W.keepIn K (.ref f)=true
section
variable {P:Program} {w:World} {K:Vo} {mg:Vr} {base:Heap}
def DA.ok{x:Str}{st:Stmt}{T f:Addr}{fd:FuncData}{N ps:Vs}{k:Nat}{sp:Sp}(F:DA K x st T f fd)(S:cy N ps (ax st))(len:∀vs H Q E,sp vs H Q E->vs.length=ps.length)
  (hbody:∀(cdv:Value) (A:Around) (outer:List Env) (s:Shared) (H:Hp) (vs:List V) (Q:VK) (E:XK),Room k (A.deeper (envOfC x (ax st) s.heap.objs.size f cdv))->sp vs H Q E->
   ∃t,Co (k4 q_ P w K mg base N x (ax st) f cdv A outer s H E).DW (aW st) t/\t { nx:=fun _ H'=>Q .non H',rt:=Q } (d4 N vs) H):jx P w K mg base q_ (k+1) f fd ps sp:=by
 obtain⟨oc,od,kV,doc,pm,an,cdv,ct,osl,rfl,lk,hcd⟩:=F.ex
 refine tK lk hcd S len fun A outer s H vs Q E hr Do=>?_
 obtain⟨t,h,q⟩:=hbody cdv A outer s H vs Q E hr Do
 exact⟨t,h.DW,q⟩
end
section
variable {X:Cx}
def sK(K:Vo)(H:Hp)(r:Addr)(xs ys:List V):Prop:=∃ps:List Addr,SqT K H r (ps.map V.ref)/\ps.length=xs.length/\∀(j:Nat) p x y,ps[j]?=some p->xs[j]?=some x->ys[j]?=some y->H p=some (.tup [x,y])
def xj(K:Vo)(ta:TA):TE:=fun σ H Q=>ta σ H fun vs H1=>∃a b xs ys,vs=[.ref a,.ref b]/\H1 a=some (.lst xs)/\H1 b=some (.lst ys)/\xs.length=ys.length/\1<=xs.length/\∀r H',(∀c o,H1 c=some o->H' c=some o)->sK K H' r xs ys->Q (.ref r) H'
theorem ij{pins:Va}{σ:St}{H:Hp}{s0 s:Shared}{n:Nat}{xs ys:List V}{ix iy:Vv}(I0:Inv X pins σ H s0)(hn:s0.heap.objs.size=n)(I:Inv X pins σ H s)(rx:Vals xs ix)(ry:Vals ys iy)(hl:xs.length=ys.length)
  (hp:∀(j:Nat) u v,ix[j]?=some u->iy[j]?=some v->IsPair s.heap (n+6+j:Nat) u v):∀k,k<=xs.length->∃H',Inv X pins σ H' s/\(∀c o,H c=some o->H' c=some o)/\(∀(j:Nat) x y,j < k->xs[j]?=some x->ys[j]?=some y->H' (n+6+j:Nat)=some (.tup [x,y]))/\∀c:Nat,n+6+k<=c->H' c=none
 |0,_=>⟨H,I,fun _ _ h=>h,fun j x y h=>absurd h (Nat.not_lt_zero _),fun c hc=>I0.hok.fresh (show s0.heap.objs.size<=c by omega)⟩
 |k+1,hk=>by
  obtain⟨H',I',e',p',f'⟩:=ij I0 hn I rx ry hl hp k (by omega)
  have hkx:k < xs.length:=by omega
  have Gm:k < ys.length:=by omega
  obtain⟨u,hu,ru⟩:=rx.get (Ib hkx)
  obtain⟨v,hv,rv⟩:=ry.get (Ib Gm)
  have hD:H' (n+6+k:Nat)=none:=f' _ (HF _)
  have fp:dr X pins H' (n+6+k:Nat):=I0.Bx (show s0.heap.objs.size<=(n+6+k:Nat) by omega) hD
  have eT:Ak s.heap (n+6+k:Nat) [u,v].toArray:=⟨_,hp k u v hu hv,rfl,rfl,_,rfl⟩
  refine⟨_,I'.BV fp eT (.cons ru (.cons rv .nil)) (by show 2<=sizeLine;decide),fun c o h=>?_,fun j x y hj hx hy=>?_,fun c hc=>?_⟩
  ·rw[av (aO (e' c o h) hD)];exact e' c o h
  ·by_cases e:j=k
   ·subst e
    rw[Ib hkx]at hx
    rw[Ib Gm]at hy
    cases hx;cases hy
    exact aw
   ·rw[av (Zu.nn (by omega))];exact p' j x y (by omega) hx hy
  ·rw[av (Zu.nn (by omega))];exact f' c (by omega)
def sL{a b:Expr}{ta:TA}{p1 p2 q1 q2:Pos}(hc:X.calm=true)(ha:PA X [a,b] ta)(Eb:Gl X "tuple")(hm1:X.mg "tuple" = none)(Dy:Gl X "zip")(hm2:X.mg "zip" = none)
  (hs:starEach [a,b] X.env=[(false,eval a X.env),(false,eval b X.env)]) (EY:starEach [b] X.env=[(false,eval b X.env)]) (hs2:starEach [.Call (.Name "zip" p2) [a,b] [] q2] X.env=[(false,eval (.Call (.Name "zip" p2) [a,b] [] q2) X.env)]:=by rfl) :
  PE X (.Call (.Name "tuple" p1) [.Call (.Name "zip" p2) [a,b] [] q2] [] q1) (xj X.K ta):=by
 intro pins s σ H Q I h
 refine Jj (df I Eb hm1 (u:=.type "tuple") (by decide +kernel) ?_)
 refine Ir ?_ hs2 rfl
 rw[hs2]
 show wpAny _ _ (spliced ((false,eval (.Call (.Name "zip" p2) [a,b] [] q2) X.env)::backTo q1 [])) _ _ s
 refine Jb ?_
 refine Jj (df I Dy hm2 (u:=.type "zip") (by decide +kernel) ?_)
 refine Ir (zP (ha q2 pins s σ H _ I h) fun us s1 ⟨vs,H1,I1,r1,q1⟩=>?_) (by rw[hs,EY]) (by rw[EY];rfl)
 obtain⟨a,b,xs,ys,e,qa,qb,hl,h1,q⟩:=q1
 subst e
 obtain⟨u,v,rfl,ru,rv⟩:=o8 r1
 cases ru
 cases rv
 obtain⟨ia,ra,pa,za⟩:=I1.list (SqL.of qa)
 obtain⟨ib,rb,pb,zb⟩:=I1.list (SqL.of qb)
 have G_:=ra.length
 have lrb:=rb.length
 have la:a < s1.heap.objs.size:=by obtain⟨o,e,_⟩:=pa.isList;exact HK e
 have lb:b < s1.heap.objs.size:=by obtain⟨o,e,_⟩:=pb.isList;exact HK e
 refine call_zip_2 pa.isList pb.isList fun g gz gI gO g1 g2 Ha kk=>?_
 refine JI ?_
 refine Zv.mx (s:={ s1 with heap:=g }) (n:=s1.heap.objs.size) (I.ok.hd hc) la lb (by rw[HH,HH];omega) (by rw[HH];omega) (by rw[HH,<-G_];exact za) Ha gz gI gO g1 g2 (pa.isList.at fun o e=>kk _ _ e) (pb.isList.at fun o e=>kk _ _ e) fun g' st EC=>?_
 have key:∀c o,s1.heap.get? c=some o->(g'.push { cls:=.type "tuple",data:=.seq (Zv.dM s1.heap.objs.size ia.toArray.size).toArray }).get? c=some o:=fun c o e=>HE _ (EC c o (HK e) (kk c o e))
 have I2:Inv X pins σ H1 { s1 with heap:=g'.push { cls:=.type "tuple",data:=.seq (Zv.dM s1.heap.objs.size ia.toArray.size).toArray } }:=I1.kept (t':=s1.toks) key
 obtain⟨H',I3,e3,p3,f3⟩:=ij I1 rfl I2 ra rb hl (fun j u v hu hv=>HE _ (st.its j u v (by simpa using hu) (by simpa using hv))) xs.length (HF _)
 have sz:=st.sz
 have EB:ia.toArray.size=xs.length:=by rw[HH];omega
 rw[EB]at sz
 have hD:H' g'.objs.size=none:=f3 _ sz
 have fp:dr X pins H' g'.objs.size:=I1.Bx (HX (by omega) sz) hD
 have ps:∀m:Nat,Vals (((List.range m).map fun j=>(s1.heap.objs.size+6+j:Nat)).map V.ref) (Zv.dM s1.heap.objs.size m):=fun m=>by
  unfold Zv.dM
  rw[JL]
  induction (List.range m)with
  |nil=>exact .nil
  |cons x r ih=>exact .cons rfl ih
 have eT:Ak (g'.push { cls:=.type "tuple",data:=.seq (Zv.dM s1.heap.objs.size ia.toArray.size).toArray }) g'.objs.size (Zv.dM s1.heap.objs.size xs.length).toArray:=⟨_,HV _ rfl,rfl,rfl,_,by rw[EB]⟩
 have I4:=I3.BV fp eT (ps xs.length) (by rw[HD,HD,Ll];exact za)
 refine⟨.ref g'.objs.size,_,I4,rfl,q _ _ (fun c o z=>by rw[av (aO (e3 c o z) hD)];exact e3 c o z) ⟨_,SqT.of aw,by rw[HD,Ll],fun j p x y hp hx hy=>?_⟩⟩
 have hj:j < xs.length:=(Ih.mp hx).1
 rw[HR,Kn hj]at hp
 cases hp
 have z:=p3 j x y hj hx hy
 show upd H' g'.objs.size _ (s1.heap.objs.size+6+j:Nat)=_
 rw[av (aO z hD)]
 exact z
end
end L2
namespace L3
open PySem L2
section
variable {P:Program} {w:World} {K:Vo} {mg:Vr} {base:Heap}
def yO{x:Str}{st:Stmt}{T f:Addr}{fd:FuncData}{N ps:Vs}{k:Nat}{t:bH}(F:DA K x st T f fd)(S:cy N ps (ax st))
  (hbody:∀(cdv:Value) (A:Around) (outer:List Env) (s:Shared) (H:Hp) (E:XK),Room k (A.deeper (PyProof.Rows.envOfC x (ax st) s.heap.objs.size f cdv))->gJ (xc P w K mg base N x st f cdv A outer s H E) (aW st) t) :
  Ds P w K mg base (k+1) f fd ps (zS N.length t):=
 ⟨F.ok S (fun vs H Q E h=>h.1) fun cdv A outer s H vs Q E hr ⟨hl,ps',S',Q3,E3,rv,rS,q,kk⟩=>⟨_,(hbody cdv A outer s H E hr).ok,aB N.length ps',S',_,jX rv,rS,q,.no,fun σ3 S2 σ2 H2 h2 _ Bb g2=>kk _ S2 _ H2 h2 .non Bb g2,kk,fun _ _ _ _ h2=>h2.elim,fun _ _ _ _ h2=>h2.elim⟩⟩
structure yP (K:Vo) (mg:Vr) (x:Str) (st:Stmt) (ps:Vs) (T:Addr) (f:Addr) (fd:FuncData):Prop where
 F:DA K x st T f fd
 b:Binds K fd ps []
 d:Binds K fd ps [.bool true]
 k:PySem.W.keepIn K (.ref f)=true
 m:mg x=some (.ref f)
end
section
variable {X:Cx} {e o:Expr} {es:List Expr} {te to:aQ} {ts:List aQ} {x:Str} {p pos apos cpos:Pos} {k:Nat} {f:Addr} {fd:FuncData} {ps:Vs} {sp:aC}
def kH(sp:aC)(ts:List aQ):aQ:=fun σ S Q E=>ao ts σ S (fun ps S1=>sp (ps++[.bl true]) S1 Q E) E
def sM(F:Ds X.prog X.w X.K X.mg X.base k f fd ps sp)(hr:Room k X.A)(hg:Gl X x)(hm:X.mg x=some (.ref f))(hk:PySem.W.keepIn X.K (.ref f)=true)(hb:Binds X.K fd ps [.bool true])(he:starEach (e::es) X.env=(false,eval e X.env)::starEach es X.env)(ha:iw X (e::es) ts)
  (hl:ts.length+1=ps.length:=by rfl) (hdb:(x == ("__debug__":Str))=false:=by decide) (hpl:(backTo pos (starEach es X.env)).any (·.1)=false:=by rfl):aZ X (.Call (.Name x p) (e::es) [] pos) (kH sp ts):=
 ⟨aK (mP (dvs:=[.bl true]) F.ok hr hg hm hk hb (.cons rfl .nil) tN ha.ok hdb he hpl) fun σ H Q ⟨σ3,S,Q3,E3,rσ,rS,h,xo,k⟩=>bM rσ rS h xo fun ps' S' vs H' hl' q rv Bn g=>by
  refine⟨by rw[HC,rv.length,hl'];exact hl,ps'++[.bl true],S',Q3,E3,rv.append (.cons (.bl true) .nil),Bn,q,k.mono g⟩⟩
end
section
variable {X:Cx} {a b:Expr} {ta tb:aQ}
def qy(ta tb:aQ):aQ:=fun σ S Q E=>ta σ S (fun v S1=>tb σ S1 (fun w S2=>match v,w with
 | .ref a,.ref b=>(match S2 a,S2 b with|some (.lst xs),some (.lst ys)=>xs.length=ys.length/\1<=xs.length/\Q (.tup (bc xs ys)) S2|_,_=>False)
 |_,_=>False) E) E
theorem m_{K:Vo}{H:Hp}:∀{vs:List V} {ps:List PV},vs.length=ps.length->(∀(j:Nat) v p,vs[j]?=some v->ps[j]?=some p->Rep K H v p)->Reps K H vs ps
 |[],[],_,_=>.nil
 |[],_::_,h,_=>by cases h
 |_::_,[],h,_=>by cases h
 |v::vs,p::ps,h,f=>.cons (f 0 v p rfl rfl) (m_ (by simpa using h) fun j v' p' h1 h2=>f (j+1) v' p' (by simpa using h1) (by simpa using h2))
def vv{p1 p2 q1 q2:Pos}(hs:starEach [a,b] X.env=[(false,eval a X.env),(false,eval b X.env)])(EY:starEach [b] X.env=[(false,eval b X.env)])(hc:X.calm=true)(Eb:Gl X "tuple")(hm1:X.mg "tuple" = none)(Dy:Gl X "zip")(hm2:X.mg "zip" = none)(ha:iw X [a,b] [ta,tb]) :
  aZ X (.Call (.Name "tuple" p1) [.Call (.Name "zip" p2) [a,b] [] q2] [] q1) (qy ta tb):=
 ⟨aK (sL hc ha.ok Eb hm1 Dy hm2 hs EY) fun σ H Q ⟨σ3,S,Q3,E3,rσ,rS,h,xo,k⟩=>⟨σ3,S,_,E3,rσ,rS,h,xo,fun v S1 v' H1 h1 rv zT g1=>⟨σ3,S1,_,E3,rσ.mono g1,zT,h1,xo.mono g1,fun w S2 w' H2 h2 rw' Bb g2=>by
  split at h2
  ·cases rv
   cases rw'
   split at h2
   ·rename_i ea eb
    obtain⟨vs,hv,rs⟩:=Bb _ _ ea
    obtain⟨us,hu,rt⟩:=Bb _ _ eb
    have l1:=rs.length
    have l2:=rt.length
    refine⟨_,_,vs,us,rfl,hv,hu,by omega,by omega,fun r H' hh ⟨ps,hr,hpl,hp⟩=>k _ S2 _ H' h2.2.2 (.tup hr (m_ ?_ fun j v p hv' hp'=>?_)) (Bb.grow hh) ((g1.trans g2).trans (.same hh))⟩
    ·rw[HD];unfold bc;rw[HD,List.length_zip];omega
    ·unfold bc at hp'
     rw[HR]at hp' hv'
     cases hz:(_:List (PV×PV))[j]? with
     |none=>rw[hz]at hp';cases hp'
     |some z=>
      rw[hz]at hp'
      cases hp'
      obtain⟨e1,e2⟩:=Kl.mp hz
      obtain⟨x,hx,rx⟩:=rs.get e1
      obtain⟨y,hy,ry⟩:=rt.get e2
      cases hq:ps[j]? with
      |none=>rw[hq]at hv';cases hv'
      |some q=>
       rw[hq]at hv'
       cases hv'
       exact .tup (SqT.of (hp j q x y hq hx hy)) (.cons (rx.mono (.same hh)) (.cons (ry.mono (.same hh)) .nil))
   ·exact h2.elim
  ·exact h2.elim⟩⟩⟩
end
end L3
namespace L2
open PySem PySem.Spec PyProof.Rows
noncomputable def gg(its:Vw)(z:Str)(u:Tok)(i:Nat)(_:Option Fin×Unit):Sem (ForInStep (Option Fin×Unit)):=
 match its[i]? with
 |some y=>do
  let __do_lift <-eqBool y (Value.str z u)
  if __do_lift=true then do
   let __do_lift <-retInt (i:Int)
   pure (ForInStep.done (some __do_lift,()))
  else pure (ForInStep.yield (none,()))
 |_=>pure (ForInStep.yield (none,()))
theorem ls{prog:Program}{w:World}{A:Around}{E:Vq}{z:Str}{u:Tok}{its:Vw}{k:Nat}{Q:Option Fin×Unit->Shared->Prop}(hk:∃t,its[k]?=some (.str z t)) :
  ∀(m i:Nat) (s:Shared),i+m=its.size->i<=k->(∀j v,i<=j->j < k->its[j]?=some v->∃a t,v = .str a t/\a≠z)->(∀tk,Q (some (.done (.ret (.int k tk))),()) { s with toks:=s.toks+1 })->
  wpAny (model prog w) A (forIn (List.range' i m 1) ((none,()):Option Fin×Unit) (gg its z u)) Q E s
 |0,i,s,hm,hi,h,q=>by
  obtain⟨t,hk⟩:=hk
  have:=(Kc.mp hk).1
  omega
 |m+1,i,s,hm,hi,h,q=>by
  rw[List.range'_succ,Ku]
  have hlt:i < its.size:=by omega
  by_cases e:i=k
  ·subst e
   obtain⟨t,hk⟩:=hk
   refine HB ?_
   unfold gg
   rw[hk]
   refine HB (wpAny_eqBool_str ?_)
   rw[IB rfl,if_pos rfl]
   exact HB (HB (wpAny_mkInt (HJ (HJ (HJ (q _))))))
  ·have hv:=Ia hlt
   obtain⟨a,t,ea,ne⟩:=h i _ (HF _) (by omega) hv
   refine HB ?_
   have eb:gg its z u i (none,())=(do let __do_lift <-eqBool (Value.str a t) (Value.str z u);if __do_lift=true then do { let __do_lift <-retInt (i:Int);pure (ForInStep.done (some __do_lift,())) } else pure (ForInStep.yield (none,()))):=by
    unfold gg
    rw[hv,ea]
   rw[eb]
   refine HB (wpAny_eqBool_str ?_)
   rw[Ij ne,if_neg (by decide)]
   exact HJ (ls hk m (i+1) s (by omega) (by omega) (fun j v h1 h2=>h j v (by omega) h2) q)
def vx(l:Addr)(its:Vw)(n:Nat)(dd:Option Addr)(sl:Array (Option Value))(z:Str)(u:Tok)(k:Nat)(hk:∃t,its[k]?=some (.str z t))(h:∀j v,j < k->its[j]?=some v->∃a t,v = .str a t/\a≠z) :
  Meets (Builtin.«tuple.index» ⟨[.ref l,.str z u],[]⟩) (fun _ R s=>s.heap.get? l=some { cls:=.type "tuple",dict:=dd,data:=.seq its n,slots:=sl }/\∀tk,R (.ok (.ret (.int k tk))) { s with toks:=s.toks+1 }):=
 .of_wp fun prog w A R s hh=>by
  obtain⟨hp,g,d,tk,os⟩:=s;obtain⟨hl,q⟩:=hh
  wp_walk using Kv hl
  show wpAny _ _ (forIn (⟨0,min its.size its.size,1,Nat.one_pos⟩:Std.Legacy.Range) ((none,()):Option Fin×Unit) (gg its z u)) _ _ _
  rw[Std.Legacy.Range.forIn_eq_forIn_range']
  have e:Std.Legacy.Range.size ⟨0,min its.size its.size,1,Nat.one_pos⟩=its.size:=by unfold Std.Legacy.Range.size;simp
  rw[e]
  exact ls hk its.size 0 _ (by omega) (Il _) (fun j v _ hj hv=>h j v hj hv) fun tk'=>HJ ⟨_,rfl,q tk'⟩
section
variable {X:Cx}
noncomputable def sN(K:Vo):V->List V->Hp->VK->Prop:=fun x vs H Q=>∃(l:Addr) (zs:Vs) (z:Str) (k:Nat),x = .ref l/\vs=[.str z]/\SqT K H l (zs.map V.str)/\zs[k]?=some z/\(∀j:Nat,j < k->zs[j]?≠some z)/\Q (.int k) H
def oy:uL X "tuple.index" (sN X.K):=by
 intro pins s σ H x vs v us Q I rx rv h
 obtain⟨l,zs,z,k,rfl,rfl,hT,hk,hf,q⟩:=h
 cases rx
 obtain⟨w,rfl,u,rfl⟩:=fU rv
 obtain⟨its,r1,p1,_⟩:=I.tuple hT
 obtain⟨⟨cls,dd,data,sl⟩,ho,hc,n,hd⟩:=id p1
 simp only at hc hd
 subst hc hd
 refine J8 PySem.F.slot_tuple_index ⟨_,ho,rfl⟩ PySem.F.entry_tuple_index (PySem.F.args_tuple_index_2 _ _) (vx l its.toArray n dd sl z u k ?_ ?_) ⟨ho,fun tk=>⟨.int k,H,I.tok _,⟨_,rfl⟩,q⟩⟩
 ·obtain⟨v,hv,t,rfl⟩:=r1.get (i:=k) (x:=.str z) (by rw[HR,hk];rfl)
  exact⟨t,by simpa using hv⟩
 ·intro j v hj hv
  have hjl:j < its.length:=by simpa using(Kc.mp hv).1
  have hl:=r1.length
  rw[HD]at hl
  obtain⟨v',hv',t,rfl⟩:=r1.get (i:=j) (x:=.str (zs[j]'(by omega))) (by rw[HR,Ib (by omega)];rfl)
  have e:v = .str (zs[j]'(by omega)) t:=by
   have h1:its[j]?=some v:=by simpa using hv
   rw[hv']at h1;cases h1;rfl
  exact⟨_,t,e,fun h=>hf j hj (by rw[Ib (by omega),h])⟩
def sO{pins:Va}{σ:St}{H:Hp}{s:Shared}{a:Addr}{xs:List V}(I:Inv X pins σ H s)(h:SqT X.K H a xs):s.TypeIs (.ref a) "tuple"/\∀b,Value.ref a = .ref b->∃ob,s.heap.get? b=some ob/\ob.dict=none:=by
 rcases h with h|⟨o,its,n,hk,hc,hd,_⟩
 ·obtain⟨z,its,r,o,e,hd,hc,_⟩:=h.ok I.hok
  exact⟨⟨o,e,hc⟩,fun b q=>by cases q;exact⟨o,e,hd⟩⟩
 ·exact⟨⟨o,I.C9 a o hk,hc⟩,fun b q=>by cases q;exact⟨o,I.C9 _ o hk,hd⟩⟩
variable {o e:Expr} {es:List Expr} {to:TE} {t:TA} {name:Str} {apos cpos:Pos} {id:String} {r:V->List V->Hp->VK->Prop}
def yQ(K:Vo)(r:V->List V->Hp->VK->Prop)(to:TE)(t:TA):TE:=fun σ H Q=>to σ H fun x H1=>(∃a xs,x = .ref a/\SqT K H1 a xs)/\t σ H1 fun xs H2=>r x xs H2 Q
def vy(pa:PlainAttrs "tuple")(slot:Slot "tuple" name id)(hty:typeOf (.builtin id)=pure (.type "method_descriptor"))(hm:uL X id r)(ho:PE X o to)(ha:PA X (e::es) t)
  (hbase:attributeBase o name X.env (eval o X.env)=eval o X.env:=by rfl)
  (hfew:((backTo cpos (starEach (e::es) X.env)).all (fun x=>!x.1)&&(backToKw cpos (keywordEach [] X.env)).all (fun x=>x.1.isSome)
   && decide ((e::es).length+([]:List Keyword).length+(if ([]:List Keyword).isEmpty then 0 else 1) < 30))=true:=by rfl)
  (hline:(apos.endLine == cpos.line)=true:=by rfl) (hs:starEach (e::es) X.env=(false,eval e X.env)::starEach es X.env:=by rfl) (hplain:(backTo cpos (starEach es X.env)).any (·.1)=false:=by rfl) :
  PE X (.Call (.Attribute o name apos) (e::es) [] cpos) (yQ X.K r to t):=by
 intro pins s σ H Q I h
 refine wpAny_Call_method_late hbase hfew hline rfl (zP (ho pins s σ H _ I h) fun v s1 ⟨x,H1,I1,r1,⟨a,xs,ex,hT⟩,q1⟩=>?_)
 subst ex
 have r1':=r1
 cases r1
 obtain⟨h1,h2⟩:=sO I1 hT
 refine⟨"tuple",id,pa,slot,hty,h1,h2,?_⟩
 have hA:=ha cpos pins s1 σ H1 _ I1 q1
 rw[hs]at hA ⊢
 refine JA (by show(false || (backTo cpos (starEach es X.env)).any (·.1))=false;rw[hplain]<;>rfl) (J7 ?_)
 exact zP hA fun us s2 ⟨vs,H2,I2,r2,q2⟩=>hm pins s2 σ H2 _ vs _ us Q I2 r1' r2 q2
end
end L2
namespace L3
open PySem L2
section
variable {X:Cx}
noncomputable def fG:List PV->Option (List Str)
 |[]=>some []
 | .str z::r=>(fG r).map (z::·)
 |_::_=>none
theorem i8:∀zs:List Str,fG (zs.map PV.str)=some zs
 |[]=>rfl
 |z::r=>by show(fG (r.map PV.str)).map (z::·)=_;rw[i8 r];rfl
theorem j1:∀{ps:List PV} {zs:Vs},fG ps=some zs->ps=zs.map PV.str
 |[],zs,h=>by cases h;rfl
 | .str z::r,zs,h=>by
  unfold fG at h
  cases e:fG r with
  |none=>rw[e]at h;cases h
  |some ws=>rw[e]at h;cases h;rw[j1 e];rfl
def iH:lN:=fun x ps S Q=>match x,ps with
 | .tup xs,[.str z]=>(match fG xs with|some zs=>∃k:Nat,zs[k]?=some z/\(∀j:Nat,j < k->zs[j]?≠some z)/\Q (.int k) S|none=>False)
 |_,_=>False
theorem j2{K:Vo}{H:Hp}:∀{vs:List V} {zs:Vs},Reps K H vs (zs.map PV.str)->vs=zs.map V.str
 |[],[],_=>rfl
 |v::vs,z::zs,.cons a r=>by cases a;rw[j2 r];rfl
def qz:oj X "tuple.index" iH:=⟨fun pins s σ H x xs v us Q I rx rs ⟨px,ps,S,Q3,r1,rp,rS,q,k⟩=>by
 unfold iH at q
 split at q
 ·split at q
  ·rename_i e
   obtain⟨j,hk,hf,q⟩:=q
   cases r1 with
   |tup hq rs'=>
    rw[j1 e]at rs'
    have ev:=j2 rs'
    subst ev
    cases rp with
    |cons b rr=>
     cases rr;cases b
     exact oy pins s σ H _ _ v us Q I rx rs ⟨_,_,_,j,rfl,rfl,hq,hk,hf,k _ S _ H q (.int _) rS .refl⟩
  ·exact q.elim
 ·exact q.elim⟩
variable {o e:Expr} {es:List Expr} {to:aQ} {ts:List aQ} {name:Str} {apos cpos:Pos} {id:String}
def vz(r:lN)(to:aQ)(ts:List aQ):aQ:=fun σ S Q E=>to σ S (fun x S1=>match x with | .tup _=>ao ts σ S1 (fun ps S2=>r x ps S2 Q) E|_=>False) E
def xk{r:lN}(pa:PlainAttrs "tuple")(slot:Slot "tuple" name id)(hty:typeOf (.builtin id)=pure (.type "method_descriptor"))(hm:oj X id r)(hs:starEach (e::es) X.env=(false,eval e X.env)::starEach es X.env)(ho:aZ X o to)(ha:iw X (e::es) ts)
  (hbase:attributeBase o name X.env (eval o X.env)=eval o X.env:=by rfl)
  (hfew:((backTo cpos (starEach (e::es) X.env)).all (fun x=>!x.1)&&(backToKw cpos (keywordEach [] X.env)).all (fun x=>x.1.isSome)
   && decide ((e::es).length+([]:List Keyword).length+(if ([]:List Keyword).isEmpty then 0 else 1) < 30))=true:=by rfl)
  (hline:(apos.endLine == cpos.line)=true:=by rfl) (hplain:(backTo cpos (starEach es X.env)).any (·.1)=false:=by rfl):aZ X (.Call (.Attribute o name apos) (e::es) [] cpos) (vz r to ts):=
 ⟨aK (vy pa slot hty hm.ok ho.ok ha.ok hbase hfew hline hs hplain) fun σ H Q ⟨σ3,S,Q3,E3,rσ,rS,h,xo,k⟩=>⟨σ3,S,_,E3,rσ,rS,h,xo,fun x S1 v H1 h1 rx zT g1=>by
  split at h1
  ·have Hb:=rx
   cases rx with
   |tup hq rs=>exact⟨⟨_,_,rfl,hq⟩,bM (rσ.mono g1) zT h1 (xo.mono g1) fun ps S2 vs H2 hl q rv Bb g2=>⟨_,ps,S2,Q3,Hb.mono g2,rv,Bb,q,k.mono (g1.trans g2)⟩⟩
  ·exact h1.elim⟩⟩
end
section
variable {X:Cx} {a b:Expr} {ta tb:aQ} {p pos:Pos}
def ng(ta tb:aQ):qp:=fun σ S R E=>ta σ S (fun v S1=>tb σ S1 (fun w S2=>match v,w with
 | .tup xs,.tup ys=>R ⟨bc xs ys,fun _=>True⟩ S2
 | .ref a,.ref b=>(match S2 a,S2 b with|some (.lst xs),some (.lst ys)=>R ⟨bc xs ys,fun S'=>S' a=some (.lst xs)/\S' b=some (.lst ys)⟩ S2|_,_=>False)
 | .ref a,.tup ys=>(match S2 a with|some (.lst xs)=>R ⟨bc xs ys,fun S'=>S' a=some (.lst xs)⟩ S2|_=>False)
 | .tup xs,.ref b=>(match S2 b with|some (.lst ys)=>R ⟨bc xs ys,fun S'=>S' b=some (.lst ys)⟩ S2|_=>False)
 |_,_=>False) E) E
def vA{elts:List Expr}{k0:Nat}{BD:Pos}(hs:starEach [a,b] X.env=[(false,eval a X.env),(false,eval b X.env)])(hs2:starEach [b] X.env=[(false,eval b X.env)])(hg:Gl X "zip")(hm:X.mg "zip" = none)(hv:bootBuiltins "zip" = some (.type "zip"))(ha:iw X [a,b] [ta,tb]) :
  sF X (.Tuple elts k0 BD) (.Call (.Name "zip" p) [a,b] [] pos) (ng ta tb):=
 ⟨kC (u7 hg hm hv ha.ok hs hs2) fun σ H R ⟨σ3,S,R3,E3,rσ,rS,h,xo,k⟩=>⟨σ3,S,_,E3,rσ,rS,h,xo,fun v S1 v' H1 h1 rv zT g1=>⟨σ3,S1,_,E3,rσ.mono g1,zT,h1,xo.mono g1,fun w S2 w' H2 h2 rw' Bb g2=>by
  have L:∀{a:Addr} {xs:List PV},S2 a=some (.lst xs)->∃vs,nZ true X.K H2 a vs:=fun e=>let ⟨_,h,_⟩:=Bb _ _ e;⟨_,SqL.of h⟩
  split at h2
  ·cases rv with
   |tup hq rs=>
    cases rw' with
    |tup hq2 FJ=>exact⟨false,false,_,_,rfl,⟨_,g2.t _ _ hq⟩,⟨_,hq2⟩,k _ S2 _ H2 h2 (iE (.tup (g2.t _ _ hq) (rs.mono g2)) (.tup hq2 FJ)) Bb (g1.trans g2)⟩
  ·cases rv
   cases rw'
   split at h2
   ·rename_i ea eb
    exact⟨true,true,_,_,rfl,L ea,L eb,k _ S2 _ H2 h2 (iE (.lst fun _ q=>q.1) (.lst fun _ q=>q.2)) Bb (g1.trans g2)⟩
   ·exact h2.elim
  ·cases rv
   cases rw' with
   |tup hq2 FJ=>
    split at h2
    ·rename_i ea
     exact⟨true,false,_,_,rfl,L ea,⟨_,hq2⟩,k _ S2 _ H2 h2 (iE (.lst fun _ q=>q) (.tup hq2 FJ)) Bb (g1.trans g2)⟩
    ·exact h2.elim
  ·cases rv with
   |tup hq rs=>
    cases rw'
    split at h2
    ·rename_i eb
     exact⟨false,true,_,_,rfl,⟨_,g2.t _ _ hq⟩,L eb,k _ S2 _ H2 h2 (iE (.tup (g2.t _ _ hq) (rs.mono g2)) (.lst fun _ q=>q)) Bb (g1.trans g2)⟩
    ·exact h2.elim
  ·exact h2.elim⟩⟩⟩
end
end L3
namespace C
open PySem L2 L3
def cu(Bs s0:aC):bH:=(af (au 3 (bu [(ay [(v3 0),(v3 2)])]))
  (af (cm (cL (ac Bs [(v3 0)])) (.tp (.cons (.n 4) (.cons (.n 5) .nil))) (af (au 6 (cK (ah (bg false) (ah ag (v3 0) (c3 (.int 0))) (c3 (.str "take"))) (cK (ah (bg false) (v3 4) (c3 (.int 0))) (ah (jv true) (ah ag (v3 0) (c3 (.int 1))) (v3 1)))))
  (aU (d_ "list" bf (v3 3) [(ac s0 [(v3 5),(v3 1),(cK (v3 2) (jT (v3 6)))])]))))
  (az (v3 3))))
def eJ(BN B6:aC):bH:=(af (cm (cL (ah ag (v3 0) (c3 (.int 1)))) (.tp (.cons (.n 2) (.cons (.n 3) .nil))) (cm (cL (kH BN [(ah ag (v3 3) (c3 (.int 1))),(v3 1)])) (.tp (.cons (.n 4) (.cons (.n 5) .nil))) (af (au 6 (ah ag (v3 5) (c3 (.int 0))))
  (bh (jB (aS (ah ag (v3 5) (c3 (.int 1)))) (jB (aS (ah (bg false) (ah ag (v3 6) (c3 (.int 0))) (c3 (.str "put")))) (aS (ah (jv true) (ah ag (v3 6) (c3 (.int 1))) (v3 1))))) (az (ay [(vz iH (ah ag (v3 0) (c3 (.int 0))) [(ah ag (v3 6) (c3 (.int 1)))]),(v3 2),(ac B6 [(ah ag (v3 3) (c3 (.int 1))),(v3 4),(ay [])])])) aM))))
  (az (c3 .non)))
def gS(BK:aC):bH:=(af (au 1 (bu []))
  (af (au 2 (bu []))
  (af (au 3 (ac BK [(v3 0),(v3 2)]))
  (af (gR (aS (ah (tS true) (v3 3) (c3 .non))) (af (aU (d_ "list" bm (v3 1) [(v3 3)]))
  (af (aU (d_ "list" bm (v3 2) [(ah ag (ah ag (v3 0) (c3 (.int 0))) (ah ag (v3 3) (c3 (.int 0))))]))
  (au 3 (ac BK [(v3 0),(v3 2)])))))
  (az (v3 1))))))
def fH(CZ:aC):bH:=(az (aH (aG (ac CZ [(v3 0)])) (.n 0) bp (ah ag (ah ag (v3 1) (c3 (.int 0))) (ah ag (v3 0) (c3 (.int 0)))) 1 [0]))
def bC(s0 s1:aC):bH:=(af (au 2 (bu []))
  (af (au 3 (ac s1 [(ah ag (v3 0) (c3 (.int 2))),(v3 1)]))
  (af (cm (aG (ac s1 [(ah ag (v3 0) (c3 (.int 1))),(v3 1)])) (.n 4) (aU (d_ "list" bf (v3 2) [(aH (aG (v3 3)) (.n 0) bp (ay [(v3 1),(v3 0)]) 1 [4])])))
  (az (v3 2)))))
def cW(s0 s1:aC):bH:=(af (bh (aS (ah (bg false) (ah ag (v3 0) (c3 (.int 0))) (c3 (.str "then")))) (az (ac s0 [(v3 0),(v3 1)])) aM)
  (af (bh (aS (ah (jv true) (ah ag (v3 0) (c3 (.int 0))) (ay [(c3 (.str "either")),(c3 (.str "take"))]))) (az (bu [(ay [])])) aM)
  (af (au 2 (aH (aG (ac s1 [(ah ag (v3 0) (d9 bq (c3 (.int 1)))),(v3 1)])) (.n 0) bp (ay [(c3 (.int 1)),(v3 0)]) 1 []))
  (af (bh (jB (aS (ah (bg false) (ah ag (v3 0) (c3 (.int 0))) (c3 (.str "take")))) (aS (ah (jv true) (ah ag (v3 0) (c3 (.int 1))) (v3 1)))) (az (v3 2)) aM)
  (az (ah aP (aH (aG (ac s1 [(ah ag (v3 0) (d9 bq (c3 (.int 2)))),(v3 1)])) (.n 0) bp (ay [(c3 (.int 0)),(v3 0)]) 1 []) (v3 2)))))))
def i9(Cu CC:aC):bH:=(az (ac Cu [(ah ag (ah ag (ah ag (v3 0) (c3 (.int 1))) (v3 1)) (c3 (.int 1))),(ac CC [(v3 0)])]))
def bD(s0:aC):bH:=(af (bh (aS (ap i0 [(v3 1),(ay [(c3 (.ty "list")),(c3 (.ty "tuple"))])])) (af (bh (iT (aS (ah (bg true) (ap i0 [(v3 0),(c3 (.ty "list"))]) (ap i0 [(v3 1),(c3 (.ty "list"))]))) (aS (ah (bg true) (ap i0 [(v3 0),(c3 (.ty "tuple"))]) (ap i0 [(v3 1),(c3 (.ty "tuple"))])))) (az (c3 (.bl false))) aM)
  (az (cK (ah (bg false) (ap bZ [(v3 0)]) (ap bZ [(v3 1)])) (ap mj [(aH (ng (v3 0) (v3 1)) (.tp (.cons (.n 0) (.cons (.n 1) .nil))) bp (ac s0 [(v3 0),(v3 1)]) 2 [])])))) aM)
  (az (cK (ah (bg false) (ap i0 [(v3 0),(c3 (.ty "bool"))]) (ap i0 [(v3 1),(c3 (.ty "bool"))])) (ah (bg false) (v3 0) (v3 1)))))
def dm(s0:aC):bH:=(af (au 2 (bu []))
  (af (bh (aS (ah (bg false) (ah ag (v3 0) (c3 (.int 0))) (c3 (.str "then")))) (af (au 3 (ac s0 [(ah ag (v3 0) (c3 (.int 2))),(v3 1)]))
  (af (cm (aG (ac s0 [(ah ag (v3 0) (c3 (.int 1))),(v3 1)])) (.n 4) (aU (d_ "list" bf (v3 2) [(aH (aG (v3 3)) (.n 0) bp (ay [(v3 1),(v3 0)]) 1 [4])])))
  (az (v3 2)))) aM)
  (af (bh (iT (aS (ah (bg false) (ah ag (v3 0) (c3 (.int 0))) (c3 (.str "either")))) (aS (ah (bg false) (ah ag (v3 0) (c3 (.int 0))) (c3 (.str "take"))))) (af (bh (iT (aS (ah (bg false) (ah ag (v3 0) (c3 (.int 0))) (c3 (.str "either")))) (aS (ah (jv false) (ah ag (v3 0) (c3 (.int 1))) (v3 1)))) (au 2 (aH (aG (ac s0 [(ah ag (v3 0) (d9 bq (c3 (.int 2)))),(v3 1)])) (.n 0) bp (ay [(c3 (.int 0)),(v3 0)]) 1 [])) aM)
  (az (ah aP (v3 2) (aH (aG (ac s0 [(ah ag (v3 0) (d9 bq (c3 (.int 1)))),(v3 1)])) (.n 0) bp (ay [(c3 (.int 1)),(v3 0)]) 1 [])))) aM)
  (az (bu [(ay [])])))))
def dN(A5 zJ zU:aC):bH:=(af (au 1 (ac A5 [(v3 0),(c3 (.int 8))]))
  (af (au 2 (bj (v3 1) kU (jU (ah aP (c3 (.int 1)) (ac zJ [(v3 0),(c3 (.int 4))])))))
  (af (au 3 (ap bJ [(v3 2)]))
  (af (au 5 (aH (aG (v3 3)) (.n 0) bp (d_ "list" li (v3 2) [(ac zJ [(v3 1),(ap bZ [(v3 2)])])]) 1 [0,2]))
  (af (au 6 (bu []))
  (af (cm (cL (v3 5)) (.tp (.cons (.n 7) (.cons (.n 4) .nil))) (af (au 8 (ay [(c3 (.str "put")),(v3 4),(ah aP (c3 (.int 1)) (ac zJ [(v3 0),(c3 (.int 9))]))]))
  (af (bh (iT (aS (ah mr (v3 7) (c3 (.int 0)))) (aS (ah (bg false) (ac zJ [(v3 0),(c3 (.int 4))]) (c3 (.int 0))))) (au 8 (ay [(c3 (.str "take")),(ah ag (v3 5) (ah b4 (v3 7) (c3 (.int 1)))),(ah aP (c3 (.int 1)) (ac zJ [(v3 0),(c3 (.int 9))])),(v3 8),(ac zU [(v3 0),(bu [])])])) aM)
  (af (au 9 (bu [(ay [(c3 (.str "then")),(ac zU [(v3 0),(bu [])]),(v3 8)]),(ay [(c3 (.str "often")),(v3 8)]),(ay [(c3 (.str "either")),(ac zU [(v3 0),(bu [])]),(v3 8)])]))
  (aU (d_ "list" iG (v3 6) [(ac zJ [(v3 0),(ah aP (ap bZ [(v3 6)]) (c3 (.int 1)))]),(ah ag (bu [(v3 8),(ah ag (v3 9) (c3 (.int 0))),(ah ag (v3 9) (c3 (.int 1))),(ah ag (v3 9) (c3 (.int 2)))]) (ac zJ [(v3 0),(c3 (.int 4))]))]))))))
  (az (ay [(v3 3),(ap bJ [(aH (cL (v3 6)) (.tp (.cons (.n 0) (.cons (.n 1) .nil))) bp (ay [(ah ag (v3 2) (ah aP (c3 (.int 4)) (v3 0))),(v3 1)]) 2 [1])])]))))))))
def fI(BW:aC):bH:=(af (qm (v3 0) (.tp (.cons (.n 1) (.cons (.n 2) .nil))))
  (af (au 3 (bu [(v3 0)]))
  (af (bh (aS (ah mr (ap bZ [(v3 2)]) (c3 (.int 1)))) (af (au 4 (aH (aG (v3 2)) (.tp (.cons (.n 0) (.cons (.n 1) .nil))) bp (v3 0) 2 []))
  (af (au 5 (aH (aG (v3 2)) (.tp (.cons (.n 0) (.cons (.n 1) .nil))) bp (v3 1) 2 []))
  (aU (d_ "list" bf (v3 3) [(bu [(ay [(v3 1),(bj (v3 2) kU (jU (d9 bq (c3 (.int 1)))))]),(ay [(v3 1),(qy (v3 4) (ah aP (bj (v3 5) (jU (c3 (.int 1))) kU) (bj (v3 5) kU (jU (c3 (.int 1))))))])])])))) aM)
  (af (bh (aS (ah mr (ap bZ [(v3 1)]) (c3 (.int 1)))) (af (au 4 (i7 [((ah ag (v3 1) (c3 (.int 0))),(ah ag (v3 1) (d9 bq (c3 (.int 1))))),((ah ag (v3 1) (d9 bq (c3 (.int 1)))),(ah ag (v3 1) (c3 (.int 0))))]))
  (aU (d_ "list" bm (v3 3) [(ay [(v3 1),(ap bJ [(aH (aG (v3 2)) (.tp (.cons (.n 0) (.cons (.n 1) .nil))) bp (ay [(v3 0),(ac BW [(v3 1),(v3 2)])]) 2 [4])])])]))) aM)
  (az (v3 3))))))
end C
namespace L3
open PySem L2 Xc
end L3
namespace L3
open PySem L2
end L3
namespace L2
open PySem PySem.Spec PyProof.Rows Xc
end L2
namespace L3
open PySem L2 Xc
section
variable {P:Program} {w:World} {K:Vo} {mg:Vr} {base:Heap}
structure bz (K:Vo) (mg:Vr) (x:Str) (st:Stmt) (ps:Vs):Prop where
 ex:∃f fd,xV K mg x st ps f fd
structure AM (P:Program) (w:World) (K:Vo) (mg:Vr) (base:Heap) (k:Nat) (x:Str) (n:Nat) (sp:aC):Prop where
 ex:∃f fd ps,ps.length=n/\Ds P w K mg base k f fd ps sp/\mg x=some (.ref f)/\PySem.W.keepIn K (.ref f)=true/\Binds K fd ps []
def fJ{x:Str}{st:Stmt}{ps:Vs}{k n:Nat}{t:bH}{sp:aC}(N:Vs)(O:bz K mg x st ps)
  (hbody:∀(f:Addr) (cdv:Value) (A:Around) (outer:List Env) (s:Shared) (H:Hp) (E:XK),Room k (A.deeper (PyProof.Rows.envOfC x (ax st) s.heap.objs.size f cdv))->N.Nodup->gJ (xc P w K mg base N x st f cdv A outer s H E) (aW st) t) (e:sp=zS N.length t)
  (hn:ps.length=n:=by rfl) (S:cy N ps (ax st):=by exact⟨rfl,rfl,rfl,by decide +kernel,rfl,by decide +kernel,by decide +kernel⟩):AM P w K mg base (k+1) x n sp:=by
 subst e
 obtain⟨f,fd,o⟩:=O.ex
 exact⟨f,fd,ps,hn,zh o.F S fun cdv A outer s H E hr=>hbody f cdv A outer s H E hr S.nd,o.m,o.k,o.b⟩
def zA{x:Str}{st:Stmt}{ps:Vs}{k:Nat}{t:bH}{sp:aC}{f:Addr}{fd:FuncData}(N:Vs)(o:xV K mg x st ps f fd)
  (hbody:∀(f:Addr) (cdv:Value) (A:Around) (outer:List Env) (s:Shared) (H:Hp) (E:XK),Room k (A.deeper (PyProof.Rows.envOfC x (ax st) s.heap.objs.size f cdv))->N.Nodup->gJ (xc P w K mg base N x st f cdv A outer s H E) (aW st) t) (e:sp=zS N.length t)
  (S:cy N ps (ax st):=by exact⟨rfl,rfl,rfl,by decide +kernel,rfl,by decide +kernel,by decide +kernel⟩):Ds P w K mg base (k+1) f fd ps sp:=by
 subst e
 exact zh o.F S fun cdv A outer s H E hr=>hbody f cdv A outer s H E hr S.nd
def lu:aC:=fun _ _ _ _=>False
theorem AM.zero{x:Str}{st:Stmt}{ps:Vs}{k n:Nat}(O:bz K mg x st ps)(hn:ps.length=n:=by rfl):AM P w K mg base k x n lu:=by
 obtain⟨f,fd,o⟩:=O.ex
 exact⟨f,fd,ps,hn,.zero rfl,o.m,o.k,o.b⟩
theorem i_{b n:Nat}{x:Str}{st:Stmt}{ps:Vs}{r:Nat->aC}(O:bz K mg x st ps)(h:∀j,AM P w K mg base (b+j) x n (r j)->AM P w K mg base (b+j+1) x n (r (j+1)))(h0:r 0=lu)(hn:ps.length=n:=by rfl):∀j,AM P w K mg base (b+j) x n (r j)
 |0=>by rw[h0];exact .zero O hn
 |j+1=>h j (i_ O h h0 hn j)
end
section
variable {X:Cx} {a b e o:Expr} {es:List Expr} {ta tb te to:aQ} {ts:List aQ} {x c m f:Str} {p pos apos cpos:Pos} {j k n:Nat} {sp:aC}
def c4(O:AM X.prog X.w X.K X.mg X.base k x n sp)(hr:Room j X.A)(ha:iw X (e::es) ts)(hj:k<=j:=by omega)(hl:ts.length=n:=by rfl)(hg:Gl X x:=by rfl)(he:starEach (e::es) X.env=(false,eval e X.env)::starEach es X.env:=by rfl)(hdb:(x == ("__debug__":Str))=false:=by decide)(hpl:(backTo pos (starEach es X.env)).any (·.1)=false:=by rfl) :
  aZ X (.Call (.Name x p) (e::es) [] pos) (ac sp ts):=by
 obtain⟨f,fd,ps,hn,F,h1,h2,h3⟩:=O.ex
 exact qr F (hr.mono hj) hg h1 h2 h3 he ha (hl.trans hn.symm) hdb hpl
def cB{id:String}{r:oi}(hc:fZ X (.builtin id) r)(hm:X.mg x=none)(ha:iw X (e::es) ts)(hg:Gl X x:=by rfl)(hv:bootBuiltins x=some (.builtin id):=by decide +kernel)(he:starEach (e::es) X.env=(false,eval e X.env)::starEach es X.env:=by rfl)
  (hnn:x ≠ "__name__":=by decide) (hdb:(x == ("__debug__":Str))=false:=by decide) (hpl:(backTo pos (starEach es X.env)).any (·.1)=false:=by rfl):aZ X (.Call (.Name x p) (e::es) [] pos) (ap r ts):=sy hc hg hm hv he ha hnn hdb hpl
def cT{id:String}{r:oi}(hc:fZ X (.type id) r)(hm:X.mg x=none)(ha:iw X (e::es) ts)(hg:Gl X x:=by rfl)(hv:bootBuiltins x=some (.type id):=by decide +kernel)(he:starEach (e::es) X.env=(false,eval e X.env)::starEach es X.env:=by rfl)
  (hnn:x ≠ "__name__":=by decide) (hdb:(x == ("__debug__":Str))=false:=by decide) (hpl:(backTo pos (starEach es X.env)).any (·.1)=false:=by rfl):aZ X (.Call (.Name x p) (e::es) [] pos) (ap r ts):=sA hc hg hm hv he ha hnn hdb hpl
def lc{r:List Expr}(ha:aZ X a ta)(hr:iw X r ts)(hs:starEach (a::r) X.env=(false,eval a X.env)::starEach r X.env:=by rfl):iw X (a::r) (ta::ts):=p8 hs ha hr
def l1(ha:aZ X a ta)(hs:starEach [a] X.env=(false,eval a X.env)::starEach [] X.env:=by rfl):iw X [a] [ta]:=p8 hs ha cw
def bi{i:Int}{q:Nat}{p2:Pos}(hr:Room j X.A)(ha:aZ X a ta)(hs:iB (.Constant (.int i) q p2):=by exact fun _ _=>rfl):aZ X (.Subscript a (.Constant (.int i) q p2) pos) (ah ag ta (c3 (.int i))):=wZ (zg (rf hr)) ha ad hs
def dO(hr:Room j X.A)(ha:aZ X a ta)(hb:aZ X b tb)(hs:iB b:=by exact fun _ _=>rfl):aZ X (.Subscript a b pos) (ah ag ta tb):=wZ (zg (rf hr)) ha hb hs
def fq(hr:Room j X.A)(ha:aZ X a ta)(hb:aZ X b tb):l9 X (.Compare a [.Eq] [b] pos) (aS (ah (bg false) ta tb)):=bd (iV (ig hr)) ha hb (aY _)
def xX(hr:Room j X.A)(ha:aZ X a ta)(hb:aZ X b tb):l9 X (.Compare a [.NotEq] [b] pos) (aS (ah (bg true) ta tb)):=bd (wX (ig hr)) ha hb (aY _)
def s4(i:Nat){pos':Pos}(nd:X.N.Nodup)(he:aZ X e te)(hi:X.N[i]?=some x:=by rfl)(hx:tG X.env.scope x:=by first|exact Or.inl rfl|exact Or.inr rfl)(hs:swapsWith e (some (.Name x pos')) pos.line X.env=pure false:=by rfl)
  (hf:X.fn x=true\/X.env.scope.names.lookup x=some .local:=by first|exact .inl rfl|exact .inr rfl|assumption):l_ X (.Assign [.Name x pos'] e pos) (au i te):=w5 nd hi hx he hs hf
def gn(i:Nat)(nd:X.N.Nodup)(hi:X.N[i]?=some x:=by rfl)(hx:tG X.env.scope x:=by first|exact Or.inl rfl|exact Or.inr rfl)(hf:X.fn x=true\/X.env.scope.names.lookup x=some .local:=by first|exact .inl rfl|exact .inr rfl|assumption):re X (.Name x pos) (.n i):=zx i nd hi hx hf
def zB{px:Pos}{kvs:List (a_×Int)}{g:Expr}{tg:aQ}(hr:Room j X.A)(hD:∃a,X.mg x=some (.ref a)/\KD X.prog X.w X.K a (kvs.map fun kv=>(kv.1,V.int kv.2)))(he:aZ X e te)(hf:aZ X g tg)(hg:Gl X x:=by rfl)(m:M2 X (.Name x px) "get" apos e g cpos:=by exact⟨rfl,rfl,rfl,rfl⟩)
  (hd:(x == ("__debug__":Str))=false:=by decide):aZ X (.Call (.Attribute (.Name x px) "get" apos) [e,g] [] cpos) (m8 kvs te tg):=let ⟨_,h1,h2⟩:=hD;vq (rf hr) hg h1 h2 he hf m hd
end
structure sP (T:String) (name:Str) (id:String):Prop where
 pa:PlainAttrs T
 slot:Slot T name id
 ty:typeOf (.builtin id)=pure (.type "method_descriptor")
section
variable {X:Cx} {e o:Expr} {es:List Expr} {to:aQ} {ts:List aQ} {name:Str} {T id:String} {p pos apos cpos:Pos} {r:lN}
def cF:sP "list" "append" "list.append":=⟨Jw,PySem.F.slot_list_append,PySem.F.type_list_append⟩
def dD:sP "list" "extend" "list.extend":=⟨Jw,PySem.F.slot_list_extend,PySem.F.type_list_extend⟩
def oz:sP "list" "insert" "list.insert":=⟨Jw,PySem.F.slot_list_insert,PySem.F.type_list_insert⟩
def qA:sP "list" "pop" "list.pop":=⟨Jw,PySem.F.slot_list_pop,PySem.F.type_list_pop⟩
def my:sP "list" "reverse" "list.reverse":=⟨Jw,PySem.F.slot_list_reverse,PySem.F.type_list_reverse⟩
def nh:sP "str" "join" "str.join":=⟨PySem.F.plainAttrs_str,PySem.F.slot_str_join,PySem.F.type_str_join⟩
def qB:sP "str" "index" "str.index":=⟨PySem.F.plainAttrs_str,PySem.F.slot_str_index,PySem.F.type_str_index⟩
def lO(k:sP T name id)(hm:oj X id r)(ho:aZ X o to)(ha:iw X (e::es) ts)(hs:starEach (e::es) X.env=(false,eval e X.env)::starEach es X.env:=by rfl)
  (hbase:attributeBase o name X.env (eval o X.env)=eval o X.env:=by rfl)
  (hfew:((backTo cpos (starEach (e::es) X.env)).all (fun x=>!x.1)&&(backToKw cpos (keywordEach [] X.env)).all (fun x=>x.1.isSome)
   && decide ((e::es).length+([]:List Keyword).length+(if ([]:List Keyword).isEmpty then 0 else 1) < 30))=true:=by rfl)
  (hline:(apos.endLine == cpos.line)=true:=by rfl) (hplain:(backTo cpos (starEach es X.env)).any (·.1)=false:=by rfl):aZ X (.Call (.Attribute o name apos) (e::es) [] cpos) (d_ T r to ts):=yI k.pa k.slot k.ty hm hs ho ha hbase hfew hline hplain
def xm(k:sP T name id)(hm:oj X id r)(ho:aZ X o to)
  (hbase:attributeBase o name X.env (eval o X.env)=eval o X.env:=by rfl) (hline:(apos.endLine == cpos.line)=true:=by rfl):aZ X (.Call (.Attribute o name apos) [] [] cpos) (d_ T r to []):=w4 k.pa k.slot k.ty hm ho hbase hline
end
section
variable {X:Cx} {tg iter elt:Expr} {ifs:List Expr} {scope:Scope} {pos:Pos} {ti:qp} {g:Tg} {tc:iu} {te:aQ}
def oA(fs:Vs)(own:Nat)(fr:List Nat)(N:Vs)(hi:sF X tg iter ti)(hg:∀B,re (X.Bj N scope fs B) tg g)(hf:∀B,vX (X.Bj N scope fs B) ifs tc)(he:∀B,aZ (X.Bj N scope fs B) elt te)
  (Dr:g.under own=true:=by rfl) (hc:X.calm=true:=by rfl) (hclos:closureFor scope X.env=pure (b5 X.env fs):=by rfl) (hcell:∀y∈scope.names,y.2 ≠ .cell:=by decide +kernel) (hkind:scope.kind = .function:=by rfl)
  (hnames:∀x∈scope.names,x.2 = .local->scope.names.lookup x.1=some .local:=by decide +kernel) (hcl:bR X.env fs:=by repeat' first|exact trivial|exact⟨_,rfl⟩|constructor) (hhas:ko (relabel scope X.env).names (b5 X.env fs)=true:=by rfl)
  (hlen:N.length=own+fr.length:=by rfl) (hN:(N.drop own).map some=fr.map (fun j=>X.N[j]?):=by rfl) (hF:Ax X.env scope (b5 X.env fs) (N.drop own):=by repeat' first|exact trivial|exact .inl rfl|exact .inr rfl|exact rfl|apply And.intro)
  (hs:∀x,foldedSetIterable iter X.env x=pure x:=by intro _;rfl):aZ X (.ListComp elt [⟨tg,iter,ifs,0⟩] scope pos) (aH ti g tc te own fr):=vo fs own fr N Dr hc hclos hcell hkind hnames hcl hhas hlen hN hF hi hg hf he hs
def vY(fs:Vs)(own:Nat)(fr:List Nat)(N:Vs)(i:Nat){y:Str}{py spos:Pos}(hX:X.N.Nodup)(hi:sF X tg iter ti)(hg:∀B,re (X.Bj N scope fs B) tg g)(hf:∀B,vX (X.Bj N scope fs B) ifs tc)(he:∀B,aZ (X.Bj N scope fs B) elt te)
  (hix:X.N[i]?=some y:=by rfl) (hy:X.env.scope.names.lookup y=some .local:=by rfl) (hsw:swapsWith (.ListComp elt [⟨tg,iter,ifs,0⟩] scope pos) (some (.Name y py)) spos.line X.env=pure true:=by rfl)
  (Dr:g.under own=true:=by rfl) (hc:X.calm=true:=by rfl) (hclos:closureFor scope X.env=pure (b5 X.env fs):=by rfl) (hcell:∀y∈scope.names,y.2 ≠ .cell:=by decide +kernel) (hkind:scope.kind = .function:=by rfl)
  (hnames:∀x∈scope.names,x.2 = .local->scope.names.lookup x.1=some .local:=by decide +kernel) (hcl:bR X.env fs:=by repeat' first|exact trivial|exact⟨_,rfl⟩|constructor) (hhas:ko (relabel scope X.env).names (b5 X.env fs)=true:=by rfl)
  (hlen:N.length=own+fr.length:=by rfl) (hN:(N.drop own).map some=fr.map (fun j=>X.N[j]?):=by rfl) (hF:Ax X.env scope (b5 X.env fs) (N.drop own):=by repeat' first|exact trivial|exact .inl rfl|exact .inr rfl|exact rfl|apply And.intro)
  (hs:∀x,foldedSetIterable iter X.env x=pure x:=by intro _;rfl):l_ X (.Assign [.Name y py] (.ListComp elt [⟨tg,iter,ifs,0⟩] scope pos) spos) (au i (aH ti g tc te own fr)):=vp fs own fr N hX hix hy hsw Dr hc hclos hcell hkind hnames hcl hhas hlen hN hF hi hg hf he hs
end
section
variable {X:Cx} {e:Expr} {es:List Expr} {ts:List aQ} {x:Str} {p pos cpos:Pos} {ks:Vs} {j:Nat}
def tW{n:String}(hm:X.mg x=none)(hg:Gl X x:=by rfl)(hv:bootBuiltins x=some (.type n):=by decide +kernel)(hn:x ≠ "__name__":=by decide)(hd:(x == ("__debug__":Str))=false:=by decide):aZ X (.Name x pos) (c3 (.ty n)):=yH hg hm hv hn hd
end
section
variable {P:Program} {w:World} {K:Vo} {mg:Vr} {base:Heap}
structure lv (K:Vo) (mg:Vr) (x:Str) (st:Stmt) (ps:Vs):Prop where
 ex:∃T f fd,yP K mg x st ps T f fd
structure DB (P:Program) (w:World) (K:Vo) (mg:Vr) (base:Heap) (k:Nat) (x:Str) (n:Nat) (sp:aC):Prop where
 ex:∃f fd ps,ps.length=n/\Ds P w K mg base k f fd ps sp/\mg x=some (.ref f)/\PySem.W.keepIn K (.ref f)=true/\Binds K fd ps []/\Binds K fd ps [.bool true]
def zC{x:Str}{st:Stmt}{ps:Vs}{k n:Nat}{t:bH}{sp:aC}(N:Vs)(O:lv K mg x st ps)
  (hbody:∀(f:Addr) (cdv:Value) (A:Around) (outer:List Env) (s:Shared) (H:Hp) (E:XK),Room k (A.deeper (PyProof.Rows.envOfC x (ax st) s.heap.objs.size f cdv))->N.Nodup->gJ (xc P w K mg base N x st f cdv A outer s H E) (aW st) t) (e:sp=zS N.length t)
  (hn:ps.length=n:=by rfl) (S:cy N ps (ax st):=by exact⟨rfl,rfl,rfl,by decide +kernel,rfl,by decide +kernel,by decide +kernel⟩):DB P w K mg base (k+1) x n sp:=by
 subst e
 obtain⟨T,f,fd,o⟩:=O.ex
 exact⟨f,fd,ps,hn,yO o.F S fun cdv A outer s H E hr=>hbody f cdv A outer s H E hr S.nd,o.m,o.k,o.b,o.d⟩
theorem DB.zero{x:Str}{st:Stmt}{ps:Vs}{k n:Nat}(O:lv K mg x st ps)(hn:ps.length=n:=by rfl):DB P w K mg base k x n lu:=by
 obtain⟨T,f,fd,o⟩:=O.ex
 exact⟨f,fd,ps,hn,.zero rfl,o.m,o.k,o.b,o.d⟩
theorem xq{b n:Nat}{x:Str}{st:Stmt}{ps:Vs}{r:Nat->aC}(O:lv K mg x st ps)(h:∀j,DB P w K mg base (b+j) x n (r j)->DB P w K mg base (b+j+1) x n (r (j+1)))(h0:r 0=lu)(hn:ps.length=n:=by rfl):∀j,DB P w K mg base (b+j) x n (r j)
 |0=>by rw[h0];exact .zero O hn
 |j+1=>h j (xq O h h0 hn j)
end
section
variable {X:Cx} {e:Expr} {es:List Expr} {ts:List aQ} {x:Str} {p pos:Pos} {j k n:Nat} {sp:aC}
def cD(O:DB X.prog X.w X.K X.mg X.base k x n sp)(hr:Room j X.A)(ha:iw X (e::es) ts)(hj:k<=j:=by omega)(hl:ts.length+1=n:=by rfl)(hg:Gl X x:=by rfl)(he:starEach (e::es) X.env=(false,eval e X.env)::starEach es X.env:=by rfl)(hdb:(x == ("__debug__":Str))=false:=by decide)(hpl:(backTo pos (starEach es X.env)).any (·.1)=false:=by rfl) :
  aZ X (.Call (.Name x p) (e::es) [] pos) (kH sp ts):=by
 obtain⟨f,fd,ps,hn,F,h1,h2,h3,h4⟩:=O.ex
 exact sM F (hr.mono hj) hg h1 h2 h4 he ha (hl.trans hn.symm) hdb hpl
def zD(O:DB X.prog X.w X.K X.mg X.base k x n sp)(hr:Room j X.A)(ha:iw X (e::es) ts)(hj:k<=j:=by omega)(hl:ts.length=n:=by rfl)(hg:Gl X x:=by rfl)(he:starEach (e::es) X.env=(false,eval e X.env)::starEach es X.env:=by rfl)(hdb:(x == ("__debug__":Str))=false:=by decide)(hpl:(backTo pos (starEach es X.env)).any (·.1)=false:=by rfl) :
  aZ X (.Call (.Name x p) (e::es) [] pos) (ac sp ts):=by
 obtain⟨f,fd,ps,hn,F,h1,h2,h3,h4⟩:=O.ex
 exact qr F (hr.mono hj) hg h1 h2 h3 he ha (hl.trans hn.symm) hdb hpl
end
end L3
namespace L2
open PySem PySem.Spec PyProof.Rows
end L2
namespace L3
open PySem L2
end L3
namespace CY
open PySem L2 L3
end CY
namespace L3
open PySem L2
theorem lw:∀{a b:List Char},a.map Char.toNat=b.map Char.toNat->a=b
 |[],[],_=>rfl
 |[],_::_,h=>by simp at h
 |_::_,[],h=>by simp at h
 |x::a,y::b,h=>by
  simp only[Ig,List.cons.injEq]at h
  rw[lw h.2,Char.toNat_inj.mp h.1]
def aF{a b:String}:(Str.ofString a=Str.ofString b)↔a=b:=by
 refine⟨fun h=>?_,fun h=>by rw[h]⟩
 rw[Str.ofString_eq_toList,Str.ofString_eq_toList]at h
 have h':a.toList.map Char.toNat=b.toList.map Char.toNat:=by
  have:=IP (fun s:Str=>s.cps.toList) h
  simpa using this
 exact String.toList_inj.mp (lw h')
def sS{a b:String}:((Sum.inr (Str.ofString a):a_)=Sum.inr (Str.ofString b))↔a=b:=by
 rw[Sum.inr.injEq,aF]
def vB{i j:Int}(h1:-(2 ^ 64) < i)(h2:i < 2 ^ 64):IntMulOk i j:=(show Dw i j from .inl ⟨h1,h2⟩).ok
def sQ{i j:Int}(h1:-(2 ^ 64) < j)(h2:j < 2 ^ 64):IntMulOk i j:=(show Dw i j from .inr ⟨h1,h2⟩).ok
def gh{i j:Int}(h:0<=j):i.fmod j=i % j:=Int.fmod_eq_emod_of_nonneg i h
def xu{i j:Int}(h:0<=j):i.fdiv j=i / j:=Int.fdiv_eq_ediv_of_nonneg i h
def xv{i j:Int}(h:0 < j)(h2:j < 2 ^ 64):lg i j:=⟨by omega,Lr (show j.natAbs < 2 ^ 64 by omega) (Nat.pow_lt_pow_right (by decide) (by decide))⟩
def AR(d l:Addr)(S S':aq):Prop:=∀a o,S a=some o->a≠d->a≠l->S' a=some o
def AR.refl{d l:Addr}{S:aq}:AR d l S S:=fun _ _ h _ _=>h
def AR.trans{d l:Addr}{S S1 S2:aq}(a:AR d l S S1)(b:AR d l S1 S2):AR d l S S2:=fun x o h h1 h2=>b x o (a x o h h1 h2) h1 h2
def AR.upd{d l:Addr}{S:aq}{o:SO}:AR d l S (zL S d o):=fun x u h h1 h2=>by rw[aj h1];exact h
def AR.Hc{d l:Addr}{S:aq}{o:SO}:AR d l S (zL S l o):=fun x u h h1 h2=>by rw[aj h2];exact h
def AR.new{d l p:Addr}{S:aq}{o:SO}(h:S p=none):AR d l S (zL S p o):=fun x u hx h1 h2=>by rw[aj (fun e=>by rw[e,h]at hx;cases hx)];exact hx
end L3
local macro_rules | `(tactic| walk_at "x")=>`(tactic| ((try dsimp only [L3.af,L3.au,L3.az,L3.aU,L3.bh,L3.aM,L3.ah,L3.v3,L3.c3,L3.lk,L3.ao,L3.ap,L3.ac,L3.d_,L3.aS,L3.jB,L3.iT,L3.md,L3.cK,L3.jT,L3.oh,L3.kB,L3.om,L3.i5,L3.ay,L3.bu,L3.d9,L3.bq,L3.ag,L3.gL,L3.bj,L3.kU,L3.jU,L3.kA,L3.dH,L3.fo,L3.b4,L3.fg,L3.ie,L3.qw,L3.oQ,L3.mr,L3.xg,L3.bg,L3.tS,L3.aP,L3.iz,L3.bZ,L3.iX,L3.bJ,L3.lh,List.set_cons_zero,List.set_cons_succ,List.set_nil,L3.mn,L3.gP,L3.li,L3.aH,L3.aG,L3.bI,L3.cm,L3.dI,L3.Tg.put,L3.Tg.zN,L3.qm,L3.i7,L3.fB,L3.lp,L3.kD,L3.cL,L3.bm,L3.bf,List.reduceReplicate,List.map_cons,List.map_nil,List.cons_append,List.nil_append]); (try simp only [L3.af,L3.au,L3.az,L3.aU,L3.bh,L3.aM,L3.ah,L3.v3,L3.c3,L3.lk,L3.ao,L3.ap,L3.ac,L3.d_,L3.aS,L3.jB,L3.iT,L3.md,L3.cK,L3.jT,L3.oh,L3.kB,L3.om,L3.i5,L3.ay,L3.bu,L3.d9,L3.bq,L3.ag,L3.gL,L3.bj,L3.kU,L3.jU,L3.kA,L3.dH,L3.fo,L3.b4,L3.fg,L3.ie,L3.qw,L3.oQ,L3.mr,L3.xg,L3.bg,L3.tS,L3.aP,L3.iz,L3.bZ,L3.iX,L3.bJ,L3.lh,List.set_cons_zero,List.set_cons_succ,List.set_nil,L3.mn,L3.gP,L3.li,L3.aH,L3.aG,L3.bI,L3.cm,L3.dI,L3.Tg.put,L3.Tg.zN,L3.qm,L3.i7,L3.fB,L3.lp,L3.kD,L3.cL,L3.bm,L3.bf,List.reduceReplicate,Ig,Je,List.cons_append,List.nil_append])))
namespace C
open PySem L2 L3
noncomputable def bF(seed number:Int)(l:Addr):List (a_×PV):=[(Sum.inr "seed",.int seed),(Sum.inr "number",.int number),(Sum.inr "left",.ref l)]
structure BF (S:aq) (d l:Addr) (seed number:Int) (left:Vu):Prop where
 d:S d=some (.dct (bF seed number l))
 l:S l=some (.lst (left.map PV.int))
 s0:0<=seed
 s1:seed < 2147483647
 nm:0<=number
 lf:∀x∈left,0<=x
 ln:left.length<=100
def zY(S:aq)(d l:Addr):Prop:=∃seed number left,BF S d l seed number left
def BF.ne{S:aq}{d l:Addr}{seed number:Int}{left:Vu}(D:BF S d l seed number left):d≠l:=fun e=>by
 have h:=D.d
 rw[e,D.l]at h
 cases h
def zY.new{S:aq}{d l p:Addr}{o:SO}(D:zY S d l)(h:S p=none):zY (zL S p o) d l:=by
 obtain⟨s,n,f,D⟩:=D
 refine⟨s,n,f,?_,?_,D.s0,D.s1,D.nm,D.lf,D.ln⟩
 ·rw[aj (fun e=>by have:=D.d;rw[e,h]at this;cases this)];exact D.d
 ·rw[aj (fun e=>by have:=D.l;rw[e,h]at this;cases this)];exact D.l
def zY.upd{S:aq}{d l p:Addr}{o:SO}(D:zY S d l)(h1:p≠d)(h2:p≠l):zY (zL S p o) d l:=by
 obtain⟨s,n,f,D⟩:=D
 exact⟨s,n,f,by rw[aj h1.symm];exact D.d,by rw[aj h2.symm];exact D.l,D.s0,D.s1,D.nm,D.lf,D.ln⟩
def zY.free{S:aq}{d l p:Addr}(D:zY S d l)(h:S p=none):p≠d/\p≠l:=by
 obtain⟨s,n,f,D⟩:=D
 exact⟨(fun e=>by have:=D.d;rw[<-e,h]at this;cases this),(fun e=>by have:=D.l;rw[<-e,h]at this;cases this)⟩
def jc(s n m:Int)(l:Addr):gN (bF s n l) (Sum.inr "number") (.int m)=bF s m l:=by
 simp[gN,bF,sS,aF]
def qC(s n m:Int)(l:Addr):gN (bF s n l) (Sum.inr "seed") (.int m)=bF m n l:=by
 simp[gN,bF,sS,aF]
def vC(s n:Int)(l:Addr):dz (bF s n l) (Sum.inr "seed")=some (.int s):=by simp[dz,bF,sS,aF]
def qD(s n:Int)(l:Addr):dz (bF s n l) (Sum.inr "number")=some (.int n):=by simp[dz,bF,sS,aF]
def vD(s n:Int)(l:Addr):dz (bF s n l) (Sum.inr "left")=some (.ref l):=by simp[dz,bF,sS,aF]
abbrev bA(w:aC):Prop:=∀{S:aq} {d l:Addr} {m:Int} {Q:bQ} {E:cU},zY S d l->0 < m->m < 2 ^ 62->(∀r S',0<=r->r < m->zY S' d l->AR d l S S'->Q (.int r) S')->w [.ref d,.int m] S Q E
def zM:bA (zS 5 eE):=by
  intro S d l m Q E D h0 h1 k
  obtain⟨seed,number,left,D⟩:=D
  have hne:=D.ne
  have hsz:∀a b,(bF a b l).length < sizeLine:=fun _ _=>dv (by show 3<=1000;decide)
  have fin:∀num CP S1,BF S1 d l seed num CP->AR d l S S1->¬(num=0/\0 < CP.length)->
      (if 0 < num then lg num m/\(bF seed num l).length < sizeLine/\m≠0/\Q (PV.int (num.fmod m)) (zL S1 d (SO.dct (bF seed (num.fdiv m) l)))
       else IntMulOk seed 48271/\(2147483647:Int)≠0/\IntMulOk ((seed * 48271+7919).fmod 2147483647) 40692/\(2147483399:Int)≠0/\(bF seed num l).length < sizeLine/\
        IntMulOk (((seed * 48271+7919).fmod 2147483647 * 40692+104729).fmod 2147483399) (((seed * 48271+7919).fmod 2147483647 * 40692+104729).fmod 2147483399)/\(2147483563:Int)≠0/\
        IntMulOk ((seed * 48271+7919).fmod 2147483647) ((seed * 48271+7919).fmod 2147483647)/\(2147483629:Int)≠0/\
        IntMulOk (((seed * 48271+7919).fmod 2147483647 * (seed * 48271+7919).fmod 2147483647).fmod 2147483629) 2147483563/\m≠0/\
        Q (PV.int ((((seed * 48271+7919).fmod 2147483647 * (seed * 48271+7919).fmod 2147483647).fmod 2147483629 * 2147483563+((((seed * 48271+7919).fmod 2147483647 * 40692+104729).fmod 2147483399) * (((seed * 48271+7919).fmod 2147483647 * 40692+104729).fmod 2147483399)).fmod 2147483563).fmod m))
          (zL S1 d (SO.dct (bF (((seed * 48271+7919).fmod 2147483647 * 40692+104729).fmod 2147483399) num l)))):=by
    intro num CP S1 D1 O1 hz
    split
    . rename_i hp
      rw[gh (Ld h0),xu (Ld h0)]
      refine⟨xv h0 (by omega),hsz _ _,by omega,k _ _ (Int.emod_nonneg _ (by omega)) (Lg _ h0) ⟨seed,num / m,CP,aa,by rw[aj hne.symm];exact D1.l,D1.s0,D1.s1,Int.ediv_nonneg D1.nm (Ld h0),D1.lf,D1.ln⟩ (O1.trans .upd)⟩
    . have e1:∀x:Int,x.fmod 2147483647=x % 2147483647:=fun x=>gh (by decide)
      have e2:∀x:Int,x.fmod 2147483399=x % 2147483399:=fun x=>gh (by decide)
      simp only[e1,e2,gh (Ld h0)]
      have p1:=D1.s0
      have p2:=D1.s1
      refine⟨sQ (by decide) (by decide),by decide,sQ (by decide) (by decide),by decide,hsz _ _,vB (by omega) (by omega),by decide,vB (by omega) (by omega),by decide,sQ (by decide) (by decide),by omega,
        k _ _ (Int.emod_nonneg _ (by omega)) (Lg _ h0) ⟨_,num,CP,aa,by rw[aj hne.symm];exact D1.l,by omega,by omega,D1.nm,D1.lf,D1.ln⟩ (O1.trans .upd)⟩
  unfold zS eE
  rw[show aB 5 [PV.ref d,PV.int m]=[some (.ref d),some (.int m),none,none,none] from rfl]
  simp only[af]
  refine⟨fun n σ S'=>σ=[some (.ref d),some (.int m),none,none,none]/\∃number left,BF S' d l seed number left/\left.length=n/\AR d l S S',⟨_,rfl,number,left,D,rfl,.refl⟩,?_⟩
  rintro n σ S1 ⟨rfl,num,CP,D1,hn,O1⟩
  walk_at "x"
  simp only[D1.d,D1.l,qD,vD,vC,qC,jc,aa,HQ,HS]
  have hlen:(List.map PV.int CP).length=CP.length:=HD ..
  rw[hlen]
  split
  . rename_i hz
    subst hz
    split
    . rename_i hl
      refine⟨fun σ S'=>σ=[some (.ref d),some (.int m),none,none,none]/\∃number left,BF S' d l seed number left/\left.length < n/\AR d l S S',?_,?_⟩
      . rintro σ' S' ⟨rfl,a,b,h2,h3,h4⟩
        exact⟨_,h3,rfl,a,b,h2,rfl,h4⟩
      . have hl':0 < CP.length:=by omega
        obtain⟨pre,x,rfl⟩:∃pre x,CP=pre++[x]:=by
          refine⟨CP.dropLast,CP.getLast (by intro e;rw[e]at hl';simp at hl'),(JY _).symm⟩
        refine⟨trivial,?_⟩
        rw[show(List.map PV.int (pre++[x]))[(pre++[x]).length - 1]?=some (.int x) by simp,show(List.map PV.int (pre++[x])).dropLast=pre.map PV.int by simp]
        simp only[aj hne,D1.d,jc]
        refine⟨hsz _ _,trivial,x,pre,⟨aa,by rw[aj hne.symm,aa],D1.s0,D1.s1,D1.lf x (by simp),fun y hy=>D1.lf y (by simp[hy]),by have:=D1.ln;simp at this;omega⟩,?_,O1.trans (AR.Hc.trans .upd)⟩
        rw[<-hn];simp
    . rename_i hl
      exact fin 0 CP S1 D1 O1 (fun z=>hl (by omega))
  . rename_i hz
    rw[if_neg (by decide)]
    exact fin num CP S1 D1 O1 (fun z=>hz z.1)
end C
namespace L3
open PySem L2
def Ext(S S':aq):Prop:=∀a o,S a=some o->S' a=some o
def Ext.refl{S:aq}:Ext S S:=fun _ _ h=>h
def Ext.trans{S S1 S2:aq}(a:Ext S S1)(b:Ext S1 S2):Ext S S2:=fun x o h=>b x o (a x o h)
def Ext.new{S:aq}{p:Addr}{o:SO}(h:S p=none):Ext S (zL S p o):=fun x u hx=>by rw[aj (fun e=>by rw[e,h]at hx;cases hx)];exact hx
def Ext.free{S S':aq}(e:Ext S S'){p:Addr}(h:S' p=none):S p=none:=by
 cases q:S p with
 |none=>rfl
 |some o=>rw[e p o q]at h;cases h
theorem dP{g:Tg}{tc:iu}{te:aQ}{σ':bY}{keep:aq->Prop}{fin:List PV->aq->Prop}{S:aq}(f:PV->PV)(c:PV->Bool)(hk:keep S):∀(items ys:List PV),
  (∀x∈items,∃σ2,g.put x σ'=some σ2/\(∀Q:Bool->aq->Prop,Q (c x) S->tc σ2 S Q dC)/\(c x=true->∀Q:bQ,Q (f x) S->te σ2 S Q dC))->ys.length+items.length<=sizeLine->fin (ys++(items.filter c).map f) S->cx g tc te σ' keep fin items ys S
 |[],ys,_,hl,hf=>⟨hk,by simpa using hl,by simpa using hf⟩
 |x::r,ys,h,hl,hf=>by
  obtain⟨σ2,e,h1,h2⟩:=h x (by simp)
  refine⟨hk,by simp at hl;omega,?_⟩
  rw[e]
  refine h1 _ ?_
  cases hc:c x with
  |true=>
   rw[if_pos rfl]
   refine h2 hc _ (dP f c hk r (ys++[f x]) (fun y hy=>h y (by simp[hy])) (by simp at hl ⊢;omega) ?_)
   rw[Lp,hc,if_pos rfl]at hf
   simpa using hf
  |false=>
   rw[if_neg (by decide)]
   refine dP f c hk r ys (fun y hy=>h y (by simp[hy])) (by simp at hl ⊢;omega) ?_
   rw[Lp,hc,if_neg (by decide)]at hf
   exact hf
def oB{g:Tg}{te:aQ}{σ':bY}{keep:aq->Prop}{fin:List PV->aq->Prop}{S:aq}(f:PV->PV){items:List PV}(hk:keep S)
  (h:∀x∈items,∃σ2,g.put x σ'=some σ2/\∀Q:bQ,Q (f x) S->te σ2 S Q dC) (hl:items.length<=sizeLine) (hf:fin (items.map f) S):cx g bp te σ' keep fin items [] S:=by
 refine dP f (fun _=>true) hk items [] (fun x hx=>?_) (by simpa using hl) (by rw[List.filter_eq_self.mpr (fun _ _=>rfl)];exact hf)
 obtain⟨σ2,e,k⟩:=h x hx
 exact⟨σ2,e,fun Q q=>q,fun _=>k⟩
theorem j3{g:Tg}{tc:iu}{te:aQ}{σ':bY}{keep:aq->Prop}{fin:List PV->aq->Prop}{items:List PV}(Iv:List PV->List PV->aq->Prop)(hk:∀done ys S,Iv done ys S->keep S/\ys.length<=sizeLine)
  (step:∀done x rest ys S (K:List PV->aq->Prop),items=done++x::rest->Iv done ys S->(∀ys' S',Iv (done++[x]) ys' S'->K ys' S')->match g.put x σ' with
   |some σ2=>tc σ2 S (fun b S3=>if b=true then te σ2 S3 (fun y S4=>K (ys++[y]) S4) dC else K ys S3) dC
   |none=>False)
  (hf:∀ys S,Iv items ys S->fin ys S):∀(rest done ys:List PV) (S:aq),items=done++rest->Iv done ys S->cx g tc te σ' keep fin rest ys S
 |[],done,ys,S,e,h=>by
  rw[Ip]at e
  exact⟨(hk _ _ _ h).1,(hk _ _ _ h).2,hf ys S (e▸h)⟩
 |x::rest,done,ys,S,e,h=>by
  refine⟨(hk _ _ _ h).1,(hk _ _ _ h).2,?_⟩
  exact step done x rest ys S (fun ys' S'=>cx g tc te σ' keep fin rest ys' S') e h fun ys' S' h'=>j3 Iv hk step hf rest (done++[x]) ys' S' (by rw[e];simp) h'
theorem lx{g:Tg}{tb:bH}{D:k_}{keep:aq->Prop}{items:List PV}(Iv:List PV->bY->aq->Prop)(hk:∀done σ S,Iv done σ S->keep S)
  (step:∀done x rest σ S (K:bY->aq->Prop),items=done++x::rest->Iv done σ S->(∀σ' S',Iv (done++[x]) σ' S'->K σ' S')->match g.put x σ with
   |some σ'=>tb { D with nx:=K,ct:=K,bk:=D.nx } σ' S
   |none=>False)
  (hd:∀σ S,Iv items σ S->D.nx σ S):∀(rest done:List PV) (σ:bY) (S:aq),items=done++rest->Iv done σ S->kE g tb D keep rest σ S
 |[],done,σ,S,e,h=>by
  rw[Ip]at e
  exact⟨hk _ _ _ h,hd σ S (e▸h)⟩
 |x::rest,done,σ,S,e,h=>
  ⟨hk _ _ _ h,step done x rest σ S (kE g tb D keep rest) e h fun σ' S' h'=>lx Iv hk step hd rest (done++[x]) σ' S' (by rw[e];simp) h'⟩
def bU{g:Tg}{tb:bH}{D:k_}{keep:aq->Prop}{items:List PV}{σ:bY}{S:aq}(Iv:List PV->bY->aq->Prop)(h0:Iv [] σ S)(hk:∀done σ S,Iv done σ S->keep S)
  (step:∀done x rest σ S (K:bY->aq->Prop),items=done++x::rest->Iv done σ S->(∀σ' S',Iv (done++[x]) σ' S'->K σ' S')->match g.put x σ with
   |some σ'=>tb { D with nx:=K,ct:=K,bk:=D.nx } σ' S
   |none=>False)
  (hd:∀σ S,Iv items σ S->D.nx σ S):kE g tb D keep items σ S:=lx Iv hk step hd items [] σ S rfl h0
def cP{g:Tg}{tc:iu}{te:aQ}{σ':bY}{keep:aq->Prop}{fin:List PV->aq->Prop}{items:List PV}{S:aq}(Iv:List PV->List PV->aq->Prop)(h0:Iv [] [] S)(hk:∀done ys S,Iv done ys S->keep S/\ys.length<=sizeLine)
  (step:∀done x rest ys S (K:List PV->aq->Prop),items=done++x::rest->Iv done ys S->(∀ys' S',Iv (done++[x]) ys' S'->K ys' S')->match g.put x σ' with
   |some σ2=>tc σ2 S (fun b S3=>if b=true then te σ2 S3 (fun y S4=>K (ys++[y]) S4) dC else K ys S3) dC
   |none=>False)
  (hf:∀ys S,Iv items ys S->fin ys S):cx g tc te σ' keep fin items [] S:=j3 Iv hk step hf items [] [] S rfl h0
def al{t u:bH}{D:k_}{σ:bY}{S:aq}(h:∀N:bY->aq->Prop,(∀σ S,u D σ S->N σ S)->t { D with nx:=N } σ S):af t u D σ S:=h (u D) fun _ _ q=>q
def fP{n:Nat}{b:bH}{args:List PV}{S:aq}{Q:bQ}{E:cU}(h:b { nx:=fun _ S'=>Q .non S',rt:=Q,ex:=dC } (aB n args) S):zS n b args S Q E:=h
def qE{α β:Type}(f:α->β)(xs:List α)(lo hi:Option Int):dh (xs.map f) lo hi=(dh xs lo hi).map f:=by
 unfold dh
 rw[HD,Kq,List.map_drop]
def qF{α:Type}(xs:List α)(lo hi:Option Int):(dh xs lo hi).length<=xs.length:=by
 unfold dh
 rw[IV,IF]
 omega
def cA{n:Nat}(h:n<=1000):n<=sizeLine:=KC (dv h)
section
variable {α:Type} {a b c d e:α} {l:List α}
def ft:Ar (a::l) 0=some a:=by simp[Ar,nM]
def jd:Ar (a::b::l) 1=some b:=cz (j:=1) rfl
def vZ:Ar (a::b::c::l) 2=some c:=cz (j:=2) rfl
def zE:Ar (a::b::c::d::e::l) 4=some e:=cz (j:=4) rfl
def vE:Ar [a] (-1)=some a:=rfl
def vF:Ar [a,b] (-1)=some b:=rfl
def vG:Ar [a,b,c] (-1)=some c:=rfl
def vH:Ar [a,b,c,d] (-1)=some d:=rfl
def vI:Ar [a,b,c,d,e] (-1)=some e:=rfl
def vJ:Ar [a,b] (-2)=some a:=rfl
def vK:Ar [a,b,c] (-2)=some b:=rfl
def vL:Ar [a,b,c,d] (-2)=some c:=rfl
def vM:Ar [a,b,c,d,e] (-2)=some d:=rfl
end
def dE(lo:Int)(n:Nat):(bx lo n).length=n:=by simp[bx]
end L3
namespace C
open PySem L2 L3
abbrev ly(w:aC):Prop:=∀{S:aq} {ns:Vu} {b:Int} {Q:bQ} {E:cU},ns.length<=63->0<=b->b < 1000->(∀d l S',S d=none->S l=none->zY S' d l->Ext S S'->Q (.ref d) S')->w [.cl (ns.map PV.int),.int b] S Q E
def BR:ly (zS 5 eC):=by
 intro S ns b Q E hn h0 h1 k
 unfold zS eC
 rw[show aB 5 [PV.cl (ns.map PV.int),PV.int b]=[some (.cl (ns.map PV.int)),some (.int b),none,none,none] from rfl]
 walk_at "x"
 intro p hp
 rw[aa]
 dsimp only
 rw[qE]
 have hx:(dh ns (some b) (some 63)).length<=63:=HX (qF _ _ _) hn
 generalize dh ns (some b) (some 63)=xs at hx
 refine oB (fun v=>match v with | .int i=>.int (if 0 - i > i then 0 - i else i)|v=>v) aa (fun x hx=>?_) (cA (by rw[HD];omega)) ?_
 ·obtain⟨i,hi,rfl⟩:=Im.mp hx
  refine⟨[some (.int i)],rfl,fun Q q=>?_⟩
  walk_at "x"
  exact q
 intro p2 hp2
 rw[aa]
 dsimp only
 rw[JL]
 have e0:(xs.map ((fun v=>match v with | .int i=>.int (if 0 - i > i then 0 - i else i)|v=>v) ∘ PV.int))=(xs.map fun i=>if 0 - i > i then 0 - i else i).map PV.int:=by
  rw[JL];rfl
 rw[e0]
 have hy:((xs.map fun i=>if 0 - i > i then 0 - i else i)).length<=63:=by rw[HD];exact hx
 have EZ:∀y∈xs.map (fun i:Int=>if 0 - i > i then 0 - i else i),0<=y:=by
  intro y hy
  obtain⟨i,_,rfl⟩:=Im.mp hy
  split<;>omega
 generalize (xs.map fun i=>if 0 - i > i then 0 - i else i)=ys at hy EZ
 have h2:p2≠p:=fun e=>by rw[e,aa]at hp2;cases hp2
 have hp2':S p2=none:=by rw[<-hp2,aj h2]
 refine bU (fun done σ S'=>S'=zL (zL S p (.lst (xs.map PV.int))) p2 (.lst (ys.map PV.int))/\∃v2 n,0<=n/\n < 2147483647/\σ=[some (.cl (ns.map PV.int)),some (.int b),v2,some (.ref p2),some (.int n)]) ⟨rfl,none,7919+b,by omega,by omega,rfl⟩ (fun done σ S' h=>by rw[h.1];exact aa) ?_ ?_
 ·rintro done x rest σ S' K e ⟨rfl,v2,n,n0,n1,rfl⟩ hK
  obtain⟨i,hi,rfl⟩:∃i,i∈ys/\x = .int i:=by
   have:x∈ys.map PV.int:=by rw[e];simp
   obtain⟨i,hi,rfl⟩:=Im.mp this
   exact⟨i,hi,rfl⟩
  walk_at "x"
  refine⟨sQ (by decide) (by decide),by decide,by decide,hK _ _ ⟨rfl,_,_,?_,?_,rfl⟩⟩
  ·rw[gh (by decide)];omega
  ·rw[gh (i:=(n * 48271+_)) (by decide)];omega
 ·rintro σ S' ⟨rfl,v2,n,n0,n1,rfl⟩
  walk_at "x"
  intro d hd
  have hd2:d≠p2:=fun e=>by rw[e,aa]at hd;cases hd
  rw[aj hd2]at hd
  have hd1:d≠p:=fun e=>by rw[e,aa]at hd;cases hd
  rw[aj hd1]at hd
  rw[aj hd2.symm,aa]
  dsimp only
  refine dP (fun v=>v) (fun v=>match v with | .int i=>decide (10 ^ 18<=i)|_=>false) (by rw[aj hd2.symm,aa]) _ [] (fun x hx=>?_) (by rw[HD];exact cA (by simp;omega)) ?_
  ·obtain⟨i,hi,rfl⟩:=Im.mp hx
   refine⟨[some (.int i)],rfl,fun Q q=>?_,fun _ Q q=>?_⟩
   ·walk_at "x"
    exact⟨⟨by decide,by decide,by decide⟩,q⟩
   ·walk_at "x"
    exact q
  intro p3 hp3
  rw[aa]
  intro l hl
  have e3:([]++List.map (fun v:PV=>v) (List.filter (fun v=>match v with | .int i=>decide (10 ^ 18<=i)|_=>false) (List.map PV.int ys)))=(ys.filter fun i=>decide (10 ^ 18<=i)).map PV.int:=by
   rw[Jx,List.map_id',List.filter_map]
   rfl
  rw[e3]at hl ⊢
  rw[<-List.map_reverse]
  generalize Gn:zL (zL (zL (zL S p (SO.lst (List.map PV.int xs))) p2 (SO.lst (List.map PV.int ys))) d (SO.dct [])) p3 (SO.lst (List.map PV.int (List.filter (fun i=>decide (10 ^ 18<=i)) ys)))=S3 at hl ⊢
  have Go:S3 d=some (.dct []):=by rw[<-Gn,aj (fun e=>by rw[<-e,aa]at hp3;cases hp3),aa]
  have Gp:l≠d:=fun e=>by rw[e,Go]at hl;cases hl
  have FK:Ext S S3:=by
   rw[<-Gn]
   refine(Ext.new hp).trans ((Ext.new hp2).trans ((Ext.new ?_).trans (.new hp3)))
   rw[aj hd2,aj hd1];exact hd
  refine⟨by rw[aj Gp.symm];exact Go,?_⟩
  have e4:jY [(PV.str "seed",PV.int n),(PV.str "number",PV.int 0),(PV.str "left",PV.ref l)]=some (bF n 0 l):=rfl
  rw[e4]
  have e5:cM [] (bF n 0 l)=bF n 0 l:=by simp[cM,bF,gN,sS,aF]
  dsimp only
  rw[e5]
  refine k d l _ hd (FK.free hl) ⟨n,0,_,aa,by rw[aj Gp,aa],n0,n1,Int.le_refl _,fun y hy=>?_,?_⟩ ?_
  ·exact EZ y (K4.mp (List.mem_reverse.mp hy)).1
  ·rw[Km]
   exact HX (List.length_filter_le _ _) (by omega)
  ·intro a o ha
   have had:a≠d:=fun e=>by rw[e,hd]at ha;cases ha
   rw[aj had,aj (fun e=>by rw[e,FK.free hl]at ha;cases ha)]
   exact FK a o ha
end C
namespace L3
open PySem L2
theorem je(S:aq):∀zs:List Str,Bq S (zs.map PV.str) (zs.map PyData.str)
 |[]=>.nil
 |z::r=>.cons (.str z) (je S r)
theorem eL:∀{zs:Vs},(∀z∈zs,PyData.strOk z=true)->PyData.canLayAll0 (zs.map PyData.str)=true
 |[],_=>rfl
 |z::r,h=>by
  show(PyData.canLay0 (.str z)&&PyData.canLayAll0 (r.map PyData.str))=true
  rw[eL fun y hy=>h y (by simp[hy])]
  have:PyData.canLay0 (.str z)=true:=h z (by simp)
  rw[this];rfl
def jf(z:Str)(zs:Vs):ic (.str z) (zs.map PyData.str)=decide (z∈zs):=by
 unfold ic
 rw[List.any_map,JW,List.any_eq_true,decide_eq_true_iff]
 constructor
 ·rintro⟨y,hy,e⟩
  have e':(y == z)=true:=e
  exact(eq_of_beq e')▸hy
 ·intro h
  exact⟨z,h,beq_self_eq_true z⟩
def dQ{neg:Bool}{z:Str}{zs:Vs}{a:Addr}{S:aq}{Q:bQ}(hS:S a=some (.lst (zs.map PV.str)))(hz:PyData.strOk z=true)(hzs:∀y∈zs,PyData.strOk y=true)(q:Q (.bl (neg != decide (z∈zs))) S):jv neg (.str z) (.ref a) S Q:=by
 unfold jv
 simp only[hS]
 exact⟨_,_,.str z,je S zs,hz,eL hzs,by show 0<=150;decide,by rw[jf];exact q⟩
def bV{neg:Bool}{z:Str}{zs:Vs}{S:aq}{Q:bQ}(hz:PyData.strOk z=true)(hzs:∀y∈zs,PyData.strOk y=true)(q:Q (.bl (neg != decide (z∈zs))) S):jv neg (.str z) (.tup (zs.map PV.str)) S Q:=by
 unfold jv
 exact⟨_,_,.str z,je S zs,hz,eL hzs,by show 0<=150;decide,by rw[jf];exact q⟩
end L3
namespace C
open PySem L2 L3 Wd
abbrev kI(w:aC):Prop:=∀{S:aq} {t b:Int} {Q:bQ} {E:cU},0 < b->b.natAbs < 2 ^ 8000->Q (.tup [.int (M3.kw t b),.int (M3.k9 t b)]) S->w [.int t,.int b] S Q E
def CD:kI (zS 4 fD):=by
 intro S t b Q E hb hs k
 unfold zS fD
 rw[show aB 4 [PV.int t,PV.int b]=[some (.int t),some (.int b),none,none] from rfl]
 simp only[af]
 walk_at "x"
 refine⟨fun n σ S'=>S'=S/\∃x y:Int,σ=[some (.int t),some (.int b),some (.int x),some (.int y)]/\0<=x/\0<=y/\Int.gcd x y=Int.gcd t b/\y.toNat=n,⟨_,rfl,_,b,rfl,by split<;>omega,by omega,?_,rfl⟩,?_⟩
 ·split
  ·rw[show(0 - t) = -t by omega,Int.neg_gcd]
  ·rfl
 rintro n σ S' ⟨rfl,x,y,rfl,hx,hy,hg,rfl⟩
 walk_at "x"
 simp only[HS]
 split
 ·rename_i hp
  refine⟨fun σ' C0=>C0=S'/\∃x' y':Int,σ'=[some (.int t),some (.int b),some (.int x'),some (.int y')]/\0<=x'/\0<=y'/\Int.gcd x' y'=Int.gcd t b/\y'.toNat < y.toNat,?_,?_⟩
  ·rintro σ' C0 ⟨rfl,x',y',rfl,h1,h2,h3,h4⟩
   exact⟨_,h4,rfl,x',y',rfl,h1,h2,h3,rfl⟩
  ·walk_at "x"
   have e:x.fmod y=x % y:=gh hy
   have l1:=Int.emod_nonneg x (b:=y) (by omega)
   have l2:=Lg x hp
   refine⟨by omega,trivial,y,x.fmod y,rfl,hy,by omega,?_,by omega⟩
   rw[M3.pX];exact hg
 ·rename_i hp
  have EZ:y=0:=by omega
  subst EZ
  have Hd:x=(Int.gcd t b:Int):=by
   rw[<-hg]
   rw[Int.gcd_zero_right]
   omega
  subst Hd
  have gp:(0:Int) < (Int.gcd t b:Int):=K9.mpr (M3.fW (by omega))
  have gl:=M3.u_ (t:=t) (b:=b) (by omega)
  have cd:∀z,lg z (Int.gcd t b:Int):=fun z=>⟨by omega,Ky (by omega) hs⟩
  refine⟨cd _,cd _,?_⟩
  have d1:=(M3.pW (t:=t) (b:=b) (by omega))
  rw[if_neg (by omega)]at d1
  rw[d1.1,d1.2]
  exact k
structure xx (x y:Int):Prop where
 low:M3.zd x y
 x0:0<=x
 x1:x<=999
 y1:y<=9
def oC{n:Nat}(h:n < 2 ^ 64):n < 2 ^ 8000:=Lr h (Nat.pow_lt_pow_right (by decide) (by decide))
abbrev gi(w:aC):Prop:=∀{S:aq} {d l:Addr} {Q:bQ} {E:cU},zY S d l->(∀x y S',xx x y->zY S' d l->AR d l S S'->Q (.tup [.int x,.int y]) S')->w [.ref d] S Q E
def Bz{wd wl:aC}(zM:bA wd)(CD:kI wl):gi (zS 2 (eF wd wl)):=by
 intro S d l Q E D k
 unfold zS eF
 rw[show aB 2 [PV.ref d]=[some (.ref d),none] from rfl]
 walk_at "x"
 refine zM D (by decide) (by decide) fun r S1 r0 r1 D1 O1=>?_
 simp only[HQ,HS]
 split
 ·exact k 0 1 S1 ⟨⟨by decide,by decide⟩,by decide,by decide,by decide⟩ D1 O1
 ·split
  ·refine zM D1 (by decide) (by decide) fun r2 S2 a0 a1 D2 O2=>?_
   exact k _ 1 S2 ⟨⟨by decide,Int.gcd_one_right _⟩,by omega,by omega,by decide⟩ D2 (O1.trans O2)
  ·refine zM D1 (by decide) (by decide) fun r2 S2 a0 a1 D2 O2=>zM D2 (by decide) (by decide) fun r3 S3 b0 b1 D3 O3=>?_
   refine CD (by omega) (oC (by omega)) ?_
   have z:=M3.pY (t:=r2) (b:=1+r3) (T:=999) (B:=9) (by omega) (by omega) (by omega) (by omega) (by omega) (by decide) (by decide)
   refine k _ _ S3 ⟨M3.mX (by omega),?_,z.2.1,z.2.2.2⟩ D3 (O1.trans (O2.trans O3))
   unfold M3.kw
   rw[if_neg (by omega)]
   exact Int.ediv_nonneg a0 (by omega)
def oD{r:Int}(h0:0<=r)(h1:r < 26):∃c,Ar abc.cps.toList r=some c/\97<=c/\c<=122:=by
 obtain⟨n,rfl⟩:=Jv h0
 have q:=kr n
 rw[Nat.mod_eq_of_lt (by omega)]at q
 exact⟨_,q,by omega,by omega⟩
def jg{z:Str}(h:Cl z):PyData.strOk z=true:=by
 unfold PyData.strOk
 rw[Array.all_eq_true']
 intro c hc
 have:=h.sm c (by simpa using hc)
 simp;omega
def sR:∀z∈AF,PyData.strOk z=true:=by decide +kernel
theorem gT:∀zs:List Str,texts (zs.map PV.str)=some zs
 |[]=>rfl
 |z::r=>by show(texts (r.map PV.str)).map (z::·)=_;rw[gT r];rfl
def oE:("":Str).length=0:=by decide +kernel
def j4{cs:List Nat}(h:cs.length<=1000):((cs.map kq).map (·.length)).sum+(cs.map kq).length * ("":Str).length<=1000000:=by
 rw[si,oE]
 omega
def jh{w__law_draw:aC}(zM:bA w__law_draw){S:aq}{d l:Addr}{σ:bY}{n:Int}{fin:List PV->aq->Prop}(D:zY S d l)(hn:n.toNat<=100)(h1:lk σ 1=some (.ref d))(h2:lk σ 2=some (.str abc))(hσ:∃x,σ=[x,some (.ref d),some (.str abc)])
  (k:∀(cs:List Nat) S',cs.length=n.toNat->(∀c∈cs,97<=c/\c<=122)->zY S' d l->AR d l S S'->fin ((cs.map kq).map PV.str) S') :
  cx (Tg.n 0) bp (ah ag (v3 2) (ac w__law_draw [v3 1,c3 (.int 26)])) σ (fun _=>True) fin (bx 0 n.toNat) [] S:=by
 obtain⟨x0,rfl⟩:=hσ
 refine cP (fun done ys S'=>∃cs:List Nat,ys=(cs.map kq).map PV.str/\cs.length=done.length/\done.length<=n.toNat/\(∀c∈cs,97<=c/\c<=122)/\zY S' d l/\AR d l S S') ⟨[],rfl,rfl,Il _,by simp,D,.refl⟩ ?_ ?_ ?_
 ·rintro done ys S' ⟨cs,rfl,e,hd,_⟩
  exact⟨trivial,cA (by rw[HD,HD,e];omega)⟩
 ·rintro done x rest ys S' K e ⟨cs,rfl,e2,hd,hc,D',O'⟩ hK
  have hlen:done.length+1<=n.toNat:=by
   have:=IP List.length e
   rw[dE,HC,HW]at this
   omega
  walk_at "x"
  simp only[bp,II]
  refine zM D' (by decide) (by decide) fun r S2 r0 r1 D2 O2=>⟨iC.1,?_⟩
  obtain⟨c,ec,c0,c1⟩:=oD r0 r1
  rw[ec]
  refine hK _ _ ⟨cs++[c],by simp,by simp[e2],by simpa using hlen,fun y hy=>?_,D2,O'.trans O2⟩
  rcases HN.mp hy with hy|hy
  ·exact hc y hy
  ·rw[HM.mp hy];exact⟨c0,c1⟩
 ·rintro ys S' ⟨cs,rfl,e,hd,hc,D',O'⟩
  exact k cs S' (by rw[e,dE]) hc D' O'
theorem lz{f:Str->List Nat}(r:List Nat):∀xs:List Str,(xs.map f).Nodup->(xs.filter fun z=>f z == r).length<=1
 |[],_=>Il _
 |x::xs,h=>by
  rw[Ig,IU]at h
  rw[Lp]
  by_cases e:(f x == r)=true
  ·rw[if_pos e]
   have no:(xs.filter fun z=>f z == r)=[]:=by
    refine List.filter_eq_nil_iff.mpr fun z hz q=>h.1 ?_
    rw[eq_of_beq e,<-eq_of_beq q]
    exact Im.mpr ⟨z,hz,rfl⟩
   rw[no]
   exact HF _
  ·rw[if_neg e]
   exact lz r xs h.2
def qG(r:List Nat):(AF.filter fun z=>z.cps.toList.tail == r).length<=1:=lz (f:=fun z=>z.cps.toList.tail) r AF (by decide +kernel)
def mz(r:List Nat)(c:Nat)(ns:Vs)(h:ns.length < 17):∃j,j < 26/\cand r (c+j) ∉ AF++ns:=by
 obtain⟨j,hj,free⟩:=oa r c ((AF.filter fun z=>z.cps.toList.tail == r)++ns) (by rw[HC];have:=qG r;omega)
 refine⟨j,hj,fun hm=>free ?_⟩
 rcases HN.mp hm with q|q
 ·exact JH _ (K4.mpr ⟨q,by simp[cand]⟩)
 ·exact Io _ q
abbrev eX(w:aC):Prop:=∀{S:aq} {d l:Addr} {m:Int} {Q:bQ} {E:cU},zY S d l->0<=m->m<=17->(∀p (ns:Vs) S',ns.length=m.toNat->ns.Nodup->(∀z∈ns,Cl z/\z ∉ AF)->S p=none->p≠d->p≠l->S' p=some (.lst (ns.map PV.str))->zY S' d l->AR d l S S'->Q (.ref p) S')->w [.ref d,.int m] S Q E
def Bg{wd:aC}(zM:bA wd):eX (zS 11 (dJ wd)):=by
 intro S d l m Q E D h0 h1 k
 unfold dJ
 refine fP ?_
 rw[show aB 11 [PV.ref d,PV.int m]=[some (.ref d),some (.int m),none,none,none,none,none,none,none,none,none] from rfl]
 refine al fun N hN=>?_
 walk_at "x"
 refine hN _ _ (al fun N hN=>?_)
 walk_at "x"
 intro pT hT
 have dT:=D.free hT
 have D0:zY (zL S pT (.lst (AF.map PV.str))) d l:=D.new hT
 have Gq:(zL S pT (.lst (AF.map PV.str))) pT=some (.lst (AF.map PV.str)):=aa
 have O0:AR d l S (zL S pT (.lst (AF.map PV.str))):=.new hT
 have eK:[PV.str "jars",PV.str "deed",PV.str "rest",PV.str "pay",PV.str "put",PV.str "then",PV.str "either",PV.str "take",PV.str "often",PV.str "use"]=AF.map PV.str:=rfl
 rw[eK]
 generalize zL S pT (.lst (AF.map PV.str))=S0 at D0 Gq O0 ⊢
 refine hN _ _ (al fun N hN=>?_)
 walk_at "x"
 refine⟨trivial,zM D0 (by decide) (by decide) fun n S1 n0 n1 D1 O1=>⟨by omega,by omega,?_⟩⟩
 refine jh zM D1 (by omega) rfl rfl ⟨_,rfl⟩ fun cs S2 hl hc D2 O2 pj hj=>?_
 simp only[jV,aa,gT]
 refine⟨j4 (by omega),?_⟩
 rw[show Txt.join (Str.ofString "") (cs.map kq)=⟨cs.toArray⟩from iR cs]
 refine hN _ _ (al fun N hN=>?_)
 walk_at "x"
 have hcl:cs.length<=5:=by omega
 have lc:(⟨cs.toArray⟩:Str).length=cs.length:=HH
 refine⟨by rw[lc];exact cA (by omega),zM (D2.new hj) (by rw[lc];omega) (by rw[lc];omega) fun at' S3 a0 a1 D3 O3=>zM D3 (by decide) (by decide) fun tu S4 t0 t1 D4 O4=>zM D4 (by decide) (by decide) fun nr S5 r0 r1 D5 O5=>?_⟩
 rw[lc]at a1
 obtain⟨an,rfl⟩:=Jv a0
 obtain⟨tn,rfl⟩:=Jv t0
 refine hN _ _ (al fun N hN=>?_)
 walk_at "x"
 intro q hq
 have dq:=D5.free hq
 have OA:AR d l S0 S5:=O1.trans (O2.trans ((AR.new hj).trans (O3.trans (O4.trans O5))))
 have FL:=OA _ _ Gq dT.1 dT.2
 have Gr:pT≠q:=fun e=>by rw[e,hq]at FL;cases FL
 have Gs:S q=none:=by
  cases e:S q with
  |none=>rfl
  |some o=>rw[OA _ _ (O0 _ _ e dq.1 dq.2) dq.1 dq.2]at hq;cases hq
 refine hN _ _ (al fun N hN=>?_)
 simp only[cm,kD,v3,lk]
 refine⟨by omega,by omega,?_⟩
 refine bU (fun done σ S'=>∃(ns:Vs) (v4 v10:Option PV) (near:Bool),σ=[some (.ref d),some (.int m),some (.str abc),some (.ref pT),v4,some (.str ⟨cs.toArray⟩),some (.int an),some (.int tn),some (.bl near),some (.ref q),v10]/\ns.length=done.length/\ns.Nodup/\(∀z∈ns,Cl z/\z ∉ AF)/\S' q=some (.lst (ns.map PV.str))/\S' pT=some (.lst (AF.map PV.str))/\zY S' d l/\AR d l S S')
  ⟨[],_,_,_,rfl,rfl,Lf,(fun z hz=>nomatch hz),aa,by rw[aj Gr];exact FL,D5.new hq,O0.trans (OA.trans (.new hq))⟩ (fun _ _ _ _=>trivial) ?_ ?_
 ·rintro done x rest σ S6 K e ⟨ns,v4,v10,near,rfl,FM,FN,w6,E4,FO,D6,O6⟩ hK
  have hlen:done.length < m.toNat:=by
   have:=IP List.length e
   rw[dE,HC,HW]at this
   omega
  have hx:x = .int (0+(done.length:Nat)):=by
   have h2:=IP (fun l=>l[done.length]?) e
   simp only[IE (HF _),Nat.sub_self,List.getElem?_cons_zero]at h2
   unfold bx at h2
   rw[HR,Kn hlen]at h2
   simpa using h2.symm
  subst hx
  -- the tail: a word is changed He it is new,then laid down
  have ql:∀(z:Str) (v4:Option PV) (S7:aq),Cl z->S7 q=some (.lst (ns.map PV.str))->S7 pT=some (.lst (AF.map PV.str))->zY S7 d l->AR d l S S7->
    af (gR (iT (aS (ah (jv false) (v3 10) (v3 3))) (aS (ah (jv false) (v3 10) (v3 9)))) (au 10 (ah aP (ah ag (v3 2) (ah fg (ah aP (d_ "str" gM (v3 2) [(ah ag (v3 10) (c3 (.int 0)))]) (c3 (.int 1))) (c3 (.int 26)))) (bj (v3 10) (jU (c3 (.int 1))) kU))))
     (aU (d_ "list" bm (v3 9) [(v3 10)])) { nx:=K,rt:=Q,ex:=dC,bk:=N,ct:=K } [some (.ref d),some (.int m),some (.str abc),some (.ref pT),v4,some (.str ⟨cs.toArray⟩),some (.int an),some (.int tn),some (.bl near),some (.ref q),some (.str z)] S7:=by
   intro z v4 S7 hz Gu Gv D7 O7
   obtain⟨i,r,rfl,hi,Hf,hrs⟩:=hz.cand
   obtain⟨j,hj,free⟩:=mz r i ns (by omega)
   refine⟨fun mm σ S'=>∃t,σ=[some (.ref d),some (.int m),some (.str abc),some (.ref pT),v4,some (.str ⟨cs.toArray⟩),some (.int an),some (.int tn),some (.bl near),some (.ref q),some (.str (cand r (i+t)))]/\S'=S7/\t<=j/\mm=j - t,⟨j,0,rfl,rfl,Il _,rfl⟩,?_⟩
   rintro mm σ S' ⟨t,rfl,rfl,ht,rfl⟩
   have hw:=pU Hf hrs (i+t)
   have FP:∀y∈ns,PyData.strOk y=true:=fun y hy=>jg (w6 y hy).1
   have go:t < j->∃N:bY->aq->Prop,(∀σ' C0,N σ' C0->∃m',m' < j - t/\∃t',σ'=[some (.ref d),some (.int m),some (.str abc),some (.ref pT),v4,some (.str ⟨cs.toArray⟩),some (.int an),some (.int tn),some (.bl near),some (.ref q),some (.str (cand r (i+t')))]/\C0=S'/\t'<=j/\m'=j - t')/\
     N ([some (.ref d),some (.int m),some (.str abc),some (.ref pT),v4,some (.str ⟨cs.toArray⟩),some (.int an),some (.int tn),some (.bl near),some (.ref q),some (.str (cand r (i+(t+1))))]) S':=fun lt=>
    ⟨fun σ' C0=>σ'=[some (.ref d),some (.int m),some (.str abc),some (.ref pT),v4,some (.str ⟨cs.toArray⟩),some (.int an),some (.int tn),some (.bl near),some (.ref q),some (.str (cand r (i+(t+1))))]/\C0=S',fun σ' C0 ⟨e1,e2⟩=>⟨j - (t+1),by omega,t+1,e1,e2,by omega,rfl⟩,rfl,rfl⟩
   have E5:((((i+t) % 26:Nat):Int)+1).fmod 26=(((i+t+1) % 26:Nat):Int):=by rw[gh (by decide)];omega
   walk_at "x"
   refine dQ Gv (jg hw) sR ?_
   simp only[HQ,HS]
   split
   ·rename_i g
    have lt:t < j:=Nat.lt_of_le_of_ne ht fun e=>by subst e;exact free (JH _ g)
    obtain⟨N,hN,hn⟩:=go lt
    rw[if_pos trivial]
    refine⟨N,hN,trivial,hw.line,?_⟩
    rw[jR]
    simp only[gM,pR _ (Nat.mod_lt _ (by decide))]
    refine⟨by decide,iC.1,?_⟩
    rw[E5,kr (i+t+1)]
    refine⟨hw.line,?_,?_⟩
    ·rw[eW]
     exact cA (show 1+r.toArray.size<=1000 by rw[HH];omega)
    ·rw[eW,jS]
     exact hn
   ·rename_i g
    refine dQ Gu (jg hw) FP ?_
    simp only[HQ,HS]
    split
    ·rename_i g2
     have lt:t < j:=Nat.lt_of_le_of_ne ht fun e=>by subst e;exact free (Io _ g2)
     obtain⟨N,hN,hn⟩:=go lt
     refine⟨N,hN,trivial,hw.line,?_⟩
     rw[jR]
     simp only[gM,pR _ (Nat.mod_lt _ (by decide))]
     refine⟨by decide,iC.1,?_⟩
     rw[E5,kr (i+t+1)]
     refine⟨hw.line,?_,?_⟩
     ·rw[eW]
      exact cA (show 1+r.toArray.size<=1000 by rw[HH];omega)
     ·rw[eW,jS]
      exact hn
    ·rename_i g2
     simp only[Gu]
     refine⟨trivial,by rw[HD];exact dv (by omega),hK _ _ ⟨ns++[cand r (i+t)],_,_,_,rfl,by simp[FM],List.nodup_append.mpr ⟨FN,by simp,fun a ha b hb e=>?_⟩,fun z hz=>?_,by rw[IA];exact aa,by rw[aj Gr];exact Gv,D7.upd dq.1 dq.2,fun a o ha h1 h2=>?_⟩⟩
     ·rw[HM.mp hb]at e
      exact g2 (e▸ha)
     ·rcases HN.mp hz with hz|hz
      ·exact w6 z hz
      ·rw[HM.mp hz]
       exact⟨hw,g⟩
     ·rw[aj (fun e=>by rw[e,Gs]at ha;cases ha)]
      exact O7 a o ha h1 h2
  obtain⟨pw,Hg,pl2⟩:=sj hcl hc (a:=an) (i:=(tn+done.length) % 26) (by omega) (Nat.mod_lt _ (by decide))
  have E5:((tn:Int)+(0+(done.length:Int))).fmod 26=(((tn+done.length) % 26:Nat):Int):=by rw[gh (by decide)];omega
  have Gw:(⟨cs.toArray⟩:Str).length<=sizeLine:=by rw[lc];exact cA (by omega)
  simp only[Tg.put]
  refine al fun N2 A0=>?_
  walk_at "x"
  refine⟨Gw,by decide,iC.1,?_⟩
  rw[E5,kr (tn+done.length)]
  refine⟨HX (Nat.add_le_add Hg (HF 1)) (by decide),Gw,HX (Nat.le_of_eq (Array.size_append).symm) (HX pw.len (by decide)),?_⟩
  refine A0 _ _ (al fun N3 Dd=>?_)
  walk_at "x"
  split
  ·refine⟨trivial,zM D6 (by decide) (by decide) fun n2 Sa m0 m1 Da Oa=>⟨by omega,by omega,?_⟩⟩
   refine jh zM Da (by omega) rfl rfl ⟨_,rfl⟩ fun Ec Sb hl2 hc2 Db Ob Hh hj2=>?_
   simp only[jV,aa,gT]
   refine⟨j4 (by omega),?_⟩
   rw[show Txt.join (Str.ofString "") (Ec.map kq)=⟨Ec.toArray⟩from iR Ec]
   refine Dd _ _ ?_
   have wz:Cl (⟨Ec.toArray⟩:Str):=⟨fun e=>by have e':Ec=[]:=e;rw[e']at hl2;simp at hl2;omega,by show Ec.length<=6;omega,hc2⟩
   have OB:AR d l S6 (zL Sb Hh (.lst ((Ec.map kq).map PV.str))):=Oa.trans (Ob.trans (.new hj2))
   exact ql _ _ _ wz (OB _ _ E4 dq.1 dq.2) (OB _ _ FO dT.1 dT.2) (Db.new hj2) (O6.trans OB)
  ·exact Dd _ _ (ql _ _ S6 pw E4 FO D6 O6)
 ·rintro σ S6 ⟨ns,v4,v10,near,rfl,FM,FN,w6,E4,FO,D6,O6⟩
  refine hN _ _ ?_
  walk_at "x"
  exact k q ns S6 (by rw[FM,dE]) FN w6 Gs dq.1 dq.2 E4 D6 O6
inductive Bd where
 |rest|pay (x y:Int)|put (z:Str) (m:Int)|use (z:Str)|AN (a:Bd)|zP (a b:Bd)|AD (a b:Bd)|Au (z:Str) (m:Int) (a b:Bd)
noncomputable def Bd.pv:Bd->PV
 | .rest=>.tup [.str "rest"]
 | .pay x y=>.tup [.str "pay",.tup [.int x,.int y]]
 | .put z m=>.tup [.str "put",.str z,.int m]
 | .use z=>.tup [.str "use",.str z]
 | .AN a=>.tup [.str "often",a.pv]
 | .zP a b=>.tup [.str "then",a.pv,b.pv]
 | .AD a b=>.tup [.str "either",a.pv,b.pv]
 | .Au z m a b=>.tup [.str "take",.str z,.int m,a.pv,b.pv]
noncomputable def Bd.dep:Bd->Nat
 | .AN a=>a.dep+1
 | .zP a b=>max a.dep b.dep+1
 | .AD a b=>max a.dep b.dep+1
 | .Au _ _ a b=>max a.dep b.dep+1
 |_=>1
noncomputable def Bd.size:Bd->Nat
 | .AN a=>a.size+1
 | .zP a b=>a.size+b.size+1
 | .AD a b=>a.size+b.size+1
 | .Au _ _ a b=>a.size+b.size+1
 |_=>1
noncomputable def Bd.good(js us:Vs):Bd->Prop
 | .rest=>True
 | .pay x y=>xx x y
 | .put z m=>z∈js/\1<=m/\m<=9
 | .use z=>z∈us
 | .AN a=>a.good js us
 | .zP a b=>a.good js us/\b.good js us
 | .AD a b=>a.good js us/\b.good js us
 | .Au z m a b=>z∈js/\1<=m/\m<=9/\a.good js us/\b.good js us
def Bd.Am(t:Bd):1<=t.dep:=by cases t<;>simp[Bd.dep]
def eY{α:Type}{xs:List α}{r:Int}(h0:0<=r)(h1:r < xs.length):∃v,Ar xs r=some v/\v∈xs:=by
 obtain⟨n,rfl⟩:=Jv h0
 have hn:n < xs.length:=by omega
 exact⟨xs[n],cz (by simp[hn]),Kg hn⟩
noncomputable def Bd.leaf:Bd->Prop
 | .rest=>True
 | .pay _ _=>True
 | .put _ _=>True
 |_=>False
def Bd.Ad{t:Bd}(h:t.leaf):t.dep=1/\t.size=1:=by cases t<;>first|exact⟨rfl,rfl⟩|exact h.elim
abbrev gj(w:aC):Prop:=∀{S:aq} {d l:Addr} {js:Vs} {Q:bQ} {E:cU},zY S d l->js.length < 2 ^ 61->(∀(t:Bd) S',t.leaf->t.good js []->zY S' d l->AR d l S S'->Q t.pv S')->w [.ref d,.tup (js.map PV.str)] S Q E
def Av{wd wc:aC}(zM:bA wd)(Bz:gi wc):gj (zS 4 (cn wd wc)):=by
 intro S d l js Q E D hj k
 unfold cn
 refine fP ?_
 rw[show aB 4 [PV.ref d,PV.tup (js.map PV.str)]=[some (.ref d),some (.tup (js.map PV.str)),none,none] from rfl]
 refine al fun N hN=>?_
 walk_at "x"
 refine zM D (by decide) (by decide) fun r S1 r0 r1 D1 O1=>?_
 refine hN _ _ (al fun N hN=>?_)
 walk_at "x"
 simp only[HQ,HS]
 split
 ·exact k .rest S1 trivial trivial D1 O1
 refine hN _ _ (al fun N hN=>?_)
 walk_at "x"
 simp only[HQ,HS,HD]
 have pay:wc [.ref d] S1 (fun x S=>Q (.tup [.str "pay",x]) S) dC:=Bz D1 fun x y S2 c D2 O2=>k (.pay x y) S2 trivial c D2 (O1.trans O2)
 split
 ·rw[if_pos trivial];exact pay
 split
 ·exact pay
 rename_i hr hz
 refine hN _ _ (al fun N hN=>?_)
 walk_at "x"
 refine zM D1 (by decide) (by decide) fun r2 S2 a0 a1 D2 O2 p hp=>zM (D2.new hp) (by decide) (by decide) fun r3 S3 b0 b1 D3 O3=>?_
 have dp:=D2.free hp
 have hp3:=O3 _ _ (aa (S:=S2) (o:=.lst [.int 1,.int 2,.int (1+r2)])) dp.1 dp.2
 simp only[hp3]
 obtain⟨v,hv,hm⟩:=eY (xs:=[PV.int 1,.int 2,.int (1+r2)]) b0 (by simpa using b1)
 rw[hv]
 obtain⟨m,rfl,m0,m1⟩:∃m,v = .int m/\1<=m/\m<=9:=by
  simp only[HL,Ic,IY]at hm
  rcases hm with rfl|rfl|rfl
  ·exact⟨1,rfl,by omega,by omega⟩
  ·exact⟨2,rfl,by omega,by omega⟩
  ·exact⟨1+r2,rfl,by omega,by omega⟩
 refine hN _ _ ?_
 walk_at "x"
 simp only[HD]
 refine zM D3 (by omega) (by omega) fun r4 S4 c0 c1 D4 O4=>?_
 obtain⟨w,hw,FQ⟩:=eY (xs:=js.map PV.str) c0 (by rw[HD];exact c1)
 dsimp only
 rw[hw]
 obtain⟨z,hz,rfl⟩:=Im.mp FQ
 exact k (.put z m) S4 trivial ⟨hz,m0,m1⟩ D4 (O1.trans (O2.trans ((AR.new hp).trans (O3.trans O4))))
def BX(d l x:Addr)(S S':aq):Prop:=∀a o,S a=some o->a≠d->a≠l->a≠x->S' a=some o
theorem _root_.L3.AR.x{d l x:Addr}{S S':aq}(h:AR d l S S'):BX d l x S S':=fun a o e h1 h2 _=>h a o e h1 h2
def BX.trans{d l x:Addr}{S S1 S2:aq}(a:BX d l x S S1)(b:BX d l x S1 S2):BX d l x S S2:=fun y o h h1 h2 h3=>b y o (a y o h h1 h2 h3) h1 h2 h3
def BX.upd{d l x:Addr}{S:aq}{o:SO}:BX d l x S (zL S x o):=fun y u h h1 h2 h3=>by rw[aj h3];exact h
abbrev gk(n:Nat)(w:aC):Prop:=∀{S:aq} {d l x:Addr} {js:Vs} {left down:Int} {Q:bQ} {E:cU},zY S d l->S x=some (.lst [.int left])->x≠d->x≠l->js.length < 2 ^ 61->0<=left->left < 2 ^ 61->0<=down->down < n->
  (∀(t:Bd) S' left',t.good js []->(t.dep:Int)<=down+1->0<=left'->(t.size:Int)+left'<=left+1->zY S' d l->S' x=some (.lst [.int left'])->BX d l x S S'->Q t.pv S')->w [.ref d,.tup (js.map PV.str),.ref x,.int down] S Q E
def Ca{wd wl rb:aC}(zM:bA wd)(Av:gj wl)(n:Nat)(ih:gk n rb):gk (n+1) (zS 8 (eG wd wl rb)):=by
 intro S d l x js left down Q E D hx hxd Dt hj h0 h1 h2 h3 k
 unfold eG
 refine fP ?_
 rw[show aB 8 [PV.ref d,PV.tup (js.map PV.str),PV.ref x,PV.int down]=[some (.ref d),some (.tup (js.map PV.str)),some (.ref x),some (.int down),none,none,none,none] from rfl]
 refine al fun N hN=>?_
 walk_at "x"
 refine zM D (by decide) (by decide) fun r S1 r0 r1 D1 O1=>?_
 have ED:=O1 _ _ hx hxd Dt
 refine hN _ _ (al fun N hN=>?_)
 walk_at "x"
 have a0:Ar [PV.int left] 0=some (.int left):=rfl
 simp only[HQ,HS,ED,a0]
 have lf:wl [.ref d,.tup (js.map PV.str)] S1 Q dC:=Av D1 hj fun t S2 hl hg D2 O2=>k t S2 left hg (by rw[(Bd.Ad hl).1];omega) h0 (by rw[(Bd.Ad hl).2];omega) D2 (O2 _ _ ED hxd Dt) (O1.x.trans O2.x)
 split
 ·rw[if_pos trivial];exact lf
 split
 ·rw[if_pos trivial];exact lf
 split
 ·exact lf
 rename_i hd hl hf
 refine hN _ _ (al fun N hN=>?_)
 simp only[bh,aS,ah,v3,c3,lk,oQ,dH,HS]
 have Gx:nM [PV.int left].length 0=some 0:=rfl
 split
 ·refine al fun N2 A0=>?_
  walk_at "x"
  simp only[ED,a0,Gx]
  refine A0 _ _ ?_
  walk_at "x"
  refine ih (left:=left - 1) (D1.upd hxd Dt) aa hxd Dt hj (by omega) (by omega) (by omega) (by omega) fun t S2 l2 hg Gy q0 q1 D2 FR O2=>?_
  exact k (.AN t) S2 l2 hg (by simp only[Bd.dep];omega) q0 (by simp only[Bd.size];omega) D2 FR (O1.x.trans (BX.upd.trans O2))
 ·refine hN _ _ (al fun N hN=>?_)
  walk_at "x"
  simp only[ED,a0,Gx]
  refine hN _ _ (al fun N hN=>?_)
  walk_at "x"
  refine ih (left:=left - 2) (D1.upd hxd Dt) aa hxd Dt hj (by omega) (by omega) (by omega) (by omega) fun ta S2 l2 ga da q0 q1 D2 FR O2=>?_
  refine hN _ _ (al fun N hN=>?_)
  walk_at "x"
  refine ih (left:=l2) D2 FR hxd Dt hj q0 (by omega) (by omega) (by omega) fun tb S3 l3 gb db p0 p1 D3 FS O3=>?_
  have OA:BX d l x S S3:=O1.x.trans (BX.upd.trans (O2.trans O3))
  refine hN _ _ (al fun N hN=>?_)
  walk_at "x"
  simp only[HS]
  split
  ·exact k (.zP ta tb) S3 l3 ⟨ga,gb⟩ (by simp only[Bd.dep];omega) p0 (by simp only[Bd.size];omega) D3 FS OA
  refine hN _ _ (al fun N hN=>?_)
  walk_at "x"
  simp only[HQ,HS,HD]
  have ei:Q (Bd.AD ta tb).pv S3:=k (.AD ta tb) S3 l3 ⟨ga,gb⟩ (by simp only[Bd.dep];omega) p0 (by simp only[Bd.size];omega) D3 FS OA
  split
  ·rw[if_pos trivial];exact ei
  split
  ·exact ei
  rename_i hz8 hz
  refine hN _ _ (al fun N hN=>?_)
  walk_at "x"
  refine zM D3 (by decide) (by decide) fun r2 S4 e0 e1 D4 O4 p hp=>zM (D4.new hp) (by decide) (by decide) fun r3 S5 b0 b1 D5 O5=>?_
  have dp:=D4.free hp
  have hp3:=O5 _ _ (aa (S:=S4) (o:=.lst [.int 1,.int 1,.int 2,.int (1+r2)])) dp.1 dp.2
  simp only[hp3]
  obtain⟨v,hv,hm⟩:=eY (xs:=[PV.int 1,.int 1,.int 2,.int (1+r2)]) b0 (by simpa using b1)
  rw[hv]
  obtain⟨m,rfl,m0,m1⟩:∃m,v = .int m/\1<=m/\m<=9:=by
   simp only[HL,Ic,IY]at hm
   rcases hm with rfl|rfl|rfl|rfl
   ·exact⟨1,rfl,by omega,by omega⟩
   ·exact⟨1,rfl,by omega,by omega⟩
   ·exact⟨2,rfl,by omega,by omega⟩
   ·exact⟨1+r2,rfl,by omega,by omega⟩
  refine hN _ _ ?_
  walk_at "x"
  simp only[HD]
  refine zM D5 (by omega) (by omega) fun r4 S6 c0 c1 D6 O6=>?_
  obtain⟨w,hw,FQ⟩:=eY (xs:=js.map PV.str) c0 (by rw[HD];exact c1)
  dsimp only
  rw[hw]
  obtain⟨z,hz,rfl⟩:=Im.mp FQ
  have FT:=O4 _ _ FS hxd Dt
  have Hi:x≠p:=fun e=>by rw[e,hp]at FT;cases FT
  have Hj:=O6 _ _ (O5 _ _ (show zL S4 p _ x=some (.lst [.int l3]) by rw[aj Hi];exact FT) hxd Dt) hxd Dt
  exact k (.Au z m ta tb) S6 l3 ⟨hz,m0,m1,ga,gb⟩ (by simp only[Bd.dep];omega) p0 (by simp only[Bd.size];omega) D6 Hj (OA.trans (O4.x.trans ((AR.new hp).x.trans (O5.x.trans O6.x))))
end C
local macro_rules | `(tactic| walk_at "w")=>`(tactic| simp only [L3.af,L3.au,L3.az,L3.aU,L3.bh,L3.aM,L3.ah,L3.v3,L3.c3,L3.lk,L3.ao,L3.ap,L3.ac,L3.d_,L3.aS,L3.jB,L3.iT,L3.md,L3.cK,L3.jT,L3.oh,L3.kB,L3.om,L3.i5,L3.ay,L3.bu,L3.d9,L3.bq,L3.ag,L3.gL,L3.bj,L3.kU,L3.jU,L3.kA,L3.dH,L3.fo,L3.b4,L3.fg,L3.ie,L3.qw,L3.oQ,L3.mr,L3.xg,L3.bg,L3.tS,L3.aP,L3.iz,L3.bZ,L3.iX,L3.bJ,L3.lh,List.set_cons_zero,List.set_cons_succ,List.set_nil,L3.mn,L3.gP,L3.li,L3.aH,L3.aG,L3.bI,L3.cm,L3.dI,L3.Tg.put,L3.Tg.zN,L3.qm,L3.i7,L3.fB,L3.lp,L3.kD,L3.cL,L3.bm,L3.bf,List.reduceReplicate,Ig,Je,List.cons_append,List.nil_append,L3.ft,L3.jd,L3.vZ,L3.zE,L3.vE,L3.vF,L3.vG,L3.vH,L3.vI,L3.vJ,L3.vK,L3.vL,L3.vM,L3.aF,String.reduceEq,IJ,JM,HQ,Jq,Kr,JD,II,Iu,HU,reduceIte,ite_true,ite_false])
local macro_rules | `(tactic| walk_at "y")=>`(tactic| ((try walk_at "x"); (try walk_at "w")))
namespace C
open PySem L2 L3 Wd
noncomputable def Bd.zK:Bd->Nat
 | .zP a b=>a.zK * b.zK
 | .AD a b=>a.zK+b.zK
 | .Au _ _ a b=>a.zK+b.zK
 |_=>1
noncomputable def Bd.zO:Bd->Nat
 | .AN a=>a.zK+a.zO
 | .zP a b=>a.zO+b.zO
 | .AD a b=>a.zO+b.zO
 | .Au _ _ a b=>a.zO+b.zO
 |_=>0
theorem Bd.As:∀t:Bd,t.zK<=2 ^ t.size
 | .rest=>by simp[Bd.zK,Bd.size]
 | .pay _ _=>by simp[Bd.zK,Bd.size]
 | .put _ _=>by simp[Bd.zK,Bd.size]
 | .use _=>by simp[Bd.zK,Bd.size]
 | .AN a=>by simp only[Bd.zK,Bd.size];exact Nat.one_le_two_pow
 | .zP a b=>by
  simp only[Bd.zK,Bd.size]
  refine HX (Lh a.As b.As) ?_
  rw[<-Nat.pow_add]
  exact Jt (by decide) (by omega)
 | .AD a b=>by
  simp only[Bd.zK,Bd.size]
  have h1:2 ^ a.size<=2 ^ (a.size+b.size):=Jt (by decide) (by omega)
  have h2:2 ^ b.size<=2 ^ (a.size+b.size):=Jt (by decide) (by omega)
  have:=a.As
  have:=b.As
  rw[Nat.pow_succ]
  omega
 | .Au _ _ a b=>by
  simp only[Bd.zK,Bd.size]
  have h1:2 ^ a.size<=2 ^ (a.size+b.size):=Jt (by decide) (by omega)
  have h2:2 ^ b.size<=2 ^ (a.size+b.size):=Jt (by decide) (by omega)
  have:=a.As
  have:=b.As
  rw[Nat.pow_succ]
  omega
def Bd.C1{t:Bd}(h:t.size<=60):(t.zK:Int) < 2 ^ 64:=by
 have h1:=t.As
 have h2:2 ^ t.size<=2 ^ 60:=Jt (by decide) h
 omega
abbrev b7(n:Nat)(w:aC):Prop:=∀{S:aq} {t:Bd} {Q:bQ} {E:cU},t.dep<=n->t.size<=60->Q (.int t.zK) S->w [t.pv] S Q E
def oF{s0:aC}(n:Nat)(ih:b7 n s0):b7 (n+1) (zS 1 (bT s0)):=by
 intro S t Q E hd hs k
 unfold bT
 refine fP ?_
 rw[show aB 1 [t.pv]=[some t.pv] from rfl]
 cases t with
 |zP a b=>
  simp only[Bd.dep,Bd.size]at hd hs
  simp only[Bd.pv]
  walk_at "w"
  refine ih (by omega) (by omega) (ih (by omega) (by omega) ⟨vB (by omega) (Bd.C1 (by omega)),?_⟩)
  simpa [Bd.zK]using k
 |AD a b=>
  simp only[Bd.dep,Bd.size]at hd hs
  simp only[Bd.pv]
  walk_at "w"
  refine ih (by omega) (by omega) (ih (by omega) (by omega) ?_)
  simpa [Bd.zK]using k
 |Au z m a b=>
  simp only[Bd.dep,Bd.size]at hd hs
  simp only[Bd.pv]
  walk_at "w"
  refine ih (by omega) (by omega) (ih (by omega) (by omega) ?_)
  simpa [Bd.zK]using k
 |_=>
  simp only[Bd.pv]
  walk_at "w"
  exact k
abbrev dR(n:Nat)(w:aC):Prop:=∀{S:aq} {t:Bd} {Q:bQ} {E:cU},t.dep<=n->t.size<=60->Q (.int t.zO) S->w [t.pv] S Q E
def eM:∀y∈(["then","either","take"]:Vs),PyData.strOk y=true:=by decide +kernel
def gm:∀y∈(["rest","pay","put","use","often","then","either","take"]:Vs),PyData.strOk y=true:=by decide +kernel
def oG{x0 s0:aC}(n m:Nat)(hp:b7 m x0)(ih:dR n s0)(hnm:n<=m):dR (n+1) (zS 1 (bL x0 s0)):=by
 intro S t Q E hd hs k
 unfold bL
 refine fP ?_
 rw[show aB 1 [t.pv]=[some t.pv] from rfl]
 have e3:[PV.str "then",PV.str "either",PV.str "take"]=(["then","either","take"]:Vs).map PV.str:=rfl
 cases t with
 |AN a=>
  simp only[Bd.dep,Bd.size]at hd hs
  simp only[Bd.pv]
  walk_at "y"
  refine hp (by omega) (by omega) (ih (by omega) (by omega) ?_)
  simpa [Bd.zO]using k
 |zP a b=>
  simp only[Bd.dep,Bd.size]at hd hs
  simp only[Bd.pv]
  walk_at "y"
  rw[e3]
  refine bV (gm _ (by simp)) eM ?_
  simp[aF]
  refine ih (by omega) (by omega) (ih (by omega) (by omega) ?_)
  simpa [Bd.zO]using k
 |AD a b=>
  simp only[Bd.dep,Bd.size]at hd hs
  simp only[Bd.pv]
  walk_at "y"
  rw[e3]
  refine bV (gm _ (by simp)) eM ?_
  simp[aF]
  refine ih (by omega) (by omega) (ih (by omega) (by omega) ?_)
  simpa [Bd.zO]using k
 |Au z m a b=>
  simp only[Bd.dep,Bd.size]at hd hs
  simp only[Bd.pv]
  walk_at "y"
  rw[e3]
  refine bV (gm _ (by simp)) eM ?_
  simp[aF]
  refine ih (by omega) (by omega) (ih (by omega) (by omega) ?_)
  simpa [Bd.zO]using k
 |_=>
  simp only[Bd.pv]
  walk_at "y"
  rw[e3]
  refine bV (gm _ (by simp)) eM ?_
  simp[aF]
  simpa [Bd.zO]using k
abbrev dS(w:aC):Prop:=∀{S:aq} {d l:Addr} {js:Vs} {size bound:Int} {Q:bQ} {E:cU},zY S d l->js.length < 2 ^ 61->1<=size->size<=60->
  (∀(t:Bd) S',t.good js []->t.dep<=6->t.size<=60->(t.size:Int)<=max size 4->((t.zK:Int)+t.zO<=bound\/(t.zK:Int)+t.zO<=2)->zY S' d l->AR d l S S'->Q t.pv S')->w [.ref d,.tup (js.map PV.str),.int size,.int bound] S Q E
def kJ{x0 x1 x2 x3:aC}(n:Nat)(hn:6<=n)(Ca:gk n x0)(EE:b7 n x1)(EF:dR n x2)(Av:gj x3):dS (zS 5 (b6 x0 x1 x2 x3)):=by
 intro S d l js size bound Q E D hj h1 h2 k
 unfold b6
 refine fP ?_
 rw[show aB 5 [PV.ref d,PV.tup (js.map PV.str),PV.int size,PV.int bound]=[some (.ref d),some (.tup (js.map PV.str)),some (.int size),some (.int bound),none] from rfl]
 refine al fun N hN=>?_
 walk_at "x"
 intro p hp
 have dp:=D.free hp
 refine Ca (D.new hp) aa dp.1 dp.2 hj (by omega) (by omega) (by decide) (by omega) fun t S1 l1 hg hd q0 q1 D1 ED O1=>?_
 have Gz:AR d l S S1:=fun a o ha h1 h2=>O1 a o (by rw[aj (fun e=>by rw[e,hp]at ha;cases ha)];exact ha) h1 h2 (fun e=>by rw[e,hp]at ha;cases ha)
 refine hN _ _ (al fun N hN=>?_)
 simp only[bh,aS,ah,ac,ao,v3,lk,List.set_cons_zero,List.set_cons_succ,mr,aP,dH]
 refine EE (by omega) (by omega) (EF (by omega) (by omega) ?_)
 simp only[HS]
 split
 ·walk_at "x"
  refine Av D1 hj fun t2 S2 hl2 Dy D2 O2=>Av D2 hj fun t3 S3 hl3 Hk D3 O3=>?_
  refine hN _ _ ?_
  walk_at "x"
  have e2:=Bd.Ad hl2
  have e3:=Bd.Ad hl3
  refine k (.zP (.AN t2) t3) S3 ⟨Dy,Hk⟩ (by simp only[Bd.dep];omega) (by simp only[Bd.size];omega) (by simp only[Bd.size];omega) (.inr ?_) D3 (Gz.trans (O2.trans O3))
  have c2:t2.zK=1/\t2.zO=0:=by cases t2<;>first|exact⟨rfl,rfl⟩|exact hl2.elim
  have c3:t3.zK=1/\t3.zO=0:=by cases t3<;>first|exact⟨rfl,rfl⟩|exact hl3.elim
  simp only[Bd.zK,Bd.zO,c2,c3]
  decide
 ·rename_i hb
  walk_at "x"
  refine hN _ _ ?_
  walk_at "x"
  exact k t S1 hg (by omega) (by omega) (by omega) (.inl (by omega)) D1 Gz
noncomputable def eZ(p:Str×Bd):PV:=.tup [.str p.1,p.2.pv]
noncomputable def Aq(js:Vs)(ds:List (Str×Bd)):PV:=.tup [.tup (js.map PV.str),.tup (ds.map eZ)]
structure xy (js:Vs) (us:Vs) (ds:List (Str×Bd)):Prop where
 jl:js.length<=16
 dl:ds.length<=16
 jw:∀z∈js,Cl z
 uw:∀z∈us,Cl z
 dw:∀p∈ds,Cl p.1
 gd:∀p∈ds,p.2.good js us
 dp:∀p∈ds,p.2.dep<=60
 sz:∀p∈ds,p.2.size<=60
def _root_.L3.Ext.put{p:Addr}{S S':aq}{o:SO}(O:Ext S S')(h:S p=none):Ext S (zL S' p o):=fun x u hx=>by rw[aj (fun e=>by rw[e,h]at hx;cases hx)];exact O x u hx
def kK{α:Type}{xs:List α}{n:Nat}(h:n<=xs.length):dh xs none (some (n:Int))=xs.take n:=by
 unfold dh
 rw[HT.iJ,HT.mQ,List.drop_zero,Nat.min_eq_left h]
 rfl
def vN{α:Type}{xs:List α}{n:Nat}(h:n<=xs.length):dh xs (some (n:Int)) none=xs.drop n:=by
 unfold dh
 rw[HT.iJ,HT.mQ,Nat.min_eq_left h,JU]
 rw[IF]
 exact HF _
def sU{x:PV}{n:Nat}{a b:List PV}(e:bx 0 n=a++x::b):x = .int a.length/\a.length < n:=by
 have h1:(bx 0 n)[a.length]?=some x:=by rw[e];simp
 unfold bx at h1
 rw[HR]at h1
 have hl:a.length < n:=by
  have:=IP List.length e
  rw[dE,HC,HW]at this
  omega
 rw[Kn hl]at h1
 simp at h1
 exact⟨h1.symm,hl⟩
def ji{α:Type}{xs:List α}{n:Nat}{v:α}(h:xs[n]?=some v):Ar xs (n:Int)=some v:=cz h
noncomputable def Bd.sides:Bd->List Bd
 | .AN a=>[a]
 | .zP a b=>[a,b]
 | .AD a b=>[a,b]
 | .Au _ _ a b=>[a,b]
 |_=>[]
noncomputable def Bd.parts:Bd->List Bd
 | .AN a=>.AN a::a.parts
 | .zP a b=>.zP a b::(a.parts++b.parts)
 | .AD a b=>.AD a b::(a.parts++b.parts)
 | .Au z m a b=>.Au z m a b::(a.parts++b.parts)
 |t=>[t]
def Bd.Cv(t:Bd):t.parts=t::t.sides.flatMap Bd.parts:=by cases t<;>simp[Bd.parts,Bd.sides]
theorem Bd.z9:∀t:Bd,t.parts.length=t.size
 | .rest=>rfl
 | .pay _ _=>rfl
 | .put _ _=>rfl
 | .use _=>rfl
 | .AN a=>by simp only[Bd.parts,Bd.size,List.length_cons,a.z9]
 | .zP a b=>by simp only[Bd.parts,Bd.size,List.length_cons,HC,a.z9,b.z9]
 | .AD a b=>by simp only[Bd.parts,Bd.size,List.length_cons,HC,a.z9,b.z9]
 | .Au _ _ a b=>by simp only[Bd.parts,Bd.size,List.length_cons,HC,a.z9,b.z9]
def Bd.Cw{t u:Bd}(h:u∈t.sides):u.dep < t.dep/\u.size < t.size:=by
 cases t<;>simp[Bd.sides]at h
 ·subst h;simp[Bd.dep,Bd.size]
 all_goals (rcases h with rfl|rfl<;>simp only[Bd.dep,Bd.size]<;>omega)
abbrev e7(w:aC):Prop:=∀{S:aq} {t:Bd} {Q:bQ} {E:cU},Q (.tup (t.sides.map Bd.pv)) S->w [t.pv] S Q E
def Bh:e7 (zS 1 fE):=by
 intro S t Q E k
 unfold fE
 refine fP ?_
 rw[show aB 1 [t.pv]=[some t.pv] from rfl]
 cases t<;>(unfold Bd.pv;walk_at "y"; simp only[m8,ah,v3,lk,c3,ag,ft,gL,ap,ao,bZ,k_SIDES_FROM,List.find?,sS,String.reduceEq,IJ,JM,Option.map,Option.getD];exact k)
abbrev cX(n:Nat)(w:aC):Prop:=∀{S:aq} {t:Bd} {Q:bQ} {E:cU},t.dep<=n->t.size<=900->(∀p S',S p=none->Ext S S'->S' p=some (.lst (t.parts.map Bd.pv))->Q (.ref p) S')->w [t.pv] S Q E
def BY{xs s0:aC}(Bh:e7 xs)(n:Nat)(ih:cX n s0):cX (n+1) (zS 3 (fF xs s0)):=by
 intro S t Q E hd hs k
 unfold fF
 refine fP ?_
 rw[show aB 3 [t.pv]=[some t.pv,none,none] from rfl]
 refine al fun N hN=>?_
 walk_at "x"
 intro p hp
 have X0:Ext S (zL S p (.lst [t.pv])):=.new hp
 have hp0:(zL S p (.lst [t.pv])) p=some (.lst [t.pv]):=aa
 generalize zL S p (.lst [t.pv])=S0 at X0 hp0
 refine hN _ _ (al fun N hN=>?_)
 simp only[cm,aG,ac,ao,v3,lk]
 refine Bh ?_
 simp only[bI]
 refine bU (fun done σ S'=>∃(ts:List Bd) (x:Option PV) (rs:List Bd),done=ts.map Bd.pv/\t.sides=ts++rs/\σ=[some t.pv,some (.ref p),x]/\Ext S S'/\S' p=some (.lst ((t::ts.flatMap Bd.parts).map Bd.pv))) ⟨[],_,t.sides,rfl,rfl,rfl,X0,hp0⟩ (fun _ _ _ _=>trivial) ?_ ?_
 ·rintro done x rest σ S1 K e ⟨ts,y,rs,rfl,es,rfl,X1,h1⟩ hK
  rw[es,IA]at e
  have e2:=List.append_cancel_left e
  rcases rs with _|⟨r,rs⟩
  ·cases e2
  rw[Ig,List.cons.injEq]at e2
  obtain⟨rfl,e3⟩:=e2
  have hr:r∈t.sides:=by rw[es];simp
  have hrd:=Bd.Cw hr
  walk_at "x"
  refine⟨by rw[h1];trivial,ih (t:=r) (by omega) (by omega) fun q S2 hq X2 h2=>?_⟩
  simp only[X2 _ _ h1,h2]
  have hlen:(t::ts.flatMap Bd.parts).length+r.parts.length<=t.size:=by
   rw[<-Bd.z9 t,Bd.Cv t,es,Jg,Lm]
   simp only[List.length_cons,HC]
   omega
  refine⟨cA (by simp only[HD]at *;omega),?_⟩
  refine hK _ _ ⟨ts++[r],_,rs,by simp,by rw[es];simp,rfl,(X1.trans X2).put hp,?_⟩
  rw[aa,Jg]
  simp
 ·rintro σ S1 ⟨ts,y,rs,e,es,rfl,X1,h1⟩
  refine hN _ _ ?_
  walk_at "x"
  have ez:rs=[]:=by
   have:=IP List.length e
   rw[es]at this
   simp at this
   exact this
  subst ez
  rw[Ip]at es
  rw[<-es,<-Bd.Cv]at h1
  exact k p S1 hp X1 h1
noncomputable def heads:List Str:=["rest","pay","put","use","often","then","either","take"]
def oH:∀z∈heads,PyData.strOk z=true:=by decide +kernel
structure Bm (n:Nat) (js us:Vs) (ds:List (Str×Bd)):Prop extends xy js us ds where
 jn:js.Nodup
 dn:(ds.map Prod.fst).Nodup
 dq:∀p∈ds,p.2.dep<=n
def dF{xs:List PV}{x:PV}{a b:List PV}(e:L3.aR xs=a++x::b):∃y,x = .tup [.int a.length,y]/\xs[a.length]?=some y:=by
 have h1:(L3.aR xs)[a.length]?=some x:=by rw[e];simp
 unfold L3.aR at h1
 rw[Ka]at h1
 cases h:xs[a.length]? with
 |none=>rw[h]at h1;cases h1
 |some y=>
  rw[h]at h1
  simp only[Option.map_some,Lk]at h1
  exact⟨y,h1.symm,rfl⟩
inductive DC (L:Nat):Nat->PV->Prop
 |int {n:Nat} (i:Int):DC L n (.int i)
 |tup {n:Nat} {xs:List PV}:xs.length<=L->(∀x∈xs,DC L n x)->DC L (n+1) (.tup xs)
def DC.mono{L M n m:Nat}{v:PV}(h:DC L n v)(hL:L<=M):n<=m->DC M m v:=by
 induction h generalizing m with
 |int i=>exact fun _=>.int i
 |@tup n xs hl _ ih=>
  intro hm
  cases m with
  |zero=>omega
  |succ m=>exact .tup (HX hl hL) fun x hx=>ih x hx (by omega)
noncomputable def Bd.hd:Bd->Str
 | .rest=>"rest" | .pay _ _=>"pay" | .put _ _=>"put" | .use _=>"use" | .AN _=>"often" | .zP _ _=>"then" | .AD _ _=>"either" | .Au _ _ _ _=>"take"
noncomputable def Bd.tl:Bd->List PV
 | .rest=>[] | .pay x y=>[.tup [.int x,.int y]] | .put z m=>[.str z,.int m] | .use z=>[.str z] | .AN a=>[a.pv] | .zP a b=>[a.pv,b.pv] | .AD a b=>[a.pv,b.pv] | .Au z m a b=>[.str z,.int m,a.pv,b.pv]
def Bd.BA(t:Bd):t.pv = .tup (.str t.hd::t.tl):=by cases t<;>rfl
def Bd.Cy(t:Bd):PyData.strOk t.hd=true:=by cases t<;>exact oH _ (by simp[heads,Bd.hd])
def Bd.De(t:Bd):t.hd=("then":Str)↔∃a b,t = .zP a b:=by cases t<;>simp[Bd.hd,aF]
def Bd.Ed(t:Bd):t.hd=("often":Str)↔∃a,t = .AN a:=by cases t<;>simp[Bd.hd,aF]
def kL:([PV.str "then",PV.str "either",PV.str "take"]:List PV)=(["then","either","take"]:Vs).map PV.str:=rfl
def cY{a b:PV}{hd:List PV}{i:Int}(hi:i=0\/i=1):Ar (hd++[a,b]) (i - 2)=some (if i=0 then a else b):=by
 unfold Ar nM
 rcases hi with rfl|rfl
 ·rw[if_neg (by omega),if_pos (by simp;omega)]
  have:(0 - 2+((hd++[a,b]).length:Int)).toNat=hd.length:=by simp;omega
  rw[this,if_pos rfl]
  show(hd++[a,b])[hd.length]?=some a
  simp
 ·rw[if_neg (by omega),if_pos (by simp;omega)]
  have:(1 - 2+((hd++[a,b]).length:Int)).toNat=hd.length+1:=by simp;omega
  rw[this,if_neg (by decide)]
  show(hd++[a,b])[hd.length+1]?=some b
  simp
def xz:∀z∈(["either","take"]:Vs),PyData.strOk z=true:=by decide +kernel
noncomputable def Bd.Bt:Bd->PV
 | .zP a b=>.tup [a.Bt,b.Bt]
 | .AD a _=>.tup [.int 0,a.Bt]
 | .Au _ _ _ b=>.tup [.int 1,b.Bt]
 |_=>.tup []
abbrev e8(n:Nat)(w:aC):Prop:=∀{S:aq} {t:Bd} {Q:bQ} {E:cU},t.dep<=n->Q t.Bt S->w [t.pv] S Q E
def qH{s0:aC}(n:Nat)(ih:e8 n s0):e8 (n+1) (zS 1 (di s0)):=by
 intro S t Q E hd k
 unfold di
 refine fP ?_
 rw[show aB 1 [t.pv]=[some t.pv] from rfl]
 cases t with
 |zP a b=>
  simp only[Bd.dep]at hd
  rw[show(Bd.zP a b).pv = .tup [.str "then",a.pv,b.pv] from rfl]
  walk_at "y"
  refine ih (by omega) ?_
  exact ih (by omega) k
 |AD a b=>
  simp only[Bd.dep]at hd
  rw[show(Bd.AD a b).pv = .tup [.str "either",a.pv,b.pv] from rfl]
  walk_at "y"
  exact ih (by omega) k
 |Au z m a b=>
  simp only[Bd.dep]at hd
  rw[show(Bd.Au z m a b).pv = .tup [.str "take",.str z,.int m,a.pv,b.pv] from rfl]
  walk_at "y"
  exact ih (by omega) k
 |AN a=>
  rw[show(Bd.AN a).pv = .tup [.str "often",a.pv] from rfl]
  walk_at "y"
  exact k
 |rest=>
  rw[show(Bd.rest).pv = .tup [.str "rest"] from rfl]
  walk_at "y"
  exact k
 |pay x y=>
  rw[show(Bd.pay x y).pv = .tup [.str "pay",.tup [.int x,.int y]] from rfl]
  walk_at "y"
  exact k
 |put z m=>
  rw[show(Bd.put z m).pv = .tup [.str "put",.str z,.int m] from rfl]
  walk_at "y"
  exact k
 |use z=>
  rw[show(Bd.use z).pv = .tup [.str "use",.str z] from rfl]
  walk_at "y"
  exact k
abbrev gU(n:Nat)(w:aC):Prop:=∀{S:aq} {t:Bd} {Q:bQ} {E:cU},t.dep<=n->t.size<=900->(∀S',Ext S S'->Q (.int t.size) S')->w [t.pv] S Q E
def oI{xp:aC}(n:Nat)(BY:cX n xp):gU n (zS 1 (kG xp)):=by
 intro S t Q E hd hs k
 unfold kG
 refine fP ?_
 rw[show aB 1 [t.pv]=[some t.pv] from rfl]
 walk_at "x"
 refine BY hd hs fun p S1 hp X1 h1=>?_
 simp only[h1,HD,t.z9]
 exact k S1 X1
noncomputable def Bd.led:Bd->Nat->PV->PV
 |_,0,v=>v
 | .AN a,p+1,v=>.tup [.tup [.int 1,a.led p v]]
 | .zP a b,p+1,v=>if p < a.size then .tup [a.led p v,b.Bt] else .tup [a.Bt,b.led (p - a.size) v]
 | .AD a b,p+1,v=>if p < a.size then .tup [.int 0,a.led p v] else .tup [.int 1,b.led (p - a.size) v]
 | .Au _ _ a b,p+1,v=>if p < a.size then .tup [.int 0,a.led p v] else .tup [.int 1,b.led (p - a.size) v]
 |_,_+1,v=>v
abbrev gq(n:Nat)(w:aC):Prop:=∀{S:aq} {t:Bd} {p:Nat} {v:PV} {Q:bQ} {E:cU},t.dep<=n->t.size<=900->p < t.size->(∀S',Ext S S'->Q (t.led p v) S')->w [t.pv,.int p,v] S Q E
def sV{xp xt s0:aC}(n m:Nat)(hm:n<=m)(Ee:gU m xp)(DK:e8 m xt)(ih:gq n s0):gq (n+1) (zS 8 (dj xp xt s0)):=by
 intro S t p v Q E hd hs hp k
 unfold dj
 refine fP ?_
 rw[show aB 8 [t.pv,PV.int p,v]=[some t.pv,some (.int p),some v,none,none,none,none,none] from rfl]
 refine al fun N hN=>?_
 walk_at "x"
 simp only[HQ,HS]
 cases p with
 |zero=>
  rw[if_pos (show((0:Nat):Int)=0 from rfl)]
  have:=k S .refl
  cases t<;>exact this
 |succ p=>
  rw[if_neg (by omega)]
  refine hN _ _ (al fun N hN=>?_)
  have ep:(((p+1:Nat):Int) - 1)=(p:Int):=by omega
  cases t with
  |AN a=>
   simp only[Bd.size]at hs hp
   simp only[Bd.dep]at hd
   rw[show(Bd.AN a).pv = .tup [.str "often",a.pv] from rfl]
   walk_at "y"
   rw[ep]
   exact ih (by omega) (by omega) (by omega) k
  |rest=>simp only[Bd.size]at hp;omega
  |pay=>simp only[Bd.size]at hp;omega
  |put=>simp only[Bd.size]at hp;omega
  |use=>simp only[Bd.size]at hp;omega
  |zP a b=>
   simp only[Bd.size]at hs hp
   simp only[Bd.dep]at hd
   rw[show(Bd.zP a b).pv = .tup [.str "then",a.pv,b.pv] from rfl]
   walk_at "y"
   refine hN _ _ (al fun N hN=>?_)
   walk_at "y"
   refine hN _ _ (al fun N hN=>?_)
   walk_at "y"
   refine hN _ _ (al fun N hN=>?_)
   walk_at "y"
   refine Ee (by omega) (by omega) fun S1 X1=>?_
   refine hN _ _ (al fun N hN=>?_)
   walk_at "x"
   by_cases hl:p < a.size
   ·have e1:decide (((p+1:Nat):Int) < 1+(a.size:Int))=true:=IB (by omega)
    rw[e1]
    simp only[II]
    refine hN _ _ (al fun N hN=>?_)
    walk_at "y"
    rw[ep]
    refine ih (by omega) (by omega) hl fun S2 X2=>?_
    refine hN _ _ (al fun N hN=>?_)
    walk_at "y"
    refine hN _ _ (al fun N hN=>?_)
    walk_at "y"
    refine DK (by omega) ?_
    have:=k S2 (X1.trans X2)
    simp only[Bd.led,if_pos hl]at this
    exact this
   ·have e1:decide (((p+1:Nat):Int) < 1+(a.size:Int))=false:=Ij (by omega)
    rw[e1]
    simp only[HU,Iu]
    refine hN _ _ (al fun N hN=>?_)
    have e2:(((p+1:Nat):Int) - (1+(a.size:Int)))=((p - a.size:Nat):Int):=by omega
    have e4:decide ((1:Int)=0)=false:=by decide
    walk_at "y"
    simp only[e4,HU,Iu]
    rw[e2]
    refine ih (by omega) (by omega) (by omega) fun S2 X2=>?_
    refine hN _ _ (al fun N hN=>?_)
    walk_at "y"
    refine hN _ _ (al fun N hN=>?_)
    walk_at "y"
    simp only[e4,HU,Iu]
    refine hN _ _ ?_
    walk_at "y"
    refine DK (by omega) ?_
    have:=k S2 (X1.trans X2)
    simp only[Bd.led,if_neg hl]at this
    exact this
  |AD a b=>
   simp only[Bd.size]at hs hp
   simp only[Bd.dep]at hd
   rw[show(Bd.AD a b).pv = .tup [.str "either",a.pv,b.pv] from rfl]
   walk_at "y"
   refine hN _ _ (al fun N hN=>?_)
   walk_at "y"
   refine hN _ _ (al fun N hN=>?_)
   walk_at "y"
   refine hN _ _ (al fun N hN=>?_)
   walk_at "y"
   refine Ee (by omega) (by omega) fun S1 X1=>?_
   refine hN _ _ (al fun N hN=>?_)
   walk_at "x"
   by_cases hl:p < a.size
   ·have e1:decide (((p+1:Nat):Int) < 1+(a.size:Int))=true:=IB (by omega)
    rw[e1]
    simp only[II]
    refine hN _ _ (al fun N hN=>?_)
    walk_at "y"
    rw[ep]
    refine ih (by omega) (by omega) hl fun S2 X2=>?_
    refine hN _ _ (al fun N hN=>?_)
    walk_at "y"
    have:=k S2 (X1.trans X2)
    simp only[Bd.led,if_pos hl]at this
    exact this
   ·have e1:decide (((p+1:Nat):Int) < 1+(a.size:Int))=false:=Ij (by omega)
    rw[e1]
    simp only[HU,Iu]
    refine hN _ _ (al fun N hN=>?_)
    have e2:(((p+1:Nat):Int) - (1+(a.size:Int)))=((p - a.size:Nat):Int):=by omega
    have e4:decide ((1:Int)=0)=false:=by decide
    walk_at "y"
    simp only[e4,HU,Iu]
    rw[e2]
    refine ih (by omega) (by omega) (by omega) fun S2 X2=>?_
    refine hN _ _ (al fun N hN=>?_)
    walk_at "y"
    have:=k S2 (X1.trans X2)
    simp only[Bd.led,if_neg hl]at this
    exact this
  |Au z q a b=>
   simp only[Bd.size]at hs hp
   simp only[Bd.dep]at hd
   rw[show(Bd.Au z q a b).pv = .tup [.str "take",.str z,.int q,a.pv,b.pv] from rfl]
   walk_at "y"
   refine hN _ _ (al fun N hN=>?_)
   walk_at "y"
   refine hN _ _ (al fun N hN=>?_)
   walk_at "y"
   refine hN _ _ (al fun N hN=>?_)
   walk_at "y"
   refine Ee (by omega) (by omega) fun S1 X1=>?_
   refine hN _ _ (al fun N hN=>?_)
   walk_at "x"
   by_cases hl:p < a.size
   ·have e1:decide (((p+1:Nat):Int) < 1+(a.size:Int))=true:=IB (by omega)
    rw[e1]
    simp only[II]
    refine hN _ _ (al fun N hN=>?_)
    walk_at "y"
    rw[ep]
    refine ih (by omega) (by omega) hl fun S2 X2=>?_
    refine hN _ _ (al fun N hN=>?_)
    walk_at "y"
    have:=k S2 (X1.trans X2)
    simp only[Bd.led,if_pos hl]at this
    exact this
   ·have e1:decide (((p+1:Nat):Int) < 1+(a.size:Int))=false:=Ij (by omega)
    rw[e1]
    simp only[HU,Iu]
    refine hN _ _ (al fun N hN=>?_)
    have e2:(((p+1:Nat):Int) - (1+(a.size:Int)))=((p - a.size:Nat):Int):=by omega
    have e4:decide ((1:Int)=0)=false:=by decide
    walk_at "y"
    simp only[e4,HU,Iu]
    rw[e2]
    refine ih (by omega) (by omega) (by omega) fun S2 X2=>?_
    refine hN _ _ (al fun N hN=>?_)
    walk_at "y"
    have:=k S2 (X1.trans X2)
    simp only[Bd.led,if_neg hl]at this
    exact this
theorem cG{α:Type}{g:Tg}{te:aQ}{σ':bY}{keep:aq->Prop}{fin:List PV->aq->Prop}{S:aq}(enc f:α->PV)(hk:keep S):∀(xs:List α) (ys:List PV),
  (∀x∈xs,∃σ2,g.put (enc x) σ'=some σ2/\∀Q:bQ,Q (f x) S->te σ2 S Q dC)->ys.length+xs.length<=sizeLine->fin (ys++xs.map f) S->cx g bp te σ' keep fin (xs.map enc) ys S
 |[],ys,_,hl,hf=>⟨hk,by simpa using hl,by simpa using hf⟩
 |x::r,ys,h,hl,hf=>by
  obtain⟨σ2,e,h1⟩:=h x (by simp)
  refine⟨hk,by simp at hl;omega,?_⟩
  rw[e]
  show te σ2 S (fun y S4=>cx g bp te σ' keep fin (r.map enc) (ys++[y]) S4) dC
  exact h1 _ (cG enc f hk r (ys++[f x]) (fun y hy=>h y (by simp[hy])) (by simp at hl ⊢;omega) (by simpa using hf))
def bO{n:Nat}(h:n<=1000):n<=sizeLine:=HX h (by decide)
noncomputable def qI(js:Vs):PV:=.tup (js.map PV.str)
def Bd.Df(t:Bd):t.hd=("put":Str)↔∃z m,t = .put z m:=by cases t<;>simp[Bd.hd,aF]
abbrev Qs:=Str->Bool
noncomputable def mq(hs:Vs):Qs:=fun z=>decide (z∈hs)
noncomputable def Bd.shut(q:Qs):Bd->Nat->Bool
 | .Au z _ _ _,0=>!q z
 |_,_=>false
noncomputable def Bd.Ay(q:Qs)(t:Bd)(r:Bool):List (Bd×Bool):=t.sides.mapIdx fun i s=>(s,r&&!t.shut q i)
noncomputable def Bd.pr(q:Qs):Bd->Bool->List (Bd×Bool)
 | .rest,r=>[(.rest,r)]
 | .pay x y,r=>[(.pay x y,r)]
 | .put z m,r=>[(.put z m,r)]
 | .use z,r=>[(.use z,r)]
 | .AN a,r=>(.AN a,r)::a.pr q r
 | .zP a b,r=>(.zP a b,r)::(a.pr q r++b.pr q r)
 | .AD a b,r=>(.AD a b,r)::(a.pr q r++b.pr q r)
 | .Au z m a b,r=>(.Au z m a b,r)::(a.pr q (r&&q z)++b.pr q r)
def Bd.DL(q:Qs)(t:Bd)(r:Bool):t.pr q r=(t,r)::(t.Ay q r).flatMap fun p=>p.1.pr q p.2:=by
 cases t with
 |rest=>rfl
 |pay x y=>rfl
 |put z m=>rfl
 |use z=>rfl
 |AN a=>show _=_::(a.pr q (r&&!false)++[]);rw[JD,Ln,Ip];rfl
 |zP a b=>show _=_::(a.pr q (r&&!false)++(b.pr q (r&&!false)++[]));rw[JD,Ln,Ip];rfl
 |AD a b=>show _=_::(a.pr q (r&&!false)++(b.pr q (r&&!false)++[]));rw[JD,Ln,Ip];rfl
 |Au z m a b=>show _=_::(a.pr q (r&&!(!q z))++(b.pr q (r&&!false)++[]));rw[Bool.not_not,JD,Ln,Ip];rfl
theorem Bd.A6(q:Qs):∀(t:Bd) (r:Bool),(t.pr q r).length=t.size
 | .rest,_=>rfl
 | .pay _ _,_=>rfl
 | .put _ _,_=>rfl
 | .use _,_=>rfl
 | .AN a,r=>by show(a.pr q r).length+1=a.size+1;rw[a.A6 q r]
 | .zP a b,r=>by show(a.pr q r++b.pr q r).length+1=a.size+b.size+1;rw[HC,a.A6 q r,b.A6 q r]
 | .AD a b,r=>by show(a.pr q r++b.pr q r).length+1=a.size+b.size+1;rw[HC,a.A6 q r,b.A6 q r]
 | .Au z m a b,r=>by show(a.pr q (r&&q z)++b.pr q r).length+1=a.size+b.size+1;rw[HC,a.A6 q _,b.A6 q r]
noncomputable def Bd.zN(q:Qs):Bd->List Str
 | .rest=>[]
 | .pay _ _=>[]
 | .put z _=>[z]
 | .use _=>[]
 | .AN a=>a.zN q
 | .zP a b=>a.zN q++b.zN q
 | .AD a b=>a.zN q++b.zN q
 | .Au z _ a b=>(if q z then a.zN q else [])++b.zN q
theorem Bd.Aw(q:Qs):∀(t:Bd) (u:Bd),(u,true) ∉ t.pr q false
 | .rest,u=>by simp[Bd.pr]
 | .pay _ _,u=>by simp[Bd.pr]
 | .put _ _,u=>by simp[Bd.pr]
 | .use _,u=>by simp[Bd.pr]
 | .AN a,u=>by
  show _ ∉ _::a.pr q false
  rw[HL,not_or];exact⟨by simp,a.Aw q u⟩
 | .zP a b,u=>by
  show _ ∉ _::(a.pr q false++b.pr q false)
  rw[HL,not_or,HN,not_or];exact⟨by simp,a.Aw q u,b.Aw q u⟩
 | .AD a b,u=>by
  show _ ∉ _::(a.pr q false++b.pr q false)
  rw[HL,not_or,HN,not_or];exact⟨by simp,a.Aw q u,b.Aw q u⟩
 | .Au z m a b,u=>by
  show _ ∉ _::(a.pr q (false&&q z)++b.pr q false)
  rw[Bool.false_and,HL,not_or,HN,not_or];exact⟨by simp,a.Aw q u,b.Aw q u⟩
theorem Bd.Ae(q:Qs){z:Str}:∀(t:Bd),z∈t.zN q↔∃m,(Bd.put z m,true)∈t.pr q true
 | .rest=>by simp[Bd.zN,Bd.pr]
 | .pay _ _=>by simp[Bd.zN,Bd.pr]
 | .put y m=>by
  show z∈[y]↔∃n,(Bd.put z n,true)∈[(Bd.put y m,true)]
  simp only[HM,Prod.mk.injEq,Bd.put.injEq,and_true]
  exact⟨fun h=>⟨m,h,rfl⟩,fun⟨_,h,_⟩=>h⟩
 | .use _=>by simp[Bd.zN,Bd.pr]
 | .AN a=>by
  show z∈a.zN q↔∃m,(Bd.put z m,true)∈(Bd.AN a,true)::a.pr q true
  rw[a.Ae q];simp
 | .zP a b=>by
  show z∈a.zN q++b.zN q↔∃m,(Bd.put z m,true)∈(Bd.zP a b,true)::(a.pr q true++b.pr q true)
  rw[HN,a.Ae q,b.Ae q];simp[exists_or]
 | .AD a b=>by
  show z∈a.zN q++b.zN q↔∃m,(Bd.put z m,true)∈(Bd.AD a b,true)::(a.pr q true++b.pr q true)
  rw[HN,a.Ae q,b.Ae q];simp[exists_or]
 | .Au y m a b=>by
  show z∈(if q y=true then a.zN q else [])++b.zN q↔∃n,(Bd.put z n,true)∈(Bd.Au y m a b,true)::(a.pr q (true&&q y)++b.pr q true)
  rw[HN,b.Ae q]
  cases h:q y with
  |true=>rw[if_pos rfl,a.Ae q];simp[exists_or]
  |false=>
   rw[if_neg (by decide)]
   have f:=a.Aw q
   simp[f]
theorem Bd.Ai{q p:Qs}(h:∀z,q z=true->p z=true){z:Str}:∀t:Bd,z∈t.zN q->z∈t.zN p
 | .rest,e=>e
 | .pay _ _,e=>e
 | .put _ _,e=>e
 | .use _,e=>e
 | .AN a,e=>a.Ai h e
 | .zP a b,e=>HN.mpr ((HN.mp e).imp (a.Ai h) (b.Ai h))
 | .AD a b,e=>HN.mpr ((HN.mp e).imp (a.Ai h) (b.Ai h))
 | .Au y m a b,e=>by
  rcases HN.mp (show z∈(if q y=true then a.zN q else [])++b.zN q from e)with e|e
  ·by_cases hq:q y=true
   ·rw[if_pos hq]at e
    exact HN.mpr (.inl (by show z∈(if p y=true then a.zN p else []);rw[if_pos (h y hq)];exact a.Ai h e))
   ·rw[if_neg hq]at e;cases e
  ·exact HN.mpr (.inr (b.Ai h e))
theorem Bd.z_{q:Qs}{js us:Vs}{z:Str}:∀t:Bd,t.good js us->z∈t.zN q->z∈js
 | .rest,_,e=>by cases e
 | .pay _ _,_,e=>by cases e
 | .put _ _,g,e=>by rw[HM.mp e];exact g.1
 | .use _,_,e=>by cases e
 | .AN a,g,e=>a.z_ g e
 | .zP a b,g,e=>(HN.mp e).elim (a.z_ g.1) (b.z_ g.2)
 | .AD a b,g,e=>(HN.mp e).elim (a.z_ g.1) (b.z_ g.2)
 | .Au y m a b,g,e=>by
  rcases HN.mp (show z∈(if q y=true then a.zN q else [])++b.zN q from e)with e|e
  ·by_cases hq:q y=true
   ·rw[if_pos hq]at e;exact a.z_ g.2.2.2.1 e
   ·rw[if_neg hq]at e;cases e
  ·exact b.z_ g.2.2.2.2 e
noncomputable def An(q:Qs)(ds:List (Str×Bd)):List Str:=ds.flatMap fun p=>p.2.zN q
def jj{q p:Qs}(h:∀z,q z=true->p z=true){ds:List (Str×Bd)}{z:Str}(e:z∈An q ds):z∈An p ds:=by
 obtain⟨d,hd,e⟩:=JQ.mp e
 exact JQ.mpr ⟨d,hd,d.2.Ai h e⟩
inductive Fs (ds:List (Str×Bd)):List Str->Prop
 |nil:Fs ds []
 |snoc {hs:Vs} {z:Str}:Fs ds hs->z∈An (mq hs) ds->Fs ds (hs++[z])
noncomputable def held(ds:List (Str×Bd)):Nat->List Str
 |0=>[]
 |n+1=>An (mq (held ds n)) ds
theorem gr:∀(hs js:Vs),hs.Nodup->(∀z∈hs,z∈js)->hs.length<=js.length
 |[],_,_,_=>Il _
 |z::r,js,hn,hj=>by
  have hz:=hj z (by simp)
  have h1:=gr r (js.erase z) (IU.mp hn).2 fun y hy=>(List.mem_erase_of_ne (fun e=>(IU.mp hn).1 (by rw[<-e];exact hy))).mpr (hj y (by simp[hy]))
  rw[List.length_erase_of_mem hz]at h1
  have:=List.length_pos_of_mem hz
  rw[HW]
  omega
def ni{a b:Vs}(h:∀z∈a,z∈b)(z:Str)(e:mq a z=true):mq b z=true:=IB (h z (of_decide_eq_true e))
def sW{ds:List (Str×Bd)}{hs:Vs}(h:Fs ds hs):∀k,hs.length<=k->∀z∈hs,z∈held ds k:=by
 induction h with
 |nil=>intro k _ z hz;cases hz
 |@snoc hs y hf hy ih=>
  intro k hk z hz
  rw[HC,HZ]at hk
  rcases HN.mp hz with hz|hz
  ·exact ih k (by omega) z hz
  ·rw[HM.mp hz]
   obtain⟨k,rfl⟩:∃m,k=m+1:=⟨k - 1,by omega⟩
   exact jj (ni (ih k (by omega))) hy
theorem nj{ds:List (Str×Bd)}{hs:Vs}(cl:∀z∈An (mq hs) ds,z∈hs):∀k,∀z∈held ds k,z∈hs
 |0,z,hz=>by cases hz
 |k+1,z,hz=>cl z (jj (ni (nj cl k)) hz)
def sX{ds:List (Str×Bd)}{js hs:Vs}(h:Fs ds hs)(hn:hs.Nodup)(hj:∀z∈hs,z∈js)(cl:∀z∈An (mq hs) ds,z∈hs):mq (held ds js.length)=mq hs:=by
 funext z
 exact decide_eq_decide.mpr ⟨nj cl _ z,sW h _ (gr hs js hn hj) z⟩
noncomputable def mB(p:Bd×Bool):PV:=.tup [p.1.pv,.bl p.2]
def mC(js:Vs):Prop:=∀z∈js,PyData.strOk z=true
abbrev kM(n:Nat)(w:aC):Prop:=∀{S:aq} {t:Bd} {js us hs:Vs} {nm:Addr} {r:Bool} {Q:bQ} {E:cU},t.dep<=n->t.size<=900->t.good js us->mC js->mC hs->S nm=some (.lst (hs.map PV.str))->
  (∀p S',S p=none->Ext S S'->S' p=some (.lst ((t.pr (mq hs) r).map mB))->Q (.ref p) S')->w [t.pv,.ref nm,.bl r] S Q E
def Bd.CF{js us:Vs}{t s:Bd}(g:t.good js us)(h:s∈t.sides):s.good js us:=by
 cases t with
 |rest=>cases h
 |pay x y=>cases h
 |put z m=>cases h
 |use z=>cases h
 |AN a=>rw[HM.mp h];exact g
 |zP a b=>
  rcases HL.mp h with rfl|h
  ·exact g.1
  ·rw[HM.mp h];exact g.2
 |AD a b=>
  rcases HL.mp h with rfl|h
  ·exact g.1
  ·rw[HM.mp h];exact g.2
 |Au z m a b=>
  rcases HL.mp h with rfl|h
  ·exact g.2.2.2.1
  ·rw[HM.mp h];exact g.2.2.2.2
def Bd.Ef(t:Bd):t.hd=("take":Str)↔∃z m a b,t = .Au z m a b:=by cases t<;>simp[Bd.hd,aF]
def sY{t:Bd}{js us hs:Vs}{nm:Addr}{S:aq}{i:Nat}{x2 x3 x5 x6:Option PV}{Q:bQ}(g:t.good js us)(hj:mC js)(hh:mC hs)(hn:S nm=some (.lst (hs.map PV.str)))(q:Q (.bl (t.shut (mq hs) i)) S) :
  cK (ah (bg false) (ah ag (v3 0) (c3 (.int 0))) (c3 (.str "take"))) (cK (ah (bg false) (v3 4) (c3 (.int 0))) (ah (jv true) (ah ag (v3 0) (c3 (.int 1))) (v3 1))) [some t.pv,some (.ref nm),x2,x3,some (.int (i:Int)),x5,x6] S Q dC:=by
 rw[Bd.BA]
 simp only[cK,ah,v3,lk,c3,ag,ft,bg,HQ]
 by_cases h:t.hd=("take":Str)
 ·obtain⟨z,m,a,b,rfl⟩:=(Bd.Ef t).mp h
  rw[IB h,if_pos rfl]
  cases i with
  |zero=>
   rw[IB (show((0:Nat):Int)=0 from rfl),if_pos rfl]
   simp only[Bd.tl,jd]
   refine dQ hn (hj z g.1) hh ?_
   rw[show(true != decide (z∈hs))=Bd.shut (mq hs) (Bd.Au z m a b) 0 by show _=!decide (z∈hs);cases decide (z∈hs)<;>rfl]
   exact q
  |succ i=>
   rw[Ij (show ¬(((i+1:Nat):Int)=0) by omega),if_neg (by decide)]
   exact q
 ·rw[Ij h,if_neg (by decide)]
  have e:t.shut (mq hs) i=false:=by cases t<;>first|rfl|exact absurd rfl h
  rw[e]at q
  exact q
def Dg{xs s0:aC}(Bh:e7 xs)(n:Nat)(ih:kM n s0):kM (n+1) (zS 7 (cu xs s0)):=by
 intro S t js us hs nm r Q E hd Fx hg hj hh hn k
 unfold cu
 refine fP ?_
 rw[show aB 7 [t.pv,.ref nm,.bl r]=[some t.pv,some (.ref nm),some (.bl r),none,none,none,none] from rfl]
 refine al fun N hN=>?_
 walk_at "x"
 intro p hp
 have X0:Ext S (zL S p (.lst [.tup [t.pv,.bl r]])):=.new hp
 have hp0:(zL S p (.lst [.tup [t.pv,.bl r]])) p=some (.lst [.tup [t.pv,.bl r]]):=aa
 generalize zL S p (.lst [.tup [t.pv,.bl r]])=S0 at X0 hp0
 refine hN _ _ (al fun N hN=>?_)
 simp only[cm,cL,ac,ao,v3,lk]
 refine Bh ?_
 dsimp only
 have hps:(t.Ay (mq hs) r).length=t.sides.length:=JV
 refine bU (fun done σ S'=>∃(x4 x5 x6:Option PV),σ=[some t.pv,some (.ref nm),some (.bl r),some (.ref p),x4,x5,x6]/\Ext S S'/\done.length<=t.sides.length/\S' p=some (.lst (((t,r)::((t.Ay (mq hs) r).take done.length).flatMap fun p=>p.1.pr (mq hs) p.2).map mB))) ⟨_,_,_,rfl,X0,Il _,hp0⟩ (fun _ _ _ _=>trivial) ?_ ?_
 ·rintro done x rest σ S1 K e ⟨x4,x5,x6,rfl,X1,hl,h1⟩ hK
  obtain⟨y,rfl,hy⟩:=dF e
  rw[HR]at hy
  cases hs':t.sides[done.length]? with
  |none=>rw[hs']at hy;cases hy
  |some s=>
  rw[hs']at hy
  cases hy
  have hlt:done.length < t.sides.length:=(Ih.mp hs').1
  have hr:s∈t.sides:=Ik hs'
  have hrd:=Bd.Cw hr
  have hn1:=X1 _ _ hn
  have hq:(t.Ay (mq hs) r)[done.length]?=some (s,r&&!t.shut (mq hs) done.length):=by unfold Bd.Ay;rw[Ka,hs'];rfl
  simp only[Tg.put,Tg.zN,List.set_cons_succ,List.set_cons_zero]
  refine al fun N2 A0=>?_
  simp only[au]
  refine sY hg hj hh hn1 ?_
  simp only[List.set_cons_succ,List.set_cons_zero]
  refine A0 _ _ ?_
  simp only[aU,d_,mn,ao,ac,v3,lk,h1,Kd,cK,jT]
  have go:∀Q':bQ,(∀q S2,S1 q=none->Ext S1 S2->S2 q=some (.lst ((s.pr (mq hs) (r&&!t.shut (mq hs) done.length)).map mB))->Q' (.ref q) S2)->s0 [s.pv,.ref nm,.bl (r&&!t.shut (mq hs) done.length)] S1 Q' dC:=fun Q' k'=>ih (by omega) (by omega) (Bd.CF hg hr) hj hh hn1 k'
  have tail:∀q S2,S1 q=none->Ext S1 S2->S2 q=some (.lst ((s.pr (mq hs) (r&&!t.shut (mq hs) done.length)).map mB))->bf (.ref p) [.ref q] S2 (fun _ S3=>K [some t.pv,some (.ref nm),some (.bl r),some (.ref p),some (.int (done.length:Int)),some s.pv,some (.bl (t.shut (mq hs) done.length))] S3):=fun q S2 hq2 X2 h2=>by
   simp only[bf,X2 _ _ h1,h2]
   have et:((t.Ay (mq hs) r).take (done.length+1)).flatMap (fun p=>p.1.pr (mq hs) p.2)=((t.Ay (mq hs) r).take done.length).flatMap (fun p=>p.1.pr (mq hs) p.2)++s.pr (mq hs) (r&&!t.shut (mq hs) done.length):=by
    rw[Ke,hq,Jg];simp
   have ln:((t,r)::((t.Ay (mq hs) r).take (done.length+1)).flatMap fun p=>p.1.pr (mq hs) p.2).length<=t.size:=by
    rw[<-Bd.A6 (mq hs) t r,Bd.DL]
    rw[HW,HW]
    have:(t.Ay (mq hs) r).flatMap (fun p=>p.1.pr (mq hs) p.2)=((t.Ay (mq hs) r).take (done.length+1)).flatMap (fun p=>p.1.pr (mq hs) p.2)++((t.Ay (mq hs) r).drop (done.length+1)).flatMap (fun p=>p.1.pr (mq hs) p.2):=by rw[<-Jg,List.take_append_drop]
    rw[this,HC]
    omega
   rw[HW,et,HC]at ln
   refine⟨bO (by simp only[HD,List.length_cons];omega),?_⟩
   refine hK _ _ ⟨_,_,_,rfl,(X1.trans X2).put hp,by rw[HC];exact hlt,?_⟩
   rw[aa,HC,HZ,et,<-IA]
   rfl
  cases r with
  |true=>rw[if_pos rfl];exact go _ tail
  |false=>rw[if_neg (by decide)];exact go _ tail
 ·rintro σ S1 ⟨x4,x5,x6,rfl,X1,hl,h1⟩
  refine hN _ _ ?_
  walk_at "x"
  refine k p S1 hp X1 ?_
  rw[h1,Bd.DL]
  have:(L3.aR (t.sides.map Bd.pv)).length=(t.Ay (mq hs) r).length:=by unfold L3.aR;rw[JV,HD,hps]
  rw[this,K0]
structure HG (js:Vs) (ds:List (Str×Bd)):Prop where
 jw:mC js
 jl:js.length<=50
 dl:ds.length<=1000
 gd:∀p∈ds,p.2.good js []
 dp:∀p∈ds,p.2.dep<=6
 sz:∀p∈ds,p.2.size<=60
def CQ(ds:List (Str×Bd))(hs:Vs)(d tr:PV)(z:Str):Prop:=∃(dk pl:Nat) (dn:Str) (t:Bd) (m:Int),d = .int (dk:Int)/\tr=t.led pl (.tup [])/\ds[dk]?=some (dn,t)/\(t.pr (mq hs) true)[pl]?=some (.put z m,true)
def CQ.zN{ds:List (Str×Bd)}{hs:Vs}{d tr:PV}{z:Str}:CQ ds hs d tr z->z∈An (mq hs) ds:=fun⟨_,_,_,t,m,_,_,h1,h2⟩=>JQ.mpr ⟨_,Ik h1,(Bd.Ae (mq hs) t).mpr ⟨m,Ik h2⟩⟩
abbrev jk(w:aC):Prop:=∀{S:aq} {js hs:Vs} {ds:List (Str×Bd)} {nm:Addr} {Q:bQ} {E:cU},HG js ds->mC hs->S nm=some (.lst (hs.map PV.str))->
  (∀S',Ext S S'->(∀z∈An (mq hs) ds,z∈hs)->Q .non S')->
  (∀(k:Nat) z d tr S',Ext S S'->js[k]?=some z->CQ ds hs d tr z->z ∉ hs->Q (.tup [.int (k:Int),d,tr]) S')->w [Aq js ds,.ref nm] S Q E
def qJ{js:Vs}{z:Str}(h:z∈js):∃k:Nat,js[k]?=some z/\∀j:Nat,j < k->js[j]?≠some z:=by
 induction js with
 |nil=>cases h
 |cons x r ih=>
  by_cases e:x=z
  ·subst e;exact⟨0,rfl,fun j hj=>absurd hj (Nat.not_lt_zero _)⟩
  ·obtain⟨k,h1,h2⟩:=ih ((HL.mp h).resolve_left (JE e))
   refine⟨k+1,by simpa using h1,fun j hj=>?_⟩
   cases j with
   |zero=>simpa using e
   |succ j=>simpa using h2 j (by omega)
def Cb{xp xl:aC}(Dg:kM 6 xp)(Eg:gq 6 xl):jk (zS 7 (eJ xp xl)):=by
 intro S js hs ds nm Q E hg hh hn k0 k1
 unfold eJ
 refine fP ?_
 rw[show aB 7 [Aq js ds,.ref nm]=[some (.tup [qI js,.tup (ds.map eZ)]),some (.ref nm),none,none,none,none,none] from rfl]
 refine al fun N hN=>?_
 simp only[cm,cL,ah,v3,lk,c3,ag,jd]
 refine bU (fun done σ S'=>∃(x2 x3 x4 x5 x6:Option PV),σ=[some (.tup [qI js,.tup (ds.map eZ)]),some (.ref nm),x2,x3,x4,x5,x6]/\Ext S S'/\done.length<=ds.length/\∀p∈ds.take done.length,∀z∈p.2.zN (mq hs),z∈hs) ⟨_,_,_,_,_,rfl,.refl,Il _,by simp⟩ (fun _ _ _ _=>trivial) ?_ ?_
 ·rintro done x rest σ S1 K e ⟨x2,x3,x4,x5,x6,rfl,X1,hl,hd⟩ hK
  obtain⟨y,rfl,hy⟩:=dF e
  rw[HR]at hy
  cases hs':ds[done.length]? with
  |none=>rw[hs']at hy;cases hy
  |some p=>
  rw[hs']at hy
  cases hy
  obtain⟨dn,t⟩:=p
  have hlt:done.length < ds.length:=(Ih.mp hs').1
  have hm:(dn,t)∈ds:=Ik hs'
  have hn1:=X1 _ _ hn
  simp only[Tg.put,Tg.zN,List.set_cons_succ,List.set_cons_zero]
  simp only[kH,ao,ah,v3,lk,c3,ag,eZ,jd,List.cons_append,List.nil_append]
  refine Dg (hg.dp _ hm) (by have:t.size<=60:=hg.sz _ hm;omega) (hg.gd _ hm) hg.jw hh hn1 fun pl S2 hpl X2 h2=>?_
  simp only[h2]
  have hn2:=X2 _ _ hn1
  refine bU (fun AO σ S'=>∃(x4 x5 x6:Option PV),σ=[some (.tup [qI js,.tup (ds.map eZ)]),some (.ref nm),some (.int (done.length:Int)),some (.tup [.str dn,t.pv]),x4,x5,x6]/\S'=S2/\∀z m,(Bd.put z m,true)∈(t.pr (mq hs) true).take AO.length->z∈hs) ⟨_,_,_,rfl,rfl,by simp⟩ (fun _ _ _ ⟨_,_,_,_,h,_⟩=>by rw[h];exact h2) ?_ ?_
  ·rintro AO x EG σ S3 K2 e2 ⟨y4,y5,y6,rfl,rfl,hd2⟩ FU
   obtain⟨y,rfl,hy⟩:=dF e2
   rw[HR]at hy
   cases hu:(t.pr (mq hs) true)[AO.length]? with
   |none=>rw[hu]at hy;cases hy
   |some u=>
   rw[hu]at hy
   cases hy
   obtain⟨u,f⟩:=u
   have hup:AO.length < t.size:=by rw[<-Bd.A6 (mq hs) t true];exact(Ih.mp hu).1
   have EH:(u,f)∈t.pr (mq hs) true:=Ik hu
   have cont:(f=true->∀z m,u=Bd.put z m->z∈hs)->∀(S':aq) (x6:Option PV),S'=S3->K2 [some (.tup [qI js,.tup (ds.map eZ)]),some (.ref nm),some (.int (done.length:Int)),some (.tup [.str dn,t.pv]),some (.int (AO.length:Int)),some (mB (u,f)),x6] S':=fun hc S' x6 eS=>FU _ _ ⟨_,_,_,rfl,eS,fun z m hz=>by
    rw[HC,HZ,Ke,hu,HN]at hz
    rcases hz with hz|hz
    ·exact hd2 z m hz
    ·have:(Bd.put z m,true)=(u,f):=by simpa using hz
     cases this
     exact hc rfl z m rfl⟩
   simp only[Tg.put,Tg.zN,List.set_cons_succ,List.set_cons_zero]
   refine al fun N3 Dd=>?_
   simp only[au,ah,v3,lk,c3,ag,mB,ft,List.set_cons_succ,List.set_cons_zero]
   refine Dd _ _ ?_
   simp only[bh,jB,aS,ah,v3,lk,c3,ag,jd]
   cases f with
   |false=>
    rw[if_neg (by decide),if_neg (by decide)]
    exact cont (fun h=>by cases h) _ _ rfl
   |true=>
   rw[if_pos rfl,Bd.BA]
   simp only[ft,jd,bg,HQ,HS]
   by_cases Cc:u.hd=("put":Str)
   ·obtain⟨z,m,rfl⟩:=(Bd.Df u).mp Cc
    rw[if_pos Cc]
    have hz:z∈t.zN (mq hs):=(Bd.Ae (mq hs) t).mpr ⟨m,EH⟩
    have Eh:z∈js:=t.z_ (hg.gd _ hm) hz
    simp only[Bd.tl,jd]
    refine dQ hn2 (hg.jw z Eh) hh ?_
    by_cases hin:z∈hs
    ·simp only[hin,IJ,Jq,Kr,HU,Iu]
     exact cont (fun _ z' m' e=>by cases e;exact hin) _ _ rfl
    ·simp only[hin,JM,Jq,JD,II]
     obtain⟨kk,hk1,hk2⟩:=qJ Eh
     simp only[az,ay,ao,vz,ah,v3,lk,c3,ag,ft,jd,qI,iH,i8]
     refine⟨kk,hk1,hk2,?_⟩
     simp only[ac,ao,ah,v3,lk,c3,ag,jd,ay]
     refine Eg (hg.dp _ hm) (by have:t.size<=60:=hg.sz _ hm;omega) hup fun S4 X4=>?_
     exact k1 kk z _ _ S4 (X1.trans (X2.trans X4)) hk1 ⟨done.length,AO.length,dn,t,m,rfl,rfl,hs',hu⟩ hin
   ·rw[if_neg Cc,if_neg (by decide),<-Bd.BA]
    exact cont (fun _ z m e=>absurd (by rw[e];rfl) Cc) _ _ rfl
  ·rintro σ S3 ⟨y4,y5,y6,rfl,rfl,hd2⟩
   have ln:(L3.aR ((t.pr (mq hs) true).map mB)).length=(t.pr (mq hs) true).length:=by unfold L3.aR;rw[JV,HD]
   rw[ln,K0]at hd2
   refine hK _ _ ⟨_,_,_,_,_,rfl,X1.trans X2,by rw[HC];exact hlt,fun p hp z hz=>?_⟩
   rw[HC,HZ,Ke,hs',HN]at hp
   rcases hp with hp|hp
   ·exact hd p hp z hz
   ·have:p=(dn,t):=by simpa using hp
    subst this
    obtain⟨m,hm'⟩:=(Bd.Ae (mq hs) t).mp hz
    exact hd2 z m hm'
 ·rintro σ S1 ⟨x2,x3,x4,x5,x6,rfl,X1,hl,hd⟩
  refine hN _ _ ?_
  have ln:(L3.aR (ds.map eZ)).length=ds.length:=by unfold L3.aR;rw[JV,HD]
  rw[ln,K0]at hd
  walk_at "x"
  refine k0 S1 X1 fun z hz=>?_
  obtain⟨p,hp,hz⟩:=JQ.mp hz
  exact hd p hp z hz
def lA(js:Vs)(ds:List (Str×Bd))(hs:Vs)(v:PV)(z:Str):Prop:=∃(k:Nat) (d tr:PV),v = .tup [.int (k:Int),d,tr]/\js[k]?=some z/\CQ ds hs d tr z
abbrev ik(w:aC):Prop:=∀{S:aq} {js:Vs} {ds:List (Str×Bd)} {Q:bQ} {E:cU},HG js ds->
  (∀p (vs:List PV) (hs:Vs) S',S p=none->Ext S S'->S' p=some (.lst vs)->vs.length=hs.length->(∀(j:Nat) v z,vs[j]?=some v->hs[j]?=some z->lA js ds (hs.take j) v z)->Fs ds hs->hs.Nodup->(∀z∈hs,z∈js)->(∀z∈An (mq hs) ds,z∈hs)->Q (.ref p) S')->w [Aq js ds] S Q E
def Bu{xn:aC}(Cb:jk xn):ik (zS 4 (gS xn)):=by
 intro S js ds Q E hg k
 unfold gS
 refine fP ?_
 rw[show aB 4 [Aq js ds]=[some (Aq js ds),none,none,none] from rfl]
 refine al fun N hN=>?_
 walk_at "x"
 intro pf hpf
 refine hN _ _ (al fun N hN=>?_)
 walk_at "x"
 intro pn Er
 have FV:pf≠pn:=fun e=>by rw[<-e,aa]at Er;cases Er
 have X0:Ext S (zL (zL S pf (.lst [])) pn (.lst [])):=(Ext.new hpf).trans (.new Er)
 have f0:(zL (zL S pf (.lst [])) pn (.lst [])) pf=some (.lst []):=by rw[aj FV,aa]
 have n0:(zL (zL S pf (.lst [])) pn (.lst [])) pn=some (.lst ([].map PV.str)):=aa
 have FW:S pn=none:=(Ext.new hpf).free Er
 generalize zL (zL S pf (.lst [])) pn (.lst [])=S0 at X0 f0 n0
 refine hN _ _ (al fun N hN=>?_)
 -- what holds EI the next step is known
 have I0:∀(v:PV) (S1:aq) (vs:List PV) (hs:Vs) (N':bY->aq->Prop),True:=fun _ _ _ _ _=>trivial
 have GA:∀(S1:aq) (vs:List PV) (hs:Vs) (R:PV->aq->Prop),Ext S S1->S1 pf=some (.lst vs)->S1 pn=some (.lst (hs.map PV.str))->vs.length=hs.length->(∀(j:Nat) v z,vs[j]?=some v->hs[j]?=some z->lA js ds (hs.take j) v z)->Fs ds hs->hs.Nodup->(∀z∈hs,z∈js)->
   (∀v S2,Ext S S2->S2 pf=some (.lst vs)->S2 pn=some (.lst (hs.map PV.str))->((v = .non/\∀z∈An (mq hs) ds,z∈hs)\/(∃z,lA js ds hs v z/\z ∉ hs/\z∈js))->R v S2)->xn [Aq js ds,.ref pn] S1 R dC:=by
  intro S1 vs hs R X1 f1 n1 h1 h2 h3 h4 h5 kk
  refine Cb hg (fun z hz=>hg.jw z (h5 z hz)) n1 (fun S2 X2 cl=>kk _ S2 (X1.trans X2) (X2 _ _ f1) (X2 _ _ n1) (.inl ⟨rfl,cl⟩)) fun kx z d tr S2 X2 a1 a2 a3=>?_
  exact kk _ S2 (X1.trans X2) (X2 _ _ f1) (X2 _ _ n1) (.inr ⟨z,⟨kx,d,tr,rfl,a1,a2⟩,a3,Ik a1⟩)
 simp only[au,ac,ao,v3,lk]
 refine GA S0 [] [] _ X0 f0 n0 rfl (fun j v z h=>by cases h) .nil Lf (fun z h=>by cases h) fun v0 S1 X1 f1 n1 c1=>?_
 simp only[List.set_cons_succ,List.set_cons_zero]
 refine hN _ _ (al fun N hN=>?_)
 refine⟨fun m σ S'=>∃(v:PV) (vs:List PV) (hs:Vs),σ=[some (Aq js ds),some (.ref pf),some (.ref pn),some v]/\Ext S S'/\S' pf=some (.lst vs)/\S' pn=some (.lst (hs.map PV.str))/\vs.length=hs.length/\(∀(j:Nat) v z,vs[j]?=some v->hs[j]?=some z->lA js ds (hs.take j) v z)/\Fs ds hs/\hs.Nodup/\(∀z∈hs,z∈js)/\
   ((v = .non/\∀z∈An (mq hs) ds,z∈hs)\/(∃z,lA js ds hs v z/\z ∉ hs/\z∈js))/\js.length - hs.length=m,⟨_,v0,[],[],rfl,X1,f1,n1,rfl,(fun j v z h=>by cases h),.nil,Lf,(fun z h=>by cases h),c1,rfl⟩,?_⟩
 rintro m σ S' ⟨v,vs,hs,rfl,X,f,nn,h1,h2,h3,h4,h5,c,rfl⟩
 rcases c with⟨rfl,cl⟩|⟨z,⟨kx,d,tr,rfl,hk,hx⟩,hnz,Eh⟩
 ·simp only[aS,ah,v3,lk,c3,tS,bne_self_eq_false,HU,Iu]
  refine hN _ _ ?_
  walk_at "x"
  exact k pf vs hs S' hpf X f h1 h2 h3 h4 h5 cl
 ·simp only[aS,ah,v3,lk,c3,tS,Bool.bne_false,II]
  refine⟨fun σ' C0=>∃(v:PV) (vs:List PV) (hs':Vs),σ'=[some (Aq js ds),some (.ref pf),some (.ref pn),some v]/\Ext S C0/\C0 pf=some (.lst vs)/\C0 pn=some (.lst (hs'.map PV.str))/\vs.length=hs'.length/\(∀(j:Nat) v z,vs[j]?=some v->hs'[j]?=some z->lA js ds (hs'.take j) v z)/\Fs ds hs'/\hs'.Nodup/\(∀z∈hs',z∈js)/\
   ((v = .non/\∀z∈An (mq hs') ds,z∈hs')\/(∃z,lA js ds hs' v z/\z ∉ hs'/\z∈js))/\js.length - hs'.length < js.length - hs.length,?_,?_⟩
  ·rintro σ' C0 ⟨v,vs,hs',rfl,a1,a2,a3,a4,a5,a6,a7,a8,a9,Hl⟩
   exact⟨_,Hl,v,vs,hs',rfl,a1,a2,a3,a4,a5,a6,a7,a8,a9,rfl⟩
  ·have hn1:(hs++[z]).Nodup:=List.nodup_append.mpr ⟨h4,by simp,fun a ha b hb e=>hnz (by rw[<-HM.mp hb,<-e];exact ha)⟩
   have hj1:∀y∈hs++[z],y∈js:=fun y hy=>(HN.mp hy).elim (h5 y) fun h=>by rw[HM.mp h];exact Eh
   have len:=gr (hs++[z]) js hn1 hj1
   have hz:=hx.zN
   have hjl:=hg.jl
   rw[HC,HZ]at len
   refine al fun N2 A0=>?_
   walk_at "x"
   simp only[f,Kd]
   refine⟨HY (show _ < 1001 by omega) (by decide),A0 _ _ (al fun N2 A0=>?_)⟩
   have Hm:pn≠pf:=JE FV
   have Xa:Ext S (zL S' pf (.lst (vs++[.tup [.int (kx:Int),d,tr]]))):=X.put hpf
   have fa:(zL S' pf (.lst (vs++[.tup [.int (kx:Int),d,tr]]))) pf=some (.lst (vs++[.tup [.int (kx:Int),d,tr]])):=aa
   have na:(zL S' pf (.lst (vs++[.tup [.int (kx:Int),d,tr]]))) pn=some (.lst (hs.map PV.str)):=by rw[aj Hm];exact nn
   generalize zL S' pf (.lst (vs++[.tup [.int (kx:Int),d,tr]]))=Sa at Xa fa na
   rw[show Aq js ds = .tup [qI js,.tup (ds.map eZ)] from rfl]
   walk_at "x"
   simp only[na,Kd,ft,qI]
   rw[cz (v:=PV.str z) (by rw[HR,hk];rfl)]
   simp only[na]
   refine⟨HY (show _ < 1001 by rw[HD];omega) (by decide),A0 _ _ ?_⟩
   have Xb:Ext S (zL Sa pn (.lst (hs.map PV.str++[.str z]))):=Xa.put FW
   have fb:(zL Sa pn (.lst (hs.map PV.str++[.str z]))) pf=some (.lst (vs++[.tup [.int (kx:Int),d,tr]])):=by rw[aj FV];exact fa
   have nb:(zL Sa pn (.lst (hs.map PV.str++[.str z]))) pn=some (.lst ((hs++[z]).map PV.str)):=by rw[aa,IA];rfl
   generalize zL Sa pn (.lst (hs.map PV.str++[.str z]))=Sb at Xb fb nb
   have st1:∀(j:Nat) v y,(vs++[.tup [.int (kx:Int),d,tr]])[j]?=some v->(hs++[z])[j]?=some y->lA js ds ((hs++[z]).take j) v y:=fun j v y hv hy=>by
    by_cases hj:j < vs.length
    ·rw[Iz hj]at hv
     rw[Iz (by omega)]at hy
     rw[List.take_append_of_le_length (by omega)]
     exact h2 j v y hv hy
    ·rw[IE (by omega)]at hv
     rw[IE (by omega)]at hy
     have e1:j - vs.length=0:=by
      have:=(Ih.mp hv).1
      rw[HZ]at this
      omega
     have e2:j - hs.length=0:=by omega
     rw[e1]at hv
     rw[e2]at hy
     cases hv;cases hy
     refine⟨kx,d,tr,rfl,hk,?_⟩
     rw[List.take_append_of_le_length (by omega),JU (by omega)]
     exact hx
   simp only[au,ac,ao,v3,lk]
   refine GA Sb _ (hs++[z]) _ Xb fb nb (by simp[h1]) st1 (.snoc h3 hz) hn1 hj1 fun v2 S2 X2 f2 n2 c2=>?_
   simp only[List.set_cons_succ,List.set_cons_zero]
   exact⟨v2,_,hs++[z],rfl,X2,f2,n2,by simp[h1],st1,.snoc h3 hz,hn1,hj1,c2,by rw[HC,HZ];omega⟩
def Dh(js:Vs)(ds:List (Str×Bd))(hs:Vs):Prop:=Fs ds hs/\hs.Nodup/\(∀z∈hs,z∈js)/\∀z∈An (mq hs) ds,z∈hs
abbrev dU(w:aC):Prop:=∀{S:aq} {js:Vs} {ds:List (Str×Bd)} {Q:bQ} {E:cU},HG js ds->
  (∀p (hs:Vs) S',S p=none->Ext S S'->S' p=some (.lst (hs.map PV.str))->Dh js ds hs->Q (.ref p) S')->w [Aq js ds] S Q E
def lB{xf:aC}(Bu:ik xf):dU (zS 1 (fH xf)):=by
 intro S js ds Q E hg k
 unfold fH
 refine fP ?_
 rw[show aB 1 [Aq js ds]=[some (Aq js ds)] from rfl]
 simp only[az,aH,aG,ac,ao,v3,lk]
 refine Bu hg fun p vs hs S1 hp X1 h1 hl hst f1 f2 f3 f4=>?_
 have hjl:=hg.jl
 have hle:=gr hs js f2 f3
 simp only[bI,h1]
 have ev:vs=(vs.zip hs).map Prod.fst:=by rw[List.map_fst_zip];omega
 have eh:(vs.zip hs).map (fun z=>PV.str z.2)=hs.map PV.str:=by
  have:(vs.zip hs).map Prod.snd=hs:=by rw[List.map_snd_zip];omega
  calc _=((vs.zip hs).map Prod.snd).map PV.str:=by rw[JL];rfl
   _=_:=by rw[this]
 have key:cx (.n 0) bp (ah ag (ah ag (v3 1) (c3 (.int 0))) (ah ag (v3 0) (c3 (.int 0)))) (dI 1 [0] [some (Aq js ds)]) (fun S'=>S' p=some (.lst vs)) (fun ys S2=>∀p,S2 p=none->Q (.ref p) (zL S2 p (.lst ys))) ((vs.zip hs).map Prod.fst) [] S1:=by
  refine cG Prod.fst (fun z=>PV.str z.2) h1 (vs.zip hs) [] (fun z hz=>?_) (by rw[Jh,Kh,List.length_zip];exact bO (by omega)) fun q hq=>?_
  ·obtain⟨j,hj⟩:=List.getElem?_of_mem hz
   obtain⟨e1,e2⟩:=Kl.mp hj
   obtain⟨kx,d,tr,ez,hk,_⟩:=hst j _ _ e1 e2
   refine⟨_,rfl,fun Q' q'=>?_⟩
   rw[ez,show Aq js ds = .tup [qI js,.tup (ds.map eZ)] from rfl]
   walk_at "x"
   simp only[ft,qI]
   rw[cz (v:=PV.str z.2) (by rw[HR,hk];rfl)]
   exact q'
  ·rw[Jx,eh]
   exact k q hs _ (X1.free hq) (X1.trans (.new hq)) aa ⟨f1,f2,f3,f4⟩
 rw[<-ev]at key
 exact key
def BG(p:Addr)(S S':aq):Prop:=∀a o,S a=some o->a≠p->S' a=some o
def BG.refl{p:Addr}{S:aq}:BG p S S:=fun _ _ h _=>h
def BG.trans{p:Addr}{S S1 S2:aq}(a:BG p S S1)(b:BG p S1 S2):BG p S S2:=fun x o h n=>b x o (a x o h n) n
def BG.upd{p:Addr}{S:aq}{o:SO}:BG p S (zL S p o):=fun x u h n=>by rw[aj n];exact h
theorem Bd.zX(q:Qs):∀t:Bd,(t.zN q).length<=t.size
 | .rest=>Il _
 | .pay _ _=>Il _
 | .put _ _=>HF _
 | .use _=>Il _
 | .AN a=>HX (a.zX q) (Nat.le_succ _)
 | .zP a b=>by show(a.zN q++b.zN q).length<=a.size+b.size+1;rw[HC];have:=a.zX q;have:=b.zX q;omega
 | .AD a b=>by show(a.zN q++b.zN q).length<=a.size+b.size+1;rw[HC];have:=a.zX q;have:=b.zX q;omega
 | .Au z m a b=>by
  show((if q z=true then a.zN q else [])++b.zN q).length<=a.size+b.size+1
  rw[HC]
  have:=a.zX q;have:=b.zX q
  split
  ·omega
  ·simp;omega
abbrev e9(n:Nat)(w:aC):Prop:=∀{S:aq} {t:Bd} {js us hs fs:Vs} {hl fd:Addr} {Q:bQ} {E:cU},t.dep<=n->t.good js us->mC js->mC hs->S hl=some (.lst (hs.map PV.str))->S fd=some (.lst (fs.map PV.str))->hl≠fd->fs.length+t.size<=1000000->
  (∀S',BG fd S S'->S' fd=some (.lst ((fs++t.zN (mq hs)).map PV.str))->Q .non S')->w [t.pv,.ref hl,.ref fd] S Q E
def mD:∀z∈(["then","either","take"]:Vs),PyData.strOk z=true:=by decide +kernel
def qK{s0:aC}(n:Nat)(ih:e9 n s0):e9 (n+1) (zS 3 (eI s0)):=by
 intro S t js us hs fs hl fd Q E hd hg hj hh h1 h2 hne hsz k
 unfold eI
 refine fP ?_
 rw[Bd.BA,show aB 3 [.tup (.str t.hd::t.tl),.ref hl,.ref fd]=[some (.tup (.str t.hd::t.tl)),some (.ref hl),some (.ref fd)] from rfl]
 refine al fun N hN=>?_
 have leaf:∀S1:aq,t.hd≠("often":Str)->t.hd ∉ (["then","either","take"]:Vs)->Q .non S1->N [some (.tup (.str t.hd::t.tl)),some (.ref hl),some (.ref fd)] S1:=fun S1 ho h3 q=>by
  refine hN _ _ (al fun N hN=>?_)
  simp only[bh,aS,ah,v3,lk,c3,ag,ft,bg,HQ,HS]
  rw[if_neg ho]
  refine hN _ _ ?_
  simp only[bh,aS,ah,v3,lk,c3,ag,ft,ay,ao]
  rw[kL]
  refine bV t.Cy mD ?_
  simp only[h3,JM,HQ,HU,Iu]
  exact q
 simp only[bh,aS,ah,v3,lk,c3,ag,ft,bg,HQ,HS]
 by_cases Cc:t.hd=("put":Str)
 ·rw[if_pos Cc]
  obtain⟨z,m,rfl⟩:=(Bd.Df t).mp Cc
  simp only[aU,d_,mn,ao,ah,v3,lk,c3,ag,jd,Bd.tl,bm,h2,Kd]
  have hs1:(Bd.put z m).size=1:=rfl
  refine⟨HY (show _ < 1000001 by rw[HD];omega) (by decide),leaf _ (by simp[Bd.hd,aF]) (by simp[Bd.hd,aF]) (k _ .upd ?_)⟩
  rw[aa,IA]
  rfl
 rw[if_neg Cc]
 by_cases Di:t.hd=("often":Str)
 ·obtain⟨a,rfl⟩:=(Bd.Ed t).mp Di
  refine hN _ _ (al fun N hN=>?_)
  simp only[bh,aS,ah,v3,lk,c3,ag,ft,bg,HQ,HS]
  rw[if_pos Di]
  simp only[aU,ac,ao,ah,v3,lk,c3,ag,jd,Bd.tl]
  simp only[Bd.dep]at hd
  have hs1:(Bd.AN a).size=a.size+1:=rfl
  refine ih (by omega) hg hj hh h1 h2 hne (by omega) fun S1 X1 f1=>?_
  refine hN _ _ ?_
  simp only[bh,aS,ah,v3,lk,c3,ag,ft,ay,ao]
  rw[kL]
  refine bV (Bd.AN a).Cy mD ?_
  simp only[Bd.hd,aF,String.reduceEq,HL,Ic,IY,or_self,JM,HQ,HU,Iu]
  exact k S1 X1 f1
 by_cases h3:t.hd∈(["then","either","take"]:Vs)
 ·refine hN _ _ (al fun N hN=>?_)
  simp only[bh,aS,ah,v3,lk,c3,ag,ft,bg,HQ,HS]
  rw[if_neg Di]
  refine hN _ _ ?_
  simp only[bh,aS,ah,v3,lk,c3,ag,ft,ay,ao]
  rw[kL]
  refine bV t.Cy mD ?_
  simp only[h3,IJ,HQ,II]
  refine al fun N2 A0=>?_
  -- the second side
  have snd:∀(hd2:List PV) (a b:Bd) (S1:aq) (E6:Vs),(.str t.hd::t.tl)=hd2++[a.pv,b.pv]->b.dep<=n->b.good js us->BG fd S S1->S1 fd=some (.lst (E6.map PV.str))->E6.length+b.size<=1000000->E6++b.zN (mq hs)=fs++t.zN (mq hs)->N2 [some (.tup (.str t.hd::t.tl)),some (.ref hl),some (.ref fd)] S1:=fun hd2 a b S1 E6 e1 g1 g2 X1 f1 l1 e2=>by
   refine A0 _ _ ?_
   simp only[aU,ac,ao,ah,v3,lk,c3,ag,d9,bq]
   have e3:Ar (.str t.hd::t.tl) (-1)=some b.pv:=by rw[e1];have:=cY (a:=a.pv) (b:=b.pv) (hd:=hd2) (i:=1) (.inr rfl);simpa using this
   rw[e3]
   refine ih g1 g2 hj hh (X1 _ _ h1 hne) f1 hne l1 fun S2 X2 f2=>?_
   rw[e2]at f2
   exact k S2 (X1.trans X2) f2
  have fst:∀(hd2:List PV) (a b:Bd) (Q':bQ),(.str t.hd::t.tl)=hd2++[a.pv,b.pv]->a.dep<=n->a.good js us->fs.length+a.size<=1000000->(∀S1,BG fd S S1->S1 fd=some (.lst ((fs++a.zN (mq hs)).map PV.str))->Q' .non S1)->ac s0 [ah ag (v3 0) (d9 bq (c3 (.int 2))),v3 1,v3 2] [some (.tup (.str t.hd::t.tl)),some (.ref hl),some (.ref fd)] S Q' dC:=fun hd2 a b Q' e1 g1 g2 l1 kk=>by
   simp only[ac,ao,ah,v3,lk,c3,ag,d9,bq]
   have e3:Ar (.str t.hd::t.tl) (-2)=some a.pv:=by rw[e1];have:=cY (a:=a.pv) (b:=b.pv) (hd:=hd2) (i:=0) (.inl rfl);simpa using this
   rw[e3]
   exact ih g1 g2 hj hh h1 h2 hne l1 kk
  simp only[bh,iT,aS,ah,v3,lk,c3,ag,ft,bg,Jq,Bool.not_eq_true',decide_eq_false_iff_not,aU]
  have la:∀c:Bd,(c.zN (mq hs)).length<=c.size:=Bd.zX (mq hs)
  cases t with
  |zP a b=>
   have hs1:(Bd.zP a b).size=a.size+b.size+1:=rfl
   simp only[Bd.dep]at hd
   rw[if_pos (by simp[Bd.hd,aF]),if_pos trivial]
   refine fst [.str "then"] a b _ rfl (by omega) hg.1 (by omega) fun S1 X1 f1=>?_
   exact snd [.str "then"] a b S1 _ rfl (by omega) hg.2 X1 f1 (by rw[HC];have:=la a;omega) (by rw[KN];rfl)
  |AD a b=>
   have hs1:(Bd.AD a b).size=a.size+b.size+1:=rfl
   simp only[Bd.dep]at hd
   rw[if_pos (by simp[Bd.hd,aF]),if_pos trivial]
   refine fst [.str "either"] a b _ rfl (by omega) hg.1 (by omega) fun S1 X1 f1=>?_
   exact snd [.str "either"] a b S1 _ rfl (by omega) hg.2 X1 f1 (by rw[HC];have:=la a;omega) (by rw[KN];rfl)
  |Au z m a b=>
   have hs1:(Bd.Au z m a b).size=a.size+b.size+1:=rfl
   have ep:(Bd.Au z m a b).zN (mq hs)=(if mq hs z=true then a.zN (mq hs) else [])++b.zN (mq hs):=rfl
   simp only[Bd.dep]at hd
   rw[if_neg (by simp[Bd.hd])]
   simp only[Bd.tl,jd]
   refine dQ h1 (hj z hg.1) hh ?_
   by_cases hin:z∈hs
   ·simp only[hin,IJ,HQ,II]
    rw[show mq hs z=true from IB hin,if_pos rfl]at ep
    refine fst [.str "take",.str z,.int m] a b _ rfl (by omega) hg.2.2.2.1 (by omega) fun S1 X1 f1=>?_
    exact snd [.str "take",.str z,.int m] a b S1 _ rfl (by omega) hg.2.2.2.2 X1 f1 (by rw[HC];have:=la a;omega) (by rw[ep,KN])
   ·simp only[hin,JM,HQ,HU,Iu]
    rw[show mq hs z=false from Ij hin,if_neg (by decide),Jx]at ep
    exact snd [.str "take",.str z,.int m] a b S fs rfl (by omega) hg.2.2.2.2 .refl h2 (by omega) (by rw[ep])
  |_=>simp[Bd.hd,aF]at h3
 ·refine leaf S Di h3 (k S .refl ?_)
  have e:t.zN (mq hs)=[]:=by cases t<;>first|rfl|exact absurd rfl Cc|exact absurd rfl Di|simp[Bd.hd]at h3
  rw[e,Ip]
  exact h2
theorem j5{js:Vs}{ds:List (Str×Bd)}(hg:HG js ds)(q:Qs):∀n,n<=ds.length->(An q (ds.take n)).length<=60 * n
 |0,_=>by simp[An]
 |n+1,h=>by
  have ih:=j5 hg q n (by omega)
  have hlt:n < ds.length:=by omega
  unfold An at *
  rw[Ke,Ib hlt,Jg,HC]
  have h1:=Bd.zX q ds[n].2
  have h2:ds[n].2.size<=60:=hg.sz _ (Kg hlt)
  simp only[Option.toList_some,Lm,List.flatMap_nil,Ip]
  omega
theorem nl{js:Vs}{ds:List (Str×Bd)}(hg:HG js ds):∀k,∀z∈held ds k,z∈js
 |0,z,h=>by cases h
 |k+1,z,h=>by
  obtain⟨p,hp,hz⟩:=JQ.mp h
  exact p.2.z_ (hg.gd p hp) hz
abbrev gV(w:aC):Prop:=∀{S:aq} {js:Vs} {ds:List (Str×Bd)} {Q:bQ} {E:cU},HG js ds->(∀p S',S p=none->Ext S S'->S' p=some (.lst ((held ds js.length).map PV.str))->Q (.ref p) S')->w [Aq js ds] S Q E
def BZ{xp:aC}(DD:e9 6 xp):gV (zS 6 (cr xp)):=by
 intro S js ds Q E hg k
 unfold cr
 refine fP ?_
 rw[show aB 6 [Aq js ds]=[some (.tup [qI js,.tup (ds.map eZ)]),none,none,none,none,none] from rfl]
 have hdl:=hg.dl
 refine al fun N hN=>?_
 walk_at "x"
 intro p0 hp0
 have X0:Ext S (zL S p0 (.lst [])):=.new hp0
 have f0:(zL S p0 (.lst [])) p0=some (.lst ((held ds 0).map PV.str)):=aa
 generalize zL S p0 (.lst [])=S0 at X0 f0
 refine hN _ _ (al fun N hN=>?_)
 simp only[cm,aG,ah,v3,lk,c3,ag,ft,qI,bI]
 refine bU (fun done σ S'=>∃(p:Addr) (x2 x3 x4 x5:Option PV),σ=[some (.tup [.tup (js.map PV.str),.tup (ds.map eZ)]),some (.ref p),x2,x3,x4,x5]/\S p=none/\Ext S S'/\S' p=some (.lst ((held ds done.length).map PV.str))) ⟨p0,_,_,_,_,rfl,hp0,X0,f0⟩ (fun _ _ _ _=>trivial) ?_ ?_
 ·rintro done x rest σ S1 K e ⟨p,x2,x3,x4,x5,rfl,hp,X1,f1⟩ hK
  simp only[Tg.put,List.set_cons_succ,List.set_cons_zero]
  refine al fun N2 A0=>?_
  walk_at "x"
  intro pf hpf
  have FX:p≠pf:=fun h=>by rw[h,hpf]at f1;cases f1
  have EJ:S pf=none:=X1.free hpf
  have X2:Ext S (zL S1 pf (.lst [])):=X1.trans (.new hpf)
  have f2:(zL S1 pf (.lst [])) p=some (.lst ((held ds done.length).map PV.str)):=by rw[aj FX];exact f1
  have g2:(zL S1 pf (.lst [])) pf=some (.lst (([]:Vs).map PV.str)):=aa
  generalize zL S1 pf (.lst [])=S2 at X2 f2 g2
  refine A0 _ _ (al fun N2 A0=>?_)
  simp only[cm,aG,ah,v3,lk,c3,ag,jd,bI]
  have hJ:mC (held ds done.length):=fun z hz=>hg.jw z (nl hg _ z hz)
  refine bU (fun AO σ S'=>∃(x4 x5:Option PV),σ=[some (.tup [.tup (js.map PV.str),.tup (ds.map eZ)]),some (.ref p),some x,some (.ref pf),x4,x5]/\AO.length<=ds.length/\BG pf S2 S'/\S' pf=some (.lst ((An (mq (held ds done.length)) (ds.take AO.length)).map PV.str))) ⟨_,_,rfl,Il _,.refl,by simpa [An]using g2⟩ (fun _ _ _ _=>trivial) ?_ ?_
  ·rintro AO y EG σ S3 K2 e2 ⟨x4,x5,rfl,hl2,X3,f3⟩ FU
   have hy:(ds.map eZ)[AO.length]?=some y:=by rw[e2];simp
   rw[HR]at hy
   cases hd:ds[AO.length]? with
   |none=>rw[hd]at hy;cases hy
   |some q=>
   rw[hd]at hy
   cases hy
   obtain⟨dn,t⟩:=q
   have hlt:AO.length < ds.length:=(Ih.mp hd).1
   have hm:(dn,t)∈ds:=Ik hd
   simp only[eZ,Tg.put,Tg.zN,List.set_cons_succ,List.set_cons_zero]
   simp only[aU,ac,ao,v3,lk]
   have lb:=j5 hg (mq (held ds done.length)) AO.length hl2
   refine DD (hg.dp _ hm) (hg.gd _ hm) hg.jw hJ (X3 _ _ f2 FX) f3 FX (by have:t.size<=60:=hg.sz _ hm;omega) fun S4 X4 f4=>?_
   refine FU _ _ ⟨_,_,rfl,by rw[HC];exact hlt,X3.trans X4,?_⟩
   rw[f4,HC,HZ]
   congr 3
   unfold An
   rw[Ke,hd,Jg]
   simp
  ·rintro σ S3 ⟨x4,x5,rfl,hl2,X3,f3⟩
   rw[HD,K0]at f3
   refine A0 _ _ ?_
   walk_at "x"
   refine hK _ _ ⟨pf,_,_,_,_,rfl,EJ,fun a o h=>X3 a o (X2 a o h) (fun e=>by rw[e,EJ]at h;cases h),?_⟩
   rw[f3,HC,HZ]
   rfl
 ·rintro σ S1 ⟨p,x2,x3,x4,x5,rfl,hp,X1,f1⟩
  refine hN _ _ ?_
  walk_at "x"
  rw[HD]at f1
  exact k p S1 hp X1 f1
noncomputable def Bd.ps(q:Qs):Bd->List PV
 | .rest=>[.tup []]
 | .pay _ _=>[.tup []]
 | .put _ _=>[.tup []]
 | .use _=>[.tup []]
 | .AN _=>[.tup []]
 | .zP a b=>(a.ps q).flatMap fun x=>(b.ps q).map fun y=>.tup [x,y]
 | .AD a b=>(a.ps q).map (fun x=>.tup [.int 0,x])++(b.ps q).map fun x=>.tup [.int 1,x]
 | .Au z _ a b=>(if q z then (a.ps q).map (fun x=>.tup [.int 0,x]) else [])++(b.ps q).map fun x=>.tup [.int 1,x]
def lC{α β:Type}(xs:List α)(ys:List β)(f:α->β->PV):(xs.flatMap fun x=>ys.map (f x)).length=xs.length * ys.length:=by
 induction xs with
 |nil=>simp
 |cons x r ih=>rw[Lm,HC,ih,HD,HW,Nat.succ_mul];omega
theorem Bd.zV(q:Qs):∀t:Bd,(t.ps q).length<=t.zK
 | .rest=>HF _
 | .pay _ _=>HF _
 | .put _ _=>HF _
 | .use _=>HF _
 | .AN _=>HF _
 | .zP a b=>by show((a.ps q).flatMap fun x=>(b.ps q).map fun y=>_).length<=a.zK * b.zK;rw[lC];exact Lh (a.zV q) (b.zV q)
 | .AD a b=>by
  show((a.ps q).map _++(b.ps q).map _).length<=a.zK+b.zK
  rw[HC,HD,HD];exact Nat.add_le_add (a.zV q) (b.zV q)
 | .Au z _ a b=>by
  show((if q z=true then (a.ps q).map _ else [])++(b.ps q).map _).length<=a.zK+b.zK
  rw[HC,HD]
  have:=a.zV q;have:=b.zV q
  split
  ·rw[HD];omega
  ·simp;omega
theorem Bd.BH:∀t:Bd,1<=t.zK
 | .rest=>HF _
 | .pay _ _=>HF _
 | .put _ _=>HF _
 | .use _=>HF _
 | .AN _=>HF _
 | .zP a b=>Nat.mul_pos a.BH b.BH
 | .AD a b=>HX a.BH (Jm _ _)
 | .Au _ _ a b=>HX a.BH (Jm _ _)
abbrev bW(n:Nat)(w:aC):Prop:=∀{S:aq} {t:Bd} {js us hs:Vs} {nm:Addr} {Q:bQ} {E:cU},t.dep<=n->t.zK<=1000->t.good js us->mC js->mC hs->S nm=some (.lst (hs.map PV.str))->
  (∀p S',S p=none->Ext S S'->S' p=some (.lst (t.ps (mq hs)))->Q (.ref p) S')->w [t.pv,.ref nm] S Q E
abbrev gW(n:Nat)(w:aC):Prop:=∀{S:aq} {a b:Bd} {js us hs:Vs} {nm:Addr} {Q:bQ} {E:cU},a.dep<=n->b.dep<=n->a.zK * b.zK<=1000->(Bd.zP a b).good js us->mC js->mC hs->S nm=some (.lst (hs.map PV.str))->
  (∀p S',S p=none->Ext S S'->S' p=some (.lst ((Bd.zP a b).ps (mq hs)))->Q (.ref p) S')->w [(Bd.zP a b).pv,.ref nm] S Q E
def qL{a b:Bd}(h:a.zK * b.zK<=1000):a.zK<=1000/\b.zK<=1000:=
 ⟨HX (Nat.le_mul_of_pos_right _ b.BH) h,HX (Nat.le_mul_of_pos_left _ a.BH) h⟩
def gw{S:aq}{p:Addr}{xs:List PV}{σ:bY}{i:Int}{fin:List PV->aq->Prop}(h:S p=some (.lst xs))(hl:xs.length<=1000)(f:fin (xs.map fun x=>.tup [.int i,x]) S) :
  cx (.n 0) bp (ay [c3 (.int i),v3 0]) (dI 1 [] σ) (fun S'=>S' p=some (.lst xs)) fin xs [] S:=by
 have:=cG (g:=.n 0) (te:=ay [c3 (.int i),v3 0]) (σ':=dI 1 [] σ) (keep:=fun S'=>S' p=some (.lst xs)) (fin:=fin) (fun x:PV=>x) (fun x=>.tup [.int i,x]) h xs [] (fun x hx=>⟨_,rfl,fun Q q=>q⟩) (by rw[Jh,Kh];exact bO hl) f
 rw[List.map_id']at this
 exact this
def j6{S S1:aq}{xs ys:List PV}{pa pb pf:Addr}{v0 v1 x4:Option PV}{N:bY->aq->Prop}{Q:bQ}(hpf:S pf=none)(X1:Ext S S1)(fa:S1 pa=some (.lst xs))(fb:S1 pb=some (.lst ys))(ff:S1 pf=some (.lst []))(na:pa≠pf)(nb:pb≠pf)(hl:xs.length * ys.length<=1000)
  (k:∀(S2:aq) (x:Option PV),Ext S S2->S2 pf=some (.lst (xs.flatMap fun x=>ys.map fun y=>.tup [x,y]))->N [v0,v1,some (.ref pf),some (.ref pb),x] S2) :
  kE (.n 4) (aU (d_ "list" bf (v3 2) [aH (aG (v3 3)) (.n 0) bp (ay [v3 1,v3 0]) 1 [4]])) { nx:=N,rt:=Q,ex:=dC } (fun S'=>S' pa=some (.lst xs)) xs [v0,v1,some (.ref pf),some (.ref pb),x4] S1:=by
 refine bU (fun done σ S'=>∃(x:Option PV),σ=[v0,v1,some (.ref pf),some (.ref pb),x]/\Ext S S'/\BG pf S1 S'/\S' pf=some (.lst (done.flatMap fun x=>ys.map fun y=>.tup [x,y]))) ⟨_,rfl,X1,.refl,ff⟩ (fun _ _ _ ⟨_,_,_,XB,_⟩=>XB _ _ fa na) ?_ ?_
 ·rintro done x rest σ S2 K e ⟨y4,rfl,X2,XB,f2⟩ hK
  have hb2:=XB _ _ fb nb
  simp only[Tg.put,List.set_cons_succ,List.set_cons_zero]
  simp only[aU,d_,mn,ao,v3,lk,f2,Kd,aH,aG,bI,hb2]
  have Hn:ys.length<=1000:=by
   have h1:1<=xs.length:=by rw[e,HC,HW];omega
   exact HX (Nat.le_mul_of_pos_left _ h1) hl
  have key:=cG (g:=.n 0) (te:=ay [v3 1,v3 0]) (σ':=dI 1 [4] [v0,v1,some (.ref pf),some (.ref pb),some x]) (keep:=fun S'=>S' pb=some (.lst ys)) (fin:=fun zs S3=>∀q,S3 q=none->bf (.ref pf) [.ref q] (zL S3 q (.lst zs)) fun _ S4=>K [v0,v1,some (.ref pf),some (.ref pb),some x] S4) (fun y:PV=>y) (fun y=>.tup [x,y]) hb2 ys [] (fun y hy=>⟨_,rfl,fun Q q=>q⟩) (by rw[Jh,Kh];exact bO Hn) (by
   intro q hq
   rw[Jx]
   have nq:pf≠q:=fun h=>by rw[h,hq]at f2;cases f2
   simp only[bf,aj nq,f2,aa]
   have hlen:(done.flatMap fun x=>ys.map fun y=>PV.tup [x,y]).length=done.length * ys.length:=lC done ys fun x y=>.tup [x,y]
   have hle:done.length * ys.length+ys.length<=1000:=by
    have:(done.length+1) * ys.length<=xs.length * ys.length:=Nat.mul_le_mul_right _ (by rw[e,HC,HW];omega)
    rw[Nat.succ_mul]at this
    omega
   refine⟨bO (by rw[hlen,HD];exact hle),hK _ _ ⟨_,rfl,(X2.trans (.new hq)).put hpf,fun a o h n=>?_,?_⟩⟩
   ·have h2:=XB a o h n
    rw[aj n,aj (fun h'=>by rw[h',hq]at h2;cases h2)]
    exact h2
   ·rw[aa,Jg];simp)
  rw[List.map_id']at key
  exact key
 ·rintro σ S2 ⟨x,rfl,X2,XB,f2⟩
  exact k S2 x X2 f2
def qM{s0 s1:aC}(n:Nat)(ih:bW n s1):gW n (zS 5 (bC s0 s1)):=by
 intro S a b js us hs nm Q E ha hb hp hg hj hh hn k
 obtain⟨FY,FZ⟩:=qL hp
 unfold bC
 refine fP ?_
 rw[show aB 5 [(Bd.zP a b).pv,.ref nm]=[some (.tup [.str "then",a.pv,b.pv]),some (.ref nm),none,none,none] from rfl]
 refine al fun N hN=>?_
 walk_at "x"
 intro pf hpf
 have X0:Ext S (zL S pf (.lst [])):=.new hpf
 have f0:(zL S pf (.lst [])) pf=some (.lst []):=aa
 generalize zL S pf (.lst [])=S0 at X0 f0
 refine hN _ _ (al fun N hN=>?_)
 walk_at "x"
 simp only[vZ]
 refine ih hb FZ hg.2 hj hh (X0 _ _ hn) fun pb S1 CG X1 h1=>?_
 refine hN _ _ (al fun N hN=>?_)
 simp only[cm,aG,ac,ao,ah,v3,lk,c3,ag,jd]
 refine ih ha FY hg.1 hj hh (X1 _ _ (X0 _ _ hn)) fun pa S2 hpa X2 h2=>?_
 simp only[bI,h2]
 have nb:pb≠pf:=fun h=>by rw[h,f0]at CG;cases CG
 have na:pa≠pf:=fun h=>by rw[h,X1 _ _ f0]at hpa;cases hpa
 have F0:(a.ps (mq hs)).length * (b.ps (mq hs)).length<=1000:=HX (Lh (a.zV _) (b.zV _)) hp
 refine j6 hpf (X0.trans (X1.trans X2)) h2 (X2 _ _ h1) (X2 _ _ (X1 _ _ f0)) na nb F0 fun S3 x X3 f3=>?_
 refine hN _ _ ?_
 walk_at "x"
 exact k pf S3 hpf X3 f3
def Cd{s0 s1:aC}(n:Nat)(Ho:gW n s0)(ih:bW n s1):bW (n+1) (zS 3 (cW s0 s1)):=by
 intro S t js us hs nm Q E hd hp hg hj hh hn k
 unfold cW
 refine fP ?_
 rw[Bd.BA,show aB 3 [.tup (.str t.hd::t.tl),.ref nm]=[some (.tup (.str t.hd::t.tl)),some (.ref nm),none] from rfl]
 refine al fun N hN=>?_
 simp only[bh,aS,ah,v3,lk,c3,ag,ft,bg,HQ,HS]
 by_cases h1:t.hd=("then":Str)
 ·rw[if_pos h1]
  obtain⟨a,b,rfl⟩:=(Bd.De t).mp h1
  simp only[Bd.dep]at hd
  simp only[az,ac,ao,v3,lk]
  rw[<-Bd.BA]
  exact Ho (by omega) (by omega) hp hg hj hh hn k
 rw[if_neg h1]
 refine hN _ _ (al fun N hN=>?_)
 walk_at "x"
 simp only[ft]
 rw[show([PV.str "either",PV.str "take"]:List PV)=(["either","take"]:Vs).map PV.str from rfl]
 refine bV t.Cy xz ?_
 by_cases h2:t.hd∈(["either","take"]:Vs)
 ·simp only[h2,IJ,Jq,Kr,HU,Iu]
  refine hN _ _ (al fun N hN=>?_)
  have sides:∀(hd2:List PV) (a b:Bd),(.str t.hd::t.tl)=hd2++[a.pv,b.pv]->Ar (.str t.hd::t.tl) (-1)=some b.pv/\Ar (.str t.hd::t.tl) (-2)=some a.pv:=fun hd2 a b e1=>⟨by rw[e1];have:=cY (a:=a.pv) (b:=b.pv) (hd:=hd2) (i:=1) (.inr rfl);simpa using this,by rw[e1];have:=cY (a:=a.pv) (b:=b.pv) (hd:=hd2) (i:=0) (.inl rfl);simpa using this⟩
  have fin:∀(a b:Bd) (hd2:List PV),(.str t.hd::t.tl)=hd2++[a.pv,b.pv]->a.dep<=n->b.dep<=n->a.zK+b.zK<=1000->a.good js us->b.good js us->
    (∀(po:Addr) (S2:aq),S po=none->Ext S S2->S2 po=some (.lst ((b.ps (mq hs)).map fun x=>.tup [.int 1,x]))->N [some (.tup (.str t.hd::t.tl)),some (.ref nm),some (.ref po)] S2)->au 2 (aH (aG (ac s1 [ah ag (v3 0) (d9 bq (c3 (.int 1))),v3 1])) (.n 0) bp (ay [c3 (.int 1),v3 0]) 1 []) { nx:=N,rt:=Q,ex:=dC } [some (.tup (.str t.hd::t.tl)),some (.ref nm),none] S:=by
   intro a b hd2 e1 da db E7 ga gb kk
   simp only[au,aH,aG,ac,ao,ah,v3,lk,c3,ag,d9,bq,(sides hd2 a b e1).1]
   refine ih db (by omega) gb hj hh hn fun pb S1 CG X1 f1=>?_
   simp only[bI,f1]
   refine gw f1 (HX (b.zV _) (by omega)) fun po CS=>?_
   exact kk po _ (X1.free CS) (X1.trans (.new CS)) aa
  have both:∀(a b:Bd) (hd2:List PV) (po:Addr) (S2:aq),(.str t.hd::t.tl)=hd2++[a.pv,b.pv]->a.dep<=n->a.zK+b.zK<=1000->a.good js us->S po=none->Ext S S2->S2 po=some (.lst ((b.ps (mq hs)).map fun x=>.tup [.int 1,x]))->t.ps (mq hs)=(a.ps (mq hs)).map (fun x=>.tup [.int 0,x])++(b.ps (mq hs)).map (fun x=>.tup [.int 1,x])->
    az (ah aP (aH (aG (ac s1 [ah ag (v3 0) (d9 bq (c3 (.int 2))),v3 1])) (.n 0) bp (ay [c3 (.int 0),v3 0]) 1 []) (v3 2)) { nx:=fun _ S'=>Q .non S',rt:=Q,ex:=dC } [some (.tup (.str t.hd::t.tl)),some (.ref nm),some (.ref po)] S2:=by
   intro a b hd2 po S2 e1 da E7 ga CS X2 f2 et
   simp only[az,aH,aG,ac,ao,ah,v3,lk,c3,ag,d9,bq,(sides hd2 a b e1).2]
   refine ih da (by omega) ga hj hh (X2 _ _ hn) fun pa S3 hpa X3 f3=>?_
   simp only[bI,f3]
   have la:=a.zV (mq hs)
   have lb:=b.zV (mq hs)
   refine gw f3 (by omega) fun pq hpq=>?_
   have f4:=X3 _ _ f2
   have nq:po≠pq:=fun h=>by rw[h,hpq]at f4;cases f4
   simp only[aP,aa,aj nq,f4]
   refine⟨bO (by rw[HD,HD];omega),fun pr EK=>?_⟩
   have Xq:Ext S (zL S3 pq (.lst ((a.ps (mq hs)).map fun x=>.tup [.int 0,x]))):=X2.trans (X3.trans (.new hpq))
   exact k pr _ (Xq.free EK) (Xq.trans (.new EK)) (by rw[aa,et])
  cases t with
  |AD a b=>
   simp only[Bd.dep]at hd
   refine fin a b [.str "either"] rfl (by omega) (by omega) hp hg.1 hg.2 fun po S2 CS X2 f2=>hN _ _ (al fun N hN=>?_)
   simp only[Bd.hd]
   walk_at "y"
   refine hN _ _ ?_
   exact both a b [.str "either"] po S2 rfl (by omega) hp hg.1 CS X2 f2 rfl
  |Au z m a b=>
   simp only[Bd.dep]at hd
   refine fin a b [.str "take",.str z,.int m] rfl (by omega) (by omega) hp hg.2.2.2.1 hg.2.2.2.2 fun po S2 CS X2 f2=>hN _ _ (al fun N hN=>?_)
   have ep:(Bd.Au z m a b).ps (mq hs)=(if mq hs z=true then (a.ps (mq hs)).map (fun x=>.tup [.int 0,x]) else [])++(b.ps (mq hs)).map fun x=>.tup [.int 1,x]:=rfl
   simp only[bh,jB,aS,ah,v3,lk,c3,ag,ft,jd,Bd.hd,Bd.tl,bg,HQ,IJ,II]
   refine dQ (X2 _ _ hn) (hj z hg.1) hh ?_
   by_cases hin:z∈hs
   ·simp only[hin,IJ,Jq,Kr,HU,Iu]
    rw[show mq hs z=true from IB hin,if_pos rfl]at ep
    refine hN _ _ ?_
    exact both a b [.str "take",.str z,.int m] po S2 rfl (by omega) hp hg.2.2.2.1 CS X2 f2 ep
   ·simp only[hin,JM,Jq,JD,II]
    rw[show mq hs z=false from Ij hin,if_neg (by decide),Jx]at ep
    walk_at "x"
    exact k po S2 CS X2 (by rw[ep];exact f2)
  |_=>simp[Bd.hd,aF]at h2
 ·simp only[h2,JM,Jq,JD,II]
  walk_at "x"
  intro p hp'
  have e:t.ps (mq hs)=[.tup []]:=by cases t<;>first|rfl|exact absurd rfl h1|simp[Bd.hd]at h2
  exact k p _ hp' (.new hp') (by rw[aa,e])
def B1{s0:aC}(n:Nat)(ih:bW n s0):bW (n+1) (zS 5 (dm s0)):=by
 intro S t js us hs nm Q E hd hp hg hj hh hn k
 unfold dm
 refine fP ?_
 rw[Bd.BA,show aB 5 [.tup (.str t.hd::t.tl),.ref nm]=[some (.tup (.str t.hd::t.tl)),some (.ref nm),none,none,none] from rfl]
 refine al fun N hN=>?_
 walk_at "x"
 intro pf hpf
 have X0:Ext S (zL S pf (.lst [])):=.new hpf
 have f0:(zL S pf (.lst [])) pf=some (.lst []):=aa
 generalize zL S pf (.lst [])=S0 at X0 f0
 have hn0:=X0 _ _ hn
 refine hN _ _ (al fun N hN=>?_)
 simp only[bh,aS,ah,v3,lk,c3,ag,ft,bg,HQ,HS]
 by_cases h1:t.hd=("then":Str)
 ·rw[if_pos h1]
  obtain⟨a,b,rfl⟩:=(Bd.De t).mp h1
  simp only[Bd.dep]at hd
  obtain⟨FY,FZ⟩:=qL hp
  refine al fun N hN=>?_
  simp only[Bd.hd,Bd.tl]
  walk_at "x"
  simp only[vZ]
  refine ih (by omega) FZ hg.2 hj hh hn0 fun pb S1 CG X1 h1=>?_
  refine hN _ _ (al fun N hN=>?_)
  simp only[cm,aG,ac,ao,ah,v3,lk,c3,ag,jd]
  refine ih (by omega) FY hg.1 hj hh (X1 _ _ hn0) fun pa S2 hpa X2 h2=>?_
  simp only[bI,h2]
  have nb:pb≠pf:=fun h=>by rw[h,f0]at CG;cases CG
  have na:pa≠pf:=fun h=>by rw[h,X1 _ _ f0]at hpa;cases hpa
  have F0:(a.ps (mq hs)).length * (b.ps (mq hs)).length<=1000:=HX (Lh (a.zV _) (b.zV _)) hp
  refine j6 hpf (X0.trans (X1.trans X2)) h2 (X2 _ _ h1) (X2 _ _ (X1 _ _ f0)) na nb F0 fun S3 x X3 f3=>?_
  refine hN _ _ ?_
  walk_at "x"
  exact k pf S3 hpf X3 f3
 rw[if_neg h1]
 simp only[aM]
 refine hN _ _ (al fun N hN=>?_)
 have sides:∀(hd2:List PV) (a b:Bd),(.str t.hd::t.tl)=hd2++[a.pv,b.pv]->Ar (.str t.hd::t.tl) (-1)=some b.pv/\Ar (.str t.hd::t.tl) (-2)=some a.pv:=fun hd2 a b e1=>⟨by rw[e1];have:=cY (a:=a.pv) (b:=b.pv) (hd:=hd2) (i:=1) (.inr rfl);simpa using this,by rw[e1];have:=cY (a:=a.pv) (b:=b.pv) (hd:=hd2) (i:=0) (.inl rfl);simpa using this⟩
 have last:∀(a b:Bd) (hd2 xs:List PV) (po:Addr) (S2:aq),(.str t.hd::t.tl)=hd2++[a.pv,b.pv]->b.dep<=n->a.zK+b.zK<=1000->b.good js us->Ext S S2->S2 po=some (.lst xs)->xs.length<=a.zK->t.ps (mq hs)=xs++(b.ps (mq hs)).map (fun x=>.tup [.int 1,x])->
   az (ah aP (v3 2) (aH (aG (ac s0 [ah ag (v3 0) (d9 bq (c3 (.int 1))),v3 1])) (.n 0) bp (ay [c3 (.int 1),v3 0]) 1 [])) { nx:=N,rt:=Q,ex:=dC } [some (.tup (.str t.hd::t.tl)),some (.ref nm),some (.ref po),none,none] S2:=by
  intro a b hd2 xs po S2 e1 db E7 gb X2 f2 hx et
  simp only[az,aH,aG,ac,ao,ah,v3,lk,c3,ag,d9,bq,(sides hd2 a b e1).1]
  refine ih db (by omega) gb hj hh (X2 _ _ hn) fun pa S3 hpa X3 f3=>?_
  simp only[bI,f3]
  have lb:=b.zV (mq hs)
  refine gw f3 (by omega) fun pq hpq=>?_
  have f4:=X3 _ _ f2
  have nq:po≠pq:=fun h=>by rw[h,hpq]at f4;cases f4
  simp only[aP,aa,aj nq,f4]
  refine⟨bO (by rw[HD];omega),fun pr EK=>?_⟩
  have Xq:Ext S (zL S3 pq (.lst ((b.ps (mq hs)).map fun x=>.tup [.int 1,x]))):=X2.trans (X3.trans (.new hpq))
  exact k pr _ (Xq.free EK) (Xq.trans (.new EK)) (by rw[aa,et])
 have mid:∀(a b:Bd) (hd2:List PV) (N':bY->aq->Prop),(.str t.hd::t.tl)=hd2++[a.pv,b.pv]->a.dep<=n->a.zK+b.zK<=1000->a.good js us->
   (∀(po:Addr) (S2:aq),Ext S S2->S2 po=some (.lst ((a.ps (mq hs)).map fun x=>.tup [.int 0,x]))->N' [some (.tup (.str t.hd::t.tl)),some (.ref nm),some (.ref po),none,none] S2)->
   au 2 (aH (aG (ac s0 [ah ag (v3 0) (d9 bq (c3 (.int 2))),v3 1])) (.n 0) bp (ay [c3 (.int 0),v3 0]) 1 []) { nx:=N',rt:=Q,ex:=dC } [some (.tup (.str t.hd::t.tl)),some (.ref nm),some (.ref pf),none,none] S0:=by
  intro a b hd2 N' e1 da E7 ga kk
  simp only[au,aH,aG,ac,ao,ah,v3,lk,c3,ag,d9,bq,(sides hd2 a b e1).2]
  refine ih da (by omega) ga hj hh hn0 fun pb S1 CG X1 f1=>?_
  simp only[bI,f1]
  refine gw f1 (HX (a.zV _) (by omega)) fun po CS=>?_
  exact kk po _ (X0.trans (X1.trans (.new CS))) aa
 by_cases h2:t.hd∈(["either","take"]:Vs)
 ·cases t with
  |AD a b=>
   simp only[Bd.dep]at hd
   simp only[bh,iT,aS,ah,v3,lk,c3,ag,ft,bg,HQ,Bd.hd,IJ,II]
   refine al fun N2 A0=>?_
   refine mid a b [.str "either"] _ rfl (by omega) hp hg.1 fun po S2 X2 f2=>A0 _ _ ?_
   exact last a b [.str "either"] _ po S2 rfl (by omega) hp hg.2 X2 f2 (by rw[HD];exact a.zV _) rfl
  |Au z m a b=>
   simp only[Bd.dep]at hd
   have ep:(Bd.Au z m a b).ps (mq hs)=(if mq hs z=true then (a.ps (mq hs)).map (fun x=>.tup [.int 0,x]) else [])++(b.ps (mq hs)).map fun x=>.tup [.int 1,x]:=rfl
   have en:decide (("take":Str) = "either")=false:=by decide
   simp only[bh,iT,aS,ah,v3,lk,c3,ag,ft,bg,HQ,Bd.hd,Bd.tl,en,IJ,II,HU,Iu]
   refine al fun N2 A0=>?_
   simp only[bh,iT,aS,ah,v3,lk,c3,ag,ft,jd,bg,HQ,en,HU,Iu]
   refine dQ hn0 (hj z hg.1) hh ?_
   by_cases hin:z∈hs
   ·simp only[hin,IJ,HQ,II]
    rw[show mq hs z=true from IB hin,if_pos rfl]at ep
    refine mid a b [.str "take",.str z,.int m] _ rfl (by omega) hp hg.2.2.2.1 fun po S2 X2 f2=>A0 _ _ ?_
    exact last a b [.str "take",.str z,.int m] _ po S2 rfl (by omega) hp hg.2.2.2.2 X2 f2 (by rw[HD];exact a.zV _) ep
   ·simp only[hin,JM,HQ,HU,Iu]
    rw[show mq hs z=false from Ij hin,if_neg (by decide)]at ep
    simp only[aM]
    refine A0 _ _ ?_
    exact last a b [.str "take",.str z,.int m] [] pf S0 rfl (by omega) hp hg.2.2.2.2 X0 f0 (Il _) ep
  |_=>simp[Bd.hd,aF]at h2
 ·rw[HL,not_or,HM]at h2
  simp only[bh,iT,aS,ah,v3,lk,c3,ag,ft,bg,HQ,HS,h2.1,h2.2,Iu,aM]
  refine hN _ _ ?_
  walk_at "x"
  intro p hp'
  have e:t.ps (mq hs)=[.tup []]:=by cases t<;>first|rfl|exact absurd rfl h1|exact absurd rfl h2.1|exact absurd rfl h2.2
  exact k p _ (X0.free hp') (X0.trans (.new hp')) (by rw[aa,e])
inductive Cm (S:aq):Nat->PV->PV->Prop
 |int {n:Nat} (i:Int):Cm S (n+1) (.int i) (.int i)
 |bl {n:Nat} (b:Bool):Cm S (n+1) (.bl b) (.bl b)
 |str {n:Nat} (z:Str):Cm S (n+1) (.str z) (.str z)
 |tup {n:Nat} {xs ys:List PV}:xs.length=ys.length->xs.length<=1000->(∀p∈xs.zip ys,Cm S n p.1 p.2)->Cm S (n+1) (.tup xs) (.tup ys)
 |lst {n:Nat} {a b:Addr} {xs ys:List PV}:S a=some (.lst xs)->S b=some (.lst ys)->xs.length=ys.length->xs.length<=1000->(∀p∈xs.zip ys,Cm S n p.1 p.2)->Cm S (n+1) (.ref a) (.ref b)
def Cm.mono{S S':aq}{n:Nat}{v w:PV}(h:Cm S n v w)(X:Ext S S'):Cm S' n v w:=by
 induction h with
 |int i=>exact .int i
 |bl b=>exact .bl b
 |str z=>exact .str z
 |tup e l _ ih=>exact .tup e l fun p hp=>ih p hp
 |lst h1 h2 e l _ ih=>exact .lst (X _ _ h1) (X _ _ h2) e l fun p hp=>ih p hp
abbrev cH(n:Nat)(f:aC):Prop:=∀{S:aq} {v w:PV} {Q:bQ} {E:cU},Cm S n v w->(∀S',Ext S S'->Q (.bl true) S')->f [v,w] S Q E
def j7(n:Nat):iY (List.replicate n (.bl true))=some (List.replicate n true):=by
 induction n with
 |zero=>rfl
 |succ n ih=>rw[IM,IM];show(iY (List.replicate n (.bl true))).map _=_;rw[ih];rfl
def oJ{s0:aC}{n:Nat}(ih:cH n s0){S:aq}{xs ys:List PV}{σ:bY}{keep:aq->Prop}{Q:bQ}(hk:∀S',Ext S S'->keep S')(hl:xs.length<=1000)(hx:∀p∈xs.zip ys,Cm S n p.1 p.2)(k:∀S',Ext S S'->Q (.bl true) S') :
  cx (.tp (.cons (.n 0) (.cons (.n 1) .nil))) bp (ac s0 [v3 0,v3 1]) (dI 2 [] σ) keep (fun zs S2=>∀p,S2 p=none->mj [.ref p] (zL S2 p (.lst zs)) Q) (bc xs ys) [] S:=by
 have hlz:(bc xs ys).length<=xs.length:=by simp[bc];omega
 refine cP (fun done zs S'=>Ext S S'/\done.length<=(bc xs ys).length/\zs=List.replicate done.length (.bl true)) ⟨.refl,Il _,rfl⟩ (fun done zs S' ⟨X,l,e⟩=>⟨hk S' X,bO (by rw[e,ID];omega)⟩) ?_ ?_
 ·rintro done x rest zs S' K e ⟨X,l,rfl⟩ hK
  have hm:x∈bc xs ys:=by rw[e];simp
  obtain⟨p,hp,rfl⟩:=Im.mp hm
  simp only[Tg.put,Tg.zN,dI,List.reduceReplicate,Je,Ip,List.set_cons_zero,List.set_cons_succ,bp,II,ac,ao,v3,lk]
  refine ih ((hx p hp).mono X) fun S2 X2=>hK _ _ ⟨X.trans X2,?_,?_⟩
  ·have:(bc xs ys).length=done.length+(rest.length+1):=by rw[e,HC,HW]
   rw[HC,HZ];omega
  ·rw[HC,HZ,List.replicate_succ']
 ·rintro zs S' ⟨X,_,rfl⟩ p hp
  simp only[mj,aa,j7]
  rw[show(List.replicate (bc xs ys).length true).all id=true by simp]
  exact k _ (X.trans (.new hp))
def e_{x:PV}{S:aq}{Q:bQ}{t c:String}(h:ml S x=some t)(hc:cN c=true)(q:Q (.bl (fe t c)) S):i0 [x,.ty c] S Q:=by
 show(match ml S x with|some t=>cN c=true/\Q (.bl (fe t c)) S|none=>False)
 rw[h];exact⟨hc,q⟩
def qN{x:PV}{S:aq}{Q:bQ}{t:String}(h:ml S x=some t)(q:Q (.bl (fe t "list" || (fe t "tuple" || false))) S):i0 [x,.tup [.ty "list",.ty "tuple"]] S Q:=by
 show(match ml S x,vi [.ty "list",.ty "tuple"]with|some t,some l=>Q (.bl (l.any (fe t))) S|_,_=>False)
 rw[h,show vi [.ty "list",.ty "tuple"]=some ["list","tuple"] by decide +kernel];exact q
def fK{s0:aC}{S:aq}{v:PV}{t:String}{Q:bQ}(h:ml S v=some t)(hn:(fe t "list" || (fe t "tuple" || false))=false)(q:∀Q2:bQ,Q2 (.bl true) S->bg false v v S Q2)(k:Q (.bl true) S) :
  bD s0 { nx:=fun _ S'=>Q .non S',rt:=Q,ex:=dC } [some v,some v] S:=by
 unfold bD
 refine al fun N hN=>?_
 simp only[bh,aS,ap,ao,v3,lk,c3,ay]
 refine qN h ?_
 rw[hn]
 simp only[HU,Iu,aM]
 refine hN _ _ ?_
 simp only[az,cK,ah,ap,ao,v3,lk,c3]
 refine e_ h (by decide +kernel) (e_ h (by decide +kernel) ?_)
 refine(show bg false (.bl (fe t "bool")) (.bl (fe t "bool")) S _ from ?_)
 rw[show ∀(b:Bool) (Q3:bQ),bg false (.bl b) (.bl b) S Q3=Q3 (.bl (false != decide (b=b))) S from fun b Q3=>rfl]
 rw[HQ,IB rfl]
 dsimp only
 rw[if_pos rfl]
 exact q _ k
def j8{s0:aC}{n:Nat}(ih:cH n s0){S:aq}{v w:PV}{xs ys:List PV}{t:String}{Q:bQ}(h1:ml S v=some t)(h2:ml S w=some t)(ht:t = "list" \/ t = "tuple")(l1:∀Q2:bQ,Q2 (.int xs.length) S->bZ [v] S Q2)(l2:∀Q2:bQ,Q2 (.int ys.length) S->bZ [w] S Q2)
  {keep:aq->Prop} (hz:∀R:xT->aq->Prop,R ⟨bc xs ys,keep⟩ S->ng (v3 0) (v3 1) [some v,some w] S R dC) (hk:∀S',Ext S S'->keep S') (e:xs.length=ys.length) (l:xs.length<=1000) (hx:∀p∈xs.zip ys,Cm S n p.1 p.2) (k:∀S',Ext S S'->Q (.bl true) S') :
  bD s0 { nx:=fun _ S'=>Q .non S',rt:=Q,ex:=dC } [some v,some w] S:=by
 unfold bD
 refine al fun N hN=>?_
 simp only[bh,aS,ap,ao,v3,lk,c3,ay]
 refine qN h2 ?_
 rw[show(fe t "list" || (fe t "tuple" || false))=true by rcases ht with rfl|rfl<;>decide +kernel]
 simp only[II]
 refine al fun N2 A0=>?_
 simp only[bh,iT,aS,ah,ap,ao,v3,lk,c3]
 refine e_ h1 (by decide +kernel) (e_ h2 (by decide +kernel) ?_)
 simp only[bg,IJ,Jq,Kr,HU,Iu]
 refine e_ h1 (by decide +kernel) (e_ h2 (by decide +kernel) ?_)
 simp only[bg,IJ,Jq,Kr,HU,Iu,aM]
 refine A0 _ _ ?_
 simp only[az,cK,ah,ap,ao,v3,lk]
 refine l1 _ (l2 _ ?_)
 simp only[e,bg,HQ,IJ,II,aH]
 refine hz _ ?_
 exact oJ ih hk l hx k
def B2{s0:aC}(n:Nat)(ih:cH n s0):cH (n+1) (zS 2 (bD s0)):=by
 intro S v w Q E h k
 refine fP ?_
 rw[show aB 2 [v,w]=[some v,some w] from rfl]
 cases h with
 |int i=>exact fK (t:="int") rfl (by decide +kernel) (fun Q2 q=>by simp only[bg,IJ];exact q) (k _ .refl)
 |bl b=>exact fK (t:="bool") rfl (by decide +kernel) (fun Q2 q=>by simp only[bg,IJ];exact q) (k _ .refl)
 |str z=>exact fK (t:="str") rfl (by decide +kernel) (fun Q2 q=>by simp only[bg,IJ];exact q) (k _ .refl)
 |@tup _ xs ys e l hx=>exact j8 ih (t:="tuple") rfl rfl (.inr rfl) (fun Q2 q=>q) (fun Q2 q=>q) (fun R r=>r) (fun _ _=>trivial) e l hx k
 |@lst _ a b xs ys h1 h2 e l hx=>
  refine j8 ih (t:="list") (keep:=fun S'=>S' a=some (.lst xs)/\S' b=some (.lst ys)) (by simp only[ml,h1]) (by simp only[ml,h2]) (.inl rfl) (fun Q2 q=>by simp only[bZ,h1];exact q) (fun Q2 q=>by simp only[bZ,h2];exact q) (fun R r=>?_) (fun S' X=>⟨X _ _ h1,X _ _ h2⟩) e l hx k
  simp only[ng,v3,lk,h1,h2]
  exact r
def lD{α:Type}{xs:List α}{p:α×α}(hp:p∈xs.zip xs):p.1∈xs/\p.2=p.1:=by
 induction xs with
 |nil=>cases hp
 |cons y r ih2=>
  rcases HL.mp hp with rfl|h
  ·exact⟨Ja,rfl⟩
  ·exact⟨Jd _ (ih2 h).1,(ih2 h).2⟩
def Cm.same{S:aq}{L n:Nat}{v:PV}(h:DC L n v)(hL:L<=1000):Cm S (n+1) v v:=by
 induction h with
 |int i=>exact .int i
 |@tup n xs l _ ih=>
  refine .tup rfl (HX l hL) fun p hp=>?_
  obtain⟨hm,e⟩:=lD hp
  rw[e]
  exact ih _ hm
def Cm.lists{S:aq}{L n:Nat}{a b:Addr}{xs:List PV}(h1:S a=some (.lst xs))(h2:S b=some (.lst xs))(hl:xs.length<=1000)(hL:L<=1000)(h:∀x∈xs,DC L n x):Cm S (n+2) (.ref a) (.ref b):=
 .lst h1 h2 rfl hl fun p hp=>by obtain⟨hm,e⟩:=lD hp;rw[e];exact .same (h _ hm) hL
theorem Bd.Bv(q:Qs):∀t:Bd,∀x∈t.ps q,DC 2 t.dep x
 | .rest,x,h=>by cases HM.mp h;exact .tup (Il _) (fun _ h=>by cases h)
 | .pay _ _,x,h=>by cases HM.mp h;exact .tup (Il _) (fun _ h=>by cases h)
 | .put _ _,x,h=>by cases HM.mp h;exact .tup (Il _) (fun _ h=>by cases h)
 | .use _,x,h=>by cases HM.mp h;exact .tup (Il _) (fun _ h=>by cases h)
 | .AN a,x,h=>by cases HM.mp h;exact .tup (Il _) (fun _ h=>by cases h)
 | .zP a b,x,h=>by
  obtain⟨y,hy,h⟩:=JQ.mp h
  obtain⟨z,hz,rfl⟩:=Im.mp h
  refine .tup (HF _) fun w hw=>?_
  rcases HL.mp hw with rfl|hw
  ·exact(a.Bv q _ hy).mono (HF _) (Nat.le_max_left _ _)
  ·cases HM.mp hw;exact(b.Bv q _ hz).mono (HF _) (Lq _ _)
 | .AD a b,x,h=>by
  rcases HN.mp h with h|h
  ·obtain⟨y,hy,rfl⟩:=Im.mp h
   refine .tup (HF _) fun w hw=>?_
   rcases HL.mp hw with rfl|hw
   ·exact .int _
   ·cases HM.mp hw;exact(a.Bv q _ hy).mono (HF _) (Nat.le_max_left _ _)
  ·obtain⟨y,hy,rfl⟩:=Im.mp h
   refine .tup (HF _) fun w hw=>?_
   rcases HL.mp hw with rfl|hw
   ·exact .int _
   ·cases HM.mp hw;exact(b.Bv q _ hy).mono (HF _) (Lq _ _)
 | .Au z m a b,x,h=>by
  rcases HN.mp h with h|h
  ·split at h
   ·obtain⟨y,hy,rfl⟩:=Im.mp h
    refine .tup (HF _) fun w hw=>?_
    rcases HL.mp hw with rfl|hw
    ·exact .int _
    ·cases HM.mp hw;exact(a.Bv q _ hy).mono (HF _) (Nat.le_max_left _ _)
   ·cases h
  ·obtain⟨y,hy,rfl⟩:=Im.mp h
   refine .tup (HF _) fun w hw=>?_
   rcases HL.mp hw with rfl|hw
   ·exact .int _
   ·cases HM.mp hw;exact(b.Bv q _ hy).mono (HF _) (Lq _ _)
abbrev eN(w:aC):Prop:=∀{S:aq} {d l:Addr} {most many size:Nat} {Q:bQ} {E:cU},zY S d l->most<=8->1<=many->many<=4->1<=size->size<=60->
  (∀js ds S',Bm 6 js [] ds->1<=ds.length->ds.length<=many->js.length<=8->(∀p∈ds,p.2.zK+p.2.zO<=1000)->zY S' d l->AR d l S S'->Q (Aq js ds) S')->w [.ref d,.int most,.int many,.int size] S Q E
def mE{xw xd xb:aC}(Bg:eX xw)(zM:bA xd)(EL:dS xb):eN (zS 9 (dL xw xd xb)):=by
 intro S0 d l most many size Q E D0 hmo hm1 hm4 hs1 hs2 k
 unfold dL
 refine fP ?_
 rw[show aB 9 [PV.ref d,PV.int most,PV.int many,PV.int size]=[some (.ref d),some (.int most),some (.int many),some (.int size),none,none,none,none,none] from rfl]
 refine al fun N hN=>?_
 walk_at "x"
 refine Bg D0 (by decide) (by decide) fun p ns S hl hnd hw0 _ C6 hpl hp D O0=>?_
 have hl8':ns.length=8:=hl
 have Hq:8<=ns.length:=by omega
 have GB:ns.length<=100:=by omega
 have hw:∀z∈ns,Cl z:=fun z hz=>(hw0 z hz).1
 refine hN _ _ ?_
 refine al fun N hN=>?_
 walk_at "x"
 refine zM (m:=most+1) D (by omega) (by omega) fun r S1 r0 r1 D1 O1=>?_
 obtain⟨j,rfl⟩:∃j:Nat,r=(j:Int):=⟨r.toNat,by omega⟩
 have hp1:=O1 _ _ hp C6 hpl
 rw[hp1]
 dsimp only
 rw[kK (by rw[HD];omega),<-Kq]
 intro p2 hp2
 rw[aa]
 dsimp only
 have D2:zY (zL S1 p2 (.lst ((ns.take j).map PV.str))) d l:=D1.new hp2
 have O2:AR d l S (zL S1 p2 (.lst ((ns.take j).map PV.str))):=O1.trans (.new hp2)
 have hp2':=AR.new (o:=.lst ((ns.take j).map PV.str)) hp2 _ _ hp1 C6 hpl
 generalize zL S1 p2 (.lst ((ns.take j).map PV.str))=S2 at D2 O2 hp2'
 refine hN _ _ (al fun N hN=>?_)
 walk_at "x"
 intro p3 hp3
 have GC:=D2.free hp3
 refine zM (D2.new hp3) (by decide) (by decide) fun f S3 f0 f1 D3 O3=>?_
 have e3:=O3 _ _ (aa (S:=S2) (o:=.lst [.int 0,.int 4])) GC.1 GC.2
 have F1:=O3 _ _ (AR.new hp3 _ _ hp2' C6 hpl) C6 hpl
 have Hr:AR d l S S3:=O2.trans ((AR.new hp3).trans O3)
 simp only[e3]
 obtain⟨v,hv,GD⟩:=eY (xs:=[PV.int 0,.int 4]) f0 (by simpa using f1)
 rw[hv]
 obtain⟨g,rfl,hg⟩:∃g:Nat,v = .int g/\g<=4:=by
  simp only[HL,Ic,IY]at GD
  rcases GD with rfl|rfl
  ·exact⟨0,rfl,by omega⟩
  ·exact⟨4,rfl,by omega⟩
 refine hN _ _ (al fun N hN=>?_)
 walk_at "x"
 refine zM (m:=many) D3 (by omega) (by omega) fun r4 S4 a0 a1 D4 O4=>?_
 obtain⟨mm,em⟩:∃mm:Nat,1+r4=(mm:Int):=⟨(1+r4).toNat,by omega⟩
 dsimp only
 rw[em]
 have E8:=O4 _ _ F1 C6 hpl
 refine hN _ _ (al fun N hN=>?_)
 walk_at "x"
 refine⟨by omega,by omega,?_⟩
 rw[J4]
 have hjl:(ns.take j).length<=8:=by rw[IV];omega
 refine cP (fun done ys S'=>∃ds:List (Str×Bd),ys=ds.map eZ/\ds.length=done.length/\ds.map Prod.fst=(ns.drop g).take done.length/\done.length<=mm/\(∀q∈ds,q.2.good (ns.take j) []/\q.2.dep<=6/\q.2.size<=60/\q.2.zK+q.2.zO<=1000)/\zY S' d l/\AR d l S4 S') ⟨[],rfl,rfl,rfl,Il _,by simp,D4,.refl⟩ ?_ ?_ ?_
 ·rintro done ys S' ⟨ds,rfl,e,_,hd,_⟩
  exact⟨trivial,cA (by rw[HD,e];omega)⟩
 ·rintro done x rest ys S' K e ⟨ds,rfl,e2,e3,hd,hc,D',O'⟩ hK
  obtain⟨rfl,hi⟩:=sU e
  walk_at "x"
  try simp only[bp,II]
  have hp':=O' _ _ E8 C6 hpl
  simp only[hp']
  have hlt:g+done.length < ns.length:=by omega
  have hat:Ar (ns.map PV.str) ((g:Int)+(done.length:Int))=some (.str ns[g+done.length]):=by
   have:((g:Int)+(done.length:Int))=((g+done.length:Nat):Int):=by omega
   rw[this]
   exact ji (by rw[HR,Ib hlt];rfl)
  rw[hat]
  dsimp only
  refine⟨xv (by omega) (by omega),EL D' (by omega) (by omega) (by omega) fun t S5 tg td tz tz2 tp D5 Hs=>?_⟩
  have tp':t.zK+t.zO<=1000:=by
   have hb:Int.fdiv 24 (mm:Int)<=24:=by
    rw[Int.fdiv_eq_ediv_of_nonneg _ (by omega)]
    exact Int.ediv_le_self _ (by decide)
   rcases tp with h|h<;>omega
  refine hK _ _ ⟨ds++[(ns[g+done.length],t)],by simp[eZ],by simp[e2],?_,by rw[HC];exact hi,fun y hy=>?_,D5,O'.trans Hs⟩
  ·rw[IA,e3,HC,HZ,Ke,Le,Ib hlt]
   rfl
  ·rcases HN.mp hy with hy|hy
   ·exact hc y hy
   ·rw[HM.mp hy];exact⟨tg,td,tz,tp'⟩
 rintro ys S5 ⟨ds,rfl,e,ef,_,hds,D5,O5⟩
 rw[dE]at e ef
 intro p6 GE
 refine hN _ _ ?_
 walk_at "x"
 rw[aa]
 dsimp only
 have sub:∀q∈ds,q.1∈ns:=fun q hq=>by
  have:q.1∈ds.map Prod.fst:=Im.mpr ⟨q,hq,rfl⟩
  rw[ef]at this
  exact J9 (IS this)
 refine k (ns.take j) ds _ ⟨⟨by omega,by omega,fun z hz=>hw z (IS hz),by simp,fun q hq=>hw _ (sub q hq),fun q hq=>(hds q hq).1,fun q hq=>by have:=(hds q hq).2.1;omega,fun q hq=>(hds q hq).2.2.1⟩,hnd.sublist (Li _ _),by rw[ef];exact hnd.sublist ((Li _ _).trans (List.drop_sublist _ _)),fun q hq=>(hds q hq).2.1⟩ (by omega) (by omega) hjl (fun q hq=>(hds q hq).2.2.2) (D5.new GE) (O0.trans (Hr.trans (O4.trans (O5.trans (.new GE)))))
abbrev gX(w:aC):Prop:=∀{S:aq} {d l e:Addr} {js:Vs} {Q:bQ} {E:cU},zY S d l->S e=some (.lst [])->e≠d->e≠l->(∀(t:Bd) S',t.leaf->t.good js []->zY S' d l->AR d l S S'->Q t.pv S')->w [.ref d,.ref e] S Q E
def qO{wd wc:aC}(zM:bA wd)(Bz:gi wc):gX (zS 4 (cn wd wc)):=by
 intro S d l e js Q E D he hed hel k
 unfold cn
 refine fP ?_
 rw[show aB 4 [PV.ref d,PV.ref e]=[some (.ref d),some (.ref e),none,none] from rfl]
 refine al fun N hN=>?_
 walk_at "x"
 refine zM D (by decide) (by decide) fun r S1 r0 r1 D1 O1=>?_
 have DE:=O1 _ _ he hed hel
 refine hN _ _ (al fun N hN=>?_)
 walk_at "x"
 simp only[HQ,HS]
 split
 ·exact k .rest S1 trivial trivial D1 O1
 refine hN _ _ (al fun N hN=>?_)
 walk_at "x"
 simp only[HQ,HS,DE]
 have pay:wc [.ref d] S1 (fun x S=>Q (.tup [.str "pay",x]) S) dC:=Bz D1 fun x y S2 c D2 O2=>k (.pay x y) S2 trivial c D2 (O1.trans O2)
 split
 ·rw[if_pos trivial];exact pay
 ·rw[if_pos (show((([]:List PV).length:Nat):Int)=0 from rfl)];exact pay
def E9(js:Vs)(kvs:List (a_×PV)):Prop:=∀z v,dz kvs (.inr z)=some v->∃y∈js,v = .str y
def E9.get{js:Vs}{kvs:List (a_×PV)}{z:Str}(h:E9 js kvs)(hz:z∈js):∃y∈js,(dz kvs (.inr z)).getD (.str z) = .str y:=by
 cases e:dz kvs (.inr z)with
 |none=>exact⟨z,hz,rfl⟩
 |some v=>obtain⟨y,hy,rfl⟩:=h z v e;exact⟨y,hy,rfl⟩
structure Ei (t u:Bd):Prop where
 dp:u.dep=t.dep
 sz:u.size=t.size
 pc:u.zK=t.zK
 rc:u.zO=t.zO
abbrev kN(n:Nat)(w:aC):Prop:=∀{S:aq} {t:Bd} {js us:Vs} {a:Addr} {kvs:List (a_×PV)} {Q:bQ} {E:cU},t.dep<=n->t.good js us->S a=some (.dct kvs)->E9 js kvs->(∀u:Bd,u.good js us->Ei t u->Q u.pv S)->w [t.pv,.ref a] S Q E
def np{x:PV}{xs:List PV}:dh (x::xs) none (some 1)=[x]:=kK (n:=1) (by simp)
def oK:∀y∈(["then","either","take"]:Vs),PyData.strOk y=true:=eM
def Dj{s0:aC}(n:Nat)(ih:kN n s0):kN (n+1) (zS 3 (cO s0)):=by
 intro S t js us a kvs Q E hd hg ha hk k
 unfold cO
 refine fP ?_
 rw[Bd.BA,show aB 3 [.tup (.str t.hd::t.tl),.ref a]=[some (.tup (.str t.hd::t.tl)),some (.ref a),none] from rfl]
 refine al fun N hN=>?_
 simp only[bh,aS,ah,v3,lk,c3,ag,ft,bg,HQ,HS]
 by_cases h1:t.hd=("put":Str)
 ·rw[if_pos h1]
  cases t with
  |put z m=>
   obtain⟨y,hy,ey⟩:=hk.get hg.1
   simp only[Bd.hd,Bd.tl,az,ay,ao,lm,ah,v3,lk,c3,ag,jd,vZ,ha,gL,ey]
   exact k (.put y m) ⟨hy,hg.2⟩ ⟨rfl,rfl,rfl,rfl⟩
  |_=>simp[Bd.hd,aF]at h1
 rw[if_neg h1]
 simp only[aM]
 refine hN _ _ (al fun N hN=>?_)
 simp only[bh,aS,ah,v3,lk,c3,ag,ft,bg,HQ,HS]
 by_cases h2:t.hd=("often":Str)
 ·rw[if_pos h2]
  cases t with
  |AN b=>
   simp only[Bd.dep]at hd
   simp only[Bd.hd,Bd.tl,az,ay,ao,ac,ah,v3,lk,c3,ag,jd]
   refine ih (by omega) hg ha hk fun u gu ku=>?_
   exact k (.AN u) gu ⟨by simp only[Bd.dep,ku.dp],by simp only[Bd.size,ku.sz],rfl,by simp only[Bd.zO,ku.pc,ku.rc]⟩
  |_=>simp[Bd.hd,aF]at h2
 rw[if_neg h2]
 simp only[aM]
 refine hN _ _ (al fun N hN=>?_)
 simp only[bh,aS,ah,v3,lk,c3,ag,ft,ay,ao]
 rw[show([PV.str "then",PV.str "either",PV.str "take"]:List PV)=(["then","either","take"]:Vs).map PV.str from rfl]
 refine bV t.Cy oK ?_
 rw[HQ]
 by_cases h3:t.hd∈(["then","either","take"]:Vs)
 ·rw[IB h3]
  simp only[II]
  have sides:∀(hd2:List PV) (a b:Bd),(.str t.hd::t.tl)=hd2++[a.pv,b.pv]->Ar (.str t.hd::t.tl) (-1)=some b.pv/\Ar (.str t.hd::t.tl) (-2)=some a.pv:=fun hd2 a b e1=>⟨by rw[e1];have:=cY (a:=a.pv) (b:=b.pv) (hd:=hd2) (i:=1) (.inr rfl);simpa using this,by rw[e1];have:=cY (a:=a.pv) (b:=b.pv) (hd:=hd2) (i:=0) (.inl rfl);simpa using this⟩
  have two:∀(a' b':Bd) (hd2:List PV) (N':bY->aq->Prop),(.str t.hd::t.tl)=hd2++[a'.pv,b'.pv]->a'.dep<=n->b'.dep<=n->a'.good js us->b'.good js us->(∀u v:Bd,u.good js us->v.good js us->Ei a' u->Ei b' v->N' [some (.tup (.str t.hd::t.tl)),some (.ref a),some (.tup [u.pv,v.pv])] S)->
    au 2 (ay [ac s0 [ah ag (v3 0) (d9 bq (c3 (.int 2))),v3 1],ac s0 [ah ag (v3 0) (d9 bq (c3 (.int 1))),v3 1]]) { nx:=N',rt:=Q,ex:=dC } [some (.tup (.str t.hd::t.tl)),some (.ref a),none] S:=by
   intro a' b' hd2 N' e1 da db ga gb kk
   simp only[au,ay,ao,ac,ah,v3,lk,c3,ag,d9,bq,(sides hd2 a' b' e1).2]
   refine ih da ga ha hk fun u gu ku=>?_
   simp only[(sides hd2 a' b' e1).1]
   exact ih db gb ha hk fun v gv kv=>kk u v gu gv ku kv
  refine al fun N2 A0=>?_
  cases t with
  |zP x y=>
   simp only[Bd.dep]at hd
   refine two x y [.str "then"] _ rfl (by omega) (by omega) hg.1 hg.2 fun u v gu gv ku kv=>A0 _ _ (al fun N3 Dd=>?_)
   have en:decide (("then":Str) = "take")=false:=by decide
   simp only[bh,aS,ah,v3,lk,c3,ag,ft,bg,HQ,Bd.hd,en,HU,Iu,aM]
   refine Dd _ _ ?_
   simp only[Bd.hd,Bd.tl,az,ah,bj,kU,jU,kA,v3,lk,c3,np,aP]
   refine⟨bO (by simp),?_⟩
   exact k (.zP u v) ⟨gu,gv⟩ ⟨by simp only[Bd.dep,ku.dp,kv.dp],by simp only[Bd.size,ku.sz,kv.sz],by simp only[Bd.zK,ku.pc,kv.pc],by simp only[Bd.zO,ku.rc,kv.rc]⟩
  |AD x y=>
   simp only[Bd.dep]at hd
   refine two x y [.str "either"] _ rfl (by omega) (by omega) hg.1 hg.2 fun u v gu gv ku kv=>A0 _ _ (al fun N3 Dd=>?_)
   have en:decide (("either":Str) = "take")=false:=by decide
   simp only[bh,aS,ah,v3,lk,c3,ag,ft,bg,HQ,Bd.hd,en,HU,Iu,aM]
   refine Dd _ _ ?_
   simp only[Bd.hd,Bd.tl,az,ah,bj,kU,jU,kA,v3,lk,c3,np,aP]
   refine⟨bO (by simp),?_⟩
   exact k (.AD u v) ⟨gu,gv⟩ ⟨by simp only[Bd.dep,ku.dp,kv.dp],by simp only[Bd.size,ku.sz,kv.sz],by simp only[Bd.zK,ku.pc,kv.pc],by simp only[Bd.zO,ku.rc,kv.rc]⟩
  |Au z m x y=>
   simp only[Bd.dep]at hd
   refine two x y [.str "take",.str z,.int m] _ rfl (by omega) (by omega) hg.2.2.2.1 hg.2.2.2.2 fun u v gu gv ku kv=>A0 _ _ (al fun N3 Dd=>?_)
   obtain⟨y',hy,ey⟩:=hk.get hg.1
   simp only[bh,aS,ah,v3,lk,c3,ag,ft,bg,HQ,Bd.hd,IJ,II]
   simp only[Bd.hd,Bd.tl,az,ay,ao,lm,ah,v3,lk,c3,ag,jd,vZ,ha,gL,ey,aP]
   refine⟨bO (by simp),?_⟩
   exact k (.Au y' m u v) ⟨hy,hg.2.1,hg.2.2.1,gu,gv⟩ ⟨by simp only[Bd.dep,ku.dp,kv.dp],by simp only[Bd.size,ku.sz,kv.sz],by simp only[Bd.zK,ku.pc,kv.pc],by simp only[Bd.zO,ku.rc,kv.rc]⟩
  |_=>simp[Bd.hd,aF]at h3
 ·rw[Ij h3]
  simp only[HU,Iu,aM]
  refine hN _ _ ?_
  simp only[az,v3,lk]
  rw[<-Bd.BA]
  exact k t hg ⟨rfl,rfl,rfl,rfl⟩
structure HP (js:Vs) (ds:List (Str×Bd)):Prop extends HG js ds where
 pc:∀p∈ds,p.2.zK+p.2.zO<=1000
def HP.of{js:Vs}{ds es:List (Str×Bd)}(h:HP js ds)(l:es.length<=1000)(hs:∀p∈es,∃q∈ds,p.2.good js []/\Ei q.2 p.2):HP js es where
 jw:=h.jw
 jl:=h.jl
 dl:=l
 gd:=fun p hp=>by obtain⟨q,hq,g,k⟩:=hs p hp;exact g
 dp:=fun p hp=>by obtain⟨q,hq,g,k⟩:=hs p hp;rw[k.dp];exact h.dp q hq
 sz:=fun p hp=>by obtain⟨q,hq,g,k⟩:=hs p hp;rw[k.sz];exact h.sz q hq
 pc:=fun p hp=>by obtain⟨q,hq,g,k⟩:=hs p hp;rw[k.pc,k.rc];exact h.pc q hq
def Ei.refl(t:Bd):Ei t t:=⟨rfl,rfl,rfl,rfl⟩
def lE{α:Type}{xs:List α}{y:α}:Ar (xs++[y]) (-1)=some y:=by
 unfold Ar nM
 rw[if_neg (by omega),if_pos (by simp;omega)]
 have:(-1+((xs++[y]).length:Int)).toNat=xs.length:=by simp;omega
 rw[this]
 show(xs++[y])[xs.length]?=some y
 simp
def vO{α:Type}{xs:List α}:dh xs none (some (-1))=xs.take (xs.length - 1):=by
 unfold dh
 rw[HT.iJ,List.drop_zero,Nat.sub_zero]
 congr 1
 have:HT.Aa xs.length xs.length (some (-1))=if (-1:Int) < 0 then (-1+((xs.length:Nat):Int)).toNat else min (-1:Int).toNat xs.length:=rfl
 rw[this,if_pos (by decide)]
 omega
def oM{js:Vs}{a b:Str}(ha:a∈js)(hb:b∈js):E9 js (cM [] [(.inr a,.str b),(.inr b,.str a)]):=by
 intro z v h
 have e1:gN [] (Sum.inr a:a_) (.str b)=[(.inr a,.str b)]:=rfl
 have:cM [] [(.inr a,.str b),(.inr b,.str a)]=gN (gN [] (Sum.inr a:a_) (.str b)) (.inr b) (.str a):=rfl
 rw[this,e1]at h
 unfold gN at h
 split at h
 ·simp only[Ig,Je]at h
  split at h
  ·simp only[dz]at h
   split at h
   ·cases h;exact⟨a,ha,rfl⟩
   ·cases h
  ·simp only[dz]at h
   split at h
   ·cases h;exact⟨b,hb,rfl⟩
   ·cases h
 ·simp only[List.cons_append,List.nil_append,dz]at h
  split at h
  ·cases h;exact⟨b,hb,rfl⟩
  ·split at h
   ·cases h;exact⟨a,ha,rfl⟩
   ·cases h
abbrev jm(w:aC):Prop:=∀{S:aq} {js:Vs} {ds:List (Str×Bd)} {Q:bQ} {E:cU},HP js ds->
  (∀p (hs:List (List (Str×Bd))) S',S p=none->Ext S S'->S' p=some (.lst (hs.map (Aq js)))->hs.length<=4->(∀h∈hs,HP js h)->Q (.ref p) S')->w [Aq js ds] S Q E
def sZ{xs:aC}(Dj:kN 6 xs):jm (zS 6 (fI xs)):=by
 intro S js ds Q E hP k
 unfold fI
 refine fP ?_
 rw[show aB 6 [Aq js ds]=[some (.tup [.tup (js.map PV.str),.tup (ds.map eZ)]),none,none,none,none,none] from rfl]
 refine al fun N hN=>?_
 walk_at "x"
 refine hN _ _ (al fun N hN=>?_)
 walk_at "x"
 intro pk hpk
 have X0:Ext S (zL S pk (.lst [Aq js ds])):=.new hpk
 have f0:(zL S pk (.lst [Aq js ds])) pk=some (.lst ([ds].map (Aq js))):=aa
 rw[show PV.tup [.tup (js.map PV.str),.tup (ds.map eZ)]=Aq js ds from rfl]
 generalize zL S pk (.lst [Aq js ds])=S0 at X0 f0
 refine hN _ _ (al fun N hN=>?_)
 -- what comes behind the first if
 have DM:∀(x4 x5:Option PV) (hs:List (List (Str×Bd))) (S1:aq),Ext S S1->S1 pk=some (.lst (hs.map (Aq js)))->hs.length<=3->(∀h∈hs,HP js h)->N [some (Aq js ds),some (.tup (js.map PV.str)),some (.tup (ds.map eZ)),some (.ref pk),x4,x5] S1:=by
  intro x4 x5 hs S1 X1 f1 l1 g1
  refine hN _ _ (al fun N hN=>?_)
  have last:∀(x4 x5:Option PV) (hs:List (List (Str×Bd))) (S1:aq),Ext S S1->S1 pk=some (.lst (hs.map (Aq js)))->hs.length<=4->(∀h∈hs,HP js h)->N [some (Aq js ds),some (.tup (js.map PV.str)),some (.tup (ds.map eZ)),some (.ref pk),x4,x5] S1:=by
   intro x4 x5 hs S1 X1 f1 l1 g1
   refine hN _ _ ?_
   walk_at "x"
   exact k pk hs S1 hpk X1 f1 l1 g1
  simp only[bh,aS,ah,ap,ao,v3,lk,c3,bZ,mr,dH,HS,HD]
  split
  ·rename_i hj
   refine al fun N2 A0=>?_
   obtain⟨ja,GF⟩:∃a,js[0]?=some a:=⟨js[0]'(by omega),Ib (by omega)⟩
   have F2:Ar (js.map PV.str) 0=some (.str ja):=ji (n:=0) (by rw[HR,GF];rfl)
   have hne:js≠[]:=fun h=>by rw[h]at hj;simp at hj
   obtain⟨jr,jb,GG⟩:∃r b,js=r++[b]:=⟨js.dropLast,js.getLast hne,(JY hne).symm⟩
   have F3:Ar (js.map PV.str) (-1)=some (.str jb):=by rw[GG,IA];exact lE
   simp only[au,i7,fB,ah,v3,lk,c3,ag,d9,bq,F2,F3]
   intro pd C6
   simp only[aa,Kd,jY,gL]
   have X2:Ext S1 (zL (zL S1 pd (.dct [])) pd (.dct (cM [] [(.inr ja,.str jb),(.inr jb,.str ja)]))):=fun a o h=>by
    have n:a≠pd:=fun e=>by rw[e,C6]at h;cases h
    rw[aj n,aj n];exact h
   have f2:(zL (zL S1 pd (.dct [])) pd (.dct (cM [] [(.inr ja,.str jb),(.inr jb,.str ja)]))) pd=some (.dct (cM [] [(.inr ja,.str jb),(.inr jb,.str ja)])):=aa
   generalize (zL (zL S1 pd (.dct [])) pd (.dct (cM [] [(.inr ja,.str jb),(.inr jb,.str ja)])))=S2 at X2 f2
   have sw:=oM (js:=js) (a:=ja) (b:=jb) (Ik GF) (by rw[GG];simp)
   generalize cM [] [(.inr ja,.str jb),(.inr jb,.str ja)]=kvs at f2 sw
   have Ej:=X2 _ _ f1
   have Ht:=X1.trans X2
   refine A0 _ _ ?_
   simp only[List.set_cons_zero,List.set_cons_succ,aU,d_,mn,ao,ay,ap,v3,lk,Ej,Kd,aH,aG,bI]
   refine cP (fun done ys S'=>S'=S2/\∃es:List (Str×Bd),ys=es.map eZ/\es.length=done.length/\done.length<=ds.length/\∀p∈es,∃q∈ds,p.2.good js []/\Ei q.2 p.2) ⟨rfl,[],rfl,rfl,Il _,by simp⟩ ?_ ?_ ?_
   ·rintro done ys S' ⟨_,es,rfl,e,l,_⟩
    exact⟨trivial,bO (by rw[HD,e];have:=hP.dl;omega)⟩
   ·rintro done x rest ys S' K e ⟨rfl,es,rfl,e2,l,he⟩ hK
    obtain⟨q,hq,rfl⟩:∃q∈ds,eZ q=x:=Im.mp (by rw[e];simp)
    simp only[eZ,Tg.put,Tg.zN,dI,List.reduceReplicate,Ig,Je,List.cons_append,List.nil_append,List.set_cons_zero,List.set_cons_succ,lk,bp,II,ay,ao,ac,v3,List.getElem?_cons_zero,List.getElem?_cons_succ,Option.join]
    refine Dj (hP.dp q hq) (hP.gd q hq) f2 sw fun u gu ku=>hK _ _ ⟨rfl,es++[(q.1,u)],by rw[IA];rfl,by rw[HC,HC,e2];rfl,?_,?_⟩
    ·have:(ds.map eZ).length=done.length+(rest.length+1):=by rw[e,HC,HW]
     rw[HD]at this
     rw[HC,HZ];omega
    ·intro p hp
     rcases HN.mp hp with h|h
     ·exact he p h
     ·rw[HM.mp h];exact⟨q,hq,gu,ku⟩
   ·rintro ys S' ⟨rfl,es,rfl,e,_,he⟩ pl hpl
    rw[HD]at e
    simp only[bJ,lh,aa]
    have nk:pk≠pl:=fun h=>by rw[h,hpl]at Ej;cases Ej
    have hle:hs.length+1<=4:=by omega
    simp only[bm,aj nk,Ej]
    refine⟨HY (show(hs.map (Aq js)).length < 5 by rw[HD];omega) (by decide),?_⟩
    refine last _ _ (hs++[es]) _ ((Ht.trans (.new hpl)).put hpk) (by rw[aa,IA];rfl) (by rw[HC];exact hle) fun h hh=>?_
    rcases HN.mp hh with hh|hh
    ·exact g1 h hh
    ·rw[HM.mp hh];exact hP.of (by rw[e];exact hP.dl) he
  ·simp only[aM]
   exact last _ _ hs S1 X1 f1 (by omega) g1
 simp only[bh,aS,ah,ap,ao,v3,lk,c3,bZ,mr,dH,HS,HD]
 split
 ·rename_i hd
  have hd':1 < ds.length:=by omega
  refine al fun N2 A0=>?_
  simp only[au,aH,aG,v3,lk,bI]
  have dl:=hP.dl
  refine cG (fun p:Str×Bd=>eZ p) (fun p=>.str p.1) trivial ds [] (fun x hx=>⟨_,rfl,fun Q q=>q⟩) (by rw[Jh,Kh];exact bO dl) ?_
  intro pn Er
  rw[Jx]
  have X1:Ext S0 (zL S0 pn (.lst (ds.map fun p=>.str p.1))):=.new Er
  have GH:(zL S0 pn (.lst (ds.map fun p=>.str p.1))) pn=some (.lst (ds.map fun p=>.str p.1)):=aa
  generalize (zL S0 pn (.lst (ds.map fun p=>.str p.1)))=S1 at X1 GH
  refine A0 _ _ (al fun N2 A0=>?_)
  simp only[au,aH,aG,v3,lk,bI,List.set_cons_zero,List.set_cons_succ]
  refine cG (fun p:Str×Bd=>eZ p) (fun p=>p.2.pv) trivial ds [] (fun x hx=>⟨_,rfl,fun Q q=>q⟩) (by rw[Jh,Kh];exact bO dl) ?_
  intro pb CG
  rw[Jx]
  have X2:Ext S1 (zL S1 pb (.lst (ds.map fun p=>p.2.pv))):=.new CG
  have EM:(zL S1 pb (.lst (ds.map fun p=>p.2.pv))) pb=some (.lst (ds.map fun p=>p.2.pv)):=aa
  have F4:=X2 _ _ GH
  generalize (zL S1 pb (.lst (ds.map fun p=>p.2.pv)))=S2 at X2 EM F4
  refine A0 _ _ ?_
  have Ej:=X2 _ _ (X1 _ _ f0)
  have Hu:=X0.trans (X1.trans X2)
  simp only[List.set_cons_zero,List.set_cons_succ,aU,d_,mn,ao,ay,bu,qy,ah,bj,kU,jU,kA,c3,d9,bq,v3,lk,Ej,F4,EM,Kd]
  intro p1 hp1
  have n1:pb≠p1:=fun h=>by rw[h,hp1]at EM;cases EM
  simp only[aj n1,EM]
  intro p2 hp2
  have hp2':S2 p2=none:=by
   by_cases e:p2=p1
   ·rw[e,aa]at hp2;cases hp2
   ·rw[aj e]at hp2;exact hp2
  have Hv:p1≠p2:=fun h=>by rw[<-h,aa]at hp2;cases hp2
  simp only[aP,aa,aj Hv]
  have hlb:1<=(ds.map fun p=>p.2.pv).length:=by rw[HD];omega
  have GI:dh (ds.map fun p=>p.2.pv) (some 1) none=((ds.map Prod.snd).drop 1).map Bd.pv:=by rw[show(1:Int)=((1:Nat):Int)from rfl,vN hlb,List.map_drop,JL];rfl
  have Hw:dh (ds.map fun p=>p.2.pv) none (some 1)=((ds.map Prod.snd).take 1).map Bd.pv:=by rw[show(1:Int)=((1:Nat):Int)from rfl,kK hlb,Kq,JL];rfl
  simp only[GI,Hw]
  have GJ:((ds.map Prod.snd).drop 1).length+((ds.map Prod.snd).take 1).length=ds.length:=by simp only[IF,IV,HD];omega
  refine⟨bO (by rw[HD,HD,GJ];exact dl),?_⟩
  intro p3 hp3
  rw[<-IA] 
  have X3:Ext S2 (zL (zL (zL S2 p1 (.lst (((ds.map Prod.snd).drop 1).map Bd.pv))) p2 (.lst (((ds.map Prod.snd).take 1).map Bd.pv))) p3 (.lst (((ds.map Prod.snd).drop 1++(ds.map Prod.snd).take 1).map Bd.pv))):=(Ext.new hp1).trans ((Ext.new (by rw[GI]at hp2;exact hp2)).trans (.new hp3))
  have f3:(zL (zL (zL S2 p1 (.lst (((ds.map Prod.snd).drop 1).map Bd.pv))) p2 (.lst (((ds.map Prod.snd).take 1).map Bd.pv))) p3 (.lst (((ds.map Prod.snd).drop 1++(ds.map Prod.snd).take 1).map Bd.pv))) p3=some (.lst (((ds.map Prod.snd).drop 1++(ds.map Prod.snd).take 1).map Bd.pv)):=aa
  generalize zL (zL (zL S2 p1 (.lst (((ds.map Prod.snd).drop 1).map Bd.pv))) p2 (.lst (((ds.map Prod.snd).take 1).map Bd.pv))) p3 (.lst (((ds.map Prod.snd).drop 1++(ds.map Prod.snd).take 1).map Bd.pv))=S3 at X3 f3
  have zS:=X3 _ _ F4
  have F5:=X3 _ _ Ej
  simp only[zS,f3]
  refine⟨by rw[HD,HD,HC,GJ],by rw[HD];omega,?_⟩
  have ez:bc (ds.map fun p=>PV.str p.1) (((ds.map Prod.snd).drop 1++(ds.map Prod.snd).take 1).map Bd.pv)=((ds.map Prod.fst).zip ((ds.map Prod.snd).drop 1++(ds.map Prod.snd).take 1)).map eZ:=by
   unfold bc
   rw[show(ds.map fun p=>PV.str p.1)=(ds.map Prod.fst).map PV.str by rw[JL];rfl,List.zip_map,JL]
   rfl
  rw[ez,vO,<-Kq]
  intro p4 E8
  have n4:pk≠p4:=fun h=>by rw[h,E8]at F5;cases F5
  simp only[bf,aa,aj n4,F5]
  refine⟨bO (by simp),?_⟩
  refine DM _ _ [ds,ds.take (ds.length - 1),(ds.map Prod.fst).zip ((ds.map Prod.snd).drop 1++(ds.map Prod.snd).take 1)] _ ((Hu.trans (X3.trans (.new E8))).put hpk) (by rw[aa,HD];rfl) (by simp) fun h hh=>?_
  simp only[HL,Ic,IY]at hh
  rcases hh with rfl|rfl|rfl
  ·exact hP
  ·exact hP.of (HX (List.length_take_le _ _) (by omega)) fun p hp=>⟨p,IS hp,hP.gd p (IS hp),.refl _⟩
  ·refine hP.of (by rw[List.length_zip,HD];omega) fun p hp=>?_
   have h2:=(K6 hp).2
   have h3:p.2∈ds.map Prod.snd:=by
    rcases HN.mp h2 with h|h
    ·exact J9 h
    ·exact IS h
   obtain⟨q,hq,e⟩:=Im.mp h3
   exact⟨q,hq,by rw[<-e];exact hP.gd q hq,by rw[<-e];exact .refl _⟩
 ·simp only[aM]
  exact DM _ _ [ds] S0 X0 f0 (by simp) fun h hh=>by rw[HM.mp hh];exact hP
def zF{r n:Nat}(h:r < n):seqIndex? (r:Int) n=some r:=by
 unfold seqIndex?
 simp
 omega
theorem j9{α β:Type}(f:α->β):∀(xs:List α) (i:Nat),(xs.map f).eraseIdx i=(xs.eraseIdx i).map f
 |[],_=>rfl
 |_::_,0=>rfl
 |x::r,i+1=>by simp only[Ig,List.eraseIdx_cons_succ,j9 f r i]
def oN{xs:List PV}{i:Nat}(h:i < xs.length):∃y∈xs,Ar xs ((i:Int) - 1)=some y:=by
 cases i with
 |zero=>
  have hne:xs≠[]:=fun e=>by rw[e]at h;cases h
  refine⟨xs.getLast hne,List.getLast_mem hne,?_⟩
  have:=lE (xs:=xs.dropLast) (y:=xs.getLast hne)
  rw[JY hne]at this
  exact this
 |succ i=>
  have e:(((i+1:Nat):Int) - 1)=(i:Int):=by omega
  exact⟨xs[i],Kg _,by rw[e];exact ji (Ib (by omega))⟩
structure C2 (S:aq) (d l p po pb:Addr) (W O B:List PV):Prop where
 D:zY S d l
 w:S p=some (.lst W)
 o:S po=some (.lst O)
 b:S pb=some (.lst B)
 n:p≠d/\p≠l/\po≠d/\po≠l/\pb≠d/\pb≠l/\p≠pb/\po≠pb
def C2.Bp{S S':aq}{d l p po pb:Addr}{W O B:List PV}(h:C2 S d l p po pb W O B)(D':zY S' d l)(X:AR d l S S'):C2 S' d l p po pb W O B:=
 ⟨D',X _ _ h.w h.n.1 h.n.2.1,X _ _ h.o h.n.2.2.1 h.n.2.2.2.1,X _ _ h.b h.n.2.2.2.2.1 h.n.2.2.2.2.2.1,h.n⟩
theorem C2.new{S:aq}{d l p po pb q:Addr}{W O B:List PV}{o:SO}(h:C2 S d l p po pb W O B)(hq:S q=none):C2 (zL S q o) d l p po pb W O B:=
 h.Bp (h.D.new hq) (.new hq)
def C2.put{S:aq}{d l p po pb:Addr}{W O B B':List PV}(h:C2 S d l p po pb W O B):C2 (zL S pb (.lst B')) d l p po pb W O B':=
 ⟨h.D.upd h.n.2.2.2.2.1 h.n.2.2.2.2.2.1,by rw[aj h.n.2.2.2.2.2.2.1];exact h.w,by rw[aj h.n.2.2.2.2.2.2.2];exact h.o,aa,h.n⟩
structure CB (js:Vs) (t:Bd):Prop where
 g:t.good js []
 d:t.dep<=3
 s:t.size<=5
 p:t.zK+t.zO<=9
structure CI (js:Vs) (t:Bd):Prop where
 g:t.good js []
 d:t.dep<=2
 s:t.size<=3
 p:t.zK<=2
 r:t.zO=0
def Bd.A3{t:Bd}(h:t.leaf):t.zK=1/\t.zO=0:=by cases t<;>first|exact⟨rfl,rfl⟩|exact h.elim
theorem CI.put{js:Vs}{z:Str}{m:Int}(hz:z∈js)(h0:1<=m)(h1:m<=9):CI js (.put z m):=⟨⟨hz,h0,h1⟩,by simp[Bd.dep],by simp[Bd.size],by simp[Bd.zK],rfl⟩
theorem CI.Au{js:Vs}{z y:Str}{m m':Int}{f:Bd}(hz:z∈js)(h0:1<=m)(h1:m<=9)(hy:y∈js)(h2:1<=m')(h3:m'<=9)(hl:f.leaf)(hg:f.good js []):CI js (.Au y m' (.put z m) f):=
 ⟨⟨hy,h2,h3,⟨hz,h0,h1⟩,hg⟩,by simp only[Bd.dep,(Bd.Ad hl).1];decide,by simp only[Bd.size,(Bd.Ad hl).2];decide,by simp only[Bd.zK,(Bd.A3 hl).1];decide,by simp only[Bd.zO,(Bd.A3 hl).2]⟩
def CI.cb{js:Vs}{t:Bd}(h:CI js t):CB js t:=⟨h.g,by have:=h.d;omega,by have:=h.s;omega,by have:=h.p;have:=h.r;omega⟩
theorem CI.zP{js:Vs}{t f:Bd}(h:CI js t)(hl:f.leaf)(hg:f.good js []):CB js (.zP f t):=
 ⟨⟨hg,h.g⟩,by have:=h.d;have:=(Bd.Ad hl).1;simp only[Bd.dep];omega,by have:=h.s;have:=(Bd.Ad hl).2;simp only[Bd.size];omega,by have:=h.p;simp only[Bd.zK,Bd.zO,(Bd.A3 hl).1,(Bd.A3 hl).2,h.r];omega⟩
theorem CI.AD{js:Vs}{t f:Bd}(h:CI js t)(hl:f.leaf)(hg:f.good js []):CB js (.AD f t):=
 ⟨⟨hg,h.g⟩,by have:=h.d;have:=(Bd.Ad hl).1;simp only[Bd.dep];omega,by have:=h.s;have:=(Bd.Ad hl).2;simp only[Bd.size];omega,by have:=h.p;simp only[Bd.zK,Bd.zO,(Bd.A3 hl).1,(Bd.A3 hl).2,h.r];omega⟩
theorem CI.AN{js:Vs}{t:Bd}(h:CI js t):CB js (.AN t):=
 ⟨h.g,by have:=h.d;simp only[Bd.dep];omega,by have:=h.s;simp only[Bd.size];omega,by have:=h.p;have:=h.r;simp only[Bd.zK,Bd.zO];omega⟩
abbrev b8(w:aC):Prop:=∀{S:aq} {d l:Addr} {Q:bQ} {E:cU},zY S d l->(∀js ds S',HP js ds->Q (Aq js ds) S')->w [.ref d] S Q E
def B3{xw xd xl:aC}(Bg:eX xw)(zM:bA xd)(Av:gX xl):b8 (zS 10 (dN xw xd xl)):=by
 intro S0 d l Q E D0 k
 unfold dN
 refine fP ?_
 rw[show aB 10 [PV.ref d]=[some (.ref d),none,none,none,none,none,none,none,none,none] from rfl]
 refine al fun N hN=>?_
 walk_at "x"
 refine Bg D0 (by decide) (by decide) fun p ns S hl hnd hw0 _ C6 hpl hp D O0=>?_
 have Hq:ns.length=8:=hl
 refine hN _ _ (al fun N hN=>?_)
 walk_at "x"
 refine zM D (by decide) (by decide) fun r S1 r0 r1 D1 O1=>?_
 obtain⟨j,ej⟩:∃j:Nat,1+r=(j:Int):=⟨(1+r).toNat,by omega⟩
 have hp1:=O1 _ _ hp C6 hpl
 dsimp only
 rw[ej,hp1]
 dsimp only
 rw[kK (by rw[HD];omega),<-Kq]
 have hj4:j<=4:=by omega
 have hj1:1<=j:=by omega
 intro p2 hp2
 have n2:=D1.free hp2
 have D2:zY (zL S1 p2 (.lst ((ns.take j).map PV.str))) d l:=D1.new hp2
 have f2:(zL S1 p2 (.lst ((ns.take j).map PV.str))) p2=some (.lst ((ns.take j).map PV.str)):=aa
 have GK:p≠p2:=fun h=>by rw[h,hp2]at hp1;cases hp1
 have hp2':(zL S1 p2 (.lst ((ns.take j).map PV.str))) p=some (.lst (ns.map PV.str)):=by rw[aj GK];exact hp1
 generalize zL S1 p2 (.lst ((ns.take j).map PV.str))=S2 at D2 f2 hp2'
 have F6:(ns.take j).length=j:=by rw[IV];omega
 have GL:∀z∈ns.take j,Cl z:=fun z hz=>(hw0 z (IS hz)).1
 generalize ns.take j=js at f2 F6 GL
 refine hN _ _ (al fun N hN=>?_)
 walk_at "x"
 simp only[f2]
 refine hN _ _ (al fun N hN=>?_)
 simp only[List.set_cons_zero,List.set_cons_succ,au,aH,aG,v3,lk,bI]
 refine cP (fun done ys S'=>∃os rs:List Str,ys=os.map PV.str/\os.length=done.length/\rs.length+done.length=j/\(∀z∈os,z∈js)/\(∀z∈rs,z∈js)/\zY S' d l/\S' p2=some (.lst (rs.map PV.str))/\S' p=some (.lst (ns.map PV.str))) ⟨[],js,rfl,rfl,F6,by simp,fun z h=>h,D2,f2,hp2'⟩ ?_ ?_ ?_
 ·rintro done ys S' ⟨os,rs,rfl,e,l1,_⟩
  exact⟨trivial,bO (by rw[HD,e];omega)⟩
 ·rintro done x rest ys S' K e ⟨os,rs,rfl,e1,e2,ho,hr,D',f',w'⟩ hK
  have hlen:done.length < j:=by
   have:(js.map PV.str).length=done.length+(rest.length+1):=by rw[e,HC,HW]
   rw[HD]at this
   omega
  simp only[Tg.put,dI,List.reduceReplicate,Ig,Je,List.cons_append,List.nil_append,List.set_cons_zero,List.set_cons_succ,lk,bp,II,d_,mn,ao,ac,ap,v3,bZ,f',Kd,HD,List.getElem?_cons_zero,List.getElem?_cons_succ,Option.join]
  refine zM D' (by omega) (by omega) fun r S3 r0 r1 D3 O3=>?_
  obtain⟨i,rfl⟩:∃i:Nat,r=(i:Int):=⟨r.toNat,by omega⟩
  have hi:i < rs.length:=by omega
  have f3:=O3 _ _ f' n2.1 n2.2
  simp only[li,f3,HD,zF hi,HR,Ib hi,Option.map_some]
  refine⟨by omega,by omega,hK _ _ ⟨os++[rs[i]],rs.eraseIdx i,by rw[IA];rfl,by rw[HC,HC,e1];rfl,?_,?_,?_,D3.upd n2.1 n2.2,?_,?_⟩⟩
  ·rw[List.length_eraseIdx_of_lt hi,HC,HZ];omega
  ·intro z hz
   rcases HN.mp hz with h|h
   ·exact ho z h
   ·rw[HM.mp h];exact hr _ (Kg hi)
  ·exact fun z hz=>hr z (List.mem_of_mem_eraseIdx hz)
  ·rw[aa,j9]
  ·rw[aj GK];exact O3 _ _ w' C6 hpl
 rintro ys S3 ⟨os,rs,rfl,eo,_,ho,_,D3,_,w3⟩ po CS
 rw[HD,F6]at eo
 have GM:=D3.free CS
 have Hx:p≠po:=fun h=>by rw[h,CS]at w3;cases w3
 refine hN _ _ (al fun N hN=>?_)
 walk_at "x"
 intro pb CG
 have D4:=(D3.new (o:=.lst (os.map PV.str)) CS)
 have GN:=D4.free CG
 have H0:C2 (zL (zL S3 po (.lst (os.map PV.str))) pb (.lst [])) d l p po pb (ns.map PV.str) (os.map PV.str) (([]:List Bd).map Bd.pv):=by
  have a:(zL S3 po (.lst (os.map PV.str))) p=some (.lst (ns.map PV.str)):=by rw[aj Hx];exact w3
  have b:(zL S3 po (.lst (os.map PV.str))) po=some (.lst (os.map PV.str)):=aa
  have n1:p≠pb:=fun h=>by rw[h,CG]at a;cases a
  have n2:po≠pb:=fun h=>by rw[<-h,b]at CG;cases CG
  exact⟨D4.new CG,by rw[aj n1];exact a,by rw[aj n2];exact b,aa,C6,hpl,GM.1,GM.2,GN.1,GN.2,n1,n2⟩
 generalize zL (zL S3 po (.lst (os.map PV.str))) pb (.lst [])=S4 at H0
 refine hN _ _ (al fun N hN=>?_)
 simp only[cm,cL,v3,lk,List.set_cons_zero,List.set_cons_succ,H0.o]
 refine bU (fun done σ S'=>∃(bs:List Bd) (x4 x7 x8 x9:Option PV),σ=[some (.ref d),some (.ref p),some (.ref p2),some (.tup (js.map PV.str)),x4,some (.ref po),some (.ref pb),x7,x8,x9]/\C2 S' d l p po pb (ns.map PV.str) (os.map PV.str) (bs.map Bd.pv)/\bs.length=done.length/\done.length<=j/\∀t∈bs,CB js t) ⟨[],_,_,_,_,rfl,H0,rfl,Il _,by simp⟩ (fun _ _ _ ⟨_,_,_,_,_,_,H,_⟩=>H.o) ?_ ?_
 ·rintro done x rest σ S' K e ⟨bs,x4,x7,x8,x9,rfl,H,lb,lj,hb⟩ hK
  obtain⟨y,rfl,hy⟩:=dF e
  obtain⟨z,hz,rfl⟩:∃z,os[done.length]?=some z/\.str z=y:=by rw[HR]at hy;exact IK.mp hy
  have hlt:done.length < os.length:=(Ih.mp hz).1
  have Eh:z∈js:=ho z (Ik hz)
  simp only[Tg.put,Tg.zN,List.set_cons_zero,List.set_cons_succ]
  refine al fun N2 A0=>?_
  simp only[au,ay,ao,ah,ac,v3,lk,c3]
  refine zM H.D (by decide) (by decide) fun r1 S1 a0 a1 D1 O1=>?_
  have H1:=H.Bp D1 O1
  simp only[aP,List.set_cons_zero,List.set_cons_succ]
  refine A0 _ _ (al fun N2 A0=>?_)
  have next:∀(t:Bd) (S2:aq),CI js t->C2 S2 d l p po pb (ns.map PV.str) (os.map PV.str) (bs.map Bd.pv)->N2 [some (.ref d),some (.ref p),some (.ref p2),some (.tup (js.map PV.str)),some (.str z),some (.ref po),some (.ref pb),some (.int done.length),some t.pv,x9] S2:=by
   intro t S2 ht H2
   refine A0 _ _ (al fun N3 Dd=>?_)
   simp only[au,bu,ay,ao,ac,v3,lk,c3]
   intro e1 DE
   have n1:=H2.D.free DE
   refine Av (js:=js) (H2.new DE).D aa n1.1 n1.2 fun f1 S3 l1 g1 D3 O3=>?_
   have H3:=(H2.new DE).Bp D3 O3
   intro e2 F7
   have n2:=H3.D.free F7
   refine Av (js:=js) (H3.new F7).D aa n2.1 n2.2 fun f2 S4 l2 g2 D4 O4=>?_
   have H4:=(H3.new F7).Bp D4 O4
   intro p9 hp9
   have n9:=H4.D.free hp9
   have H5:=H4.new (o:=.lst [.tup [.str "then",f1.pv,t.pv],.tup [.str "often",t.pv],.tup [.str "either",f2.pv,t.pv]]) hp9
   have f5:(zL S4 p9 (.lst [.tup [.str "then",f1.pv,t.pv],.tup [.str "often",t.pv],.tup [.str "either",f2.pv,t.pv]])) p9=some (.lst [.tup [.str "then",f1.pv,t.pv],.tup [.str "often",t.pv],.tup [.str "either",f2.pv,t.pv]]):=aa
   refine Dd _ _ ?_
   generalize zL S4 p9 (.lst [.tup [.str "then",f1.pv,t.pv],.tup [.str "often",t.pv],.tup [.str "either",f2.pv,t.pv]])=S5 at H5 f5
   simp only[List.set_cons_zero,List.set_cons_succ,aU,d_,mn,ao,ah,ac,ap,bu,v3,lk,c3,bZ,aP,H5.b,Kd,HD]
   refine zM (m:=(bs.length:Int)+1) H5.D (by omega) (by omega) fun r6 S6 b0 b1 D6 O6=>?_
   have H6:=H5.Bp D6 O6
   have f6:=O6 _ _ f5 n9.1 n9.2
   simp only[ag,f6,ft,jd,vZ]
   intro p10 Ek
   have GO:=H6.D.free Ek
   refine zM (H6.new Ek).D (by decide) (by decide) fun r7 S7 c0 c1 D7 O7=>?_
   have H7:=(H6.new Ek).Bp D7 O7
   have f7:=O7 _ _ (aa (S:=S6)) GO.1 GO.2
   simp only[f7]
   obtain⟨v,hv,hm⟩:=eY (xs:=[t.pv,.tup [.str "then",f1.pv,t.pv],.tup [.str "often",t.pv],.tup [.str "either",f2.pv,t.pv]]) c0 (by simpa using c1)
   rw[hv]
   obtain⟨u,hu,rfl⟩:∃u,CB js u/\u.pv=v:=by
    simp only[HL,Ic,IY]at hm
    rcases hm with rfl|rfl|rfl|rfl
    ·exact⟨t,ht.cb,rfl⟩
    ·exact⟨_,ht.zP l1 g1,rfl⟩
    ·exact⟨_,ht.AN,rfl⟩
    ·exact⟨_,ht.AD l2 g2,rfl⟩
   simp only[iG,H7.b]
   refine⟨b0,by rw[HD];omega,HY (show(bs.map Bd.pv).length < 5 by rw[HD];omega) (by decide),?_⟩
   refine hK _ _ ⟨bs.take r6.toNat++u::bs.drop r6.toNat,_,_,_,_,rfl,?_,?_,?_,?_⟩
   ·rw[IA,Ig,Kq,List.map_drop]
    exact H7.put
   ·rw[HC,HW,IV,IF,HC,HZ];omega
   ·rw[HC,HZ];omega
   ·intro w hw
    rcases HN.mp hw with h|h
    ·exact hb w (IS h)
    ·rcases HL.mp h with rfl|h
     ·exact hu
     ·exact hb w (J9 h)
  have take:∀(S2:aq),C2 S2 d l p po pb (ns.map PV.str) (os.map PV.str) (bs.map Bd.pv)->au 8 (ay [c3 (.str "take"),ah ag (v3 5) (ah b4 (v3 7) (c3 (.int 1))),ah aP (c3 (.int 1)) (ac xd [v3 0,c3 (.int 9)]),v3 8,ac xl [v3 0,bu []]]) { nx:=N2,rt:=Q,ex:=dC,ct:=K,bk:=N } [some (.ref d),some (.ref p),some (.ref p2),some (.tup (js.map PV.str)),some (.str z),some (.ref po),some (.ref pb),some (.int done.length),some (.tup [.str "put",.str z,.int (1+r1)]),x9] S2:=by
   intro S2 H2
   obtain⟨y,hy,ey⟩:=oN (xs:=os.map PV.str) (i:=done.length) (by rw[HD];exact hlt)
   obtain⟨y,Hy,rfl⟩:=Im.mp hy
   simp only[au,ay,ao,ah,ac,bu,v3,lk,c3,b4,ag,dH,H2.o,ey]
   refine zM H2.D (by decide) (by decide) fun r2 S3 b0 b1 D3 O3=>?_
   have H3:=H2.Bp D3 O3
   simp only[aP]
   intro e1 DE
   have n1:=H3.D.free DE
   refine Av (js:=js) (H3.new DE).D aa n1.1 n1.2 fun f S4 Hz hgf D4 O4=>?_
   have H4:=(H3.new DE).Bp D4 O4
   exact next (.Au y (1+r2) (.put z (1+r1)) f) S4 (.Au Eh (by omega) (by omega) (ho y Hy) (by omega) (by omega) Hz hgf) H4
  simp only[bh,iT,aS,ah,ap,ao,ac,v3,lk,c3,mr,dH,HS]
  split
  ·rw[if_pos trivial];exact take S1 H1
  ·refine zM H1.D (by decide) (by decide) fun r2 S2 b0 b1 D2 O2=>?_
   have H2:=H1.Bp D2 O2
   simp only[bg,HQ,HS]
   split
   ·exact take S2 H2
   ·simp only[aM]
    exact next (.put z (1+r1)) S2 (.put Eh (by omega) (by omega)) H2
 ·rintro σ S5 ⟨bs,x4,x7,x8,x9,rfl,H,lb,lj,hb⟩
  refine hN _ _ ?_
  have Dr:bs.length<=4:=by omega
  simp only[az,ay,ao,ap,aH,cL,v3,lk,H.b]
  refine cP (fun done ys S'=>S'=S5/\∃es:List (Str×Bd),ys=es.map eZ/\es.length=done.length/\done.length<=bs.length/\∀q∈es,q.2∈bs) ⟨rfl,[],rfl,rfl,Il _,by simp⟩ ?_ ?_ ?_
  ·rintro done ys S' ⟨rfl,es,rfl,e,l1,_⟩
   exact⟨H.b,bO (by rw[HD,e];omega)⟩
  ·rintro done x rest ys S' K e ⟨rfl,es,rfl,e2,l1,he⟩ hK
   obtain⟨y,rfl,hy⟩:=dF e
   obtain⟨t,ht,rfl⟩:∃t,bs[done.length]?=some t/\t.pv=y:=by rw[HR]at hy;exact IK.mp hy
   have hlt:done.length < bs.length:=(Ih.mp ht).1
   have h8:4+done.length < ns.length:=by omega
   have hat:Ar (ns.map PV.str) (4+(done.length:Int))=some (.str ns[4+done.length]):=by
    rw[show(4+(done.length:Int))=((4+done.length:Nat):Int) by omega]
    exact ji (by rw[HR,Ib h8];rfl)
   simp only[Tg.put,Tg.zN,dI,List.reduceReplicate,Ig,Je,List.cons_append,List.nil_append,List.set_cons_zero,List.set_cons_succ,lk,bp,II,ay,ao,ah,c3,v3,aP,ag,List.getElem?_cons_zero,List.getElem?_cons_succ,Option.join,H.w,hat]
   refine hK _ _ ⟨rfl,es++[(ns[4+done.length],t)],by rw[IA];rfl,by rw[HC,HC,e2];rfl,by rw[HC,HZ];omega,fun q hq=>?_⟩
   rcases HN.mp hq with h|h
   ·exact he q h
   ·rw[HM.mp h];exact Ik ht
  ·rintro ys S' ⟨rfl,es,rfl,e,_,he⟩ pl hpl
   simp only[bJ,lh,aa]
   have hel:es.length<=1000:=by
    rw[e];unfold L3.aR;rw[JV,HD];omega
   refine k js es _ ⟨⟨fun z hz=>jg (GL z hz),by omega,hel,fun q hq=>(hb _ (he q hq)).g,fun q hq=>by have:=(hb _ (he q hq)).d;omega,fun q hq=>by have:=(hb _ (he q hq)).s;omega⟩,fun q hq=>by have:=(hb _ (he q hq)).p;omega⟩
def Dh.ok{js:Vs}{ds:List (Str×Bd)}{hs:Vs}(h:Dh js ds hs)(hj:mC js):mC hs:=fun z hz=>hj z (h.2.2.1 z hz)
abbrev fL(w:aC):Prop:=∀{S:aq} {js:Vs} {ds:List (Str×Bd)} {i:Nat} {z:Str} {t:Bd} {Q:bQ} {E:cU},HP js ds->ds[i]?=some (z,t)->
  (∀hs p S',Dh js ds hs->S p=none->Ext S S'->S' p=some (.lst (t.ps (mq hs)))->Q (.ref p) S')->w [Aq js ds,.int (i:Int)] S Q E
def BI{xo xf:aC}(Cd:bW 6 xo)(DF:dU xf):fL (zS 2 (i9 xo xf)):=by
 intro S js ds i z t Q E hP hi k
 unfold i9
 refine fP ?_
 rw[show aB 2 [Aq js ds,.int (i:Int)]=[some (.tup [.tup (js.map PV.str),.tup (ds.map eZ)]),some (.int (i:Int))] from rfl]
 have hm:(z,t)∈ds:=Ik hi
 have hat:Ar (ds.map eZ) (i:Int)=some (.tup [.str z,t.pv]):=ji (by rw[HR,hi];rfl)
 simp only[az,ac,ao,ah,v3,lk,c3,ag,jd,hat]
 refine DF hP.toHG fun p hs S1 hp X1 f1 hf=>?_
 exact Cd (hP.dp _ hm) (by have:t.zK+t.zO<=1000:=hP.pc _ hm;omega) (hP.gd _ hm) hP.jw (hf.ok hP.jw) f1 fun q S2 hq X2 f2=>k hs q S2 hf (X1.free hq) (X1.trans X2) f2
def s9{js:Vs}{ds:List (Str×Bd)}{hs:Vs}(h:Dh js ds hs):mq (held ds js.length)=mq hs:=sX h.1 h.2.1 h.2.2.1 h.2.2.2
end C
namespace G30
open PySem L2 L3
noncomputable def bG(i:Nat):Stmt:=PySem.Challenge.pw_dueworth_k30_passes_in_order.main.body.getD i (.Pass ⟨0,0,0,0⟩)
structure Txt (P:Program) (w:World) (K:Vo) (mg:Vr):Prop where
 o_sides_of:bz K mg "sides_of" (bG 2) ["body"]
 o_parts_in:bz K mg "parts_in" (bG 3) ["body"]
 o_parts:bz K mg "parts" (bG 4) ["body"]
 o_plain_trace:bz K mg "plain_trace" (bG 6) ["body"]
 o_led_to_part:bz K mg "led_to_part" (bG 7) ["body","place","trace"]
 o_parts_reached:lv K mg "parts_reached" (bG 9) ["body","names","reached"]
 o_next_step:bz K mg "next_step" (bG 10) ["house","names"]
 o_filling:bz K mg "filling" (bG 11) ["house"]
 o_fillable:bz K mg "fillable" (bG 12) ["house"]
 o_passes_of_then:bz K mg "passes_of_then" (bG 14) ["body","names"]
 o_passes_of:bz K mg "passes_of" (bG 15) ["body","names"]
 o_passes:bz K mg "passes" (bG 16) ["house","d"]
 o__law_deal:bz K mg "_law_deal" (bG 18) ["_law_script","_law_base"]
 o__law_draw:bz K mg "_law_draw" (bG 19) ["_law_deal_here","_law_many"]
 o__law_words:bz K mg "_law_words" (bG 20) ["_law_deal_here","_law_many"]
 o__law_low:bz K mg "_law_low" (bG 21) ["_law_top","_law_bottom"]
 o__law_cost:bz K mg "_law_cost" (bG 22) ["_law_deal_here"]
 o__law_leaf:bz K mg "_law_leaf" (bG 23) ["_law_deal_here","_law_jars"]
 o__law_body:bz K mg "_law_body" (bG 24) ["_law_deal_here","_law_jars","_law_left","_law_down"]
 o__law_pass_count:bz K mg "_law_pass_count" (bG 25) ["_law_body_here"]
 o__law_round_count:bz K mg "_law_round_count" (bG 26) ["_law_body_here"]
 o__law_deed_body:bz K mg "_law_deed_body" (bG 27) ["_law_deal_here","_law_jars","_law_most_parts","_law_most_lines"]
 o__law_house:bz K mg "_law_house" (bG 28) ["_law_deal_here","_law_most_jars","_law_most_deeds","_law_most_parts"]
 o__law_puts:bz K mg "_law_puts" (bG 29) ["_law_body_here","_law_held","_law_found"]
 o__law_fillable:bz K mg "_law_fillable" (bG 30) ["_law_house_here"]
 o__law_alike:bz K mg "_law_alike" (bG 31) ["_law_found","_law_due"]
 o__law_passes:bz K mg "_law_passes" (bG 32) ["_law_body_here","_law_held"]
 o__law_chain:bz K mg "_law_chain" (bG 33) ["_law_deal_here"]
 o__law_any_house:bz K mg "_law_any_house" (bG 34) ["_law_deal_here"]
 o__law_swapped:bz K mg "_law_swapped" (bG 35) ["_law_body_here","_law_names"]
 o__law_kin:bz K mg "_law_kin" (bG 36) ["_law_house_here"]
 o__law_right:bz K mg "_law_right" (bG 37) ["_law_house_here"]
 DN:mg "all" = none
 Dk:mg "bool" = none
 Aj:mg "enumerate" = none
 zW:mg "isinstance" = none
 AQ:mg "len" = none
 Ce:mg "list" = none
 DO:mg "max" = none
 BS:mg "range" = none
 CH:mg "reversed" = none
 AC:mg "tuple" = none
 DP:mg "zip" = none
 Cf:∃a,mg "SIDES_FROM" = some (.ref a)/\KD P w K a (C.k_SIDES_FROM.map fun kv=>(kv.1,V.int kv.2))
section
variable {P:Program} {w:World} {K:Vo} {mg:Vr} {base:Heap}
def yR:(["step","house"]:Vs).Nodup:=by decide +kernel
def yS:(["other","one"]:Vs).Nodup:=by decide +kernel
def xA:(["trace"]:Vs).Nodup:=by decide +kernel
def s_:(["_law_one"]:Vs).Nodup:=by decide +kernel
def yT:(["_law_k","_law_deal_here","_law_letters"]:Vs).Nodup:=by decide +kernel
def yU:(["_law_j","_law_deal_here","_law_letters"]:Vs).Nodup:=by decide +kernel
def yV:(["_law_k","_law_deal_here","_law_first","_law_jars","_law_many","_law_most_parts","_law_words_here"]:Vs).Nodup:=by decide +kernel
def xB:(["_law_one","_law_other"]:Vs).Nodup:=by decide +kernel
def yW:(["_law_other","_law_one"]:Vs).Nodup:=by decide +kernel
def yX:(["_law_jar","_law_deal_here","_law_left"]:Vs).Nodup:=by decide +kernel
def tX:(["_law_k","_law_body_here","_law_words_here"]:Vs).Nodup:=by decide +kernel
def nu:(["_law_name","_law_body_here"]:Vs).Nodup:=by decide +kernel
def tY:(["_law_name","_law_body_here","_law_names"]:Vs).Nodup:=by decide +kernel
def xC:(["_law_house_here"]:Vs).Nodup:=by decide +kernel
def dW:aC:=zS 1 C.fE
def il(T:Txt P w K mg):AM P w K mg base 1 "sides_of" 1 dW:=fJ ["body"] T.o_sides_of (fun _ _ _ _ _ _ _ hr nd=>(ak (ar (bS (ae 0) (cq (zB hr T.Cf (bi hr (ae 0)) (cB cV T.AQ (l1 (ae 0))))) dg)))) rfl
noncomputable def dX:Nat->aC
 |0=>lu
 |n+1=>zS 3 (C.fF dW (dX n))
def jo:aC:=dX 12
def lF(T:Txt P w K mg):AM P w K mg base 13 "parts_in" 1 jo:=i_ (b:=1) (r:=dX) T.o_parts_in (fun n R0=>fJ ["body","found","side"] T.o_parts_in (fun _ _ _ _ _ _ _ hr nd=>(ab (s4 1 nd (bo (l1 (ae 0))))
  (ab (d5 Iq rfl (bN (c4 (il T) hr (l1 (ae 0)))) (gn 2 nd) (ak (bw (lO dD eu (ae 1) (l1 (c4 R0 hr (l1 (ae 2))))))))
  (ak (ar (ae 1)))))) rfl) rfl rfl 12
def kO:aC:=zS 1 (C.kG jo)
def qP(T:Txt P w K mg):AM P w K mg base 14 "parts" 1 kO:=fJ ["body"] T.o_parts (fun _ _ _ _ _ _ _ hr nd=>(ak (ar (cB cV T.AQ (l1 (c4 (lF T) hr (l1 (ae 0)))))))) rfl
noncomputable def ci:Nat->aC
 |0=>lu
 |n+1=>zS 1 (C.di (ci n))
def fu:aC:=ci 12
def eO(T:Txt P w K mg):AM P w K mg base 12 "plain_trace" 1 fu:=i_ (b:=0) (r:=ci) T.o_plain_trace (fun n R0=>fJ ["body"] T.o_plain_trace (fun _ _ _ _ _ _ _ hr nd=>(ab (bb (fq hr (bi hr (ae 0)) am) (ak (ar (aA (lc (c4 R0 hr (l1 (bi hr (ae 0)))) (l1 (c4 R0 hr (l1 (bi hr (ae 0))))))))) aI)
  (ab (bb (fq hr (bi hr (ae 0)) am) (ak (ar (aA (lc ad (l1 (c4 R0 hr (l1 (bi hr (ae 0))))))))) aI)
  (ab (bb (fq hr (bi hr (ae 0)) am) (ak (ar (aA (lc ad (l1 (c4 R0 hr (l1 (bi hr (ae 0))))))))) aI)
  (ak (ar (aA cw))))))) rfl) rfl rfl 12
noncomputable def cj:Nat->aC
 |0=>lu
 |n+1=>zS 8 (C.dj kO fu (cj n))
def fw:aC:=cj 12
def jp(T:Txt P w K mg):AM P w K mg base 26 "led_to_part" 3 fw:=i_ (b:=14) (r:=cj) T.o_led_to_part (fun n R0=>fJ ["body","place","trace","one","other","second","side","inner"] T.o_led_to_part (fun _ _ _ _ _ _ _ hr nd=>(ab (bb (fq hr (ae 1) ad) (ak (ar (ae 2))) aI)
  (ab (bb (fq hr (bi hr (ae 0)) am) (ak (ar (aA (l1 (aA (lc ad (l1 (c4 R0 hr (lc (bi hr (ae 0)) (lc (aE d6 (ae 1) ad) (l1 (ae 2)))))))))))) aI)
  (ab (s4 3 nd (dO hr (ae 0) (er bv ad)))
  (ab (s4 4 nd (dO hr (ae 0) (er bv ad)))
  (ab (s4 5 nd (aE aD ad (c4 (qP T) hr (l1 (ae 3)))))
  (ab (s4 6 nd (tR (bd ms (ae 1) (ae 5) (aY _)) ad ad))
  (ab (s4 7 nd (tR (fq hr (ae 6) ad) (c4 R0 hr (lc (ae 3) (lc (aE d6 (ae 1) ad) (l1 (ae 2))))) (c4 R0 hr (lc (ae 4) (lc (aE d6 (ae 1) (ae 5)) (l1 (ae 2)))))))
  (ab (bb (xX hr (bi hr (ae 0)) am) (ak (ar (aA (lc (ae 6) (l1 (ae 7)))))) aI)
  (ab (bb (fq hr (ae 6) ad) (ak (ar (aA (lc (ae 7) (l1 (c4 (eO T) hr (l1 (ae 4)))))))) aI)
  (ak (ar (aA (lc (c4 (eO T) hr (l1 (ae 3))) (l1 (ae 7)))))))))))))))) rfl) rfl rfl 12
noncomputable def bK:Nat->aC
 |0=>lu
 |n+1=>zS 7 (C.cu dW (bK n))
def d8:aC:=bK 12
def gY(T:Txt P w K mg):DB P w K mg base 13 "parts_reached" 3 d8:=xq (b:=1) (r:=bK) T.o_parts_reached (fun n R0=>zC ["body","names","reached","found","number","side","shut"] T.o_parts_reached (fun _ _ _ _ _ _ _ hr nd=>(ab (s4 3 nd (bo (l1 (aA (lc (ae 0) (l1 (ae 2)))))))
  (ab (d5 Iq rfl (gQ rfl rfl T.Aj (by decide +kernel) (l1 (c4 (il T) hr (l1 (ae 0))))) (on rfl (aV (gn 4 nd) (aV (gn 5 nd) dB))) (ab (s4 6 nd (ld (iS (iV (ig hr)) (bi hr (ae 0)) am (aY _)) (ld (iS (iV (ig hr)) (ae 4) ad (aY _)) (m5 (iS (fX (eB hr)) (bi hr (ae 0)) (ae 1) rfl)))))
  (ak (bw (lO dD eu (ae 3) (l1 (zD R0 hr (lc (ae 5) (lc (ae 1) (l1 (ld (ae 2) (m5 (wR (ae 6))))))))))))))
  (ak (ar (ae 3)))))) rfl) rfl rfl 12
def eP:aC:=zS 7 (C.eJ d8 fw)
def gx(T:Txt P w K mg):AM P w K mg base 27 "next_step" 2 eP:=fJ ["house","names","d","deed","place","found","part"] T.o_next_step (fun _ _ _ _ _ _ _ hr nd=>(ab (d5 Iq rfl (gQ rfl rfl T.Aj (by decide +kernel) (l1 (bi hr (ae 0)))) (on rfl (aV (gn 2 nd) (aV (gn 3 nd) dB))) (ak (d5 Iq rfl (gQ rfl rfl T.Aj (by decide +kernel) (l1 (cD (gY T) hr (lc (bi hr (ae 3)) (l1 (ae 1)))))) (on rfl (aV (gn 4 nd) (aV (gn 5 nd) dB))) (ab (s4 6 nd (bi hr (ae 5)))
  (ak (bb (og (m4 (mZ (bi hr (ae 5))) (m4 (fq hr (bi hr (ae 6)) am) (me (bd (fX (eB hr)) (bi hr (ae 6)) (ae 1) rfl))))) (ak (ar (aA (lc (xk PySem.F.plainAttrs_tuple PySem.F.slot_tuple_index PySem.F.type_tuple_index qz rfl (bi hr (ae 0)) (l1 (bi hr (ae 6)))) (lc (ae 2) (l1 (c4 (jp T) hr (lc (bi hr (ae 3)) (lc (ae 4) (l1 (aA cw))))))))))) aI))))))
  (ak (ar p7)))) rfl
def j_:aC:=zS 4 (C.gS eP)
def mF(T:Txt P w K mg):AM P w K mg base 28 "filling" 1 j_:=fJ ["house","found","names","step"] T.o_filling (fun _ _ _ _ _ _ _ hr nd=>(ab (s4 1 nd (bo cw))
  (ab (s4 2 nd (bo cw))
  (ab (s4 3 nd (c4 (gx T) hr (lc (ae 0) (l1 (ae 2)))))
  (ab (iF Iq (bd qc (ae 3) p7 (aY _)) (ab (bw (lO cF dA (ae 1) (l1 (ae 3))))
  (ab (bw (lO cF dA (ae 2) (l1 (dO hr (bi hr (ae 0)) (bi hr (ae 3))))))
  (ak (s4 3 nd (c4 (gx T) hr (lc (ae 0) (l1 (ae 2)))))))))
  (ak (ar (ae 1)))))))) rfl
def fM:aC:=zS 1 (C.fH j_)
def lG(T:Txt P w K mg):AM P w K mg base 29 "fillable" 1 fM:=fJ ["house"] T.o_fillable (fun _ _ _ _ _ _ _ hr nd=>(ak (ar (oA ["house"] 1 [0] ["step","house"] (bN (c4 (mF T) hr (l1 (ae 0)))) (fun _=>(gn 0 yR)) (fun _=>b3) (fun _=>(dO hr (bi hr (ae 1)) (bi hr (ae 0)))))))) rfl
noncomputable def aX:Nat->aC×aC
 |0=>(lu,lu)
 |n+1=>(zS 5 (C.bC (aX n).1 (aX n).2),zS 3 (C.cW (aX n).1 (aX n).2))
def b9(n:Nat):aC:=(aX n).1
def eQ(n:Nat):aC:=(aX n).2
def gy(T:Txt P w K mg)(n:Nat){s0 s1:aC}(R0:AM P w K mg base (0+n) "passes_of_then" 2 s0)(R1:AM P w K mg base (0+n) "passes_of" 2 s1):AM P w K mg base (0+n+1) "passes_of_then" 2 (zS 5 (C.bC s0 s1)):=fJ ["body","names","found","seconds","one"] T.o_passes_of_then (fun _ _ _ _ _ _ _ hr nd=>(ab (s4 2 nd (bo cw))
  (ab (s4 3 nd (c4 R1 hr (lc (bi hr (ae 0)) (l1 (ae 1)))))
  (ab (d5 Iq rfl (bN (c4 R1 hr (lc (bi hr (ae 0)) (l1 (ae 1))))) (gn 4 nd) (ak (bw (lO dD eu (ae 2) (l1 (oA ["one"] 1 [4] ["other","one"] (bN (ae 3)) (fun _=>(gn 0 yS)) (fun _=>b3) (fun _=>(aA (lc (ae 1) (l1 (ae 0)))))))))))
  (ak (ar (ae 2))))))) rfl
def kP(T:Txt P w K mg)(n:Nat){s0 s1:aC}(R0:AM P w K mg base (0+n) "passes_of_then" 2 s0)(R1:AM P w K mg base (0+n) "passes_of" 2 s1):AM P w K mg base (0+n+1) "passes_of" 2 (zS 3 (C.cW s0 s1)):=fJ ["body","names","others"] T.o_passes_of (fun _ _ _ _ _ _ _ hr nd=>(ab (bb (fq hr (bi hr (ae 0)) am) (ak (ar (c4 R0 hr (lc (ae 0) (l1 (ae 1)))))) aI)
  (ab (bb (bd (fX (eB hr)) (bi hr (ae 0)) (aA (lc am (l1 am))) rfl) (ak (ar (bo (l1 (aA cw))))) aI)
  (ab (vY [] 1 [] ["trace"] 2 nd (bN (c4 R1 hr (lc (dO hr (ae 0) (er bv ad)) (l1 (ae 1))))) (fun _=>(gn 0 xA)) (fun _=>b3) (fun _=>(aA (lc ad (l1 (ae 0))))))
  (ab (bb (og (m4 (fq hr (bi hr (ae 0)) am) (me (bd (fX (eB hr)) (bi hr (ae 0)) (ae 1) rfl)))) (ak (ar (ae 2))) aI)
  (ak (ar (aE aD (oA [] 1 [] ["trace"] (bN (c4 R1 hr (lc (dO hr (ae 0) (er bv ad)) (l1 (ae 1))))) (fun _=>(gn 0 xA)) (fun _=>b3) (fun _=>(aA (lc ad (l1 (ae 0)))))) (ae 2))))))))) rfl
theorem cQ(T:Txt P w K mg):∀n:Nat,AM P w K mg base (0+n) "passes_of_then" 2 (b9 n)/\AM P w K mg base (0+n) "passes_of" 2 (eQ n)
 |0=>⟨.zero T.o_passes_of_then,.zero T.o_passes_of⟩
 |n+1=>let ⟨h0,h1⟩:=cQ T n;⟨gy T n h0 h1,kP T n h0 h1⟩
def im:aC:=eQ 12
def kQ(T:Txt P w K mg):AM P w K mg base 12 "passes_of" 2 im:=(cQ T 12).2
def jq:aC:=zS 2 (C.i9 im fM)
def oO(T:Txt P w K mg):AM P w K mg base 30 "passes" 2 jq:=fJ ["house","d"] T.o_passes (fun _ _ _ _ _ _ _ hr nd=>(ak (ar (c4 (kQ T) hr (lc (bi hr (dO hr (bi hr (ae 0)) (ae 1))) (l1 (c4 (lG T) hr (l1 (ae 0))))))))) rfl
def io:aC:=zS 5 C.eC
def gA(T:Txt P w K mg):AM P w K mg base 1 "_law_deal" 2 io:=fJ ["_law_script","_law_base","_law_one","_law_some","_law_number"] T.o__law_deal (fun _ _ _ _ _ _ _ hr nd=>(ab (vY [] 1 [] ["_law_one"] 3 nd (bN (bS (ae 0) (cq (ae 1)) (cq ad))) (fun _=>(gn 0 s_)) (fun _=>b3) (fun _=>(cB (qf rfl) T.DO (lc (ae 0) (l1 (aE d6 ad (ae 0)))))))
  (ab (s4 4 nd (aE aD ad (ae 1)))
  (ab (d5 Iq rfl (bN (ae 3)) (gn 2 nd) (ak (s4 4 nd (aE eA (aE aD (aE fA (ae 4) ad) (aE eA (ae 2) ad)) ad))))
  (ak (ar (qu (gf am (ae 4) (gf am ad (gf am (vt n5 rfl (oA [] 1 [] ["_law_one"] (bN (ae 3)) (fun _=>(gn 0 s_)) (fun _=>(w_ (bd yL (ae 0) (aE xh ad ad) (aY _)))) (fun _=>(ae 0))) rfl T.Ce rfl T.CH) qt)))))))))) rfl
def w__law_draw:aC:=zS 5 C.eE
def ai(T:Txt P w K mg):AM P w K mg base 1 "_law_draw" 2 w__law_draw:=fJ ["_law_deal_here","_law_many","_law_number","_law_one","_law_other"] T.o__law_draw (fun _ _ _ _ _ _ _ hr nd=>(ab (iF Iq (og (m4 (fq hr (dO hr (ae 0) am) ad) (me (bd mv (cB cV T.AQ (l1 (dO hr (ae 0) am))) ad (aY _))))) (ak (ll (rf hr) (xm qA tU (dO hr (ae 0) am)) (ae 0) am)))
  (ab (s4 2 nd (dO hr (ae 0) am))
  (ab (bb (bd mv (ae 2) ad (aY _)) (ab (ll (rf hr) (aE kF (ae 2) (ae 1)) (ae 0) am)
  (ak (ar (aE eA (ae 2) (ae 1))))) aI)
  (ab (s4 3 nd (aE eA (aE aD (aE fA (dO hr (ae 0) am) ad) ad) ad))
  (ab (ll (rf hr) (aE eA (aE aD (aE fA (ae 3) ad) ad) ad) (ae 0) am)
  (ab (s4 4 nd (aE eA (aE fA (dO hr (ae 0) am) (dO hr (ae 0) am)) ad))
  (ak (ar (aE eA (aE aD (aE fA (aE eA (aE fA (ae 3) (ae 3)) ad) ad) (ae 4)) (ae 1))))))))))) rfl
def cC:aC:=zS 11 (C.dJ w__law_draw)
def fx(T:Txt P w K mg):AM P w K mg base 2 "_law_words" 2 cC:=fJ ["_law_deal_here","_law_many","_law_letters","_law_taken","_law_k","_law_core","_law_at","_law_turn","_law_near","_law_found","_law_name"] T.o__law_words (fun _ _ _ _ _ _ _ hr nd=>(ab (s4 2 nd am)
  (ab (s4 3 nd (bo (lc am (lc am (lc am (lc am (lc am (lc am (lc am (lc am (lc am (l1 am))))))))))))
  (ab (s4 5 nd (lO nh qj am (l1 (oA ["_law_letters","_law_deal_here"] 1 [0,2] ["_law_k","_law_deal_here","_law_letters"] (gc rfl rfl T.BS (l1 (c4 (ai T) hr (lc (ae 0) (l1 ad))))) (fun _=>(gn 0 yT)) (fun _=>b3) (fun _=>(dO hr (ae 2) (c4 (ai T) hr (lc (ae 1) (l1 ad)))))))))
  (ab (sD (i:=6) (j:=7) (k:=8) rfl nd rfl rfl rfl rfl rfl rfl (aA (lc (c4 (ai T) hr (lc (ae 0) (l1 (aE aD (cB cV T.AQ (l1 (ae 5))) ad)))) (lc (c4 (ai T) hr (lc (ae 0) (l1 ad))) (l1 (iS (iV (ig hr)) (c4 (ai T) hr (lc (ae 0) (l1 ad))) ad (aY _)))))))
  (ab (s4 9 nd (bo cw))
  (ab (d5 Iq rfl (gc rfl rfl T.BS (l1 (ae 1))) (gn 4 nd) (ab (s4 10 nd (aE aD (aE aD (bS (ae 5) dg (cq (ae 6))) (dO hr (ae 2) (aE eA (aE aD (ae 7) (ae 4)) ad))) (bS (ae 5) (cq (ae 6)) dg)))
  (ab (bb (tQ (mZ (ae 8))) (ak (s4 10 nd (lO nh qj am (l1 (oA ["_law_letters","_law_deal_here"] 1 [0,2] ["_law_j","_law_deal_here","_law_letters"] (gc rfl rfl T.BS (l1 (aE aD ad (c4 (ai T) hr (lc (ae 0) (l1 ad)))))) (fun _=>(gn 0 yU)) (fun _=>b3) (fun _=>(dO hr (ae 2) (c4 (ai T) hr (lc (ae 1) (l1 ad)))))))))) aI)
  (ab (iF Iq (og (iU (bd (iW (eB hr)) (ae 10) (ae 3) rfl) (fm (bd (iW (eB hr)) (ae 10) (ae 9) rfl)))) (ak (s4 10 nd (aE aD (dO hr (ae 2) (aE eA (aE aD (lO qB sC (ae 2) (l1 (bi hr (ae 10)))) ad) ad)) (bS (ae 10) (cq ad) dg)))))
  (ak (bw (lO cF dA (ae 9) (l1 (ae 10)))))))))
  (ak (ar (ae 9)))))))))) rfl
def fN:aC:=zS 4 C.fD
def lH(T:Txt P w K mg):AM P w K mg base 1 "_law_low" 2 fN:=fJ ["_law_top","_law_bottom","_law_one","_law_other"] T.o__law_low (fun _ _ _ _ _ _ _ hr nd=>(ab (tV (i:=2) (j:=3) rfl nd rfl rfl (by decide) rfl rfl (lc (cB (qf rfl) T.DO (lc (ae 0) (l1 (aE d6 ad (ae 0))))) (l1 (ae 1))))
  (ab (iF Iq (bd mv (ae 3) ad (aY _)) (ak (tV (i:=2) (j:=3) rfl nd rfl rfl (by decide) rfl rfl (lc (ae 3) (l1 (aE eA (ae 2) (ae 3)))))))
  (ak (ar (aA (lc (aE kF (ae 0) (ae 2)) (l1 (aE kF (ae 1) (ae 2)))))))))) rfl
def eR:aC:=zS 2 (C.eF w__law_draw fN)
def kR(T:Txt P w K mg):AM P w K mg base 2 "_law_cost" 1 eR:=fJ ["_law_deal_here","_law_form"] T.o__law_cost (fun _ _ _ _ _ _ _ hr nd=>(ab (s4 1 nd (c4 (ai T) hr (lc (ae 0) (l1 ad))))
  (ab (bb (fq hr (ae 1) ad) (ak (ar (aA (lc ad (l1 ad))))) aI)
  (ab (bb (bd ms (ae 1) ad (aY _)) (ak (ar (aA (lc (aE aD ad (c4 (ai T) hr (lc (ae 0) (l1 ad)))) (l1 ad))))) aI)
  (ak (ar (c4 (lH T) hr (lc (c4 (ai T) hr (lc (ae 0) (l1 ad))) (l1 (aE aD ad (c4 (ai T) hr (lc (ae 0) (l1 ad))))))))))))) rfl
def bP:aC:=zS 4 (C.cn w__law_draw eR)
def bE(T:Txt P w K mg):AM P w K mg base 3 "_law_leaf" 2 bP:=fJ ["_law_deal_here","_law_jars","_law_form","_law_many"] T.o__law_leaf (fun _ _ _ _ _ _ _ hr nd=>(ab (s4 2 nd (c4 (ai T) hr (lc (ae 0) (l1 ad))))
  (ab (bb (fq hr (ae 2) ad) (ak (ar (aA (l1 am)))) aI)
  (ab (bb (og (iU (bd ms (ae 2) ad (aY _)) (fm (fq hr (cB cV T.AQ (l1 (ae 1))) ad)))) (ak (ar (aA (lc am (l1 (c4 (kR T) hr (l1 (ae 0)))))))) aI)
  (ab (s4 3 nd (dO hr (bo (lc ad (lc ad (l1 (aE aD ad (c4 (ai T) hr (lc (ae 0) (l1 ad)))))))) (c4 (ai T) hr (lc (ae 0) (l1 ad)))))
  (ak (ar (aA (lc am (lc (dO hr (ae 1) (c4 (ai T) hr (lc (ae 0) (l1 (cB cV T.AQ (l1 (ae 1))))))) (l1 (ae 3)))))))))))) rfl
noncomputable def cZ:Nat->aC
 |0=>lu
 |n+1=>zS 8 (C.eG w__law_draw bP (cZ n))
def ip:aC:=cZ 12
def kS(T:Txt P w K mg):AM P w K mg base 15 "_law_body" 4 ip:=i_ (b:=3) (r:=cZ) T.o__law_body (fun n R0=>fJ ["_law_deal_here","_law_jars","_law_left","_law_down","_law_form","_law_one","_law_other","_law_many"] T.o__law_body (fun _ _ _ _ _ _ _ hr nd=>(ab (s4 4 nd (c4 (ai T) hr (lc (ae 0) (l1 ad))))
  (ab (bb (og (iU (fq hr (ae 3) ad) (iU (bd ms (bi hr (ae 2)) ad (aY _)) (fm (bd ms (ae 4) ad (aY _)))))) (ak (ar (c4 (bE T) hr (lc (ae 0) (l1 (ae 1)))))) aI)
  (ab (bb (bd ms (ae 4) ad (aY _)) (ab (ll (rf hr) (aE d6 (bi hr (ae 2)) ad) (ae 2) ad)
  (ak (ar (aA (lc am (l1 (c4 R0 hr (lc (ae 0) (lc (ae 1) (lc (ae 2) (l1 (aE d6 (ae 3) ad)))))))))))) aI)
  (ab (ll (rf hr) (aE d6 (bi hr (ae 2)) ad) (ae 2) ad)
  (ab (s4 5 nd (c4 R0 hr (lc (ae 0) (lc (ae 1) (lc (ae 2) (l1 (aE d6 (ae 3) ad)))))))
  (ab (s4 6 nd (c4 R0 hr (lc (ae 0) (lc (ae 1) (lc (ae 2) (l1 (aE d6 (ae 3) ad)))))))
  (ab (bb (bd ms (ae 4) ad (aY _)) (ak (ar (aA (lc am (lc (ae 5) (l1 (ae 6))))))) aI)
  (ab (bb (og (iU (fq hr (ae 4) ad) (fm (fq hr (cB cV T.AQ (l1 (ae 1))) ad)))) (ak (ar (aA (lc am (lc (ae 5) (l1 (ae 6))))))) aI)
  (ab (s4 7 nd (dO hr (bo (lc ad (lc ad (lc ad (l1 (aE aD ad (c4 (ai T) hr (lc (ae 0) (l1 ad))))))))) (c4 (ai T) hr (lc (ae 0) (l1 ad)))))
  (ak (ar (aA (lc am (lc (dO hr (ae 1) (c4 (ai T) hr (lc (ae 0) (l1 (cB cV T.AQ (l1 (ae 1))))))) (lc (ae 7) (lc (ae 5) (l1 (ae 6))))))))))))))))))) rfl) rfl rfl 12
noncomputable def br:Nat->aC
 |0=>lu
 |n+1=>zS 1 (C.bT (br n))
def bt:aC:=br 12
def cR(T:Txt P w K mg):AM P w K mg base 12 "_law_pass_count" 1 bt:=i_ (b:=0) (r:=br) T.o__law_pass_count (fun n R0=>fJ ["_law_body_here"] T.o__law_pass_count (fun _ _ _ _ _ _ _ hr nd=>(ab (bb (fq hr (bi hr (ae 0)) am) (ak (ar (aE fA (c4 R0 hr (l1 (bi hr (ae 0)))) (c4 R0 hr (l1 (bi hr (ae 0))))))) aI)
  (ab (bb (og (iU (fq hr (bi hr (ae 0)) am) (fm (fq hr (bi hr (ae 0)) am)))) (ak (ar (aE aD (c4 R0 hr (l1 (dO hr (ae 0) (er bv ad)))) (c4 R0 hr (l1 (dO hr (ae 0) (er bv ad))))))) aI)
  (ak (ar ad))))) rfl) rfl rfl 12
noncomputable def bn:Nat->aC
 |0=>lu
 |n+1=>zS 1 (C.bL bt (bn n))
def cS:aC:=bn 12
def fi(T:Txt P w K mg):AM P w K mg base 24 "_law_round_count" 1 cS:=i_ (b:=12) (r:=bn) T.o__law_round_count (fun n R0=>fJ ["_law_body_here"] T.o__law_round_count (fun _ _ _ _ _ _ _ hr nd=>(ab (bb (fq hr (bi hr (ae 0)) am) (ak (ar (aE aD (c4 (cR T) hr (l1 (bi hr (ae 0)))) (c4 R0 hr (l1 (bi hr (ae 0))))))) aI)
  (ab (bb (bd (iW (eB hr)) (bi hr (ae 0)) (aA (lc am (lc am (l1 am)))) rfl) (ak (ar (aE aD (c4 R0 hr (l1 (dO hr (ae 0) (er bv ad)))) (c4 R0 hr (l1 (dO hr (ae 0) (er bv ad))))))) aI)
  (ak (ar ad))))) rfl) rfl rfl 12
def b_:aC:=zS 5 (C.b6 ip bt cS bP)
def gB(T:Txt P w K mg):AM P w K mg base 25 "_law_deed_body" 4 b_:=fJ ["_law_deal_here","_law_jars","_law_most_parts","_law_most_lines","_law_body_here"] T.o__law_deed_body (fun _ _ _ _ _ _ _ hr nd=>(ab (s4 4 nd (c4 (kS T) hr (lc (ae 0) (lc (ae 1) (lc (bo (l1 (aE d6 (ae 2) ad))) (l1 ad))))))
  (ab (bb (bd mv (aE aD (c4 (cR T) hr (l1 (ae 4))) (c4 (fi T) hr (l1 (ae 4)))) (ae 3) (aY _)) (ak (s4 4 nd (aA (lc am (lc (aA (lc am (l1 (c4 (bE T) hr (lc (ae 0) (l1 (ae 1))))))) (l1 (c4 (bE T) hr (lc (ae 0) (l1 (ae 1)))))))))) aI)
  (ak (ar (ae 4)))))) rfl
def dY:aC:=zS 9 (C.dL cC w__law_draw b_)
def jC(T:Txt P w K mg):AM P w K mg base 26 "_law_house" 4 dY:=fJ ["_law_deal_here","_law_most_jars","_law_most_deeds","_law_most_parts","_law_words_here","_law_jars","_law_first","_law_many","_law_deeds"] T.o__law_house (fun _ _ _ _ _ _ _ hr nd=>(ab (s4 4 nd (c4 (fx T) hr (lc (ae 0) (l1 ad))))
  (ab (s4 5 nd (cT f8 T.AC (l1 (bS (ae 4) dg (cq (c4 (ai T) hr (lc (ae 0) (l1 (aE aD (ae 1) ad)))))))))
  (ab (s4 6 nd (dO hr (bo (lc ad (l1 ad))) (c4 (ai T) hr (lc (ae 0) (l1 ad)))))
  (ab (s4 7 nd (aE aD ad (c4 (ai T) hr (lc (ae 0) (l1 (ae 2))))))
  (ab (vY ["_law_words_here","_law_most_parts","_law_many","_law_jars","_law_first","_law_deal_here"] 1 [0,6,5,7,3,4] ["_law_k","_law_deal_here","_law_first","_law_jars","_law_many","_law_most_parts","_law_words_here"] 8 nd (gc rfl rfl T.BS (l1 (ae 7))) (fun _=>(gn 0 yV)) (fun _=>b3) (fun _=>(aA (lc (dO hr (ae 6) (aE aD (ae 2) (ae 0))) (l1 (c4 (gB T) hr (lc (ae 1) (lc (ae 3) (lc (ae 5) (l1 (aE kF ad (ae 4))))))))))))
  (ak (ar (aA (lc (ae 5) (l1 (cT f8 T.AC (l1 (ae 8)))))))))))))) rfl
noncomputable def c_:Nat->aC
 |0=>lu
 |n+1=>zS 3 (C.eI (c_ n))
def iq:aC:=c_ 12
def kT(T:Txt P w K mg):AM P w K mg base 12 "_law_puts" 3 iq:=i_ (b:=0) (r:=c_) T.o__law_puts (fun n R0=>fJ ["_law_body_here","_law_held","_law_found"] T.o__law_puts (fun _ _ _ _ _ _ _ hr nd=>(ab (bb (fq hr (bi hr (ae 0)) am) (ak (bw (lO cF dA (ae 2) (l1 (bi hr (ae 0)))))) aI)
  (ab (bb (fq hr (bi hr (ae 0)) am) (ak (bw (c4 R0 hr (lc (bi hr (ae 0)) (lc (ae 1) (l1 (ae 2))))))) aI)
  (ak (bb (bd (iW (eB hr)) (bi hr (ae 0)) (aA (lc am (lc am (l1 am)))) rfl) (ab (bb (og (iU (xX hr (bi hr (ae 0)) am) (fm (bd (iW (eB hr)) (bi hr (ae 0)) (ae 1) rfl)))) (ak (bw (c4 R0 hr (lc (dO hr (ae 0) (er bv ad)) (lc (ae 1) (l1 (ae 2))))))) aI)
  (ak (bw (c4 R0 hr (lc (dO hr (ae 0) (er bv ad)) (lc (ae 1) (l1 (ae 2)))))))) aI))))) rfl) rfl rfl 12
def cv:aC:=zS 6 (C.cr iq)
def gZ(T:Txt P w K mg):AM P w K mg base 13 "_law_fillable" 1 cv:=fJ ["_law_house_here","_law_held","_law_turn","_law_found","_law_name","_law_body_here"] T.o__law_fillable (fun _ _ _ _ _ _ _ hr nd=>(ab (s4 1 nd (bo cw))
  (ab (d5 Iq rfl (bN (bi hr (ae 0))) (gn 2 nd) (ab (s4 3 nd (bo cw))
  (ab (d5 Iq rfl (bN (bi hr (ae 0))) (on rfl (aV (gn 4 nd) (aV (gn 5 nd) dB))) (ak (bw (c4 (kT T) hr (lc (ae 5) (lc (ae 1) (l1 (ae 3))))))))
  (ak (s4 1 nd (ae 3))))))
  (ak (ar (ae 1)))))) rfl
noncomputable def cE:Nat->aC
 |0=>lu
 |n+1=>zS 2 (C.bD (cE n))
def gC:aC:=cE 12
def jD(T:Txt P w K mg):AM P w K mg base 12 "_law_alike" 2 gC:=i_ (b:=0) (r:=cE) T.o__law_alike (fun n R0=>fJ ["_law_found","_law_due"] T.o__law_alike (fun _ _ _ _ _ _ _ hr nd=>(ab (bb (mZ (cB i3 T.zW (lc (ae 1) (l1 (aA (lc (tW T.Ce) (l1 (tW T.AC)))))))) (ab (bb (og (iU (xX hr (cB i3 T.zW (lc (ae 0) (l1 (tW T.Ce)))) (cB i3 T.zW (lc (ae 1) (l1 (tW T.Ce))))) (fm (xX hr (cB i3 T.zW (lc (ae 0) (l1 (tW T.AC)))) (cB i3 T.zW (lc (ae 1) (l1 (tW T.AC)))))))) (ak (ar vc)) aI)
  (ak (ar (ld (iS (iV (ig hr)) (cB cV T.AQ (l1 (ae 0))) (cB cV T.AQ (l1 (ae 1))) (aY _)) (m5 (cB (tT rfl) T.DN (l1 (oA [] 2 [] ["_law_one","_law_other"] (vA rfl rfl rfl T.DP (by decide +kernel) (lc (ae 0) (l1 (ae 1)))) (fun _=>(on rfl (aV (gn 0 xB) (aV (gn 1 xB) dB)))) (fun _=>b3) (fun _=>(c4 R0 hr (lc (ae 0) (l1 (ae 1))))))))))))) aI)
  (ak (ar (ld (iS (iV (ig hr)) (cB i3 T.zW (lc (ae 0) (l1 (tW T.Dk)))) (cB i3 T.zW (lc (ae 1) (l1 (tW T.Dk)))) (aY _)) (m5 (iS (iV (ig hr)) (ae 0) (ae 1) (aY _)))))))) rfl) rfl rfl 12
noncomputable def ck:Nat->aC
 |0=>lu
 |n+1=>zS 5 (C.dm (ck n))
def fy:aC:=ck 12
def jt(T:Txt P w K mg):AM P w K mg base 12 "_law_passes" 2 fy:=i_ (b:=0) (r:=ck) T.o__law_passes (fun n R0=>fJ ["_law_body_here","_law_held","_law_found","_law_others","_law_one"] T.o__law_passes (fun _ _ _ _ _ _ _ hr nd=>(ab (s4 2 nd (bo cw))
  (ab (bb (fq hr (bi hr (ae 0)) am) (ab (s4 3 nd (c4 R0 hr (lc (bi hr (ae 0)) (l1 (ae 1)))))
  (ab (d5 Iq rfl (bN (c4 R0 hr (lc (bi hr (ae 0)) (l1 (ae 1))))) (gn 4 nd) (ak (bw (lO dD eu (ae 2) (l1 (oA ["_law_one"] 1 [4] ["_law_other","_law_one"] (bN (ae 3)) (fun _=>(gn 0 yW)) (fun _=>b3) (fun _=>(aA (lc (ae 1) (l1 (ae 0)))))))))))
  (ak (ar (ae 2))))) aI)
  (ab (bb (og (iU (fq hr (bi hr (ae 0)) am) (fm (fq hr (bi hr (ae 0)) am)))) (ab (bb (og (iU (fq hr (bi hr (ae 0)) am) (fm (bd (iW (eB hr)) (bi hr (ae 0)) (ae 1) rfl)))) (ak (vY [] 1 [] ["_law_one"] 2 nd (bN (c4 R0 hr (lc (dO hr (ae 0) (er bv ad)) (l1 (ae 1))))) (fun _=>(gn 0 s_)) (fun _=>b3) (fun _=>(aA (lc ad (l1 (ae 0))))))) aI)
  (ak (ar (aE aD (ae 2) (oA [] 1 [] ["_law_one"] (bN (c4 R0 hr (lc (dO hr (ae 0) (er bv ad)) (l1 (ae 1))))) (fun _=>(gn 0 s_)) (fun _=>b3) (fun _=>(aA (lc ad (l1 (ae 0)))))))))) aI)
  (ak (ar (bo (l1 (aA cw))))))))) rfl) rfl rfl 12
def dZ:aC:=zS 10 (C.dN cC w__law_draw bP)
def jE(T:Txt P w K mg):AM P w K mg base 4 "_law_chain" 1 dZ:=fJ ["_law_deal_here","_law_words_here","_law_left","_law_jars","_law_jar","_law_order","_law_bodies","_law_k","_law_body_here","_law_more"] T.o__law_chain (fun _ _ _ _ _ _ _ hr nd=>(ab (s4 1 nd (c4 (fx T) hr (lc (ae 0) (l1 ad))))
  (ab (s4 2 nd (bS (ae 1) dg (cq (aE aD ad (c4 (ai T) hr (lc (ae 0) (l1 ad)))))))
  (ab (s4 3 nd (cT f8 T.AC (l1 (ae 2))))
  (ab (vY ["_law_left","_law_deal_here"] 1 [0,2] ["_law_jar","_law_deal_here","_law_left"] 5 nd (bN (ae 3)) (fun _=>(gn 0 yX)) (fun _=>b3) (fun _=>(lO qA tU (ae 2) (l1 (c4 (ai T) hr (lc (ae 1) (l1 (cB cV T.AQ (l1 (ae 2))))))))))
  (ab (s4 6 nd (bo cw))
  (ab (d5 Iq rfl (gQ rfl rfl T.Aj (by decide +kernel) (l1 (ae 5))) (on rfl (aV (gn 7 nd) (aV (gn 4 nd) dB))) (ab (s4 8 nd (aA (lc am (lc (ae 4) (l1 (aE aD ad (c4 (ai T) hr (lc (ae 0) (l1 ad)))))))))
  (ab (bb (og (iU (bd mv (ae 7) ad (aY _)) (fm (fq hr (c4 (ai T) hr (lc (ae 0) (l1 ad))) ad)))) (ak (s4 8 nd (aA (lc am (lc (dO hr (ae 5) (aE d6 (ae 7) ad)) (lc (aE aD ad (c4 (ai T) hr (lc (ae 0) (l1 ad)))) (lc (ae 8) (l1 (c4 (bE T) hr (lc (ae 0) (l1 (bo cw)))))))))))) aI)
  (ab (s4 9 nd (bo (lc (aA (lc am (lc (c4 (bE T) hr (lc (ae 0) (l1 (bo cw)))) (l1 (ae 8))))) (lc (aA (lc am (l1 (ae 8)))) (l1 (aA (lc am (lc (c4 (bE T) hr (lc (ae 0) (l1 (bo cw)))) (l1 (ae 8))))))))))
  (ak (bw (lO oz qx (ae 6) (lc (c4 (ai T) hr (lc (ae 0) (l1 (aE aD (cB cV T.AQ (l1 (ae 6))) ad)))) (l1 (dO hr (bo (lc (ae 8) (lc (bi hr (ae 9)) (lc (bi hr (ae 9)) (l1 (bi hr (ae 9))))))) (c4 (ai T) hr (lc (ae 0) (l1 ad)))))))))))))
  (ak (ar (aA (lc (ae 3) (l1 (cT f8 T.AC (l1 (oA ["_law_words_here"] 2 [1] ["_law_k","_law_body_here","_law_words_here"] (gQ rfl rfl T.Aj (by decide +kernel) (l1 (ae 6))) (fun _=>(on rfl (aV (gn 0 tX) (aV (gn 1 tX) dB)))) (fun _=>b3) (fun _=>(aA (lc (dO hr (ae 2) (aE aD ad (ae 0))) (l1 (ae 1)))))))))))))))))))) rfl
def cf(zJ Cg Ch:aC):bH:=(af (bh (aS (ah (bg false) (ac zJ [(v3 0),(c3 (.int 3))]) (c3 (.int 0)))) (az (ac Cg [(v3 0)])) aM)
  (az (ac Ch [(v3 0),(c3 (.int 4)),(c3 (.int 4)),(c3 (.int 20))])))
def cg:aC:=zS 1 (cf w__law_draw dZ dY)
def de(T:Txt P w K mg):AM P w K mg base 27 "_law_any_house" 1 cg:=fJ ["_law_deal_here"] T.o__law_any_house (fun _ _ _ _ _ _ _ hr nd=>(ab (bb (fq hr (c4 (ai T) hr (lc (ae 0) (l1 ad))) ad) (ak (ar (c4 (jE T) hr (l1 (ae 0))))) aI)
  (ak (ar (c4 (jC T) hr (lc (ae 0) (lc ad (lc ad (l1 ad))))))))) rfl
noncomputable def bX:Nat->aC
 |0=>lu
 |n+1=>zS 3 (C.cO (bX n))
def eU:aC:=bX 12
def iA(T:Txt P w K mg):AM P w K mg base 12 "_law_swapped" 2 eU:=i_ (b:=0) (r:=bX) T.o__law_swapped (fun n R0=>fJ ["_law_body_here","_law_names","_law_sides"] T.o__law_swapped (fun _ _ _ _ _ _ _ hr nd=>(ab (bb (fq hr (bi hr (ae 0)) am) (ak (ar (aA (lc am (lc (qv (rf hr) (ae 1) (bi hr (ae 0)) (bi hr (ae 0)) ⟨rfl,rfl,rfl,rfl⟩) (l1 (bi hr (ae 0)))))))) aI)
  (ab (bb (fq hr (bi hr (ae 0)) am) (ak (ar (aA (lc am (l1 (c4 R0 hr (lc (bi hr (ae 0)) (l1 (ae 1))))))))) aI)
  (ab (bb (bd (iW (eB hr)) (bi hr (ae 0)) (aA (lc am (lc am (l1 am)))) rfl) (ab (s4 2 nd (aA (lc (c4 R0 hr (lc (dO hr (ae 0) (er bv ad)) (l1 (ae 1)))) (l1 (c4 R0 hr (lc (dO hr (ae 0) (er bv ad)) (l1 (ae 1))))))))
  (ab (bb (fq hr (bi hr (ae 0)) am) (ak (ar (aE aD (aA (lc am (lc (qv (rf hr) (ae 1) (bi hr (ae 0)) (bi hr (ae 0)) ⟨rfl,rfl,rfl,rfl⟩) (l1 (bi hr (ae 0)))))) (ae 2)))) aI)
  (ak (ar (aE aD (bS (ae 0) dg (cq ad)) (ae 2)))))) aI)
  (ak (ar (ae 0))))))) rfl) rfl rfl 12
def fO:aC:=zS 6 (C.fI eU)
def lI(T:Txt P w K mg):AM P w K mg base 13 "_law_kin" 1 fO:=fJ ["_law_house_here","_law_jars","_law_deeds","_law_found","_law_names","_law_bodies"] T.o__law_kin (fun _ _ _ _ _ _ _ hr nd=>(ab (w9 (ae 0) (on rfl (aV (gn 1 nd) (aV (gn 2 nd) dB))))
  (ab (s4 3 nd (bo (l1 (ae 0))))
  (ab (bb (bd mv (cB cV T.AQ (l1 (ae 2))) ad (aY _)) (ab (s4 4 nd (oA [] 2 [] ["_law_name","_law_body_here"] (bN (ae 2)) (fun _=>(on rfl (aV (gn 0 nu) (aV (gn 1 nu) dB)))) (fun _=>b3) (fun _=>(ae 0))))
  (ab (vY [] 2 [] ["_law_name","_law_body_here"] 5 nd (bN (ae 2)) (fun _=>(on rfl (aV (gn 0 nu) (aV (gn 1 nu) dB)))) (fun _=>b3) (fun _=>(ae 1)))
  (ak (bw (lO dD eu (ae 3) (l1 (bo (lc (aA (lc (ae 1) (l1 (bS (ae 2) dg (cq (er bv ad)))))) (l1 (aA (lc (ae 1) (l1 (vv rfl rfl rfl rfl T.AC rfl T.DP (lc (ae 4) (l1 (aE aD (bS (ae 5) (cq ad) dg) (bS (ae 5) dg (cq ad)))))))))))))))))) aI)
  (ab (bb (bd mv (cB cV T.AQ (l1 (ae 1))) ad (aY _)) (ab (s4 4 nd (qu (gf (bi hr (ae 1)) (dO hr (ae 1) (er bv ad)) (gf (dO hr (ae 1) (er bv ad)) (bi hr (ae 1)) qt))))
  (ak (bw (lO cF dA (ae 3) (l1 (aA (lc (ae 1) (l1 (cT f8 T.AC (l1 (oA ["_law_names"] 2 [4] ["_law_name","_law_body_here","_law_names"] (bN (ae 2)) (fun _=>(on rfl (aV (gn 0 tY) (aV (gn 1 tY) dB)))) (fun _=>b3) (fun _=>(aA (lc (ae 0) (l1 (c4 (iA T) hr (lc (ae 1) (l1 (ae 2))))))))))))))))))) aI)
  (ak (ar (ae 3)))))))) rfl
def d0(BO Dl Ci B7:aC):bH:=(af (au 1 (ac BO [(v3 0)]))
  (af (cm (cL (ah ag (v3 0) (c3 (.int 1)))) (.tp (.cons (.n 2) (.cons (.tp (.cons (.n 3) (.cons (.n 4) .nil))) .nil))) (af (au 5 (ac Dl [(v3 0),(v3 2)]))
  (af (bh (md (aS (ac Ci [(v3 5),(ac B7 [(v3 4),(v3 1)])]))) (az (c3 (.bl false))) aM)
  (af (aU (d_ "list" f9 (v3 5) []))
  (aU (d_ "list" bm (v3 5) [(c3 .non)]))))))
  (az (c3 (.bl true)))))
def d3:aC:=zS 6 (d0 cv jq gC fy)
def jF(T:Txt P w K mg):AM P w K mg base 31 "_law_right" 1 d3:=fJ ["_law_house_here","_law_held","_law_d","_law_name","_law_body_here","_law_found"] T.o__law_right (fun _ _ _ _ _ _ _ hr nd=>(ab (s4 1 nd (c4 (gZ T) hr (l1 (ae 0))))
  (ab (d5 Iq rfl (gQ rfl rfl T.Aj (by decide +kernel) (l1 (bi hr (ae 0)))) (on rfl (aV (gn 2 nd) (aV (on rfl (aV (gn 3 nd) (aV (gn 4 nd) dB))) dB))) (ab (s4 5 nd (c4 (oO T) hr (lc (ae 0) (l1 (ae 2)))))
  (ab (bb (tQ (mZ (c4 (jD T) hr (lc (ae 5) (l1 (c4 (jt T) hr (lc (ae 4) (l1 (ae 1))))))))) (ak (ar vc)) aI)
  (ab (bw (xm my ol (ae 5)))
  (ak (bw (lO cF dA (ae 5) (l1 p7))))))))
  (ak (ar vc))))) rfl
def qQ(A4 BL CJ Cj:aC):bH:=(af (au 1 (ac A4 [(ac BL [(v3 0),(c3 (.int 0))])]))
  (af (au 2 (ac A4 [(ac BL [(v3 0),(c3 (.int 1))])]))
  (az (ap mj [(aH (aG (ah aP (ac CJ [(v3 1)]) (bu [(v3 2),(v3 1)]))) (.n 0) bp (ac Cj [(v3 0)]) 1 [])]))))
def lJ:aC:=zS 3 (qQ cg io fO d3)
def vP(T:Txt P w K mg){f:Addr}{fd:FuncData}(O:xV K mg "law" (bG 38) ["_law_script"] f fd):Ds P w K mg base 32 f fd ["_law_script"] lJ:=zA ["_law_script","_law_one","_law_other"] O (fun _ _ _ _ _ _ _ hr nd=>(ab (s4 1 nd (c4 (de T) hr (l1 (c4 (gA T) hr (lc (ae 0) (l1 ad))))))
  (ab (s4 2 nd (c4 (de T) hr (l1 (c4 (gA T) hr (lc (ae 0) (l1 ad))))))
  (ak (ar (cB (tT rfl) T.DN (l1 (oA [] 1 [] ["_law_house_here"] (bN (aE aD (c4 (lI T) hr (l1 (ae 1))) (bo (lc (ae 2) (l1 (ae 1)))))) (fun _=>(gn 0 xC)) (fun _=>b3) (fun _=>(c4 (jF T) hr (l1 (ae 0)))))))))))) rfl
end
end G30
namespace G30
open PySem L2 L3 Wd
open C
def Ck{x0 x1 x2:aC}(zM:bA x0)(B3:b8 x1)(Dm:eN x2):b8 (zS 1 (cf x0 x1 x2)):=by
 intro S d l Q E D k
 unfold cf
 refine fP ?_
 rw[show aB 1 [PV.ref d]=[some (.ref d)] from rfl]
 refine al fun N hN=>?_
 simp only[bh,aS,ah,ac,ao,v3,lk,c3]
 refine zM D (by decide) (by decide) fun r S1 r0 r1 D1 O1=>?_
 simp only[bg,HQ,HS]
 split
 ·walk_at "x"
  exact B3 D1 k
 ·simp only[aM]
  refine hN _ _ ?_
  walk_at "x"
  exact Dm (most:=4) (many:=4) (size:=20) D1 (by decide) (by decide) (by decide) (by decide) (by decide) fun js ds S2 h h1 h4 hj hp D2 O2=>k js ds S2 ⟨⟨fun z hz=>jg (h.jw z hz),by omega,by omega,h.gd,h.dq,h.sz⟩,hp⟩
abbrev g_(w:aC):Prop:=∀{S:aq} {js:Vs} {ds:List (Str×Bd)} {Q:bQ} {E:cU},HP js ds->(∀S',Ext S S'->Q (.bl true) S')->w [Aq js ds] S Q E
def B4{x0 x1 x2 x3:aC}(BZ:gV x0)(BI:fL x1)(B2:cH 12 x2)(B1:bW 6 x3):g_ (zS 6 (d0 x0 x1 x2 x3)):=by
 intro S js ds Q E hP k
 unfold d0
 refine fP ?_
 rw[show aB 6 [Aq js ds]=[some (.tup [.tup (js.map PV.str),.tup (ds.map eZ)]),none,none,none,none,none] from rfl]
 refine al fun N hN=>?_
 walk_at "x"
 refine BZ hP.toHG fun ph S1 hph X1 f1=>?_
 refine hN _ _ (al fun N hN=>?_)
 simp only[cm,cL,ah,v3,lk,c3,ag,jd]
 refine bU (fun done σ S'=>∃(x2 x3 x4 x5:Option PV),σ=[some (.tup [.tup (js.map PV.str),.tup (ds.map eZ)]),some (.ref ph),x2,x3,x4,x5]/\Ext S1 S') ⟨_,_,_,_,rfl,.refl⟩ (fun _ _ _ _=>trivial) ?_ ?_
 ·rintro done x rest σ S2 K e ⟨x2,x3,x4,x5,rfl,X2⟩ hK
  obtain⟨y,rfl,hy⟩:=dF e
  obtain⟨⟨z,t⟩,ht,rfl⟩:∃q,ds[done.length]?=some q/\eZ q=y:=by rw[HR]at hy;exact IK.mp hy
  have hm:(z,t)∈ds:=Ik ht
  have E7:t.zK+t.zO<=1000:=hP.pc _ hm
  have Gy:t.dep<=6:=hP.dp _ hm
  simp only[eZ,Tg.put,Tg.zN,List.set_cons_zero,List.set_cons_succ]
  refine al fun N2 A0=>?_
  simp only[au,ac,ao,v3,lk]
  refine BI hP ht fun hs p S3 hf hp X3 f3=>?_
  refine A0 _ _ (al fun N2 A0=>?_)
  simp only[bh,md,aS,ac,ao,v3,lk,List.set_cons_zero,List.set_cons_succ]
  have fh:=X3 _ _ (X2 _ _ f1)
  refine B1 Gy (by omega) (hP.gd _ hm) hP.jw (fun w hw=>hP.jw w (nl hP.toHG _ w hw)) fh fun q S4 hq X4 f4=>?_
  rw[s9 hf]at f4
  have GP:=X4 _ _ f3
  refine B2 (Cm.lists (L:=2) (n:=10) GP f4 (HX (t.zV _) (by omega)) (by decide) fun x hx=>(t.Bv _ x hx).mono (HF _) (by omega)) fun S5 X5=>?_
  have f5:=X5 _ _ GP
  simp only[II,aM,HU,Iu]
  refine A0 _ _ (al fun N2 A0=>?_)
  simp only[aU,d_,mn,ao,v3,lk,f5,Kd,f9]
  refine A0 _ _ ?_
  simp only[aU,d_,mn,ao,v3,lk,c3,aa,Kd,bm]
  refine⟨Ky (show(t.ps (mq hs)).reverse.length<=1000 by rw[Km];exact HX (t.zV _) (by omega)) (by decide),hK _ _ ⟨_,_,_,_,rfl,?_⟩⟩
  have hp1:S2 p=none:=hp
  exact((X2.trans (X3.trans (X4.trans X5))).put (X2.free hp)).put (X2.free hp)
 ·rintro σ S2 ⟨x2,x3,x4,x5,rfl,X2⟩
  refine hN _ _ ?_
  walk_at "x"
  exact k S2 (X1.trans X2)
abbrev tj(w:aC):Prop:=∀{ns:Vu} {S:aq} {Q:bQ} {E:cU},ns.length<=63->(∀S',Q (.bl true) S')->w [.cl (ns.map PV.int)] S Q E
def vQ{x0 x1 x2 x3:aC}(Ck:b8 x0)(BR:ly x1)(El:jm x2)(B4:g_ x3):tj (zS 3 (qQ x0 x1 x2 x3)):=by
 intro ns S Q E hl k
 unfold qQ
 refine fP ?_
 rw[show aB 3 [PV.cl (ns.map PV.int)]=[some (.cl (ns.map PV.int)),none,none] from rfl]
 refine al fun N hN=>?_
 walk_at "x"
 refine BR hl (by decide) (by decide) fun d l S1 _ _ D1 _=>?_
 refine Ck D1 fun js ds S2 hP=>?_
 refine hN _ _ (al fun N hN=>?_)
 walk_at "x"
 refine BR hl (by decide) (by decide) fun d l S3 _ _ D3 _=>?_
 refine Ck D3 fun DQ ds' S4 hP'=>?_
 refine hN _ _ ?_
 simp only[az,ap,ao,aH,aG,ah,ac,bu,v3,lk,List.set_cons_zero,List.set_cons_succ]
 refine El hP fun p hs S5 hp X5 f5 hl4 HA=>?_
 intro p2 hp2
 have n2:p≠p2:=fun h=>by rw[h,hp2]at f5;cases f5
 simp only[aP,aj n2,f5,aa]
 refine⟨bO (by rw[HD];simp;omega),fun p3 hp3=>?_⟩
 have f6:(zL (zL S5 p2 (.lst [Aq DQ ds',Aq js ds])) p3 (.lst (hs.map (Aq js)++[Aq DQ ds',Aq js ds]))) p3=some (.lst (hs.map (Aq js)++[Aq DQ ds',Aq js ds])):=aa
 generalize zL (zL S5 p2 (.lst [Aq DQ ds',Aq js ds])) p3 (.lst (hs.map (Aq js)++[Aq DQ ds',Aq js ds]))=S6 at f6
 simp only[bI,f6]
 have good:∀v∈hs.map (Aq js)++[Aq DQ ds',Aq js ds],∃j e,v=Aq j e/\HP j e:=by
  intro v hv
  rcases HN.mp hv with h|h
  ·obtain⟨e,he,rfl⟩:=Im.mp h;exact⟨js,e,rfl,HA e he⟩
  ·simp only[HL,Ic,IY]at h
   rcases h with rfl|rfl
   ·exact⟨_,_,rfl,hP'⟩
   ·exact⟨_,_,rfl,hP⟩
 have hlen:(hs.map (Aq js)++[Aq DQ ds',Aq js ds]).length<=6:=by rw[HC,HD];simp;omega
 generalize hs.map (Aq js)++[Aq DQ ds',Aq js ds]=vs at f6 good hlen
 refine cP (fun done ys S'=>Ext S6 S'/\done.length<=vs.length/\ys=List.replicate done.length (.bl true)) ⟨.refl,Il _,rfl⟩ (fun done ys S' ⟨X,l,e⟩=>⟨X _ _ f6,bO (by rw[e,ID];omega)⟩) ?_ ?_
 ·rintro done x rest ys S' K e ⟨X,l,rfl⟩ hK
  obtain⟨j,ee,rfl,hg⟩:=good x (by rw[e];simp)
  simp only[Tg.put,dI,List.reduceReplicate,Je,Ip,List.set_cons_zero,bp,II,ac,ao,v3,lk]
  refine B4 hg fun S7 X7=>hK _ _ ⟨X.trans X7,?_,?_⟩
  ·have:vs.length=done.length+(rest.length+1):=by rw[e,HC,HW]
   rw[HC,HZ];omega
  ·rw[HC,HZ,List.replicate_succ']
 ·rintro ys S' ⟨X,_,rfl⟩ q hq
  simp only[mj,aa,j7]
  rw[show(List.replicate vs.length true).all id=true by simp]
  exact k _
def eV:bA w__law_draw:=zM
def xD:kI fN:=CD
def nv:eX cC:=Bg eV
def qR:gi eR:=Bz eV xD
def qS:gj bP:=Av eV qR
def tm:gX bP:=qO eV qR
theorem qT:∀n,gk n (cZ n)
 |0=>fun _ _ _ _ _ _ _ h0 h1 _=>by omega
 |n+1=>Ca eV qS n (qT n)
theorem lK:∀n,b7 n (br n)
 |0=>fun h _ _=>absurd h (by have:=Bd.Am;exact JO.mpr (this _))
 |n+1=>oF n (lK n)
def lL:b7 12 bt:=lK 12
theorem lM:∀n,n<=12->dR n (bn n)
 |0,_=>fun h _ _=>absurd h (by have:=Bd.Am;exact JO.mpr (this _))
 |n+1,hn=>oG n 12 lL (lM n (by omega)) (by omega)
def yY:dS b_:=kJ 12 (by decide) (qT 12) lL (lM 12 (by decide)) qS
def tq:eN dY:=mE nv eV yY
def tt:b8 dZ:=B3 nv eV tm
def xE:b8 cg:=Ck eV tt tq
theorem xF:∀n,kN n (bX n)
 |0=>fun h _ _ _ _=>absurd h (by have:=Bd.Am;exact JO.mpr (this _))
 |n+1=>Dj n (xF n)
def xG:jm fO:=sZ fun h g a b c=>xF 12 (HX h (by decide)) g a b c
theorem nw:∀n,cH n (cE n)
 |0=>fun h _=>by cases h
 |n+1=>B2 n (nw n)
theorem ny:∀n,bW n (ck n)
 |0=>fun h _ _ _ _ _ _=>absurd h (by have:=Bd.Am;exact JO.mpr (this _))
 |n+1=>B1 n (ny n)
theorem qU:∀n,e9 n (c_ n)
 |0=>fun h _ _ _ _ _ _ _ _=>absurd h (by have:=Bd.Am;exact JO.mpr (this _))
 |n+1=>qK n (qU n)
def tw:gV cv:=BZ fun h a b c e f g i j=>qU 12 (HX h (by decide)) a b c e f g i j
def nz:e7 dW:=Bh
theorem nA:∀n,cX n (dX n)
 |0=>fun h _ _=>absurd h (by have:=Bd.Am;exact JO.mpr (this _))
 |n+1=>BY nz n (nA n)
def qV:gU 12 kO:=oI 12 (nA 12)
theorem nB:∀n,e8 n (ci n)
 |0=>fun h _=>absurd h (by have:=Bd.Am;exact JO.mpr (this _))
 |n+1=>qH n (nB n)
theorem tZ:∀n,n<=12->gq n (cj n)
 |0,_=>fun h _ _ _=>absurd h (by have:=Bd.Am;exact JO.mpr (this _))
 |n+1,hn=>sV n 12 (by omega) qV (nB 12) (tZ n (by omega))
theorem xH:∀n,kM n (bK n)
 |0=>fun h _ _ _ _ _ _=>absurd h (by have:=Bd.Am;exact JO.mpr (this _))
 |n+1=>Dg nz n (xH n)
def vR:jk eP:=Cb (fun h a b c d e f=>xH 12 (HX h (by decide)) a b c d e f) (fun h a b c=>tZ 12 (by decide) (HX h (by decide)) a b c)
def mG:dU fM:=lB (Bu vR)
theorem qW:∀n,bW ((n+1) / 2) (eQ n)/\gW (n / 2) (b9 n)
 |0=>⟨fun h _ _ _ _ _ _=>absurd h (by have:=Bd.Am;exact JO.mpr (this _)),fun h _ _ _ _ _ _ _=>absurd h (by have:=Bd.Am;exact JO.mpr (this _))⟩
 |n+1=>by
  obtain⟨a,b⟩:=qW n
  refine⟨?_,?_⟩
  ·rw[show(n+1+1) / 2=n / 2+1 by omega]
   exact fun{S t js us hs nm Q E} h1 h2 h3 h4 h5 h6 h7=>Cd (n / 2) b (fun g1 g2 g3 g4 g5 g6 g7=>a (HX g1 (by omega)) g2 g3 g4 g5 g6 g7) (S:=S) (t:=t) (js:=js) (us:=us) (hs:=hs) (nm:=nm) (Q:=Q) (E:=E) h1 h2 h3 h4 h5 h6 h7
  ·exact fun{S x y js us hs nm Q E} h1 h2 h3 h4 h5 h6 h7 h8=>qM (s0:=b9 n) ((n+1) / 2) a (S:=S) (a:=x) (b:=y) (js:=js) (us:=us) (hs:=hs) (nm:=nm) (Q:=Q) (E:=E) h1 h2 h3 h4 h5 h6 h7 h8
def qX:fL jq:=BI (qW 12).1 mG
def tD:g_ d3:=B4 tw qX (nw 12) fun h a b c d e f=>ny 12 (HX h (by decide)) a b c d e f
def qY:∀ns:List Int,ns.length<=63->lJ [.cl (ns.map PV.int)] (fun _=>none) (fun v _=>v = .bl true) dC:=fun ns h=>vQ xE BR xG tD h fun _=>rfl
end G30
namespace L3
open PySem L2 Xc
def mH{P:List Value->Prop}(h:∀a,P [a])(us:Vv)(hl:us.length=1):P us:=match us,hl with|[_],_=>h _
def oP{P:List Value->Prop}(h:∀a b,P [a,b])(us:Vv)(hl:us.length=2):P us:=match us,hl with|[_,_],_=>h _ _
def yZ{P:List Value->Prop}(h:∀a b c,P [a,b,c])(us:Vv)(hl:us.length=3):P us:=match us,hl with|[_,_,_],_=>h _ _ _
def y3{P:List Value->Prop}(h:∀a b c d,P [a,b,c,d])(us:Vv)(hl:us.length=4):P us:=match us,hl with|[_,_,_,_],_=>h _ _ _ _
section
variable {K:Vo} {h:Heap} {mg:Vr} {x c m q:Str} {st:Stmt} {ps fl:Vs}
noncomputable def tE:Option (Option Value)->Bool
 |some none=>true
 |_=>false
def tF{o:Option (Option Value)}(h:tE o=true):o=some none:=by
 unfold tE at h;split at h
 ·rfl
 ·cases h
def FnAt(K:Vo)(f:Addr)(m q:Str)(st:Stmt):Prop:=∃(oc kV doc pm cdv ct:Value) (od an:Option Addr) (osl:Array (Option Value)),
 K.lookup f=some ⟨oc,od,.func (PySem.W.fnOf m q (bB st) (aW st) (ax st) .none kV doc pm an cdv ct),osl⟩/\PySem.W.codeIn K cdv q=true/\PySem.W.keepIn K (.ref f)=true
abbrev qZ(m q:Str)(st:Stmt)(ps:Vs):Prop:=∀(kV doc pm:Value) (an:Option Addr) (cdv ct:Value) (us:Vv),us.length=ps.length->bindArgs (PySem.W.fnOf m q (bB st) (aW st) (ax st) .none kV doc pm an cdv ct) ⟨us,[]⟩=pure (ps.zip us)
def FnAt.mk{f:Addr}(a:FnAt K f m q st)(hb:qZ m q st ps):∃fd,DH K m q st f fd/\Binds K fd ps []/\PySem.W.keepIn K (.ref f)=true:=by
 obtain⟨oc,kV,doc,pm,cdv,ct,od,an,osl,l,cc,k⟩:=a
 exact⟨_,km l cc k,(km l cc k).binds hb,k⟩
def Bc(K:Vo)(x:Str)(st:Stmt):Prop:=∃f,PySem.W.nsIn K mainGlobals x=some (some (.ref f))/\FnAt K f x x st
def Bc.own(X:K.In h)(G:h.Ns mainGlobals mg)(a:Bc K x st)(hb:qZ x x st ps):bz K mg x st ps:=by
 obtain⟨f,n,a⟩:=a
 obtain⟨fd,F,b,k⟩:=a.mk hb
 exact⟨f,fd,F,b,k,Lo X G n⟩
def Bc.law{fa:Addr}(X:K.In h)(G:h.Ns mainGlobals mg)(a:Bc K x st)(hfa:mg x=some (.ref fa))(hb:qZ x x st ps):∃kV doc pm an cdv ct,xV K mg x st ps fa (PySem.W.fnOf x x (bB st) (aW st) (ax st) .none kV doc pm an cdv ct):=by
 obtain⟨f,n,oc,kV,doc,pm,cdv,ct,od,an,osl,l,cc,k⟩:=a
 cases hfa.symm.trans (Lo X G n)
 exact⟨kV,doc,pm,an,cdv,ct,km l cc k,(km l cc k).binds hb,k,hfa⟩
def E_(P:Program)(w:World)(K:Vo)(x:Str)(kvs:List (a_×V)):Prop:=∃a o,PySem.W.nsIn K mainGlobals x=some (some (.ref a))/\K.lookup a=some o/\(a == sysModules)=false/\∃vs,KV kvs vs/\Obj.IsDictOf (aN P w) o vs
def E_.kd{P:Program}{w:World}{kvs:List (a_×V)}(X:K.In h)(G:h.Ns mainGlobals mg)(a:E_ P w K x kvs):∃a,mg x=some (.ref a)/\KD P w K a kvs:=by
 obtain⟨a,o,n,l,s,vs,h1,h2⟩:=a
 exact⟨a,Lo X G n,s,o,vs,l,h1,h2⟩
def ju(X:K.In h)(G:h.Ns mainGlobals mg){l:Vs}(a:(l.all fun x=>tE (PySem.W.nsIn K mainGlobals x))=true)(hx:x∈l:=by decide):mg x=none:=PySem.W.mg_none_of X G (tF (KW.mp a x hx))
section
variable {f C:Addr} {oc kV doc pm cdv ct:Value} {od an:Option Addr} {osl:Array (Option Value)}
def zG(n:PySem.W.nsIn K mainGlobals x=some (some (.ref f)))(l:K.lookup f=some ⟨oc,od,.func (PySem.W.fnOf x x (bB st) (aW st) (ax st) .none kV doc pm an cdv ct),osl⟩)(cc:PySem.W.codeIn K cdv x=true)(k:PySem.W.keepIn K (.ref f)=true):Bc K x st:=⟨f,n,oc,kV,doc,pm,cdv,ct,od,an,osl,l,cc,k⟩
def zH{P:Program}{w:World}{kvs:List (a_×V)}{o:Obj}(n:PySem.W.nsIn K mainGlobals x=some (some (.ref f)))(l:K.lookup f=some o)(s:(f == sysModules)=false)(v:∃vs,KV kvs vs/\Obj.IsDictOf (aN P w) o vs):E_ P w K x kvs:=⟨f,o,n,l,s,v⟩
end
end
section
variable {K:Vo} {h:Heap} {mg:Vr} {x:Str} {st:Stmt} {ps:Vs}
def Fa(K:Vo)(x:Str)(st:Stmt):Prop:=∃(f T:Addr) (oc kV doc pm cdv ct:Value) (od an:Option Addr) (osl:Array (Option Value)) (oT:Obj) (nT:Nat),PySem.W.nsIn K mainGlobals x=some (some (.ref f))/\
 K.lookup f=some ⟨oc,od,.func (PySem.W.fnOf x x (bB st) (aW st) (ax st) (.ref T) kV doc pm an cdv ct),osl⟩/\PySem.W.codeIn K cdv x=true/\PySem.W.keepIn K (.ref f)=true/\K.lookup T=some oT/\oT.data = .seq #[.bool true] nT
abbrev t4(x:Str)(st:Stmt)(ps:Vs):Prop:=∀(s:Shared) (T:Addr) (oT:Obj) (nT:Nat) (kV doc pm cdv ct:Value) (an:Option Addr) (us:Vv),oT.data = .seq #[.bool true] nT->us.length=ps.length->s.heap.get? T=some oT->BindsTo s (PySem.W.fnOf x x (bB st) (aW st) (ax st) (.ref T) kV doc pm an cdv ct) ⟨us,[]⟩ (ps.zip us)
abbrev t5(x:Str)(st:Stmt)(ps:Vs):Prop:=∀(s:Shared) (T:Addr) (oT:Obj) (nT:Nat) (kV doc pm cdv ct:Value) (an:Option Addr) (us:Vv),oT.data = .seq #[.bool true] nT->us.length+1=ps.length->s.heap.get? T=some oT->BindsTo s (PySem.W.fnOf x x (bB st) (aW st) (ax st) (.ref T) kV doc pm an cdv ct) ⟨us,[]⟩ (ps.zip (us++[.bool true]))
def Fa.own(X:K.In h)(G:h.Ns mainGlobals mg)(a:Fa K x st)(hb:t4 x st ps)(hd:t5 x st ps):lv K mg x st ps:=by
 obtain⟨f,T,oc,kV,doc,pm,cdv,ct,od,an,osl,oT,nT,n,l,c,k,lT,sT⟩:=a
 exact⟨T,f,_,⟨⟨oc,od,kV,doc,pm,an,cdv,ct,osl,rfl,l,c⟩,k⟩,fun s us KI hl=>by rw[Ip]at hl ⊢;exact hb _ _ _ _ _ _ _ _ _ _ us sT hl (KI T oT lT),fun s us KI hl=>hd _ _ _ _ _ _ _ _ _ _ us sT (by rw[HC]at hl;exact hl) (KI T oT lT),k,Lo X G n⟩
def zI{f T:Addr}{oc kV doc pm cdv ct:Value}{od an:Option Addr}{osl:Array (Option Value)}{oT:Obj}{nT:Nat}(n:PySem.W.nsIn K mainGlobals x=some (some (.ref f)))(l:K.lookup f=some ⟨oc,od,.func (PySem.W.fnOf x x (bB st) (aW st) (ax st) (.ref T) kV doc pm an cdv ct),osl⟩)(c:PySem.W.codeIn K cdv x=true)(k:PySem.W.keepIn K (.ref f)=true)
  (lT:K.lookup T=some oT) (sT:oT.data = .seq #[.bool true] nT):Fa K x st:=⟨f,T,oc,kV,doc,pm,cdv,ct,od,an,osl,oT,nT,n,l,c,k,lT,sT⟩
end
end L3
namespace G30
open PySem L2 L3
def hG:t4 "parts_reached" (bG 9) ["body","names","reached"]:=fun _ _ _ _ _ _ _ _ _ _ us sT hl hT=>yZ (P:=fun us=>BindsTo _ _ ⟨us,[]⟩ ((["body","names","reached"]:Vs).zip us)) (fun _ _ _=>by refine BindsTo.of_defaults rfl hT sT rfl ?_;rfl) us hl
def hU:t5 "parts_reached" (bG 9) ["body","names","reached"]:=fun _ _ _ _ _ _ _ _ _ _ us sT hl hT=>oP (P:=fun us=>BindsTo _ _ ⟨us,[]⟩ ((["body","names","reached"]:Vs).zip (us++[.bool true]))) (fun _ _=>by refine BindsTo.of_defaults rfl hT sT rfl ?_;rfl) us (Nat.succ.inj hl)
def vS{l:PySem.W.OpenLaw}{w:World}{K:Vo}{h:Heap}{mg:Vr}{fa:Addr}(X:K.In h)(G:h.Ns mainGlobals mg)(hfa:mg "law" = some (.ref fa))
  (A7:Bc K "sides_of" (bG 2))
  (A8:Bc K "parts_in" (bG 3))
  (BJ:Bc K "parts" (bG 4))
  (Az:Bc K "plain_trace" (bG 6))
  (AA:Bc K "led_to_part" (bG 7))
  (Ao:Fa K "parts_reached" (bG 9))
  (AS:Bc K "next_step" (bG 10))
  (Bi:Bc K "filling" (bG 11))
  (A9:Bc K "fillable" (bG 12))
  (Af:Bc K "passes_of_then" (bG 14))
  (AT:Bc K "passes_of" (bG 15))
  (Bw:Bc K "passes" (bG 16))
  (AU:Bc K "_law_deal" (bG 18))
  (AV:Bc K "_law_draw" (bG 19))
  (AG:Bc K "_law_words" (bG 20))
  (A_:Bc K "_law_low" (bG 21))
  (AW:Bc K "_law_cost" (bG 22))
  (AX:Bc K "_law_leaf" (bG 23))
  (AY:Bc K "_law_body" (bG 24))
  (Ab:Bc K "_law_pass_count" (bG 25))
  (z0:Bc K "_law_round_count" (bG 26))
  (Ag:Bc K "_law_deed_body" (bG 27))
  (AH:Bc K "_law_house" (bG 28))
  (AZ:Bc K "_law_puts" (bG 29))
  (Ap:Bc K "_law_fillable" (bG 30))
  (AI:Bc K "_law_alike" (bG 31))
  (AB:Bc K "_law_passes" (bG 32))
  (AJ:Bc K "_law_chain" (bG 33))
  (Ah:Bc K "_law_any_house" (bG 34))
  (At:Bc K "_law_swapped" (bG 35))
  (Ba:Bc K "_law_kin" (bG 36))
  (AK:Bc K "_law_right" (bG 37))
  (AL:E_ l.prog w K "SIDES_FROM" (C.k_SIDES_FROM.map fun kv=>(kv.1,V.int kv.2)))
  (C3:((["all","bool","enumerate","isinstance","len","list","max","range","reversed","tuple","zip"]:Vs).all fun x=>tE (PySem.W.nsIn K mainGlobals x))=true)
  (Dn:Bc K "law" (bG 38))
  : ∃fd:FuncData,(∀(s:Shared) (v:Value),BindsTo s fd ⟨[v],[]⟩ [("_law_script",v)])/\∀base:Heap,K.In base->base.Ns mainGlobals mg->jx l.prog w K mg base q_ 32 fa fd ["_law_script"] (xa K 1 lJ):=by
 obtain⟨kV,doc,pm,an,cdv,ct,O⟩:=Dn.law X G hfa (ps:=["_law_script"]) (fun _ _ _ _ _ _=>mH fun _=>rfl)
 exact⟨_,fun s v=>.of_eq rfl,fun base _ _=>(vP (P:=l.prog) (w:=w) (base:=base) ⟨A7.own X G (fun _ _ _ _ _ _=>mH fun _=>rfl),
  A8.own X G (fun _ _ _ _ _ _=>mH fun _=>rfl),
  BJ.own X G (fun _ _ _ _ _ _=>mH fun _=>rfl),
  Az.own X G (fun _ _ _ _ _ _=>mH fun _=>rfl),
  AA.own X G (fun _ _ _ _ _ _=>yZ fun _ _ _=>rfl),
  Ao.own X G hG hU,
  AS.own X G (fun _ _ _ _ _ _=>oP fun _ _=>rfl),
  Bi.own X G (fun _ _ _ _ _ _=>mH fun _=>rfl),
  A9.own X G (fun _ _ _ _ _ _=>mH fun _=>rfl),
  Af.own X G (fun _ _ _ _ _ _=>oP fun _ _=>rfl),
  AT.own X G (fun _ _ _ _ _ _=>oP fun _ _=>rfl),
  Bw.own X G (fun _ _ _ _ _ _=>oP fun _ _=>rfl),
  AU.own X G (fun _ _ _ _ _ _=>oP fun _ _=>rfl),
  AV.own X G (fun _ _ _ _ _ _=>oP fun _ _=>rfl),
  AG.own X G (fun _ _ _ _ _ _=>oP fun _ _=>rfl),
  A_.own X G (fun _ _ _ _ _ _=>oP fun _ _=>rfl),
  AW.own X G (fun _ _ _ _ _ _=>mH fun _=>rfl),
  AX.own X G (fun _ _ _ _ _ _=>oP fun _ _=>rfl),
  AY.own X G (fun _ _ _ _ _ _=>y3 fun _ _ _ _=>rfl),
  Ab.own X G (fun _ _ _ _ _ _=>mH fun _=>rfl),
  z0.own X G (fun _ _ _ _ _ _=>mH fun _=>rfl),
  Ag.own X G (fun _ _ _ _ _ _=>y3 fun _ _ _ _=>rfl),
  AH.own X G (fun _ _ _ _ _ _=>y3 fun _ _ _ _=>rfl),
  AZ.own X G (fun _ _ _ _ _ _=>yZ fun _ _ _=>rfl),
  Ap.own X G (fun _ _ _ _ _ _=>mH fun _=>rfl),
  AI.own X G (fun _ _ _ _ _ _=>oP fun _ _=>rfl),
  AB.own X G (fun _ _ _ _ _ _=>oP fun _ _=>rfl),
  AJ.own X G (fun _ _ _ _ _ _=>mH fun _=>rfl),
  Ah.own X G (fun _ _ _ _ _ _=>mH fun _=>rfl),
  At.own X G (fun _ _ _ _ _ _=>oP fun _ _=>rfl),
  Ba.own X G (fun _ _ _ _ _ _=>mH fun _=>rfl),
  AK.own X G (fun _ _ _ _ _ _=>mH fun _=>rfl),
  ju (x:="all") X G C3,
  ju (x:="bool") X G C3,
  ju (x:="enumerate") X G C3,
  ju (x:="isinstance") X G C3,
  ju (x:="len") X G C3,
  ju (x:="list") X G C3,
  ju (x:="max") X G C3,
  ju (x:="range") X G C3,
  ju (x:="reversed") X G C3,
  ju (x:="tuple") X G C3,
  ju (x:="zip") X G C3,
  AL.kd X G⟩ O).ok⟩
def y7{l:PySem.W.OpenLaw}{q:Program}{loose:Vs}{XP:(Vr)->Heap->Prop}{YP:World->Heap->Prop}{d:DefRec}{K:Params->PySem.W.Frag}(hn:l.most=some 63)(hdf:d.params.defaults=[])
  (hY:∀(w:World) (h:Heap),YP w h->(K w.params).In h)
  (F:∀(w:World) (mg:Vr) (fa:Addr) (h:Heap),(K w.params).In h->h.Ns mainGlobals mg->mg d.name=some (.ref fa)->
   ∃fd:FuncData,(∀(s:Shared) (u:Value),BindsTo s fd ⟨[u],[]⟩ [("_law_script",u)])/\∀base:Heap,(K w.params).In base->base.Ns mainGlobals mg->jx l.prog w (K w.params) mg base q_ 32 fa fd ["_law_script"] (xa (K w.params) 1 lJ)) :
  PySem.W.WalkO q loose XP YP l.row.toRowW d [] (fun f vs=>PySem.call f vs):=
 L2.r9 (n:=63) (k:=32) (x:="_law_script") (CX:=fun _=>q_) (sp:=fun w=>xa (K w.params) 1 lJ) hn (by decide) hdf ⟨rfl,by decide,by decide,rfl⟩ hY F (fun _ _ a ns hl hO hS=>yM hO hS (qY ns hl)) fun _ _ _ _ _ z=>z
end G30
local macro_rules | `(tactic| walk_at "k")=>`(tactic| (apply L3.zG; k_is; k_is; k_is; k_is))
local macro_rules | `(tactic| walk_at "d")=>`(tactic| (apply L3.zI; k_is; k_is; k_is; k_is; k_is; rfl))
open PySem PySem.W PyProof.Rows
set_option maxRecDepth 100000 in
set_option maxHeartbeats 0 in
theorem PySem.Challenge.cw_dueworth_k30_passes_in_order_holds : PySem.Challenge.rw_dueworth_k30_passes_in_order.Holds := by
 w_on; refine holds_law E30.said fun said => ?_
 refine holds_open (q := E30.vw) (loose := ["SIDES_FROM", "parts_reached"]) (Xt := fun s => (xlAt E30.vw [] s && recOk (RowW.records E30.rr) s)) (XP := XL E30.vw []) (N := 2328)
  (Yf := Hook.obs E30.hk) (Ya := Hook.val E30.hk) (YP := Hook.says (kHook E30.early.heap_1 E30.as E30.y8)) E30.left (Hook.of E30.hk) (Hook.keeps E30.hk) (fun s e => xl_of s (J5.mp e).1)
  XL.keeps rfl rfl rfl (fun s e => recFacts_of (J5.mp e).2) rfl (by assumption)
  (by decide +kernel) ⟨rfl, rfl, rfl, rfl, rfl, by decide +kernel⟩ ?hw ?hc
 (case hw => w_witness2)
 k_fill
 refine G30.y7 (l := PySem.Challenge.rw_dueworth_k30_passes_in_order) rfl rfl (fun w h Y => PySem.W.kIn_of Y) ?F
 case F =>
  intro w mg fa h KX G hmg
  refine' G30.vS KX G hmg ?A7 ?A8 ?BJ ?Az ?AA ?Ao ?AS ?Bi ?A9 ?Af ?AT ?Bw ?AU ?AV ?AG ?A_ ?AW ?AX ?AY ?Ab ?z0 ?Ag ?AH ?AZ ?Ap ?AI ?AB ?AJ ?Ah ?At ?Ba ?AK ?AL ?C3 ?Dn
  (case A7 => walk_at "k")
  (case A8 => walk_at "k")
  (case BJ => walk_at "k")
  (case Az => walk_at "k")
  (case AA => walk_at "k")
  (case Ao => walk_at "d")
  (case AS => walk_at "k")
  (case Bi => walk_at "k")
  (case A9 => walk_at "k")
  (case Af => walk_at "k")
  (case AT => walk_at "k")
  (case Bw => walk_at "k")
  (case AU => walk_at "k")
  (case AV => walk_at "k")
  (case AG => walk_at "k")
  (case A_ => walk_at "k")
  (case AW => walk_at "k")
  (case AX => walk_at "k")
  (case AY => walk_at "k")
  (case Ab => walk_at "k")
  (case z0 => walk_at "k")
  (case Ag => walk_at "k")
  (case AH => walk_at "k")
  (case AZ => walk_at "k")
  (case Ap => walk_at "k")
  (case AI => walk_at "k")
  (case AB => walk_at "k")
  (case AJ => walk_at "k")
  (case Ah => walk_at "k")
  (case At => walk_at "k")
  (case Ba => walk_at "k")
  (case AK => walk_at "k")
  (case AL => apply L3.zH; k_is; k_is; rfl; exact L2.u8 _ w [("then", 1, _, _), ("either", 1, _, _), ("take", 3, _, _), ("often", 1, _, _)] _ (by decide +kernel))
  (case C3 => kernel_rfl)
  (case Dn => walk_at "k")
#print axioms PySem.Challenge.cw_dueworth_k30_passes_in_order_holds
